import PyProof.Rows.All
import Wide.All
import OpenK.AllK
import Wide.FinOn
import Lean
import PyProof.EqAt
import PyProof.EqKinds
import PyProof.TupleCall
import PySem.Challenge.RW_stepgrove_k12_ties
set_option Elab.async false
set_option linter.all false
set_option maxRecDepth 100000
/-! THE HAND LAYER, for ints, bools, texts, own classes, LISTS and tuples (index, slices, in, append, pop ..), calls, loops. Paste it whole ahead of your own text; what your proof does not reach may be deleted. -/
namespace L2
open PySem PySem.Spec PyProof.Rows

/-- a key: an int or a str -/
abbrev Key := Sum Int Str
def keyIs : Key → Value → Bool
  | .inl k, v => Value.isInt k v
  | .inr x, v => Value.isStrOf x v
def keyH (w : World) : Key → Int
  | .inl k => hashInt k
  | .inr x => hashStr w x
theorem keyIs_shape : ∀ {k : Key} {v : Value}, keyIs k v = true → (∃ i t, k = Sum.inl i ∧ v = Value.int i t) ∨ (∃ x t, k = Sum.inr x ∧ v = Value.str x t)
  | .inl i, v, h => by
    obtain ⟨t, e⟩ := Value.isInt_shape (k := i) (v := v) h
    exact .inl ⟨i, t, rfl, e⟩
  | .inr x, v, h => by
    obtain ⟨t, e⟩ := Value.isStrOf_shape (x := x) (v := v) h
    exact .inr ⟨x, t, rfl, e⟩
theorem keyIs_int (i : Int) (t : Tok) : keyIs (.inl i) (.int i t) = true := by simp [keyIs, Value.isInt]
theorem keyIs_str (x : Str) (t : Tok) : keyIs (.inr x) (.str x t) = true := by simp [keyIs, Value.isStrOf]
theorem key_ll (a b : Int) : decide ((Sum.inl a : Key) = Sum.inl b) = (a == b) := by
  by_cases e : a = b
  · subst e; simp
  · have h : ¬ (Sum.inl a : Key) = Sum.inl b := fun q => e (Sum.inl.inj q)
    rw [decide_eq_false h]
    exact (beq_eq_false_iff_ne.mpr e).symm
theorem key_rr (a b : Str) : decide ((Sum.inr a : Key) = Sum.inr b) = decide (a = b) := by
  by_cases e : a = b
  · subst e; simp
  · have h : ¬ (Sum.inr a : Key) = Sum.inr b := fun q => e (Sum.inr.inj q)
    rw [decide_eq_false h, decide_eq_false e]
theorem key_lr (a : Int) (b : Str) : decide ((Sum.inl a : Key) = Sum.inr b) = false := decide_eq_false (fun q => nomatch q)
theorem key_rl (a : Str) (b : Int) : decide ((Sum.inr a : Key) = Sum.inl b) = false := decide_eq_false (fun q => nomatch q)

def mixKind (prog : Program) (w : World) : PySem.KeyKind prog w Key where
  is := keyIs
  hash := keyH w
  inj := fun v a b ha hb => by
    rcases keyIs_shape ha with ⟨i, t, rfl, rfl⟩ | ⟨x, t, rfl, rfl⟩
    · rcases keyIs_shape hb with ⟨j, u, rfl, e⟩ | ⟨y, u, rfl, e⟩
      · injection e with e1 _; rw [e1]
      · exact nomatch e
    · rcases keyIs_shape hb with ⟨j, u, rfl, e⟩ | ⟨y, u, rfl, e⟩
      · exact nomatch e
      · injection e with e1 _; rw [e1]
  byValue := fun k v h => by
    rcases keyIs_shape h with ⟨i, t, rfl, rfl⟩ | ⟨x, t, rfl, rfl⟩ <;> rfl
  pyHash := fun hv h => by
    rcases keyIs_shape hv with ⟨i, t, rfl, rfl⟩ | ⟨x, t, rfl, rfl⟩
    · exact wpAny_pyHash_int h
    · exact wpAny_pyHash_str h
  eqBool := fun hu hv h => by
    rcases keyIs_shape hu with ⟨i, t, rfl, rfl⟩ | ⟨x, t, rfl, rfl⟩
    · rcases keyIs_shape hv with ⟨j, u, rfl, rfl⟩ | ⟨y, u, rfl, rfl⟩
      · rw [key_ll] at h; exact wpAny_eqBool_int h
      · rw [key_lr] at h; exact SeqAt.EqAt.int_str i t y u _ _ _ _ h
    · rcases keyIs_shape hv with ⟨j, u, rfl, rfl⟩ | ⟨y, u, rfl, rfl⟩
      · rw [key_rl] at h; exact SeqAt.EqAt.str_int x t j u _ _ _ _ h
      · rw [key_rr] at h; exact wpAny_eqBool_str h
  «strs» := fun k x t v h => by
    rcases keyIs_shape h with ⟨i, u, rfl, e⟩ | ⟨y, u, rfl, e⟩
    · exact nomatch e
    · injection e with e1 _
      subst e1
      cases v <;> rfl

theorem mixKind_is (prog : Program) (w : World) (k : Key) (v : Value) : (mixKind prog w).is k v = keyIs k v := rfl
theorem mixKind_int (prog : Program) (w : World) (i : Int) (t : Tok) : (mixKind prog w).is (.inl i) (.int i t) = true := keyIs_int i t
theorem mixKind_str (prog : Program) (w : World) (x : Str) (t : Tok) : (mixKind prog w).is (.inr x) (.str x t) = true := keyIs_str x t
end L2

namespace L2
open PySem PySem.Spec PyProof.Rows

/-- a value, without the heap -/
inductive V where
  | non | bl (b : Bool) | int (i : Int) | str (x : Str) | byt (b : Array UInt8) | flt (b : UInt64) | ref (a : Addr) | ty (n : String)
  deriving DecidableEq

def RelV : V → Value → Prop
  | .non, u => u = Value.none
  | .bl b, u => u = Value.bool b
  | .int i, u => ∃ t, u = Value.int i t
  | .str x, u => ∃ t, u = Value.str x t
  | .byt b, u => ∃ t, u = Value.bytes b t
  | .flt b, u => ∃ t, u = Value.float b t
  | .ref a, u => u = Value.ref a
  | .ty n, u => u = Value.type n

abbrev Vals : List V → List Value → Prop := Paired RelV
theorem Vals.length {xs : List V} {us : List Value} (r : Vals xs us) : xs.length = us.length := Paired.length r
theorem Vals.get : ∀ {xs : List V} {us : List Value} {i : Nat} {x : V}, Vals xs us → xs[i]? = some x → ∃ u, us[i]? = some u ∧ RelV x u
  | _, _, _, _, .nil, e => by simp at e
  | _, _, 0, _, .cons r _, e => by simp at e; subst e; exact ⟨_, rfl, r⟩
  | _, _, i + 1, x, .cons _ t, e => by
    obtain ⟨u, h1, h2⟩ := Vals.get (i := i) (x := x) t (by simpa using e)
    exact ⟨u, by simpa using h1, h2⟩
theorem Vals.set {x : V} {u : Value} (r : RelV x u) : ∀ {xs : List V} {us : List Value} (i : Nat), Vals xs us → Vals (xs.set i x) (us.set i u)
  | _, _, _, .nil => .nil
  | _, _, 0, .cons _ t => .cons r t
  | _, _, i + 1, .cons q t => .cons q (Vals.set r i t)
theorem Vals.append : ∀ {xs ys : List V} {us ws : List Value}, Vals xs us → Vals ys ws → Vals (xs ++ ys) (us ++ ws)
  | _, _, _, _, .nil, s => s
  | _, _, _, _, .cons r t, s => .cons r (Vals.append t s)
theorem Vals.take : ∀ {xs : List V} {us : List Value} (n : Nat), Vals xs us → Vals (xs.take n) (us.take n)
  | _, _, 0, _ => .nil
  | _, _, _ + 1, .nil => .nil
  | _, _, n + 1, .cons r t => .cons r (Vals.take n t)
theorem Vals.drop : ∀ {xs : List V} {us : List Value} (n : Nat), Vals xs us → Vals (xs.drop n) (us.drop n)
  | _, _, 0, r => r
  | _, _, _ + 1, .nil => .nil
  | _, _, n + 1, .cons _ t => Vals.drop n t
theorem Vals.none_of : ∀ {xs : List V} {us : List Value} {i : Nat}, Vals xs us → xs[i]? = none → us[i]? = none := fun {xs us i} r e => by
  have h1 := r.length
  have h2 : xs.length ≤ i := List.getElem?_eq_none_iff.mp e
  exact List.getElem?_eq_none_iff.mpr (by omega)

def RelO : Option V → Option Value → Prop
  | some v, some u => RelV v u
  | none, none => True
  | _, _ => False
def KV {κ : Type} : List (κ × V) → List (κ × Value) → Prop := Paired fun (p : κ × V) (q : κ × Value) => p.1 = q.1 ∧ RelV p.2 q.2

/-- a key of a dict (00_mix): an int or a text -/
def kV : Key → V
  | .inl i => .int i
  | .inr x => .str x

/-- what stands at a tracked address -/
inductive HO where
  /-- a list -/
  | lst (xs : List V)
  /-- a tuple (never changes) -/
  | tup (xs : List V)
  /-- a dict whose keys are ints and texts; one whose keys are tuples of ints and texts (the empty one is both) -/
  | dK (kvs : List (Key × V)) | dT (kvs : List (List Key × V))
  /-- a set of ints: its members, its size -/
  | set (S : Int → Bool) (n : Nat)
  /-- an instance of the class at C, its dict at dx, its attributes -/
  | ins (C dx : Addr) (fs : List (Str × V))
  /-- the dict of the instance at x -/
  | own (x : Addr)
  /-- the dict of an exception -/
  | xd (fs : List (Str × V))
  /-- a bound method, f of x -/
  | met (f x : Addr)
  /-- a range object lo, lo + 1, .. below hi -/
  | rng (lo hi : Int)
  /-- a thing that is known to the object (the script; a dict while a loop walks it): read, never written while it is so -/
  | frz (o : Obj) (u : HO)
  /-- a code object's table -/
  | tbl (ps : Array Value)
  /-- any other thing, by what is true of its one object (a def of one's own: SetO a S n := HO.ext fun h => ..) -/
  | ext (φ : Heap → Prop)

abbrev Hp := Addr → Option HO
def upd (H : Hp) (a : Addr) (o : HO) : Hp := fun b => if b = a then some o else H b
theorem upd_same {H : Hp} {a : Addr} {o : HO} : upd H a o a = some o := by unfold upd; rw [if_pos rfl]
theorem upd_ne {H : Hp} {a b : Addr} {o : HO} (h : b ≠ a) : upd H a o b = H b := by unfold upd; rw [if_neg h]
theorem upd_upd {H : Hp} {a : Addr} {o u : HO} : upd (upd H a o) a u = upd H a u := by
  funext b; unfold upd; split <;> rfl
/-- two objects of different content stand apart -/
theorem ne_of {H : Hp} {a b : Addr} {o u : HO} (h : H a = some o) (h' : H b = some u) (d : o ≠ u) : a ≠ b := by
  intro e; subst e; rw [h] at h'; exact d (Option.some.inj h')
theorem ne_of_none {H : Hp} {a b : Addr} {o : HO} (h : H a = some o) (h' : H b = none) : a ≠ b := by
  intro e; subst e; rw [h] at h'; cases h'

section
variable (P : Program) (w : World)
def ObjOk (H : Hp) (h : Heap) (a : Addr) : HO → Prop
  | .lst xs => xs.length ≤ sizeLine ∧ ∃ (its : List Value) (n : Nat), Vals xs its ∧ h.get? a = some { cls := .type "list", data := .seq its.toArray n }
  | .tup xs => xs.length ≤ sizeLine ∧ ∃ its : List Value, Vals xs its ∧ IsTup h a its.toArray
  | .dK kvs => kvs.length ≤ sizeLine ∧ (a == sysModules) = false ∧ ∃ vs, KV kvs vs ∧ h.DictOf (mixKind P w) a vs
  | .dT kvs => kvs.length ≤ sizeLine ∧ (a == sysModules) = false ∧ ∃ xs : List (List Key × Addr × Value),
      Paired (fun (p : List Key × V) (q : List Key × Addr × Value) => p.1 = q.1 ∧ H q.2.1 = some (.tup (p.1.map kV)) ∧ RelV p.2 q.2.2) kvs xs ∧
      ∃ o es ep, h.get? a = some o ∧ o.ExactDict ∧ o.data = .dict es ep ∧ es.toList = xs.map (entryOfKey (tupleKind (mixKind P w))) ∧ (xs.map (·.1)).Nodup
  | .set S n => h.SetOf (intKind P w) a S n
  | .ins C dx fs => H dx = some (.own a) ∧ fs.length ≤ 1000 ∧ dx ≠ a ∧ h.get? a = some (PySem.W.instObj C dx) ∧
      ∃ mA, h.Ns1 dx mA ∧ (∀ f, RelO (fs.lookup f) (mA f)) ∧ PySem.Within mA (fs.map (·.1))
  | .own _ => ∃ o, h.get? a = some o
  | .xd fs => ∃ mA, h.Ns1 a mA ∧ ∀ f, RelO (fs.lookup f) (mA f)
  | .rng lo hi => ∃ t u v, h.get? a = some { cls := .type "range", data := .fields #[.int lo t, .int hi u, .int 1 v] }
  | .frz o u => h.get? a = some o ∧ ObjOk H h a u
  | .tbl ps => h.get? a = some { cls := .none, data := .fields ps }
  | .met f x => h.get? a = some (PySem.W.methodObj (.ref f) (.ref x))
  | .ext φ => φ h ∧ (∃ o, h.get? a = some o) ∧ ∀ h1 h2 : Heap, φ h1 → (∀ o, h1.get? a = some o → h2.get? a = some o) → φ h2
/-- the abstract heap is held -/
def HOk (H : Hp) (h : Heap) : Prop := ∀ a o, H a = some o → ObjOk P w H h a o
end

section
variable {P : Program} {w : World} {H H' : Hp} {h h' : Heap} {a : Addr} {o : HO}
theorem ObjOk.lt (x : ObjOk P w H h a o) : a < h.objs.size := by
  cases o with
  | lst xs => obtain ⟨_, _, _, _, e⟩ := x; exact Heap.lt_size e
  | tup xs => obtain ⟨_, _, _, p⟩ := x; exact p.lt
  | dK kvs => obtain ⟨_, _, _, _, o, _, _, e, _⟩ := x; exact Heap.lt_size e
  | dT kvs => obtain ⟨_, _, _, _, o, _, _, e, _⟩ := x; exact Heap.lt_size e
  | set S n => obtain ⟨o, _, _, _, e, _⟩ := x; exact Heap.lt_size e
  | ins C dx fs => obtain ⟨_, _, _, e, _⟩ := x; exact Heap.lt_size e
  | own y => obtain ⟨_, e⟩ := x; exact Heap.lt_size e
  | xd fs => obtain ⟨_, ⟨_, _, _, e, _⟩, _⟩ := x; exact Heap.lt_size e
  | rng lo hi => obtain ⟨_, _, _, e⟩ := x; exact Heap.lt_size e
  | frz ob u => obtain ⟨e, _⟩ := x; exact Heap.lt_size e
  | tbl ps => exact Heap.lt_size (show h.get? a = some _ from x)
  | met f y => exact Heap.lt_size (show h.get? a = some _ from x)
  | ext φ => obtain ⟨_, ⟨_, e⟩, _⟩ := x; exact Heap.lt_size e
theorem Paired.mapP {α β : Type} {F G : α → β → Prop} : ∀ {l₁ : List α} {l₂ : List β}, Paired F l₁ l₂ → (∀ a b, F a b → G a b) → Paired G l₁ l₂
  | _, _, .nil, _ => .nil
  | _, _, .cons r t, f => .cons (f _ _ r) (Paired.mapP t f)
theorem Paired.imp' {α β : Type} {F G : α → β → Prop} (f : ∀ a b, F a b → G a b) {l₁ : List α} {l₂ : List β} (r : Paired F l₁ l₂) : Paired G l₁ l₂ := Paired.mapP r f
/-- what an object's description leans on: its own object, its own dict, the tuples -/
theorem ObjOk.stay (x : ObjOk P w H h a o) (k : ∀ b u, (b = a ∨ H b = some (.own a)) → h.get? b = some u → h'.get? b = some u)
    (ho : ∀ b, H b = some (.own a) → H' b = some (.own a)) (ht : ∀ b xs, H b = some (.tup xs) → H' b = some (.tup xs)) : ObjOk P w H' h' a o := by
  induction o with
  | lst xs => obtain ⟨z, its, n, r, e⟩ := x; exact ⟨z, its, n, r, k _ _ (.inl rfl) e⟩
  | tup xs => obtain ⟨z, its, r, ob, e, c⟩ := x; exact ⟨z, its, r, ob, k _ _ (.inl rfl) e, c⟩
  | dK kvs => obtain ⟨z, y, vs, r, ob, es, ep, e, c⟩ := x; exact ⟨z, y, vs, r, ob, es, ep, k _ _ (.inl rfl) e, c⟩
  | dT kvs =>
    obtain ⟨z, y, xs, r, ob, es, ep, e, c⟩ := x
    exact ⟨z, y, xs, Paired.mapP r fun p q z => ⟨z.1, ht _ _ z.2.1, z.2.2⟩, ob, es, ep, k _ _ (.inl rfl) e, c⟩
  | set S n => obtain ⟨ob, es, ep, t, e, c⟩ := x; exact ⟨ob, es, ep, t, k _ _ (.inl rfl) e, c⟩
  | ins C dx fs =>
    obtain ⟨d, z, ne, e, mA, ⟨od, es, ep, e2, c⟩, r⟩ := x
    exact ⟨ho _ d, z, ne, k _ _ (.inl rfl) e, mA, ⟨od, es, ep, k _ _ (.inr d) e2, c⟩, r⟩
  | own y => obtain ⟨ob, e⟩ := x; exact ⟨ob, k _ _ (.inl rfl) e⟩
  | xd fs => obtain ⟨mA, ⟨od, es, ep, e, c⟩, r⟩ := x; exact ⟨mA, ⟨od, es, ep, k _ _ (.inl rfl) e, c⟩, r⟩
  | rng lo hi => obtain ⟨t, u, v, e⟩ := x; exact ⟨t, u, v, k _ _ (.inl rfl) e⟩
  | frz ob u ih => obtain ⟨e, q⟩ := x; exact ⟨k _ _ (.inl rfl) e, ih q⟩
  | tbl ps =>
    have e : h.get? a = some { cls := .none, data := .fields ps } := x
    show h'.get? a = some { cls := .none, data := .fields ps }
    exact k a _ (.inl rfl) e
  | met f y =>
    have e : h.get? a = some (PySem.W.methodObj (.ref f) (.ref y)) := x
    show h'.get? a = some (PySem.W.methodObj (.ref f) (.ref y))
    exact k a _ (.inl rfl) e
  | ext φ => obtain ⟨p, ⟨o, e⟩, st⟩ := x; exact ⟨st _ _ p fun o q => k _ _ (.inl rfl) q, ⟨o, k _ _ (.inl rfl) e⟩, st⟩
theorem HOk.lt (x : HOk P w H h) (e : H a = some o) : a < h.objs.size := (x a o e).lt
theorem HOk.fresh (x : HOk P w H h) (e : h.objs.size ≤ a) : H a = none := by
  cases q : H a with
  | none => rfl
  | some u => exact absurd (Nat.lt_of_lt_of_le (x.lt q) e) (Nat.lt_irrefl _)
/-- every object of the heap is kept -/
theorem HOk.kept (x : HOk P w H h) (k : ∀ b u, h.get? b = some u → h'.get? b = some u) : HOk P w H h' := fun a o e =>
  (x a o e).stay (fun b u _ q => k b u q) (fun _ q => q) fun _ _ q => q
/-- a new object is laid and tracked -/
theorem HOk.laid (x : HOk P w H h) (k : ∀ b u, h.get? b = some u → h'.get? b = some u) (hp : h.objs.size ≤ a) (new : ObjOk P w (upd H a o) h' a o) : HOk P w (upd H a o) h' := fun b u e => by
  have hn := x.fresh hp
  by_cases hb : b = a
  · subst hb; rw [upd_same] at e; cases e; exact new
  · rw [upd_ne hb] at e
    exact (x b u e).stay (fun c v _ q => k c v q) (fun c q => by rw [upd_ne (ne_of_none q hn)]; exact q) fun c xs q => by rw [upd_ne (ne_of_none q hn)]; exact q
end

/-- what may be read as u: it is u, or a known u -/
def Rd (H : Hp) (a : Addr) (u : HO) : Prop := H a = some u ∨ ∃ o, H a = some (.frz o u)
theorem Rd.of {H : Hp} {a : Addr} {u : HO} (h : H a = some u) : Rd H a u := .inl h
theorem Rd.ok {P : Program} {w : World} {H : Hp} {h : Heap} {a : Addr} {u : HO} (r : Rd H a u) (x : HOk P w H h) : ObjOk P w H h a u := by
  rcases r with r | ⟨o, r⟩
  · exact x a u r
  · obtain ⟨_, q⟩ := x a _ r
    exact q
/-- what may be written -/
def Mut : Option HO → Prop
  | some (.lst _) => True
  | some (.dK _) => True
  | some (.dT _) => True
  | some (.set _ _) => True
  | some (.ins _ _ _) => True
  | some (.ext _) => True
  | _ => False
section
variable {P : Program} {w : World} {H : Hp} {h h' : Heap} {x e : Addr} {o' : HO}
/-- the object at e is changed: x itself, or the dict of the instance x -/
theorem HOk.write (ok : HOk P w H h) (mu : Mut (H x)) (he : e = x ∨ H e = some (.own x)) (k : ∀ b u, b ≠ e → h.get? b = some u → h'.get? b = some u) (heo : ∃ u, h'.get? e = some u)
    (new : ObjOk P w (upd H x o') h' x o') : HOk P w (upd H x o') h' := fun b u q => by
  have nown : ∀ c y, H c = some (.own y) → c ≠ x := fun c y r z => by subst z; rw [r] at mu; exact mu
  have ntup : ∀ c xs, H c = some (.tup xs) → c ≠ x := fun c xs r z => by subst z; rw [r] at mu; exact mu
  by_cases hb : b = x
  · subst hb; rw [upd_same] at q; cases q; exact new
  · rw [upd_ne hb] at q
    by_cases hbe : b = e
    · have q' : H b = some (.own x) := by
        rcases he with z | z
        · exact absurd (hbe.trans z) hb
        · rw [hbe]; exact z
      rw [q] at q'; cases q'
      obtain ⟨v, hv⟩ := heo
      exact ⟨v, by rw [hbe]; exact hv⟩
    · refine (ok b u q).stay (fun c v hc r => k c v ?_ r) (fun c r => by rw [upd_ne (nown c b r)]; exact r) fun c xs r => by rw [upd_ne (ntup c xs r)]; exact r
      rcases hc with rfl | hc
      · exact hbe
      · rintro rfl
        rcases he with z | z
        · exact nown c b hc z
        · rw [hc] at z; cases z; exact hb rfl
end

/-! ### kept unless tracked; of the frames at fs (the callers') the slots may change (an exception that passes writes there); of the records at ex (iterators) nothing is said -/
structure Un (fs ex : List Addr) (H H' : Hp) (h h' : Heap) : Prop where
  keep : ∀ b o, h.get? b = some o → H b = none → b ∉ fs → b ∉ ex → h'.get? b = some o
  slot : ∀ b o, h.get? b = some o → H b = none → b ∈ fs → b ∉ ex → ∃ sl, h'.get? b = some { o with slots := sl }
  free : ∀ b o, h.get? b = some o → H b = none → b ∉ ex → H' b = none
  there : ∀ b o, h.get? b = some o → b ∉ ex → ∃ o', h'.get? b = some o'
  tups : ∀ b xs, H b = some (.tup xs) → H' b = some (.tup xs)
  frzs : ∀ b o u, H b = some (.frz o u) → H' b = some (.frz o u)
  tbls : ∀ b ps, H b = some (.tbl ps) → ∃ more, H' b = some (.tbl (ps ++ more))
section
variable {fs fs' ex ex' : List Addr} {H H1 H2 : Hp} {h h1 h2 h' : Heap} {a x e : Addr} {o : HO}
theorem Un.any (u : Un fs ex H H1 h h1) {b : Addr} {ob : Obj} (q : h.get? b = some ob) (n : H b = none) (hx : b ∉ ex) : ∃ sl, h1.get? b = some { ob with slots := sl } := by
  by_cases hb : b ∈ fs
  · exact u.slot b ob q n hb hx
  · exact ⟨ob.slots, u.keep b ob q n hb hx⟩
theorem Un.trans (a : Un fs ex H H1 h h1) (b : Un fs ex H1 H2 h1 h2) : Un fs ex H H2 h h2 where
  keep := fun c ob q n hc hx => b.keep c ob (a.keep c ob q n hc hx) (a.free c ob q n hx) hc hx
  slot := fun c ob q n hc hx => by
    obtain ⟨sl, e1⟩ := a.slot c ob q n hc hx
    obtain ⟨sl', e2⟩ := b.slot c _ e1 (a.free c ob q n hx) hc hx
    exact ⟨sl', e2⟩
  free := fun c ob q n hx => by
    obtain ⟨o', e1⟩ := a.there c ob q hx
    exact b.free c o' e1 (a.free c ob q n hx) hx
  there := fun c ob q hx => by
    obtain ⟨o', e1⟩ := a.there c ob q hx
    exact b.there c o' e1 hx
  tups := fun c xs q => b.tups c xs (a.tups c xs q)
  frzs := fun c ob xs q => b.frzs c ob xs (a.frzs c ob xs q)
  tbls := fun c ps q => by
    obtain ⟨m1, e1⟩ := a.tbls c ps q
    obtain ⟨m2, e2⟩ := b.tbls c _ e1
    exact ⟨m1 ++ m2, by rw [e2, Array.append_assoc]⟩
theorem Un.kept (k : ∀ b u, h.get? b = some u → h'.get? b = some u) : Un fs ex H H h h' :=
  ⟨fun b ob q _ _ _ => k b ob q, fun b ob q _ _ _ => ⟨ob.slots, k b ob q⟩, fun _ _ _ n _ => n, fun b ob q _ => ⟨ob, k b ob q⟩, fun _ _ q => q, fun _ _ _ q => q, fun _ ps q => ⟨#[], by rw [q]; simp⟩⟩
theorem Un.refl : Un fs ex H H h h := Un.kept fun _ _ q => q
theorem Un.laid (k : ∀ b u, h.get? b = some u → h'.get? b = some u) (hp : h.objs.size ≤ a) (hn : H a = none) : Un fs ex H (upd H a o) h h' where
  keep := fun b u q _ _ _ => k b u q
  slot := fun b u q _ _ _ => ⟨u.slots, k b u q⟩
  free := fun b u q n _ => by rw [upd_ne (Nat.ne_of_lt (Nat.lt_of_lt_of_le (Heap.lt_size q) hp))]; exact n
  there := fun b u q _ => ⟨u, k b u q⟩
  tups := fun b xs q => by rw [upd_ne (ne_of_none q hn)]; exact q
  frzs := fun b u xs q => by rw [upd_ne (ne_of_none q hn)]; exact q
  tbls := fun b ps q => ⟨#[], by rw [upd_ne (ne_of_none q hn), q]; simp⟩
theorem Un.write (mu : Mut (H x)) (he : e = x ∨ H e = some (.own x)) (k : ∀ b u, b ≠ e → h.get? b = some u → h'.get? b = some u) (heo : ∃ u, h'.get? e = some u) : Un fs ex H (upd H x o) h h' := by
  have hx : ∀ b, H b = none → b ≠ x := fun b n z => by subst z; rw [n] at mu; exact mu
  have hb : ∀ b, H b = none → b ≠ e := fun b n z => by
    subst z
    rcases he with r | r
    · exact hx b n r
    · rw [n] at r; cases r
  have hm : ∀ b u, H b = some u → ¬ Mut (some u) → b ≠ x := fun b u q nm z => by subst z; rw [q] at mu; exact nm mu
  refine ⟨fun b u q n _ _ => k b u (hb b n) q, fun b u q n _ _ => ⟨u.slots, k b u (hb b n) q⟩, fun b u q n _ => by rw [upd_ne (hx b n)]; exact n, fun b u q _ => ?_,
    fun b xs q => by rw [upd_ne (hm b _ q fun z => z)]; exact q, fun b u xs q => by rw [upd_ne (hm b _ q fun z => z)]; exact q, fun b ps q => ⟨#[], by rw [upd_ne (hm b _ q fun z => z), q]; simp⟩⟩
  by_cases hbe : b = e
  · subst hbe; exact heo
  · exact ⟨u, k b u hbe q⟩
theorem Un.mono (u : Un fs ex H H1 h h1) (hs : ∀ b ∈ fs, b ∈ fs') (hx : ∀ b ∈ ex, b ∈ ex') : Un fs' ex' H H1 h h1 :=
  ⟨fun b ob q n hb he => u.keep b ob q n (fun z => hb (hs b z)) fun z => he (hx b z), fun _ _ q n _ he => u.any q n fun z => he (hx _ z), fun b ob q n he => u.free b ob q n fun z => he (hx b z), fun b ob q he => u.there b ob q fun z => he (hx b z), u.tups, u.frzs, u.tbls⟩
end

/-! ### the heap without what is tracked -/
def trk (h : Heap) (H : Hp) : List Addr := (List.range h.objs.size).filter fun a => (H a).isSome
def hidT (h : Heap) (H : Hp) : Heap := PySem.W.hideAll h (trk h H)
theorem hidT_size (h : Heap) (H : Hp) : (hidT h H).objs.size = h.objs.size := PySem.W.hideAll_size _ _
theorem hidT_get {h : Heap} {H : Hp} {b : Addr} {o : Obj} (e : h.get? b = some o) (n : H b = none) : (hidT h H).get? b = some o :=
  PySem.W.hideAll_get _ e fun hm => by
    have q : (H b).isSome = true := (List.mem_filter.mp hm).2
    rw [n] at q; simp at q
theorem of_hidT {h : Heap} {H : Hp} {b : Addr} {o : Obj} (e : (hidT h H).get? b = some o) : h.get? b = some o ∧ H b = none := by
  have e' : h.get? b = some o := PySem.W.of_hideAll (trk h H) e
  refine ⟨e', ?_⟩
  cases q : H b with
  | none => rfl
  | some x =>
    have hm : b ∈ trk h H := List.mem_filter.mpr ⟨List.mem_range.mpr (Heap.lt_size e'), by simp [q]⟩
    have z : (hidT h H).get? b = none := PySem.W.hideAll_none (trk h H) hm
    rw [z] at e; cases e

/-! ### OpenK's ledger, filled with every new object but one -/
def allNews (g h : Heap) (L : Addr) : List (Addr × Obj) := (List.range h.objs.size).filterMap fun a => if a = L ∨ (g.get? a).isSome = true then none else (h.get? a).map fun o => (a, o)
theorem mem_allNews {g h : Heap} {L a : Addr} {o : Obj} (h1 : a ≠ L) (h2 : g.get? a = none) (h3 : h.get? a = some o) : (a, o) ∈ allNews g h L :=
  List.mem_filterMap.mpr ⟨a, List.mem_range.mpr (Heap.lt_size h3), by simp [h1, h2, h3]⟩
theorem of_mem_allNews {g h : Heap} {L : Addr} {p : Addr × Obj} (hp : p ∈ allNews g h L) : p.1 ≠ L ∧ g.get? p.1 = none ∧ h.get? p.1 = some p.2 := by
  obtain ⟨b, _, e⟩ := List.mem_filterMap.mp hp
  split at e
  · cases e
  · rename_i hn
    cases q : h.get? b with
    | none => rw [q] at e; simp at e
    | some u =>
      rw [q] at e
      simp only [Option.map_some, Option.some.injEq] at e
      subst e
      refine ⟨fun z => hn (.inl z), ?_, q⟩
      show g.get? b = none
      cases r : g.get? b with
      | none => rfl
      | some v => exact (hn (.inr (by simp [r]))).elim
def rest (g h : Heap) (L d : Addr) : List (Addr × Obj) := (allNews g h L).filter fun p => decide (p.1 ≠ d)
theorem rest_ne {g h : Heap} {L d : Addr} : ∀ p ∈ rest g h L d, p.1 ≠ d := fun p hp => of_decide_eq_true (List.mem_filter.mp hp).2
theorem mem_rest {g h : Heap} {L d a : Addr} {o : Obj} (h1 : a ≠ L) (h2 : g.get? a = none) (h3 : h.get? a = some o) (h4 : a ≠ d) : (a, o) ∈ rest g h L d :=
  List.mem_filter.mpr ⟨mem_allNews h1 h2 h3, decide_eq_true h4⟩
theorem news_all {g h : Heap} {L : Addr} : News g L h (allNews g h L) := fun p hp => let ⟨a, b, c⟩ := of_mem_allNews hp; ⟨c, a, b⟩
theorem news_at {g h : Heap} {L d : Addr} {o : Obj} (h1 : d ≠ L) (h2 : g.get? d = none) (h3 : h.get? d = some o) : News g L h ((d, o) :: rest g h L d) := fun p hp => by
  rcases List.mem_cons.mp hp with rfl | hp
  · exact ⟨h3, h1, h2⟩
  · exact news_all p (List.mem_filter.mp hp).1
/-- behind a rule that changed d alone: all else but the frame is kept -/
theorem kept_of_news {g h h' : Heap} {L d : Addr} {m : Str → Option Value} (k : ∀ b o, g.get? b = some o → h.get? b = some o) (F : Fr g L h' m) (N : News g L h' (rest g h L d)) :
    ∀ b o, b ≠ L → b ≠ d → h.get? b = some o → h'.get? b = some o := fun b o h1 h2 e => by
  cases q : g.get? b with
  | some u =>
    have := k b u q
    rw [e] at this; cases this
    exact F.keep b _ q
  | none => exact (N (b, o) (mem_rest h1 q e h2)).1
end L2

namespace L2
open PySem PySem.Spec PyProof.Rows

/-- the module's facts, over the base: the heap at the law's entry without what is tracked there -/
structure Mod (K : PySem.W.Frag) (mg : Str → Option Value) (base : Heap) : Prop where
  kin : K.In base
  glob : base.Ns mainGlobals mg
  blt : ∃ mb, base.Ns builtinsNs mb ∧ ∀ x : Str, x ≠ "__name__" → mb x = bootBuiltins x
  nolimit : base.NoLimit

/-- the context: a def's body (or a comprehension's block) running. base: fixed through the whole law; s₀, H₀: the entry; outer: the frames whose slots others may change (a def's callers); stack: all frames that run;
   ex: iterators that were made ahead of the entry and are walked here (a comprehension's); fn: the names whose cells were made at the entry (a def: all; a comprehension's block: its own); calm: not within an except suite; pn: pins that every state bears; xe: what is wanted of an exception that leaves the code -/
structure Cx where
  prog : Program
  w : World
  K : PySem.W.Frag
  mg : Str → Option Value
  base : Heap
  A : Around
  N : List Str
  s₀ : Shared
  H₀ : Hp
  env : Env
  outer : List Env
  stack : List Env
  ex : List Addr
  fn : Str → Bool
  calm : Bool
  pn : List (Addr × Obj)
  xe : Value → Shared → Prop
/-- the callers' frames -/
def frs (l : List Env) : List Addr := l.filterMap (·.frame)
abbrev Cx.fs (X : Cx) : List Addr := frs X.outer

def Vis (sc : Scope) (x : Str) : Prop := sc.names.lookup x = some .local ∨ sc.names.lookup x = some .cell ∨ sc.names.lookup x = some .free
def Loc (sc : Scope) (x : Str) : Prop := sc.names.lookup x = some .local ∨ sc.names.lookup x = some .cell
def Look (env : Env) (h : Heap) (m : Str → Option Value) (x : Str) (u : Value) : Prop :=
  (env.kindOf x = some .local ∧ m x = some u) ∨ ((env.kindOf x = some .cell ∨ env.kindOf x = some .free) ∧ ∃ c, env.cells.lookup x = some c ∧ h.IsCell c (some u))

structure Cx.Ok (X : Cx) : Prop where
  mod : Mod X.K X.mg X.base
  kind : X.env.scope.kind = .function
  glob : X.env.globals = mainGlobals
  blt : X.env.builtins = builtinsNs
  above : X.s₀.heap.objs.size ≤ X.env.locals
  inj : ∀ x y c, X.env.cells.lookup x = some c → X.env.cells.lookup y = some c → x = y
  has : ∀ x, (X.env.kindOf x = some .cell ∨ X.env.kindOf x = some .free) → ∃ c, X.env.cells.lookup x = some c
  cab : ∀ x c, X.fn x = true → X.env.cells.lookup x = some c → X.s₀.heap.objs.size ≤ c
  hd : X.calm = true → X.A.handled = none
  frames : X.A.frames = some X.stack
  stk : X.stack = X.outer ∨ (X.stack = X.env :: X.outer ∧ X.env.frame = some X.env.locals)
  exf : ∀ b ∈ X.ex, b ≠ X.env.locals ∧ ∀ x c, X.env.cells.lookup x = some c → c ≠ b
  bs : ∀ b o, X.base.get? b = some o → X.s₀.heap.get? b = some o ∧ X.H₀ b = none
  bsz : X.base.objs.size ≤ X.s₀.heap.objs.size
  noex : ∀ b o, X.base.get? b = some o → b ∉ X.ex
  exfs : ∀ b ∈ X.ex, b ∉ X.fs
  funs : X.s₀.heap.FunFrames X.base X.outer
  frf : ∀ b ∈ X.fs, X.H₀ b = none

structure Inv (X : Cx) (pins : List (Addr × Obj)) (σ : List (Option V)) (H : Hp) (s : Shared) : Prop where
  ok : X.Ok
  os : s.os = X.s₀.os
  bare : AllBare s.gens
  base : Un X.fs X.ex X.H₀ H X.s₀.heap s.heap
  loc : ∃ m, s.heap.Ns X.env.locals m ∧ ∀ (i : Nat) (x : Str) (v : V), X.N[i]? = some x → σ[i]? = some (some v) → Vis X.env.scope x → ∃ u, RelV v u ∧ Look X.env s.heap m x u
  cell : ∀ x c, X.env.cells.lookup x = some c → ∃ v, s.heap.IsCell c v
  free : H X.env.locals = none
  freeC : ∀ x c, X.env.cells.lookup x = some c → H c = none
  pin : ∀ p ∈ X.pn ++ pins, s.heap.get? p.1 = some p.2 ∧ H p.1 = none ∧ p.1 ≠ X.env.locals ∧ p.1 ∉ X.fs ∧ ∀ v, p.2.data ≠ .cell v
  hok : HOk X.prog X.w H s.heap
  len : σ.length = X.N.length

section
variable {X : Cx} {pins : List (Addr × Obj)} {σ : List (Option V)} {H H' : Hp} {s : Shared} {h' : Heap}

theorem Cx.Ok.nofr (ok : X.Ok) {b : Addr} {o : Obj} (e : X.base.get? b = some o) : b ∉ X.fs := fun hb => by
  have := (ok.funs.mem hb).1
  rw [e] at this; cases this
theorem Inv.bs (I : Inv X pins σ H s) : ∀ b o, X.base.get? b = some o → s.heap.get? b = some o ∧ H b = none := fun b o e =>
  ⟨I.base.keep b o (I.ok.bs b o e).1 (I.ok.bs b o e).2 (I.ok.nofr e) (I.ok.noex b o e), I.base.free b o (I.ok.bs b o e).1 (I.ok.bs b o e).2 (I.ok.noex b o e)⟩
theorem Inv.bk (I : Inv X pins σ H s) : ∀ b o, X.base.get? b = some o → s.heap.get? b = some o := fun b o e => (I.bs b o e).1
theorem Inv.mod (I : Inv X pins σ H s) : Mod X.K X.mg X.base := I.ok.mod
theorem Inv.kIn (I : Inv X pins σ H s) : X.K.In s.heap := I.ok.mod.kin.keeps I.bk
theorem Inv.nolimit (I : Inv X pins σ H s) : s.heap.NoLimit := I.ok.mod.nolimit.keeps I.bk
/-- the frame over the base: for OpenK's rules (K.In X.base is I.mod.kin) -/
theorem Inv.fr (I : Inv X pins σ H s) : ∃ m, Fr X.base X.env.locals s.heap m :=
  let ⟨m, hn, _⟩ := I.loc
  ⟨m, hn, I.bk, Nat.le_trans I.ok.bsz I.ok.above⟩
theorem Inv.lt (I : Inv X pins σ H s) : X.env.locals < s.heap.objs.size := let ⟨_, hn, _⟩ := I.loc; hn.lt
theorem Inv.sz (I : Inv X pins σ H s) : X.s₀.heap.objs.size ≤ s.heap.objs.size := Nat.le_trans I.ok.above (Nat.le_of_lt I.lt)
theorem Inv.nofs (I : Inv X pins σ H s) {a : Addr} (h : s.heap.objs.size ≤ a) : a ∉ X.fs := fun hb => by
  obtain ⟨_, o, ho, _⟩ := I.ok.funs.mem hb
  exact absurd (Nat.lt_of_lt_of_le (Heap.lt_size ho) (Nat.le_trans I.sz h)) (Nat.lt_irrefl _)
theorem Inv.cne (I : Inv X pins σ H s) : ∀ x c, X.env.cells.lookup x = some c → c ≠ X.env.locals := fun x c e z => by
  obtain ⟨v, o, ho, hd⟩ := I.cell x c e
  obtain ⟨m, ⟨o', es, ep, ho', hd', _⟩, _⟩ := I.loc
  rw [z, ho'] at ho; cases ho; rw [hd'] at hd; cases hd
theorem Inv.funs (I : Inv X pins σ H s) : s.heap.FunFrames X.base X.outer := by
  have all : ∀ (l : List Env), (∀ b ∈ frs l, b ∈ X.fs) → X.s₀.heap.FunFrames X.base l → s.heap.FunFrames X.base l := by
    intro l
    induction l with
    | nil => intro _ _; trivial
    | cons env r ih =>
      intro hs hl
      obtain ⟨hk, ⟨L, o, hf, hn, ho, hd⟩, hr⟩ := hl
      have hL : L ∈ X.fs := hs L (by unfold frs; rw [List.filterMap_cons, hf]; exact List.mem_cons_self)
      obtain ⟨sl, e⟩ := I.base.slot L o ho (I.ok.frf L hL) hL fun z => I.ok.exfs L z hL
      exact ⟨hk, ⟨L, _, hf, hn, e, hd⟩, ih (fun b hb => hs b (by unfold frs; rw [List.filterMap_cons, hf]; exact List.mem_cons_of_mem _ hb)) hr⟩
  exact all X.outer (fun _ hb => hb) I.ok.funs

/-- the frames that run, for a call -/
theorem Inv.stack (I : Inv X pins σ H s) : s.heap.FunFrames X.base X.stack := by
  rcases I.ok.stk with e | ⟨e, hf⟩
  · rw [e]; exact I.funs
  · rw [e]
    obtain ⟨m, hn, _⟩ := I.loc
    refine .cons (by rw [I.ok.kind]; decide) hf hn ?_ I.funs
    exact Heap.get?_none_of_le (Nat.le_trans I.ok.bsz I.ok.above)
theorem Inv.stkSub (I : Inv X pins σ H s) : ∀ b ∈ frs X.stack, b ∈ X.env.locals :: X.fs := fun b hb => by
  rcases I.ok.stk with e | ⟨e, hf⟩
  · rw [e] at hb; exact List.mem_cons_of_mem _ hb
  · rw [e] at hb
    unfold frs at hb
    rw [List.filterMap_cons, hf] at hb
    exact hb
theorem Inv.stkFree (I : Inv X pins σ H s) : ∀ b ∈ frs X.stack, H b = none := fun b hb => by
  rcases List.mem_cons.mp (I.stkSub b hb) with e | hb
  · rw [e]; exact I.free
  · obtain ⟨_, o, ho, _⟩ := I.ok.funs.mem hb
    exact I.base.free b o ho (I.ok.frf b hb) fun z => I.ok.exfs b z hb

/-- THE STEP: the untracked objects but the frame and the records at ch are kept (the callers' frames up to slots), the frame's map is kept, the new abstract heap is held -/
theorem Inv.step {g' : Array GenState} {t' : Nat} {d' : Drawn} {ch : List Addr} (I : Inv X pins σ H s)
    (hch : ∀ b ∈ ch, (b ∈ X.ex ∨ X.s₀.heap.objs.size ≤ b) ∧ b ≠ X.env.locals ∧ (∀ x c, X.env.cells.lookup x = some c → c ≠ b) ∧ ∀ p ∈ X.pn ++ pins, p.1 ≠ b)
    (keep : ∀ b o, b ≠ X.env.locals → b ∉ X.fs → b ∉ ch → s.heap.get? b = some o → H b = none → h'.get? b = some o)
    (slot : ∀ b o, b ≠ X.env.locals → b ∈ X.fs → b ∉ ch → s.heap.get? b = some o → H b = none → ∃ sl, h'.get? b = some { o with slots := sl }) (free : ∀ b o, b ∉ ch → s.heap.get? b = some o → H b = none → H' b = none)
    (there : ∀ b o, b ∉ ch → s.heap.get? b = some o → ∃ o', h'.get? b = some o')
    (tups : ∀ b xs, H b = some (.tup xs) → H' b = some (.tup xs)) (frzs : ∀ b o u, H b = some (.frz o u) → H' b = some (.frz o u)) (tbls : ∀ b ps, H b = some (.tbl ps) → ∃ more, H' b = some (.tbl (ps ++ more)))
    (ns : ∀ m, s.heap.Ns X.env.locals m → h'.Ns X.env.locals m) (hok : HOk X.prog X.w H' h') (hg : AllBare g') :
    Inv X pins σ H' { s with heap := h', gens := g', drawn := d', toks := t' } := by
  have neL : ∀ b o, X.s₀.heap.get? b = some o → b ≠ X.env.locals := fun b o e => Nat.ne_of_lt (Nat.lt_of_lt_of_le (Heap.lt_size e) I.ok.above)
  have neC : ∀ b o, X.s₀.heap.get? b = some o → b ∉ X.ex → b ∉ ch := fun b o e hx hb => by
    rcases (hch b hb).1 with z | z
    · exact hx z
    · exact absurd (Nat.lt_of_lt_of_le (Heap.lt_size e) z) (Nat.lt_irrefl _)
  have cellK : ∀ x c, X.env.cells.lookup x = some c → ∀ v, s.heap.IsCell c v → h'.IsCell c v := fun x c e v ⟨o, ho, hd⟩ => by
    have nch : c ∉ ch := fun z => (hch c z).2.2.1 x c e rfl
    by_cases hc : c ∈ X.fs
    · obtain ⟨sl, q⟩ := slot c o (I.cne x c e) hc nch ho (I.freeC x c e)
      exact ⟨_, q, hd⟩
    · exact ⟨o, keep c o (I.cne x c e) hc nch ho (I.freeC x c e), hd⟩
  refine ⟨I.ok, I.os, hg, ⟨fun b o e n hb hx => ?_, fun b o e n hb hx => ?_, fun b o e n hx => ?_, fun b o e hx => ?_, fun b xs e => tups b xs (I.base.tups b xs e), fun b o xs e => frzs b o xs (I.base.frzs b o xs e), fun b ps e => ?_⟩, ?_, fun x c e => ?_, ?_, fun x c e => ?_, fun p hp => ?_, hok, I.len⟩
  · exact keep b o (neL b o e) hb (neC b o e hx) (I.base.keep b o e n hb hx) (I.base.free b o e n hx)
  · obtain ⟨sl, e1⟩ := I.base.slot b o e n hb hx
    obtain ⟨sl', e2⟩ := slot b _ (neL b o e) hb (neC b o e hx) e1 (I.base.free b o e n hx)
    exact ⟨sl', e2⟩
  · obtain ⟨o', e1⟩ := I.base.there b o e hx
    exact free b o' (neC b o e hx) e1 (I.base.free b o e n hx)
  · obtain ⟨o', e1⟩ := I.base.there b o e hx
    exact there b o' (neC b o e hx) e1
  · obtain ⟨m1, e1⟩ := I.base.tbls b ps e
    obtain ⟨m2, e2⟩ := tbls b _ e1
    exact ⟨m1 ++ m2, by rw [e2, Array.append_assoc]⟩
  · obtain ⟨m, hn, hl⟩ := I.loc
    refine ⟨m, ns m hn, fun i x v e1 e2 e3 => ?_⟩
    obtain ⟨u, r, l⟩ := hl i x v e1 e2 e3
    refine ⟨u, r, ?_⟩
    rcases l with l | ⟨k, c, e, z⟩
    · exact .inl l
    · exact .inr ⟨k, c, e, cellK x c e _ z⟩
  · obtain ⟨v, z⟩ := I.cell x c e
    exact ⟨v, cellK x c e v z⟩
  · obtain ⟨m, ⟨o, _, _, ho, _⟩, _⟩ := I.loc
    exact free _ o (fun z => (hch _ z).2.1 rfl) ho I.free
  · obtain ⟨v, o, ho, hd⟩ := I.cell x c e
    exact free c o (fun z => (hch c z).2.2.1 x c e rfl) ho (I.freeC x c e)
  · obtain ⟨e, n, ne, nf, d⟩ := I.pin p hp
    have nch : p.1 ∉ ch := fun z => (hch p.1 z).2.2.2 p hp rfl
    exact ⟨keep p.1 p.2 ne nf nch e n, free p.1 p.2 nch e n, ne, nf, d⟩
/-- .. where the frame's own object is kept too -/
theorem Inv.un {t' : Nat} (I : Inv X pins σ H s) (u : Un X.fs [] H H' s.heap h') (hok : HOk X.prog X.w H' h') : Inv X pins σ H' { s with heap := h', toks := t' } := by
  obtain ⟨m, ⟨o, es, ep, ho, r⟩, _⟩ := id I.loc
  obtain ⟨sl, hL⟩ := u.any ho I.free (by simp)
  exact I.step (g' := s.gens) (d' := s.drawn) (ch := []) (fun _ z => nomatch z) (fun b o _ hb _ e n => u.keep b o e n hb (by simp)) (fun b o _ hb _ e n => u.slot b o e n hb (by simp)) (fun b o _ e n => u.free b o e n (by simp)) (fun b o _ e => u.there b o e (by simp)) u.tups u.frzs u.tbls (fun m' hm => by
    obtain ⟨o', es', ep', ho', r'⟩ := hm
    rw [ho] at ho'; cases ho'
    exact ⟨_, es', ep', hL, r'⟩) hok I.bare
/-- behind a call (or a comprehension's block): the slots of this frame may have changed too, the records at ch may have turned -/
theorem Inv.call {g' : Array GenState} {t' : Nat} {d' : Drawn} {ch : List Addr} (I : Inv X pins σ H s) (u : Un (frs X.stack) ch H H' s.heap h') (hok : HOk X.prog X.w H' h') (hg : AllBare g')
    (hch : ∀ b ∈ ch, (b ∈ X.ex ∨ X.s₀.heap.objs.size ≤ b) ∧ b ≠ X.env.locals ∧ (∀ x c, X.env.cells.lookup x = some c → c ≠ b) ∧ ∀ p ∈ X.pn ++ pins, p.1 ≠ b) :
    Inv X pins σ H' { s with heap := h', gens := g', drawn := d', toks := t' } := by
  obtain ⟨m, ⟨o, es, ep, ho, r⟩, _⟩ := id I.loc
  obtain ⟨sl, hL⟩ := u.any ho I.free fun z => (hch _ z).2.1 rfl
  exact I.step (ch := ch) hch (fun b o hL hb hc e n => u.keep b o e n (fun z => (List.mem_cons.mp (I.stkSub b z)).elim hL hb) hc) (fun b o _ _ hc e n => u.any e n hc) (fun b o hc e n => u.free b o e n hc) (fun b o hc e => u.there b o e hc) u.tups u.frzs u.tbls (fun m' hm => by
    obtain ⟨o', es', ep', ho', r'⟩ := hm
    rw [ho] at ho'; cases ho'
    exact ⟨_, es', ep', hL, r'⟩) hok hg
/-- an untracked record of ours (an iterator) has turned -/
theorem Inv.turned {t' : Nat} {it : Addr} (I : Inv X pins σ H s) (k : ∀ b o, b ≠ it → s.heap.get? b = some o → h'.get? b = some o) (hn : H it = none) (hL : it ≠ X.env.locals)
    (h1 : it ∈ X.ex ∨ X.s₀.heap.objs.size ≤ it) (h2 : ∀ x c, X.env.cells.lookup x = some c → c ≠ it) (h3 : ∀ p ∈ X.pn ++ pins, p.1 ≠ it) : Inv X pins σ H { s with heap := h', toks := t' } := by
  have nit : ∀ b u, H b = some u → b ≠ it := fun b u e z => by rw [z, hn] at e; cases e
  refine I.step (g' := s.gens) (d' := s.drawn) (ch := [it]) (fun b hb => ?_) (fun b o _ _ hc e _ => k b o (fun z => hc (by simp [z])) e) (fun b o _ _ hc e _ => ⟨o.slots, k b o (fun z => hc (by simp [z])) e⟩) (fun _ _ _ _ n => n)
    (fun b o hc e => ⟨o, k b o (fun z => hc (by simp [z])) e⟩) (fun _ _ e => e) (fun _ _ _ e => e) (fun b ps e => ⟨#[], by rw [e]; simp⟩) (fun m hm => ?_) (fun b u e => ?_) I.bare
  · have e : b = it := by simpa using hb
    subst e
    exact ⟨h1, hL, h2, h3⟩
  · obtain ⟨o, es, ep, ho, r⟩ := hm
    exact ⟨o, es, ep, k _ o (Ne.symm hL) ho, r⟩
  · refine (I.hok b u e).stay (fun c v hc q => k c v ?_ q) (fun _ q => q) fun _ _ q => q
    rcases hc with z | z
    · rw [z]; exact nit b u e
    · exact nit c _ z
theorem Inv.tok (I : Inv X pins σ H s) (t : Nat) : Inv X pins σ H { s with toks := t } := I.un (h' := s.heap) (t' := t) Un.refl I.hok
/-- all objects kept -/
theorem Inv.kept {t' : Nat} (I : Inv X pins σ H s) (k : ∀ b u, s.heap.get? b = some u → h'.get? b = some u) : Inv X pins σ H { s with heap := h', toks := t' } := I.un (Un.kept k) (I.hok.kept k)
/-- a new object laid and tracked -/
theorem Inv.laid {a : Addr} {o : HO} {t' : Nat} (I : Inv X pins σ H s) (k : ∀ b u, s.heap.get? b = some u → h'.get? b = some u) (hp : s.heap.objs.size ≤ a) (new : ObjOk X.prog X.w (upd H a o) h' a o) :
    Inv X pins σ (upd H a o) { s with heap := h', toks := t' } := I.un (Un.laid k hp (I.hok.fresh hp)) (I.hok.laid k hp new)
/-- an object written -/
theorem Inv.write {x e : Addr} {o : HO} {t' : Nat} (I : Inv X pins σ H s) (mu : Mut (H x)) (he : e = x ∨ H e = some (.own x)) (k : ∀ b u, b ≠ e → s.heap.get? b = some u → h'.get? b = some u) (heo : ∃ u, h'.get? e = some u)
    (new : ObjOk X.prog X.w (upd H x o) h' x o) : Inv X pins σ (upd H x o) { s with heap := h', toks := t' } := I.un (Un.write mu he k heo) (I.hok.write mu he k heo new)
/-- forgetting slots, pins -/
theorem Inv.weak {σ' : List (Option V)} (I : Inv X pins σ H s) (hl : σ'.length = σ.length) (w : ∀ (i : Nat) v, σ'[i]? = some (some v) → σ[i]? = some (some v)) : Inv X pins σ' H s :=
  ⟨I.ok, I.os, I.bare, I.base, let ⟨m, hn, hl'⟩ := I.loc; ⟨m, hn, fun i x v e1 e2 e3 => hl' i x v e1 (w i v e2) e3⟩, I.cell, I.free, I.freeC, I.pin, I.hok, hl.trans I.len⟩
theorem Inv.pins_of {pins' : List (Addr × Obj)} (I : Inv X pins σ H s) (h : ∀ p ∈ pins', s.heap.get? p.1 = some p.2 ∧ H p.1 = none ∧ p.1 ≠ X.env.locals ∧ p.1 ∉ X.fs ∧ ∀ v, p.2.data ≠ .cell v) : Inv X pins' σ H s :=
  ⟨I.ok, I.os, I.bare, I.base, I.loc, I.cell, I.free, I.freeC, fun p hp => (List.mem_append.mp hp).elim (fun z => I.pin p (List.mem_append_left _ z)) (h p), I.hok, I.len⟩

theorem nodup_ix {N : List Str} (hN : N.Nodup) {i j : Nat} {x : Str} (a : N[i]? = some x) (b : N[j]? = some x) : i = j := by
  obtain ⟨h1, e1⟩ := List.getElem?_eq_some_iff.mp a
  obtain ⟨h2, e2⟩ := List.getElem?_eq_some_iff.mp b
  exact (List.getElem_inj hN).mp (e1.trans e2.symm)

/-- a name is stored; what changed -/
theorem store_ok2 {M : Model} {A : Around} {E : Value → Shared → Prop} {i : Nat} {x : Str} {v : V} {u : Value} {Q : Unit → Shared → Prop} (I : Inv X pins σ H s) (hN : X.N.Nodup) (hi : X.N[i]? = some x) (hx : Loc X.env.scope x) (r : RelV v u)
    (h : ∀ s', Inv X pins (σ.set i (some v)) H s' → (∃ a, Heap.SameBut a s.heap s'.heap ∧ (a = X.env.locals ∨ X.env.cells.lookup x = some a)) → Q () s') (hf : X.fn x = true ∨ X.env.scope.names.lookup x = some .local := by first | exact .inl rfl | exact .inr rfl | assumption) : wpAny M A (storeName X.env x u) Q E s := by
  obtain ⟨m, hn, hl⟩ := id I.loc
  have hcls : (X.env.scope.kind == .class || (X.env.scope.kind == .module && X.env.locals != X.env.globals)) = false := by rw [I.ok.kind]; rfl
  have hiσ : i < σ.length := by rw [I.len]; exact (List.getElem?_eq_some_iff.mp hi).1
  have cne := I.cne
  have tracked : ∀ {a : Addr} {h' : Heap}, (∃ o, s.heap.get? a = some o ∧ H a = none) → Heap.SameBut a s.heap h' → HOk X.prog X.w H h' := fun {a h'} ha hs b ob e => by
    obtain ⟨_, _, hfree⟩ := ha
    refine (I.hok b ob e).stay (fun c w' hc q => (hs.2 c ?_).trans q) (fun _ q => q) fun _ _ q => q
    rintro rfl
    rcases hc with rfl | hc
    · rw [hfree] at e; cases e
    · rw [hfree] at hc; cases hc
  rcases hx with hk | hk
  · refine wpAny_storeName_local hk hn (fun h' hn' hs => ?_) hcls
    obtain ⟨oL, _, _, hoL, _⟩ := id hn
    refine h _ ⟨I.ok, I.os, I.bare, ⟨fun b o e n hb hx => ?_, fun b o e n hb hx => ?_, I.base.free, fun b o e hx => ?_, I.base.tups, I.base.frzs, I.base.tbls⟩, ⟨_, hn', fun j y v' e1 e2 e3 => ?_⟩, fun y c e => ?_, I.free, I.freeC, fun p hp => ?_, tracked ⟨oL, hoL, I.free⟩ hs, by simpa using I.len⟩ ⟨_, hs, .inl rfl⟩
    · exact (hs.2 b (Nat.ne_of_lt (Nat.lt_of_lt_of_le (Heap.lt_size e) I.ok.above))).trans (I.base.keep b o e n hb hx)
    · obtain ⟨sl, e1⟩ := I.base.slot b o e n hb hx
      exact ⟨sl, (hs.2 b (Nat.ne_of_lt (Nat.lt_of_lt_of_le (Heap.lt_size e) I.ok.above))).trans e1⟩
    · obtain ⟨o', e1⟩ := I.base.there b o e hx
      exact ⟨o', (hs.2 b (Nat.ne_of_lt (Nat.lt_of_lt_of_le (Heap.lt_size e) I.ok.above))).trans e1⟩
    · by_cases hj : j = i
      · subst hj
        rw [hi] at e1; cases e1
        rw [List.getElem?_set_self hiσ] at e2
        cases e2
        exact ⟨u, r, .inl ⟨hk, by simp⟩⟩
      · rw [List.getElem?_set_ne (Ne.symm hj)] at e2
        obtain ⟨u', r', q⟩ := hl j y v' e1 e2 e3
        refine ⟨u', r', ?_⟩
        rcases q with ⟨k, e⟩ | ⟨k, c, e, z⟩
        · refine .inl ⟨k, ?_⟩
          have : y ≠ x := fun e => hj (nodup_ix hN e1 (e ▸ hi))
          simp [this, e]
        · exact .inr ⟨k, c, e, z.sameBut hs (cne y c e)⟩
    · obtain ⟨w', z⟩ := I.cell y c e
      exact ⟨w', z.sameBut hs (cne y c e)⟩
    · obtain ⟨e, n, ne, nf, d⟩ := I.pin p hp
      exact ⟨(hs.2 p.1 ne).trans e, n, ne, nf, d⟩
  · have hfn : X.fn x = true := by
      rcases hf with z | z
      · exact z
      · rw [z] at hk; cases hk
    obtain ⟨c, hc⟩ := I.ok.has x (.inl hk)
    obtain ⟨w', z⟩ := I.cell x c hc
    refine wpAny_storeName_cell I.ok.kind hk hc z (fun h' hc' hs => ?_)
    obtain ⟨oc, hoc, hocd⟩ := id z
    refine h { s with heap := h' } ⟨I.ok, I.os, I.bare, ⟨fun b o e n hb hx => ?_, fun b o e n hb hx => ?_, I.base.free, fun b o e hx => ?_, I.base.tups, I.base.frzs, I.base.tbls⟩, ⟨m, hn.sameBut hs (Ne.symm (cne x c hc)), fun j y v' e1 e2 e3 => ?_⟩, fun y c' e => ?_, I.free, I.freeC, fun p hp => ?_, tracked ⟨oc, hoc, I.freeC x c hc⟩ hs, by simpa using I.len⟩ ⟨c, hs, .inr hc⟩
    · exact (hs.2 b (Nat.ne_of_lt (Nat.lt_of_lt_of_le (Heap.lt_size e) (I.ok.cab x c hfn hc)))).trans (I.base.keep b o e n hb hx)
    · obtain ⟨sl, e1⟩ := I.base.slot b o e n hb hx
      exact ⟨sl, (hs.2 b (Nat.ne_of_lt (Nat.lt_of_lt_of_le (Heap.lt_size e) (I.ok.cab x c hfn hc)))).trans e1⟩
    · obtain ⟨o', e1⟩ := I.base.there b o e hx
      exact ⟨o', (hs.2 b (Nat.ne_of_lt (Nat.lt_of_lt_of_le (Heap.lt_size e) (I.ok.cab x c hfn hc)))).trans e1⟩
    · by_cases hj : j = i
      · subst hj
        rw [hi] at e1; cases e1
        rw [List.getElem?_set_self hiσ] at e2
        cases e2
        exact ⟨u, r, .inr ⟨.inl hk, c, hc, hc'⟩⟩
      · rw [List.getElem?_set_ne (Ne.symm hj)] at e2
        obtain ⟨u', r', q⟩ := hl j y v' e1 e2 e3
        refine ⟨u', r', ?_⟩
        rcases q with q | ⟨k, c', e, z'⟩
        · exact .inl q
        · refine .inr ⟨k, c', e, z'.sameBut hs ?_⟩
          rintro rfl
          exact hj (nodup_ix hN e1 (I.ok.inj _ _ _ e hc ▸ hi))
    · by_cases hcc : c' = c
      · subst hcc; exact ⟨_, hc'⟩
      · obtain ⟨w2, z2⟩ := I.cell y c' e
        exact ⟨w2, z2.sameBut hs hcc⟩
    · obtain ⟨e, n, ne, nf, d⟩ := I.pin p hp
      refine ⟨(hs.2 p.1 ?_).trans e, n, ne, nf, d⟩
      intro q
      rw [q, hoc] at e
      have q' : oc = p.2 := Option.some.inj e
      exact d w' (by rw [← q']; exact hocd)
theorem store_ok {M : Model} {A : Around} {E : Value → Shared → Prop} {i : Nat} {x : Str} {v : V} {u : Value} {Q : Unit → Shared → Prop} (I : Inv X pins σ H s) (hN : X.N.Nodup) (hi : X.N[i]? = some x) (hx : Loc X.env.scope x) (r : RelV v u)
    (h : ∀ s', Inv X pins (σ.set i (some v)) H s' → Q () s') (hf : X.fn x = true ∨ X.env.scope.names.lookup x = some .local := by first | exact .inl rfl | exact .inr rfl | assumption) : wpAny M A (storeName X.env x u) Q E s :=
  store_ok2 I hN hi hx r (fun s' I' _ => h s' I') hf
/-- behind a call or a block, the state as it is -/
theorem Inv.call' {s' : Shared} {ch : List Addr} (I : Inv X pins σ H s) (ho : s'.os = s.os) (u : Un (frs X.stack) ch H H' s.heap s'.heap) (hok : HOk X.prog X.w H' s'.heap) (hg : AllBare s'.gens)
    (hch : ∀ b ∈ ch, (b ∈ X.ex ∨ X.s₀.heap.objs.size ≤ b) ∧ b ≠ X.env.locals ∧ (∀ x c, X.env.cells.lookup x = some c → c ≠ b) ∧ ∀ p ∈ X.pn ++ pins, p.1 ≠ b) : Inv X pins σ H' s' := by
  obtain ⟨h', g', d', t', o'⟩ := s'
  have e : o' = s.os := ho
  subst e
  exact I.call (g' := g') (t' := t') (d' := d') u hok hg hch
end

/-! ### the judgements -/
/-- an exception: its class, its own dict's address (where it has one), the abstract heap behind it -/
abbrev XK := Value → Option Addr → Hp → Prop
abbrev St := List (Option V)
abbrev VK := V → Hp → Prop
/-- an expression's reading; a test's; an argument list's -/
abbrev TE := St → Hp → VK → Prop
abbrev TT := St → Hp → (Bool → Hp → Prop) → Prop
abbrev TA := St → Hp → (List V → Hp → Prop) → Prop
/-- what is wanted behind a statement -/
structure Ends where
  nx : St → Hp → Prop
  rt : VK
  bk : St → Hp → Prop := fun _ _ => False
  ct : St → Hp → Prop := fun _ _ => False
abbrev TS := Ends → St → Hp → Prop

def EP (X : Cx) (pins : List (Addr × Obj)) (σ : St) (Q : VK) (u : Value) (s' : Shared) : Prop := ∃ v H', Inv X pins σ H' s' ∧ RelV v u ∧ Q v H'
def TP (X : Cx) (pins : List (Addr × Obj)) (σ : St) (Q : Bool → Hp → Prop) (b : Bool) (s' : Shared) : Prop := ∃ H', Inv X pins σ H' s' ∧ Q b H'
def AP (X : Cx) (pins : List (Addr × Obj)) (σ : St) (Q : List V → Hp → Prop) (us : List Value) (s' : Shared) : Prop := ∃ vs H', Inv X pins σ H' s' ∧ Vals vs us ∧ Q vs H'
def SP (X : Cx) (pins : List (Addr × Obj)) (D : Ends) (f : Flow) (s' : Shared) : Prop :=
  match f with
  | .next => ∃ σ' H', Inv X pins σ' H' s' ∧ D.nx σ' H'
  | .brk => ∃ σ' H', Inv X pins σ' H' s' ∧ D.bk σ' H'
  | .cont => ∃ σ' H', Inv X pins σ' H' s' ∧ D.ct σ' H'
  | .ret u => ∃ v σ' H', Inv X pins σ' H' s' ∧ RelV v u ∧ D.rt v H'

def PE (X : Cx) (e : Expr) (t : TE) : Prop :=
  ∀ (pins : List (Addr × Obj)) (s : Shared) (σ : St) (H : Hp) (Q : VK), Inv X pins σ H s → t σ H Q → wpAny (model X.prog X.w) X.A (eval e X.env) (EP X pins σ Q) X.xe s
def PT (X : Cx) (e : Expr) (t : TT) : Prop :=
  ∀ (pins : List (Addr × Obj)) (s : Shared) (σ : St) (H : Hp) (Q : Bool → Hp → Prop), Inv X pins σ H s → t σ H Q → wpAny (model X.prog X.w) X.A (isTrue e X.env (eval e X.env)) (TP X pins σ Q) X.xe s
/-- a test whatever its 'whole' is (and, or) -/
def PW (X : Cx) (e : Expr) (t : TT) : Prop :=
  ∀ (whole : Sem Value) (pins : List (Addr × Obj)) (s : Shared) (σ : St) (H : Hp) (Q : Bool → Hp → Prop), Inv X pins σ H s → t σ H Q → wpAny (model X.prog X.w) X.A (isTrue e X.env whole) (TP X pins σ Q) X.xe s
theorem PW.pt {X : Cx} {e : Expr} {t : TT} (h : PW X e t) : PT X e t := h _
/-- an argument list (no star), from the left -/
def PA (X : Cx) (es : List Expr) (t : TA) : Prop :=
  ∀ (pos : Pos) (pins : List (Addr × Obj)) (s : Shared) (σ : St) (H : Hp) (Q : List V → Hp → Prop), Inv X pins σ H s → t σ H Q → wpAny (model X.prog X.w) X.A (spliced (backTo pos (starEach es X.env))) (AP X pins σ Q) X.xe s
def PS (X : Cx) (st : Stmt) (t : TS) : Prop :=
  ∀ (pins : List (Addr × Obj)) (s : Shared) (σ : St) (H : Hp) (D : Ends), Inv X pins σ H s → t D σ H → wpAny (model X.prog X.w) X.A (exec st X.env) (SP X pins D) X.xe s
def PSs (X : Cx) (st : List Stmt) (t : TS) : Prop :=
  ∀ (pins : List (Addr × Obj)) (s : Shared) (σ : St) (H : Hp) (D : Ends), Inv X pins σ H s → t D σ H → wpAny (model X.prog X.w) X.A (execs st X.env) (SP X pins D) X.xe s
/-- weaken the end -/
theorem thn {α : Type} {t : Sem α} {Q Q' : α → Shared → Prop} {M : Model} {A : Around} {E : Value → Shared → Prop} {s : Shared} (h : wpAny M A t Q E s) (hQ : ∀ a s, Q a s → Q' a s) : wpAny M A t Q' E s := wpAny_mono h hQ fun _ _ x => x
end L2

namespace L2
open PySem PySem.Spec PyProof.Rows
section
variable {X : Cx}

/-- two expressions in a row -/
theorem bin {a b : Expr} {ta tb : TE} (ha : PE X a ta) (hb : PE X b tb) {pins : List (Addr × Obj)} {s : Shared} {σ : St} {H : Hp} {R : V → V → Hp → Prop} (I : Inv X pins σ H s) (h : ta σ H fun x H1 => tb σ H1 fun y H2 => R x y H2)
    {α : Type} {Q : α → Shared → Prop} {f : Value → Value → Sem α}
    (hf : ∀ v u s2 x y H2, Inv X pins σ H2 s2 → RelV x v → RelV y u → R x y H2 → wpAny (model X.prog X.w) X.A (f v u) Q X.xe s2) :
    wpAny (model X.prog X.w) X.A (eval a X.env) (fun v s₁ => wpAny (model X.prog X.w) X.A (eval b X.env) (fun u s₂ => wpAny (model X.prog X.w) X.A (f v u) Q X.xe s₂) X.xe s₁) X.xe s := by
  refine thn (ha pins s σ H _ I h) fun v s1 ⟨x, H1, I1, r1, q1⟩ => ?_
  refine thn (hb pins s1 σ H1 _ I1 q1) fun u s2 ⟨y, H2, I2, r2, q2⟩ => ?_
  exact hf v u s2 x y H2 I2 r1 r2 q2

/-! ### names and constants -/
def tVar (i : Nat) : TE := fun σ H Q => ∃ v, σ[i]? = some (some v) ∧ Q v H
def tC (v : V) : TE := fun _ H Q => Q v H
theorem pe_var {i : Nat} {x : Str} {pos : Pos} (hN : X.N[i]? = some x) (hv : Vis X.env.scope x) (hd : (x == ("__debug__" : Str)) = false := by decide) (hcd : (x == ("__classdict__" : Str)) = false := by decide) : PE X (.Name x pos) (tVar i) := by
  intro pins s σ H Q I h
  obtain ⟨v, e, h⟩ := h
  obtain ⟨m, hn, hl⟩ := I.loc
  obtain ⟨u, r, l⟩ := hl i x v hN e hv
  have fin : EP X pins σ Q u s := ⟨v, H, I, r, h⟩
  rcases l with ⟨hk, hm⟩ | ⟨hk, c, hc, hcell⟩
  · exact wpAny_Name (wpAny_loadName_local I.ok.kind hk hn hm fin) hd
  · rcases hk with hk | hk
    · exact wpAny_Name (wpAny_loadName_cell I.ok.kind hk hc hcell fin) hd
    · exact wpAny_Name (wpAny_loadName_free I.ok.kind hk hc hcell fin hcd) hd
theorem pe_int {i j pos} : PE X (.Constant (.int i) j pos) (tC (.int i)) := fun _ _ _ H _ I h => wpAny_Constant_int ⟨.int i, H, I.tok _, ⟨_, rfl⟩, h⟩
theorem pe_bl {b j pos} : PE X (.Constant (.bool b) j pos) (tC (.bl b)) := fun _ _ _ H _ I h => Constant_bool ⟨.bl b, H, I, rfl, h⟩
theorem pe_non {j pos} : PE X (.Constant .none j pos) (tC .non) := fun _ _ _ H _ I h => Constant_none ⟨.non, H, I, rfl, h⟩
theorem pe_str {x j pos} : PE X (.Constant (.str x) j pos) (tC (.str x)) := fun _ _ _ H _ I h => Calls.Constant_str ⟨.str x, H, I.tok _, ⟨_, rfl⟩, h⟩

/-- a global name of the def -/
def Gl (X : Cx) (x : Str) : Prop := X.env.kindOf x = some .globalImplicit
theorem ld_glob {E : Value → Shared → Prop} {pins : List (Addr × Obj)} {s : Shared} {σ : St} {H : Hp} {x : Str} {u : Value} {pos : Pos} {Q : Value → Shared → Prop} (I : Inv X pins σ H s) (hg : Gl X x) (hm : X.mg x = some u) (h : Q u s)
    (hd : (x == ("__debug__" : Str)) = false := by decide) : wpAny (model X.prog X.w) X.A (eval (.Name x pos) X.env) Q E s :=
  Calls.Name_function_global I.ok.kind hg (Calls.loadGlobal_global (by rw [I.ok.glob]; exact I.mod.glob.keeps I.bk) hm h) hd
theorem ld_blt {E : Value → Shared → Prop} {pins : List (Addr × Obj)} {s : Shared} {σ : St} {H : Hp} {x : Str} {u : Value} {pos : Pos} {Q : Value → Shared → Prop} (I : Inv X pins σ H s) (hg : Gl X x) (hm : X.mg x = none) (hv : bootBuiltins x = some u) (h : Q u s)
    (hn : x ≠ "__name__" := by decide) (hd : (x == ("__debug__" : Str)) = false := by decide) : wpAny (model X.prog X.w) X.A (eval (.Name x pos) X.env) Q E s := by
  obtain ⟨mb, h1, h2⟩ := I.mod.blt
  exact Calls.Name_function_global I.ok.kind hg (Calls.loadGlobal_builtin (by rw [I.ok.glob]; exact I.mod.glob.keeps I.bk) hm (by rw [I.ok.blt]; exact h1.keeps I.bk) ((h2 x hn).trans hv) h) hd
/-- a module's constant, a class, a function, as a value -/
theorem pe_glob {x : Str} {v : V} {u : Value} {pos : Pos} (hg : Gl X x) (hm : X.mg x = some u) (r : RelV v u) (hd : (x == ("__debug__" : Str)) = false := by decide) : PE X (.Name x pos) (tC v) :=
  fun _ _ _ H _ I h => ld_glob I hg hm ⟨v, H, I, r, h⟩ hd
theorem pe_bltn {x : Str} {v : V} {u : Value} {pos : Pos} (hg : Gl X x) (hm : X.mg x = none) (hv : bootBuiltins x = some u) (r : RelV v u) (hn : x ≠ "__name__" := by decide) (hd : (x == ("__debug__" : Str)) = false := by decide) : PE X (.Name x pos) (tC v) :=
  fun _ _ _ H _ I h => ld_blt I hg hm hv ⟨v, H, I, r, h⟩ hn hd

/-! ### arithmetic -/
/-- two ints -/
def t2I (ta tb : TE) (k : Int → Int → Hp → Prop) : St → Hp → Prop := fun σ H => ta σ H fun x H1 => tb σ H1 fun y H2 => ∃ i j, x = .int i ∧ y = .int j ∧ k i j H2
def tAdd (ta tb : TE) : TE := fun σ H Q => t2I ta tb (fun i j H2 => Q (.int (i + j)) H2) σ H
def tSub (ta tb : TE) : TE := fun σ H Q => t2I ta tb (fun i j H2 => Q (.int (i - j)) H2) σ H
/-- the left factor below 2^64 -/
def tMul (ta tb : TE) : TE := fun σ H Q => t2I ta tb (fun i j H2 => (-(2 ^ 64) < i ∧ i < 2 ^ 64) ∧ Q (.int (i * j)) H2) σ H
variable {a b : Expr} {ta tb : TE} {pos : Pos}
theorem pe_add (ha : PE X a ta) (hb : PE X b tb) : PE X (.BinOp a .Add b pos) (tAdd ta tb) := by
  intro pins s σ H Q I h
  refine wpAny_BinOp (bin ha hb I h fun v u s2 x y H2 I2 rx ry q => ?_)
  obtain ⟨i, j, rfl, rfl, q⟩ := q
  obtain ⟨t, rfl⟩ := rx
  obtain ⟨t', rfl⟩ := ry
  exact add_int ⟨.int _, H2, I2.tok _, ⟨_, rfl⟩, q⟩
theorem pe_sub (ha : PE X a ta) (hb : PE X b tb) : PE X (.BinOp a .Sub b pos) (tSub ta tb) := by
  intro pins s σ H Q I h
  refine wpAny_BinOp (bin ha hb I h fun v u s2 x y H2 I2 rx ry q => ?_)
  obtain ⟨i, j, rfl, rfl, q⟩ := q
  obtain ⟨t, rfl⟩ := rx
  obtain ⟨t', rfl⟩ := ry
  exact sub_int ⟨.int _, H2, I2.tok _, ⟨_, rfl⟩, q⟩
theorem pe_mul (ha : PE X a ta) (hb : PE X b tb) : PE X (.BinOp a .Mult b pos) (tMul ta tb) := by
  intro pins s σ H Q I h
  refine wpAny_BinOp (bin ha hb I h fun v u s2 x y H2 I2 rx ry q => ?_)
  obtain ⟨i, j, rfl, rfl, ⟨q1, q2⟩, q⟩ := q
  obtain ⟨t, rfl⟩ := rx
  obtain ⟨t', rfl⟩ := ry
  exact mul_int ⟨.int _, H2, I2.tok _, ⟨_, rfl⟩, q⟩ (.of_left (intBits_le_64 q1 q2))

/-! ### comparisons -/
def PC (X : Cx) (op : CmpOp) (a b : Expr) (t : TE) : Prop :=
  ∀ (pins : List (Addr × Obj)) (s : Shared) (σ : St) (H : Hp) (Q : VK), Inv X pins σ H s → t σ H Q →
    wpAny (model X.prog X.w) X.A (eval a X.env) (fun v s₁ => wpAny (model X.prog X.w) X.A (eval b X.env) (fun u s₂ => wpAny (model X.prog X.w) X.A (compareOp op v u) (EP X pins σ Q) X.xe s₂) X.xe s₁) X.xe s
theorem nobehind (b : Expr) {op : CmpOp} (h : op ≠ .In) (h2 : op ≠ .NotIn) : behindInMarks op b = false := by
  have e1 : (op == CmpOp.In) = false := by cases op <;> first | rfl | exact absurd rfl h
  have e2 : (op == CmpOp.NotIn) = false := by cases op <;> first | rfl | exact absurd rfl h2
  cases b <;> simp [behindInMarks, e1, e2]
def tCmp (p : Int → Int → Bool) (ta tb : TE) : TE := fun σ H Q => t2I ta tb (fun i j H2 => Q (.bl (p i j)) H2) σ H
abbrev tLt : TE → TE → TE := tCmp fun i j => decide (i < j)
abbrev tLe : TE → TE → TE := tCmp fun i j => decide (i ≤ j)
abbrev tGt : TE → TE → TE := tCmp fun i j => decide (j < i)
abbrev tGe : TE → TE → TE := tCmp fun i j => decide (j ≤ i)
abbrev tEqI : TE → TE → TE := tCmp fun i j => decide (i = j)
abbrev tNeI : TE → TE → TE := tCmp fun i j => !decide (i = j)
/-- a comparison of two ints, by its rule -/
theorem pc_int {op : CmpOp} {p : Int → Int → Bool} (ha : PE X a ta) (hb : PE X b tb)
    (rule : ∀ (i j : Int) (t u : Tok) (Q : Value → Shared → Prop) (s : Shared), Q (.bool (p i j)) s → wpAny (model X.prog X.w) X.A (compareOp op (.int i t) (.int j u)) Q X.xe s) : PC X op a b (tCmp p ta tb) := by
  intro pins s σ H Q I h
  refine bin ha hb I h fun v u s2 x y H2 I2 rx ry q => ?_
  obtain ⟨i, j, rfl, rfl, q⟩ := q
  obtain ⟨t, rfl⟩ := rx
  obtain ⟨t', rfl⟩ := ry
  exact rule i j t t' _ s2 ⟨.bl _, H2, I2, rfl, q⟩
theorem pc_lt (ha : PE X a ta) (hb : PE X b tb) : PC X .Lt a b (tLt ta tb) := pc_int ha hb fun _ _ _ _ _ _ h => lt_int h
theorem pc_le (ha : PE X a ta) (hb : PE X b tb) : PC X .LtE a b (tLe ta tb) := pc_int ha hb fun _ _ _ _ _ _ h => le_int h
theorem pc_gt (ha : PE X a ta) (hb : PE X b tb) : PC X .Gt a b (tGt ta tb) := pc_int ha hb fun _ _ _ _ _ _ h => gt_int h
theorem pc_ge (ha : PE X a ta) (hb : PE X b tb) : PC X .GtE a b (tGe ta tb) := pc_int ha hb fun _ _ _ _ _ _ h => ge_int h
theorem pc_eqI (ha : PE X a ta) (hb : PE X b tb) : PC X .Eq a b (tEqI ta tb) := pc_int ha hb fun _ _ _ _ _ _ h => eq_int (by rw [Bool.beq_eq_decide_eq]; exact h)
theorem pc_neI (ha : PE X a ta) (hb : PE X b tb) : PC X .NotEq a b (tNeI ta tb) := pc_int ha hb fun _ _ _ _ _ _ h => ne_int (by rw [bne, Bool.beq_eq_decide_eq]; exact h)
/-- is None -/
def tIsN (ta : TE) : TE := fun σ H Q => ta σ H fun x H1 => Q (.bl (decide (x = .non))) H1
def tNotN (ta : TE) : TE := fun σ H Q => ta σ H fun x H1 => Q (.bl (!decide (x = .non))) H1
theorem RelV.none_iff {x : V} {v : Value} (r : RelV x v) : (v == Value.none) = decide (x = .non) := by
  cases x with
  | non => cases r; rfl
  | bl _ => cases r; rfl
  | int _ => obtain ⟨t, rfl⟩ := r; rfl
  | str _ => obtain ⟨t, rfl⟩ := r; rfl
  | byt _ => obtain ⟨t, rfl⟩ := r; rfl
  | flt _ => obtain ⟨t, rfl⟩ := r; rfl
  | ref _ => cases r; rfl
  | ty _ => cases r; rfl
theorem pc_isN {j pos'} (ha : PE X a ta) : PC X .Is a (.Constant .none j pos') (tIsN ta) := by
  intro pins s σ H Q I h
  refine thn (ha pins s σ H _ I h) fun v s1 ⟨x, H1, I1, r1, q1⟩ => ?_
  exact Constant_none (is_none_gen ⟨.bl _, H1, I1, by rw [r1.none_iff]; rfl, q1⟩)
theorem pc_notN {j pos'} (ha : PE X a ta) : PC X .IsNot a (.Constant .none j pos') (tNotN ta) := by
  intro pins s σ H Q I h
  refine thn (ha pins s σ H _ I h) fun v s1 ⟨x, H1, I1, r1, q1⟩ => ?_
  exact Constant_none (isnot_none_gen ⟨.bl _, H1, I1, by rw [r1.none_iff]; rfl, q1⟩)
/-- a comparison as a value, as a test -/
def tB (t : TE) : TT := fun σ H Q => t σ H fun x H1 => ∃ c, x = .bl c ∧ Q c H1
theorem pe_cmp {op : CmpOp} {t : TE} (h : PC X op a b t) (h1 : behindInMarks op b = false := by first | exact nobehind _ (by decide) (by decide) | rfl) : PE X (.Compare a [op] [b] pos) t := fun pins s σ H Q I hw => wpAny_Compare1 (h pins s σ H Q I hw) h1
theorem pt_cmp {op : CmpOp} {t : TE} (h : PC X op a b t) (h1 : behindInMarks op b = false := by first | exact nobehind _ (by decide) (by decide) | rfl) : PT X (.Compare a [op] [b] pos) (tB t) := by
  intro pins s σ H Q I hw
  refine wpAny_isTrue_Compare1 (thn (h pins s σ H _ I hw) fun v s1 h1 => thn h1 fun u s2 h2 => thn h2 fun c s3 ⟨x, H1, I1, r1, q1⟩ => ?_) h1
  obtain ⟨d, rfl, q⟩ := q1
  cases r1
  exact wpAny_truthy_bool ⟨H1, I1, q⟩
/-- an expression whose value is a bool, as a test -/
theorem pt_val {e : Expr} {t : TE} (h : PE X e t) (he : ∀ whole, isTrue e X.env whole = (do let v ← whole; standAt e.pos; holding [v] (truthy v)) := by intro _; rfl) : PT X e (tB t) := by
  intro pins s σ H Q I hw
  refine isTrue_plain (thn (h pins s σ H _ I hw) fun v s1 ⟨x, H1, I1, r1, q1⟩ => ?_) (he _)
  obtain ⟨d, rfl, q⟩ := q1
  cases r1
  exact wpAny_truthy_bool ⟨H1, I1, q⟩

/-! ### and, or, not -/
variable {tA tB' : TT} {rest : List Expr}
def tAnd (t u : TT) : TT := fun σ H Q => t σ H fun c H1 => if c = true then u σ H1 Q else Q false H1
def tOr (t u : TT) : TT := fun σ H Q => t σ H fun c H1 => if c = true then Q true H1 else u σ H1 Q
def tNot (t : TT) : TT := fun σ H Q => t σ H fun c H1 => Q (!c) H1
theorem pw_and1 (ha : PT X a tA) : PW X (.BoolOp .And [a] pos) tA := by
  intro wh pins s σ H Q I h
  refine isTrue_and (thn (ha pins s σ H Q I h) fun c s1 e => ?_)
  cases c with
  | true => exact isTrue_and_nil e
  | false => exact e
theorem pw_or1 (ha : PT X a tA) : PW X (.BoolOp .Or [a] pos) tA := by
  intro wh pins s σ H Q I h
  refine isTrue_or (thn (ha pins s σ H Q I h) fun c s1 e => ?_)
  cases c with
  | false => exact isTrue_or_nil e
  | true => exact e
theorem pw_and (ha : PT X a tA) (hb : PW X (.BoolOp .And (b :: rest) pos) tB') : PW X (.BoolOp .And (a :: b :: rest) pos) (tAnd tA tB') := by
  intro wh pins s σ H Q I h
  refine isTrue_and (thn (ha pins s σ H _ I h) fun c s1 ⟨H1, I1, q1⟩ => ?_)
  cases c with
  | true => exact hb wh pins s1 σ H1 Q I1 q1
  | false => exact ⟨H1, I1, q1⟩
theorem pw_or (ha : PT X a tA) (hb : PW X (.BoolOp .Or (b :: rest) pos) tB') : PW X (.BoolOp .Or (a :: b :: rest) pos) (tOr tA tB') := by
  intro wh pins s σ H Q I h
  refine isTrue_or (thn (ha pins s σ H _ I h) fun c s1 ⟨H1, I1, q1⟩ => ?_)
  cases c with
  | true => exact ⟨H1, I1, q1⟩
  | false => exact hb wh pins s1 σ H1 Q I1 q1
theorem pt_not (ha : PT X a tA) : PT X (.UnaryOp .Not a pos) (tNot tA) := by
  intro pins s σ H Q I h
  exact isTrue_not (ha pins s σ H (fun c H1 => Q (!c) H1) I h)
/-- .. as values (bools) -/
def tAndV (ta tb : TE) : TE := fun σ H Q => ta σ H fun x H1 => ∃ c, x = .bl c ∧ if c = true then tb σ H1 Q else Q (.bl false) H1
def tOrV (ta tb : TE) : TE := fun σ H Q => ta σ H fun x H1 => ∃ c, x = .bl c ∧ if c = true then Q (.bl true) H1 else tb σ H1 Q
def tNotV (ta : TE) : TE := fun σ H Q => ta σ H fun x H1 => ∃ c, x = .bl c ∧ Q (.bl (!c)) H1
theorem pe_one {op} {t : TE} (h : PE X a t) : PE X (.BoolOp op [a] pos) t := fun pins s σ H Q I hw => BoolOp_one (h pins s σ H Q I hw)
theorem pe_and (ha : PE X a ta) (hb : PE X (.BoolOp .And (b :: rest) pos) tb) : PE X (.BoolOp .And (a :: b :: rest) pos) (tAndV ta tb) := by
  intro pins s σ H Q I h
  refine BoolOp_and (thn (ha pins s σ H _ I h) fun v s1 ⟨x, H1, I1, r1, q1⟩ => ?_)
  obtain ⟨c, rfl, q1⟩ := q1
  cases r1
  refine wpAny_truthy_bool ?_
  cases c with
  | true => exact hb pins s1 σ H1 Q I1 q1
  | false => exact ⟨.bl false, H1, I1, rfl, q1⟩
theorem pe_or (ha : PE X a ta) (hb : PE X (.BoolOp .Or (b :: rest) pos) tb) : PE X (.BoolOp .Or (a :: b :: rest) pos) (tOrV ta tb) := by
  intro pins s σ H Q I h
  refine BoolOp_or (thn (ha pins s σ H _ I h) fun v s1 ⟨x, H1, I1, r1, q1⟩ => ?_)
  obtain ⟨c, rfl, q1⟩ := q1
  cases r1
  refine wpAny_truthy_bool ?_
  cases c with
  | false => exact hb pins s1 σ H1 Q I1 q1
  | true => exact ⟨.bl true, H1, I1, rfl, q1⟩
theorem pe_not (ha : PE X a ta) : PE X (.UnaryOp .Not a pos) (tNotV ta) := by
  intro pins s σ H Q I h
  refine UnaryOp_ (thn (ha pins s σ H _ I h) fun v s1 ⟨x, H1, I1, r1, q1⟩ => ?_)
  obtain ⟨c, rfl, q1⟩ := q1
  cases r1
  exact not_of (wpAny_truthy_bool ⟨.bl (!c), H1, I1, rfl, q1⟩)
/-- a if t else b -/
def tIf (t : TT) (ta tb : TE) : TE := fun σ H Q => t σ H fun c H1 => if c = true then ta σ H1 Q else tb σ H1 Q
theorem pe_ifExp {c : Expr} (hc : PT X c tA) (ha : PE X a ta) (hb : PE X b tb) : PE X (.IfExp c a b pos) (tIf tA ta tb) := by
  intro pins s σ H Q I h
  refine wpAny_IfExp (thn (hc pins s σ H _ I h) fun d s1 ⟨H1, I1, q1⟩ => ?_)
  cases d with
  | true => exact ha pins s1 σ H1 Q I1 q1
  | false => exact hb pins s1 σ H1 Q I1 q1
end
end L2

namespace L2
open PySem PySem.Spec PyProof.Rows

/-! ### a list, a tuple that is read: tracked, frozen, or an object of the module -/
def SqL (K : PySem.W.Frag) (H : Hp) (a : Addr) (xs : List V) : Prop :=
  Rd H a (.lst xs) ∨
    ∃ (o : Obj) (its : Array Value) (n : Nat), K.lookup a = some o ∧ o.cls = .type "list" ∧ o.dict = none ∧ o.data = .seq its n ∧ its.size ≤ sizeLine ∧ Vals xs its.toList
def SqT (K : PySem.W.Frag) (H : Hp) (a : Addr) (xs : List V) : Prop :=
  Rd H a (.tup xs) ∨
    ∃ (o : Obj) (its : Array Value) (n : Nat), K.lookup a = some o ∧ o.cls = .type "tuple" ∧ o.data = .seq its n ∧ its.size ≤ sizeLine ∧ Vals xs its.toList
def absV : Value → Option V
  | .none => some .non
  | .bool b => some (.bl b)
  | .int i _ => some (.int i)
  | .str x _ => some (.str x)
  | .bytes b _ => some (.byt b)
  | .float b _ => some (.flt b)
  | .ref a => some (.ref a)
  | .type n => some (.ty n)
  | _ => none
theorem RelV.abs {x : V} {u : Value} (r : RelV x u) : absV u = some x := by
  cases x with
  | non => cases r; rfl
  | bl _ => cases r; rfl
  | int _ => obtain ⟨t, rfl⟩ := r; rfl
  | str _ => obtain ⟨t, rfl⟩ := r; rfl
  | byt _ => obtain ⟨t, rfl⟩ := r; rfl
  | flt _ => obtain ⟨t, rfl⟩ := r; rfl
  | ref _ => cases r; rfl
  | ty _ => cases r; rfl
theorem RelV.inj {x y : V} {u : Value} (r : RelV x u) (q : RelV y u) : x = y := Option.some.inj (r.abs.symm.trans q.abs)
theorem Vals.inj : ∀ {xs ys : List V} {us : List Value}, Vals xs us → Vals ys us → xs = ys
  | _, _, _, .nil, .nil => rfl
  | _, _, _, .cons r t, .cons r' t' => by rw [r.inj r', Vals.inj t t']
section
variable {X : Cx} {pins : List (Addr × Obj)} {σ : St} {H : Hp} {s : Shared} {a : Addr} {xs ys : List V}
theorem SqL.of {K : PySem.W.Frag} (h : H a = some (.lst xs)) : SqL K H a xs := .inl (.inl h)
theorem SqT.of {K : PySem.W.Frag} (h : H a = some (.tup xs)) : SqT K H a xs := .inl (.inl h)
theorem Inv.list (I : Inv X pins σ H s) (h : SqL X.K H a xs) : ∃ its : List Value, Vals xs its ∧ PlainL s.heap a its.toArray ∧ xs.length ≤ sizeLine := by
  rcases h with h | ⟨o, its, n, hk, hc, hd, hs, hz, r⟩
  · obtain ⟨z, its, n, r, e⟩ := h.ok I.hok
    exact ⟨its, r, ⟨_, n, e, rfl, rfl, rfl⟩, z⟩
  · refine ⟨its.toList, r, ⟨o, n, I.kIn a o hk, hc, hd, by simpa using hs⟩, ?_⟩
    have e := r.length
    simp only [Array.length_toList] at e
    omega
theorem Inv.tuple (I : Inv X pins σ H s) (h : SqT X.K H a xs) : ∃ its : List Value, Vals xs its ∧ IsTup s.heap a its.toArray ∧ xs.length ≤ sizeLine := by
  rcases h with h | ⟨o, its, n, hk, hc, hs, hz, r⟩
  · obtain ⟨z, its, r, p⟩ := h.ok I.hok
    exact ⟨its, r, p, z⟩
  · refine ⟨its.toList, r, ⟨o, I.kIn a o hk, hc, n, by simpa using hs⟩, ?_⟩
    have e := r.length
    simp only [Array.length_toList] at e
    omega
theorem Inv.list_inj (I : Inv X pins σ H s) (h : SqL X.K H a xs) (h' : SqL X.K H a ys) : xs = ys := by
  obtain ⟨its, r, ⟨o, n, e, _, _, d⟩, _⟩ := I.list h
  obtain ⟨its', r', ⟨o', n', e', _, _, d'⟩, _⟩ := I.list h'
  rw [e] at e'; cases e'
  rw [d] at d'
  injection d' with d1 _
  have : its = its' := by simpa using congrArg Array.toList d1
  subst this
  exact r.inj r'
theorem Inv.tuple_inj (I : Inv X pins σ H s) (h : SqT X.K H a xs) (h' : SqT X.K H a ys) : xs = ys := by
  obtain ⟨its, r, ⟨o, e, _, n, d⟩, _⟩ := I.tuple h
  obtain ⟨its', r', ⟨o', e', _, n', d'⟩, _⟩ := I.tuple h'
  rw [e] at e'; cases e'
  rw [d] at d'
  injection d' with d1 _
  have : its = its' := by simpa using congrArg Array.toList d1
  subst this
  exact r.inj r'
end

/-! ### another wish about exceptions -/
abbrev Cx.wish (X : Cx) (E : Value → Shared → Prop) : Cx := { X with xe := E }
/-- no exception leaves -/
abbrev Cx.nox (X : Cx) : Cx := X.wish fun _ _ => False
theorem Cx.Ok.wish {X : Cx} (ok : X.Ok) (E : Value → Shared → Prop) : (X.wish E).Ok :=
  ⟨ok.mod, ok.kind, ok.glob, ok.blt, ok.above, ok.inj, ok.has, ok.cab, ok.hd, ok.frames, ok.stk, ok.exf, ok.bs, ok.bsz, ok.noex, ok.exfs, ok.funs, ok.frf⟩
theorem Cx.Ok.unwish {X : Cx} {E : Value → Shared → Prop} (ok : (X.wish E).Ok) : X.Ok :=
  ⟨ok.mod, ok.kind, ok.glob, ok.blt, ok.above, ok.inj, ok.has, ok.cab, ok.hd, ok.frames, ok.stk, ok.exf, ok.bs, ok.bsz, ok.noex, ok.exfs, ok.funs, ok.frf⟩
section
variable {X : Cx} {pins : List (Addr × Obj)} {σ : St} {H : Hp} {s : Shared} {E : Value → Shared → Prop}
theorem Inv.wish (I : Inv X pins σ H s) (E : Value → Shared → Prop) : Inv (X.wish E) pins σ H s := ⟨I.ok.wish E, I.os, I.bare, I.base, I.loc, I.cell, I.free, I.freeC, I.pin, I.hok, I.len⟩
theorem Inv.unwish (I : Inv (X.wish E) pins σ H s) : Inv X pins σ H s := ⟨I.ok.unwish, I.os, I.bare, I.base, I.loc, I.cell, I.free, I.freeC, I.pin, I.hok, I.len⟩
theorem SP.unwish {D : Ends} {f : Flow} {s' : Shared} (h : SP (X.wish E) pins D f s') : SP X pins D f s' := by
  cases f with
  | next => obtain ⟨σ', H', I, q⟩ := h; exact ⟨σ', H', I.unwish, q⟩
  | brk => obtain ⟨σ', H', I, q⟩ := h; exact ⟨σ', H', I.unwish, q⟩
  | cont => obtain ⟨σ', H', I, q⟩ := h; exact ⟨σ', H', I.unwish, q⟩
  | ret u => obtain ⟨v, σ', H', I, r, q⟩ := h; exact ⟨v, σ', H', I.unwish, r, q⟩
theorem PE.nox {e : Expr} {t : TE} (h : PE X.nox e t) : PE X e t := fun pins s σ H Q I hw =>
  wpAny_mono (h pins s σ H Q (I.wish _) hw) (fun _ _ ⟨v, H', I', r, q⟩ => ⟨v, H', I'.unwish, r, q⟩) fun _ _ z => False.elim z
theorem PT.nox {e : Expr} {t : TT} (h : PT X.nox e t) : PT X e t := fun pins s σ H Q I hw =>
  wpAny_mono (h pins s σ H Q (I.wish _) hw) (fun _ _ ⟨H', I', q⟩ => ⟨H', I'.unwish, q⟩) fun _ _ z => False.elim z
theorem PSs.nox {st : List Stmt} {t : TS} (h : PSs X.nox st t) : PSs X st t := fun pins s σ H D I hw =>
  wpAny_mono (h pins s σ H D (I.wish _) hw) (fun _ _ q => q.unwish) fun _ _ z => False.elim z
end

/-! ### blocks and small statements -/
section
variable {X : Cx} {st : Stmt} {rest : List Stmt} {t u : TS} {e : Expr} {te : TE} {pos : Pos}
def tNext : TS := fun D σ H => D.nx σ H
def tSeq (t u : TS) : TS := fun D σ H => t { D with nx := u D } σ H
theorem pss_nil : PSs X [] tNext := fun _ _ σ H _ I h => wpAny_execs_nil ⟨σ, H, I, h⟩
theorem pss_cons (h1 : PS X st t) (h2 : PSs X rest u) : PSs X (st :: rest) (tSeq t u) := by
  intro pins s σ H D I h
  refine wpAny_execs_cons (thn (h1 pins s σ H { D with nx := u D } I h) fun f s1 q => ?_)
  cases f with
  | next =>
    obtain ⟨σ', H', I', q⟩ := q
    exact h2 pins s1 σ' H' D I' q
  | ret v => exact q
  | brk => exact q
  | cont => exact q
theorem pss_one (h1 : PS X st t) : PSs X [st] t := by
  intro pins s σ H D I h
  refine wpAny_execs_cons (thn (h1 pins s σ H D I h) fun f s1 q => ?_)
  cases f with
  | next => exact wpAny_execs_nil q
  | ret v => exact q
  | brk => exact q
  | cont => exact q
def tBreak : TS := fun D σ H => D.bk σ H
def tCont : TS := fun D σ H => D.ct σ H
theorem ps_pass : PS X (.Pass pos) tNext := fun _ _ σ H _ I h => wpAny_Pass ⟨σ, H, I, h⟩
theorem ps_break : PS X (.Break pos) tBreak := fun _ _ σ H _ I h => wpAny_Break ⟨σ, H, I, h⟩
theorem ps_continue : PS X (.Continue pos) tCont := fun _ _ σ H _ I h => wpAny_Continue ⟨σ, H, I, h⟩
/-- in a def's body nothing is shown -/
theorem Inv.quiet {pins : List (Addr × Obj)} {σ : St} {H : Hp} {s : Shared} (I : Inv X pins σ H s) : interactive X.env = false := by simp [interactive, I.ok.kind]
/-- a docstring -/
theorem ps_doc {x j pos pos'} : PS X (.Expr (.Constant (.str x) j pos) pos') tNext := fun _ s σ H _ I h => wpAny_Expr (Calls.Constant_str (show SP X _ _ .next { s with toks := s.toks + 1 } from ⟨σ, H, I.tok _, h⟩)) I.quiet
/-- an expression whose value is dropped -/
def tDrop (te : TE) : TS := fun D σ H => te σ H fun _ H1 => D.nx σ H1
theorem ps_expr (he : PE X e te) (hs : swapsWith e none pos.line X.env = pure false := by rfl) : PS X (.Expr e pos) (tDrop te) := by
  intro pins s σ H D I h
  exact wpAny_Expr_any (thn (he pins s σ H _ I h) fun v s1 ⟨x, H1, I1, r1, q1⟩ => ⟨σ, H1, I1, q1⟩) I.quiet hs
def tRet (te : TE) : TS := fun D σ H => te σ H D.rt
theorem ps_ret (he : PE X e te) : PS X (.Return (some e) pos) (tRet te) := by
  intro pins s σ H D I h
  exact wpAny_Return_some (thn (he pins s σ H _ I h) fun v s1 ⟨x, H1, I1, r1, q1⟩ => ⟨x, σ, H1, I1, r1, q1⟩)
def tRetN : TS := fun D _ H => D.rt .non H
theorem ps_retN : PS X (.Return none pos) tRetN := fun _ _ σ H _ I h => wpAny_Return_none ⟨.non, σ, H, I, rfl, h⟩
def tIfS (c : TT) (t u : TS) : TS := fun D σ H => c σ H fun b H1 => if b = true then t D σ H1 else u D σ H1
theorem ps_if {c : Expr} {a b : List Stmt} {tc : TT} (hc : PT X c tc) (ha : PSs X a t) (hb : PSs X b u) : PS X (.If c a b pos) (tIfS tc t u) := by
  intro pins s σ H D I h
  refine wpAny_If (thn (hc pins s σ H _ I h) fun d s1 ⟨H1, I1, q1⟩ => ?_)
  cases d with
  | true => exact ha pins s1 σ H1 D I1 q1
  | false => exact hb pins s1 σ H1 D I1 q1
/-- code that the proof never comes to -/
def tNever : TS := fun _ _ _ => False
theorem ps_never : PS X st tNever := fun _ _ _ _ _ _ h => h.elim
theorem pss_never {sts : List Stmt} : PSs X sts tNever := fun _ _ _ _ _ _ h => h.elim
end

/-! ### targets -/
abbrev TG := V → St → Hp → (St → Hp → Prop) → Prop
abbrev TGs := List V → St → Hp → (St → Hp → Prop) → Prop
def PG (X : Cx) (target : Expr) (t : TG) : Prop :=
  ∀ (pins : List (Addr × Obj)) (s : Shared) (σ : St) (H : Hp) (v : V) (u : Value) (Q : St → Hp → Prop), Inv X pins σ H s → RelV v u → t v σ H Q →
    wpAny (model X.prog X.w) X.A (assign target X.env u) (fun _ s' => ∃ σ' H', Inv X pins σ' H' s' ∧ Q σ' H') X.xe s
/-- several targets, one after another -/
def PGs (X : Cx) (ts : List Expr) (t : TGs) : Prop :=
  ∀ (pins : List (Addr × Obj)) (s : Shared) (σ : St) (H : Hp) (vs : List V) (us : List Value) (Q : St → Hp → Prop), Inv X pins σ H s → Vals vs us → t vs σ H Q →
    wpAny (model X.prog X.w) X.A (assignInOrder ((assignEach ts X.env).map (·.2)) us) (fun _ s' => ∃ σ' H', Inv X pins σ' H' s' ∧ Q σ' H') X.xe s
/-- o[i] = v, by values -/
abbrev TSet := V → V → V → Hp → (Hp → Prop) → Prop
def PSet (X : Cx) (t : TSet) : Prop :=
  ∀ (pins : List (Addr × Obj)) (s : Shared) (σ : St) (H : Hp) (o i v : V) (ov iv u : Value) (Q : Hp → Prop), Inv X pins σ H s → RelV o ov → RelV i iv → RelV v u → t o i v H Q →
    wpAny (model X.prog X.w) X.A (setItem ov iv u) (fun _ s' => ∃ H', Inv X pins σ H' s' ∧ Q H') X.xe s
/-- a op= b, by values -/
abbrev TIp := V → V → Hp → VK → Prop
def PIp (X : Cx) (op : Operator) (t : TIp) : Prop :=
  ∀ (pins : List (Addr × Obj)) (s : Shared) (σ : St) (H : Hp) (x y : V) (v u : Value) (Q : VK), Inv X pins σ H s → RelV x v → RelV y u → t x y H Q →
    wpAny (model X.prog X.w) X.A (inplaceOp op v u) (EP X pins σ Q) X.xe s
section
variable {X : Cx} {pos : Pos}
def gName (i : Nat) : TG := fun v σ H Q => Q (σ.set i (some v)) H
theorem pg_name {i : Nat} {x : Str} (hN : X.N.Nodup) (hi : X.N[i]? = some x) (hx : Loc X.env.scope x) (hf : X.fn x = true ∨ X.env.scope.names.lookup x = some .local := by first | exact .inl rfl | exact .inr rfl | assumption) : PG X (.Name x pos) (gName i) := by
  intro pins s σ H v u Q I r h
  exact wpAny_assign_Name (store_ok I hN hi hx r (fun s' I' => ⟨_, H, I', h⟩) hf)
def gNil : TGs := fun vs σ H Q => vs = [] ∧ Q σ H
def gCons (t : TG) (u : TGs) : TGs := fun vs σ H Q => ∃ v r, vs = v :: r ∧ t v σ H fun σ' H' => u r σ' H' Q
theorem pgs_nil : PGs X [] gNil := by
  intro pins s σ H vs us Q I r h
  obtain ⟨e, h⟩ := h
  subst e
  cases r
  exact assignInOrder_nil ⟨σ, H, I, h⟩
theorem pgs_cons {e : Expr} {es : List Expr} {t : TG} {u : TGs} (h1 : PG X e t) (h2 : PGs X es u)
    (hs : (assignEach (e :: es) X.env).map (·.2) = assign e X.env :: (assignEach es X.env).map (·.2) := by rfl) : PGs X (e :: es) (gCons t u) := by
  intro pins s σ H vs us Q I r h
  obtain ⟨v, vr, e1, h⟩ := h
  subst e1
  cases r with
  | cons r rr =>
    rw [hs]
    refine assignInOrder_cons (thn (h1 pins s σ H _ _ _ I r h) fun _ s1 ⟨σ1, H1, I1, q1⟩ => ?_)
    exact h2 pins s1 σ1 H1 _ _ Q I1 rr q1
/-- (a, b, ..) = a tuple of that length -/
def gTup (K : PySem.W.Frag) (n : Nat) (t : TGs) : TG := fun v σ H Q => ∃ a xs, v = .ref a ∧ SqT K H a xs ∧ xs.length = n ∧ t xs σ H Q
theorem pg_tup {es : List Expr} {k : Nat} {t : TGs} {n : Nat} (hc : X.calm = true) (h : PGs X es t)
    (hn : (assignEach es X.env).length = n := by rfl) (hst : (assignEach es X.env).findIdx? (·.1) = none := by rfl) : PG X (.Tuple es k pos) (gTup X.K n t) := by
  intro pins s σ H v u Q I r hw
  obtain ⟨a, xs, e1, hq, hl, hw⟩ := hw
  subst e1
  cases r
  obtain ⟨its, rv, ht, hz⟩ := I.tuple hq
  refine assign_Tuple_tuple (I.ok.hd hc) ht (by simp [hn, ← hl, rv.length]) hst fun h' hx => ?_
  have I1 : Inv X pins σ H { s with heap := h' } := I.kept (t' := s.toks) fun b o e => hx b o (Nat.ne_of_lt (Heap.lt_size e)) e
  exact h pins _ σ H xs _ Q I1 (by simpa using rv) hw
/-- o[i] = .. -/
def gSub (to ti : TE) (t : TSet) : TG := fun v σ H Q => to σ H fun o H1 => ti σ H1 fun i H2 => t o i v H2 fun H3 => Q σ H3
theorem pg_sub {o i : Expr} {to ti : TE} {t : TSet} (ho : PE X o to) (hi : PE X i ti) (hs : PSet X t)
    (ha : ∀ v, assign (.Subscript o i pos) X.env v = (do
      let ov ← holding [v] (eval o X.env)
      let iv ← holding [v, ov] (eval i X.env)
      standAt pos
      holding [v, ov, iv] (setItem ov iv v)
      release [v, ov, iv] []) := by intro _; rfl) : PG X (.Subscript o i pos) (gSub to ti t) := by
  intro pins s σ H v u Q I r h
  rw [ha]
  refine wpAny_bind (wpAny_holding (thn (ho pins s σ H _ I h) fun ov s1 ⟨x, H1, I1, r1, q1⟩ => ?_))
  refine wpAny_bind (wpAny_holding (thn (hi pins s1 σ H1 _ I1 q1) fun iv s2 ⟨y, H2, I2, r2, q2⟩ => ?_))
  refine wpAny_bind (wpAny_standAt (wpAny_bind (wpAny_holding (thn (hs pins s2 σ H2 x y v ov iv u _ I2 r1 r2 r q2) fun _ s3 ⟨H3, I3, q3⟩ => ?_))))
  exact wpAny_release ⟨σ, H3, I3, q3⟩
/-- target = value -/
def tAsg (te : TE) (g : TG) : TS := fun D σ H => te σ H fun x H1 => g x σ H1 D.nx
theorem ps_asg {tg e : Expr} {te : TE} {g : TG} (he : PE X e te) (hg : PG X tg g) (hs : swapsWithSole [tg] e pos.line X.env = pure false := by rfl) (hw : swappedStores [tg] e X.env = pure none := by rfl)
    (h1 : (assignEach [tg] X.env).map (·.2) = [assign tg X.env] := by rfl) : PS X (.Assign [tg] e pos) (tAsg te g) := by
  intro pins s σ H D I h
  refine wpAny_Assign_stores (thn (he pins s σ H _ I h) fun v s1 ⟨x, H1, I1, r1, q1⟩ => ?_) hs hw
  rw [h1]
  exact thn (hg pins s1 σ H1 x v _ I1 r1 q1) fun _ s2 q => q
/-- name = value -/
theorem ps_set {i : Nat} {x : Str} {e : Expr} {te : TE} {pos' : Pos} (hN : X.N.Nodup) (hi : X.N[i]? = some x) (hx : Loc X.env.scope x) (he : PE X e te) (hs : swapsWith e (some (.Name x pos')) pos.line X.env = pure false := by rfl) (hf : X.fn x = true ∨ X.env.scope.names.lookup x = some .local := by first | exact .inl rfl | exact .inr rfl | assumption) :
    PS X (.Assign [.Name x pos'] e pos) (tAsg te (gName i)) := by
  intro pins s σ H D I h
  refine wpAny_Assign_Name (thn (he pins s σ H _ I h) fun v s1 ⟨y, H1, I1, r1, q1⟩ => ?_) hs
  exact store_ok I1 hN hi hx r1 (fun s2 I2 => ⟨_, H1, I2, q1⟩) hf
/-- a, b = x, y with plain local names: stored from the right; the pair itself is not tracked (the opening rows as in PyProof/Rows/TupAssign.lean:23) -/
def tPar (i j : Nat) (ta : TA) : TS := fun D σ H => ta σ H fun vs H1 => ∃ v w, vs = [v, w] ∧ D.nx ((σ.set i (some v)).set j (some w)) H1
theorem ps_par {i j : Nat} {x y : Str} {a b : Expr} {ta : TA} {px py pt : Pos} {kt k2 pt2} (hc : X.calm = true) (hN : X.N.Nodup) (hi : X.N[i]? = some x) (hj : X.N[j]? = some y) (hij : i ≠ j)
    (hx : X.env.scope.names.lookup x = some .local) (hy : X.env.scope.names.lookup y = some .local) (ha : PA X [a, b] ta)
    (hw : swappedStores [.Tuple [.Name x px, .Name y py] kt pt] (.Tuple [a, b] k2 pt2) X.env = pure (some [x, y]))
    (hs : swapsWithSole [.Tuple [.Name x px, .Name y py] kt pt] (.Tuple [a, b] k2 pt2) pos.line X.env = pure false := by rfl) :
    PS X (.Assign [.Tuple [.Name x px, .Name y py] kt pt] (.Tuple [a, b] k2 pt2) pos) (tPar i j ta) := by
  intro pins s σ H D I h
  rw [exec_Assign_arm]
  refine wpAny_bind (wpAny_standAt ?_)
  rw [hs]
  refine wpAny_bind (wpAny_pure ?_)
  rw [if_neg (by decide)]
  refine wpAny_bind (Tuple_ (thn (ha _ pins s σ H _ I h) fun us s1 ⟨vs, H1, I1, r1, q1⟩ => ?_))
  obtain ⟨v, w, e1, q1⟩ := q1
  subst e1
  obtain ⟨u1, u2, rfl, rv, rw'⟩ : ∃ u1 u2, us = [u1, u2] ∧ RelV v u1 ∧ RelV w u2 := by
    cases r1 with
    | cons p q =>
      cases q with
      | cons p' q' =>
        cases q'
        exact ⟨_, _, rfl, p, p'⟩
  refine wpAny_newObj_type ?_ (by show 2 ≤ sizeLine; decide)
  have I2 : Inv X pins σ H1 { s1 with heap := s1.heap.push { cls := .type "tuple", data := .seq [u1, u2].toArray } } := I1.kept (t' := s1.toks) fun b o e => Heap.get?_push_of_some _ e
  rw [hw]
  refine wpAny_bind (wpAny_pure ?_)
  show wpAny (model X.prog X.w) X.A (do rule "assign.swapped-stores"; let items ← unpackItems (.ref s1.heap.objs.size) 2 none; assignInOrder [fun v => bindName X.env y v, fun v => bindName X.env x v] items.reverse; pure Flow.next) _ _ _
  refine wpAny_bind (wpAny_rule (wpAny_bind (unpackItems_tuple (items := #[u1, u2]) (I.ok.hd hc) (IsTup.new s1.heap _) fun h' hx' => ?_)))
  have I3 := I2.kept (h' := h') (t' := s1.toks) fun b o e => hx' b o (Nat.ne_of_lt (Heap.lt_size e)) e
  show wpAny _ _ (assignInOrder [fun v => bindName X.env y v, fun v => bindName X.env x v] [u2, u1] >>= fun _ => pure Flow.next) _ _ _
  refine wpAny_bind (assignInOrder_cons (wpAny_bindName (store_ok I3 hN hj (.inl hy) rw' (fun s2 I4 => ?_) (.inr hy))))
  refine assignInOrder_cons (wpAny_bindName (store_ok I4 hN hi (.inl hx) rv (fun s3 I5 => assignInOrder_nil (wpAny_pure ?_)) (.inr hx)))
  rw [List.set_comm _ _ (Ne.symm hij)] at I5
  exact ⟨_, H1, I5, q1⟩
/-- name op= e -/
def tAug (i : Nat) (te : TE) (ti : TIp) : TS := fun D σ H => ∃ x, σ[i]? = some (some x) ∧ te σ H fun y H1 => ti x y H1 fun z H2 => D.nx (σ.set i (some z)) H2
theorem ps_aug {i : Nat} {x : Str} {e : Expr} {te : TE} {op : Operator} {ti : TIp} {pos' : Pos} (hN : X.N.Nodup) (hi : X.N[i]? = some x) (hx : Loc X.env.scope x) (he : PE X e te) (ho : PIp X op ti) (hf : X.fn x = true ∨ X.env.scope.names.lookup x = some .local := by first | exact .inl rfl | exact .inr rfl | assumption) :
    PS X (.AugAssign (.Name x pos') op e pos) (tAug i te ti) := by
  intro pins s σ H D I h
  obtain ⟨v, e1, h⟩ := h
  obtain ⟨m, hn, hl⟩ := I.loc
  have vis : Vis X.env.scope x := by rcases hx with k | k; exact .inl k; exact .inr (.inl k)
  obtain ⟨u, r, l⟩ := hl i x v hi e1 vis
  refine wpAny_AugAssign_Name ?_
  have go : wpAny (model X.prog X.w) X.A (eval e X.env) (fun w s₂ => wpAny (model X.prog X.w) X.A (inplaceOp op u w) (fun r s₃ => wpAny (model X.prog X.w) X.A (storeName X.env x r) (fun _ => SP X pins D .next) X.xe s₃) X.xe s₂) X.xe s := by
    refine thn (he pins s σ H _ I h) fun w s1 ⟨y, H1, I1, r1, q1⟩ => ?_
    refine thn (ho pins s1 σ H1 v y u w _ I1 r r1 q1) fun z s2 ⟨zv, H2, I2, r2, q2⟩ => ?_
    exact store_ok I2 hN hi hx r2 (fun s3 I3 => ⟨_, H2, I3, q2⟩) hf
  rcases l with ⟨hk, hm⟩ | ⟨hk, c, hc, hcell⟩
  · exact wpAny_loadName_local I.ok.kind hk hn hm go
  · rcases hk with hk | hk
    · exact wpAny_loadName_cell I.ok.kind hk hc hcell go
    · rcases hx with k | k
      · have : X.env.scope.names.lookup x = some .free := hk
        rw [k] at this; cases this
      · have : X.env.scope.names.lookup x = some .free := hk
        rw [k] at this; cases this
/-- o[i] op= e -/
def tAugS (to ti te : TE) (tget : V → V → Hp → VK → Prop) (tip : TIp) (tset : TSet) : TS := fun D σ H => to σ H fun o H1 => ti σ H1 fun i H2 => tget o i H2 fun x H3 => te σ H3 fun y H4 => tip x y H4 fun z H5 => tset o i z H5 fun H6 => D.nx σ H6
/-- o[i], by values -/
def PGet (X : Cx) (t : V → V → Hp → VK → Prop) : Prop :=
  ∀ (pins : List (Addr × Obj)) (s : Shared) (σ : St) (H : Hp) (o i : V) (ov iv : Value) (Q : VK), Inv X pins σ H s → RelV o ov → RelV i iv → t o i H Q →
    wpAny (model X.prog X.w) X.A (getItem ov iv) (EP X pins σ Q) X.xe s
theorem ps_augS {o i e : Expr} {to ti te : TE} {tget : V → V → Hp → VK → Prop} {tip : TIp} {tset : TSet} {op : Operator} {tpos : Pos} (ho : PE X o to) (hi : PE X i ti) (hg : PGet X tget) (he : PE X e te) (hp : PIp X op tip) (hs : PSet X tset)
    (ha : ∀ ov iv new, augStore i ov iv new = (do holding [new, ov, iv] (setItem ov iv new); release [new, ov, iv] []; pure .next) := by intros; rfl) : PS X (.AugAssign (.Subscript o i tpos) op e pos) (tAugS to ti te tget tip tset) := by
  intro pins s σ H D I h
  refine wpAny_AugAssign_SubscriptAny (thn (ho pins s σ H _ I h) fun ov s1 ⟨x1, H1, I1, r1, q1⟩ => ?_) ha
  refine thn (hi pins s1 σ H1 _ I1 q1) fun iv s2 ⟨x2, H2, I2, r2, q2⟩ => ?_
  refine thn (hg pins s2 σ H2 x1 x2 ov iv _ I2 r1 r2 q2) fun old s3 ⟨x3, H3, I3, r3, q3⟩ => ?_
  refine thn (he pins s3 σ H3 _ I3 q3) fun v s4 ⟨x4, H4, I4, r4, q4⟩ => ?_
  refine thn (hp pins s4 σ H4 x3 x4 old v _ I4 r3 r4 q4) fun new s5 ⟨x5, H5, I5, r5, q5⟩ => ?_
  exact thn (hs pins s5 σ H5 x1 x2 x5 ov iv new _ I5 r1 r2 r5 q5) fun _ s6 ⟨H6, I6, q6⟩ => ⟨σ, H6, I6, q6⟩
/-- ints -/
def ipI (f : Int → Int → Int) : TIp := fun x y H Q => ∃ i j, x = .int i ∧ y = .int j ∧ Q (.int (f i j)) H
theorem ip_add : PIp X .Add (ipI fun i j => i + j) := by
  intro pins s σ H x y v u Q I r1 r2 h
  obtain ⟨i, j, e1, e2, q⟩ := h
  subst e1; subst e2
  obtain ⟨t, rfl⟩ := r1
  obtain ⟨t', rfl⟩ := r2
  exact iadd_int ⟨.int _, H, I.tok _, ⟨_, rfl⟩, q⟩
theorem ip_sub : PIp X .Sub (ipI fun i j => i - j) := by
  intro pins s σ H x y v u Q I r1 r2 h
  obtain ⟨i, j, e1, e2, q⟩ := h
  subst e1; subst e2
  obtain ⟨t, rfl⟩ := r1
  obtain ⟨t', rfl⟩ := r2
  exact isub_int ⟨.int _, H, I.tok _, ⟨_, rfl⟩, q⟩
end

/-! ### while -/
section
variable {X : Cx} {pos : Pos}
/-- the invariant W with its measure -/
def tWhile (c : TT) (tb : TS) : TS := fun D σ H => ∃ W : Nat → St → Hp → Prop, (∃ m, W m σ H) ∧ ∀ m σ H, W m σ H →
  c σ H fun b H1 => if b = true then ∃ N : St → Hp → Prop, (∀ σ' H', N σ' H' → ∃ m', m' < m ∧ W m' σ' H') ∧ tb { D with nx := N, ct := N, bk := D.nx } σ H1 else D.nx σ H1
theorem ps_while {c : Expr} {body : List Stmt} {tc : TT} {tb : TS} (hp : PassesOwn (model X.prog X.w) X.A X.env X.xe) (hc : PT X c tc) (hb : PSs X body tb) : PS X (.While c body [] pos) (tWhile tc tb) := by
  intro pins s σ H D I h
  obtain ⟨W, ⟨m0, w0⟩, turn⟩ := h
  refine wpAny_While (codeAny_whileLoop (fun n s' => ∃ σ' H', Inv X pins σ' H' s' ∧ W n σ' H') ?_ m0 ⟨σ, H, I, w0⟩)
  rintro n s1 ⟨σ1, H1, I1, w1⟩
  refine wpAny_passesOwn hp (thn (hc pins s1 σ1 H1 _ I1 (turn n σ1 H1 w1)) fun b s2 ⟨H2, I2, q2⟩ => ?_)
  cases b with
  | true =>
    obtain ⟨N, hN, q2⟩ := q2
    rw [if_pos rfl]
    refine wpAny_passesOwn hp (thn (hb pins s2 σ1 H2 _ I2 q2) fun f s3 q3 => ?_)
    cases f with
    | next =>
      obtain ⟨σ3, H3, I3, n3⟩ := q3
      obtain ⟨m', hm, w3⟩ := hN σ3 H3 n3
      exact ⟨m', hm, σ3, H3, I3, w3⟩
    | cont =>
      obtain ⟨σ3, H3, I3, n3⟩ := q3
      obtain ⟨m', hm, w3⟩ := hN σ3 H3 n3
      exact ⟨m', hm, σ3, H3, I3, w3⟩
    | brk => exact q3
    | ret v => exact q3
  | false =>
    rw [if_neg Bool.false_ne_true]
    exact wpAny_execs_nil ⟨σ1, H2, I2, q2⟩
end

/-! ### what a loop or a comprehension walks -/
/-- at turn i: it yields x (the heap may grow), or it stops -/
structure It where
  go : Nat → Hp → Prop
  yld : Nat → Hp → V → Hp → Prop
  stop : Nat → Hp → Prop
/-- the iterator's own objects may turn: they are not the frame's, not pinned, younger than the entry (or a comprehension's own) -/
def FpOk (X : Cx) (pins : List (Addr × Obj)) (H : Hp) (b : Addr) : Prop :=
  H b = none ∧ b ≠ X.env.locals ∧ b ∉ X.fs ∧ (b ∈ X.ex ∨ X.s₀.heap.objs.size ≤ b) ∧ (∀ x c, X.env.cells.lookup x = some c → c ≠ b) ∧ ∀ p ∈ X.pn ++ pins, p.1 ≠ b
theorem Inv.fpOk {X : Cx} {pins : List (Addr × Obj)} {σ : St} {H H' : Hp} {s : Shared} {b : Addr} (I : Inv X pins σ H s) (hb : s.heap.objs.size ≤ b) (hn : H' b = none) : FpOk X pins H' b := by
  refine ⟨hn, Nat.ne_of_gt (Nat.lt_of_lt_of_le I.lt hb), I.nofs hb, .inr (Nat.le_trans I.sz hb), fun x c e z => ?_, fun p hp z => ?_⟩
  · obtain ⟨v, q⟩ := I.cell x c e
    exact absurd (Nat.lt_of_lt_of_le q.lt (by rw [z]; exact hb)) (Nat.lt_irrefl _)
  · exact absurd (Nat.lt_of_lt_of_le (Heap.lt_size (I.pin p hp).1) (by rw [z]; exact hb)) (Nat.lt_irrefl _)
structure Turn (P : Program) (w : World) (K : PySem.W.Frag) (tg : Expr) (J : It) (fp : List Addr) (it : Addr) (tn : Nat → Heap → Prop) : Prop where
  mem : it ∈ fp
  obj : ∀ i h, tn i h → ∀ b ∈ fp, ∃ o, h.get? b = some o ∧ ∀ v, o.data ≠ .cell v
  keep : ∀ i h h', tn i h → (∀ b ∈ fp, ∀ o, h.get? b = some o → h'.get? b = some o) → tn i h'
  item : ∀ (X : Cx), X.prog = P → X.w = w → X.K = K → X.calm = true → ∀ (i : Nat) (pins : List (Addr × Obj)) (s : Shared) (σ : St) (H : Hp) (E : Value → Shared → Prop), Inv X pins σ H s → (∀ b ∈ fp, FpOk X pins H b) → tn i s.heap → J.go i H →
    wpAny (model P w) X.A (pyNext (.ref it)) (fun r s1 => ∃ u, r = some u ∧
      wpAny (model P w) X.A (letOwnedTupleGo tg (.ref it) u) (fun _ s2 => ∃ x H', Inv X pins σ H' s2 ∧ RelV x u ∧ J.yld i H x H' ∧ tn (i + 1) s2.heap ∧ ∀ b ∈ fp, H' b = none) E s1) E s
  done : ∀ (X : Cx), X.prog = P → X.w = w → X.K = K → X.calm = true → ∀ (i : Nat) (pins : List (Addr × Obj)) (s : Shared) (σ : St) (H : Hp) (E : Value → Shared → Prop), Inv X pins σ H s → (∀ b ∈ fp, FpOk X pins H b) → tn i s.heap → J.stop i H →
    wpAny (model P w) X.A (pyNext (.ref it)) (fun r s1 => r = none ∧ Inv X pins σ H s1) E s
  self : ∀ (A : Around) (i : Nat) (s : Shared) (Q : Value → Shared → Prop) (E : Value → Shared → Prop), tn i s.heap → Q (.ref it) s → wpAny (model P w) A (pyIter (.ref it)) Q E s
abbrev TI := St → Hp → (It → Hp → Prop) → Prop
/-- an iterator has come -/
def PIE (X : Cx) (pins : List (Addr × Obj)) (σ : St) (tg : Expr) (R : It → Hp → Prop) (itv : Value) (s2 : Shared) : Prop :=
  ∃ (it : Addr) (fp : List Addr) (tn : Nat → Heap → Prop) (J : It) (H' : Hp), itv = .ref it ∧ Inv X pins σ H' s2 ∧ Turn X.prog X.w X.K tg J fp it tn ∧ tn 0 s2.heap ∧ (∀ b ∈ fp, FpOk X pins H' b) ∧ R J H'
def PI (X : Cx) (tg iter : Expr) (wi : TI) : Prop :=
  ∀ (pins : List (Addr × Obj)) (s : Shared) (σ : St) (H : Hp) (R : It → Hp → Prop), Inv X pins σ H s → wi σ H R →
    wpAny (model X.prog X.w) X.A (eval iter X.env) (fun v s1 => wpAny (model X.prog X.w) X.A (pyIter v) (PIE X pins σ tg R) X.xe s1) X.xe s

/-- the step ahead of the store is nothing for an iterator that keeps no tuple -/
theorem go_of {M : Model} {A : Around} {E : Value → Shared → Prop} {s : Shared} {tg : Expr} {it : Addr} {u : Value} {o : Obj} {n : String} {vs : Array Value} {Q : Unit → Shared → Prop} (ho : s.heap.get? it = some o) (hc : o.cls = .type n) (hd : o.data = .fields vs)
    (hn : ["enumerate", "zip", "dict_itemiterator", "dict_reverseitemiterator", "odict_iterator", "itertools.zip_longest", "itertools.pairwise"].contains n = false) (hQ : Q () s) : wpAny M A (letOwnedTupleGo tg (.ref it) u) Q E s := by
  unfold letOwnedTupleGo
  cases tg <;> first
    | exact wpAny_pure hQ
    | (cases u <;> first
        | exact wpAny_pure hQ
        | (refine wpAny_bind (wpAny_load ho ?_)
           rw [hc, hd]
           show wpAny M A (if (["enumerate", "zip", "dict_itemiterator", "dict_reverseitemiterator", "odict_iterator", "itertools.zip_longest", "itertools.pairwise"].contains n && vs[0]? == some (rawInt _)) = true then _ else _) Q E s
           rw [if_neg (by intro h; rw [hn, Bool.false_and] at h; cases h)]
           exact wpAny_pure hQ))

/-- the list at a, as it stands at each turn (a loop may append to it) -/
def Itl (K : PySem.W.Frag) (a : Addr) : It :=
  ⟨fun i H => ∃ xs x, SqL K H a xs ∧ xs[i]? = some x, fun i H x H' => H' = H ∧ ∀ xs, SqL K H a xs → xs[i]? = some x, fun i H => ∃ xs, SqL K H a xs ∧ xs.length ≤ i⟩
def Itt (K : PySem.W.Frag) (a : Addr) : It :=
  ⟨fun i H => ∃ xs x, SqT K H a xs ∧ xs[i]? = some x, fun i H x H' => H' = H ∧ ∀ xs, SqT K H a xs → xs[i]? = some x, fun i H => ∃ xs, SqT K H a xs ∧ xs.length ≤ i⟩
/-- lo, lo + 1, .. (n of them) -/
def Itr (lo : Int) (n : Nat) : It := ⟨fun i _ => i < n, fun i H x H' => H' = H ∧ x = .int (lo + i), fun i _ => n ≤ i⟩
theorem turn_list {P : Program} {w : World} {K : PySem.W.Frag} {tg : Expr} (a it : Addr) : Turn P w K tg (Itl K a) [it] it (fun i h => h.IsListIter it a i) where
  mem := by simp
  obj := fun i h st b hb => by
    have e : b = it := by simpa using hb
    subst e
    obtain ⟨o, e, c, d⟩ := st
    exact ⟨o, e, fun v z => by rw [d] at z; cases z⟩
  keep := fun i h h' st k => st.at fun o e => k it (by simp) o e
  item := by
    intro X hP hw hK hc i pins s σ H E I hf st hg
    subst hP hw hK
    obtain ⟨xs, x, hq, hx⟩ := hg
    obtain ⟨its, rv, p, hz⟩ := I.list hq
    obtain ⟨u, hu, ru⟩ := rv.get hx
    obtain ⟨f0, f1, f2, f3, f4, f5⟩ := hf it (by simp)
    refine wpAny_pyNext_list_item st p.isList (x := u) (by simpa using hu) fun h' st' sb => ?_
    have I1 : Inv X pins σ H { s with heap := h' } := I.turned (t' := s.toks) (fun b o hb e => (sb.2 b hb).trans e) f0 f1 f3 f4 f5
    obtain ⟨o, e, c, d⟩ := id st'
    exact ⟨u, rfl, go_of (s := { s with heap := h' }) e c d (by decide) ⟨x, H, I1, ru, ⟨rfl, fun ys hy => by rw [I.list_inj hy hq]; exact hx⟩, st', fun b hb => (hf b hb).1⟩⟩
  done := by
    intro X hP hw hK hc i pins s σ H E I hf st hg
    subst hP hw hK
    obtain ⟨xs, hq, hx⟩ := hg
    obtain ⟨its, rv, p, hz⟩ := I.list hq
    obtain ⟨f0, f1, f2, f3, f4, f5⟩ := hf it (by simp)
    have hl := rv.length
    exact wpAny_pyNext_list_end (I.ok.hd hc) st p.isList (by simp; omega) fun h' eb => ⟨rfl, I.turned (t' := s.toks) (fun b o hb e => eb b o hb e) f0 f1 f3 f4 f5⟩
  self := fun _ _ _ _ _ st h => wpAny_pyIter_listiter st h
theorem turn_tuple {P : Program} {w : World} {K : PySem.W.Frag} {tg : Expr} (a it : Addr) : Turn P w K tg (Itt K a) [it] it (fun i h => h.IsTupleIter it a i) where
  mem := by simp
  obj := fun i h st b hb => by
    have e : b = it := by simpa using hb
    subst e
    obtain ⟨o, e, c, d⟩ := st
    exact ⟨o, e, fun v z => by rw [d] at z; cases z⟩
  keep := fun i h h' st k => st.at fun o e => k it (by simp) o e
  item := by
    intro X hP hw hK hc i pins s σ H E I hf st hg
    subst hP hw hK
    obtain ⟨xs, x, hq, hx⟩ := hg
    obtain ⟨its, rv, p, hz⟩ := I.tuple hq
    obtain ⟨u, hu, ru⟩ := rv.get hx
    obtain ⟨f0, f1, f2, f3, f4, f5⟩ := hf it (by simp)
    refine wpAny_pyNext_tuple_item st (show s.heap.IsTuple a its.toArray from p) (x := u) (by simpa using hu) fun h' st' sb => ?_
    have I1 : Inv X pins σ H { s with heap := h' } := I.turned (t' := s.toks) (fun b o hb e => (sb.2 b hb).trans e) f0 f1 f3 f4 f5
    obtain ⟨o, e, c, d⟩ := id st'
    exact ⟨u, rfl, go_of (s := { s with heap := h' }) e c d (by decide) ⟨x, H, I1, ru, ⟨rfl, fun ys hy => by rw [I.tuple_inj hy hq]; exact hx⟩, st', fun b hb => (hf b hb).1⟩⟩
  done := by
    intro X hP hw hK hc i pins s σ H E I hf st hg
    subst hP hw hK
    obtain ⟨xs, hq, hx⟩ := hg
    obtain ⟨its, rv, p, hz⟩ := I.tuple hq
    obtain ⟨f0, f1, f2, f3, f4, f5⟩ := hf it (by simp)
    have hl := rv.length
    exact wpAny_pyNext_tuple_end (I.ok.hd hc) st (show s.heap.IsTuple a its.toArray from p) (by simp; omega) fun h' eb => ⟨rfl, I.turned (t' := s.toks) (fun b o hb e => eb b o hb e) f0 f1 f3 f4 f5⟩
  self := fun _ _ _ _ _ st h => wpAny_pyIter_tupleiter st h
theorem turn_range {P : Program} {w : World} {K : PySem.W.Frag} {tg : Expr} (it : Addr) (lo : Int) (n : Nat) : Turn P w K tg (Itr lo n) [it] it (fun i h => IsRangeIter h it (lo + (i : Nat) * 1) ((n : Int) - (i : Nat)) 1) where
  mem := by simp
  obj := fun i h st b hb => by
    have e : b = it := by simpa using hb
    subst e
    exact ⟨_, st, fun v z => by
      have z' : Data.fields _ = Data.cell v := z
      cases z'⟩
  keep := fun i h h' st k => k it (by simp) _ st
  item := by
    intro X hP hw hK hc i pins s σ H E I hf st hg
    subst hP hw hK
    obtain ⟨f0, f1, f2, f3, f4, f5⟩ := hf it (by simp)
    have W := Walks.range (prog := X.prog) (w := X.w) (I.ok.hd hc) it lo 1 n
    refine W.item i s _ _ hg st fun v h' tk hv st' kk => ?_
    obtain ⟨t, rfl⟩ := hv
    have I1 : Inv X pins σ H { s with heap := h', toks := tk } := I.turned (fun b o hb e => kk b o (by simpa using hb) e) f0 f1 f3 f4 f5
    refine ⟨_, rfl, go_of (s := { s with heap := h', toks := tk }) (n := "range_iterator") st' rfl rfl (by decide) ⟨.int (lo + i), H, I1, ⟨t, ?_⟩, ⟨rfl, rfl⟩, st', fun b hb => (hf b hb).1⟩⟩
    rw [Int.mul_one]
  done := by
    intro X hP hw hK hc i pins s σ H E I hf st hg
    subst hP hw hK
    obtain ⟨f0, f1, f2, f3, f4, f5⟩ := hf it (by simp)
    exact wpAny_pyNext_range_end (I.ok.hd hc) st (by have : n ≤ i := hg; omega) fun h' eb => ⟨rfl, I.turned (t' := s.toks) (fun b o hb e => eb b o hb e) f0 f1 f3 f4 f5⟩
  self := fun _ _ _ _ _ st h => wpAny_pyIter_rangeiter st h
end L2

namespace L2
open PySem PySem.Spec PyProof.Rows
section
variable {X : Cx} {tg : Expr}
def iList (K : PySem.W.Frag) (tl : TE) : TI := fun σ H R => tl σ H fun x H1 => ∃ a, x = .ref a ∧ (∃ xs, SqL K H1 a xs) ∧ R (Itl K a) H1
def iTup (K : PySem.W.Frag) (tl : TE) : TI := fun σ H R => tl σ H fun x H1 => ∃ a, x = .ref a ∧ (∃ xs, SqT K H1 a xs) ∧ R (Itt K a) H1
theorem pi_list {l : Expr} {tl : TE} (hl : PE X l tl) : PI X tg l (iList X.K tl) := by
  intro pins s σ H R I h
  refine thn (hl pins s σ H _ I h) fun v s1 ⟨x, H1, I1, r1, q1⟩ => ?_
  obtain ⟨a, e, ⟨xs, hq⟩, q⟩ := q1
  subst e
  cases r1
  obtain ⟨its, rv, p, hz⟩ := I1.list hq
  refine wpAny_pyIter_list p.isList ?_
  refine ⟨s1.heap.objs.size, [s1.heap.objs.size], _, _, H1, rfl, I1.kept (t' := s1.toks) fun b o e => Heap.get?_push_of_some _ e, turn_list a _, ⟨_, Heap.get?_push_size _ rfl, rfl, rfl⟩, fun b hb => ?_, q⟩
  have e : b = s1.heap.objs.size := by simpa using hb
  subst e
  exact I1.fpOk (Nat.le_refl _) (I1.hok.fresh (Nat.le_refl _))
theorem pi_tup {l : Expr} {tl : TE} (hl : PE X l tl) : PI X tg l (iTup X.K tl) := by
  intro pins s σ H R I h
  refine thn (hl pins s σ H _ I h) fun v s1 ⟨x, H1, I1, r1, q1⟩ => ?_
  obtain ⟨a, e, ⟨xs, hq⟩, q⟩ := q1
  subst e
  cases r1
  obtain ⟨its, rv, p, hz⟩ := I1.tuple hq
  refine wpAny_pyIter_tuple (show s1.heap.IsTuple a its.toArray from p) ?_
  refine ⟨s1.heap.objs.size, [s1.heap.objs.size], _, _, H1, rfl, I1.kept (t' := s1.toks) fun b o e => Heap.get?_push_of_some _ e, turn_tuple a _, ⟨_, Heap.get?_push_size _ rfl, rfl, rfl⟩, fun b hb => ?_, q⟩
  have e : b = s1.heap.objs.size := by simpa using hb
  subst e
  exact I1.fpOk (Nat.le_refl _) (I1.hok.fresh (Nat.le_refl _))
/-- a range object just made, walked -/
theorem range_it {pins : List (Addr × Obj)} {σ : St} {H : Hp} {s : Shared} {R : It → Hp → Prop} {E : Value → Shared → Prop} {lo hi : Int} {t u v : Tok} {tk : Nat} (I : Inv X pins σ H s) (h1 : -(2 ^ 62) ≤ lo) (h2 : lo < 2 ^ 62) (h3 : -(2 ^ 62) ≤ hi) (h4 : hi < 2 ^ 62)
    (q : R (Itr lo (hi - lo).toNat) H) : wpAny (model X.prog X.w) X.A (pyIter (.ref s.heap.objs.size)) (PIE X pins σ tg R) E { s with heap := s.heap.push { cls := .type "range", data := .fields #[.int lo t, .int hi u, .int 1 v] }, toks := tk } := by
  refine wpAny_pyIter_range (IsRange.new ..) (small_one h1 h2 h3 h4) ?_
  have I1 : Inv X pins σ H { s with heap := s.heap.push { cls := .type "range", data := .fields #[.int lo t, .int hi u, .int 1 v] }, toks := tk } := I.kept fun b o e => Heap.get?_push_of_some _ e
  refine ⟨(s.heap.push { cls := .type "range", data := .fields #[.int lo t, .int hi u, .int 1 v] }).objs.size, [(s.heap.push { cls := .type "range", data := .fields #[.int lo t, .int hi u, .int 1 v] }).objs.size], _, _, H, rfl,
    I1.kept (t' := tk) fun b o e => Heap.get?_push_of_some _ e, turn_range _ lo (hi - lo).toNat, ?_, fun b hb => ?_, q⟩
  · have e1 : lo + ((0 : Nat) : Int) * 1 = lo := by simp
    have e2 : (((hi - lo).toNat : Nat) : Int) - ((0 : Nat) : Int) = Builtin.Range.rangeSize lo hi 1 := by rw [rangeSize_one]; split <;> omega
    show IsRangeIter _ _ (lo + ((0 : Nat) : Int) * 1) ((((hi - lo).toNat : Nat) : Int) - ((0 : Nat) : Int)) 1
    rw [e1, e2]
    exact Heap.get?_push_size _ rfl
  · have e : b = (s.heap.push { cls := .type "range", data := .fields #[.int lo t, .int hi u, .int 1 v] }).objs.size := by simpa using hb
    subst e
    exact I1.fpOk (Nat.le_refl _) (I1.hok.fresh (Nat.le_refl _))
def iRng1 (ta : TA) : TI := fun σ H R => ta σ H fun vs H1 => ∃ j : Int, vs = [.int j] ∧ -(2 ^ 62) ≤ j ∧ j < 2 ^ 62 ∧ R (Itr 0 j.toNat) H1
def iRng2 (ta : TA) : TI := fun σ H R => ta σ H fun vs H1 => ∃ i j : Int, vs = [.int i, .int j] ∧ (-(2 ^ 62) ≤ i ∧ i < 2 ^ 62 ∧ -(2 ^ 62) ≤ j ∧ j < 2 ^ 62) ∧ R (Itr i (j - i).toNat) H1
theorem pi_range1 {a : Expr} {ta : TA} {p pos : Pos} (hg : Gl X "range") (hm : X.mg "range" = none) (ha : PA X [a] ta) (hs : starEach [a] X.env = [(false, eval a X.env)] := by rfl) : PI X tg (.Call (.Name "range" p) [a] [] pos) (iRng1 ta) := by
  intro pins s σ H R I h
  refine Call_ (ld_blt I hg hm boot_range (PyProof.Rows.callWith_type1 (thn (ha pos pins s σ H _ I h) fun us s1 ⟨vs, H1, I1, r1, q1⟩ => ?_) hs rfl))
  obtain ⟨j, e, q1, q2, q⟩ := q1
  subst e
  cases r1 with
  | cons r rr =>
    cases rr
    obtain ⟨t, rfl⟩ := r
    exact call_range_1 (range_it I1 (by omega) (by omega) q1 q2 (by simpa using q))
theorem pi_range2 {a b : Expr} {ta : TA} {p pos : Pos} (hg : Gl X "range") (hm : X.mg "range" = none) (ha : PA X [a, b] ta) (hs : starEach [a, b] X.env = [(false, eval a X.env), (false, eval b X.env)] := by rfl) (hs2 : starEach [b] X.env = [(false, eval b X.env)] := by rfl) :
    PI X tg (.Call (.Name "range" p) [a, b] [] pos) (iRng2 ta) := by
  intro pins s σ H R I h
  refine Call_ (ld_blt I hg hm boot_range (PyProof.Rows.callWith_type1 (thn (ha pos pins s σ H _ I h) fun us s1 ⟨vs, H1, I1, r1, q1⟩ => ?_) (by rw [hs, hs2]) (by rw [hs2]; rfl)))
  obtain ⟨i, j, e, ⟨q1, q2, q3, q4⟩, q⟩ := q1
  subst e
  cases r1 with
  | cons r rr =>
    cases rr with
    | cons r' rr =>
      cases rr
      obtain ⟨t, rfl⟩ := r
      obtain ⟨t', rfl⟩ := r'
      exact call_range_2 (range_it I1 q1 q2 q3 q4 q)

/-! ### for -/
/-- W: the invariant by the turn and a measure; N: what the body is to reach -/
def tFor (wi : TI) (g : TG) (tb : TS) : TS := fun D σ H => wi σ H fun J H1 => ∃ W : Nat → Nat → St → Hp → Prop, (∃ m, W 0 m σ H1) ∧ ∀ i m σ H, W i m σ H →
  (J.stop i H ∧ D.nx σ H) ∨ (J.go i H ∧ ∃ N : St → Hp → Prop, (∀ σ' H', N σ' H' → ∃ m', m' < m ∧ W (i + 1) m' σ' H') ∧ ∀ x H', J.yld i H x H' → g x σ H' fun σ2 H2 => tb { D with nx := N, ct := N, bk := D.nx } σ2 H2)
/-- the records at fp as they stand -/
def pinsAt (fp : List Addr) (h : Heap) : List (Addr × Obj) := fp.filterMap fun b => (h.get? b).map fun o => (b, o)
theorem mem_pinsAt {fp : List Addr} {h : Heap} {b : Addr} {o : Obj} (hb : b ∈ fp) (e : h.get? b = some o) : (b, o) ∈ pinsAt fp h := List.mem_filterMap.mpr ⟨b, hb, by rw [e]; rfl⟩
theorem of_pinsAt {fp : List Addr} {h : Heap} {p : Addr × Obj} (hp : p ∈ pinsAt fp h) : p.1 ∈ fp ∧ h.get? p.1 = some p.2 := by
  obtain ⟨b, hb, e⟩ := List.mem_filterMap.mp hp
  cases q : h.get? b with
  | none => rw [q] at e; cases e
  | some o =>
    rw [q] at e
    have e' : (b, o) = p := Option.some.inj e
    subst e'
    exact ⟨hb, q⟩
theorem Inv.pinned {pins : List (Addr × Obj)} {σ : St} {H : Hp} {s : Shared} {fp : List Addr} (I : Inv X pins σ H s) (hf : ∀ b ∈ fp, FpOk X pins H b) (ho : ∀ b ∈ fp, ∃ o, s.heap.get? b = some o ∧ ∀ v, o.data ≠ .cell v) : Inv X (pins ++ pinsAt fp s.heap) σ H s :=
  I.pins_of fun p hp => (List.mem_append.mp hp).elim (fun z => I.pin p (List.mem_append_right _ z)) fun z => by
    obtain ⟨hb, e⟩ := of_pinsAt z
    obtain ⟨f0, f1, f2, _⟩ := hf p.1 hb
    obtain ⟨o, e', d⟩ := ho p.1 hb
    rw [e] at e'; cases e'
    exact ⟨e, f0, f1, f2, d⟩
theorem Inv.unpinned {pins pl : List (Addr × Obj)} {σ : St} {H : Hp} {s : Shared} (I : Inv X (pins ++ pl) σ H s) : Inv X pins σ H s := I.pins_of fun p hp => I.pin p (List.mem_append_right _ (List.mem_append_left _ hp))
theorem ps_for {iter : Expr} {body : List Stmt} {wi : TI} {g : TG} {tb : TS} {pos : Pos} (hp : PassesOwn (model X.prog X.w) X.A X.env X.xe) (hc : X.calm = true) (hi : PI X tg iter wi) (hg : PG X tg g) (hb : PSs X body tb)
    (hs : ∀ x, foldedSetIterable iter X.env x = pure x := by intro _; rfl) : PS X (.For tg iter body [] pos) (tFor wi g tb) := by
  intro pins s σ H D I h
  refine wpAny_For (thn (hi pins s σ H _ I h) fun v s1 h1 => thn h1 fun itv s2 h2 => ?_) hs
  obtain ⟨it, fp, tn, J, H2, e, I2, T, st2, f2, W, ⟨m0, w0⟩, turn⟩ := h2
  subst e
  -- what stays true of the iterator's objects through the loop
  have stat : ∀ {H' : Hp}, (∀ b ∈ fp, H' b = none) → ∀ b ∈ fp, FpOk X pins H' b := fun hn b hb => ⟨hn b hb, (f2 b hb).2⟩
  refine codeAny_forLoop_any (fun n s' => ∃ i σ' H', Inv X pins σ' H' s' ∧ tn i s'.heap ∧ (∀ b ∈ fp, H' b = none) ∧ W i n σ' H') ?_ m0 ⟨0, σ, H2, I2, st2, fun b hb => (f2 b hb).1, w0⟩
  rintro n s3 ⟨i, σ3, H3, I3, st3, fr3, w3⟩
  rcases turn i n σ3 H3 w3 with ⟨stop, qn⟩ | ⟨go, N, hN, step⟩
  · refine wpAny_passesOwn hp (thn (T.done X rfl rfl rfl hc i pins s3 σ3 H3 X.xe I3 (stat fr3) st3 stop) fun r s4 ⟨hr, I4⟩ => ?_)
    subst hr
    exact wpAny_execs_nil ⟨σ3, H3, I4, qn⟩
  · refine wpAny_passesOwn hp (thn (T.item X rfl rfl rfl hc i pins s3 σ3 H3 X.xe I3 (stat fr3) st3 go) fun r s4 ⟨u, hr, h4⟩ => ?_)
    subst hr
    refine wpAny_passesOwn hp (thn h4 fun _ s5 ⟨x, H5, I5, r5, y5, st5, fr5⟩ => ?_)
    have I5' := I5.pinned (stat fr5) (T.obj _ _ st5)
    refine wpAny_passesOwn hp (thn (hg _ s5 σ3 H5 x u _ I5' r5 (step x H5 y5)) fun _ s6 ⟨σ6, H6, I6, q6⟩ => ?_)
    refine wpAny_passesOwn hp (thn (hb _ s6 σ6 H6 _ I6 q6) fun f s7 q7 => ?_)
    have again : ∀ {σ7 : St} {H7 : Hp}, Inv X (pins ++ pinsAt fp s5.heap) σ7 H7 s7 → N σ7 H7 → ∃ m, m < n ∧ ∃ i σ' H', Inv X pins σ' H' s7 ∧ tn i s7.heap ∧ (∀ b ∈ fp, H' b = none) ∧ W i m σ' H' := fun {σ7 H7} I7 n7 => by
      obtain ⟨m', hm, w7⟩ := hN σ7 H7 n7
      refine ⟨m', hm, i + 1, σ7, H7, I7.unpinned, T.keep _ _ _ st5 fun b hb o e => (I7.pin (b, o) (List.mem_append_right _ (List.mem_append_right _ (mem_pinsAt hb e)))).1, fun b hb => ?_, w7⟩
      obtain ⟨o, e, d⟩ := T.obj _ _ st5 b hb
      exact (I7.pin (b, o) (List.mem_append_right _ (List.mem_append_right _ (mem_pinsAt hb e)))).2.1
    cases f with
    | next => obtain ⟨σ7, H7, I7, n7⟩ := q7; exact again I7 n7
    | cont => obtain ⟨σ7, H7, I7, n7⟩ := q7; exact again I7 n7
    | brk => obtain ⟨σ7, H7, I7, q7⟩ := q7; exact ⟨σ7, H7, I7.unpinned, q7⟩
    | ret v => obtain ⟨x7, σ7, H7, I7, r7, q7⟩ := q7; exact ⟨x7, σ7, H7, I7.unpinned, r7, q7⟩
end

/-! ### the forms one uses -/
/-- over a list that the body leaves as it is -/
theorem for_list {K : PySem.W.Frag} {a : Addr} {xs : List V} {g : TG} {tb : TS} {D : Ends} {σ : St} {H : Hp} (Pv : Nat → St → Hp → Prop) (h0 : Pv 0 σ H) (hl : ∀ i σ H, i ≤ xs.length → Pv i σ H → SqL K H a xs)
    (hs : ∀ i x σ H, xs[i]? = some x → Pv i σ H → g x σ H fun σ2 H2 => tb { D with nx := Pv (i + 1), ct := Pv (i + 1), bk := D.nx } σ2 H2) (hd : ∀ σ H, Pv xs.length σ H → D.nx σ H) :
    ∃ W : Nat → Nat → St → Hp → Prop, (∃ m, W 0 m σ H) ∧ ∀ i m σ H, W i m σ H →
      ((Itl K a).stop i H ∧ D.nx σ H) ∨ ((Itl K a).go i H ∧ ∃ N : St → Hp → Prop, (∀ σ' H', N σ' H' → ∃ m', m' < m ∧ W (i + 1) m' σ' H') ∧ ∀ x H', (Itl K a).yld i H x H' → g x σ H' fun σ2 H2 => tb { D with nx := N, ct := N, bk := D.nx } σ2 H2) := by
  refine ⟨fun i m σ H => m = xs.length - i ∧ i ≤ xs.length ∧ Pv i σ H, ⟨xs.length, by simp, Nat.zero_le _, h0⟩, ?_⟩
  rintro i m σ H ⟨rfl, hi, p⟩
  have q := hl i σ H hi p
  by_cases hlt : i < xs.length
  · refine .inr ⟨⟨xs, xs[i], q, by simp [hlt]⟩, Pv (i + 1), fun σ' H' p' => ⟨xs.length - (i + 1), by omega, rfl, hlt, p'⟩, fun x H' y => ?_⟩
    obtain ⟨e, y⟩ := y
    subst e
    exact hs i x σ _ (y xs q) p
  · have e : i = xs.length := by omega
    subst e
    exact .inl ⟨⟨xs, q, Nat.le_refl _⟩, hd σ H p⟩
theorem for_tup {K : PySem.W.Frag} {a : Addr} {xs : List V} {g : TG} {tb : TS} {D : Ends} {σ : St} {H : Hp} (Pv : Nat → St → Hp → Prop) (h0 : Pv 0 σ H) (hl : ∀ i σ H, i ≤ xs.length → Pv i σ H → SqT K H a xs)
    (hs : ∀ i x σ H, xs[i]? = some x → Pv i σ H → g x σ H fun σ2 H2 => tb { D with nx := Pv (i + 1), ct := Pv (i + 1), bk := D.nx } σ2 H2) (hd : ∀ σ H, Pv xs.length σ H → D.nx σ H) :
    ∃ W : Nat → Nat → St → Hp → Prop, (∃ m, W 0 m σ H) ∧ ∀ i m σ H, W i m σ H →
      ((Itt K a).stop i H ∧ D.nx σ H) ∨ ((Itt K a).go i H ∧ ∃ N : St → Hp → Prop, (∀ σ' H', N σ' H' → ∃ m', m' < m ∧ W (i + 1) m' σ' H') ∧ ∀ x H', (Itt K a).yld i H x H' → g x σ H' fun σ2 H2 => tb { D with nx := N, ct := N, bk := D.nx } σ2 H2) := by
  refine ⟨fun i m σ H => m = xs.length - i ∧ i ≤ xs.length ∧ Pv i σ H, ⟨xs.length, by simp, Nat.zero_le _, h0⟩, ?_⟩
  rintro i m σ H ⟨rfl, hi, p⟩
  have q := hl i σ H hi p
  by_cases hlt : i < xs.length
  · refine .inr ⟨⟨xs, xs[i], q, by simp [hlt]⟩, Pv (i + 1), fun σ' H' p' => ⟨xs.length - (i + 1), by omega, rfl, hlt, p'⟩, fun x H' y => ?_⟩
    obtain ⟨e, y⟩ := y
    subst e
    exact hs i x σ _ (y xs q) p
  · have e : i = xs.length := by omega
    subst e
    exact .inl ⟨⟨xs, q, Nat.le_refl _⟩, hd σ H p⟩
theorem for_range {lo : Int} {n : Nat} {g : TG} {tb : TS} {D : Ends} {σ : St} {H : Hp} (Pv : Nat → St → Hp → Prop) (h0 : Pv 0 σ H)
    (hs : ∀ i σ H, i < n → Pv i σ H → g (.int (lo + i)) σ H fun σ2 H2 => tb { D with nx := Pv (i + 1), ct := Pv (i + 1), bk := D.nx } σ2 H2) (hd : ∀ σ H, Pv n σ H → D.nx σ H) :
    ∃ W : Nat → Nat → St → Hp → Prop, (∃ m, W 0 m σ H) ∧ ∀ i m σ H, W i m σ H →
      ((Itr lo n).stop i H ∧ D.nx σ H) ∨ ((Itr lo n).go i H ∧ ∃ N : St → Hp → Prop, (∀ σ' H', N σ' H' → ∃ m', m' < m ∧ W (i + 1) m' σ' H') ∧ ∀ x H', (Itr lo n).yld i H x H' → g x σ H' fun σ2 H2 => tb { D with nx := N, ct := N, bk := D.nx } σ2 H2) := by
  refine ⟨fun i m σ H => m = n - i ∧ i ≤ n ∧ Pv i σ H, ⟨n, by simp, Nat.zero_le _, h0⟩, ?_⟩
  rintro i m σ H ⟨rfl, hi, p⟩
  by_cases hlt : i < n
  · refine .inr ⟨hlt, Pv (i + 1), fun σ' H' p' => ⟨n - (i + 1), by omega, rfl, hlt, p'⟩, fun x H' y => ?_⟩
    obtain ⟨e, y⟩ := y
    subst e y
    exact hs i σ _ hlt p
  · have e : i = n := by omega
    subst e
    exact .inl ⟨Nat.le_refl _, hd σ H p⟩
/-- while, by a word and a measure of the state -/
theorem while_by {c : TT} {tb : TS} {D : Ends} {σ : St} {H : Hp} (Pv : St → Hp → Prop) (μ : St → Hp → Nat) (h0 : Pv σ H)
    (hs : ∀ σ H, Pv σ H → c σ H fun b H1 => if b = true then tb { D with nx := fun σ' H' => Pv σ' H' ∧ μ σ' H' < μ σ H, ct := fun σ' H' => Pv σ' H' ∧ μ σ' H' < μ σ H, bk := D.nx } σ H1 else D.nx σ H1)
    (mono : ∀ σ H Q Q', (∀ b H1, Q b H1 → Q' b H1) → c σ H Q → c σ H Q') : tWhile c tb D σ H := by
  refine ⟨fun m σ H => m = μ σ H ∧ Pv σ H, ⟨_, rfl, h0⟩, ?_⟩
  rintro m σ H ⟨rfl, p⟩
  refine mono σ H _ _ (fun b H1 q => ?_) (hs σ H p)
  cases b with
  | true => exact ⟨_, fun σ' H' ⟨p', l⟩ => ⟨_, l, rfl, p'⟩, q⟩
  | false => exact q
end L2

namespace L2
open PySem PySem.Spec PyProof.Rows

abbrev R2 := V → V → Hp → VK → Prop
/-- a two-place operation on values: f is binaryOp op, inplaceOp op or compareOp op -/
def OpR (X : Cx) (f : Value → Value → Sem Value) (r : R2) : Prop :=
  ∀ (pins : List (Addr × Obj)) (s : Shared) (σ : St) (H : Hp) (x y : V) (v u : Value) (Q : VK), Inv X pins σ H s → RelV x v → RelV y u → r x y H Q →
    wpAny (model X.prog X.w) X.A (f v u) (EP X pins σ Q) X.xe s
/-- a one-place operation -/
def UnR (X : Cx) (f : Value → Sem Value) (r : V → Hp → VK → Prop) : Prop :=
  ∀ (pins : List (Addr × Obj)) (s : Shared) (σ : St) (H : Hp) (x : V) (v : Value) (Q : VK), Inv X pins σ H s → RelV x v → r x H Q →
    wpAny (model X.prog X.w) X.A (f v) (EP X pins σ Q) X.xe s
/-- a call of a value that is known (a builtin, a type) with values -/
def CallR (X : Cx) (f : Value) (r : List V → Hp → VK → Prop) : Prop :=
  ∀ (pins : List (Addr × Obj)) (s : Shared) (σ : St) (H : Hp) (xs : List V) (us : List Value) (Q : VK), Inv X pins σ H s → Vals xs us → r xs H Q →
    wpAny (model X.prog X.w) X.A (call f us) (EP X pins σ Q) X.xe s
/-- a value's truth -/
def TruR (X : Cx) (r : V → Hp → (Bool → Hp → Prop) → Prop) : Prop :=
  ∀ (pins : List (Addr × Obj)) (s : Shared) (σ : St) (H : Hp) (x : V) (v : Value) (Q : Bool → Hp → Prop), Inv X pins σ H s → RelV x v → r x H Q →
    wpAny (model X.prog X.w) X.A (truthy v) (TP X pins σ Q) X.xe s

def tOp (r : R2) (ta tb : TE) : TE := fun σ H Q => ta σ H fun x H1 => tb σ H1 fun y H2 => r x y H2 Q
def tUn (r : V → Hp → VK → Prop) (ta : TE) : TE := fun σ H Q => ta σ H fun x H1 => r x H1 Q
/-- ints in, under C, and a value out -/
def rI (C : Int → Int → Prop) (g : Int → Int → V) : R2 := fun x y H Q => ∃ i j, x = .int i ∧ y = .int j ∧ C i j ∧ Q (g i j) H
def rI0 (g : Int → Int → V) : R2 := fun x y H Q => ∃ i j, x = .int i ∧ y = .int j ∧ Q (g i j) H
def rU (g : Int → V) : V → Hp → VK → Prop := fun x H Q => ∃ i, x = .int i ∧ Q (g i) H

section
variable {X : Cx} {a b c : Expr} {ta tb tc : TE} {pos : Pos}

theorem binT (ha : PE X a ta) (hb : PE X b tb) {pins : List (Addr × Obj)} {s : Shared} {σ : St} {H : Hp} {R : V → V → Hp → Prop} (I : Inv X pins σ H s)
    (h : ta σ H fun x H1 => tb σ H1 fun y H2 => R x y H2) {Q : Value → Shared → Prop} {f : Value → Value → Sem Value}
    (hf : ∀ v u s2 x y H2, Inv X pins σ H2 s2 → RelV x v → RelV y u → R x y H2 → wpAny (model X.prog X.w) X.A (f v u) Q X.xe s2) :
    wpAny (model X.prog X.w) X.A (eval a X.env) (fun v s₁ => wpAny (model X.prog X.w) X.A (eval b X.env) (fun u s₂ => wpAny (model X.prog X.w) X.A (f v u) Q X.xe s₂) X.xe s₁) X.xe s := by
  refine thn (ha pins s σ H _ I h) fun v s1 ⟨x, H1, I1, r1, q1⟩ => ?_
  refine thn (hb pins s1 σ H1 _ I1 q1) fun u s2 ⟨y, H2, I2, r2, q2⟩ => ?_
  exact hf v u s2 x y H2 I2 r1 r2 q2

theorem pe_op {op : Operator} {r : R2} (ho : OpR X (binaryOp op) r) (ha : PE X a ta) (hb : PE X b tb) : PE X (.BinOp a op b pos) (tOp r ta tb) := by
  intro pins s σ H Q I h
  exact wpAny_BinOp (binT ha hb I h fun v u s2 x y H2 I2 rx ry q => ho pins s2 σ H2 x y v u Q I2 rx ry q)
theorem pe_un {op : UnaryOp} {r : V → Hp → VK → Prop} (ho : UnR X (unaryOp op) r) (ha : PE X a ta) : PE X (.UnaryOp op a pos) (tUn r ta) := by
  intro pins s σ H Q I h
  exact UnaryOp_ (thn (ha pins s σ H _ I h) fun v s1 ⟨x, H1, I1, r1, q1⟩ => ho pins s1 σ H1 x v Q I1 r1 q1)
/-- a op= e at a name: the name's slot i -/
theorem augR {op : Operator} {r : R2} (ho : OpR X (inplaceOp op) r) {pins : List (Addr × Obj)} {s : Shared} {σ : St} {H : Hp} {x y : V} {v u : Value} {Q : VK} (I : Inv X pins σ H s)
    (rx : RelV x v) (ry : RelV y u) (q : r x y H Q) : wpAny (model X.prog X.w) X.A (inplaceOp op v u) (EP X pins σ Q) X.xe s := ho pins s σ H x y v u Q I rx ry q

/-! ### ints -/
theorem opI {f : Value → Value → Sem Value} {C : Int → Int → Prop} {g : Int → Int → Int}
    (rule : ∀ (i j : Int) (t u : Tok) (s : Shared) (Q : Value → Shared → Prop) (E : Value → Shared → Prop), C i j → Q (.int (g i j) s.toks) { s with toks := s.toks + 1 } → wpAny (model X.prog X.w) X.A (f (.int i t) (.int j u)) Q E s) :
    OpR X f (rI C fun i j => .int (g i j)) := by
  intro pins s σ H x y v u Q I rx ry h
  obtain ⟨i, j, rfl, rfl, hc, q⟩ := h
  obtain ⟨t, rfl⟩ := rx
  obtain ⟨t', rfl⟩ := ry
  exact rule i j t t' s _ _ hc ⟨.int (g i j), H, I.tok _, ⟨_, rfl⟩, q⟩
theorem opI0 {f : Value → Value → Sem Value} {g : Int → Int → Int}
    (rule : ∀ (i j : Int) (t u : Tok) (s : Shared) (Q : Value → Shared → Prop) (E : Value → Shared → Prop), Q (.int (g i j) s.toks) { s with toks := s.toks + 1 } → wpAny (model X.prog X.w) X.A (f (.int i t) (.int j u)) Q E s) :
    OpR X f (rI0 fun i j => .int (g i j)) := by
  intro pins s σ H x y v u Q I rx ry h
  obtain ⟨i, j, rfl, rfl, q⟩ := h
  obtain ⟨t, rfl⟩ := rx
  obtain ⟨t', rfl⟩ := ry
  exact rule i j t t' s _ _ ⟨.int (g i j), H, I.tok _, ⟨_, rfl⟩, q⟩
theorem opB0 {f : Value → Value → Sem Value} {g : Int → Int → Bool}
    (rule : ∀ (i j : Int) (t u : Tok) (s : Shared) (Q : Value → Shared → Prop) (E : Value → Shared → Prop), Q (.bool (g i j)) s → wpAny (model X.prog X.w) X.A (f (.int i t) (.int j u)) Q E s) :
    OpR X f (rI0 fun i j => .bl (g i j)) := by
  intro pins s σ H x y v u Q I rx ry h
  obtain ⟨i, j, rfl, rfl, q⟩ := h
  obtain ⟨t, rfl⟩ := rx
  obtain ⟨t', rfl⟩ := ry
  exact rule i j t t' s _ _ ⟨.bl (g i j), H, I, rfl, q⟩

def CDiv (i j : Int) : Prop := 0 < j ∧ j < 1073741824
def CDivN (i j : Int) : Prop := j ≠ 0 ∧ j.natAbs < 1073741824
def CPow (i j : Int) : Prop := 0 ≤ j ∧ j ≤ 1000000 ∧ i.natAbs < 2 ^ 64
def CMul (i j : Int) : Prop := (-(2 ^ 64) < i ∧ i < 2 ^ 64) ∨ (-(2 ^ 64) < j ∧ j < 2 ^ 64)
theorem CMul.ok {i j : Int} (h : CMul i j) : IntMulOk i j := by
  rcases h with ⟨h1, h2⟩ | ⟨h1, h2⟩
  · exact .of_left (intBits_le_64 h1 h2)
  · exact .of_right (intBits_le_64 h1 h2)
theorem two_pow_nn (k : Nat) : (0 : Int) ≤ 2 ^ k := by
  rw [two_pow_cast]
  exact Int.natCast_nonneg _

theorem op_add : OpR X (binaryOp .Add) (rI0 fun i j => .int (i + j)) := opI0 fun _ _ _ _ _ _ _ q => add_int q
theorem op_sub : OpR X (binaryOp .Sub) (rI0 fun i j => .int (i - j)) := opI0 fun _ _ _ _ _ _ _ q => sub_int q
theorem op_mul : OpR X (binaryOp .Mult) (rI CMul fun i j => .int (i * j)) := opI fun _ _ _ _ _ _ _ hc q => mul_int q hc.ok
/-- // by a positive divisor -/
theorem op_fdiv : OpR X (binaryOp .FloorDiv) (rI CDiv fun i j => .int (i / j)) := opI fun i j _ _ _ _ _ hc q => by
  have h1 : (0 : Int) < j := hc.1
  have h2 : j < 1073741824 := hc.2
  exact floordiv_int (by omega) (by rw [Int.fdiv_eq_ediv_of_nonneg i (by omega)]; exact q) (.inl (PyProof.noPylong_small (by omega)))
theorem op_fdivN : OpR X (binaryOp .FloorDiv) (rI CDivN fun i j => .int (i.fdiv j)) := opI fun _ _ _ _ _ _ _ hc q => floordiv_int hc.1 q (.inl (PyProof.noPylong_small hc.2))
/-- % by a positive divisor of any size -/
theorem op_mod : OpR X (binaryOp .Mod) (rI (fun _ j => 0 < j) fun i j => .int (i % j)) := opI fun i j _ _ _ _ _ hc q => by
  have h1 : (0 : Int) < j := hc
  exact mod_int' (by omega) (by rw [Int.fmod_eq_emod_of_nonneg i (by omega)]; exact q)
theorem op_modN : OpR X (binaryOp .Mod) (rI (fun _ j => j ≠ 0) fun i j => .int (i.fmod j)) := opI fun _ _ _ _ _ _ _ hc q => mod_int' hc q
theorem op_pow : OpR X (binaryOp .Pow) (rI CPow fun i j => .int (i ^ j.toNat)) := opI fun _ _ _ _ _ _ _ hc q => pow_int_small hc.1 hc.2.1 hc.2.2 q
theorem op_shl : OpR X (binaryOp .LShift) (rI CPow fun i j => .int (i * 2 ^ j.toNat)) := opI fun _ _ _ _ _ _ _ hc q => lshift_int_small hc.1 hc.2.1 hc.2.2 q
theorem op_shr : OpR X (binaryOp .RShift) (rI (fun _ j => 0 ≤ j) fun i j => .int (i / 2 ^ j.toNat)) := opI fun i j _ _ _ _ _ hc q =>
  rshift_int hc (by rw [Int.fdiv_eq_ediv_of_nonneg i (two_pow_nn _)]; exact q)
theorem op_and : OpR X (binaryOp .BitAnd) (rI0 fun i j => .int (Builtin.bitAnd i j)) := opI0 fun _ _ _ _ _ _ _ q => and_int q
theorem op_or : OpR X (binaryOp .BitOr) (rI0 fun i j => .int (Builtin.bitOr i j)) := opI0 fun _ _ _ _ _ _ _ q => or_int q
theorem op_xor : OpR X (binaryOp .BitXor) (rI0 fun i j => .int (Builtin.bitXor i j)) := opI0 fun _ _ _ _ _ _ _ q => xor_int q

theorem iop_add : OpR X (inplaceOp .Add) (rI0 fun i j => .int (i + j)) := opI0 fun _ _ _ _ _ _ _ q => iadd_int q
theorem iop_sub : OpR X (inplaceOp .Sub) (rI0 fun i j => .int (i - j)) := opI0 fun _ _ _ _ _ _ _ q => isub_int q
theorem iop_mul : OpR X (inplaceOp .Mult) (rI CMul fun i j => .int (i * j)) := opI fun _ _ _ _ _ _ _ hc q => imul_int q hc.ok
theorem iop_fdiv : OpR X (inplaceOp .FloorDiv) (rI CDiv fun i j => .int (i / j)) := opI fun i j _ _ _ _ _ hc q => by
  have h1 : (0 : Int) < j := hc.1
  have h2 : j < 1073741824 := hc.2
  exact ifloordiv_int (by omega) (by rw [Int.fdiv_eq_ediv_of_nonneg i (by omega)]; exact q) (.inl (PyProof.noPylong_small (by omega)))
theorem iop_mod : OpR X (inplaceOp .Mod) (rI (fun _ j => 0 < j) fun i j => .int (i % j)) := opI fun i j _ _ _ _ _ hc q => by
  have h1 : (0 : Int) < j := hc
  exact imod_int (by omega) (by rw [Int.fmod_eq_emod_of_nonneg i (by omega)]; exact q)
theorem iop_shl : OpR X (inplaceOp .LShift) (rI CPow fun i j => .int (i * 2 ^ j.toNat)) := opI fun _ _ _ _ _ _ _ hc q => ilshift_int_small hc.1 hc.2.1 hc.2.2 q
theorem iop_shr : OpR X (inplaceOp .RShift) (rI (fun _ j => 0 ≤ j) fun i j => .int (i / 2 ^ j.toNat)) := opI fun i j _ _ _ _ _ hc q =>
  irshift_int hc (by rw [Int.fdiv_eq_ediv_of_nonneg i (two_pow_nn _)]; exact q)
theorem iop_and : OpR X (inplaceOp .BitAnd) (rI0 fun i j => .int (Builtin.bitAnd i j)) := opI0 fun _ _ _ _ _ _ _ q => iand_int q
theorem iop_or : OpR X (inplaceOp .BitOr) (rI0 fun i j => .int (Builtin.bitOr i j)) := opI0 fun _ _ _ _ _ _ _ q => ior_int q
theorem iop_xor : OpR X (inplaceOp .BitXor) (rI0 fun i j => .int (Builtin.bitXor i j)) := opI0 fun _ _ _ _ _ _ _ q => ixor_int q

theorem unI {f : Value → Sem Value} {g : Int → Int}
    (rule : ∀ (i : Int) (t : Tok) (s : Shared) (Q : Value → Shared → Prop) (E : Value → Shared → Prop), Q (.int (g i) s.toks) { s with toks := s.toks + 1 } → wpAny (model X.prog X.w) X.A (f (.int i t)) Q E s) :
    UnR X f (rU fun i => .int (g i)) := by
  intro pins s σ H x v Q I rx h
  obtain ⟨i, rfl, q⟩ := h
  obtain ⟨t, rfl⟩ := rx
  exact rule i t s _ _ ⟨.int (g i), H, I.tok _, ⟨_, rfl⟩, q⟩
theorem un_neg : UnR X (unaryOp .USub) (rU fun i => .int (-i)) := unI fun _ _ _ _ _ q => neg_int q
theorem un_inv : UnR X (unaryOp .Invert) (rU fun i => .int (Builtin.bitNot i)) := unI fun _ _ _ _ _ q => invert_int q

/-! ### bools among ints: n += (a < b) -/
theorem op_add_ib : OpR X (binaryOp .Add) (fun x y H Q => ∃ i k, x = .int i ∧ y = .bl k ∧ Q (.int (i + b2i k)) H) := by
  intro pins s σ H x y v u Q I rx ry h
  obtain ⟨i, k, rfl, rfl, q⟩ := h
  obtain ⟨t, rfl⟩ := rx
  cases ry
  exact add_int_bool ⟨.int (i + b2i k), H, I.tok _, ⟨_, rfl⟩, q⟩
end

/-! ### comparisons -/
/-- the scalars that == tells apart as data does -/
def scal : V → V → Bool
  | .non, .non => true | .non, .int _ => true | .int _, .non => true | .non, .bl _ => true | .bl _, .non => true | .non, .str _ => true | .str _, .non => true
  | .int _, .int _ => true | .bl _, .bl _ => true | .str _, .str _ => true | .byt _, .byt _ => true
  | .int _, .str _ => true | .str _, .int _ => true | .bl _, .str _ => true | .str _, .bl _ => true
  | _, _ => false
def rEq : R2 := fun x y H Q => scal x y = true ∧ Q (.bl (decide (x = y))) H
def rNe : R2 := fun x y H Q => scal x y = true ∧ Q (.bl (!decide (x = y))) H

theorem dec_int {i j : Int} : decide (V.int i = V.int j) = (i == j) := by
  rw [Bool.eq_iff_iff]
  simp
theorem dec_bl {i j : Bool} : decide (V.bl i = V.bl j) = (i == j) := by
  rw [Bool.eq_iff_iff]
  simp
theorem dec_str {i j : Str} : decide (V.str i = V.str j) = (i == j) := by
  rw [Bool.eq_iff_iff]
  simp
theorem dec_byt {i j : Array UInt8} : decide (V.byt i = V.byt j) = (i.toList == j.toList) := by
  rw [Bool.eq_iff_iff]
  cases i
  cases j
  simp

section
variable {X : Cx} {a b c : Expr} {ta tb tc : TE} {pos : Pos}
theorem fin_bl {pins : List (Addr × Obj)} {σ : St} {H : Hp} {s : Shared} {Q : VK} {k k' : Bool} (I : Inv X pins σ H s) (q : Q (.bl k) H) (e : k = k') : EP X pins σ Q (.bool k') s := by
  subst e
  exact ⟨.bl k, H, I, rfl, q⟩
theorem op_eq : OpR X (compareOp .Eq) rEq := by
  intro pins s σ H x y v u Q I rx ry h
  obtain ⟨hs, q⟩ := h
  cases x with
  | non =>
    cases rx
    cases y with
    | non => cases ry; exact PySem.EqNone.eq_none_none (fin_bl I q (by simp))
    | bl j => cases ry; exact PySem.EqNone.eq_none_bool (fin_bl I q (by simp))
    | int j => obtain ⟨t', rfl⟩ := ry; exact PySem.EqNone.eq_none_int (fin_bl I q (by simp))
    | str j => obtain ⟨t', rfl⟩ := ry; exact PySem.EqNone.eq_none_str (fin_bl I q (by simp))
    | _ => exact absurd (show false = true from hs) Bool.false_ne_true
  | bl i =>
    cases rx
    cases y with
    | non => cases ry; exact PySem.EqNone.eq_bool_none (fin_bl I q (by simp))
    | bl j => cases ry; exact eq_bool (fin_bl I q dec_bl)
    | str j => obtain ⟨t', rfl⟩ := ry; exact PySem.EqMixed.eq_bool_str (fin_bl I q (by simp))
    | _ => exact absurd (show false = true from hs) Bool.false_ne_true
  | int i =>
    obtain ⟨t, rfl⟩ := rx
    cases y with
    | non => cases ry; exact PySem.EqNone.eq_int_none (fin_bl I q (by simp))
    | int j => obtain ⟨t', rfl⟩ := ry; exact eq_int (fin_bl I q dec_int)
    | str j => obtain ⟨t', rfl⟩ := ry; exact PySem.EqMixed.eq_int_str (fin_bl I q (by simp))
    | _ => exact absurd (show false = true from hs) Bool.false_ne_true
  | str i =>
    obtain ⟨t, rfl⟩ := rx
    cases y with
    | non => cases ry; exact PySem.EqNone.eq_str_none (fin_bl I q (by simp))
    | bl j => cases ry; exact PySem.EqMixed.eq_str_bool (fin_bl I q (by simp))
    | int j => obtain ⟨t', rfl⟩ := ry; exact PySem.EqMixed.eq_str_int (fin_bl I q (by simp))
    | str j => obtain ⟨t', rfl⟩ := ry; exact eq_str (fin_bl I q dec_str)
    | _ => exact absurd (show false = true from hs) Bool.false_ne_true
  | byt i =>
    obtain ⟨t, rfl⟩ := rx
    cases y with
    | byt j => obtain ⟨t', rfl⟩ := ry; exact PySem.W.eq_bytes (fin_bl I q dec_byt)
    | _ => exact absurd (show false = true from hs) Bool.false_ne_true
  | _ => cases y <;> exact absurd (show false = true from hs) Bool.false_ne_true
theorem op_ne : OpR X (compareOp .NotEq) rNe := by
  intro pins s σ H x y v u Q I rx ry h
  obtain ⟨hs, q⟩ := h
  cases x with
  | non =>
    cases rx
    cases y with
    | non => cases ry; exact PySem.EqNone.ne_none_none (fin_bl I q (by simp))
    | bl j => cases ry; exact PySem.EqNone.ne_none_bool (fin_bl I q (by simp))
    | int j => obtain ⟨t', rfl⟩ := ry; exact PySem.EqNone.ne_none_int (fin_bl I q (by simp))
    | str j => obtain ⟨t', rfl⟩ := ry; exact PySem.EqNone.ne_none_str (fin_bl I q (by simp))
    | _ => exact absurd (show false = true from hs) Bool.false_ne_true
  | bl i =>
    cases rx
    cases y with
    | non => cases ry; exact PySem.EqNone.ne_bool_none (fin_bl I q (by simp))
    | bl j => cases ry; exact ne_bool (fin_bl I q (congrArg not dec_bl))
    | str j => obtain ⟨t', rfl⟩ := ry; exact PySem.EqMixed.ne_bool_str (fin_bl I q (by simp))
    | _ => exact absurd (show false = true from hs) Bool.false_ne_true
  | int i =>
    obtain ⟨t, rfl⟩ := rx
    cases y with
    | non => cases ry; exact PySem.EqNone.ne_int_none (fin_bl I q (by simp))
    | int j => obtain ⟨t', rfl⟩ := ry; exact ne_int (fin_bl I q (congrArg not dec_int))
    | str j => obtain ⟨t', rfl⟩ := ry; exact PySem.EqMixed.ne_int_str (fin_bl I q (by simp))
    | _ => exact absurd (show false = true from hs) Bool.false_ne_true
  | str i =>
    obtain ⟨t, rfl⟩ := rx
    cases y with
    | non => cases ry; exact PySem.EqNone.ne_str_none (fin_bl I q (by simp))
    | bl j => cases ry; exact PySem.EqMixed.ne_str_bool (fin_bl I q (by simp))
    | int j => obtain ⟨t', rfl⟩ := ry; exact PySem.EqMixed.ne_str_int (fin_bl I q (by simp))
    | str j => obtain ⟨t', rfl⟩ := ry; exact ne_str (fin_bl I q (congrArg not dec_str))
    | _ => exact absurd (show false = true from hs) Bool.false_ne_true
  | byt i =>
    obtain ⟨t, rfl⟩ := rx
    cases y with
    | byt j => obtain ⟨t', rfl⟩ := ry; exact PySem.W.ne_bytes (fin_bl I q (congrArg not dec_byt))
    | _ => exact absurd (show false = true from hs) Bool.false_ne_true
  | _ => cases y <;> exact absurd (show false = true from hs) Bool.false_ne_true

theorem op_lt : OpR X (compareOp .Lt) (rI0 fun i j => .bl (decide (i < j))) := opB0 fun _ _ _ _ _ _ _ q => lt_int q
theorem op_le : OpR X (compareOp .LtE) (rI0 fun i j => .bl (decide (i ≤ j))) := opB0 fun _ _ _ _ _ _ _ q => le_int q
theorem op_gt : OpR X (compareOp .Gt) (rI0 fun i j => .bl (decide (j < i))) := opB0 fun _ _ _ _ _ _ _ q => gt_int q
theorem op_ge : OpR X (compareOp .GtE) (rI0 fun i j => .bl (decide (j ≤ i))) := opB0 fun _ _ _ _ _ _ _ q => ge_int q
theorem op_lt_str : OpR X (compareOp .Lt) (fun x y H Q => ∃ i j, x = .str i ∧ y = .str j ∧ Q (.bl (decide (i.cps.toList < j.cps.toList))) H) := by
  intro pins s σ H x y v u Q I rx ry h
  obtain ⟨i, j, rfl, rfl, q⟩ := h
  obtain ⟨t, rfl⟩ := rx
  obtain ⟨t', rfl⟩ := ry
  exact lt_str (fin_bl I q rfl)
/-- the one string within the other -/
theorem op_in_str : OpR X (compareOp .In) (fun x y H Q => ∃ i j, x = .str i ∧ y = .str j ∧ Q (.bl (!(Builtin.Str.occurrences j i 0 j.length 1).isEmpty)) H) := by
  intro pins s σ H x y v u Q I rx ry h
  obtain ⟨i, j, rfl, rfl, q⟩ := h
  obtain ⟨t, rfl⟩ := rx
  obtain ⟨t', rfl⟩ := ry
  exact in_str (fin_bl I q rfl)

/-- is None, is not None: the right side a value none -/
theorem op_isN : OpR X (compareOp .Is) (fun x y H Q => y = .non ∧ Q (.bl (decide (x = .non))) H) := by
  intro pins s σ H x y v u Q I rx ry h
  obtain ⟨rfl, q⟩ := h
  cases ry
  refine is_none_gen (fin_bl I q ?_)
  cases x <;> first
    | (cases rx; rfl)
    | (obtain ⟨t, rfl⟩ := rx; rfl)
theorem op_notN : OpR X (compareOp .IsNot) (fun x y H Q => y = .non ∧ Q (.bl (!decide (x = .non))) H) := by
  intro pins s σ H x y v u Q I rx ry h
  obtain ⟨rfl, q⟩ := h
  cases ry
  refine isnot_none_gen (fin_bl I q ?_)
  cases x <;> first
    | (cases rx; rfl)
    | (obtain ⟨t, rfl⟩ := rx; rfl)

theorem op_notin_str : OpR X (compareOp .NotIn) (fun x y H Q => ∃ i j, x = .str i ∧ y = .str j ∧ Q (.bl (!(!(Builtin.Str.occurrences j i 0 j.length 1).isEmpty))) H) := by
  intro pins s σ H x y v u Q I rx ry h
  obtain ⟨i, j, rfl, rfl, q⟩ := h
  obtain ⟨t, rfl⟩ := rx
  obtain ⟨t', rfl⟩ := ry
  exact notIn_str (fin_bl I q rfl)
/-- is, is not of two objects that are tracked lists or instances -/
def isObj : HO → Bool
  | .lst _ => true
  | .ins _ _ _ => true
  | _ => false
theorem obj_there {pins : List (Addr × Obj)} {s : Shared} {σ : St} {H : Hp} {a : Addr} {o : HO} (I : Inv X pins σ H s) (h : H a = some o) (p : isObj o = true) : ∃ ob, s.heap.get? a = some ob ∧ ob.cls ≠ .type "tuple" := by
  cases o with
  | lst xs =>
    obtain ⟨_, its, n, _, e⟩ : xs.length ≤ sizeLine ∧ ∃ (its : List Value) (n : Nat), Vals xs its ∧ s.heap.get? a = some { cls := .type "list", data := .seq its.toArray n } := I.hok a _ h
    exact ⟨_, e, (by show Value.type "list" ≠ .type "tuple"; decide +kernel)⟩
  | ins C dx fs =>
    have x := I.hok a _ h
    obtain ⟨_, _, _, e, _⟩ := x
    exact ⟨_, e, (by show Value.ref C ≠ .type "tuple"; exact fun z => by cases z)⟩
  | _ => exact absurd (show false = true from p) Bool.false_ne_true
theorem op_is_ref : OpR X (compareOp .Is) (fun x y H Q => ∃ a b oa ob, x = .ref a ∧ y = .ref b ∧ H a = some oa ∧ isObj oa = true ∧ H b = some ob ∧ isObj ob = true ∧ Q (.bl (decide (a = b))) H) := by
  intro pins s σ H x y v u Q I rx ry h
  obtain ⟨a, b, oa, ob, rfl, rfl, ha, pa, hb, pb, q⟩ := h
  cases rx
  cases ry
  obtain ⟨o1, e1, n1⟩ := obj_there I ha pa
  obtain ⟨o2, e2, _⟩ := obj_there I hb pb
  by_cases z : a = b
  · subst z
    exact wpAny_is_ref_self (fin_bl I q (by simp))
  · exact wpAny_is_ref_other z e1 e2 n1 (fin_bl I q (by simp [z]))
theorem op_isnot_ref : OpR X (compareOp .IsNot) (fun x y H Q => ∃ a b oa ob, x = .ref a ∧ y = .ref b ∧ H a = some oa ∧ isObj oa = true ∧ H b = some ob ∧ isObj ob = true ∧ Q (.bl (!decide (a = b))) H) := by
  intro pins s σ H x y v u Q I rx ry h
  obtain ⟨a, b, oa, ob, rfl, rfl, ha, pa, hb, pb, q⟩ := h
  cases rx
  cases ry
  obtain ⟨o1, e1, n1⟩ := obj_there I ha pa
  obtain ⟨o2, e2, _⟩ := obj_there I hb pb
  by_cases z : a = b
  · subst z
    exact wpAny_isNot_ref_self (fin_bl I q (by simp))
  · exact wpAny_isNot_ref_other z e1 e2 n1 (fin_bl I q (by simp [z]))

/-- two rules for one operation: by cases -/
theorem OpR.or {f : Value → Value → Sem Value} {r r' : R2} (h : OpR X f r) (h' : OpR X f r') : OpR X f (fun x y H Q => r x y H Q ∨ r' x y H Q) := by
  intro pins s σ H x y v u Q I rx ry q
  rcases q with q | q
  · exact h pins s σ H x y v u Q I rx ry q
  · exact h' pins s σ H x y v u Q I rx ry q

theorem nomark (b : Expr) {op : CmpOp} (h : op ≠ .In := by decide) (h2 : op ≠ .NotIn := by decide) : behindInMarks op b = false := by
  have e1 : (op == CmpOp.In) = false := by cases op <;> first | rfl | exact absurd rfl h
  have e2 : (op == CmpOp.NotIn) = false := by cases op <;> first | rfl | exact absurd rfl h2
  cases b <;> simp [behindInMarks, e1, e2]
/-- a comparison as a value; hm: nomark b, or (for in, not in) by with_unfolding_all rfl -/
theorem pe_cmpR {op : CmpOp} {r : R2} (ho : OpR X (compareOp op) r) (ha : PE X a ta) (hb : PE X b tb) (hm : behindInMarks op b = false) : PE X (.Compare a [op] [b] pos) (tOp r ta tb) := by
  intro pins s σ H Q I h
  exact wpAny_Compare1 (binT ha hb I h fun v u s2 x y H2 I2 rx ry q => ho pins s2 σ H2 x y v u Q I2 rx ry q) hm
/-- a reading of a value as a test -/
def tTest (t : TE) : TT := fun σ H Q => t σ H fun x H' => ∃ k, x = .bl k ∧ Q k H'
theorem pt_cmpR {op : CmpOp} {r : R2} (ho : OpR X (compareOp op) r) (ha : PE X a ta) (hb : PE X b tb) (hm : behindInMarks op b = false) : PT X (.Compare a [op] [b] pos) (tTest (tOp r ta tb)) := by
  intro pins s σ H Q I h
  refine wpAny_isTrue_Compare1 (thn (ha pins s σ H _ I h) fun v s1 ⟨x, H1, I1, r1, q1⟩ => thn (hb pins s1 σ H1 _ I1 q1) fun u s2 ⟨y, H2, I2, r2, q2⟩ =>
    thn (ho pins s2 σ H2 x y v u _ I2 r1 r2 q2) fun c s3 ⟨z, H3, I3, r3, k, e, q3⟩ => ?_) hm
  subst e
  cases r3
  exact wpAny_truthy_bool ⟨H3, I3, q3⟩
/-- a op1 b op2 c -/
def tChain (r r' : R2) (ta tb tc : TE) : TE := fun σ H Q => ta σ H fun x H1 => tb σ H1 fun y H2 => r x y H2 fun z H3 => ∃ k, z = .bl k ∧
  (if k = true then tc σ H3 fun w' H4 => r' y w' H4 Q else Q (.bl false) H3)
theorem pe_chain {op op' : CmpOp} {r r' : R2} (ho : OpR X (compareOp op) r) (ho' : OpR X (compareOp op') r') (ha : PE X a ta) (hb : PE X b tb) (hc : PE X c tc)
    (hm : lastMarks [op, op'] [b, c] = false := by with_unfolding_all rfl) : PE X (.Compare a [op, op'] [b, c] pos) (tChain r r' ta tb tc) := by
  intro pins s σ H Q I h
  refine Compare_chain (thn (ha pins s σ H _ I h) fun v s1 ⟨x, H1, I1, r1, q1⟩ => chain_link (thn (hb pins s1 σ H1 _ I1 q1) fun u s2 ⟨y, H2, I2, r2, q2⟩ =>
    thn (ho pins s2 σ H2 x y v u _ I2 r1 r2 q2) fun d s3 ⟨z, H3, I3, r3, k, e, q3⟩ => ?_)) hm
  subst e
  cases r3
  refine wpAny_truthy_bool ?_
  cases k with
  | false => exact ite_ff ⟨.bl false, H3, I3, rfl, q3⟩
  | true => exact ite_tt (chain_last (thn (hc pins s3 σ H3 _ I3 q3) fun w' s4 ⟨z', H4, I4, r4, q4⟩ => ho' pins s4 σ H4 y z' u w' Q I4 r2 r4 q4))
theorem pt_chain {op op' : CmpOp} {r r' : R2} (ho : OpR X (compareOp op) r) (ho' : OpR X (compareOp op') r') (ha : PE X a ta) (hb : PE X b tb) (hc : PE X c tc)
    (hm : lastMarks [op, op'] [b, c] = false := by with_unfolding_all rfl) : PT X (.Compare a [op, op'] [b, c] pos) (tTest (tChain r r' ta tb tc)) := by
  intro pins s σ H Q I h
  refine isTrue_chain (thn (ha pins s σ H _ I h) fun v s1 ⟨x, H1, I1, r1, q1⟩ => test_link (thn (hb pins s1 σ H1 _ I1 q1) fun u s2 ⟨y, H2, I2, r2, q2⟩ =>
    thn (ho pins s2 σ H2 x y v u _ I2 r1 r2 q2) fun d s3 ⟨z, H3, I3, r3, k, e, q3⟩ => ?_)) hm
  subst e
  cases r3
  refine wpAny_truthy_bool ?_
  cases k with
  | false =>
    obtain ⟨k', e', q'⟩ := q3
    cases e'
    exact ite_ff ⟨H3, I3, q'⟩
  | true =>
    refine ite_tt (test_last (thn (hc pins s3 σ H3 _ I3 q3) fun w' s4 ⟨z', H4, I4, r4, q4⟩ => thn (ho' pins s4 σ H4 y z' u w' _ I4 r2 r4 q4) fun d' s5 ⟨z2, H5, I5, r5, k2, e2, q5⟩ => ?_))
    subst e2
    cases r5
    exact wpAny_truthy_bool ⟨H5, I5, q5⟩

/-! ### truth -/
/-- a value's truth by the abstract heap -/
def TruV (K : PySem.W.Frag) (x : V) (H : Hp) (k : Bool) : Prop :=
  match x with
  | .non => k = false
  | .bl b => k = b
  | .int i => k = (i != 0)
  | .str y => y.length ≤ sizeLine ∧ k = ((y.length : Int) != 0)
  | .byt y => y.size ≤ sizeLine ∧ k = ((y.size : Int) != 0)
  | .ref p => (∃ xs, SqL K H p xs ∧ k = !xs.isEmpty) ∨ (∃ xs, SqT K H p xs ∧ k = !xs.isEmpty) ∨ ∃ kvs, H p = some (.dK kvs) ∧ k = !kvs.isEmpty
  | _ => False
theorem isEmpty_kv {κ : Type} {kvs : List (κ × V)} {vs : List (κ × Value)} (r : KV kvs vs) : (!vs.isEmpty) = !kvs.isEmpty := by
  cases r <;> rfl
theorem isEmpty_of {xs : List V} {its : List Value} (r : Vals xs its) : (!its.toArray.isEmpty) = !xs.isEmpty := by
  cases r <;> simp
theorem line63 : (sizeLine : Nat) < 2 ^ 63 := by rw [sizeLine_eq]; decide
theorem tru_ok : TruR X (fun x H Q => ∃ k, TruV X.K x H k ∧ Q k H) := by
  intro pins s σ H x v Q I rx h
  obtain ⟨k, e, q⟩ := h
  have hl := line63
  have hs : sizeLine = 16777216 := sizeLine_eq
  cases x with
  | non =>
    cases rx
    have e' : k = false := e
    subst e'
    exact truthy_none ⟨H, I, q⟩
  | bl b =>
    cases rx
    have e' : k = b := e
    subst e'
    exact wpAny_truthy_bool ⟨H, I, q⟩
  | int i =>
    obtain ⟨t, rfl⟩ := rx
    have e' : k = (i != 0) := e
    subst e'
    exact PySem.P.truthy_int ⟨H, I, q⟩
  | str y =>
    obtain ⟨t, rfl⟩ := rx
    obtain ⟨hy, e'⟩ : y.length ≤ sizeLine ∧ k = ((y.length : Int) != 0) := e
    subst e'
    exact PySem.P.truthy_str (by omega) ⟨H, I.tok _, q⟩
  | byt y =>
    obtain ⟨t, rfl⟩ := rx
    obtain ⟨hy, e'⟩ : y.size ≤ sizeLine ∧ k = ((y.size : Int) != 0) := e
    subst e'
    exact PySem.W.truthy_bytes (by omega) ⟨H, I.tok _, q⟩
  | ref p =>
    cases rx
    have e' : (∃ xs, SqL X.K H p xs ∧ k = !xs.isEmpty) ∨ (∃ xs, SqT X.K H p xs ∧ k = !xs.isEmpty) ∨ ∃ kvs, H p = some (.dK kvs) ∧ k = !kvs.isEmpty := e
    rcases e' with ⟨xs, hx, e'⟩ | ⟨xs, hx, e'⟩ | ⟨kvs, hx, e'⟩
    · subst e'
      obtain ⟨its, r, pl, hz⟩ := I.list hx
      have hlen := r.length
      exact wpAny_truthy_list pl.isList (by simp only [List.size_toArray]; omega) ⟨H, I.tok _, by rw [isEmpty_of r]; exact q⟩
    · subst e'
      obtain ⟨its, r, pl, hz⟩ := I.tuple hx
      have hlen := r.length
      exact truthy_tuple pl (by simp only [List.size_toArray]; omega) ⟨H, I.tok _, by rw [isEmpty_of r]; exact q⟩
    · subst e'
      obtain ⟨hz, hS, vs, r, m⟩ : kvs.length ≤ sizeLine ∧ (p == sysModules) = false ∧ ∃ vs, KV kvs vs ∧ s.heap.DictOf (mixKind X.prog X.w) p vs := I.hok p _ hx
      have hlen : kvs.length = vs.length := Paired.length r
      exact wpAny_truthy_dict hS m (by omega) ⟨H, I.tok _, by rw [isEmpty_kv r]; exact q⟩
  | _ => exact (show False from e).elim
/-- any expression whose test is its value's truth (a name, a call, a subscript, a field ..: he by fun _ => rfl) -/
theorem pt_truth (ha : PE X a ta) (he : ∀ whole, isTrue a X.env whole = (do let v ← whole; standAt a.pos; holding [v] (truthy v))) :
    PT X a (fun σ H Q => ta σ H fun x H' => ∃ k, TruV X.K x H' k ∧ Q k H') := by
  intro pins s σ H Q I h
  exact isTrue_plain (thn (ha pins s σ H _ I h) fun v s1 ⟨x, H1, I1, r1, q1⟩ => tru_ok pins s1 σ H1 x v Q I1 r1 q1) (he _)

/-! ### strs and bytes -/
theorem pe_byt {x : List UInt8} {k : Nat} : PE X (.Constant (.bytes x) k pos) (fun _ H Q => Q (.byt x.toArray) H) := fun _ _ _ H _ I h => PySem.W.Constant_bytes ⟨.byt x.toArray, H, I.tok _, ⟨_, rfl⟩, h⟩
theorem op_add_str : OpR X (binaryOp .Add) (fun x y H Q => ∃ i j, x = .str i ∧ y = .str j ∧ i.length + j.length ≤ sizeLine ∧ Q (.str (i ++ j)) H) := by
  intro pins s σ H x y v u Q I rx ry h
  obtain ⟨i, j, rfl, rfl, hz, q⟩ := h
  obtain ⟨t, rfl⟩ := rx
  obtain ⟨t', rfl⟩ := ry
  exact add_str (fun t' tk => ⟨.str (i ++ j), H, I.tok _, ⟨_, rfl⟩, q⟩) hz
theorem iop_add_str : OpR X (inplaceOp .Add) (fun x y H Q => ∃ i j, x = .str i ∧ y = .str j ∧ i.length + j.length ≤ sizeLine ∧ Q (.str (i ++ j)) H) := by
  intro pins s σ H x y v u Q I rx ry h
  obtain ⟨i, j, rfl, rfl, hz, q⟩ := h
  obtain ⟨t, rfl⟩ := rx
  obtain ⟨t', rfl⟩ := ry
  exact iadd_str (fun t' tk => ⟨.str (i ++ j), H, I.tok _, ⟨_, rfl⟩, q⟩) hz
theorem op_add_byt : OpR X (binaryOp .Add) (fun x y H Q => ∃ i j, x = .byt i ∧ y = .byt j ∧ i.size + j.size ≤ 16777216 ∧ Q (.byt (i ++ j)) H) := by
  intro pins s σ H x y v u Q I rx ry h
  obtain ⟨i, j, rfl, rfl, hz, q⟩ := h
  obtain ⟨t, rfl⟩ := rx
  obtain ⟨t', rfl⟩ := ry
  exact PySem.W.KBy.add_bytes hz (fun t' tk => ⟨.byt (i ++ j), H, I.tok _, ⟨_, rfl⟩, q⟩)

def PlainIxT (b : Expr) : Prop := ∀ o i, subscripted b false o i = operate [o, i] (getItem o i)
/-- s[i], 0 ≤ i < len -/
theorem pe_item_str (ha : PE X a ta) (hb : PE X b tb) (hs : PlainIxT b) :
    PE X (.Subscript a b pos) (tOp (fun x y H Q => ∃ z i c, x = .str z ∧ y = .int i ∧ 0 ≤ i ∧ i < 2 ^ 63 ∧ i < z.length ∧ z.cps[i.toNat]? = some c ∧ Q (.str ⟨#[c]⟩) H) ta tb) := by
  intro pins s σ H Q I h
  refine Subscript_ (binT ha hb I h fun v u s2 x y H2 I2 rx ry q => ?_)
  obtain ⟨z, i, c, rfl, rfl, h0, h63, h1, hc, q⟩ := q
  obtain ⟨t, rfl⟩ := rx
  obtain ⟨t', rfl⟩ := ry
  have e : seqIndex? i z.length = some i.toNat := PySem.StrLaws.seqIndex_nonneg h0 h1
  exact tail_any (typeIs_str s2 z t) slot_str_getitem.lookup (getItem_str (c := c) (by
    have e1 : decide (i < -(2 ^ 63 : Int)) = false := decide_eq_false (by omega)
    have e2 : decide (i ≥ 2 ^ 63) = false := decide_eq_false (by omega)
    rw [e1, e2] <;> rfl) (by rw [e]; exact hc) ⟨.str ⟨#[c]⟩, H2, I2.tok _, ⟨_, rfl⟩, q⟩) (hs _ _)
/-- b[i], 0 ≤ i < len -/
theorem pe_item_byt (ha : PE X a ta) (hb : PE X b tb) (hs : PlainIxT b) :
    PE X (.Subscript a b pos) (tOp (fun x y H Q => ∃ (z : List UInt8) (i : Int), x = .byt z.toArray ∧ y = .int i ∧ z.length ≤ sizeLine ∧ 0 ≤ i ∧ i < z.length ∧ Q (.int ((z.getD i.toNat 0).toNat : Nat)) H) ta tb) := by
  intro pins s σ H Q I h
  refine Subscript_ (binT ha hb I h fun v u s2 x y H2 I2 rx ry q => ?_)
  obtain ⟨z, i, rfl, rfl, hz, h0, h1, q⟩ := q
  obtain ⟨t, rfl⟩ := rx
  obtain ⟨t', rfl⟩ := ry
  have hl : sizeLine = 16777216 := sizeLine_eq
  exact tail_any (PySem.W.typeIs_bytes s2 z.toArray t) PySem.W.FB.slot_bytes_getitem.lookup (PySem.W.getItem_bytes (by omega) h0 h1 ⟨.int ((z.getD i.toNat 0).toNat : Nat), H2, I2.tok _, ⟨_, rfl⟩, q⟩) (hs _ _)

/-! ### scalar builtins, by CallR -/
theorem vals1 {x : V} {us : List Value} (r : Vals [x] us) : ∃ u, us = [u] ∧ RelV x u := by
  cases r with
  | cons r1 r2 => cases r2; exact ⟨_, rfl, r1⟩
theorem vals2 {x y : V} {us : List Value} (r : Vals [x, y] us) : ∃ u w', us = [u, w'] ∧ RelV x u ∧ RelV y w' := by
  cases r with
  | cons r1 r2 =>
    cases r2 with
    | cons r3 r4 => cases r4; exact ⟨_, _, rfl, r1, r3⟩
theorem call_abs : CallR X (.builtin "abs") (fun xs H Q => ∃ i, xs = [.int i] ∧ Q (.int (if i < 0 then -i else i)) H) := by
  intro pins s σ H xs us Q I r h
  obtain ⟨i, rfl, q⟩ := h
  obtain ⟨u, rfl, t, rfl⟩ := vals1 r
  exact call_abs_int fun u tk => ⟨.int (if i < 0 then -i else i), H, I.tok _, ⟨_, rfl⟩, q⟩
theorem call_max2 (hc : X.calm = true) : CallR X (.builtin "max") (fun xs H Q => ∃ i j, xs = [.int i, .int j] ∧ Q (.int (if j > i then j else i)) H) := by
  intro pins s σ H xs us Q I r h
  obtain ⟨i, j, rfl, q⟩ := h
  obtain ⟨u, w', rfl, ⟨t, rfl⟩, ⟨t', rfl⟩⟩ := vals2 r
  refine max_two_ints (I.ok.hd hc) fun h' tk k => ⟨_, H, I.kept k, ?_, q⟩
  by_cases hj : j > i
  · rw [if_pos hj, if_pos hj]; exact ⟨_, rfl⟩
  · rw [if_neg hj, if_neg hj]; exact ⟨_, rfl⟩
theorem call_min2 (hc : X.calm = true) : CallR X (.builtin "min") (fun xs H Q => ∃ i j, xs = [.int i, .int j] ∧ Q (.int (if j < i then j else i)) H) := by
  intro pins s σ H xs us Q I r h
  obtain ⟨i, j, rfl, q⟩ := h
  obtain ⟨u, w', rfl, ⟨t, rfl⟩, ⟨t', rfl⟩⟩ := vals2 r
  refine min_two_ints (I.ok.hd hc) fun h' tk k => ⟨_, H, I.kept k, ?_, q⟩
  by_cases hj : j < i
  · rw [if_pos hj, if_pos hj]; exact ⟨_, rfl⟩
  · rw [if_neg hj, if_neg hj]; exact ⟨_, rfl⟩
theorem call_int1 : CallR X (.type "int") (fun xs H Q => (∃ i, xs = [.int i] ∧ Q (.int i) H) ∨ ∃ k, xs = [.bl k] ∧ Q (.int (if k then 1 else 0)) H) := by
  intro pins s σ H xs us Q I r h
  rcases h with ⟨i, rfl, q⟩ | ⟨k, rfl, q⟩
  · obtain ⟨u, rfl, t, rfl⟩ := vals1 r
    exact call_int_int ⟨.int i, H, I, ⟨_, rfl⟩, q⟩
  · obtain ⟨u, rfl, r1⟩ := vals1 r
    cases r1
    exact call_int_bool ⟨.int (if k then 1 else 0), H, I.tok _, ⟨_, rfl⟩, q⟩
theorem call_bool1 : CallR X (.type "bool") (fun xs H Q => (∃ i, xs = [.int i] ∧ Q (.bl (i != 0)) H) ∨ ∃ k, xs = [.bl k] ∧ Q (.bl k) H) := by
  intro pins s σ H xs us Q I r h
  rcases h with ⟨i, rfl, q⟩ | ⟨k, rfl, q⟩
  · obtain ⟨u, rfl, t, rfl⟩ := vals1 r
    exact call_bool_int ⟨.bl (i != 0), H, I, rfl, q⟩
  · obtain ⟨u, rfl, r1⟩ := vals1 r
    cases r1
    exact call_bool_bool ⟨.bl k, H, I, rfl, q⟩
theorem call_str_int : CallR X (.type "str") (fun xs H Q => ∃ i, xs = [.int i] ∧ i.natAbs.log2 < 1920 ∧ Q (.str (toString i)) H) := by
  intro pins s σ H xs us Q I r h
  obtain ⟨i, rfl, hz, q⟩ := h
  obtain ⟨u, rfl, t, rfl⟩ := vals1 r
  exact PySem.P.str_of_int hz ⟨.str _, H, I.tok _, ⟨_, rfl⟩, q⟩
theorem call_ord : CallR X (.builtin "ord") (fun xs H Q => ∃ x, xs = [.str x] ∧ x.length = 1 ∧ Q (.int (x.cps.getD 0 0 : Nat)) H) := by
  intro pins s σ H xs us Q I r h
  obtain ⟨x, rfl, hz, q⟩ := h
  obtain ⟨u, rfl, t, rfl⟩ := vals1 r
  exact ord_of_one hz ⟨.int _, H, I.tok _, ⟨_, rfl⟩, q⟩
theorem call_chr : CallR X (.builtin "chr") (fun xs H Q => ∃ i, xs = [.int i] ∧ 0 ≤ i ∧ i ≤ 1114111 ∧ Q (.str ⟨#[i.toNat]⟩) H) := by
  intro pins s σ H xs us Q I r h
  obtain ⟨i, rfl, h0, h1, q⟩ := h
  obtain ⟨u, rfl, t, rfl⟩ := vals1 r
  exact chr_of_range h0 h1 ⟨.str _, H, I.tok _, ⟨_, rfl⟩, q⟩
/-- len of a str, a bytes, a list, a tuple -/
def LenV (K : PySem.W.Frag) (x : V) (H : Hp) (n : Nat) : Prop :=
  match x with
  | .str y => y.length ≤ sizeLine ∧ n = y.length
  | .byt y => y.size ≤ sizeLine ∧ n = y.size
  | .ref p => (∃ xs, SqL K H p xs ∧ n = xs.length) ∨ ∃ xs, SqT K H p xs ∧ n = xs.length
  | _ => False
theorem call_len : CallR X (.builtin "len") (fun xs H Q => ∃ x n, xs = [x] ∧ LenV X.K x H n ∧ Q (.int n) H) := by
  intro pins s σ H xs us Q I r h
  obtain ⟨x, n, rfl, e, q⟩ := h
  obtain ⟨u, rfl, rx⟩ := vals1 r
  have hl := line63
  have hs : sizeLine = 16777216 := sizeLine_eq
  cases x with
  | str y =>
    obtain ⟨t, rfl⟩ := rx
    obtain ⟨hy, e'⟩ : y.length ≤ sizeLine ∧ n = y.length := e
    subst e'
    exact len_str (by omega) ⟨.int _, H, I.tok _, ⟨_, rfl⟩, q⟩
  | byt y =>
    obtain ⟨t, rfl⟩ := rx
    obtain ⟨hy, e'⟩ : y.size ≤ sizeLine ∧ n = y.size := e
    subst e'
    exact PySem.W.len_bytes (by omega) ⟨.int _, H, I.tok _, ⟨_, rfl⟩, q⟩
  | ref p =>
    cases rx
    have e' : (∃ xs, SqL X.K H p xs ∧ n = xs.length) ∨ ∃ xs, SqT X.K H p xs ∧ n = xs.length := e
    rcases e' with ⟨xs, hx, e'⟩ | ⟨xs, hx, e'⟩
    · subst e'
      obtain ⟨its, r', pl, hz⟩ := I.list hx
      have hlen := r'.length
      exact Calls.call_len_list pl.isList (by simp only [List.size_toArray]; omega) ⟨.int xs.length, H, I.tok _, ⟨_, by simp only [List.size_toArray]; rw [hlen]⟩, q⟩
    · subst e'
      obtain ⟨its, r', pl, hz⟩ := I.tuple hx
      have hlen := r'.length
      exact len_tuple pl (by simp only [List.size_toArray]; omega) ⟨.int xs.length, H, I.tok _, ⟨_, by simp only [List.size_toArray]; rw [hlen]⟩, q⟩
  | _ => exact (show False from e).elim
/-- divmod: a new tuple -/
theorem call_divmod : CallR X (.builtin "divmod") (fun xs H Q => ∃ i j, xs = [.int i, .int j] ∧ CDiv i j ∧ ∀ p, H p = none → Q (.ref p) (upd H p (.tup [.int (i / j), .int (i % j)]))) := by
  intro pins s σ H xs us Q I r h
  obtain ⟨i, j, rfl, ⟨h1, h2⟩, q⟩ := h
  obtain ⟨u, w', rfl, ⟨t, rfl⟩, ⟨t', rfl⟩⟩ := vals2 r
  refine divmod_int (by omega) ?_ (.inl (PyProof.noPylong_small (by omega)))
  rw [Int.fdiv_eq_ediv_of_nonneg i (by omega), Int.fmod_eq_emod_of_nonneg i (by omega)]
  have hn : H s.heap.objs.size = none := I.hok.fresh (Nat.le_refl _)
  refine ⟨.ref s.heap.objs.size, _, ?_, rfl, q _ hn⟩
  refine I.laid (fun b o e => Heap.get?_push_of_some _ e) (Nat.le_refl _) ⟨by simp only [List.length_cons, List.length_nil]; rw [sizeLine_eq]; decide, [.int (i / j) s.toks, .int (i % j) (s.toks + 1)], .cons ⟨_, rfl⟩ (.cons ⟨_, rfl⟩ .nil), ?_⟩
  exact ⟨_, Heap.get?_push_size s.heap rfl, rfl, 0, rfl⟩
end
end L2

namespace L2
open PySem PySem.Spec PyProof.Rows

/-! ### an instance, its attributes a map -/
structure ObjM (h : Heap) (x dx C : Addr) (mA : Str → Option Value) : Prop where
  obj : h.get? x = some (PySem.W.instObj C dx)
  ns : h.Ns1 dx mA
  ne : dx ≠ x

theorem lookIn_ns {h : Heap} {dx : Addr} {mA : Str → Option Value} (n : h.Ns1 dx mA) : ∃ od, h.get? dx = some od ∧ ∀ name, PySem.W.lookIn name od = some (mA name) := by
  obtain ⟨o, es, ep, ho, hd, hk, _, hm⟩ := n
  refine ⟨o, ho, fun name => ?_⟩
  have e := hm name
  unfold nsFind findBy at e
  rw [← Array.find?_toList] at e
  unfold PySem.W.lookIn
  rw [hd]
  dsimp only
  split
  · rename_i y q
    rw [q] at e
    exact congrArg some e
  · rename_i q
    rw [q] at e
    have a : es.toList.any (·.refKey) = false := by
      rw [List.any_eq_false]
      intro y hy
      obtain ⟨z, t, hkey⟩ := hk y (Array.mem_toList_iff.mp hy)
      simp [DictEntry.refKey, hkey]
    have a' : ¬ es.toList.any (·.refKey) = true := by rw [a]; exact Bool.false_ne_true
    rw [if_neg a']
    exact congrArg some e

theorem ObjM.look {h : Heap} {x dx C : Addr} {mA : Str → Option Value} (I : ObjM h x dx C mA) : ∃ od, PySem.W.InstAt h x (PySem.W.instObj C dx) C (some od) ∧ ∀ name, PySem.W.lookIn name od = some (mA name) :=
  let ⟨od, ho, hl⟩ := lookIn_ns I.ns
  ⟨od, ⟨I.obj, rfl, rfl, ho⟩, hl⟩

section
variable {prog : Program} {w : World} {A : Around} {E : Value → Shared → Prop} {s : Shared} {K : PySem.W.Frag} {x dx C f : Addr} {mA : Str → Option Value} {name : Str} {v : Value}

theorem get_map {expr : Bool} {Q : Value → Shared → Prop} (X : K.In s.heap) (I : ObjM s.heap x dx C mA) (hg : PySem.W.plainGet K C name = true) (hh : PySem.W.hasDictIn K C = true)
    (ha : PySem.W.findIn K (.ref C) name = some none) (hv : mA name = some v) (hv' : PySem.W.handedIn v = true) (h : Q v { s with toks := s.toks + 1 }) :
    wpAny (model prog w) A (getAttr (.ref x) name expr) Q E s := by
  obtain ⟨od, J, hl⟩ := I.look
  exact PySem.W.get_value X J (PySem.W.plainGet_of hg).1 (PySem.W.findObj_own hh ha rfl (by rw [hl, hv])) hv' h

theorem get_const {expr : Bool} {a : Value} {Q : Value → Shared → Prop} (X : K.In s.heap) (I : ObjM s.heap x dx C mA) (hg : PySem.W.plainGet K C name = true) (hh : PySem.W.hasDictIn K C = true)
    (ha : PySem.W.findIn K (.ref C) name = some (some a)) (hn : PySem.W.specialIn K a "__get__" = some none) (hc : PySem.W.copiedNames.contains name = false) (hv : mA name = none) (hv' : PySem.W.handedIn a = true)
    (h : Q a { s with toks := s.toks + 1 }) : wpAny (model prog w) A (getAttr (.ref x) name expr) Q E s := by
  obtain ⟨od, J, hl⟩ := I.look
  exact PySem.W.get_value X J (PySem.W.plainGet_of hg).1 (PySem.W.findObj_cls hh ha hn hv' hc (by rw [hl, hv])) hv' h

theorem get_meth {pl : Sem Bool} {Q : Value × List Value → Shared → Prop} (X : K.In s.heap) (I : ObjM s.heap x dx C mA) (hg : PySem.W.plainGet K C name = true)
    (hf : PySem.W.findIn K (.ref C) name = some (some (.ref f))) (ht : PySem.W.isFn K (.ref f) = true) (hv : mA name = none) (h : Q (.ref f, [.ref x]) s) :
    wpAny (model prog w) A (getMethod (.ref x) name pl) Q E s := by
  obtain ⟨od, J, hl⟩ := I.look
  exact PySem.W.method_fn X J (PySem.W.plainGet_of hg).1 (PySem.W.plainGet_of hg).2 hf (beq_iff_eq.mp ht) (by show (PySem.W.lookIn name od).map (·.isSome) = some false; rw [hl, hv]; rfl) h

theorem set_map {ns : List Str} {Q : Unit → Shared → Prop} (X : K.In s.heap) (I : ObjM s.heap x dx C mA)
    (hs : PySem.W.findIn K (.ref C) "__setattr__" = some (some (.builtin "object.__setattr__"))) (hp : PySem.W.plainOver K C = true) (ht : PySem.W.takerIn K C name = some none) (hh : PySem.W.hasDictIn K C = true)
    (hw : PySem.Within mA ns) (hsz : ns.length ≤ sizeLine)
    (h : ∀ h', ObjM h' x dx C (fun y => if y = name then some v else mA y) → Heap.SameBut dx s.heap h' → Q () { s with heap := h', toks := s.toks + 2 }) :
    wpAny (model prog w) A (setAttr (.ref x) name v) Q E s := by
  obtain ⟨od, J, hl⟩ := I.look
  refine PySem.W.set_plain X J hs (PySem.W.osa_open (s := { s with toks := s.toks + 1 }) (r := none) X J hp ht fun b => ?_)
  obtain ⟨cd, hc, hd'⟩ := PySem.W.any_some hh
  have hx : s.heap.get? x = some ⟨.ref C, some dx, .plain, #[]⟩ := I.obj
  refine wpAny_bind (wpAny_pure (wpAny_bind (wpAny_bind (wpAny_loadPart hx (wpAny_bind (PySem.W.Looks.here (s := { s with toks := s.toks + 1 }) (PySem.W.looks_clsIn X hc) ?_))))))
  rw [hd']
  refine wpAny_pure (a := some dx) (wpAny_bind (wpAny_pure (wpAny_bind ?_)))
  refine wpAny_nsSet1 (s := { s with toks := s.toks + 1 }) I.ns fun h' hn2 hs2 => ?_
  obtain ⟨oD, esD, epD, hoD, hdD, hcD⟩ := hn2.count (PySem.Within.cons name v hw)
  refine wpAny_bind (wpAny_lookBehind hoD (by rw [hdD]; exact pastItsLine_dict (Nat.le_trans hcD (by rw [List.length_cons]; omega))) ?_)
  exact wpAny_pure (h _ ⟨(hs2.2 _ (Ne.symm I.ne)).trans I.obj, hn2, I.ne⟩ hs2)

/-- C(..): the dict at the heap's end, the instance behind it; then its __init__ -/
theorem make_map {R : Result → Shared → Prop} {vs : List Value} {kw : List (Str × Value)} (X : K.In s.heap) (hm : PySem.W.makesIn K C = true)
    (hi : PySem.W.findIn K (.ref C) "__init__" = some (some (.ref f))) (hf : PySem.W.typeIn K (.ref f) = some (.type "function"))
    (h : codeAny (model prog w) (A.under (.builtin "type.__call__" ⟨.ref C :: vs, kw⟩)) (.call (.ref f) ⟨.ref (s.heap.objs.size + 1) :: vs, kw⟩) (PySem.W.InitBack (s.heap.objs.size + 1) R)
      { s with heap := (s.heap.push PySem.W.emptyDict).push (PySem.W.instObj C s.heap.objs.size) }) :
    codeAny (model prog w) A (.call (.ref C) ⟨vs, kw⟩) R s := by
  obtain ⟨hh, g, d, t, os⟩ := s
  exact PySem.W.make_core (PySem.W.makes_of X hm) (PySem.W.looks_findIn X hi) (fun self => PySem.W.bind_fn X self hf) (.inl rfl) h
/-- C() where there is no __init__ but object's -/
theorem make_map0 {R : Result → Shared → Prop} (X : K.In s.heap) (hm : PySem.W.makesIn K C = true)
    (hi : PySem.W.findIn K (.ref C) "__init__" = some (some (.builtin "object.__init__")))
    (hb : ∀ self, PySem.W.Looks (model prog w) s.heap (bindSpecial (.builtin "object.__init__") self) (.builtin "object.__init__", [self]))
    (h : codeAny (model prog w) (A.under (.builtin "type.__call__" ⟨[.ref C], []⟩)) (.call (.builtin "object.__init__") ⟨[.ref (s.heap.objs.size + 1)], []⟩) (PySem.W.InitBack (s.heap.objs.size + 1) R)
      { s with heap := (s.heap.push PySem.W.emptyDict).push (PySem.W.instObj C s.heap.objs.size) }) :
    codeAny (model prog w) A (.call (.ref C) ⟨[], []⟩) R s := by
  obtain ⟨hh, g, d, t, os⟩ := s
  exact PySem.W.make_core (PySem.W.makes_of X hm) (PySem.W.looks_findIn X hi) hb (.inr ⟨rfl, rfl⟩) h
end

/-! ### the attributes as a list of pairs -/
def putF (f : Str) (v : V) : List (Str × V) → List (Str × V)
  | [] => [(f, v)]
  | (g, x) :: r => if g = f then (g, v) :: r else (g, x) :: putF f v r
theorem lookup_putF (f g : Str) (v : V) : ∀ fs : List (Str × V), (putF f v fs).lookup g = if g = f then some v else fs.lookup g
  | [] => by
    show List.lookup g [(f, v)] = _
    by_cases h : g = f
    · have hb : (g == f) = true := beq_iff_eq.mpr h
      simp only [List.lookup, hb, if_pos h]
    · have hb : (g == f) = false := beq_eq_false_iff_ne.mpr h
      simp only [List.lookup, hb, if_neg h]
  | (k, x) :: r => by
    have ih := lookup_putF f g v r
    rw [show putF f v ((k, x) :: r) = (if k = f then (k, v) :: r else (k, x) :: putF f v r) from rfl]
    by_cases hk : k = f
    · rw [if_pos hk]
      by_cases h : g = k
      · have hb : (g == k) = true := beq_iff_eq.mpr h
        simp only [List.lookup, hb, if_pos (h.trans hk)]
      · have hb : (g == k) = false := beq_eq_false_iff_ne.mpr h
        simp only [List.lookup, hb, if_neg (fun e : g = f => h (e.trans hk.symm))]
    · rw [if_neg hk]
      by_cases h : g = k
      · have hb : (g == k) = true := beq_iff_eq.mpr h
        simp only [List.lookup, hb, if_neg (fun e : g = f => hk (h.symm.trans e))]
      · have hb : (g == k) = false := beq_eq_false_iff_ne.mpr h
        simp only [List.lookup, hb]
        exact ih
theorem keys_putF (f : Str) (v : V) : ∀ fs : List (Str × V), f ∈ (putF f v fs).map (·.1) ∧ ∀ g, g ∈ fs.map (·.1) → g ∈ (putF f v fs).map (·.1)
  | [] => ⟨by simp [putF], fun g h => by simp at h⟩
  | (k, x) :: r => by
    obtain ⟨i1, i2⟩ := keys_putF f v r
    rw [show putF f v ((k, x) :: r) = (if k = f then (k, v) :: r else (k, x) :: putF f v r) from rfl]
    by_cases hk : k = f
    · rw [if_pos hk]
      subst hk
      exact ⟨by simp, fun g h => by simpa using h⟩
    · rw [if_neg hk]
      refine ⟨?_, fun g h => ?_⟩
      · rw [List.map_cons]
        exact List.mem_cons_of_mem _ i1
      · rw [List.map_cons] at h ⊢
        rcases List.mem_cons.mp h with e | e
        · exact List.mem_cons.mpr (.inl e)
        · exact List.mem_cons_of_mem _ (i2 g e)
theorem length_putF (f : Str) (v : V) : ∀ fs : List (Str × V), (putF f v fs).length ≤ fs.length + 1
  | [] => by simp [putF]
  | (k, x) :: r => by
    have ih := length_putF f v r
    rw [show putF f v ((k, x) :: r) = (if k = f then (k, v) :: r else (k, x) :: putF f v r) from rfl]
    by_cases hk : k = f
    · rw [if_pos hk, List.length_cons, List.length_cons]; omega
    · rw [if_neg hk, List.length_cons, List.length_cons]; omega

theorem RelO.some_of {v : V} {o : Option Value} (r : RelO (some v) o) : ∃ u, o = some u ∧ RelV v u := by
  cases o with
  | none => exact (show False from r).elim
  | some u => exact ⟨u, rfl, r⟩
theorem RelO.none_of {o : Option Value} (r : RelO none o) : o = none := by
  cases o with
  | none => rfl
  | some u => exact (show False from r).elim
theorem handed_of {v : V} {u : Value} (r : RelV v u) : PySem.W.handedIn u = true := by
  cases v with
  | non => cases (show u = Value.none from r); rfl
  | bl b => cases (show u = Value.bool b from r); rfl
  | int i => obtain ⟨t, e⟩ := (show ∃ t, u = Value.int i t from r); cases e; rfl
  | str x => obtain ⟨t, e⟩ := (show ∃ t, u = Value.str x t from r); cases e; rfl
  | byt b => obtain ⟨t, e⟩ := (show ∃ t, u = Value.bytes b t from r); cases e; rfl
  | flt b => obtain ⟨t, e⟩ := (show ∃ t, u = Value.float b t from r); cases e; rfl
  | ref a => cases (show u = Value.ref a from r); rfl
  | ty n => cases (show u = Value.type n from r); rfl

section
variable {P : Program} {w : World} {H H' : Hp} {h h' : Heap} {a C dx : Addr} {fs fs' : List (Str × V)}
theorem ins_get (hok : HOk P w H h) (e : H a = some (.ins C dx fs)) : ∃ mA, ObjM h a dx C mA ∧ (∀ f, RelO (fs.lookup f) (mA f)) ∧ PySem.Within mA (fs.map (·.1)) ∧ fs.length ≤ 1000 ∧ H dx = some (.own a) := by
  obtain ⟨d, z, ne, ob, mA, n, r, q⟩ := (show ObjOk P w H h a (.ins C dx fs) from hok a _ e)
  exact ⟨mA, ⟨ob, n, ne⟩, r, q, z, d⟩
end

/-! ### what of the text a class must have -/
structure Cls (K : PySem.W.Frag) (C : Addr) : Prop where
  pg : PySem.W.plainGet K C Str.empty = true
  hd : PySem.W.hasDictIn K C = true
  po : PySem.W.plainOver K C = true
  sa : PySem.W.findIn K (.ref C) "__setattr__" = some (some (.builtin "object.__setattr__"))
theorem Cls.get {K : PySem.W.Frag} {C : Addr} (c : Cls K C) (f : Str) : PySem.W.plainGet K C f = true := c.pg
/-- no class of it has the name -/
def NoAttr (K : PySem.W.Frag) (C : Addr) (f : Str) : Prop := PySem.W.findIn K (.ref C) f = some none
theorem NoAttr.taker {K : PySem.W.Frag} {C : Addr} {f : Str} (n : NoAttr K C f) : PySem.W.takerIn K C f = some none := by
  unfold PySem.W.takerIn
  rw [show PySem.W.findIn K (.ref C) f = some none from n]
  rfl
/-- a constant of the class -/
structure Con (K : PySem.W.Frag) (C : Addr) (f : Str) (v : V) (u : Value) : Prop where
  at_ : PySem.W.findIn K (.ref C) f = some (some u)
  rel : RelV v u
  get : PySem.W.specialIn K u "__get__" = some none
  cp : PySem.W.copiedNames.contains f = false
/-- a method: a plain def of the class or of one above it -/
structure Meth (K : PySem.W.Frag) (C : Addr) (m : Str) (f : Addr) : Prop where
  at_ : PySem.W.findIn K (.ref C) m = some (some (.ref f))
  fn : PySem.W.isFn K (.ref f) = true
  kp : PySem.W.keepIn K (.ref f) = true

section
variable {X : Cx} {pins : List (Addr × Obj)} {σ : St} {H : Hp} {s : Shared} {a C dx : Addr} {fs : List (Str × V)} {f : Str} {v : V} {A : Around} {E : Value → Shared → Prop}

theorem getattr_ok {b : Bool} {Q : Value → Shared → Prop} (I : Inv X pins σ H s) (e : H a = some (.ins C dx fs)) (c : Cls X.K C) (n : NoAttr X.K C f) (l : fs.lookup f = some v)
    (h : ∀ u s', Inv X pins σ H s' → RelV v u → Q u s') : wpAny (model X.prog X.w) A (getAttr (.ref a) f b) Q E s := by
  obtain ⟨mA, O, r, _, _, _⟩ := ins_get I.hok e
  obtain ⟨u, hu, ru⟩ := RelO.some_of (v := v) (o := mA f) (by rw [← l]; exact r f)
  exact get_map I.kIn O (c.get f) c.hd n hu (handed_of ru) (h u _ (I.tok _) ru)

theorem getcon_ok {b : Bool} {u : Value} {Q : Value → Shared → Prop} (I : Inv X pins σ H s) (e : H a = some (.ins C dx fs)) (c : Cls X.K C) (k : Con X.K C f v u) (l : fs.lookup f = none)
    (h : ∀ s', Inv X pins σ H s' → Q u s') : wpAny (model X.prog X.w) A (getAttr (.ref a) f b) Q E s := by
  obtain ⟨mA, O, r, _, _, _⟩ := ins_get I.hok e
  have hn : mA f = none := RelO.none_of (by rw [← l]; exact r f)
  exact get_const I.kIn O (c.get f) c.hd k.at_ k.get k.cp hn (handed_of k.rel) (h _ (I.tok _))

theorem getmeth_ok {m : Str} {g : Addr} {pl : Sem Bool} {Q : Value × List Value → Shared → Prop} (I : Inv X pins σ H s) (e : H a = some (.ins C dx fs)) (c : Cls X.K C) (k : Meth X.K C m g) (l : fs.lookup m = none)
    (h : Q (.ref g, [.ref a]) s) : wpAny (model X.prog X.w) A (getMethod (.ref a) m pl) Q E s := by
  obtain ⟨mA, O, r, _, _, _⟩ := ins_get I.hok e
  have hn : mA m = none := RelO.none_of (by rw [← l]; exact r m)
  exact get_meth I.kIn O (c.get m) k.at_ k.fn hn h

theorem setattr_ok {y : V} {u : Value} {Q : Unit → Shared → Prop} (I : Inv X pins σ H s) (e : H a = some (.ins C dx fs)) (c : Cls X.K C) (n : NoAttr X.K C f) (hl : fs.length < 1000) (ry : RelV y u)
    (h : ∀ s', Inv X pins σ (upd H a (.ins C dx (putF f y fs))) s' → Q () s') : wpAny (model X.prog X.w) A (setAttr (.ref a) f u) Q E s := by
  obtain ⟨mA, O, r, wi, _, ho⟩ := ins_get I.hok e
  have hz : (fs.map (·.1)).length ≤ sizeLine := by rw [List.length_map, sizeLine_eq]; omega
  refine set_map I.kIn O c.sa c.po n.taker c.hd wi hz fun h' O' sb => h _ ?_
  have hd : ∃ o, h'.get? dx = some o := let ⟨o, _, _, e', _⟩ := O'.ns; ⟨o, e'⟩
  refine I.write (x := a) (e := dx) (by rw [e]; exact True.intro) (.inr ho) (fun b q hb z => (sb.2 b hb).trans z) hd ?_
  refine ⟨by rw [upd_ne O.ne]; exact ho, ?_, O.ne, O'.obj, _, O'.ns, fun g => ?_, fun g hg => ?_⟩
  · have := length_putF f y fs; omega
  · show RelO ((putF f y fs).lookup g) (if g = f then some u else mA g)
    rw [lookup_putF]
    by_cases q : g = f
    · rw [if_pos q, if_pos q]; exact ry
    · rw [if_neg q, if_neg q]; exact r g
  · by_cases q : g = f
    · rw [q]; exact (keys_putF f y fs).1
    · refine (keys_putF f y fs).2 g (wi g fun z => hg ?_)
      show (if g = f then some u else mA g) = none
      rw [if_neg q]; exact z

/-- a new instance, tracked, without attributes -/
theorem Inv.made (I : Inv X pins σ H s) : Inv X pins σ (upd (upd H s.heap.objs.size (.own (s.heap.objs.size + 1))) (s.heap.objs.size + 1) (.ins C s.heap.objs.size []))
    { s with heap := (s.heap.push PySem.W.emptyDict).push (PySem.W.instObj C s.heap.objs.size) } := by
  have e1 : (s.heap.push PySem.W.emptyDict).get? s.heap.objs.size = some PySem.W.emptyDict := Heap.get?_push_size s.heap rfl
  have e2 : ((s.heap.push PySem.W.emptyDict).push (PySem.W.instObj C s.heap.objs.size)).get? (s.heap.objs.size + 1) = some (PySem.W.instObj C s.heap.objs.size) := by
    have := Heap.get?_push_size (s.heap.push PySem.W.emptyDict) (o := PySem.W.instObj C s.heap.objs.size) rfl
    rwa [Heap.size_push] at this
  have e3 : (s.heap.push PySem.W.emptyDict).Ns s.heap.objs.size (fun _ => none) := ⟨PySem.W.emptyDict, #[], _, e1, rfl, (fun e he => absurd he (by simp)), fun _ => rfl⟩
  have I1 := I.laid (a := s.heap.objs.size) (o := .own (s.heap.objs.size + 1)) (h' := s.heap.push PySem.W.emptyDict) (t' := s.toks) (fun b u q => Heap.get?_push_of_some _ q) (Nat.le_refl _) ⟨_, e1⟩
  refine I1.laid (a := s.heap.objs.size + 1) (o := .ins C s.heap.objs.size []) (t' := s.toks) (fun b u q => Heap.get?_push_of_some _ q) (Nat.le_of_eq (Heap.size_push _ _)) ?_
  have ne : s.heap.objs.size ≠ s.heap.objs.size + 1 := Nat.ne_of_lt (Nat.lt_succ_self _)
  refine ⟨by rw [upd_ne ne, upd_same], Nat.zero_le _, ne, e2, fun _ => none, (Heap.Ns1.of_empty e3).at fun o q => Heap.get?_push_of_some _ q, fun _ => True.intro, fun y hy => absurd rfl hy⟩

/-- e.f where nothing but the object is asked: through attributeBase (super) and the last hold -/
theorem attr_of {prog : Program} {w : World} {env : Env} {e : Expr} {f : Str} {pos : Pos} {s : Shared} {Q : Value → Shared → Prop} (hb : attributeBase e f env (eval e env) = eval e env)
    (h : wpAny (model prog w) A (eval e env) (fun o s₁ => wpAny (model prog w) A (getAttr o f true) Q E s₁) E s) : wpAny (model prog w) A (eval (.Attribute e f pos) env) Q E s :=
  Attribute_any_ h (by rw [arm_eval_Attribute, hb])
end

/-! ### readings and rules -/
/-- e.f, an attribute of the instance -/
def tFld (K : PySem.W.Frag) (ta : TE) (f : Str) : TE := fun σ H Q => ta σ H fun x H1 => ∃ a C dx fs v, x = .ref a ∧ H1 a = some (.ins C dx fs) ∧ Cls K C ∧ NoAttr K C f ∧ fs.lookup f = some v ∧ Q v H1
/-- e.f, a constant of the class -/
def tCon (K : PySem.W.Frag) (ta : TE) (f : Str) : TE := fun σ H Q => ta σ H fun x H1 => ∃ a C dx fs v u, x = .ref a ∧ H1 a = some (.ins C dx fs) ∧ Cls K C ∧ Con K C f v u ∧ fs.lookup f = none ∧ Q v H1
/-- e.f = value -/
def sFld (K : PySem.W.Frag) (ta tv : TE) (f : Str) : TS := fun D σ H => tv σ H fun y H1 => ta σ H1 fun x H2 => ∃ a C dx fs, x = .ref a ∧ H2 a = some (.ins C dx fs) ∧ Cls K C ∧ NoAttr K C f ∧ fs.length < 1000 ∧
  D.nx σ (upd H2 a (.ins C dx (putF f y fs)))
/-- an augmented operator on two values -/
def InOp (X : Cx) (op : Operator) (rd : V → V → Hp → VK → Prop) : Prop :=
  ∀ (pins : List (Addr × Obj)) (s : Shared) (σ : St) (H : Hp) (x y : V) (u v : Value) (Q : VK), Inv X pins σ H s → RelV x u → RelV y v → rd x y H Q → wpAny (model X.prog X.w) X.A (inplaceOp op u v) (EP X pins σ Q) X.xe s
/-- e.f op= value -/
def sFldAug (K : PySem.W.Frag) (ta tv : TE) (rd : V → V → Hp → VK → Prop) (f : Str) : TS := fun D σ H => ta σ H fun x H1 => ∃ a C dx fs v, x = .ref a ∧ H1 a = some (.ins C dx fs) ∧ Cls K C ∧ NoAttr K C f ∧ fs.lookup f = some v ∧
  tv σ H1 fun y H2 => rd v y H2 fun z H3 => ∃ dx' fs', H3 a = some (.ins C dx' fs') ∧ fs'.length < 1000 ∧ D.nx σ (upd H3 a (.ins C dx' (putF f z fs')))

section
variable {X : Cx} {o e value : Expr} {f : Str} {pos pos' tpos : Pos} {ta tv : TE}
theorem pe_fld (he : PE X e ta) (hb : attributeBase e f X.env (eval e X.env) = eval e X.env) : PE X (.Attribute e f pos) (tFld X.K ta f) := by
  intro pins s σ H Q I h
  refine attr_of hb (thn (he pins s σ H _ I h) fun u s1 ⟨x, H1, I1, rx, a, C, dx, fs, v, ex, ea, c, n, l, q⟩ => ?_)
  subst ex
  obtain rfl : u = Value.ref a := rx
  exact getattr_ok I1 ea c n l fun u' s2 I2 ru => ⟨v, H1, I2, ru, q⟩
theorem pe_con (he : PE X e ta) (hb : attributeBase e f X.env (eval e X.env) = eval e X.env) : PE X (.Attribute e f pos) (tCon X.K ta f) := by
  intro pins s σ H Q I h
  refine attr_of hb (thn (he pins s σ H _ I h) fun u s1 ⟨x, H1, I1, rx, a, C, dx, fs, v, u0, ex, ea, c, k, l, q⟩ => ?_)
  subst ex
  obtain rfl : u = Value.ref a := rx
  exact getcon_ok I1 ea c k l fun s2 I2 => ⟨v, H1, I2, k.rel, q⟩
theorem ps_fld (ha : PE X o ta) (hv : PE X value tv) (hs : swapsWith value (some (.Attribute o f pos')) pos.line X.env = pure false) : PS X (.Assign [.Attribute o f pos'] value pos) (sFld X.K ta tv f) := by
  intro pins s σ H D I h
  refine plainObj_wpAny_Assign_Attribute (thn (hv pins s σ H _ I h) fun u s1 ⟨y, H1, I1, ry, q⟩ => thn (ha pins s1 σ H1 _ I1 q) fun ov s2 ⟨x, H2, I2, rx, a, C, dx, fs, ex, ea, c, n, l, q2⟩ => ?_) hs
  subst ex
  obtain rfl : ov = Value.ref a := rx
  exact setattr_ok I2 ea c n l ry fun s3 I3 => ⟨σ, _, I3, q2⟩
theorem ps_fldaug {op : Operator} {rd : V → V → Hp → VK → Prop} (ha : PE X o ta) (hv : PE X value tv) (hop : InOp X op rd) : PS X (.AugAssign (.Attribute o f tpos) op value pos) (sFldAug X.K ta tv rd f) := by
  intro pins s σ H D I h
  refine wpAny_AugAssign_AttributeAny (thn (ha pins s σ H _ I h) fun ov s1 ⟨x, H1, I1, rx, a, C, dx, fs, v, ex, ea, c, n, l, q⟩ => ?_)
  subst ex
  obtain rfl : ov = Value.ref a := rx
  refine getattr_ok I1 ea c n l fun u s2 I2 ru => thn (hv pins s2 σ H1 _ I2 q) fun w3 s3 ⟨y, H2, I3, ry, q3⟩ => thn (hop pins s3 σ H2 v y u w3 _ I3 ru ry q3) fun w4 s4 ⟨z, H3, I4, rz, dx', fs', ea', l', q4⟩ => ?_
  exact setattr_ok I4 ea' c n l' rz fun s5 I5 => ⟨σ, _, I5, q4⟩
def rAdd : V → V → Hp → VK → Prop := fun x y H Q => ∃ i j, x = .int i ∧ y = .int j ∧ Q (.int (i + j)) H
def rSub : V → V → Hp → VK → Prop := fun x y H Q => ∃ i j, x = .int i ∧ y = .int j ∧ Q (.int (i - j)) H
theorem in_add : InOp X .Add rAdd := by
  rintro pins s σ H x y u v Q I rx ry ⟨i, j, rfl, rfl, q⟩
  obtain ⟨t, rfl⟩ := (show ∃ t, u = Value.int i t from rx)
  obtain ⟨t', rfl⟩ := (show ∃ t', v = Value.int j t' from ry)
  exact PyProof.Rows.iadd_int ⟨.int (i + j), H, I.tok _, ⟨_, rfl⟩, q⟩
theorem in_sub : InOp X .Sub rSub := by
  rintro pins s σ H x y u v Q I rx ry ⟨i, j, rfl, rfl, q⟩
  obtain ⟨t, rfl⟩ := (show ∃ t, u = Value.int i t from rx)
  obtain ⟨t', rfl⟩ := (show ∃ t', v = Value.int j t' from ry)
  exact PyProof.Rows.isub_int ⟨.int (i - j), H, I.tok _, ⟨_, rfl⟩, q⟩

/-- what is between an instance and its method: the tree of a method call -/
theorem methcall_of {pl : Sem Bool} {m : Str} {apos : Pos} {args : List Expr} {pins : List (Addr × Obj)} {s : Shared} {σ : St} {H : Hp} {Q : Value → Shared → Prop} {te : TE} (he : PE X e te) (I : Inv X pins σ H s)
    (h : te σ H fun x H1 => ∃ a C dx fs g, x = .ref a ∧ H1 a = some (.ins C dx fs) ∧ Cls X.K C ∧ Meth X.K C m g ∧ fs.lookup m = none ∧
      ∀ s1, Inv X pins σ H1 s1 → wpAny (model X.prog X.w) X.A (callWith pos (.ref g) [.ref a] (backTo pos (starEach args X.env)) (backToKw pos (keywordEach [] X.env))) Q X.xe s1)
    (ht : eval (.Call (.Attribute e m apos) args [] pos) X.env = (do
      let ov ← eval e X.env
      standAt apos.atName
      let (f, first) ← holding [ov] (getMethod ov m pl)
      callWith pos f first (backTo pos (starEach args X.env)) (backToKw pos (keywordEach [] X.env)))) :
    wpAny (model X.prog X.w) X.A (eval (.Call (.Attribute e m apos) args [] pos) X.env) Q X.xe s := by
  refine PySem.W.methodCall_KW (pl := pl) (thn (he pins s σ H _ I h) fun u s1 ⟨x, H1, I1, rx, a, C, dx, fs, g, ex, ea, c, k, l, q⟩ => ?_) ht
  subst ex
  obtain rfl : u = Value.ref a := rx
  exact getmeth_ok I1 ea c k l (q s1 I1)
end

/-! ### isinstance -/
section
variable {X : Cx} {pins : List (Addr × Obj)} {σ : St} {H : Hp} {s : Shared} {A : Around} {E : Value → Shared → Prop} {Q : Value → Shared → Prop} {c : Value} {b : Bool}
/-- the type of a value, as the fragment's deciders take it; for an instance its class -/
inductive TyOf (K : PySem.W.Frag) (H : Hp) : V → Value → Prop where
  | non : TyOf K H .non (.type "NoneType")
  | bl (x : Bool) : TyOf K H (.bl x) (.type "bool")
  | int (i : Int) : TyOf K H (.int i) (.type "int")
  | str (x : Str) : TyOf K H (.str x) (.type "str")
  | flt (x : UInt64) : TyOf K H (.flt x) (.type "float")
  | lst {a : Addr} {xs : List V} (e : H a = some (.lst xs)) : TyOf K H (.ref a) (.type "list")
  | frz {a : Addr} {o : Obj} {xs : List V} (e : H a = some (.frz o (.lst xs))) : TyOf K H (.ref a) (.type "list")
  | tup {a : Addr} {xs : List V} (e : H a = some (.tup xs)) : TyOf K H (.ref a) (.type "tuple")
  | dK {a : Addr} {kvs : List (Key × V)} (e : H a = some (.dK kvs)) : TyOf K H (.ref a) (.type "dict")
  | dT {a : Addr} {kvs : List (List Key × V)} (e : H a = some (.dT kvs)) : TyOf K H (.ref a) (.type "dict")
  | ins {a C dx : Addr} {fs : List (Str × V)} (e : H a = some (.ins C dx fs)) (cl : Cls K C) (ha : PySem.W.findIn K (.ref C) "__class__" = some (some (.builtin "object.__class__")))
      (hn : PySem.W.specialIn K (.builtin "object.__class__") "__get__" = some (some (.builtin "getset_descriptor.__get__"))) (htk : PySem.W.takesIn K (.builtin "object.__class__") = some true)
      (hm : PySem.W.mroIn K C (.type "object") = some true) : TyOf K H (.ref a) (.ref C)
/-- isinstance(x, c) for one class c, a built-in or an own one: kitOne's answer -/
theorem isinst_ok {x : V} {u t : Value} (I : Inv X pins σ H s) (rx : RelV x u) (ty : TyOf X.K H x t) (e : PySem.W.kitOne X.K t c = some b) (h : ∀ tk, Q (.bool b) { s with toks := tk }) :
    wpAny (model X.prog X.w) A (call (.builtin "isinstance") [u, c]) Q E s := by
  cases ty with
  | non => cases (show u = Value.none from rx); exact PySem.W.kia_one PySem.W.kitx_none I.kIn True.intro e (fun z => nomatch z) h
  | bl y => cases (show u = Value.bool y from rx); exact PySem.W.kia_one PySem.W.kitx_bool I.kIn True.intro e (fun z => nomatch z) h
  | int i => obtain ⟨t, q⟩ := (show ∃ t, u = Value.int i t from rx); cases q; exact PySem.W.kia_one PySem.W.kitx_int I.kIn True.intro e (fun z => nomatch z) h
  | str y => obtain ⟨t, q⟩ := (show ∃ t, u = Value.str y t from rx); cases q; exact PySem.W.kia_one PySem.W.kitx_str I.kIn True.intro e (fun z => nomatch z) h
  | flt y => obtain ⟨t, q⟩ := (show ∃ t, u = Value.float y t from rx); cases q; exact PySem.W.kia_one PySem.W.kitx_float I.kIn True.intro e (fun z => nomatch z) h
  | @lst a xs ea =>
    cases (show u = Value.ref a from rx)
    obtain ⟨_, _, n, _, h1⟩ := (show ObjOk X.prog X.w H s.heap a (.lst xs) from I.hok a _ ea)
    exact PySem.W.kia_one PySem.W.kitx_list I.kIn ⟨_, h1, rfl⟩ e (fun z => nomatch z) h
  | @frz a ob xs ea =>
    cases (show u = Value.ref a from rx)
    obtain ⟨_, _, _, n, _, h1⟩ := (show ObjOk X.prog X.w H s.heap a (.frz ob (.lst xs)) from I.hok a _ ea)
    exact PySem.W.kia_one PySem.W.kitx_list I.kIn ⟨_, h1, rfl⟩ e (fun z => nomatch z) h
  | @tup a xs ea =>
    cases (show u = Value.ref a from rx)
    obtain ⟨_, _, _, p⟩ := (show ObjOk X.prog X.w H s.heap a (.tup xs) from I.hok a _ ea)
    obtain ⟨o, h1, h2, _⟩ := p
    exact PySem.W.kia_one PySem.W.kitx_tuple I.kIn ⟨o, h1, h2⟩ e (fun z => nomatch z) h
  | @dK a kvs ea =>
    cases (show u = Value.ref a from rx)
    obtain ⟨_, _, vs, _, p⟩ := (show ObjOk X.prog X.w H s.heap a (.dK kvs) from I.hok a _ ea)
    obtain ⟨o, es, ep, h1, h2, _⟩ := p
    exact PySem.W.kia_one PySem.W.kitx_dict I.kIn ⟨o, h1, h2.1⟩ e (fun z => nomatch z) h
  | @dT a kvs ea =>
    cases (show u = Value.ref a from rx)
    obtain ⟨_, _, xs, _, o, es, ep, h1, h2, _⟩ := (show ObjOk X.prog X.w H s.heap a (.dT kvs) from I.hok a _ ea)
    exact PySem.W.kia_one PySem.W.kitx_dict I.kIn ⟨o, h1, h2.1⟩ e (fun z => nomatch z) h
  | @ins a C dx fs ea cl ha hn htk hm =>
    cases (show u = Value.ref a from rx)
    obtain ⟨mA, O, _⟩ := ins_get I.hok ea
    obtain ⟨od, J, _⟩ := O.look
    exact PySem.W.kia_one (PySem.W.kitx_own (cl.get _) cl.hd ha hn htk hm) I.kIn J e (fun z => nomatch z) h
end
end L2

namespace L2
open PySem PySem.Spec PyProof.Rows

/-! ### room -/
structure Room (k : Nat) (A : Around) : Prop where
  hd : A.handled = none
  dp : A.depth + 3 * k + 5 < recursionLimit
  un : A.units + 16 * k + 200 < cLine
theorem Room.mono {j k : Nat} {A : Around} (r : Room k A) (h : j ≤ k) : Room j A := ⟨r.hd, by have := r.dp; omega, by have := r.un; omega⟩
theorem Room.deeper {k : Nat} {A : Around} (r : Room (k + 1) A) (env : Env) : Room k (A.deeper env) :=
  ⟨r.hd, by have := r.dp; show A.depth + 1 + 3 * k + 5 < _; omega, by have := r.un; show A.units + 3 + 16 * k + 200 < _; omega⟩
theorem Room.in1 {k : Nat} {A : Around} (r : Room (k + 1) A) : Room k A.in1 :=
  ⟨r.hd, by have := r.dp; show A.depth + 3 * k + 5 < _; omega, by have := r.un; show A.units + 1 + 16 * k + 200 < _; omega⟩
theorem make_depth {A : Around} {C : Addr} {us : List Value} {kw : List (Str × Value)} : (A.under (.builtin "type.__call__" ⟨.ref C :: us, kw⟩)).depth = A.depth + 1 := by
  first | rfl | simp [Around.under, Code.weight, Code.isCreation, Code.isGuard, Code.isCaller, Code.frames, Code.isFrame, guardIds]
theorem make_units {A : Around} {C : Addr} {us : List Value} {kw : List (Str × Value)} : (A.under (.builtin "type.__call__" ⟨.ref C :: us, kw⟩)).units = A.units + 1 := by
  first | rfl | simp [Around.under, Code.cUnits, Code.frames, Code.isFrame]
theorem Room.make {k : Nat} {A : Around} (r : Room (k + 1) A) (C : Addr) (us : List Value) (kw : List (Str × Value)) : Room k (A.under (.builtin "type.__call__" ⟨.ref C :: us, kw⟩)) :=
  ⟨r.hd, by have := r.dp; rw [make_depth]; omega, by have := r.un; rw [make_units]; omega⟩
theorem Room.depth {k : Nat} {A : Around} (r : Room k A) : A.depth < recursionLimit := by have := r.dp; omega
theorem Room.units {k : Nat} {A : Around} (r : Room k A) : A.units + 64 < cLine := by have := r.un; omega
theorem Room.units0 {k : Nat} {A : Around} (r : Room k A) : A.units < cLine := by have := r.un; omega

/-! ### argument lists and displays -/
def tNil : TA := fun _ H Q => Q [] H
def tCons (ta : TE) (tr : TA) : TA := fun σ H Q => ta σ H fun x H1 => tr σ H1 fun xs H2 => Q (x :: xs) H2
section
variable {X : Cx} {e : Expr} {es : List Expr} {te : TE} {t : TA} {pos : Pos}
theorem pa_nil : PA X [] tNil := fun _ _ _ _ H Q I h => Calls.spliced_nil ⟨[], H, I, .nil, h⟩
theorem pa_cons (ha : PE X e te) (hr : PA X es t) (hs : starEach (e :: es) X.env = (false, eval e X.env) :: starEach es X.env := by rfl) : PA X (e :: es) (tCons te t) := by
  intro pos pins s σ H Q I h
  rw [hs]
  show wpAny _ _ (spliced ((false, eval e X.env) :: backTo pos (starEach es X.env))) _ _ s
  refine Calls.spliced_cons (thn (ha pins s σ H _ I h) fun u s1 ⟨x, H1, I1, r1, q1⟩ => ?_)
  exact thn (hr pos pins s1 σ H1 _ I1 q1) fun us s2 ⟨xs, H2, I2, r2, q2⟩ => ⟨x :: xs, H2, I2, .cons r1 r2, q2⟩

/-- a tuple, a list of written items -/
def tTup (t : TA) : TE := fun σ H Q => t σ H fun xs H1 => xs.length ≤ sizeLine ∧ ∀ p, H1 p = none → Q (.ref p) (upd H1 p (.tup xs))
def tLst (t : TA) : TE := fun σ H Q => t σ H fun xs H1 => xs.length ≤ sizeLine ∧ ∀ p, H1 p = none → Q (.ref p) (upd H1 p (.lst xs))
theorem pe_tup {x1} (h : PA X es t) : PE X (.Tuple es x1 pos) (tTup t) := by
  intro pins s σ H Q I hq
  refine wpAny_Tuple_spliced (thn (h pos pins s σ H _ I hq) fun us s1 ⟨xs, H1, I1, r, z, q⟩ => ⟨by rw [← r.length]; exact z, ?_⟩)
  have hf : H1 s1.heap.objs.size = none := I1.hok.fresh (Nat.le_refl _)
  refine ⟨.ref s1.heap.objs.size, upd H1 s1.heap.objs.size (.tup xs), I1.laid (t' := s1.toks) (fun b u e => Heap.get?_push_of_some _ e) (Nat.le_refl _) ?_, rfl, q _ hf⟩
  exact ⟨z, us, r, ⟨_, Heap.get?_push_size _ rfl, rfl, _, rfl⟩⟩
theorem pe_lst (h : PA X es t) : PE X (.List es pos) (tLst t) := by
  intro pins s σ H Q I hq
  refine wpAny_List_spliced (thn (h pos pins s σ H _ I hq) fun us s1 ⟨xs, H1, I1, r, z, q⟩ => ⟨by rw [← r.length]; exact z, ?_⟩)
  have hf : H1 s1.heap.objs.size = none := I1.hok.fresh (Nat.le_refl _)
  refine ⟨.ref s1.heap.objs.size, upd H1 s1.heap.objs.size (.lst xs), I1.laid (t' := s1.toks) (fun b u e => Heap.get?_push_of_some _ e) (Nat.le_refl _) ?_, rfl, q _ hf⟩
  exact ⟨z, us, 0, r, Heap.get?_push_size _ rfl⟩
end

/-! ### what a def promises -/
/-- a def's promise: the bound arguments in the parameters' order, the heap, the wanted end, the wanted exception -/
abbrev Sp := List V → Hp → VK → XK → Prop
/-- how an exception lies behind a call (file 08 gives it): the callers' frames, abstract heap and state ahead of the call, the wish, the exception, the state -/
abbrev CXT := List Env → Hp → Shared → XK → Value → Shared → Prop

/-- the state at a call -/
structure Env0 (P : Program) (w : World) (K : PySem.W.Frag) (mg : Str → Option Value) (base : Heap) (A : Around) (outer : List Env) (s : Shared) (H : Hp) : Prop where
  frames : A.frames = some outer
  mod : Mod K mg base
  bs : ∀ b o, base.get? b = some o → s.heap.get? b = some o ∧ H b = none
  bsz : base.objs.size ≤ s.heap.objs.size
  funs : s.heap.FunFrames base outer
  frf : ∀ b ∈ frs outer, H b = none
  hok : HOk P w H s.heap
  bare : AllBare s.gens
/-- a call's end -/
def CE (outer : List Env) (P : Program) (w : World) (H : Hp) (s : Shared) (Q : VK) (u : Value) (s' : Shared) : Prop :=
  ∃ v H', s'.os = s.os ∧ AllBare s'.gens ∧ Un (frs outer) [] H H' s.heap s'.heap ∧ HOk P w H' s'.heap ∧ RelV v u ∧ Q v H'
def CR (CX : CXT) (outer : List Env) (P : Program) (w : World) (H : Hp) (s : Shared) (Q : VK) (E : XK) (r : Result) (s' : Shared) : Prop :=
  match r with
  | .ok (.ret u) => CE outer P w H s Q u s'
  | .ok _ => False
  | .error e => CX outer H s E e s'
structure FnOk (P : Program) (w : World) (K : PySem.W.Frag) (mg : Str → Option Value) (base : Heap) (CX : CXT) (k : Nat) (f : Addr) (fd : FuncData) (ps : List Str) (sp : Sp) : Prop where
  len : ∀ vs H Q E, sp vs H Q E → vs.length = ps.length
  run : ∀ (A : Around) (outer : List Env) (s : Shared) (H : Hp) (args : Args) (us : List Value) (vs : List V) (Q : VK) (E : XK), Room k A → Env0 P w K mg base A outer s H → BindsTo s fd args (ps.zip us) → Vals vs us → sp vs H Q E →
    codeAny (model P w) A (.call (.ref f) args) (CR CX outer P w H s Q E) s
theorem FnOk.mono {P : Program} {w : World} {K : PySem.W.Frag} {mg : Str → Option Value} {base : Heap} {CX : CXT} {j k : Nat} {f : Addr} {fd : FuncData} {ps : List Str} {sp : Sp} (F : FnOk P w K mg base CX j f fd ps sp) (h : j ≤ k) :
    FnOk P w K mg base CX k f fd ps sp := ⟨F.len, fun A outer s H args us vs Q E hr => F.run A outer s H args us vs Q E (hr.mono h)⟩
/-- a weaker promise -/
theorem FnOk.imp {P : Program} {w : World} {K : PySem.W.Frag} {mg : Str → Option Value} {base : Heap} {CX : CXT} {k : Nat} {f : Addr} {fd : FuncData} {ps : List Str} {sp sp' : Sp} (F : FnOk P w K mg base CX k f fd ps sp)
    (h : ∀ vs H Q E, sp' vs H Q E → sp vs H Q E) : FnOk P w K mg base CX k f fd ps sp' :=
  ⟨fun vs H Q E q => F.len vs H Q E (h _ _ _ _ q), fun A outer s H args us vs Q E hr he hb hv hs => F.run A outer s H args us vs Q E hr he hb hv (h _ _ _ _ hs)⟩

theorem Env0.make {P : Program} {w : World} {K : PySem.W.Frag} {mg : Str → Option Value} {base : Heap} {A : Around} {outer : List Env} {s : Shared} {H : Hp} (e : Env0 P w K mg base A outer s H) (C : Addr) (us : List Value) (kw : List (Str × Value)) :
    Env0 P w K mg base (A.under (.builtin "type.__call__" ⟨.ref C :: us, kw⟩)) outer s H := ⟨by first | exact e.frames | (simpa [Around.under, Code.envs, Code.isFrame, pushEnvs] using e.frames), e.mod, e.bs, e.bsz, e.funs, e.frf, e.hok, e.bare⟩
theorem Env0.in1 {P : Program} {w : World} {K : PySem.W.Frag} {mg : Str → Option Value} {base : Heap} {A : Around} {outer : List Env} {s : Shared} {H : Hp} (e : Env0 P w K mg base A outer s H) :
    Env0 P w K mg base A.in1 outer s H := ⟨e.frames, e.mod, e.bs, e.bsz, e.funs, e.frf, e.hok, e.bare⟩

section
variable {X : Cx} {pins : List (Addr × Obj)} {σ : St} {H : Hp} {s s' : Shared}
/-- from a body: what a callee wants -/
theorem Inv.env0 (I : Inv X pins σ H s) : Env0 X.prog X.w X.K X.mg X.base X.A X.stack s H :=
  ⟨I.ok.frames, I.ok.mod, I.bs, Nat.le_trans I.ok.bsz I.sz, I.stack, I.stkFree, I.hok, I.bare⟩
/-- behind a call -/
theorem Inv.after {Q : VK} {u : Value} (I : Inv X pins σ H s) (h : CE X.stack X.prog X.w H s Q u s') : EP X pins σ Q u s' := by
  obtain ⟨v, H', os, bare, un, hok, r, q⟩ := h
  obtain ⟨hh, g, d, t, os'⟩ := s'
  obtain rfl : os' = s.os := os
  exact ⟨v, H', I.call (h' := hh) (g' := g) (d' := d) (t' := t) (ch := []) un hok bare (fun b z => absurd z (by simp)), r, q⟩
end

/-! ### calls -/
/-- f(..): the written arguments, then the defaults dvs; E: what is wanted of an exception -/
def tCall (sp : Sp) (dvs : List V) (E : XK) (t : TA) : TE := fun σ H Q => t σ H fun vs H1 => sp (vs ++ dvs) H1 Q E
/-- o.m(..) of an instance of the class at C -/
def tMeth (C : Addr) (m : Str) (sp : Sp) (dvs : List V) (E : XK) (ta : TE) (t : TA) : TE := fun σ H Q => ta σ H fun x H1 => ∃ a dx fs, x = .ref a ∧ H1 a = some (.ins C dx fs) ∧ fs.lookup m = none ∧
  t σ H1 fun vs H2 => sp (x :: (vs ++ dvs)) H2 Q E
/-- C(..): a new instance and its dict, then __init__ -/
def tMake (C : Addr) (sp : Sp) (dvs : List V) (E : XK) (t : TA) : TE := fun σ H Q => t σ H fun vs H1 => ∀ x dx, H1 x = none → H1 dx = none → dx ≠ x →
  sp (.ref x :: (vs ++ dvs)) (upd (upd H1 dx (.own x)) x (.ins C dx [])) (fun v H2 => v = .non ∧ Q (.ref x) H2) E

/-- how the parameters are bound: us the positional arguments, kw the keywords' values by name, ds the defaults that fill up -/
def Binds (K : PySem.W.Frag) (fd : FuncData) (ps : List Str) (ds : List Value) : Prop :=
  ∀ (s : Shared) (us : List Value), K.In s.heap → (us ++ ds).length = ps.length → BindsTo s fd ⟨us, []⟩ (ps.zip (us ++ ds))
/-- every parameter is given -/
theorem Binds.all {K : PySem.W.Frag} {fd : FuncData} {ps : List Str} (h : ∀ us : List Value, us.length = ps.length → bindArgs fd ⟨us, []⟩ = pure (ps.zip us)) : Binds K fd ps [] := fun s us _ hl => by
  rw [List.append_nil] at hl ⊢
  exact .of_eq (h us hl)

/-- an exception of a callee reaches what this body wants of exceptions -/
def Passes (CX : CXT) (X : Cx) (E : XK) : Prop := ∀ (pins : List (Addr × Obj)) (σ : St) (H : Hp) (s : Shared) (e : Value) (s' : Shared), Inv X pins σ H s → CX X.stack H s E e s' → X.xe e s'

section
variable {X : Cx} {CX : CXT} {k : Nat} {f C : Addr} {fd : FuncData} {ps : List Str} {sp : Sp} {dvs : List V} {ds : List Value} {E : XK} {x m : Str} {p pos apos : Pos} {e o : Expr} {es : List Expr} {ta : TE} {t : TA}

/-- the callee runs -/
theorem run_fn {pins : List (Addr × Obj)} {σ : St} {H : Hp} {s : Shared} {Q : VK} {us : List Value} {vs : List V} (F : FnOk X.prog X.w X.K X.mg X.base CX k f fd ps sp) (hr : Room k X.A) (hb : Binds X.K fd ps ds) (hd : Vals dvs ds) (hx : Passes CX X E)
    (I : Inv X pins σ H s) (r : Vals vs us) (h : sp (vs ++ dvs) H Q E) : wpAny (model X.prog X.w) X.A (call (.ref f) us) (EP X pins σ Q) X.xe s := by
  have r2 : Vals (vs ++ dvs) (us ++ ds) := r.append hd
  have hl : (us ++ ds).length = ps.length := by rw [← r2.length]; exact F.len _ _ _ _ h
  refine wpAny_call (codeAny_mono (F.run X.A X.stack s H ⟨us, []⟩ (us ++ ds) (vs ++ dvs) Q E hr I.env0 (hb s us I.kIn hl) r2 h) fun r s' hq => ?_)
  cases r with
  | error e => exact hx pins σ H s e s' I hq
  | ok fl =>
    cases fl with
    | ret u => exact I.after hq
    | next => exact False.elim hq
    | brk => exact False.elim hq
    | cont => exact False.elim hq

theorem pe_call (F : FnOk X.prog X.w X.K X.mg X.base CX k f fd ps sp) (hr : Room k X.A) (hg : Gl X x) (hm : X.mg x = some (.ref f)) (hk : PySem.W.keepIn X.K (.ref f) = true) (hb : Binds X.K fd ps ds) (hd : Vals dvs ds) (hx : Passes CX X E)
    (ha : PA X (e :: es) t) (hdb : (x == ("__debug__" : Str)) = false := by decide) (he : starEach (e :: es) X.env = (false, eval e X.env) :: starEach es X.env := by rfl) (hpl : (backTo pos (starEach es X.env)).any (·.1) = false := by rfl) :
    PE X (.Call (.Name x p) (e :: es) [] pos) (tCall sp dvs E t) := by
  intro pins s σ H Q I h
  refine wpAny_Call_Name_kw (ld_glob I hg hm ?_ hdb)
  refine PySem.W.callWith_K (h₀ := X.base) I.ok.mod.kin hk (thn (ha pos pins s σ H _ I h) fun us s1 ⟨vs, H1, I1, r, q⟩ => ⟨I1.kIn, ?_⟩) he hpl
  exact run_fn F hr hb hd hx I1 r q
theorem pe_call0 (F : FnOk X.prog X.w X.K X.mg X.base CX k f fd ps sp) (hr : Room k X.A) (hg : Gl X x) (hm : X.mg x = some (.ref f)) (hk : PySem.W.keepIn X.K (.ref f) = true) (hb : Binds X.K fd ps ds) (hd : Vals dvs ds) (hx : Passes CX X E)
    (hdb : (x == ("__debug__" : Str)) = false := by decide) : PE X (.Call (.Name x p) [] [] pos) (tCall sp dvs E tNil) := by
  intro pins s σ H Q I h
  refine wpAny_Call_Name_kw (ld_glob I hg hm ?_ hdb)
  exact PySem.W.callWith_K0 I.kIn hk (run_fn (us := []) F hr hb hd hx I .nil h)

/-- o.m(e, ..) -/
theorem pe_meth {pl : Sem Bool} (he : PE X o ta) (c : Cls X.K C) (hm : Meth X.K C m f) (F : FnOk X.prog X.w X.K X.mg X.base CX k f fd ps sp) (hr : Room k X.A) (hb : Binds X.K fd ps ds) (hd : Vals dvs ds) (hx : Passes CX X E) (ha : PA X (e :: es) t)
    (hst : starEach (e :: es) X.env = (false, eval e X.env) :: starEach es X.env := by rfl) (hpl : (backTo pos (starEach es X.env)).any (·.1) = false := by rfl)
    (ht : eval (.Call (.Attribute o m apos) (e :: es) [] pos) X.env = (do
      let ov ← eval o X.env
      standAt apos.atName
      let (f, first) ← holding [ov] (getMethod ov m pl)
      callWith pos f first (backTo pos (starEach (e :: es) X.env)) (backToKw pos (keywordEach [] X.env))) := by rfl) :
    PE X (.Call (.Attribute o m apos) (e :: es) [] pos) (tMeth C m sp dvs E ta t) := by
  intro pins s σ H Q I h
  refine PySem.W.methodCall_KW (pl := pl) (thn (he pins s σ H _ I h) fun u s1 ⟨x, H1, I1, rx, a, dx, fs, ex, ea, l, q⟩ => ?_) ht
  subst ex
  obtain rfl : u = Value.ref a := rx
  refine getmeth_ok I1 ea c hm l ?_
  refine PySem.W.callWith_K (first := [.ref a]) (h₀ := X.base) I.ok.mod.kin hm.kp (thn (ha pos pins s1 σ H1 _ I1 q) fun us s2 ⟨vs, H2, I2, r, q2⟩ => ⟨I2.kIn, ?_⟩) hst hpl
  exact run_fn (us := .ref a :: us) (vs := .ref a :: vs) F hr hb hd hx I2 (.cons rfl r) q2
/-- o.m() -/
theorem pe_meth0 {pl : Sem Bool} (he : PE X o ta) (c : Cls X.K C) (hm : Meth X.K C m f) (F : FnOk X.prog X.w X.K X.mg X.base CX k f fd ps sp) (hr : Room k X.A) (hb : Binds X.K fd ps ds) (hd : Vals dvs ds) (hx : Passes CX X E)
    (ht : eval (.Call (.Attribute o m apos) [] [] pos) X.env = (do
      let ov ← eval o X.env
      standAt apos.atName
      let (f, first) ← holding [ov] (getMethod ov m pl)
      callWith pos f first (backTo pos (starEach [] X.env)) (backToKw pos (keywordEach [] X.env))) := by rfl) :
    PE X (.Call (.Attribute o m apos) [] [] pos) (tMeth C m sp dvs E ta tNil) := by
  intro pins s σ H Q I h
  refine PySem.W.methodCall_KW (pl := pl) (thn (he pins s σ H _ I h) fun u s1 ⟨x, H1, I1, rx, a, dx, fs, ex, ea, l, q⟩ => ?_) ht
  subst ex
  obtain rfl : u = Value.ref a := rx
  refine getmeth_ok I1 ea c hm l ?_
  exact PySem.W.callWith_K0 (first := [.ref a]) I1.kIn hm.kp (run_fn (us := [.ref a]) (vs := [.ref a]) F hr hb hd hx I1 (.cons rfl .nil) q)

/-- what a class must have to be made -/
structure Mk (K : PySem.W.Frag) (C f : Addr) : Prop where
  makes : PySem.W.makesIn K C = true
  init : PySem.W.findIn K (.ref C) "__init__" = some (some (.ref f))
  fn : PySem.W.isFn K (.ref f) = true
  kp : PySem.W.keepIn K (.ref C) = true

theorem run_make {pins : List (Addr × Obj)} {σ : St} {H : Hp} {s : Shared} {Q : VK} {us : List Value} {vs : List V} (M : Mk X.K C f) (F : FnOk X.prog X.w X.K X.mg X.base CX k f fd ps sp) (hr : Room (k + 1) X.A) (hb : Binds X.K fd ps ds) (hd : Vals dvs ds)
    (hx : Passes CX X E) (I : Inv X pins σ H s) (r : Vals vs us)
    (h : ∀ x dx, H x = none → H dx = none → dx ≠ x → sp (.ref x :: (vs ++ dvs)) (upd (upd H dx (.own x)) x (.ins C dx [])) (fun v H2 => v = .non ∧ Q (.ref x) H2) E) :
    wpAny (model X.prog X.w) X.A (call (.ref C) us) (EP X pins σ Q) X.xe s := by
  have hq := h (s.heap.objs.size + 1) s.heap.objs.size (I.hok.fresh (Nat.le_succ _)) (I.hok.fresh (Nat.le_refl _)) (Nat.ne_of_lt (Nat.lt_succ_self _))
  have I2 := Inv.made (C := C) I
  have r2 : Vals (V.ref (s.heap.objs.size + 1) :: (vs ++ dvs)) (Value.ref (s.heap.objs.size + 1) :: (us ++ ds)) := .cons rfl (r.append hd)
  have hl : (Value.ref (s.heap.objs.size + 1) :: us ++ ds).length = ps.length := by
    have e := r2.length
    rw [F.len _ _ _ _ hq] at e
    exact e.symm
  refine wpAny_call (make_map (f := f) I.kIn M.makes M.init (beq_iff_eq.mp M.fn) (codeAny_mono (F.run _ X.stack _ _ ⟨Value.ref (s.heap.objs.size + 1) :: us, []⟩ (Value.ref (s.heap.objs.size + 1) :: (us ++ ds)) _ _ E (hr.make C us [])
    (I2.env0.make C us []) (hb _ (Value.ref (s.heap.objs.size + 1) :: us) I2.kIn hl) r2 hq) fun r s' hq' => ?_))
  cases r with
  | error e => exact hx pins σ _ _ e s' I2 hq'
  | ok fl =>
    cases fl with
    | ret u =>
      obtain ⟨v, H', I3, rv, ev, q3⟩ := I2.after hq'
      subst ev
      exact ⟨rv, ⟨V.ref (s.heap.objs.size + 1), H', I3, rfl, q3⟩⟩
    | next => exact False.elim hq'
    | brk => exact False.elim hq'
    | cont => exact False.elim hq'
theorem pe_make (M : Mk X.K C f) (F : FnOk X.prog X.w X.K X.mg X.base CX k f fd ps sp) (hr : Room (k + 1) X.A) (hg : Gl X x) (hm : X.mg x = some (.ref C)) (hb : Binds X.K fd ps ds) (hd : Vals dvs ds) (hx : Passes CX X E)
    (ha : PA X (e :: es) t) (hdb : (x == ("__debug__" : Str)) = false := by decide) (he : starEach (e :: es) X.env = (false, eval e X.env) :: starEach es X.env := by rfl) (hpl : (backTo pos (starEach es X.env)).any (·.1) = false := by rfl) :
    PE X (.Call (.Name x p) (e :: es) [] pos) (tMake C sp dvs E t) := by
  intro pins s σ H Q I h
  refine wpAny_Call_Name_kw (ld_glob I hg hm ?_ hdb)
  refine PySem.W.callWith_K (h₀ := X.base) I.ok.mod.kin M.kp (thn (ha pos pins s σ H _ I h) fun us s1 ⟨vs, H1, I1, r, q⟩ => ⟨I1.kIn, ?_⟩) he hpl
  exact run_make M F hr hb hd hx I1 r q
theorem pe_make0 (M : Mk X.K C f) (F : FnOk X.prog X.w X.K X.mg X.base CX k f fd ps sp) (hr : Room (k + 1) X.A) (hg : Gl X x) (hm : X.mg x = some (.ref C)) (hb : Binds X.K fd ps ds) (hd : Vals dvs ds) (hx : Passes CX X E)
    (hdb : (x == ("__debug__" : Str)) = false := by decide) : PE X (.Call (.Name x p) [] [] pos) (tMake C sp dvs E tNil) := by
  intro pins s σ H Q I h
  refine wpAny_Call_Name_kw (ld_glob I hg hm ?_ hdb)
  exact PySem.W.callWith_K0 I.kIn M.kp (run_make (us := []) M F hr hb hd hx I .nil h)
end

/-! ### keywords -/
/-- the values of the keywords, from the left -/
def PK (X : Cx) (kws : List Keyword) (t : TA) : Prop :=
  ∀ (pos : Pos) (pins : List (Addr × Obj)) (s : Shared) (σ : St) (H : Hp) (Q : List V → Hp → Prop), Inv X pins σ H s → t σ H Q → wpAny (model X.prog X.w) X.A (evalAll ((backToKw pos (keywordEach kws X.env)).map (·.2))) (AP X pins σ Q) X.xe s
section
variable {X : Cx} {CX : CXT} {k : Nat} {f C : Addr} {fd : FuncData} {ps ks : List Str} {sp : Sp} {E : XK} {x m : Str} {p pos apos kpos : Pos} {e o : Expr} {es : List Expr} {kws : List Keyword} {te ta : TE} {t tk : TA} {nm : Option Str}
theorem pk_nil : PK X [] tNil := fun _ _ _ _ H Q I h => wpAny_evalAll_nil ⟨[], H, I, .nil, h⟩
theorem pk_cons (ha : PE X e te) (hr : PK X kws t) : PK X (⟨nm, e, kpos⟩ :: kws) (tCons te t) := by
  intro pos pins s σ H Q I h
  show wpAny _ _ (evalAll ((do let v ← eval e X.env; standAt pos; pure v) :: (backToKw pos (keywordEach kws X.env)).map (·.2))) _ _ s
  refine wpAny_evalAll_cons (wpAny_bind (thn (ha pins s σ H _ I h) fun u s1 ⟨x, H1, I1, r1, q1⟩ => wpAny_bind (wpAny_standAt (wpAny_pure ?_))))
  exact thn (hr pos pins s1 σ H1 _ I1 q1) fun us s2 ⟨xs, H2, I2, r2, q2⟩ => ⟨x :: xs, H2, I2, .cons r1 r2, q2⟩

/-- how a call with keywords binds: g puts the positional values us and the keywords' values ws (names ks) in the parameters' order, defaults among them -/
structure KBinds (K : PySem.W.Frag) (fd : FuncData) (ps ks : List Str) (g : List Value → List Value → List Value) (gV : List V → List V → List V) : Prop where
  to : ∀ (s : Shared) (us ws : List Value), K.In s.heap → (g us ws).length = ps.length → BindsTo s fd ⟨us, ks.zip ws⟩ (ps.zip (g us ws))
  rel : ∀ {vs : List V} {us : List Value} {zs : List V} {ws : List Value}, Vals vs us → Vals zs ws → Vals (gV vs zs) (g us ws)
def tCallK (sp : Sp) (gV : List V → List V → List V) (E : XK) (t tk : TA) : TE := fun σ H Q => t σ H fun vs H1 => tk σ H1 fun zs H2 => sp (gV vs zs) H2 Q E
variable {g : List Value → List Value → List Value} {gV : List V → List V → List V}
theorem run_fnk {pins : List (Addr × Obj)} {σ : St} {H : Hp} {s : Shared} {Q : VK} {us ws : List Value} {vs zs : List V} (F : FnOk X.prog X.w X.K X.mg X.base CX k f fd ps sp) (hr : Room k X.A) (hb : KBinds X.K fd ps ks g gV) (hx : Passes CX X E)
    (I : Inv X pins σ H s) (r : Vals vs us) (rz : Vals zs ws) (h : sp (gV vs zs) H Q E) : wpAny (model X.prog X.w) X.A (call (.ref f) us (ks.zip ws)) (EP X pins σ Q) X.xe s := by
  have r2 := hb.rel r rz
  have hl : (g us ws).length = ps.length := by rw [← r2.length]; exact F.len _ _ _ _ h
  refine wpAny_call (codeAny_mono (F.run X.A X.stack s H ⟨us, ks.zip ws⟩ (g us ws) (gV vs zs) Q E hr I.env0 (hb.to s us ws I.kIn hl) r2 h) fun r s' hq => ?_)
  cases r with
  | error e => exact hx pins σ H s e s' I hq
  | ok fl =>
    cases fl with
    | ret u => exact I.after hq
    | next => exact False.elim hq
    | brk => exact False.elim hq
    | cont => exact False.elim hq
/-- f(e, .., k = v, ..) -/
theorem pe_callK (F : FnOk X.prog X.w X.K X.mg X.base CX k f fd ps sp) (hr : Room k X.A) (hg : Gl X x) (hm : X.mg x = some (.ref f)) (hk : PySem.W.keepIn X.K (.ref f) = true) (hb : KBinds X.K fd ps ks g gV) (hx : Passes CX X E)
    (ha : PA X (e :: es) t) (hkw : PK X kws tk) (hall : (backToKw pos (keywordEach kws X.env)).all (·.1.isSome) = true := by rfl) (hks : (backToKw pos (keywordEach kws X.env)).filterMap (·.1) = ks := by rfl)
    (hdb : (x == ("__debug__" : Str)) = false := by decide) (he : starEach (e :: es) X.env = (false, eval e X.env) :: starEach es X.env := by rfl)
    (hpl : ((backTo pos (starEach (e :: es) X.env)).any (·.1) || (backToKw pos (keywordEach kws X.env)).any (·.1.isNone)) = false := by rfl) :
    PE X (.Call (.Name x p) (e :: es) kws pos) (tCallK sp gV E t tk) := by
  intro pins s σ H Q I h
  refine wpAny_Call_Name_kw (ld_glob I hg hm ?_ hdb)
  refine PySem.W.callWith_KW (h₀ := X.base) I.ok.mod.kin hk hall (thn (ha pos pins s σ H _ I h) fun us s1 ⟨vs, H1, I1, r, q⟩ => ?_) hpl he
  refine thn (hkw pos pins s1 σ H1 _ I1 q) fun ws s2 ⟨zs, H2, I2, rz, q2⟩ => ⟨I2.kIn, ?_⟩
  rw [hks]
  exact run_fnk F hr hb hx I2 r rz q2
end

/-! ### a def's body keeps its promise -/
/-- names: the parameters first -/
structure FnScope (N P : List Str) (sc : Scope) : Prop where
  kind : sc.kind = .function
  co : sc.isCoroutine = false
  gen : sc.isGenerator = false
  nd : N.Nodup
  pre : N.take P.length = P
  par : ∀ x ∈ P, sc.names.lookup x = some .local ∨ sc.names.lookup x = some .cell
  nofree : ∀ y ∈ sc.names, y.2 ≠ .free

theorem bindL_out {kindOf : Str → Option NameKind} {x : Str} : ∀ {binds : List (Str × Value)} {m : Str → Option Value}, (∀ v, (x, v) ∉ binds) → bindL kindOf binds m x = m x
  | [], _, _ => rfl
  | (n, v) :: r, m, h => by
    unfold bindL
    rw [bindL_out fun w hw => h w (List.mem_cons_of_mem _ hw)]
    split
    · have : x ≠ n := by rintro rfl; exact h v List.mem_cons_self
      simp [this]
    · rfl
theorem bindC_out {kindOf : Str → Option NameKind} {x : Str} : ∀ {binds : List (Str × Value)} {m : Str → Option Value}, (∀ v, (x, v) ∉ binds) → bindC kindOf binds m x = m x
  | [], _, _ => rfl
  | (n, v) :: r, m, h => by
    unfold bindC
    rw [bindC_out fun w hw => h w (List.mem_cons_of_mem _ hw)]
    split
    · rfl
    · have : x ≠ n := by rintro rfl; exact h v List.mem_cons_self
      simp [this]
theorem bindL_get {kindOf : Str → Option NameKind} {x : Str} {v : Value} : ∀ {P : List Str} {vs : List Value} {i : Nat} {m : Str → Option Value}, P.Nodup → P[i]? = some x → vs[i]? = some v → kindOf x = some .local →
    bindL kindOf (P.zip vs) m x = some v
  | [], _, _, _, _, h, _, _ => by simp at h
  | _ :: _, [], _, _, _, _, h, _ => by simp at h
  | p :: P, w :: vs, 0, m, nd, h1, h2, hk => by
    simp at h1 h2; subst h1; subst h2
    show bindL kindOf ((p, w) :: P.zip vs) m p = _
    unfold bindL
    rw [bindL_out fun v hv => (List.nodup_cons.mp nd).1 (List.of_mem_zip hv).1, if_pos hk]
    simp
  | p :: P, w :: vs, i + 1, m, nd, h1, h2, hk => by
    show bindL kindOf ((p, w) :: P.zip vs) m x = _
    unfold bindL
    exact bindL_get (i := i) (List.nodup_cons.mp nd).2 (by simpa using h1) (by simpa using h2) hk
theorem bindC_get {kindOf : Str → Option NameKind} {x : Str} {v : Value} : ∀ {P : List Str} {vs : List Value} {i : Nat} {m : Str → Option Value}, P.Nodup → P[i]? = some x → vs[i]? = some v → kindOf x ≠ some .local →
    bindC kindOf (P.zip vs) m x = some v
  | [], _, _, _, _, h, _, _ => by simp at h
  | _ :: _, [], _, _, _, _, h, _ => by simp at h
  | p :: P, w :: vs, 0, m, nd, h1, h2, hk => by
    simp at h1 h2; subst h1; subst h2
    show bindC kindOf ((p, w) :: P.zip vs) m p = _
    unfold bindC
    rw [bindC_out fun v hv => (List.nodup_cons.mp nd).1 (List.of_mem_zip hv).1, if_neg hk]
    simp
  | p :: P, w :: vs, i + 1, m, nd, h1, h2, hk => by
    show bindC kindOf ((p, w) :: P.zip vs) m x = _
    unfold bindC
    exact bindC_get (i := i) (List.nodup_cons.mp nd).2 (by simpa using h1) (by simpa using h2) hk

/-- the names' values at the entry -/
def start (N : List Str) (vs : List V) : St := vs.map some ++ List.replicate (N.length - vs.length) none

/-- the context of a def's body, at its entry; an exception leaves the frame, then lies as CX says -/
def cxOf (CX : CXT) (P : Program) (w : World) (K : PySem.W.Frag) (mg : Str → Option Value) (base : Heap) (N : List Str) (qual : Str) (scope : Scope) (f : Addr) (cd : Value) (A : Around) (outer : List Env) (s : Shared) (H : Hp) (E : XK) : Cx where
  prog := P
  w := w
  K := K
  mg := mg
  base := base
  A := A.deeper (envOfC qual scope s.heap.objs.size f cd)
  N := N
  s₀ := s
  H₀ := H
  env := envOfC qual scope s.heap.objs.size f cd
  outer := outer
  stack := envOfC qual scope s.heap.objs.size f cd :: outer
  ex := []
  calm := true
  fn := fun _ => true
  pn := []
  xe := fun e s' => wpAny (model P w) (A.deeper (envOfC qual scope s.heap.objs.size f cd)) (leaving (envOfC qual scope s.heap.objs.size f cd) e) (fun _ s'' => CX outer H s E e s'') (fun e' s'' => CX outer H s E e' s'') s'

theorem cell_has {sc : Scope} {n : Nat} {x : Str} (h : sc.names.lookup x = some .cell) : ∃ c, (cellsFrom n sc.names []).lookup x = some c := by
  have q := PySem.W.cellsFrom_some sc.names n [] (.inl h)
  exact Option.isSome_iff_exists.mp q

theorem inv_start {CX : CXT} {P : Program} {w : World} {K : PySem.W.Frag} {mg : Str → Option Value} {base : Heap} {N ps : List Str} {qual : Str} {scope : Scope} {f : Addr} {cd : Value} {A : Around} {outer : List Env} {s s1 : Shared} {H : Hp} {E : XK} {us : List Value} {vs : List V}
    (S : FnScope N ps scope) (hd : A.handled = none) (e0 : Env0 P w K mg base A outer s H) (hl : vs.length = ps.length) (r : Vals vs us)
    (x : InCallC s s.heap.objs.size (bindL (envOfC qual scope s.heap.objs.size f cd).kindOf (ps.zip us) fun _ => none) (cellsFrom (s.heap.objs.size + 1) scope.names []) (bindC (envOfC qual scope s.heap.objs.size f cd).kindOf (ps.zip us) fun _ => none) s1) :
    Inv (cxOf CX P w K mg base N qual scope f cd A outer s H E) [] (start N vs) H s1 := by
  have hpl : ps.length ≤ N.length := by have := congrArg List.length S.pre; rw [List.length_take] at this; omega
  obtain ⟨h1, tk, rfl, hk⟩ := x.done
  have noA : ∀ b : Addr, b ∉ (cxOf CX P w K mg base N qual scope f cd A outer s H E).ex := fun b z => absurd (show b ∈ ([] : List Addr) from z) (by simp)
  refine ⟨⟨e0.mod, S.kind, rfl, rfl, Nat.le_refl _, fun y z c h1 h2 => ?_, fun y hy => ?_, fun y c _ h => ?_, fun _ => hd, Around.frames_deeper e0.frames, .inr ⟨rfl, rfl⟩, fun b z => absurd z (noA b), e0.bs, e0.bsz, fun b _ _ => noA b, fun b z => absurd z (noA b), e0.funs, e0.frf⟩,
    rfl, e0.bare, Un.kept hk, ⟨_, x.toInCall.ns, fun i y v h1 h2 h3 => ?_⟩, fun y c h => ⟨_, x.cell y c h⟩, e0.hok.fresh (Nat.le_refl _), fun y c h => ?_, fun p hp => absurd (show p ∈ ([] : List (Addr × Obj)) from hp) (by simp), e0.hok.kept hk, ?_⟩
  · exact name_of_addr x.apart (PySem.mem_of_lookup h1) (PySem.mem_of_lookup h2)
  · have hy : scope.names.lookup y = some .cell ∨ scope.names.lookup y = some .free := hy
    rcases hy with hy | hy
    · exact cell_has hy
    · exact absurd rfl (S.nofree _ (PySem.mem_of_lookup hy))
  · exact Nat.le_of_lt (x.above y c (PySem.mem_of_lookup h))
  · have hi : i < vs.length := by
      unfold start at h2
      by_cases hi : i < vs.length
      · exact hi
      · rw [List.getElem?_append_right (by simpa using hi)] at h2
        rw [List.getElem?_replicate] at h2
        split at h2 <;> cases h2
    have ha : vs[i]? = some v := by
      unfold start at h2
      rw [List.getElem?_append_left (by simpa using hi), List.getElem?_map] at h2
      cases e : vs[i]? with
      | none => rw [e] at h2; cases h2
      | some a => rw [e] at h2; cases h2; rfl
    obtain ⟨u, hu, rv⟩ := r.get ha
    have hp : ps[i]? = some y := by
      rw [← S.pre, List.getElem?_take_of_lt (by omega)]; exact h1
    have ndP : ps.Nodup := by rw [← S.pre]; exact S.nd.sublist (List.take_sublist _ _)
    refine ⟨u, rv, ?_⟩
    rcases S.par y (List.mem_of_getElem? hp) with k | k
    · exact .inl ⟨k, bindL_get ndP hp hu k⟩
    · obtain ⟨c, e⟩ := cell_has (n := s.heap.objs.size + 1) k
      refine .inr ⟨.inl k, c, e, ?_⟩
      have q := x.cell y c e
      rw [bindC_get ndP hp hu (by show scope.names.lookup y ≠ _; rw [k]; decide)] at q
      exact q
  · exact e0.hok.fresh (Nat.le_of_lt (x.above y c (PySem.mem_of_lookup h)))
  · unfold start
    show _ = N.length
    rw [List.length_append, List.length_map, List.length_replicate]
    omega

/-- THE RULE: a def (or a method) of the text, by its body. The body's reading t is chosen for each entry; it is run at the parameters' values -/
theorem fn_of {CX : CXT} {P : Program} {w : World} {K : PySem.W.Frag} {mg : Str → Option Value} {base : Heap} {k : Nat} {f : Addr} {name qual : Str} {params : Arguments} {body : List Stmt} {scope : Scope} {dV kV doc pm cdv ct oc : Value} {an od : Option Addr}
    {osl : Array (Option Value)} {N ps : List Str} {sp : Sp} (lk : K.lookup f = some ⟨oc, od, .func (PySem.W.fnOf name qual params body scope dV kV doc pm an cdv ct), osl⟩) (hcd : PySem.W.codeIn K cdv qual = true) (S : FnScope N ps scope)
    (len : ∀ vs H Q E, sp vs H Q E → vs.length = ps.length)
    (hbody : ∀ (A : Around) (outer : List Env) (s : Shared) (H : Hp) (vs : List V) (Q : VK) (E : XK), Room k (A.deeper (envOfC qual scope s.heap.objs.size f cdv)) → sp vs H Q E →
      ∃ t, PSs (cxOf CX P w K mg base N qual scope f cdv A outer s H E) body t ∧ t { nx := fun _ H' => Q .non H', rt := Q } (start N vs) H) :
    FnOk P w K mg base CX (k + 1) f (PySem.W.fnOf name qual params body scope dV kV doc pm an cdv ct) ps sp := by
  refine ⟨len, fun A outer s H args us vs Q E hr e0 hb r hsp => ?_⟩
  have hl := len _ _ _ _ hsp
  have KX : K.In s.heap := e0.mod.kin.keeps fun b o e => (e0.bs b o e).1
  have lim : s.heap.NoLimit := e0.mod.nolimit.keeps fun b o e => (e0.bs b o e).1
  have hkind : ∀ y ∈ ps.zip us, scope.names.lookup y.1 = some .local ∨ (scope.names.lookup y.1 = some .cell ∧ ((cellsFrom (s.heap.objs.size + 1) scope.names []).lookup y.1).isSome = true) := fun ⟨n, v⟩ hy => by
    rcases S.par n (List.of_mem_zip hy).1 with q | q
    · exact .inl q
    · exact .inr ⟨q, PySem.W.cellsFrom_some _ _ _ (.inl q)⟩
  refine codeAny_call_function hr.depth (KX _ _ lk) rfl S.co S.gen rfl (PySem.W.codeRec_of KX hcd) (hb _ _ _ _ ?_)
  refine wpAny_newFunctionEnv_cells S.kind hkind fun env he s1 x => ?_
  subst he
  refine ⟨lim.keeps x.toInCall.keep, codeAny_func ?_⟩
  obtain ⟨t, ht, hq⟩ := hbody A outer s H vs Q E (hr.deeper _) hsp
  have I : Inv (cxOf CX P w K mg base N qual scope f cdv A outer s H E) [] (start N vs) H s1 := inv_start S hr.hd e0 hl r x
  refine wpAny_mono (ht [] s1 (start N vs) H _ I hq) (fun fl s' hs => ?_) fun e s' hs => hs
  have fin : ∀ {σ' : St} {H' : Hp} {v : V} {u : Value}, Inv (cxOf CX P w K mg base N qual scope f cdv A outer s H E) [] σ' H' s' → RelV v u → Q v H' → CE outer P w H s Q u s' :=
    fun {σ' H' v u} J rv q => ⟨v, H', J.os, J.bare, J.base, J.hok, rv, q⟩
  cases fl with
  | ret u =>
    obtain ⟨v, σ', H', J, rv, q⟩ := hs
    exact fin J rv q
  | next =>
    obtain ⟨σ', H', J, q⟩ := hs
    exact fin (v := V.non) (u := Value.none) J rfl q
  | brk =>
    obtain ⟨_, _, _, q⟩ := hs
    exact False.elim q
  | cont =>
    obtain ⟨_, _, _, q⟩ := hs
    exact False.elim q
end L2

namespace L2
open PySem PySem.Spec PyProof.Rows
section
variable {X : Cx} {x : Str} {p pos : Pos} {e : Expr} {es : List Expr} {t : TA} {id T : String} {r : List V → Hp → VK → Prop}

def tCB (r : List V → Hp → VK → Prop) (t : TA) : TE := fun σ H Q => t σ H fun vs H1 => r vs H1 Q
/-- f(e, ..), f a built-in function -/
theorem pe_callB (hc : CallR X (.builtin id) r) (hg : Gl X x) (hm : X.mg x = none) (hv : bootBuiltins x = some (.builtin id)) (ha : PA X (e :: es) t) (hn : x ≠ "__name__" := by decide) (hdb : (x == ("__debug__" : Str)) = false := by decide)
    (he : starEach (e :: es) X.env = (false, eval e X.env) :: starEach es X.env := by rfl) (hpl : (backTo pos (starEach es X.env)).any (·.1) = false := by rfl) : PE X (.Call (.Name x p) (e :: es) [] pos) (tCB r t) := by
  intro pins s σ H Q I h
  refine wpAny_Call_Name_kw (ld_blt I hg hm hv ?_ hn hdb)
  exact PyProof.Rows.callWith_builtin1 (thn (ha pos pins s σ H _ I h) fun us s1 ⟨vs, H1, I1, r1, q1⟩ => hc pins s1 σ H1 vs us Q I1 r1 q1) he hpl
/-- T(e, ..), T a built-in type -/
theorem pe_callTy (hc : CallR X (.type T) r) (hg : Gl X x) (hm : X.mg x = none) (hv : bootBuiltins x = some (.type T)) (ha : PA X (e :: es) t) (hn : x ≠ "__name__" := by decide) (hdb : (x == ("__debug__" : Str)) = false := by decide)
    (he : starEach (e :: es) X.env = (false, eval e X.env) :: starEach es X.env := by rfl) (hpl : (backTo pos (starEach es X.env)).any (·.1) = false := by rfl) : PE X (.Call (.Name x p) (e :: es) [] pos) (tCB r t) := by
  intro pins s σ H Q I h
  refine wpAny_Call_Name_kw (ld_blt I hg hm hv ?_ hn hdb)
  exact PyProof.Rows.callWith_type1 (thn (ha pos pins s σ H _ I h) fun us s1 ⟨vs, H1, I1, r1, q1⟩ => hc pins s1 σ H1 vs us Q I1 r1 q1) he hpl
/-- T() -/
theorem pe_callTy0 (hc : CallR X (.type T) r) (hg : Gl X x) (hm : X.mg x = none) (hv : bootBuiltins x = some (.type T)) (hn : x ≠ "__name__" := by decide) (hdb : (x == ("__debug__" : Str)) = false := by decide) :
    PE X (.Call (.Name x p) [] [] pos) (tCB r tNil) := by
  intro pins s σ H Q I h
  refine wpAny_Call_Name_kw (ld_blt I hg hm hv ?_ hn hdb)
  exact PyProof.Rows.callWith_type0 (hc pins s σ H [] [] Q I .nil h)
end
end L2

namespace HT
open PySem PyProof.Rows

/-- t < u of tuples of ints -/
def lexLt : List Int → List Int → Bool
  | [], [] => false
  | [], _ :: _ => true
  | _ :: _, [] => false
  | x :: xs, y :: ys => if x = y then lexLt xs ys else decide (x < y)
theorem lexLt_cons (x y : Int) (xs ys : List Int) : lexLt (x :: xs) (y :: ys) = if x = y then lexLt xs ys else decide (x < y) := rfl
theorem lexLt_nil_nil : lexLt [] [] = false := rfl
theorem lexLt_nil_cons (y : Int) (ys : List Int) : lexLt [] (y :: ys) = true := rfl
theorem lexLt_cons_nil (x : Int) (xs : List Int) : lexLt (x :: xs) [] = false := rfl

theorem eqAt_int (A : Around) (s : Shared) (a : Int) (t : Tok) (c : Int) (u : Tok) : ∃ e, SeqAt.EqAt A s (.int a t) (.int c u) e ∧ (e = true ↔ a = c) :=
  ⟨(a == c), SeqAt.EqAt.int_int a t c u, by simp⟩
theorem rcLt_int (A : Around) (s : Shared) (a : Int) (t : Tok) (c : Int) (u : Tok) (prog : Program) (w : World) (E : Value → Shared → Prop) (Q : Value → Shared → Prop) (h : Q (.bool (decide (a < c))) s) :
    wpAny (model prog w) A (richCompare .Lt (.int a t) (.int c u)) Q E s :=
  (PyProof.Rows.lt_int h : wpAny (model prog w) A (compareOp .Lt (.int a t) (.int c u)) Q E s)

section
open PySem.SeqAt
open PySem.AutoSeq1 (wpAny_loadPart')
open PySem.MeetsSeq PySem.MeetsSeq2 PySem.MeetsSeq3

theorem tuple_lt_ints (l b : Addr) (items items2 : Array Value) (n n2 : Nat) (dd dd2 : Option Addr) (sl sl2 : Array (Option Value)) (ns ms : List Int) (hi : IntsAre items.toList ns) (hj : IntsAre items2.toList ms) :
    Meets (Builtin.«tuple.__lt__» ⟨[.ref l, .ref b], []⟩)
      (fun _ R s => s.heap.get? l = some { cls := .type "tuple", dict := dd, data := .seq items n, slots := sl } ∧ s.heap.get? b = some { cls := .type "tuple", dict := dd2, data := .seq items2 n2, slots := sl2 } ∧
        R (.ok (.ret (.bool (lexLt ns ms)))) s) :=
  .of_wp fun prog w A R s h => by
    obtain ⟨hp, g, d, tk, os⟩ := s; obtain ⟨hl, hb, h⟩ := h
    have f2 := AutoSeq1.sub_tuple_tuple
    have z1 : items.size = ns.length := by rw [← hi.length]; simp
    have z2 : items2.size = ms.length := by rw [← hj.length]; simp
    wp_walk using wpAny_loadPart' hl, wpAny_loadPart' hb, wpAny_forIn_list _ (fun rest b s' => b.1 = none ∧ s' = ⟨hp, g, d, tk, os⟩ ∧ ∃ (vs ws : List Value) (ns' ms' : List Int), rest = vs.zip ws ∧
      IntsAre vs ns' ∧ IntsAre ws ms' ∧ ns'.length + items2.size = ms'.length + items.size ∧ R (.ok (.ret (.bool (lexLt ns' ms')))) ⟨hp, g, d, tk, os⟩) _
    case turn =>
      rintro ⟨y, x⟩ rest b s' ⟨hb', rfl, vs, ws, ns', ms', hz, hvi, hwi, hlen, hR⟩
      cases hvi with
      | nil => rw [List.zip_nil_left] at hz; cases hz
      | cons a t hvi' =>
        cases hwi with
        | nil => rw [List.zip_nil_right] at hz; cases hz
        | cons c u hwi' =>
          rw [List.zip_cons_cons] at hz
          injection hz with hyx hrest
          injection hyx with hy hx
          subst hy hx
          rw [lexLt_cons] at hR
          simp only [List.length_cons] at hlen
          obtain ⟨e, he, hiff⟩ := eqAt_int A.in1 ⟨hp, g, d, tk, os⟩ a t c u
          refine wpAny_bind (he prog w _ _ ?_)
          cases e with
          | true =>
            rw [if_pos (hiff.mp rfl)] at hR
            wp_walk
            exact ⟨rfl, rfl, _, _, _, _, hrest, hvi', hwi', by omega, hR⟩
          | false =>
            rw [if_neg (fun q => absurd (hiff.mpr q) Bool.false_ne_true)] at hR
            have hri := rcLt_int A.in1 ⟨hp, g, d, tk, os⟩ a t c u prog w
            wp_walk using hri
            exact ⟨_, rfl, by simpa using hR⟩
    case fin =>
      rintro ⟨b1, b2⟩ s' ⟨hb', rfl, vs, ws, ns', ms', hz, hvi, hwi, hlen, hR⟩
      simp only at hb'
      subst hb'
      have hv : lexLt ns' ms' = decide (items.size < items2.size) := by
        cases hvi with
        | nil =>
          cases hwi with
          | nil =>
            simp only [List.length_nil] at hlen
            rw [lexLt_nil_nil]
            exact (decide_eq_false (by omega)).symm
          | cons c u hw =>
            simp only [List.length_nil, List.length_cons] at hlen
            rw [lexLt_nil_cons]
            exact (decide_eq_true (by omega)).symm
        | cons a t hv =>
          cases hwi with
          | nil =>
            simp only [List.length_nil, List.length_cons] at hlen
            rw [lexLt_cons_nil]
            exact (decide_eq_false (by omega)).symm
          | cons c u hw =>
            rw [List.zip_cons_cons] at hz
            cases hz
      rw [hv] at hR
      wp_walk
      exact ⟨_, rfl, by simpa [Builtin.Tuple.tupleCompareSizes] using hR⟩
    case h =>
      exact ⟨rfl, rfl, items.toList, items2.toList, ns, ms, rfl, hi, hj, by omega, h⟩
end

section
variable {prog : Program} {w : World} {A : Around} {E : Value → Shared → Prop} {s : Shared}

theorem lt_tupInts {l b : Addr} {items items2 : Array Value} {ns ms : List Int} {Q : Value → Shared → Prop} (hl : IsTup s.heap l items) (hb : IsTup s.heap b items2) (hi : IntsAre items.toList ns) (hj : IntsAre items2.toList ms)
    (hu : A.units < cLine) (h : Q (.bool (lexLt ns ms)) s) : wpAny (model prog w) A (compareOp .Lt (.ref l) (.ref b)) Q E s := by
  obtain ⟨⟨cls, dd, data, sl⟩, ho, hc, n, hd⟩ := id hl
  obtain ⟨⟨cls2, dd2, data2, sl2⟩, ho2, hc2, n2, hd2⟩ := id hb
  simp only at hc hd hc2 hd2
  subst hc hd hc2 hd2
  exact richCompare_meets_room (op := .Lt) ⟨_, ho, rfl⟩ ⟨_, ho2, rfl⟩ PySem.F.slot_tuple_lt PySem.F.entry_tuple_lt (PySem.F.args_tuple_lt_2 _ _) (tuple_lt_ints l b items items2 n n2 dd dd2 sl sl2 ns ms hi hj)
    ⟨ho, ho2, show Value.bool (lexLt ns ms) ≠ Value.notImplemented ∧ Q (.bool (lexLt ns ms)) s from ⟨(fun x => nomatch x), h⟩⟩ hu

/-- t + u, t not empty -/
theorem cat_tup {t b : Addr} {vs ws : List Value} {Q : Value → Shared → Prop} (ht : IsTup s.heap t vs.toArray) (hb : IsTup s.heap b ws.toArray) (hv : vs ≠ [])
    (h1 : ws = [] → Q (.ref t) s) (h2 : ws ≠ [] → Q (.ref s.heap.objs.size) { s with heap := s.heap.push { cls := .type "tuple", data := .seq (vs ++ ws).toArray } })
    (hsz : vs.length + ws.length ≤ sizeLine) : wpAny (model prog w) A (binaryOp .Add (.ref t) (.ref b)) Q E s := by
  obtain ⟨⟨cls, dd, data, sl⟩, ho, hc, n, hd⟩ := id ht
  obtain ⟨⟨cls2, dd2, data2, sl2⟩, ho2, hc2, n2, hd2⟩ := id hb
  simp only at hc hd hc2 hd2
  subst hc hd hc2 hd2
  have e : vs.toArray ++ ws.toArray = (vs ++ ws).toArray := by simp
  by_cases hw : ws = []
  · exact concat_meets ⟨_, ho, rfl⟩ ⟨_, ho2, rfl⟩ noFill_tuple_add seq_tuple_add PySem.F.slot_tuple_add PySem.F.entry_tuple_add (PySem.F.args_tuple_add_2 _ _)
      (tuple_addW1 t b vs.toArray ws.toArray n n2 dd dd2 sl sl2 (by simpa using hv) (by simp [hw])) ⟨ho, ho2, h1 hw⟩
  · refine concat_meets ⟨_, ho, rfl⟩ ⟨_, ho2, rfl⟩ noFill_tuple_add seq_tuple_add PySem.F.slot_tuple_add PySem.F.entry_tuple_add (PySem.F.args_tuple_add_2 _ _)
      (tuple_addW2 t b vs.toArray ws.toArray n n2 dd dd2 sl sl2 (by simpa using hv) (by simpa using hw) (by rw [List.size_toArray, List.size_toArray]; exact hsz)) ⟨ho, ho2, ?_⟩
    rw [e]
    exact h2 hw

/-! ### t[a:b], not the whole -/
/-- a slice's bound as a place among n (d where it is left out) -/
def sIx (n d : Nat) : Option Int → Nat
  | none => d
  | some v => if v < 0 then (v + (n : Int)).toNat else min v.toNat n
theorem sIx_none (n d : Nat) : sIx n d none = d := rfl
theorem sIx_nat (n d k : Nat) : sIx n d (some (k : Int)) = min k n := by
  show (if (k : Int) < 0 then ((k : Int) + (n : Int)).toNat else min (k : Int).toNat n) = min k n
  rw [if_neg (by omega), Int.toNat_natCast]
theorem sIx_le (n d : Nat) (hd : d ≤ n) (o : Option Int) : sIx n d o ≤ n := by
  cases o with
  | none => exact hd
  | some v =>
    show (if v < 0 then (v + (n : Int)).toNat else min v.toNat n) ≤ n
    by_cases hv : v < 0
    · rw [if_pos hv]; omega
    · rw [if_neg hv]; exact Nat.min_le_right _ _
theorem clip_eq (v : Int) (n d : Nat) : (if v < 0 then max (v + (n : Int)) 0 else min v (n : Int)) = ((sIx n d (some v) : Nat) : Int) := by
  show (if v < 0 then max (v + (n : Int)) 0 else min v (n : Int)) = (((if v < 0 then (v + (n : Int)).toNat else min v.toNat n) : Nat) : Int)
  by_cases hv : v < 0
  · simp only [if_pos hv]; omega
  · simp only [if_neg hv]; omega
theorem adjust_gen (lo hi : Option Int) (n : Nat) : Builtin.Slice.sliceAdjust lo hi 1 (n : Int) = (((sIx n 0 lo : Nat) : Int), ((sIx n n hi : Nat) : Int)) := by
  have h1 : ¬ ((1 : Int) < 0) := by omega
  unfold Builtin.Slice.sliceAdjust
  simp only [h1, if_false]
  refine Prod.ext ?_ ?_
  · cases lo with
    | none => rfl
    | some v => exact clip_eq v n 0
  · cases hi with
    | none => rfl
    | some v => exact clip_eq v n n
theorem places_gen (i j : Nat) : Builtin.Slice.slicePlaces (i : Int) (j : Int) 1 = j - i := by
  unfold Builtin.Slice.slicePlaces
  have h1 : (1 : Int) > 0 := by omega
  simp only [h1, if_true, Int.ediv_one]
  split <;> omega
theorem slicePart_ {v : Value} {o : Option Int} {Q : Option Int → Shared → Prop} (p : IsPart v o) (h : Q o s) : wpAny (model prog w) A (Builtin.Slice.slicePartIndex v) Q E s := by
  cases p with
  | none => exact slicePart_none h
  | int i t => exact slicePart_int h
theorem sliceApplied_gen {sl : Addr} {vl vu : Value} {lo hi : Option Int} {n : Nat} {Q : Int × Int × Nat → Shared → Prop} (hs : s.heap.IsSliceOf sl vl vu .none) (pl : IsPart vl lo) (pu : IsPart vu hi)
    (h : Q (((sIx n 0 lo : Nat) : Int), 1, sIx n n hi - sIx n 0 lo) s) : wpAny (model prog w) A (Builtin.Slice.sliceApplied (.ref sl) (pure (n : Int))) Q E s := by
  obtain ⟨os, hos, hcs, hds⟩ := id hs
  unfold Builtin.Slice.sliceApplied Builtin.Slice.sliceFields
  refine wpAny_bind (wpAny_bind (wpAny_field hos hds (x := vl) rfl (wpAny_bind (wpAny_field hos hds (x := vu) rfl (wpAny_bind (wpAny_field hos hds (x := .none) rfl (wpAny_pure ?_)))))))
  refine wpAny_bind (slicePart_none ?_)
  show wpAny _ _ (if ((1 : Int) == 0) = true then _ else _) _ _ s
  rw [if_neg (by decide)]
  refine wpAny_bind (slicePart_ pl (wpAny_bind (slicePart_ pu (wpAny_bind (wpAny_pure ?_)))))
  show wpAny _ _ (match Builtin.Slice.sliceAdjust lo hi 1 (n : Int) with | (lo, hi) => pure (lo, (1 : Int), Builtin.Slice.slicePlaces lo hi 1)) _ _ s
  rw [adjust_gen lo hi n]
  show wpAny _ _ (pure (((sIx n 0 lo : Nat) : Int), (1 : Int), Builtin.Slice.slicePlaces ((sIx n 0 lo : Nat) : Int) ((sIx n n hi : Nat) : Int) 1)) _ _ s
  rw [places_gen]
  exact wpAny_pure h
theorem pick_gen (xs : Array Value) (i k : Nat) : ((List.range k).filterMap fun (m : Nat) => xs[((i : Int) + (m : Int) * 1).toNat]?).toArray = ((xs.toList.drop i).take k).toArray := by
  have e : (fun (m : Nat) => xs[((i : Int) + (m : Int) * 1).toNat]?) = fun m => xs[i + m]? := by
    funext m
    have : ((i : Int) + (m : Int) * 1).toNat = i + m := by omega
    rw [this]
  rw [e]
  have := pick_run xs i k
  rw [List.filterMap_map] at this
  have e2 : ((fun x => xs[x]?) ∘ fun x => i + x) = fun m => xs[i + m]? := rfl
  rw [e2] at this
  rw [this]

theorem getItem_tuple_cut {t sl : Addr} {items : Array Value} {vl vu : Value} {lo hi : Option Int} {Q : Value → Shared → Prop} (ht : IsTup s.heap t items) (hs : s.heap.IsSliceOf sl vl vu .none) (pl : IsPart vl lo) (pu : IsPart vu hi)
    (hw : ¬ (sIx items.size 0 lo = 0 ∧ sIx items.size items.size hi = items.size))
    (h : Q (.ref s.heap.objs.size) { s with heap := s.heap.push { cls := .type "tuple", data := .seq ((items.toList.drop (sIx items.size 0 lo)).take (sIx items.size items.size hi - sIx items.size 0 lo)).toArray } })
    (hsz : items.size ≤ sizeLine) : wpAny (model prog w) A (getItem (.ref t) (.ref sl)) Q E s := by
  have htake : sizeOk (.seq ((items.toList.drop (sIx items.size 0 lo)).take (sIx items.size items.size hi - sIx items.size 0 lo)).toArray) := by
    show ((items.toList.drop (sIx items.size 0 lo)).take (sIx items.size items.size hi - sIx items.size 0 lo)).toArray.size ≤ sizeLine
    rw [List.size_toArray, List.length_take, List.length_drop, Array.length_toList]
    omega
  have hj : sIx items.size items.size hi ≤ items.size := sIx_le _ _ (Nat.le_refl _) hi
  obtain ⟨os, hos, hcs, hds⟩ := id hs
  have hTs : s.TypeIs (.ref sl) "slice" := ⟨os, hos, hcs⟩
  unfold getItem
  try with_reducible refine wpAny_holding ?_
  first | refine wpAny_bind (wpAny_pure ?_) | skip
  refine wpAny_bind (wpAny_sequenceKey ht.typeIs (by decide) ?_)
  refine wpAny_bind (wpAny_callSpecial?_slot (name := Str.ofString "__getitem__") ht.typeIs PyProof.Rows.slot_tuple_getitem
    (wpAny_call_entry PyProof.Rows.slot_tuple_getitem ht.typeIs entry_tuple_getitem ?_ (args_tuple_getitem _ _)))
  show wpAny _ _ (Builtin.Tuple.tupleItemsOf (.ref t) >>= _) _ _ s
  refine wpAny_bind (tupleItemsOf_ ht ?_)
  refine wpAny_bind (wpAny_typeOf hTs ?_)
  rw [if_pos (by decide)]
  refine wpAny_bind (sliceApplied_gen hs pl pu ?_)
  have hno : ¬ ((((sIx items.size 0 lo : Nat) : Int) == 0 && (1 : Int) == 1 && (sIx items.size items.size hi - sIx items.size 0 lo) == items.size) = true) := by
    intro q
    rw [Bool.and_eq_true, Bool.and_eq_true] at q
    have q1 : ((sIx items.size 0 lo : Nat) : Int) = 0 := eq_of_beq q.1.1
    have q2 : sIx items.size items.size hi - sIx items.size 0 lo = items.size := eq_of_beq q.2
    exact hw ⟨by omega, by omega⟩
  show wpAny _ _ (if (((sIx items.size 0 lo : Nat) : Int) == 0 && (1 : Int) == 1 && (sIx items.size items.size hi - sIx items.size 0 lo) == items.size) = true then _ else _) _ _ s
  rw [if_neg hno, pick_gen]
  first
    | exact wpAny_bind (m := Builtin.Tuple.tupleExact _) (wpAny_newObj_type (wpAny_pure ⟨_, rfl, wpAny_pure h⟩) htake)
    | exact wpAny_bind (m := Builtin.Tuple.tupleExact _) (wpAny_newObj_type (wpAny_bind (wpAny_pure (wpAny_pure ⟨_, rfl, wpAny_pure h⟩))) htake)
    | exact wpAny_bind (wpAny_bind (m := Builtin.Tuple.tupleExact _) (wpAny_newObj_type (wpAny_pure (wpAny_pure ⟨_, rfl, wpAny_pure h⟩)) htake))
    | exact wpAny_bind (wpAny_bind (m := Builtin.Tuple.tupleExact _) (wpAny_newObj_type (wpAny_pure ⟨_, rfl, wpAny_pure h⟩) htake))
end
end HT

namespace L2
open PySem PySem.Spec PyProof.Rows

/-! ### the parts of a slice -/
abbrev TO := St → Hp → (Option Int → Hp → Prop) → Prop
/-- a slice's part (left out, or an int) -/
def PO (X : Cx) (e : Option Expr) (t : TO) : Prop :=
  ∀ (pins : List (Addr × Obj)) (s : Shared) (σ : St) (H : Hp) (Q : Option Int → Hp → Prop), Inv X pins σ H s → t σ H Q →
    wpAny (model X.prog X.w) X.A (evalPart e X.env) (fun u s' => ∃ o H', Inv X pins σ H' s' ∧ IsPart u o ∧ Q o H') X.xe s
def tNoPart : TO := fun _ H Q => Q none H
def tPart (t : TE) : TO := fun σ H Q => t σ H fun x H1 => ∃ i, x = .int i ∧ Q (some i) H1

theorem intsAre_of {ns : List Int} : ∀ {us : List Value}, Vals (ns.map V.int) us → IntsAre us ns := by
  induction ns with
  | nil => intro us r; rw [List.map_nil] at r; cases r; exact .nil
  | cons n ns ih =>
    intro us r
    rw [List.map_cons] at r
    cases r with
    | cons r1 r2 =>
      obtain ⟨t, e⟩ := r1
      subst e
      exact .cons n t (ih r2)

section
variable {X : Cx} {e : Expr} {te : TE} {lo hi : Option Expr} {tl th : TO} {pos p2 : Pos}

theorem po_none : PO X none tNoPart := by
  intro pins s σ H Q I h
  rw [evalPart_none]
  exact wpAny_pure ⟨none, H, I, .none, h⟩
theorem po_some (h : PE X e te) : PO X (some e) (tPart te) := by
  intro pins s σ H Q I hw
  rw [evalPart_some]
  refine thn (h pins s σ H _ I hw) fun u s1 ⟨x, H1, I1, r1, q1⟩ => ?_
  obtain ⟨i, rfl, q⟩ := q1
  obtain ⟨t, rfl⟩ := r1
  exact ⟨some i, H1, I1, .int i t, q⟩

/-- what a slice of a value is, by values: the slice object stands at sl -/
def SlR (X : Cx) (r : V → Option Int → Option Int → Hp → VK → Prop) : Prop :=
  ∀ (pins : List (Addr × Obj)) (s : Shared) (σ : St) (H : Hp) (x : V) (v vl vu : Value) (lo hi : Option Int) (sl : Addr) (Q : VK), Inv X pins σ H s → RelV x v → s.heap.IsSliceOf sl vl vu .none → IsPart vl lo → IsPart vu hi → r x lo hi H Q →
    ∃ T id, typeLookup (.type T) "__getitem__" = pure (some (.builtin id)) ∧ s.TypeIs v T ∧ wpAny (model X.prog X.w) X.A (getItem v (.ref sl)) (EP X pins σ Q) X.xe s
theorem SlR.or {r r' : V → Option Int → Option Int → Hp → VK → Prop} (h : SlR X r) (h' : SlR X r') : SlR X (fun x lo hi H Q => r x lo hi H Q ∨ r' x lo hi H Q) := by
  intro pins s σ H x v vl vu lo hi sl Q I rx hs pl pu q
  rcases q with q | q
  · exact h pins s σ H x v vl vu lo hi sl Q I rx hs pl pu q
  · exact h' pins s σ H x v vl vu lo hi sl Q I rx hs pl pu q
def tSl (r : V → Option Int → Option Int → Hp → VK → Prop) (te : TE) (tl th : TO) : TE := fun σ H Q => te σ H fun x H1 => tl σ H1 fun l H2 => th σ H2 fun u H3 => r x l u H3 Q
/-- a[lo:hi], any a -/
theorem pe_slice {r : V → Option Int → Option Int → Hp → VK → Prop} (hr : SlR X r) (he : PE X e te) (hl : PO X lo tl) (hu : PO X hi th) : PE X (.Subscript e (.Slice lo hi none p2) pos) (tSl r te tl th) := by
  intro pins s σ H Q I h
  refine Subscript_ (thn (he pins s σ H _ I h) fun v s1 ⟨x, H1, I1, r1, q1⟩ => ?_)
  refine wpAny_Slice (thn (hl pins s1 σ H1 _ I1 q1) fun vl s2 ⟨l, H2, I2, pl, q2⟩ => thn (hu pins s2 σ H2 _ I2 q2) fun vu s3 ⟨u, H3, I3, pu, q3⟩ => ?_)
  rw [evalPart_none]
  refine wpAny_pure ?_
  have I4 : Inv X pins σ H3 { s3 with heap := s3.heap.push { cls := .type "slice", data := .fields #[vl, vu, .none] } } := I3.kept (t' := s3.toks) fun b ob q => Heap.get?_push_of_some _ q
  obtain ⟨T, id, hT, ht, hg⟩ := hr pins { s3 with heap := s3.heap.push { cls := .type "slice", data := .fields #[vl, vu, .none] } } σ H3 x v vl vu l u s3.heap.objs.size Q I4 r1 (Heap.IsSliceOf.new ..) pl pu q3
  show wpAny (model X.prog X.w) X.A (subscriptTail e (.Slice lo hi none p2) v (.ref s3.heap.objs.size)) (EP X pins σ Q) X.xe { s3 with heap := s3.heap.push { cls := .type "slice", data := .fields #[vl, vu, .none] } }
  exact tail_any (ops := [.ref s3.heap.objs.size, v]) ht hT hg (by with_unfolding_all rfl)

/-- the items of xs[lo:hi] -/
def cutV (xs : List V) (lo hi : Option Int) : List V := (xs.drop (HT.sIx xs.length 0 lo)).take (HT.sIx xs.length xs.length hi - HT.sIx xs.length 0 lo)
theorem cutV_length (xs : List V) (lo hi : Option Int) : (cutV xs lo hi).length ≤ xs.length := by
  unfold cutV
  rw [List.length_take, List.length_drop]
  omega
/-- t[lo:hi], not the whole of it (the whole would be t itself) -/
def rSlT (K : PySem.W.Frag) : V → Option Int → Option Int → Hp → VK → Prop := fun x lo hi H Q => ∃ a xs, x = .ref a ∧ SqT K H a xs ∧
  ¬ (HT.sIx xs.length 0 lo = 0 ∧ HT.sIx xs.length xs.length hi = xs.length) ∧ ∀ p, H p = none → Q (.ref p) (upd H p (.tup (cutV xs lo hi)))
theorem sl_tup : SlR X (rSlT X.K) := by
  intro pins s σ H x v vl vu lo hi sl Q I rx hs pl pu h
  obtain ⟨a, xs, rfl, hx, hw, q⟩ := h
  cases rx
  obtain ⟨its, r, ht, hz⟩ := I.tuple hx
  have hlen : its.toArray.size = xs.length := by rw [List.size_toArray]; exact r.length.symm
  refine ⟨"tuple", _, PyProof.Rows.slot_tuple_getitem.lookup, ht.typeIs, ?_⟩
  refine HT.getItem_tuple_cut ht hs pl pu (by rw [hlen]; exact hw) ?_ (by rw [hlen]; exact hz)
  rw [hlen]
  refine ⟨.ref s.heap.objs.size, _, I.laid (t' := s.toks) (o := .tup (cutV xs lo hi)) (fun b ob q => Heap.get?_push_of_some _ q) (Nat.le_refl _) ?_, rfl, q _ (I.hok.fresh (Nat.le_refl _))⟩
  exact ⟨Nat.le_trans (cutV_length xs lo hi) hz, _, (r.drop (HT.sIx xs.length 0 lo)).take (HT.sIx xs.length xs.length hi - HT.sIx xs.length 0 lo), IsTup.new _ _⟩

/-! ### t < u, t + u -/
def rLtT (K : PySem.W.Frag) : R2 := fun x y H Q => ∃ a b ns ms, x = .ref a ∧ y = .ref b ∧ SqT K H a (ns.map V.int) ∧ SqT K H b (ms.map V.int) ∧ Q (.bl (HT.lexLt ns ms)) H
theorem op_ltT (hu : X.A.units < cLine) : OpR X (compareOp .Lt) (rLtT X.K) := by
  intro pins s σ H x y v u Q I rx ry h
  obtain ⟨a, b, ns, ms, rfl, rfl, ha, hb, q⟩ := h
  cases rx
  cases ry
  obtain ⟨its, r1, p1, _⟩ := I.tuple ha
  obtain ⟨its2, r2, p2, _⟩ := I.tuple hb
  have i1 : IntsAre its.toArray.toList ns := intsAre_of r1
  have i2 : IntsAre its2.toArray.toList ms := intsAre_of r2
  exact HT.lt_tupInts p1 p2 i1 i2 hu ⟨.bl (HT.lexLt ns ms), H, I, rfl, q⟩
/-- t + u, t not empty: u empty gives t itself -/
def rCatT (K : PySem.W.Frag) : R2 := fun x y H Q => ∃ a b xs ys, x = .ref a ∧ y = .ref b ∧ SqT K H a xs ∧ SqT K H b ys ∧ xs ≠ [] ∧ xs.length + ys.length ≤ sizeLine ∧
  (ys = [] → Q (.ref a) H) ∧ (ys ≠ [] → ∀ p, H p = none → Q (.ref p) (upd H p (.tup (xs ++ ys))))
theorem Vals.nil_iff {xs : List V} {us : List Value} (r : Vals xs us) : us = [] ↔ xs = [] := by
  cases r with
  | nil => simp
  | cons _ _ => simp
theorem op_catT : OpR X (binaryOp .Add) (rCatT X.K) := by
  intro pins s σ H x y v u Q I rx ry h
  obtain ⟨a, b, xs, ys, rfl, rfl, ha, hb, hx, hz, q1, q2⟩ := h
  cases rx
  cases ry
  obtain ⟨its, r1, p1, _⟩ := I.tuple ha
  obtain ⟨its2, r2, p2, _⟩ := I.tuple hb
  refine HT.cat_tup p1 p2 (fun z => hx (r1.nil_iff.mp z)) (fun z => ⟨.ref a, H, I, rfl, q1 (r2.nil_iff.mp z)⟩) (fun z => ?_) (by rw [← r1.length, ← r2.length]; exact hz)
  refine ⟨.ref s.heap.objs.size, _, I.laid (t' := s.toks) (o := .tup (xs ++ ys)) (fun b ob q => Heap.get?_push_of_some _ q) (Nat.le_refl _) ?_, rfl, q2 (fun w => z (r2.nil_iff.mpr w)) _ (I.hok.fresh (Nat.le_refl _))⟩
  exact ⟨by rw [List.length_append]; exact hz, _, r1.append r2, IsTup.new _ _⟩
/-- tuple(t) -/
theorem call_tupleT : CallR X (.type "tuple") (fun xs H Q => ∃ a ys, xs = [.ref a] ∧ SqT X.K H a ys ∧ Q (.ref a) H) := by
  intro pins s σ H xs us Q I r h
  obtain ⟨a, ys, rfl, ha, q⟩ := h
  obtain ⟨u, rfl, ru⟩ := vals1 r
  cases ru
  obtain ⟨its, _, p1, _⟩ := I.tuple ha
  exact call_tuple_same (items := its.toArray) p1 ⟨.ref a, H, I, rfl, q⟩
end
end L2

namespace L2
open PySem PySem.Spec PyProof.Rows

/-! ### places -/
/-- the place that an index of any sign means -/
def ixN (n : Nat) (i : Int) : Option Nat := if 0 ≤ i then (if i < n then some i.toNat else none) else if -(n : Int) ≤ i then some (i + n).toNat else none
def atI {α : Type} (xs : List α) (i : Int) : Option α := (ixN xs.length i).bind fun j => xs[j]?
theorem ixN_seq {n : Nat} {i : Int} {j : Nat} (h : ixN n i = some j) : seqIndex? i n = some j ∧ j < n ∧ -(n : Int) ≤ i ∧ i < n := by
  unfold ixN at h
  by_cases h0 : 0 ≤ i
  · rw [if_pos h0] at h
    by_cases h1 : i < n
    · rw [if_pos h1] at h
      have e : i.toNat = j := Option.some.inj h
      exact ⟨by rw [seqIndex_of h0 h1, e], by omega, by omega, h1⟩
    · rw [if_neg h1] at h; cases h
  · rw [if_neg h0] at h
    by_cases h1 : -(n : Int) ≤ i
    · rw [if_pos h1] at h
      have e : (i + n).toNat = j := Option.some.inj h
      exact ⟨by rw [seqIndex_neg (by omega) h1, e], by omega, h1, by omega⟩
    · rw [if_neg h1] at h; cases h
theorem atI_get {α : Type} {xs : List α} {i : Int} {v : α} (h : atI xs i = some v) : ∃ j, seqIndex? i xs.length = some j ∧ xs[j]? = some v ∧ j < xs.length ∧ -(xs.length : Int) ≤ i ∧ i < xs.length := by
  unfold atI at h
  cases e : ixN xs.length i with
  | none => rw [e] at h; cases h
  | some j =>
    rw [e] at h
    obtain ⟨h1, h2, h3, h4⟩ := ixN_seq e
    exact ⟨j, h1, h, h2, h3, h4⟩
theorem atI_nat {α : Type} {xs : List α} {j : Nat} {v : α} (h : xs[j]? = some v) : atI xs (j : Int) = some v := by
  have hj : j < xs.length := (List.getElem?_eq_some_iff.mp h).1
  have e : ixN xs.length (j : Int) = some j := by
    unfold ixN
    rw [if_pos (by omega), if_pos (by omega)]; simp
  unfold atI; rw [e]; exact h
theorem atI_last {α : Type} (xs : List α) (v : α) : atI (xs ++ [v]) (-1) = some v := by
  have hl : (xs ++ [v]).length = xs.length + 1 := by simp
  have e : ixN (xs ++ [v]).length (-1) = some xs.length := by
    unfold ixN
    rw [hl, if_neg (by decide), if_pos (by omega)]
    congr 1
    omega
  unfold atI
  rw [e]
  show (xs ++ [v])[xs.length]? = some v
  simp

/-! ### what may be subscripted -/
/-- what stands as an index of a plain subscript -/
def PlainIx (b : Expr) : Prop := ∀ o i, subscripted b false o i = operate [o, i] (getItem o i)
/-- a subscript by values -/
def IxR (X : Cx) (r : R2) : Prop :=
  ∀ (value slice : Expr) (pins : List (Addr × Obj)) (s : Shared) (σ : St) (H : Hp) (x y : V) (v u : Value) (Q : VK), Inv X pins σ H s → RelV x v → RelV y u → r x y H Q →
    subscripted slice false v u = operate [v, u] (getItem v u) → wpAny (model X.prog X.w) X.A (subscriptTail value slice v u) (EP X pins σ Q) X.xe s
/-- a call of a builtin's method by values: the receiver, the arguments -/
def MtR (X : Cx) (id : String) (r : V → List V → Hp → VK → Prop) : Prop :=
  ∀ (pins : List (Addr × Obj)) (s : Shared) (σ : St) (H : Hp) (x : V) (xs : List V) (v : Value) (us : List Value) (Q : VK), Inv X pins σ H s → RelV x v → Vals xs us → r x xs H Q →
    wpAny (model X.prog X.w) X.A (call (.builtin id) (v :: us)) (EP X pins σ Q) X.xe s
section
variable {X : Cx} {a b : Expr} {ta tb : TE} {pos : Pos}
theorem IxR.or {r r' : R2} (h : IxR X r) (h' : IxR X r') : IxR X (fun x y H Q => r x y H Q ∨ r' x y H Q) := by
  intro value slice pins s σ H x y v u Q I rx ry q hs
  rcases q with q | q
  · exact h value slice pins s σ H x y v u Q I rx ry q hs
  · exact h' value slice pins s σ H x y v u Q I rx ry q hs
theorem MtR.or {id : String} {r r' : V → List V → Hp → VK → Prop} (h : MtR X id r) (h' : MtR X id r') : MtR X id (fun x xs H Q => r x xs H Q ∨ r' x xs H Q) := by
  intro pins s σ H x xs v us Q I rx rs q
  rcases q with q | q
  · exact h pins s σ H x xs v us Q I rx rs q
  · exact h' pins s σ H x xs v us Q I rx rs q
/-- a[b] -/
theorem pe_ix {r : R2} (hr : IxR X r) (ha : PE X a ta) (hb : PE X b tb) (hs : PlainIx b) : PE X (.Subscript a b pos) (tOp r ta tb) := by
  intro pins s σ H Q I h
  exact Subscript_ (binT ha hb I h fun v u s2 x y H2 I2 rx ry q => hr a b pins s2 σ H2 x y v u Q I2 rx ry q (hs _ _))

def rIxL (K : PySem.W.Frag) : R2 := fun x y H Q => ∃ p xs i v, x = .ref p ∧ y = .int i ∧ SqL K H p xs ∧ atI xs i = some v ∧ Q v H
def rIxT (K : PySem.W.Frag) : R2 := fun x y H Q => ∃ p xs i v, x = .ref p ∧ y = .int i ∧ SqT K H p xs ∧ atI xs i = some v ∧ Q v H
def rIxS : R2 := fun x y H Q => ∃ z i c, x = .str z ∧ y = .int i ∧ z.length ≤ sizeLine ∧ atI z.cps.toList i = some c ∧ Q (.str ⟨#[c]⟩) H
theorem ix_list : IxR X (rIxL X.K) := by
  intro value slice pins s σ H x y v u Q I rx ry h hs
  obtain ⟨p, xs, i, z, rfl, rfl, hq, he, q⟩ := h
  cases rx
  obtain ⟨t, rfl⟩ := ry
  obtain ⟨its, r, pl, hz⟩ := I.list hq
  obtain ⟨j, h1, h2, h3, h4, h5⟩ := atI_get he
  obtain ⟨w, ew, rw'⟩ := r.get h2
  have hl := r.length
  have hn := line63
  have fin : EP X pins σ Q w s := ⟨z, H, I, rw', q⟩
  by_cases h0 : 0 ≤ i
  · have hj : i.toNat = j := by
      rw [seqIndex_of h0 h5] at h1
      exact Option.some.inj h1
    exact item_listR pl.isList h0 (by omega) (by rw [hj]; simpa using ew) fin hs
  · have hj : (i + (its.toArray.size : Int)).toNat = j := by
      rw [seqIndex_neg (by omega) h4] at h1
      rw [List.size_toArray, ← hl]
      exact Option.some.inj h1
    exact subscriptTail_builtinR (x := w) pl.isList.typeIs slot_list_getitem.lookup
      (wpAny_getItem_list_neg (Q := fun r s' => r = w ∧ EP X pins σ Q r s') pl.isList (by omega) (by rw [List.size_toArray] <;> omega) (by omega) (by rw [hj]; simpa using ew) ⟨rfl, fin⟩) hs
theorem ix_tup : IxR X (rIxT X.K) := by
  intro value slice pins s σ H x y v u Q I rx ry h hs
  obtain ⟨p, xs, i, z, rfl, rfl, hq, he, q⟩ := h
  cases rx
  obtain ⟨t, rfl⟩ := ry
  obtain ⟨its, r, pl, hz⟩ := I.tuple hq
  obtain ⟨j, h1, h2, h3, h4, h5⟩ := atI_get he
  obtain ⟨w, ew, rw'⟩ := r.get h2
  have hl := r.length
  have hn := line63
  have fin : EP X pins σ Q w s := ⟨z, H, I, rw', q⟩
  exact subscriptTail_builtinR (x := w) pl.typeIs slot_tuple_getitem.lookup
    (getItem_tuple (j := j) (Q := fun r s' => r = w ∧ EP X pins σ Q r s') pl (by omega) (by omega) (by rw [List.size_toArray, ← hl]; exact h1) (by simpa using ew) ⟨rfl, fin⟩) hs
theorem ix_str : IxR X rIxS := by
  intro value slice pins s σ H x y v u Q I rx ry h hs
  obtain ⟨z, i, c, rfl, rfl, hz, he, q⟩ := h
  obtain ⟨t, rfl⟩ := rx
  obtain ⟨t', rfl⟩ := ry
  obtain ⟨j, h1, h2, h3, h4, h5⟩ := atI_get he
  have hl : z.cps.toList.length = z.length := by simp [Str.length]
  rw [hl] at h1 h4 h5
  have hn := line63
  exact tail_any (typeIs_str s z t) slot_str_getitem.lookup (getItem_str (c := c) (by
    have e1 : decide (i < -(2 ^ 63 : Int)) = false := decide_eq_false (by omega)
    have e2 : decide (i ≥ 2 ^ 63) = false := decide_eq_false (by omega)
    rw [e1, e2, Bool.or_false]) (by rw [h1]; simpa using h2) ⟨.str ⟨#[c]⟩, H, I.tok _, ⟨_, rfl⟩, q⟩) hs
/-- list, tuple or str -/
def rIx (K : PySem.W.Frag) : R2 := fun x y H Q => rIxL K x y H Q ∨ rIxT K x y H Q ∨ rIxS x y H Q
theorem ix_seq : IxR X (rIx X.K) := ix_list.or (ix_tup.or ix_str)

/-! ### xs[i] = v, any sign -/
/-- the list's object behind a store -/
theorem mapSeq_set (its : List Value) (n j : Nat) (u : Value) : Obj.mapSeq (·.setIfInBounds j u) { cls := .type "list", data := .seq its.toArray n } = { cls := .type "list", data := .seq (its.set j u).toArray n } := by
  simp [Obj.mapSeq]
theorem Inv.lst {pins : List (Addr × Obj)} {σ : St} {H : Hp} {s : Shared} {p : Addr} {xs : List V} (I : Inv X pins σ H s) (h : H p = some (.lst xs)) :
    ∃ (its : List Value) (n : Nat), Vals xs its ∧ s.heap.get? p = some { cls := .type "list", data := .seq its.toArray n } ∧ xs.length ≤ sizeLine := by
  obtain ⟨z, its, n, r, e⟩ := I.hok p _ h
  exact ⟨its, n, r, e, z⟩
/-- the list at p is written by an update of its object -/
theorem Inv.lstUpd {pins : List (Addr × Obj)} {σ : St} {H : Hp} {s : Shared} {p : Addr} {xs ys : List V} {its its' : List Value} {n n' : Nat} {f : Obj → Obj} (I : Inv X pins σ H s) (h : H p = some (.lst xs))
    (ho : s.heap.get? p = some { cls := .type "list", data := .seq its.toArray n }) (hf : f { cls := .type "list", data := .seq its.toArray n } = { cls := .type "list", data := .seq its'.toArray n' }) (r : Vals ys its') (hz : ys.length ≤ sizeLine) (t : Nat) :
    Inv X pins σ (upd H p (.lst ys)) { s with heap := s.heap.update p f, toks := t } := by
  have e : (s.heap.update p f).get? p = some { cls := .type "list", data := .seq its'.toArray n' } := by
    rw [Heap.get?_update_self f ho (by rw [hf] <;> rfl), hf]
  refine I.write (x := p) (e := p) (by rw [h]; trivial) (.inl rfl) (fun b u hb q => (Heap.get?_update_other _ _ (Ne.symm hb)).trans q) ⟨_, e⟩ ?_
  exact ⟨hz, its', n', r, e⟩
def rSetL : V → V → V → Hp → (Hp → Prop) → Prop := fun o i v H Q => ∃ p xs k j, o = .ref p ∧ i = .int k ∧ H p = some (.lst xs) ∧ ixN xs.length k = some j ∧ Q (upd H p (.lst (xs.set j v)))
theorem set_list : PSet X rSetL := by
  intro pins s σ H o i v ov iv u Q I ro ri rv h
  obtain ⟨p, xs, k, j, rfl, rfl, hp, hj, q⟩ := h
  cases ro
  obtain ⟨t, rfl⟩ := ri
  obtain ⟨its, n, r, ho, hz⟩ := I.lst hp
  obtain ⟨h1, h2, h3, h4⟩ := ixN_seq hj
  have hl := r.length
  have hn := line63
  have I' : Inv X pins σ (upd H p (.lst (xs.set j v))) { s with heap := s.heap.update p (Obj.mapSeq (·.setIfInBounds j u)) } :=
    I.lstUpd hp ho (mapSeq_set its n j u) (r.set rv j) (by rw [List.length_set]; exact hz) s.toks
  by_cases h0 : 0 ≤ k
  · have hk : k.toNat = j := by
      rw [seqIndex_of h0 h4] at h1
      exact Option.some.inj h1
    exact PySem.W.ki_setAt ho h0 (by omega) (by rw [List.size_toArray, ← hl]; exact h4) (by rw [hk]; exact ⟨_, I', q⟩)
  · have hk : (k + (its.toArray.size : Int)).toNat = j := by
      rw [seqIndex_neg (by omega) h3] at h1
      rw [List.size_toArray, ← hl]
      exact Option.some.inj h1
    exact PySem.W.ki_setBack ho (by omega) (by rw [List.size_toArray, ← hl]; exact h3) (by omega) (by rw [hk]; exact ⟨_, I', q⟩)

/-! ### slices -/
theorem slice_bounds (lo hi : Option Int) (n : Nat) : (sliceBounds lo hi none n).1 = ((HT.sIx n 0 lo : Nat) : Int) ∧ (sliceBounds lo hi none n).2.1 = ((HT.sIx n n hi : Nat) : Int) ∧ (sliceBounds lo hi none n).2.2 = 1 := by
  refine ⟨?_, ?_, rfl⟩
  · cases lo with
    | none => simp [sliceBounds, HT.sIx]
    | some i =>
      simp only [sliceBounds, HT.sIx, Option.getD_none, show (1 : Int) > 0 by decide, if_true]
      by_cases h : i < 0
      · simp only [h, if_true] <;> omega
      · simp only [h, if_false] <;> omega
  · cases hi with
    | none => simp [sliceBounds, HT.sIx]
    | some i =>
      simp only [sliceBounds, HT.sIx, Option.getD_none, show (1 : Int) > 0 by decide, if_true]
      by_cases h : i < 0
      · simp only [h, if_true] <;> omega
      · simp only [h, if_false] <;> omega
theorem slicePick_cut (its : List Value) (lo hi : Option Int) : slicePick its.toArray lo hi none = ((its.drop (HT.sIx its.length 0 lo)).take (HT.sIx its.length its.length hi - HT.sIx its.length 0 lo)).toArray := by
  obtain ⟨h1, h2, h3⟩ := slice_bounds lo hi its.toArray.size
  unfold slicePick
  rw [h1, h2, h3]
  simp only [sliceRange_one, pick_run, List.size_toArray] <;> rfl
/-- xs[lo:hi] of a list: a new list -/
def rSlL (K : PySem.W.Frag) : V → Option Int → Option Int → Hp → VK → Prop := fun x lo hi H Q => ∃ a xs, x = .ref a ∧ SqL K H a xs ∧ ∀ p, H p = none → Q (.ref p) (upd H p (.lst (cutV xs lo hi)))
theorem sl_list : SlR X (rSlL X.K) := by
  intro pins s σ H x v vl vu lo hi sl Q I rx hs pl pu h
  obtain ⟨a, xs, rfl, hx, q⟩ := h
  cases rx
  obtain ⟨its, r, ht, hz⟩ := I.list hx
  have hlen := r.length
  refine ⟨"list", _, slot_list_getitem.lookup, ht.isList.typeIs, ?_⟩
  refine wpAny_getItem_list_slice ht.isList hs pl pu .none (by simp) ?_ (by rw [List.size_toArray] <;> omega)
  rw [slicePick_cut, ← hlen]
  refine ⟨.ref s.heap.objs.size, _, I.laid (t' := s.toks) (o := .lst (cutV xs lo hi)) (fun b ob q => Heap.get?_push_of_some _ q) (Nat.le_refl _) ?_, rfl, q _ (I.hok.fresh (Nat.le_refl _))⟩
  exact ⟨Nat.le_trans (cutV_length xs lo hi) hz, _, 0, (r.drop (HT.sIx xs.length 0 lo)).take (HT.sIx xs.length xs.length hi - HT.sIx xs.length 0 lo), Heap.get?_push_size _ rfl⟩

/-! ### in, not in: flat items -/
def flatV : V → Bool
  | .non => true
  | .bl _ => true
  | .int _ => true
  | .str _ => true
  | _ => false
/-- == of flat values -/
def eqV : V → V → Bool
  | .non, .non => true
  | .bl a, .bl b => a == b
  | .bl a, .int b => (if a then 1 else 0) == b
  | .int a, .bl b => a == (if b then 1 else 0)
  | .int a, .int b => a == b
  | .str a, .str b => a == b
  | _, _ => false
theorem eqAt_V {A : Around} {s : Shared} {y x : V} {u v : Value} (ry : RelV y u) (rx : RelV x v) (fy : flatV y = true) (fx : flatV x = true) : SeqAt.EqAt A s u v (eqV y x) := by
  cases y with
  | non =>
    cases ry
    cases x with
    | non => cases rx; exact SeqAt.EqAt.same _
    | bl b => cases rx; exact SeqAt.EqAt.none_bool b
    | int b => obtain ⟨t, rfl⟩ := rx; exact SeqAt.EqAt.none_int b t
    | str b => obtain ⟨t, rfl⟩ := rx; exact SeqAt.EqAt.none_str b t
    | _ => exact absurd (show false = true from fx) Bool.false_ne_true
  | bl a =>
    cases ry
    cases x with
    | non => cases rx; exact SeqAt.EqAt.bool_none a
    | bl b => cases rx; exact SeqAt.EqAt.bool_bool a b
    | int b => obtain ⟨t, rfl⟩ := rx; exact SeqAt.EqAt.bool_int a b t
    | str b => obtain ⟨t, rfl⟩ := rx; exact SeqAt.EqAt.bool_str a b t
    | _ => exact absurd (show false = true from fx) Bool.false_ne_true
  | int a =>
    obtain ⟨t', rfl⟩ := ry
    cases x with
    | non => cases rx; exact SeqAt.EqAt.int_none a t'
    | bl b => cases rx; exact SeqAt.EqAt.int_bool a t' b
    | int b => obtain ⟨t, rfl⟩ := rx; exact SeqAt.EqAt.int_int a t' b t
    | str b => obtain ⟨t, rfl⟩ := rx; exact SeqAt.EqAt.int_str a t' b t
    | _ => exact absurd (show false = true from fx) Bool.false_ne_true
  | str a =>
    obtain ⟨t', rfl⟩ := ry
    cases x with
    | non => cases rx; exact SeqAt.EqAt.str_none a t'
    | bl b => cases rx; exact SeqAt.EqAt.str_bool a t' b
    | int b => obtain ⟨t, rfl⟩ := rx; exact SeqAt.EqAt.str_int a t' b t
    | str b => obtain ⟨t, rfl⟩ := rx; exact SeqAt.EqAt.str_str a t' b t
    | _ => exact absurd (show false = true from fx) Bool.false_ne_true
  | _ => exact absurd (show false = true from fy) Bool.false_ne_true
/-- the items' answers, read off the values (a value's own answer does not lean on its token) -/
def eqU (x : V) (u : Value) : Bool := match u with
  | .none => eqV .non x
  | .bool b => eqV (.bl b) x
  | .int i _ => eqV (.int i) x
  | .str z _ => eqV (.str z) x
  | _ => false
theorem eqU_of {x y : V} {u : Value} (r : RelV y u) (f : flatV y = true) : eqU x u = eqV y x := by
  cases y with
  | non => cases r; rfl
  | bl b => cases r; rfl
  | int i => obtain ⟨t, rfl⟩ := r; rfl
  | str z => obtain ⟨t, rfl⟩ := r; rfl
  | _ => exact absurd (show false = true from f) Bool.false_ne_true
theorem any_eqU {x : V} : ∀ {xs : List V} {us : List Value}, Vals xs us → xs.all flatV = true → us.any (eqU x) = xs.any fun y => eqV y x
  | _, _, .nil, _ => rfl
  | y :: xs, u :: us, .cons r t, f => by
    rw [List.all_cons, Bool.and_eq_true] at f
    rw [List.any_cons, List.any_cons, eqU_of r f.1, any_eqU t f.2]
theorem mem_eqAt {A : Around} {s : Shared} {x : V} {v : Value} (rx : RelV x v) (fx : flatV x = true) : ∀ {xs : List V} {us : List Value}, Vals xs us → xs.all flatV = true → ∀ u ∈ us, SeqAt.EqAt A s u v (eqU x u)
  | _, _, .nil, _ => fun u hu => by cases hu
  | y :: xs, u :: us, .cons r t, f => fun u' hu => by
    rw [List.all_cons, Bool.and_eq_true] at f
    rcases List.mem_cons.mp hu with rfl | hu
    · rw [eqU_of r f.1]; exact eqAt_V r rx f.1 fx
    · exact mem_eqAt rx fx t f.2 u' hu
def inV (x : V) (xs : List V) : Bool := xs.any fun y => eqV y x
/-- x in a list or tuple of flat items -/
def rIn (K : PySem.W.Frag) (neg : Bool) : R2 := fun x y H Q => ∃ p xs, y = .ref p ∧ (SqL K H p xs ∨ SqT K H p xs) ∧ flatV x = true ∧ xs.all flatV = true ∧ Q (.bl (if neg then !inV x xs else inV x xs)) H
theorem op_in_seq : OpR X (compareOp .In) (rIn X.K false) := by
  intro pins s σ H x y v u Q I rx ry h
  obtain ⟨p, xs, rfl, hq, fx, fs, q⟩ := h
  cases ry
  rcases hq with hq | hq
  · obtain ⟨its, r, pl, hz⟩ := I.list hq
    refine SeqAt.in_listAt (eqU x) pl.isList (fun w hw => mem_eqAt rx fx r fs w (by simpa using hw)) ⟨.bl _, H, I, rfl, ?_⟩
    rw [show its.toArray.any (eqU x) = its.any (eqU x) by simp, any_eqU r fs]
    exact q
  · obtain ⟨its, r, pl, hz⟩ := I.tuple hq
    refine SeqAt.in_tupleAt (eqU x) pl (fun w hw => mem_eqAt rx fx r fs w (by simpa using hw)) ⟨.bl _, H, I, rfl, ?_⟩
    rw [show its.toArray.any (eqU x) = its.any (eqU x) by simp, any_eqU r fs]
    exact q
theorem op_notIn_seq : OpR X (compareOp .NotIn) (rIn X.K true) := by
  intro pins s σ H x y v u Q I rx ry h
  obtain ⟨p, xs, rfl, hq, fx, fs, q⟩ := h
  cases ry
  rcases hq with hq | hq
  · obtain ⟨its, r, pl, hz⟩ := I.list hq
    refine SeqAt.notIn_listAt (eqU x) pl.isList (fun w hw => mem_eqAt rx fx r fs w (by simpa using hw)) ⟨.bl _, H, I, rfl, ?_⟩
    rw [show its.toArray.any (eqU x) = its.any (eqU x) by simp, any_eqU r fs]
    exact q
  · obtain ⟨its, r, pl, hz⟩ := I.tuple hq
    refine SeqAt.notIn_tupleAt (eqU x) pl (fun w hw => mem_eqAt rx fx r fs w (by simpa using hw)) ⟨.bl _, H, I, rfl, ?_⟩
    rw [show its.toArray.any (eqU x) = its.any (eqU x) by simp, any_eqU r fs]
    exact q
theorem op_notIn_str : OpR X (compareOp .NotIn) (fun x y H Q => ∃ i j, x = .str i ∧ y = .str j ∧ Q (.bl (!(!(Builtin.Str.occurrences j i 0 j.length 1).isEmpty))) H) := by
  intro pins s σ H x y v u Q I rx ry h
  obtain ⟨i, j, rfl, rfl, q⟩ := h
  obtain ⟨t, rfl⟩ := rx
  obtain ⟨t', rfl⟩ := ry
  exact notIn_str ⟨.bl _, H, I, rfl, q⟩

/-! ### len, list(x), tuple(x) of any list or tuple that is read -/
theorem call_len_seq : CallR X (.builtin "len") (fun xs H Q => ∃ p ys, xs = [.ref p] ∧ (SqL X.K H p ys ∨ SqT X.K H p ys) ∧ Q (.int ys.length) H) := by
  intro pins s σ H xs us Q I r h
  obtain ⟨p, ys, rfl, hq, q⟩ := h
  obtain ⟨u, rfl, rx⟩ := vals1 r
  cases rx
  have hn := line63
  rcases hq with hq | hq
  · obtain ⟨its, r', pl, hz⟩ := I.list hq
    have hlen := r'.length
    exact Calls.call_len_list pl.isList (by simp only [List.size_toArray] <;> omega) ⟨.int ys.length, H, I.tok _, ⟨s.toks + 1, by rw [List.size_toArray, hlen]⟩, q⟩
  · obtain ⟨its, r', pl, hz⟩ := I.tuple hq
    have hlen := r'.length
    exact len_tuple pl (by simp only [List.size_toArray] <;> omega) ⟨.int ys.length, H, I.tok _, ⟨s.toks + 1, by rw [List.size_toArray, hlen]⟩, q⟩
theorem call_len_str : CallR X (.builtin "len") (fun xs H Q => ∃ z, xs = [.str z] ∧ z.length ≤ sizeLine ∧ Q (.int z.length) H) := by
  intro pins s σ H xs us Q I r h
  obtain ⟨z, rfl, hz, q⟩ := h
  obtain ⟨u, rfl, t, rfl⟩ := vals1 r
  have hn := line63
  exact len_str (by omega) ⟨.int z.length, H, I.tok _, ⟨_, rfl⟩, q⟩
theorem CallR.or {f : Value} {r r' : List V → Hp → VK → Prop} (h : CallR X f r) (h' : CallR X f r') : CallR X f (fun xs H Q => r xs H Q ∨ r' xs H Q) := by
  intro pins s σ H xs us Q I rs q
  rcases q with q | q
  · exact h pins s σ H xs us Q I rs q
  · exact h' pins s σ H xs us Q I rs q
theorem call_list_of : CallR X (.type "list") (fun xs H Q => ∃ p ys, xs = [.ref p] ∧ (SqL X.K H p ys ∨ SqT X.K H p ys) ∧ ∀ l, H l = none → Q (.ref l) (upd H l (.lst ys))) := by
  intro pins s σ H xs us Q I r h
  obtain ⟨p, ys, rfl, hq, q⟩ := h
  obtain ⟨u, rfl, rx⟩ := vals1 r
  cases rx
  have fin : ∀ (its : List Value), Vals ys its → ys.length ≤ sizeLine → ∀ (h' : Heap) (c' : Nat), (∀ b o', s.heap.get? b = some o' → h'.get? b = some o') →
      h'.get? s.heap.objs.size = some { cls := .type "list", dict := none, data := .seq its.toArray c', slots := #[] } → EP X pins σ Q (.ref s.heap.objs.size) { s with heap := h' } := fun its r' hz h' c' kp e =>
    ⟨.ref s.heap.objs.size, _, I.laid (t' := s.toks) kp (Nat.le_refl _) (show ObjOk X.prog X.w _ h' _ (.lst ys) from ⟨hz, its, c', r', e⟩), rfl, q _ (I.hok.fresh (Nat.le_refl _))⟩
  rcases hq with hq | hq
  · obtain ⟨its, r', pl, hz⟩ := I.list hq
    have hlen := r'.length
    obtain ⟨o, ho, hc, n, hd⟩ := pl.isList
    exact call_list_seq p (.inl rfl) ho hc hd (fun h' c' kp e => fin its r' hz h' c' kp e) (by simp only [List.size_toArray] <;> omega)
  · obtain ⟨its, r', pl, hz⟩ := I.tuple hq
    have hlen := r'.length
    obtain ⟨o, ho, hc, n, hd⟩ := pl
    exact call_list_seq p (.inr rfl) ho hc hd (fun h' c' kp e => fin its r' hz h' c' kp e) (by simp only [List.size_toArray] <;> omega)
theorem call_tuple_of : CallR X (.type "tuple") (fun xs H Q => ∃ p ys, xs = [.ref p] ∧ ((SqL X.K H p ys ∧ ∀ l, H l = none → Q (.ref l) (upd H l (.tup ys))) ∨ (SqT X.K H p ys ∧ Q (.ref p) H))) := by
  intro pins s σ H xs us Q I r h
  obtain ⟨p, ys, rfl, h⟩ := h
  obtain ⟨u, rfl, rx⟩ := vals1 r
  cases rx
  rcases h with ⟨hq, q⟩ | ⟨hq, q⟩
  · obtain ⟨its, r', pl, hz⟩ := I.list hq
    have hlen := r'.length
    refine call_tuple_list pl.isList (fun h' kp => ?_) (by simp only [List.size_toArray] <;> omega)
    have I1 : Inv X pins σ H { s with heap := h' } := I.kept (t' := s.toks) kp
    have I2 : Inv X pins σ (upd H h'.objs.size (.tup ys)) { s with heap := h'.push { cls := .type "tuple", data := .seq its.toArray } } :=
      I1.laid (t' := s.toks) (fun b o e => Heap.get?_push_of_some _ e) (Nat.le_refl _) (show ObjOk X.prog X.w _ _ _ (.tup ys) from ⟨hz, its, r', IsTup.new _ _⟩)
    exact ⟨.ref h'.objs.size, _, I2, rfl, q _ (I1.hok.fresh (Nat.le_refl _))⟩
  · obtain ⟨its, r', pl, hz⟩ := I.tuple hq
    exact call_tuple_same pl ⟨.ref p, H, I, rfl, q⟩

/-! ### the call of a builtin's method: o.m(..) -/
/-- the value is of that builtin type -/
def tyV (K : PySem.W.Frag) (T : String) (x : V) (H : Hp) : Prop := match x with
  | .str _ => T = "str"
  | .int _ => T = "int"
  | .ref p => (T = "list" ∧ ∃ xs, SqL K H p xs) ∨ (T = "tuple" ∧ ∃ o, K.lookup p = some o ∧ o.cls = .type "tuple" ∧ o.dict = none) ∨
      (T = "dict" ∧ ((∃ kvs, H p = some (.dK kvs)) ∨ ∃ kvs, H p = some (.dT kvs))) ∨ (T = "set" ∧ ∃ S n, H p = some (.set S n))
  | _ => False
theorem tyV_is {pins : List (Addr × Obj)} {σ : St} {H : Hp} {s : Shared} {T : String} {x : V} {v : Value} (I : Inv X pins σ H s) (r : RelV x v) (ty : tyV X.K T x H) :
    s.TypeIs v T ∧ ∀ a, v = .ref a → ∃ ob, s.heap.get? a = some ob ∧ ob.dict = none := by
  cases x with
  | str z =>
    obtain ⟨t, rfl⟩ := r
    cases (show T = "str" from ty)
    exact ⟨typeIs_str s z t, fun _ e => nomatch e⟩
  | int i =>
    obtain ⟨t, rfl⟩ := r
    cases (show T = "int" from ty)
    exact ⟨typeIs_int s i t, fun _ e => nomatch e⟩
  | ref p =>
    cases r
    rcases ty with ⟨rfl, xs, hq⟩ | ⟨rfl, o, hk, hc, hd⟩ | ⟨rfl, hk⟩ | ⟨rfl, S, n, hk⟩
    · obtain ⟨its, _, pl, _⟩ := I.list hq
      refine ⟨pl.isList.typeIs, fun a e => ?_⟩
      cases e
      obtain ⟨o, n, e, c, hd, _⟩ := pl
      exact ⟨o, e, hd⟩
    · refine ⟨⟨o, I.kIn p o hk, hc⟩, fun a e => ?_⟩
      cases e
      exact ⟨o, I.kIn _ o hk, hd⟩
    · have z : ∃ o, s.heap.get? p = some o ∧ o.ExactDict := by
        rcases hk with ⟨kvs, hk⟩ | ⟨kvs, hk⟩
        · obtain ⟨_, _, _, _, o, _, _, e, ex, _⟩ := I.hok p _ hk
          exact ⟨o, e, ex⟩
        · obtain ⟨_, _, _, _, o, _, _, e, ex, _⟩ := I.hok p _ hk
          exact ⟨o, e, ex⟩
      obtain ⟨o, e, ex⟩ := z
      refine ⟨⟨o, e, ex.1⟩, fun a e2 => ?_⟩
      cases e2
      exact ⟨o, e, ex.2.1⟩
    · obtain ⟨o, _, _, _, e, ex, _⟩ := I.hok p _ hk
      refine ⟨⟨o, e, ex.1⟩, fun a e2 => ?_⟩
      cases e2
      exact ⟨o, e, ex.2.1⟩
  | _ => exact False.elim ty
def tBM0 (K : PySem.W.Frag) (T : String) (r : V → List V → Hp → VK → Prop) (to : TE) : TE := fun σ H Q => to σ H fun x H1 => tyV K T x H1 ∧ r x [] H1 Q
def tBM (K : PySem.W.Frag) (T : String) (r : V → List V → Hp → VK → Prop) (to : TE) (t : TA) : TE := fun σ H Q => to σ H fun x H1 => tyV K T x H1 ∧ t σ H1 fun xs H2 => r x xs H2 Q
variable {o e : Expr} {es : List Expr} {to : TE} {t : TA} {name : Str} {apos cpos : Pos} {T id : String} {r : V → List V → Hp → VK → Prop}
theorem pe_bm0 (pa : PlainAttrs T) (slot : Slot T name id) (hty : typeOf (.builtin id) = pure (.type "method_descriptor")) (hm : MtR X id r) (ho : PE X o to)
    (hbase : attributeBase o name X.env (eval o X.env) = eval o X.env := by rfl) (hline : (apos.endLine == cpos.line) = true := by rfl) : PE X (.Call (.Attribute o name apos) [] [] cpos) (tBM0 X.K T r to) := by
  intro pins s σ H Q I h
  refine wpAny_Call_method0_late hbase hline (thn (ho pins s σ H _ I h) fun v s1 ⟨x, H1, I1, r1, ty, q1⟩ => ?_)
  obtain ⟨h1, h2⟩ := tyV_is I1 r1 ty
  exact ⟨T, id, pa, slot, hty, h1, h2, Calls.callWith_builtin rfl (PySem.evalArgs_none (hm pins s1 σ H1 x [] v [] Q I1 r1 .nil q1))⟩
theorem pe_bm (pa : PlainAttrs T) (slot : Slot T name id) (hty : typeOf (.builtin id) = pure (.type "method_descriptor")) (hm : MtR X id r) (ho : PE X o to) (ha : PA X (e :: es) t)
    (hbase : attributeBase o name X.env (eval o X.env) = eval o X.env := by rfl)
    (hfew : ((backTo cpos (starEach (e :: es) X.env)).all (fun x => !x.1) && (backToKw cpos (keywordEach [] X.env)).all (fun x => x.1.isSome)
      && decide ((e :: es).length + ([] : List Keyword).length + (if ([] : List Keyword).isEmpty then 0 else 1) < 30)) = true := by rfl)
    (hline : (apos.endLine == cpos.line) = true := by rfl) (hs : starEach (e :: es) X.env = (false, eval e X.env) :: starEach es X.env := by rfl) (hplain : (backTo cpos (starEach es X.env)).any (·.1) = false := by rfl) :
    PE X (.Call (.Attribute o name apos) (e :: es) [] cpos) (tBM X.K T r to t) := by
  intro pins s σ H Q I h
  refine wpAny_Call_method_late hbase hfew hline rfl (thn (ho pins s σ H _ I h) fun v s1 ⟨x, H1, I1, r1, ty, q1⟩ => ?_)
  obtain ⟨h1, h2⟩ := tyV_is I1 r1 ty
  refine ⟨T, id, pa, slot, hty, h1, h2, ?_⟩
  have hA := ha cpos pins s1 σ H1 _ I1 q1
  rw [hs] at hA ⊢
  refine Calls.callWith_builtin (by show (false || (backTo cpos (starEach es X.env)).any (·.1)) = false; rw [hplain] <;> rfl) (Calls.evalArgs_plain ?_)
  exact thn hA fun us s2 ⟨vs, H2, I2, r2, q2⟩ => hm pins s2 σ H2 x vs v us Q I2 r1 r2 q2
/- xs.append(e), list.index on a module's tuple .. are MtR facts of 06m -/
end
end L2

namespace L2
open PySem PySem.Spec PyProof.Rows

def MtM (X : Cx) (id : String) (r : V → List V → Hp → VK → Prop) : Prop :=
  ∀ (pins : List (Addr × Obj)) (s : Shared) (σ : St) (H : Hp) (x : V) (xs : List V) (v : Value) (us : List Value) (Q : VK), Inv X pins σ H s → RelV x v → Vals xs us → r x xs H Q →
    wpAny (model X.prog X.w) X.A (call (.builtin id) (v :: us)) (EP X pins σ Q) X.xe s

/-! ### lists of values -/
theorem Vals.one : ∀ {x : V} {us : List Value}, Vals [x] us → ∃ u, us = [u] ∧ RelV x u
  | _, _, .cons r .nil => ⟨_, rfl, r⟩
theorem Vals.two : ∀ {x y : V} {us : List Value}, Vals [x, y] us → ∃ u v, us = [u, v] ∧ RelV x u ∧ RelV y v
  | _, _, _, .cons r (.cons q .nil) => ⟨_, _, rfl, r, q⟩
theorem Vals.zero : ∀ {us : List Value}, Vals [] us → us = []
  | _, .nil => rfl
theorem Vals.dropLast {xs : List V} {us : List Value} (h : Vals xs us) : Vals xs.dropLast us.dropLast := by
  induction h with
  | nil => exact .nil
  | cons r t ih =>
    cases t with
    | nil => exact .nil
    | cons q t' => exact .cons r ih
theorem Vals.eraseIdx : ∀ {xs : List V} {us : List Value} (i : Nat), Vals xs us → Vals (xs.eraseIdx i) (us.eraseIdx i)
  | _, _, _, .nil => .nil
  | _, _, 0, .cons _ t => t
  | _, _, i + 1, .cons r t => .cons r (Vals.eraseIdx i t)
theorem Vals.reverse {xs : List V} {us : List Value} (h : Vals xs us) : Vals xs.reverse us.reverse := by
  induction h with
  | nil => exact .nil
  | cons r t ih => rw [List.reverse_cons, List.reverse_cons]; exact Vals.append ih (.cons r .nil)
theorem Vals.rep {xs : List V} {us : List Value} (h : Vals xs us) : ∀ k : Nat, Vals (List.replicate k xs).flatten (List.replicate k us).flatten
  | 0 => .nil
  | k + 1 => by
    rw [List.replicate_succ, List.replicate_succ, List.flatten_cons, List.flatten_cons]
    exact Vals.append h (Vals.rep h k)
theorem erase_last {α : Type} (l : List α) : l.eraseIdx (l.length - 1) = l.dropLast := by
  induction l with
  | nil => rfl
  | cons a r ih =>
    cases r with
    | nil => rfl
    | cons b r =>
      have e : (a :: b :: r).length - 1 = ((b :: r).length - 1) + 1 := by
        have h1 : (a :: b :: r).length = r.length + 2 := rfl
        have h2 : (b :: r).length = r.length + 1 := rfl
        omega
      rw [e, List.eraseIdx_cons_succ, ih]
      all_goals rfl
theorem len_erase {α : Type} : ∀ (l : List α) (i : Nat), (l.eraseIdx i).length ≤ l.length
  | [], _ => Nat.le_refl _
  | _ :: _, 0 => Nat.le_succ _
  | _ :: r, i + 1 => Nat.succ_le_succ (len_erase r i)
theorem foldl_rep (its : List Value) : ∀ (k : Nat) (acc : List Value),
    List.foldl (fun x1 x2 => x1 ++ x2) acc.toArray (List.replicate k its.toArray) = (acc ++ (List.replicate k its).flatten).toArray
  | 0, acc => by simp
  | k + 1, acc => by
    have e : acc.toArray ++ its.toArray = (acc ++ its).toArray := by simp
    have e2 : (acc ++ its) ++ (List.replicate k its).flatten = acc ++ (List.replicate (k + 1) its).flatten := by
      rw [List.replicate_succ, List.flatten_cons, List.append_assoc]
    rw [← e2, ← foldl_rep its k (acc ++ its), ← e, List.replicate_succ, List.foldl_cons]

section
variable {X : Cx} {pins : List (Addr × Obj)} {σ : St} {H : Hp} {s : Shared} {l b : Addr} {xs ys zs : List V}

/-! ### the two steps: a tracked list is rewritten, a new list is laid -/
theorem Inv.lset {its its' : List Value} {n : Nat} {f : Array Value → Array Value} {t' : Nat} (I : Inv X pins σ H s) (hH : H l = some (.lst xs))
    (e : s.heap.get? l = some { cls := .type "list", data := .seq its.toArray n }) (hf : f its.toArray = its'.toArray) (hv : Vals ys its') (hz : ys.length ≤ sizeLine) :
    Inv X pins σ (upd H l (.lst ys)) { s with heap := s.heap.update l (Obj.mapSeq f), toks := t' } := by
  have q := PySem.IsL.update e f
  rw [hf] at q
  refine I.write (x := l) (e := l) (by rw [hH]; exact trivial) (.inl rfl) (fun b' u hb hu => (Heap.get?_update_other s.heap (Obj.mapSeq f) (Ne.symm hb)).trans hu) ⟨_, q⟩ ?_
  exact ⟨hz, its', _, hv, q⟩
theorem Inv.lnew {its : List Value} {t' : Nat} (I : Inv X pins σ H s) (hv : Vals ys its) (hz : ys.length ≤ sizeLine) :
    Inv X pins σ (upd H s.heap.objs.size (.lst ys)) { s with heap := s.heap.push { cls := .type "list", data := .seq its.toArray }, toks := t' } :=
  I.laid (fun _ _ q => Heap.get?_push_of_some _ q) (Nat.le_refl _) ⟨hz, its, 0, hv, Heap.get?_push_size _ rfl⟩
theorem Inv.fresh (I : Inv X pins σ H s) : H s.heap.objs.size = none := I.hok.fresh (Nat.le_refl _)
theorem Inv.lstM (I : Inv X pins σ H s) (hH : H l = some (.lst xs)) : xs.length ≤ sizeLine ∧ ∃ (its : List Value) (n : Nat), Vals xs its ∧ xs.length = its.length ∧ s.heap.get? l = some { cls := .type "list", data := .seq its.toArray n } := by
  obtain ⟨z, its, n, r, e⟩ := I.hok l _ hH
  exact ⟨z, its, n, r, r.length, e⟩

theorem notLongL {n : Nat} (h : n ≤ sizeLine) : Builtin.List.listTooLong n = false := by
  unfold Builtin.List.listTooLong
  exact decide_eq_false (by omega)
end

section
variable {X : Cx}

/-! ### methods -/
def rAppend : V → List V → Hp → VK → Prop := fun x vs H Q => ∃ l xs y, x = .ref l ∧ vs = [y] ∧ H l = some (.lst xs) ∧ xs.length < sizeLine ∧ Q .non (upd H l (.lst (xs ++ [y])))
theorem mt_append : MtM X "list.append" rAppend := by
  intro pins s σ H x vs v us Q I rx rv h
  obtain ⟨l, xs, y, rfl, rfl, hH, hz, q⟩ := h
  cases rx
  obtain ⟨u, rfl, ru⟩ := rv.one
  obtain ⟨z, its, n, r, hl, e⟩ := I.lstM hH
  refine call_meets F.slot_list_append ⟨_, e, rfl⟩ F.entry_list_append (F.args_list_append_2 _ _) (PySem.list_append l its.toArray n u (by rw [List.size_toArray]; omega)) ⟨e, ?_⟩
  refine ⟨.non, _, I.lset (its' := its ++ [u]) hH e (by simp) (r.append (.cons ru .nil)) ?_, rfl, q⟩
  rw [List.length_append, List.length_singleton]
  omega

def rExtend : V → List V → Hp → VK → Prop := fun x vs H Q => ∃ l b xs zs, x = .ref l ∧ vs = [.ref b] ∧ H l = some (.lst xs) ∧ H b = some (.lst zs) ∧ xs.length + zs.length ≤ sizeLine ∧ Q .non (upd H l (.lst (xs ++ zs)))
theorem mt_extend : MtM X "list.extend" rExtend := by
  intro pins s σ H x vs v us Q I rx rv h
  obtain ⟨l, b, xs, zs, rfl, rfl, hH, hB, hz, q⟩ := h
  cases rx
  obtain ⟨u, rfl, ru⟩ := rv.one
  cases ru
  obtain ⟨z, its, n, r, hl, e⟩ := I.lstM hH
  obtain ⟨z2, its2, n2, r2, hl2, e2⟩ := I.lstM hB
  have hsz : its.toArray.size + its2.toArray.size ≤ sizeLine := by rw [List.size_toArray, List.size_toArray]; omega
  have hlong : ¬ (!its.toArray.isEmpty && Builtin.List.listTooLong (its.toArray.size + its2.toArray.size)) = true := by
    rw [notLongL hsz, Bool.and_false]
    exact Bool.false_ne_true
  refine call_meets F.slot_list_extend ⟨_, e, rfl⟩ F.entry_list_extend (F.args_list_extend_2 _ _)
    (AutoSeq1.list_extend_list_list_0 l its.toArray n b its2.toArray n2 hlong (by rw [List.size_toArray]; omega) (by omega)) ⟨e, e2, ?_⟩
  refine ⟨.non, _, I.lset (its' := its ++ its2) hH e (by simp) (r.append r2) ?_, rfl, q⟩
  rw [List.length_append]
  omega

def rPop : V → List V → Hp → VK → Prop := fun x vs H Q => ∃ l xs y, x = .ref l ∧ vs = [] ∧ H l = some (.lst xs) ∧ xs[xs.length - 1]? = some y ∧ Q y (upd H l (.lst xs.dropLast))
theorem mt_pop : MtM X "list.pop" rPop := by
  intro pins s σ H x vs v us Q I rx rv h
  obtain ⟨l, xs, y, rfl, rfl, hH, hy, q⟩ := h
  cases rx
  have hus := rv.zero
  subst hus
  obtain ⟨z, its, n, r, hl, e⟩ := I.lstM hH
  obtain ⟨u, hu, ru⟩ := r.get hy
  have hy' : its.toArray[its.toArray.size - 1]? = some u := by
    show its.toArray[its.length - 1]? = some u
    rw [← Array.getElem?_toList, ← hl]
    exact hu
  refine call_meets F.slot_list_pop ⟨_, e, rfl⟩ F.entry_list_pop (F.args_list_pop_1 _) (MeetsSeq.list_pop_last l its.toArray n u hy' (by rw [List.size_toArray]; omega)) ⟨e, ?_⟩
  refine ⟨y, _, I.lset (its' := its.dropLast) hH e ?_ r.dropLast ?_, ru, q⟩
  · show its.toArray.eraseIdxIfInBounds (its.toArray.size - 1) = its.dropLast.toArray
    rw [List.size_toArray, List.eraseIdxIfInBounds_toArray, erase_last]
  · rw [List.length_dropLast]
    omega

def rPopAt : V → List V → Hp → VK → Prop := fun x vs H Q => ∃ l xs i k y, x = .ref l ∧ vs = [.int i] ∧ H l = some (.lst xs) ∧ -(2 ^ 63) ≤ i ∧ i < 2 ^ 63 ∧ seqIndex? i xs.length = some k ∧ xs[k]? = some y ∧ Q y (upd H l (.lst (xs.eraseIdx k)))
theorem mt_popAt : MtM X "list.pop" rPopAt := by
  intro pins s σ H x vs v us Q I rx rv h
  obtain ⟨l, xs, i, k, y, rfl, rfl, hH, h1, h2, hk, hy, q⟩ := h
  cases rx
  obtain ⟨u, rfl, ru⟩ := rv.one
  obtain ⟨t, rfl⟩ := ru
  obtain ⟨z, its, n, r, hl, e⟩ := I.lstM hH
  obtain ⟨w, hw, rw'⟩ := r.get hy
  refine call_meets F.slot_list_pop ⟨_, e, rfl⟩ F.entry_list_pop (F.args_list_pop_2 _ _)
    (MeetsSeq.list_pop_at l its.toArray n i t k w (fitsIndex_both h1 h2) (by rw [List.size_toArray, ← hl]; exact hk) (by rw [← Array.getElem?_toList]; exact hw) (by rw [List.size_toArray]; omega)) ⟨e, ?_⟩
  refine ⟨y, _, I.lset (its' := its.eraseIdx k) hH e ?_ (r.eraseIdx k) ?_, rw', q⟩
  · show its.toArray.eraseIdxIfInBounds k = (its.eraseIdx k).toArray
    rw [List.eraseIdxIfInBounds_toArray]
  · have := len_erase xs k
    omega

def rReverse : V → List V → Hp → VK → Prop := fun x vs H Q => ∃ l xs, x = .ref l ∧ vs = [] ∧ H l = some (.lst xs) ∧ Q .non (upd H l (.lst xs.reverse))
theorem mt_reverse : MtM X "list.reverse" rReverse := by
  intro pins s σ H x vs v us Q I rx rv h
  obtain ⟨l, xs, rfl, rfl, hH, q⟩ := h
  cases rx
  have hus := rv.zero
  subst hus
  obtain ⟨z, its, n, r, hl, e⟩ := I.lstM hH
  refine call_meets F.slot_list_reverse ⟨_, e, rfl⟩ F.entry_list_reverse (F.args_list_reverse_1 _) (AutoSeq1.list_reverse_list_0 l its.toArray n (by rw [List.size_toArray]; omega)) ⟨e, ?_⟩
  refine ⟨.non, _, I.lset (its' := its.reverse) hH e (by simp) r.reverse ?_, rfl, q⟩
  rw [List.length_reverse]
  omega

def rClear : V → List V → Hp → VK → Prop := fun x vs H Q => ∃ l xs, x = .ref l ∧ vs = [] ∧ H l = some (.lst xs) ∧ Q .non (upd H l (.lst []))
theorem mt_clear : MtM X "list.clear" rClear := by
  intro pins s σ H x vs v us Q I rx rv h
  obtain ⟨l, xs, rfl, rfl, hH, q⟩ := h
  cases rx
  have hus := rv.zero
  subst hus
  obtain ⟨z, its, n, r, hl, e⟩ := I.lstM hH
  refine call_meets F.slot_list_clear ⟨_, e, rfl⟩ F.entry_list_clear (F.args_list_clear_1 _) (AutoSeq1.list_clear_list_0 l its.toArray n (by rw [List.size_toArray]; omega)) ⟨e, ?_⟩
  exact ⟨.non, _, I.lset (its' := []) (ys := []) hH e rfl .nil (Nat.zero_le _), rfl, q⟩

/-! ### list + list, list += list, list * int -/
def rCat : R2 := fun x y H Q => ∃ l b xs zs, x = .ref l ∧ y = .ref b ∧ H l = some (.lst xs) ∧ H b = some (.lst zs) ∧ xs.length + zs.length ≤ sizeLine ∧ ∀ p, H p = none → Q (.ref p) (upd H p (.lst (xs ++ zs)))
theorem op_cat : OpR X (binaryOp .Add) rCat := by
  intro pins s σ H x y v u Q I rx ry h
  obtain ⟨l, b, xs, zs, rfl, rfl, hH, hB, hz, q⟩ := h
  cases rx
  cases ry
  obtain ⟨z, its, n, r, hl, e⟩ := I.lstM hH
  obtain ⟨z2, its2, n2, r2, hl2, e2⟩ := I.lstM hB
  refine PySem.P.add_list e e2 ?_ (by rw [List.size_toArray, List.size_toArray]; omega)
  have ea : its.toArray ++ its2.toArray = (its ++ its2).toArray := by simp
  rw [ea]
  exact ⟨.ref _, _, I.lnew (t' := s.toks) (r.append r2) (by rw [List.length_append]; omega), rfl, q _ I.fresh⟩
/-- a list times an int (a negative one is nothing) -/
def rRep : R2 := fun x y H Q => ∃ l k xs, x = .ref l ∧ y = .int k ∧ H l = some (.lst xs) ∧ -(2 ^ 63) ≤ k ∧ k < 2 ^ 63 ∧ xs.length * k.toNat ≤ sizeLine ∧
  ∀ p, H p = none → Q (.ref p) (upd H p (.lst (List.replicate k.toNat xs).flatten))
theorem len_rep {α : Type} (xs : List α) (k : Nat) : (List.replicate k xs).flatten.length = k * xs.length := by
  induction k with
  | zero => simp
  | succ k ih => rw [List.replicate_succ, List.flatten_cons, List.length_append, ih, Nat.succ_mul, Nat.add_comm]
theorem op_rep : OpR X (binaryOp .Mult) rRep := by
  intro pins s σ H x y v u Q I rx ry h
  obtain ⟨l, k, xs, rfl, rfl, hH, h1, h2, hz, q⟩ := h
  cases rx
  obtain ⟨t, rfl⟩ := ry
  obtain ⟨z, its, n, r, hl, e⟩ := I.lstM hH
  have hlen : its.toArray.size * k.toNat ≤ sizeLine := by rw [List.size_toArray, ← hl]; exact hz
  have hcap : ¬ its.toArray.size * k.toNat > (2 ^ 63 - 1) / 8 := by
    have : (sizeLine : Nat) ≤ (2 ^ 63 - 1) / 8 := by decide
    omega
  have hfit : ¬ (!Builtin.List.listFitsIndex k) = true := by
    rw [fitsIndex_both h1 h2]
    exact Bool.false_ne_true
  have hlong : ¬ Builtin.List.listTooLong (its.toArray.size * k.toNat) = true := by
    rw [notLongL hlen]
    exact Bool.false_ne_true
  have hnew : List.foldl (fun x1 x2 => x1 ++ x2) #[] (List.replicate (if its.toArray.isEmpty = true then 0 else k.toNat) its.toArray) = (List.replicate k.toNat its).flatten.toArray := by
    have f0 : ∀ m : Nat, List.foldl (fun x1 x2 => x1 ++ x2) #[] (List.replicate m its.toArray) = (List.replicate m its).flatten.toArray := fun m => by
      have := foldl_rep its m []
      rw [List.nil_append] at this
      exact this
    rw [f0]
    cases its with
    | nil => simp
    | cons a r' => rw [if_neg (by simp)]
  refine wpAny_binaryOp_repeat_ref (T := "list") (U := "int") (by decide) ⟨_, e, rfl⟩ (fun s' => typeIs_int s' k t) noFill_list_mul F.fills_int_mul F.slot_int_rmul repeat_list F.slot_int_index.lookup
    (call_meets F.slot_int_rmul (typeIs_int s k t) F.entry_int_rmul (F.args_int_rmul_2 _ _) (int___rmul___int_list k t l its.toArray n)
      ⟨e, rfl, ⟨_, e, rfl⟩, call_meets F.slot_list_mul ⟨_, e, rfl⟩ F.entry_list_mul (F.args_list_mul_2 _ _) (AutoListH.list___mul___list_int_3 l its.toArray n k t hfit hcap hlong) ⟨e, ?_⟩⟩)
  rw [hnew]
  exact ⟨.ref _, _, I.lnew (t' := s.toks) (r.rep k.toNat) (by rw [len_rep, Nat.mul_comm]; exact hz), rfl, q _ I.fresh⟩

/-! ### del xs[i] -/
theorem del_list {pins : List (Addr × Obj)} {s : Shared} {σ : St} {H : Hp} {l : Addr} {xs : List V} {i : Int} {t : Tok} {k : Nat} {Q : Unit → Shared → Prop} (I : Inv X pins σ H s) (hH : H l = some (.lst xs))
    (h1 : -(2 ^ 63) ≤ i) (h2 : i < 2 ^ 63) (hk : seqIndex? i xs.length = some k) (h : ∀ s', Inv X pins σ (upd H l (.lst (xs.eraseIdx k))) s' → Q () s') :
    wpAny (model X.prog X.w) X.A (delItem (.ref l) (.int i t)) Q X.xe s := by
  obtain ⟨z, its, n, r, hl, e⟩ := I.lstM hH
  refine PySem.P.delItem_list (k := k) e (fitsIndex_both h1 h2) (by rw [List.size_toArray, ← hl]; exact hk) (h _ ?_) (by rw [List.size_toArray]; omega)
  refine I.lset (its' := its.eraseIdx k) (t' := s.toks) hH e ?_ (r.eraseIdx k) ?_
  · show its.toArray.eraseIdxIfInBounds k = (its.eraseIdx k).toArray
    rw [List.eraseIdxIfInBounds_toArray]
  · have := len_erase xs k
    omega
end

/-! ### xs[a:b] = ys -/
section
variable {prog : Program} {w : World} {A : Around} {E : Value → Shared → Prop} {s : Shared}
theorem splice_eq (its its2 : List Value) (a c : Nat) : its.toArray.extract 0 a ++ its2.toArray ++ its.toArray.extract c its.toArray.size = (its.take a ++ its2 ++ its.drop c).toArray := by
  apply Array.toList_inj.mp
  first
    | (simp
       exact List.take_of_length_le (by simp))
    | simp [List.take_of_length_le]
    | simp
theorem bounds_run {a c n : Nat} (hac : a ≤ c) (hc : c ≤ n) : sliceBounds (some (a : Int)) (some (c : Int)) none n = ((a : Int), (c : Int), 1) := by
  simp only [sliceBounds, Option.getD_none]
  have h1 : ¬ ((a : Int) < 0) := by omega
  have h2 : ¬ ((c : Int) < 0) := by omega
  simp only [h1, h2, if_false, show (1 : Int) > 0 by decide, if_true]
  congr 1
  · omega
  · congr 1; omega
set_option maxRecDepth 100000 in
/-- list.__setitem__ with a slice of step one and another list -/
theorem setItem_slice {l b sl : Addr} {items new : Array Value} {n n2 : Nat} {vl vu : Value} {a c : Nat} {Q : Unit → Shared → Prop}
    (e : s.heap.get? l = some { cls := .type "list", data := .seq items n }) (e2 : s.heap.get? b = some { cls := .type "list", data := .seq new n2 }) (hne : l ≠ b)
    (hs : s.heap.IsSliceOf sl vl vu .none) (pl : IsPart vl (some (a : Int))) (pu : IsPart vu (some (c : Int))) (hac : a ≤ c) (hc : c ≤ items.size)
    (hsz : items.size + new.size ≤ sizeLine) (h : Q () { s with heap := s.heap.update l (Obj.mapSeq fun xs => xs.extract 0 a ++ new ++ xs.extract c xs.size) }) :
    wpAny (model prog w) A (setItem (.ref l) (.ref sl) (.ref b)) Q E s := by
  have hl : s.heap.IsList l items := PySem.IsL.isList e
  have hb : s.heap.IsList b new := PySem.IsL.isList e2
  obtain ⟨os, hos, hcs, hds⟩ := id hs
  have hTs : s.TypeIs (.ref sl) "slice" := ⟨os, hos, hcs⟩
  have hstep : ¬ ((rawPart none == rawInt 0) = true) := Bool.false_ne_true
  have hsame : Builtin.List.listSameRef (.ref l) (.ref b) = false := by
    unfold Builtin.List.listSameRef
    exact beq_eq_false_iff_ne.mpr hne
  have hmax : (max (a : Int) (c : Int)).toNat = c := by omega
  have hz' : ((fun xs : Array Value => xs.extract 0 a ++ new ++ xs.extract c xs.size) items).size ≤ sizeLine + 1 := by
    simp only [Array.size_append, Array.size_extract]
    omega
  unfold setItem
  try with_reducible refine wpAny_holding ?_
  first | refine wpAny_bind (wpAny_pure ?_) | skip
  refine wpAny_bind (wpAny_sequenceKey hl.typeIs (by decide) ?_)
  refine wpAny_bind (wpAny_callSpecial?_slot (name := Str.ofString "__setitem__") hl.typeIs slot_list_setitem
    (wpAny_call_entry slot_list_setitem hl.typeIs entry_list_setitem ?_ (args_list_setitem _ _ _)))
  show wpAny _ _ (Builtin.List.listSubscript? (.ref sl) >>= _) _ _ s
  refine wpAny_bind ?_
  unfold Builtin.List.listSubscript?
  refine wpAny_bind (wpAny_specialOf hTs slice_no_index ?_)
  simp only [Option.isNone_none, if_true]
  refine wpAny_pure ?_
  show wpAny _ _ (typeOf (.ref sl) >>= _) _ _ s
  refine wpAny_bind (wpAny_typeOf hTs ?_)
  first
    | rw [if_neg (by decide)]
    | refine PySem.W.KFB.if_not (by decide) ?_
  rw [listSliceParts_eq]
  refine wpAny_bind (wpAny_bind (wpAny_field hos hds (x := .none) rfl (wpAny_bind (wpAny_listPart .none ?_))))
  rw [if_neg hstep]
  refine wpAny_bind (wpAny_field hos hds (x := vl) rfl (wpAny_bind (wpAny_listPart pl ?_)))
  refine wpAny_bind (wpAny_field hos hds (x := vu) rfl (wpAny_bind (wpAny_listPart pu (wpAny_pure ?_))))
  first
    | simp only [hsame, Bool.false_eq_true, if_false]
    | refine PySem.W.KFB.if_not hsame ?_
    | (dsimp only
       rw [if_neg (by rw [hsame]; exact Bool.false_ne_true)])
  refine wpAny_bind (m := Builtin.List.listAllItems (.ref b) "must assign iterable to extended slice") ?_
  unfold Builtin.List.listAllItems
  refine wpAny_bind (wpAny_typeOf hb.typeIs ?_)
  first
    | refine PySem.W.KFB.if_so (by decide) ?_
    | rw [if_pos (by decide)]
    | simp only [beq_self_eq_true, Bool.true_or, if_true]
  unfold Builtin.List.listItems
  refine wpAny_bind (wpAny_seqItems e2 rfl (wpAny_pure ?_))
  refine wpAny_bind (wpAny_bind (wpAny_seqItems e rfl (wpAny_pure ?_)))
  refine wpAny_bind (wpAny_of_eq ((sliceIndices_raw (some (a : Int)) (some (c : Int)) none items.size (by simp)).trans (congrArg (pure : Int × Int × Int → Sem (Int × Int × Int)) (bounds_run hac hc))) ?_)
  show wpAny _ _ (if ((1 : Int) == 1) = true then _ else _) _ _ s
  rw [if_pos (by decide)]
  refine wpAny_bind (wpAny_rule ?_)
  first
    | simp only [notLongL hsz, Bool.false_eq_true, if_false]
    | refine PySem.W.KFB.if_not (notLongL hsz) ?_
  first | refine wpAny_bind (wpAny_pure ?_) | skip
  show wpAny _ _ (updateSeq l (fun xs => xs.extract 0 ((a : Int)).toNat ++ new ++ xs.extract (max (a : Int) (c : Int)).toNat xs.size) >>= _) _ _ s
  rw [hmax, Int.toNat_natCast]
  refine wpAny_bind (wpAny_updateSeq (hz := Nat.le_trans (Nat.le_add_right _ _) hsz) (_hz' := hz') e rfl ?_)
  refine wpAny_bind (wpAny_letGo ?_)
  first
    | exact wpAny_bind (wpAny_pure (wpAny_pure ⟨.none, rfl, wpAny_pure h⟩))
    | exact wpAny_pure ⟨.none, rfl, wpAny_pure h⟩
end

section
variable {X : Cx}
/-- xs[a:c] = ys of another list, at the value level: sl is the slice object that was just made -/
theorem set_slice {pins : List (Addr × Obj)} {s : Shared} {σ : St} {H : Hp} {l b sl : Addr} {xs ys : List V} {a c : Int} {vl vu : Value} {Q : Unit → Shared → Prop} (I : Inv X pins σ H s)
    (hH : H l = some (.lst xs)) (hB : H b = some (.lst ys)) (hne : l ≠ b) (hs : s.heap.IsSliceOf sl vl vu .none) (ra : RelV (.int a) vl) (rc : RelV (.int c) vu) (h0 : 0 ≤ a) (hac : a ≤ c) (hc : c ≤ xs.length)
    (hz : xs.length + ys.length ≤ sizeLine) (h : ∀ s', Inv X pins σ (upd H l (.lst (xs.take a.toNat ++ ys ++ xs.drop c.toNat))) s' → Q () s') :
    wpAny (model X.prog X.w) X.A (setItem (.ref l) (.ref sl) (.ref b)) Q X.xe s := by
  obtain ⟨ta, rfl⟩ := ra
  obtain ⟨tc, rfl⟩ := rc
  obtain ⟨z, its, n, r, hl, e⟩ := I.lstM hH
  obtain ⟨z2, its2, n2, r2, hl2, e2⟩ := I.lstM hB
  obtain ⟨a', rfl⟩ := Int.eq_ofNat_of_zero_le h0
  obtain ⟨c', rfl⟩ := Int.eq_ofNat_of_zero_le (Int.le_trans h0 hac)
  simp only [Int.toNat_natCast] at h
  refine setItem_slice (a := a') (c := c') e e2 hne hs (.int _ _) (.int _ _) (by omega) (by rw [List.size_toArray]; omega) (by rw [List.size_toArray, List.size_toArray]; omega) (h _ ?_)
  refine I.lset (its' := its.take a' ++ its2 ++ its.drop c') (t' := s.toks) hH e ?_ (Vals.append (Vals.append (r.take _) r2) (r.drop _)) ?_
  · exact splice_eq its its2 a' c'
  · rw [List.length_append, List.length_append, List.length_take, List.length_drop]
    omega
end
end L2

namespace Att
open PySem PySem.W PySem.Calls PyProof.Rows

/-! ### the script -/
theorem ints_of_wellAll {P : Params} {h : Heap} : ∀ (ns : List Int) (vs : List Value), WellAll P h vs (ns.map WData.int) → IntsAre vs ns := by
  intro ns
  induction ns with
  | nil =>
    intro vs w
    rw [List.map_nil] at w
    cases w
    exact .nil
  | cons n ns ih =>
    intro vs w
    rw [List.map_cons] at w
    cases w with
    | cons a b =>
      cases a
      exact .cons _ _ (ih _ b)

theorem script_of {l : OpenLaw} {n : Nat} (hn : l.most = some n) {P : Params} {h : Heap} {args : List WData} {vals : List Value}
    (hpre : l.row.toRowW.claim.pre args = true) (hwl : WellAll P h vals args) :
    ∃ a vs ns, vals = [Value.ref a] ∧ args = [WData.list (ns.map WData.int)] ∧ h.get? a = some { cls := .type "list", data := .seq vs.toArray } ∧ IntsAre vs ns ∧ ns.length ≤ n := by
  have hsh : WShape.hasAll [] args [.list .int] = true := (pre_splitW hpre).1
  have hc : l.pre.holds [] { args := args } = true := (pre_splitW hpre).2
  obtain ⟨d, r, rfl, h1, h2⟩ := hasAllW_cons hsh
  obtain rfl := hasAllW_nil h2
  obtain ⟨xs, rfl, h3⟩ := hasW_list h1
  obtain ⟨ns, rfl⟩ := items_int h3
  have hlen : ns.length ≤ n := by
    unfold OpenLaw.pre at hc
    have h4 : (WTm.not (.lt (.lit (.int (n : Int))) (.len (.arg 0)))).holds [] { args := [.list (ns.map .int)] } = true := by
      have h4 := (holds_andW hc).1
      rw [hn] at h4
      exact h4
    have h5 := condW_of h4 (w_not (w_lt w_lit (w_len_list (w_arg rfl))))
    rw [List.length_map] at h5
    refine Nat.le_of_not_lt fun q => ?_
    have q' : (n : Int) < ((ns.length : Nat) : Int) := by omega
    first
      | (rw [decide_eq_true q'] at h5; exact absurd h5 (by decide))
      | (simp at h5; omega)
  cases hwl with
  | cons w1 w2 =>
    cases w2
    cases w1 with
    | list ho hall => exact ⟨_, _, ns, rfl, rfl, ho, ints_of_wellAll ns _ hall, hlen⟩

theorem post_true (l : OpenLaw) (args : List WData) : l.row.toRowW.claim.post args (.bool true) args = true :=
  postW_of (r := l.row.toRowW) (X := (true == true))
    (show WShape.has [] (.bool true) .bool = true by first | rfl | decide | simp [WShape.has, WShape.arms, WShape.armsAll])
    (show (WTm.eq .res (.lit (.bool true))).value [] { args := args, res := some (.bool true), after := args } = some (.bool (true == true)) from w_eq_bool (w_res rfl) w_lit) rfl

/-! ### the attachment: holds_open's last premise (the goal 'hc' behind k_head) from a wpAny of the law's body -/
theorem attach {l : OpenLaw} {n : Nat} {q : Program} {loose : List Str} {XP : (Str → Option Value) → Heap → Prop} {YP : World → Heap → Prop} {d : DefRec} {x : Str}
    (hn : l.most = some n) (hdf : d.params.defaults = [])
    (hbind : ∀ pm cd doc v : Value, bindArgs (docDef d.name d.params d.body d.scope pm cd doc) ⟨[v], []⟩ = pure [(x, v)])
    (hx : d.scope.names.lookup x = some .local ∨ d.scope.names.lookup x = some .cell)
    (hk : d.scope.kind = .function) (hco : d.scope.isCoroutine = false) (hgen : d.scope.isGenerator = false)
    (body : ∀ (w : World) (s₀ s₁ s : Shared) (mg mb : Str → Option Value) (fa : Addr) (o : Obj) (pm cd doc : Value) (a : Addr) (vs : List Value) (ns : List Int),
      Ground q loose [] XP w s₀ mg mb s₁.heap → YP w s₁.heap →
      s₁.heap.get? fa = some o → o.data = .func (docDef d.name d.params d.body d.scope pm cd doc) → s₁.heap.CodeRec cd d.name → mg d.name = some (.ref fa) →
      s₁.heap.get? a = some { cls := .type "list", data := .seq vs.toArray } → IntsAre vs ns → ns.length ≤ n →
      s.gens = #[] → s.os = s₁.os →
      Fr s₁.heap s₁.heap.objs.size s.heap (bindL (envOfC d.name d.scope s₁.heap.objs.size fa cd).kindOf [(x, .ref a)] fun _ => none) →
      Cl s₁.heap.objs.size (cellsFrom (s₁.heap.objs.size + 1) d.scope.names []) s.heap (bindC (envOfC d.name d.scope s₁.heap.objs.size fa cd).kindOf [(x, .ref a)] fun _ => none) →
      wpAny (model l.prog w) (callerA.deeper (envOfC d.name d.scope s₁.heap.objs.size fa cd)) (execs d.body (envOfC d.name d.scope s₁.heap.objs.size fa cd))
        (fun f s' => f = .ret (.bool true) ∧ OldK s₁.heap s'.heap ∧ s'.os = s₁.os ∧ AllBare s'.gens) (fun _ _ => False) s) :
    WalkO q loose XP YP l.row.toRowW d [] (fun f vs => PySem.call f vs) := by
  intro w s₀ s₁ mg mb G Y fa o pm cd doc dV kV ho hd hcd hD hmg hg args vals as hpre hlay hrd hwl hlo
  obtain rfl : dV = .none := Dflts.none hD hdf
  obtain rfl : kV = .none := Dflts.noKw hD
  obtain ⟨a, vs, ns, rfl, rfl, hobj, hints, hlen⟩ := script_of hn hpre hwl
  refine enter_call ?_
  refine call_cells_ret (o := o) (by rw [depth_caller]; decide) ho (fd_plain hd) G.T.nolimit hcd (hbind pm cd doc (.ref a)) (fun y hy => ?_) (fun h₁ tk F X => ?_) hco hgen hk
  · obtain rfl : y = (x, Value.ref a) := List.mem_singleton.mp hy
    rcases hx with e | e
    · exact .inl e
    · exact .inr ⟨e, cellsFrom_some _ _ _ (.inl e)⟩
  · refine wpAny_mono (body w s₀ s₁ { s₁ with heap := h₁, toks := tk } mg mb fa o pm cd doc a vs ns G Y ho (fd_plain hd) hcd hmg hobj hints hlen hg rfl F X) (fun f s' hq => ?_) (fun _ _ hq => hq)
    obtain ⟨rfl, h2, h3, h4⟩ := hq
    exact ⟨.inl ⟨.bool true, .bool true, [], rfl, fun _ => rfl, .bool true, post_true l _, fun _ => ⟨List.Pairwise.nil, fun _ hm => (nomatch hm)⟩⟩, h2, h3, h4⟩

/-- the same from a codeAny of the CALL (for a layer whose function contracts speak of calls) -/
theorem attach_call {l : OpenLaw} {n : Nat} {q : Program} {loose : List Str} {XP : (Str → Option Value) → Heap → Prop} {YP : World → Heap → Prop} {d : DefRec}
    (hn : l.most = some n) (hdf : d.params.defaults = [])
    (call : ∀ (w : World) (s₀ s₁ : Shared) (mg mb : Str → Option Value) (fa : Addr) (o : Obj) (pm cd doc : Value) (a : Addr) (vs : List Value) (ns : List Int),
      Ground q loose [] XP w s₀ mg mb s₁.heap → YP w s₁.heap →
      s₁.heap.get? fa = some o → o.data = .func (docDef d.name d.params d.body d.scope pm cd doc) → s₁.heap.CodeRec cd d.name → mg d.name = some (.ref fa) →
      s₁.heap.get? a = some { cls := .type "list", data := .seq vs.toArray } → IntsAre vs ns → ns.length ≤ n → s₁.gens = #[] →
      codeAny (model l.prog w) callerA (.call (.ref fa) ⟨[.ref a], []⟩) (fun r s' => r = .ok (.ret (.bool true)) ∧ OldK s₁.heap s'.heap ∧ s'.os = s₁.os ∧ AllBare s'.gens) s₁) :
    WalkO q loose XP YP l.row.toRowW d [] (fun f vs => PySem.call f vs) := by
  intro w s₀ s₁ mg mb G Y fa o pm cd doc dV kV ho hd hcd hD hmg hg args vals as hpre hlay hrd hwl hlo
  obtain rfl : dV = .none := Dflts.none hD hdf
  obtain rfl : kV = .none := Dflts.noKw hD
  obtain ⟨a, vs, ns, rfl, rfl, hobj, hints, hlen⟩ := script_of hn hpre hwl
  refine enter_call (codeAny_mono (call w s₀ s₁ mg mb fa o pm cd doc a vs ns G Y ho (fd_plain hd) hcd hmg hobj hints hlen hg) fun r s' hq => ?_)
  obtain ⟨rfl, h2, h3, h4⟩ := hq
  exact ⟨.inl ⟨.bool true, .bool true, [], rfl, fun _ => rfl, .bool true, post_true l _, fun _ => ⟨List.Pairwise.nil, fun _ hm => (nomatch hm)⟩⟩, h2, h3, h4⟩

/-- the same where the top left finished generators (o_head chose holds_openN): nothing may have changed at all and no generator may be left -/
theorem attachN {l : OpenLaw} {n : Nat} {q : Program} {loose : List Str} {XP : (Str → Option Value) → Heap → Prop} {YP : World → Heap → Prop} {d : DefRec} {x : Str}
    (hn : l.most = some n) (hdf : d.params.defaults = [])
    (hbind : ∀ pm cd doc v : Value, bindArgs (docDef d.name d.params d.body d.scope pm cd doc) ⟨[v], []⟩ = pure [(x, v)])
    (hx : d.scope.names.lookup x = some .local ∨ d.scope.names.lookup x = some .cell)
    (hk : d.scope.kind = .function) (hco : d.scope.isCoroutine = false) (hgen : d.scope.isGenerator = false)
    (body : ∀ (w : World) (s₀ s₁ s : Shared) (mg mb : Str → Option Value) (fa : Addr) (o : Obj) (pm cd doc : Value) (a : Addr) (vs : List Value) (ns : List Int),
      Ground q loose [] XP w s₀ mg mb s₁.heap → YP w s₁.heap →
      s₁.heap.get? fa = some o → o.data = .func (docDef d.name d.params d.body d.scope pm cd doc) → s₁.heap.CodeRec cd d.name → mg d.name = some (.ref fa) →
      s₁.heap.get? a = some { cls := .type "list", data := .seq vs.toArray } → IntsAre vs ns → ns.length ≤ n →
      s.gens = #[] → s.os = s₁.os →
      Fr s₁.heap s₁.heap.objs.size s.heap (bindL (envOfC d.name d.scope s₁.heap.objs.size fa cd).kindOf [(x, .ref a)] fun _ => none) →
      Cl s₁.heap.objs.size (cellsFrom (s₁.heap.objs.size + 1) d.scope.names []) s.heap (bindC (envOfC d.name d.scope s₁.heap.objs.size fa cd).kindOf [(x, .ref a)] fun _ => none) →
      wpAny (model l.prog w) (callerA.deeper (envOfC d.name d.scope s₁.heap.objs.size fa cd)) (execs d.body (envOfC d.name d.scope s₁.heap.objs.size fa cd))
        (fun f s' => f = .ret (.bool true) ∧ (∀ b o, s₁.heap.get? b = some o → s'.heap.get? b = some o) ∧ s'.os = s₁.os ∧ s'.gens = #[]) (fun _ _ => False) s) :
    WalkN q loose XP YP l.row.toRowW d [] (fun f vs => PySem.call f vs) := by
  intro w s₀ s₁ mg mb G Y fa o pm cd doc dV kV ho hd hcd hD hmg hg args vals as hpre hlay hrd hwl hlo
  obtain rfl : dV = .none := Dflts.none hD hdf
  obtain rfl : kV = .none := Dflts.noKw hD
  obtain ⟨a, vs, ns, rfl, rfl, hobj, hints, hlen⟩ := script_of hn hpre hwl
  refine enter_callW ?_
  refine call_cells_ret (o := o) (by rw [depth_caller]; decide) ho (fd_plain hd) G.T.nolimit hcd (hbind pm cd doc (.ref a)) (fun y hy => ?_) (fun h₁ tk F X => ?_) hco hgen hk
  · obtain rfl : y = (x, Value.ref a) := List.mem_singleton.mp hy
    rcases hx with e | e
    · exact .inl e
    · exact .inr ⟨e, cellsFrom_some _ _ _ (.inl e)⟩
  · refine wpAny_mono (body w s₀ s₁ { s₁ with heap := h₁, toks := tk } mg mb fa o pm cd doc a vs ns G Y ho (fd_plain hd) hcd hmg hobj hints hlen hg rfl F X) (fun f s' hq => ?_) (fun _ _ hq => hq)
    obtain ⟨rfl, h2, h3, h4⟩ := hq
    exact ⟨.inl ⟨.bool true, .bool true, [], rfl, fun _ => rfl, .bool true, post_true l _, fun _ => ⟨List.Pairwise.nil, fun _ hm => (nomatch hm)⟩⟩, h2, h3, h4⟩

/-! ### rules over ANY heap (no ledger) from facts about the written part K: the library's own take a ledger (News) for what they write -/
section
variable {prog : Program} {w : World} {A : Around} {E : Value → Shared → Prop} {s : Shared} {K : Frag}

/-- a def of the module, or a method (qual 'C.m'), entered: the frame is the next address; cells behind it -/
theorem call_fn {R : Result → Shared → Prop} {name qual : Str} {params : Arguments} {body : List Stmt} {scope : Scope} {dV kV doc pm cdv ct oc : Value} {an od : Option Addr} {osl : Array (Option Value)} {f : Addr} {args : Args} {binds : List (Str × Value)}
    (X : K.In s.heap) (hlim : s.heap.NoLimit) (ho : K.lookup f = some ⟨oc, od, .func (fnOf name qual params body scope dV kV doc pm an cdv ct), osl⟩) (hcd : codeIn K cdv qual = true) (hroom : A.depth < recursionLimit)
    (hbind : BindsTo s (fnOf name qual params body scope dV kV doc pm an cdv ct) args binds)
    (hkind : (binds.all fun y => scope.names.lookup y.1 == some .local || scope.names.lookup y.1 == some .cell) = true)
    (h : ∀ s₁, InCallC s s.heap.objs.size (bindL (envOfC qual scope s.heap.objs.size f cdv).kindOf binds fun _ => none) (cellsFrom (s.heap.objs.size + 1) scope.names [])
        (bindC (envOfC qual scope s.heap.objs.size f cdv).kindOf binds fun _ => none) s₁ →
      wpAny (model prog w) (A.deeper (envOfC qual scope s.heap.objs.size f cdv)) (execs body (envOfC qual scope s.heap.objs.size f cdv))
        (fun fl s' => R (.ok (.ret (match fl with | .ret v => v | _ => .none))) s')
        (fun e s' => wpAny (model prog w) (A.deeper (envOfC qual scope s.heap.objs.size f cdv)) (leaving (envOfC qual scope s.heap.objs.size f cdv) e) (fun _ s'' => R (.error e) s'') (fun e' s'' => R (.error e') s'') s') s₁)
    (hco : scope.isCoroutine = false) (hgen : scope.isGenerator = false) (hk : scope.kind = .function) : codeAny (model prog w) A (.call (.ref f) args) R s := by
  refine codeAny_call_function hroom (X _ _ ho) rfl hco hgen rfl (codeRec_of X hcd) (hbind _ _ _ _ ?_)
  refine wpAny_newFunctionEnv_cells hk (kindsX hkind _) fun env he s₁ x => ?_
  subst he
  exact ⟨hlim.keeps x.toInCall.keep, codeAny_func (h s₁ x)⟩

/-- C(..): dict at size, instance at size + 1, then __init__ -/
theorem make_obj {R : Result → Shared → Prop} {C fI : Addr} {rest : List Value} {kw : List (Str × Value)}
    (X : K.In s.heap) (hm : makesIn K C = true) (hi : findIn K (.ref C) "__init__" = some (some (.ref fI))) (hf : isFn K (.ref fI) = true)
    (h : codeAny (model prog w) (A.under (.builtin "type.__call__" ⟨.ref C :: rest, kw⟩)) (.call (.ref fI) ⟨.ref (s.heap.objs.size + 1) :: rest, kw⟩) (InitBack (s.heap.objs.size + 1) R)
      { s with heap := (s.heap.push emptyDict).push (instObj C s.heap.objs.size) }) : codeAny (model prog w) A (.call (.ref C) ⟨rest, kw⟩) R s := by
  obtain ⟨hh, g, d, t, os⟩ := s
  exact make_core (makes_of X hm) (looks_findIn X hi) (fun self => bind_fn X self (beq_iff_eq.mp hf)) (.inl rfl) h

/-- x.name where the instance's dict holds the name and the class does not -/
theorem get_field {x C : Addr} {ox : Obj} {es : List DictEntry} {n : Nat} {name : Str} {expr : Bool} {v : Value} {Q : Value → Shared → Prop}
    (X : K.In s.heap) (I : PySem.W.InstAt s.heap x ox C (some (dictOf es n))) (hg : plainGet K C name = true) (hh : hasDictIn K C = true) (ha : findIn K (.ref C) name = some none)
    (hl : getL name es = some (some v)) (hv : handedIn v = true) (h : Q v { s with toks := s.toks + 1 }) : wpAny (model prog w) A (getAttr (.ref x) name expr) Q E s :=
  get_value X I (plainGet_of hg).1 (findObj_own hh ha rfl hl) hv h

/-- x.m(..): the method found in the class -/
theorem get_method {x C f : Addr} {ox : Obj} {es : List DictEntry} {n : Nat} {name : Str} {pl : Sem Bool} {Q : Value × List Value → Shared → Prop}
    (X : K.In s.heap) (I : PySem.W.InstAt s.heap x ox C (some (dictOf es n))) (hg : plainGet K C name = true) (hf : findIn K (.ref C) name = some (some (.ref f))) (ht : isFn K (.ref f) = true)
    (hl : getL name es = some none) (h : Q (.ref f, [.ref x]) s) : wpAny (model prog w) A (getMethod (.ref x) name pl) Q E s :=
  method_fn X I (plainGet_of hg).1 (plainGet_of hg).2 hf (beq_iff_eq.mp ht) (by show (lookIn name (dictOf es n)).map _ = _; rw [lookIn_dict, hl]; rfl) h

/-! the whole heap as the ledger: makes every rule that writes through a ledger a rule over any heap -/
def noObjs (h : Heap) : Heap := { h with objs := #[] }
theorem noObjs_get (h : Heap) (b : Addr) : (noObjs h).get? b = none := by
  cases e : (noObjs h).get? b with
  | none => rfl
  | some o => exact absurd (Heap.lt_size e) (Nat.not_lt_zero _)
def ledger (h : Heap) (L d : Addr) : List (Addr × Obj) := (List.range h.objs.size).filterMap fun a => if a = L ∨ a = d then none else (h.get? a).map fun o => (a, o)
theorem mem_ledger {h : Heap} {L d a : Addr} {o : Obj} : (a, o) ∈ ledger h L d ↔ a ≠ L ∧ a ≠ d ∧ h.get? a = some o := by
  unfold ledger
  rw [List.mem_filterMap]
  constructor
  · rintro ⟨b, _, e⟩
    split at e
    · cases e
    · rename_i hb
      obtain ⟨o', ho, e'⟩ := Option.map_eq_some_iff.mp e
      cases e'
      exact ⟨fun q => hb (.inl q), fun q => hb (.inr q), ho⟩
  · rintro ⟨n1, n2, ho⟩
    refine ⟨a, List.mem_range.mpr (Heap.lt_size ho), ?_⟩
    rw [if_neg (show ¬ (a = L ∨ a = d) from fun q => q.elim n1 n2), ho] <;> rfl
theorem news_ledger {h : Heap} {L d : Addr} {od : Obj} (hne : d ≠ L) (ho : h.get? d = some od) : News (noObjs h) L h ([] ++ (d, od) :: ledger h L d) := by
  rintro ⟨a, o⟩ hp
  rcases List.mem_cons.mp hp with e | hp
  · cases e
    exact ⟨ho, hne, noObjs_get _ _⟩
  · obtain ⟨n1, n2, e⟩ := mem_ledger.mp hp
    exact ⟨e, n1, noObjs_get _ _⟩
theorem fr_all {h : Heap} {L : Addr} {m : Str → Option Value} (n : h.Ns L m) : Fr (noObjs h) L h m :=
  ⟨n, fun b o e => (by rw [noObjs_get] at e; cases e), Nat.zero_le _⟩
/-- Upd of the head entry (for append_K, setItem_K ..) -/
theorem upd_ledger {h : Heap} {L d : Addr} {o o' : Obj} : Upd d o o' ((d, o) :: ledger h L d) ((d, o') :: ledger h L d) :=
  .head fun ⟨_, _⟩ hp => (mem_ledger.mp hp).2.1

/-- x.name = v over any heap: L is any namespace of the heap (the frame's, say): its map stays, its object is not told; all else but the dict stays -/
theorem set_field {x C dx L : Addr} {ox : Obj} {m : Str → Option Value} {es es' : List DictEntry} {n n' : Nat} {name : Str} {v : Value} {Q : Unit → Shared → Prop}
    (X : K.In s.heap) (I : PySem.W.InstAt s.heap x ox C (some (dictOf es n))) (hd : ox.dict = some dx) (hL : s.heap.Ns L m) (hne : dx ≠ L)
    (hs : findIn K (.ref C) "__setattr__" = some (some (.builtin "object.__setattr__"))) (hp : plainOver K C = true) (ht : takerIn K C name = some none) (hh : hasDictIn K C = true) (hl : (getL name es).isSome = true)
    (e : (putL name (PyData.keyHash w.params name) (.str name (s.toks + 1)) v es, putN name es n) = (es', n')) (hz : es'.length ≤ 1000)
    (h : ∀ h' : Heap, h'.Ns L m → h'.get? dx = some (dictOf es' n') → (∀ b o, b ≠ dx → b ≠ L → s.heap.get? b = some o → h'.get? b = some o) → Q () { s with heap := h', toks := s.toks + 2 }) :
    wpAny (model prog w) A (setAttr (.ref x) name v) Q E s := by
  obtain ⟨e1, e2⟩ := Prod.mk.inj e
  have hdx : s.heap.get? dx = some (dictOf es n) := by
    have := I.dict
    rw [hd] at this
    exact this
  refine set_plain X I hs (osa_dict (s := { s with toks := s.toks + 1 }) (h₀ := noObjs s.heap) (L := L) (m := m) (od := dictOf es n) (od' := dictOf es' n') (es := es') (n := n') (pre := []) (post := ledger s.heap L dx)
    (fr_all hL) (news_ledger hne hdx) X I hd hp ht hh hl (fun _ q => nomatch q) (fun ⟨_, _⟩ q => (mem_ledger.mp q).2.1) (by rw [putName_dict, e1, e2]) rfl hz fun h' F' N' => ?_)
  exact h h' F'.ns (N'.get (List.Mem.head _)) fun b o n1 n2 ho => N'.get (List.Mem.tail _ (mem_ledger.mpr ⟨n2, n1, ho⟩))
end
end Att

namespace L2
open PySem PySem.Spec PyProof.Rows

theorem vals_ints : ∀ {vs : List Value} {ns : List Int}, IntsAre vs ns → Vals (ns.map V.int) vs
  | _, _, .nil => .nil
  | _, _, .cons n t h => .cons ⟨t, rfl⟩ (vals_ints h)

/-- nothing is tracked but the script, known to the object (or it is an object of the module) -/
def Only (H : Hp) : Prop := ∀ b, H b = none ∨ ∃ o xs, H b = some (.frz o (.lst xs))

/-- THE HEAD: the law's promise, at the heap behind the top. F, the promise of the law's def, may use that base is part of the heap (so K.In base, base.Ns mainGlobals mg stand in Mod) -/
theorem law_call {P : Program} {w : World} {K : PySem.W.Frag} {mg mb : Str → Option Value} {CX : CXT} {k : Nat} {fa a : Addr} {fd : FuncData} {x : Str} {sp : Sp} {s₁ : Shared} {vs : List Value} {ns : List Int}
    (KX : K.In s₁.heap) (hns : s₁.heap.Ns mainGlobals mg) (hb : s₁.heap.Ns builtinsNs mb) (hbb : ∀ x : Str, x ≠ "__name__" → mb x = bootBuiltins x) (hlim : s₁.heap.NoLimit) (hg : s₁.gens = #[])
    (ha : s₁.heap.get? a = some { cls := .type "list", data := .seq vs.toArray }) (hi : IntsAre vs ns) (hl : ns.length ≤ sizeLine) (hr : Room k callerA)
    (F : ∀ base : Heap, K.In base → base.Ns mainGlobals mg → FnOk P w K mg base CX k fa fd [x] sp) (hbind : ∀ (s : Shared) (u : Value), BindsTo s fd ⟨[u], []⟩ [(x, u)])
    (hsp : ∀ H : Hp, Only H → SqL K H a (ns.map V.int) → sp [.ref a] H (fun v _ => v = .bl true) fun _ _ _ => False)
    (hCX : ∀ H e s', CX [] H s₁ (fun _ _ _ => False) e s' → False) :
    codeAny (model P w) callerA (.call (.ref fa) ⟨[.ref a], []⟩) (fun r s' => r = .ok (.ret (.bool true)) ∧ OldK s₁.heap s'.heap ∧ s'.os = s₁.os ∧ AllBare s'.gens) s₁ := by
  have rv := vals_ints hi
  have lenV := hi.length
  -- from an abstract heap in which nothing but the script may be tracked
  have core : ∀ H : Hp, Only H → SqL K H a (ns.map V.int) → HOk P w H s₁.heap → (∀ b, H b ≠ none → b = a) → (H a ≠ none → K.lookup a = none) →
      codeAny (model P w) callerA (.call (.ref fa) ⟨[.ref a], []⟩) (fun r s' => r = .ok (.ret (.bool true)) ∧ OldK s₁.heap s'.heap ∧ s'.os = s₁.os ∧ AllBare s'.gens) s₁ := by
    intro H hO hS hok hA hK
    have base_of : ∀ {b : Addr} {o : Obj}, s₁.heap.get? b = some o → H b = none → (hidT s₁.heap H).get? b = some o := fun e n => hidT_get e n
    have noA : ∀ {b : Addr} {o : Obj} {es : Array DictEntry} {ep : Nat}, s₁.heap.get? b = some o → o.data = .dict es ep → H b = none := fun {b o es ep} e d => by
      cases q : H b with
      | none => rfl
      | some u =>
        have e' : b = a := hA b (by rw [q]; simp)
        subst e'
        rw [ha] at e; cases e
        have d' : Data.seq vs.toArray _ = Data.dict es ep := d
        cases d'
    have nsK : ∀ {b : Addr} {m : Str → Option Value}, s₁.heap.Ns b m → (hidT s₁.heap H).Ns b m := fun {b m} ⟨o, es, ep, e, d, r⟩ => ⟨o, es, ep, base_of e (noA e d), d, r⟩
    have hKb : K.In (hidT s₁.heap H) := fun b o e => base_of (KX b o e) (by
      cases q : H b with
      | none => rfl
      | some u =>
        have e' : b = a := hA b (by rw [q]; simp)
        subst e'
        rw [hK (by rw [q]; simp)] at e; cases e)
    have hM : Mod K mg (hidT s₁.heap H) := ⟨hKb, nsK hns, ⟨mb, nsK hb, hbb⟩, let ⟨mc, h1, h2⟩ := hlim; ⟨mc, nsK h1, h2⟩⟩
    have e0 : Env0 P w K mg (hidT s₁.heap H) callerA [] s₁ H := ⟨rfl, hM, fun b o e => of_hidT e, Nat.le_of_eq (hidT_size _ _), trivial, fun b hb => absurd (show b ∈ ([] : List Addr) from hb) (by simp), hok, .of_eq hg⟩
    refine codeAny_mono ((F _ hKb (nsK hns)).run callerA [] s₁ H ⟨[.ref a], []⟩ [.ref a] [.ref a] _ _ hr e0 (hbind s₁ (.ref a)) (.cons rfl .nil) (hsp H hO hS)) fun r s' h => ?_
    cases r with
    | error e => exact (hCX H e s' h).elim
    | ok fl =>
      cases fl with
      | next => exact False.elim h
      | brk => exact False.elim h
      | cont => exact False.elim h
      | ret u =>
        obtain ⟨v, H', os, bare, un, hok', r', q⟩ := h
        have q' : v = .bl true := q
        subst q'
        obtain rfl : u = Value.bool true := r'
        refine ⟨rfl, OldK.of_keep fun b o e => ?_, os, bare⟩
        cases q : H b with
        | none => exact un.keep b o e q (by intro z; exact absurd (show b ∈ ([] : List Addr) from z) (by simp)) (by simp)
        | some u =>
          rcases hO b with z | ⟨ob, xs, z⟩
          · rw [q] at z; cases z
          · have z2 := un.frzs b ob _ z
            obtain ⟨e1, _⟩ := hok b _ z
            obtain ⟨e2, _⟩ := hok' b _ z2
            rw [e] at e1; cases e1
            exact e2
  cases hk : K.lookup a with
  | some o =>
    -- the script is one of the module's own objects
    have e := KX a o hk
    rw [ha] at e
    cases e
    refine core (fun _ => none) (fun _ => .inl rfl) (.inr ⟨_, vs.toArray, _, hk, rfl, rfl, rfl, by rw [List.size_toArray, lenV]; exact hl, by simpa using rv⟩) (fun b u z => by have z' : (none : Option HO) = some u := z; cases z') (fun b z => absurd rfl z) fun z => absurd rfl z
  | none =>
    refine core (fun b => if b = a then some (.frz { cls := .type "list", data := .seq vs.toArray } (.lst (ns.map V.int))) else none) (fun b => ?_) (.inl (.inr ⟨{ cls := .type "list", data := .seq vs.toArray }, if_pos rfl⟩)) (fun b u z => ?_) (fun b z => ?_) fun _ => hk
    · by_cases hb : b = a
      · exact .inr ⟨_, _, if_pos hb⟩
      · exact .inl (if_neg hb)
    · by_cases hb : b = a
      · have z' := (if_pos hb).symm.trans z
        cases z'
        subst hb
        exact ⟨ha, by rw [List.length_map]; exact hl, vs, _, rv, ha⟩
      · have z' := (if_neg hb).symm.trans z
        cases z'
    · by_cases hb : b = a
      · exact hb
      · exact absurd (if_neg hb) z
end L2

namespace L2
open PySem PySem.Spec PyProof.Rows

abbrev KOf {K : PySem.W.Frag} {h : Heap} (_ : K.In h) : PySem.W.Frag := K

/-- the goal that k_head leaves (case hc), from the law's promise. F gives the function object fd (K's own) once, then the promise over every base -/
theorem walk_of {l : PySem.W.OpenLaw} {n k : Nat} {q : Program} {loose : List Str} {XP : (Str → Option Value) → Heap → Prop} {YP : World → Heap → Prop} {d : DefRec} {K : Params → PySem.W.Frag} {CX : World → CXT} {sp : World → Sp} {x : Str}
    (hn : l.most = some n) (hn2 : n ≤ sizeLine) (hdf : d.params.defaults = []) (hr : Room k callerA)
    (hY : ∀ (w : World) (h : Heap), YP w h → (K w.params).In h)
    (F : ∀ (w : World) (mg : Str → Option Value) (fa : Addr) (h : Heap), (K w.params).In h → h.Ns mainGlobals mg → mg d.name = some (.ref fa) →
      ∃ fd : FuncData, (∀ (s : Shared) (u : Value), BindsTo s fd ⟨[u], []⟩ [(x, u)]) ∧
        ∀ base : Heap, (K w.params).In base → base.Ns mainGlobals mg → FnOk l.prog w (K w.params) mg base (CX w) k fa fd [x] (sp w))
    (hsp : ∀ (w : World) (H : Hp) (a : Addr) (ns : List Int), ns.length ≤ n → Only H → SqL (K w.params) H a (ns.map V.int) → sp w [.ref a] H (fun v _ => v = .bl true) fun _ _ _ => False)
    (hCX : ∀ (w : World) (H : Hp) (s : Shared) (e : Value) (s' : Shared), CX w [] H s (fun _ _ _ => False) e s' → False) :
    PySem.W.WalkO q loose XP YP l.row.toRowW d [] (fun f vs => PySem.call f vs) := by
  refine Att.attach_call hn hdf fun w s₀ s₁ mg mb fa o pm cd doc a vs ns G Y ho hd hcd hmg hobj hints hlen hg => ?_
  have KX := hY w _ Y
  obtain ⟨fd, hb, hF⟩ := F w mg fa _ KX G.T.g hmg
  exact law_call KX G.T.g G.T.b G.T.builtins G.T.nolimit hg hobj hints (Nat.le_trans hlen hn2) hr hF hb (fun H hO hS => hsp w H a ns hlen hO hS) fun H e s' => hCX w H s₁ e s'
/-- the same where the promise hangs on the written part alone: (sp := My.sp_law), no hole under a binder -/
theorem walk_ofK {l : PySem.W.OpenLaw} {n k : Nat} {q : Program} {loose : List Str} {XP : (Str → Option Value) → Heap → Prop} {YP : World → Heap → Prop} {d : DefRec} {K : Params → PySem.W.Frag} {CX : CXT} {sp : PySem.W.Frag → Sp} {x : Str}
    (hn : l.most = some n) (hn2 : n ≤ sizeLine) (hdf : d.params.defaults = []) (hr : Room k callerA)
    (hY : ∀ (w : World) (h : Heap), YP w h → (K w.params).In h)
    (F : ∀ (w : World) (mg : Str → Option Value) (fa : Addr) (h : Heap), (K w.params).In h → h.Ns mainGlobals mg → mg d.name = some (.ref fa) →
      ∃ fd : FuncData, (∀ (s : Shared) (u : Value), BindsTo s fd ⟨[u], []⟩ [(x, u)]) ∧
        ∀ base : Heap, (K w.params).In base → base.Ns mainGlobals mg → FnOk l.prog w (K w.params) mg base CX k fa fd [x] (sp (K w.params)))
    (hsp : ∀ (K : PySem.W.Frag) (H : Hp) (a : Addr) (ns : List Int), ns.length ≤ n → Only H → SqL K H a (ns.map V.int) → sp K [.ref a] H (fun v _ => v = .bl true) fun _ _ _ => False)
    (hCX : ∀ (H : Hp) (s : Shared) (e : Value) (s' : Shared), CX [] H s (fun _ _ _ => False) e s' → False) :
    PySem.W.WalkO q loose XP YP l.row.toRowW d [] (fun f vs => PySem.call f vs) :=
  walk_of (K := K) (CX := fun _ => CX) (sp := fun w => sp (K w.params)) hn hn2 hdf hr hY F (fun w H a ns h1 h2 h3 => hsp (K w.params) H a ns h1 h2 h3) fun _ H s e s' => hCX H s e s'
end L2

/- THE LAST THEOREM (shape; LID, My.* are yours):
   My.Adr: a structure of the addresses that your layer names (classes, functions); My.Txt K t: a structure (Prop) of the equations over K;
   My.txt_mk : {K} {implicit addresses ..} (e1 : nsIn K mainGlobals "law" = some (some (.ref f))) (e2 : K.lookup f = some ⟨oc, od, .func (fnOf "law" "law" params body scope dV kV doc pm an cdv ct), sl⟩) (e3 : codeIn K cdv "law" = true) .. : ∃ t, My.Txt K t

set_option maxRecDepth 100000 in
set_option maxHeartbeats 0 in
theorem PySem.Challenge.cw_LID_holds : PySem.Challenge.rw_LID.Holds := by
  w_on; o_law; k_head; (case hw => w_witness2)
  k_fill
  refine L2.walk_of (l := PySem.Challenge.rw_LID) (n := 63) (k := 40) (x := "script") (CX := fun w => ..) (sp := fun _ => My.sp_law) rfl (by decide) rfl ⟨rfl, by decide, by decide⟩ (fun w h Y => PySem.W.kIn_of Y) ?F ?S ?C
  case F =>
    intro w mg fa h KX G hmg
    have T : ∃ t, My.Txt (L2.KOf KX) t := by
      dsimp only [L2.KOf]                          -- K must stand as «<heap const> w.params» for k_is
      refine' My.txt_mk ?e1 ?e2 ?e3 ..
      (case e1 => PySem.W.k_is)                    -- in the order: a name -> its address -> its object -> its parts
      (case e2 => PySem.W.k_is)
      ..
    obtain ⟨t, T⟩ := T
    have e0 := hmg.symm.trans (PySem.W.mg_of KX G T.law)
    cases e0                                       -- fa is the law's own address
    exact ⟨_, fun s u => .of_eq rfl, fun base kb nb => My.law_fn T kb nb⟩     -- if «.of_eq rfl» comes too early: refine' ⟨_, ?b, fun base kb nb => My.law_fn T kb nb⟩; exact fun s u => .of_eq rfl
  case S => exact fun w H a ns hl hO hS => ..
  case C => exact ..
(the tactic k_is has no namespace: write k_is) -/

/-! SHORT WORDS over the layer: a def of the text, its body, what a loop and a test want. -/
namespace L2
open PySem PySem.Spec PyProof.Rows

/-! ### the text by places -/
/-- the j-th statement of a class's body -/
def inClass (s : Stmt) (j : Nat) : Stmt := match s with
  | .ClassDef _ _ _ body _ _ _ _ _ _ _ => body.getD j (.Pass ⟨0, 0, 0, 0⟩)
  | _ => .Pass ⟨0, 0, 0, 0⟩
def defArgs (s : Stmt) : Arguments := match s with
  | .FunctionDef _ a _ _ _ _ _ _ _ _ => a
  | _ => { posonlyargs := [], args := [], vararg := none, kwonlyargs := [], kw_defaults := [], kwarg := none, defaults := [] }
def defBody (s : Stmt) : List Stmt := match s with
  | .FunctionDef _ _ b _ _ _ _ _ _ _ => b
  | _ => []
def defScope (s : Stmt) : Scope := match s with
  | .FunctionDef _ _ _ _ _ _ sc _ _ _ => sc
  | _ => { kind := .function, names := [], isGenerator := false, isCoroutine := false }

/-! ### no exception leaves a def -/
abbrev CX0 : CXT := fun _ _ _ _ _ _ => False
abbrev E0 : XK := fun _ _ _ => False
theorem pass0 {X : Cx} : Passes CX0 X E0 := fun _ _ _ _ _ _ _ h => h.elim

/-! ### a def (or method) of the text as it stands behind the top -/
structure Fun (K : PySem.W.Frag) (x qual : Str) (st : Stmt) (f : Addr) (fd : FuncData) : Prop where
  ex : ∃ (oc : Value) (od : Option Addr) (kV doc pm : Value) (an : Option Addr) (cdv ct : Value) (osl : Array (Option Value)),
    fd = PySem.W.fnOf x qual (defArgs st) (defBody st) (defScope st) .none kV doc pm an cdv ct ∧ K.lookup f = some ⟨oc, od, .func fd, osl⟩ ∧ PySem.W.codeIn K cdv qual = true
  kp : PySem.W.keepIn K (.ref f) = true
section
variable {P : Program} {w : World} {K : PySem.W.Frag} {mg : Str → Option Value} {base : Heap}
/-- THE RULE for a def: its body as a term of rules, and the reading of that term -/
theorem Fun.ok {x qual : Str} {st : Stmt} {f : Addr} {fd : FuncData} {N ps : List Str} {k : Nat} {sp : Sp} (F : Fun K x qual st f fd) (S : FnScope N ps (defScope st)) (len : ∀ vs H Q E, sp vs H Q E → vs.length = ps.length)
    (hbody : ∀ (cdv : Value) (A : Around) (outer : List Env) (s : Shared) (H : Hp) (vs : List V) (Q : VK) (E : XK), Room k (A.deeper (envOfC qual (defScope st) s.heap.objs.size f cdv)) → sp vs H Q E →
      ∃ t, PSs (cxOf CX0 P w K mg base N qual (defScope st) f cdv A outer s H E).nox (defBody st) t ∧ t { nx := fun _ H' => Q .non H', rt := Q } (start N vs) H) : FnOk P w K mg base CX0 (k + 1) f fd ps sp := by
  obtain ⟨oc, od, kV, doc, pm, an, cdv, ct, osl, rfl, lk, hcd⟩ := F.ex
  refine fn_of lk hcd S len fun A outer s H vs Q E hr hsp => ?_
  obtain ⟨t, h, q⟩ := hbody cdv A outer s H vs Q E hr hsp
  exact ⟨t, h.nox, q⟩
/-- how its arguments bind (no defaults): h is «fun _ _ _ _ _ _ us hl => match us, hl with | [_, _], _ => rfl», one _ a parameter -/
theorem Fun.binds {x qual : Str} {st : Stmt} {f : Addr} {fd : FuncData} {ps : List Str} (F : Fun K x qual st f fd)
    (h : ∀ (kV doc pm : Value) (an : Option Addr) (cdv ct : Value) (us : List Value), us.length = ps.length → bindArgs (PySem.W.fnOf x qual (defArgs st) (defBody st) (defScope st) .none kV doc pm an cdv ct) ⟨us, []⟩ = pure (ps.zip us)) : Binds K fd ps [] := by
  obtain ⟨oc, od, kV, doc, pm, an, cdv, ct, osl, rfl, lk, hcd⟩ := F.ex
  exact .all (h kV doc pm an cdv ct)
theorem fun_mk {x qual : Str} {st : Stmt} {f : Addr} {oc : Value} {od an : Option Addr} {osl : Array (Option Value)} {kV doc pm cdv ct : Value} (l : K.lookup f = some ⟨oc, od, .func (PySem.W.fnOf x qual (defArgs st) (defBody st) (defScope st) .none kV doc pm an cdv ct), osl⟩)
    (c : PySem.W.codeIn K cdv qual = true) (k : PySem.W.keepIn K (.ref f) = true) : Fun K x qual st f (PySem.W.fnOf x qual (defArgs st) (defBody st) (defScope st) .none kV doc pm an cdv ct) := ⟨⟨oc, od, kV, doc, pm, an, cdv, ct, osl, rfl, l, c⟩, k⟩
end
theorem hu_of {A : Around} {k : Nat} (hr : Room k A) : A.units + 1 < cLine := Nat.lt_of_le_of_lt (Nat.add_le_add_left (by decide : 1 ≤ 64) _) hr.units
theorem small1000 {n : Nat} (h : n ≤ 1000) : n < sizeLine := Nat.lt_of_le_of_lt h (by decide)

/-! ### expressions in short: the name that stands in the i-th slot -/
section
variable {X : Cx}
theorem pv (i : Nat) {x : Str} {pos : Pos} (hN : X.N[i]? = some x := by rfl) (hv : Vis X.env.scope x := by first | exact Or.inl rfl | exact Or.inr (Or.inl rfl) | exact Or.inr (Or.inr rfl)) (hd : (x == ("__debug__" : Str)) = false := by decide)
    (hcd : (x == ("__classdict__" : Str)) = false := by decide) : PE X (.Name x pos) (tVar i) := pe_var hN hv hd hcd
end

/-! ### tests -/
theorem iteF {A B : Prop} (h : B) : if false = true then A else B := by
  rw [if_neg Bool.false_ne_true]
  exact h
theorem iteT {A B : Prop} (h : A) : if true = true then A else B := by
  rw [if_pos rfl]
  exact h
theorem ite2 {c A B : Prop} [Decidable c] (h1 : c → A) (h2 : ¬ c → B) : if c then A else B := by
  by_cases h : c
  · rw [if_pos h]
    exact h1 h
  · rw [if_neg h]
    exact h2 h
theorem iteNS {c A B : Prop} [Decidable c] (hc : c) (h : B) : if (!decide c) = true then A else B := by
  rw [decide_eq_true hc]
  exact iteF h

/-! ### heaps -/
/-- all that was tracked is as it was -/
def Same (H H' : Hp) : Prop := ∀ b o, H b = some o → H' b = some o
theorem Same.refl (H : Hp) : Same H H := fun _ _ h => h
theorem Same.trans {H H1 H2 : Hp} (a : Same H H1) (b : Same H1 H2) : Same H H2 := fun c o h => b c o (a c o h)
theorem Same.free {H H' : Hp} (e : Same H H') {l : Addr} (h : H' l = Option.none) : H l = Option.none := by
  cases q : H l with
  | none => rfl
  | some o =>
    rw [e l o q] at h
    cases h
theorem Same.seq {K : PySem.W.Frag} {H H' : Hp} {a : Addr} {xs : List V} (e : Same H H') (h : SqL K H a xs) : SqL K H' a xs := by
  rcases h with (h | ⟨o, h⟩) | h
  · exact .inl (.inl (e _ _ h))
  · exact .inl (.inr ⟨o, e _ _ h⟩)
  · exact .inr h

end L2

set_option Elab.async false
namespace FM
/-- what greatest_divisor and the law's own one tell -/
def gi (a b : Int) : Int := (Int.gcd a b : Int)
theorem gcd_step (a b : Int) : Int.gcd b (a.fmod b) = Int.gcd a b := by
  have e : a.fmod b = a - b * a.fdiv b := Int.fmod_def a b
  rw [e, Int.gcd_comm a b]
  exact Int.gcd_sub_mul_left_right b a (a.fdiv b)
theorem fmod_less (a b : Int) (hb : b ≠ 0) : (a.fmod b).natAbs < b.natAbs := by
  rcases Int.lt_or_gt_of_ne hb with h | h
  · have h1 : -(a.fmod b) = (-a).fmod (-b) := by
      rw [Int.fmod_def, Int.fmod_def, Int.neg_fdiv_neg]
      have : -b * a.fdiv b = -(b * a.fdiv b) := Int.neg_mul _ _
      omega
    have h2 := Int.fmod_nonneg_of_pos (-a) (show 0 < -b by omega)
    have h3 := Int.fmod_lt_of_pos (-a) (show 0 < -b by omega)
    omega
  · have h2 := Int.fmod_nonneg_of_pos a h
    have h3 := Int.fmod_lt_of_pos a h
    omega
theorem gi_nonneg (a b : Int) : 0 ≤ gi a b := Int.natCast_nonneg _
theorem gi_pos {a b : Int} (hb : b ≠ 0) : 0 < gi a b := by
  have : 0 < Int.gcd a b := Int.gcd_pos_of_ne_zero_right a hb
  unfold gi; omega
theorem gi_le {a b : Int} (hb : b ≠ 0) : (gi a b).natAbs ≤ b.natAbs := by
  have h : Int.gcd a b ∣ b.natAbs := by
    have := Int.gcd_dvd_right a b
    exact Int.natAbs_dvd_natAbs.mpr this
  have h2 : 0 < b.natAbs := by omega
  have := Nat.le_of_dvd h2 h
  unfold gi; omega
/-- the divisor with the bottom's sign -/
def gs (t b : Int) : Int := if b < 0 then -gi t b else gi t b
theorem gs_ne {t b : Int} (hb : b ≠ 0) : gs t b ≠ 0 := by
  have := gi_pos (a := t) hb
  unfold gs; split <;> omega
theorem gs_le {t b : Int} (hb : b ≠ 0) : (gs t b).natAbs ≤ b.natAbs := by
  have := gi_le (a := t) hb
  unfold gs; split <;> omega
theorem fdiv_exact {g x k : Int} (hg : g ≠ 0) (e : x = g * k) : x.fdiv g = k := by
  subst e
  exact Int.mul_fdiv_cancel_left k hg
theorem gi_dvd_left (a b : Int) : gi a b ∣ a := Int.gcd_dvd_left a b
theorem gi_dvd_right (a b : Int) : gi a b ∣ b := Int.gcd_dvd_right a b
theorem num_eq {t b : Int} (hb : b ≠ 0) : t.fdiv (gs t b) = (Rat.divInt t b).num := by
  have hp := gi_pos (a := t) hb
  obtain ⟨k, hk⟩ := gi_dvd_left t b
  rw [Rat.num_divInt, Int.gcd_comm b t]
  show t.fdiv (gs t b) = b.sign * t / gi t b
  unfold gs
  generalize gi t b = g at hp hk ⊢
  rcases Int.lt_or_gt_of_ne hb with h | h
  · rw [if_pos h, Int.sign_eq_neg_one_of_neg h, fdiv_exact (k := -k) (by omega) (by rw [hk]; simp [Int.mul_neg, Int.neg_mul])]
    have : -1 * t = g * (-k) := by rw [hk]; simp [Int.mul_neg]
    rw [this, Int.mul_ediv_cancel_left _ (by omega)]
  · rw [if_neg (by omega), Int.sign_eq_one_of_pos h, fdiv_exact (k := k) (by omega) hk, Int.one_mul, hk, Int.mul_ediv_cancel_left _ (by omega)]
theorem den_eq {t b : Int} (hb : b ≠ 0) : b.fdiv (gs t b) = ((Rat.divInt t b).den : Int) := by
  have hp := gi_pos (a := t) hb
  obtain ⟨k, hk⟩ := gi_dvd_right t b
  rw [Rat.den_divInt, if_neg hb, Int.gcd_comm b t]
  have e : (((b.natAbs / Int.gcd t b : Nat)) : Int) = (b.natAbs : Int) / gi t b := by unfold gi; simp
  rw [e]
  unfold gs
  generalize gi t b = g at hp hk ⊢
  rcases Int.lt_or_gt_of_ne hb with h | h
  · rw [if_pos h, fdiv_exact (k := -k) (by omega) (by rw [Int.neg_mul_neg]; exact hk)]
    have : (b.natAbs : Int) = g * (-k) := by rw [Int.mul_neg, ← hk]; omega
    rw [this, Int.mul_ediv_cancel_left _ (by omega)]
  · rw [if_neg (by omega), fdiv_exact (k := k) (by omega) hk]
    have : (b.natAbs : Int) = g * k := by rw [← hk]; omega
    rw [this, Int.mul_ediv_cancel_left _ (by omega)]
theorem natAbs_fdiv_le' (a b : Int) : (a.fdiv b).natAbs ≤ a.natAbs := by
  cases a with
  | ofNat n =>
    cases n with
    | zero =>
      have e : Int.fdiv (.ofNat 0) b = 0 := Int.zero_fdiv b
      rw [e]; exact Nat.zero_le _
    | succ k =>
      cases b with
      | ofNat j => exact Nat.div_le_self (k + 1) j
      | negSucc j => exact Nat.succ_le_succ (Nat.div_le_self k (j + 1))
  | negSucc k =>
    cases b with
    | ofNat j =>
      cases j with
      | zero => exact Nat.zero_le _
      | succ j => exact Nat.succ_le_succ (Nat.div_le_self k (j + 1))
    | negSucc j => exact Nat.div_le_self (k + 1) (j + 1)
theorem num_le {t b : Int} (hb : b ≠ 0) : (Rat.divInt t b).num.natAbs ≤ t.natAbs := by
  rw [← num_eq hb]; exact natAbs_fdiv_le' _ _
theorem den_le {t b : Int} (hb : b ≠ 0) : (Rat.divInt t b).den ≤ b.natAbs := by
  have h := natAbs_fdiv_le' b (gs t b)
  rw [den_eq hb] at h
  simpa using h
theorem den_ne (p : Rat) : (p.den : Int) ≠ 0 := by
  have := p.den_nz
  omega
theorem divInt_self (p : Rat) : Rat.divInt p.num p.den = p := Rat.num_divInt_den p
theorem sum_eq (p q : Rat) : Rat.divInt (p.num * q.den + q.num * p.den) (p.den * q.den) = p + q := by
  rw [← Rat.divInt_add_divInt _ _ (den_ne p) (den_ne q), divInt_self, divInt_self]
theorem less_eq (p q : Rat) : Rat.divInt (p.num * q.den - q.num * p.den) (p.den * q.den) = p - q := by
  rw [← Rat.divInt_sub_divInt _ _ (den_ne p) (den_ne q), divInt_self, divInt_self]
theorem times_eq (p q : Rat) : Rat.divInt (p.num * q.num) (p.den * q.den) = p * q := by
  rw [← Rat.divInt_mul_divInt, divInt_self, divInt_self]
theorem by_eq (p q : Rat) : Rat.divInt (p.num * q.den) (p.den * q.num) = p / q := by
  rw [Rat.div_def, Rat.inv_def, ← Rat.divInt_mul_divInt, divInt_self]
theorem prod_ne (p q : Rat) : (p.den : Int) * q.den ≠ 0 := Int.mul_ne_zero (den_ne p) (den_ne q)
theorem prod_ne' {p q : Rat} (h : q ≠ 0) : (p.den : Int) * q.num ≠ 0 := Int.mul_ne_zero (den_ne p) (fun z => h (Rat.num_eq_zero.mp z))
theorem rat_ext {p q : Rat} (h1 : p.num = q.num) (h2 : (p.den : Int) = (q.den : Int)) : p = q := Rat.ext h1 (by omega)
/-- the laws of k04 -/
theorem k_dist (x a b : Rat) : x * (a + b) = x * a + x * b := Rat.mul_add x a b
theorem k_dist' (x a b : Rat) : x * (a - b) = x * a - x * b := by
  rw [Rat.sub_eq_add_neg, Rat.sub_eq_add_neg, Rat.mul_add, Rat.mul_neg]
/-- sizes -/
theorem nb_mul {x y : Int} {m n : Nat} (hx : x.natAbs < 2 ^ m) (hy : y.natAbs < 2 ^ n) : (x * y).natAbs < 2 ^ (m + n) := by
  rw [Int.natAbs_mul, Nat.pow_add]
  exact Nat.mul_lt_mul'' hx hy
theorem nb_add {x y : Int} {n : Nat} (hx : x.natAbs < 2 ^ n) (hy : y.natAbs < 2 ^ n) : (x + y).natAbs < 2 ^ (n + 1) := by
  rw [Nat.pow_succ]; omega
theorem nb_sub {x y : Int} {n : Nat} (hx : x.natAbs < 2 ^ n) (hy : y.natAbs < 2 ^ n) : (x - y).natAbs < 2 ^ (n + 1) := by
  rw [Nat.pow_succ]; omega
theorem nb_mono {x : Nat} {m n : Nat} (hx : x < 2 ^ m) (h : m ≤ n) : x < 2 ^ n := Nat.lt_of_lt_of_le hx (Nat.pow_le_pow_right (by decide) h)
/-- both parts of a fraction lie below 2 ^ n -/
def Fits (p : Rat) (n : Nat) : Prop := p.num.natAbs < 2 ^ n ∧ p.den < 2 ^ n
theorem Fits.mono {p : Rat} {m n : Nat} (h : Fits p m) (l : m ≤ n) : Fits p n := ⟨nb_mono h.1 l, nb_mono h.2 l⟩
theorem Fits.d {p : Rat} {n : Nat} (h : Fits p n) : ((p.den : Int)).natAbs < 2 ^ n := by simpa using h.2
theorem Fits.of_div {t b : Int} {n : Nat} (hb : b ≠ 0) (h1 : t.natAbs < 2 ^ n) (h2 : b.natAbs < 2 ^ n) : Fits (Rat.divInt t b) n :=
  ⟨Nat.lt_of_le_of_lt (num_le hb) h1, Nat.lt_of_le_of_lt (den_le hb) h2⟩
theorem sum_top {p q : Rat} {m n : Nat} (h : Fits p m) (k : Fits q n) : (p.num * q.den + q.num * p.den).natAbs < 2 ^ (m + n + 1) :=
  nb_add (nb_mul h.1 k.d) (by have := nb_mul k.1 h.d; rwa [Nat.add_comm n m] at this)
theorem less_top {p q : Rat} {m n : Nat} (h : Fits p m) (k : Fits q n) : (p.num * q.den - q.num * p.den).natAbs < 2 ^ (m + n + 1) :=
  nb_sub (nb_mul h.1 k.d) (by have := nb_mul k.1 h.d; rwa [Nat.add_comm n m] at this)
theorem dd {p q : Rat} {m n : Nat} (h : Fits p m) (k : Fits q n) : ((p.den : Int) * q.den).natAbs < 2 ^ (m + n) := nb_mul h.d k.d
theorem nn {p q : Rat} {m n : Nat} (h : Fits p m) (k : Fits q n) : (p.num * q.num).natAbs < 2 ^ (m + n) := nb_mul h.1 k.1
theorem nd {p q : Rat} {m n : Nat} (h : Fits p m) (k : Fits q n) : (p.num * q.den).natAbs < 2 ^ (m + n) := nb_mul h.1 k.d
theorem dn {p q : Rat} {m n : Nat} (h : Fits p m) (k : Fits q n) : ((p.den : Int) * q.num).natAbs < 2 ^ (m + n) := nb_mul h.d k.1
theorem Fits.sum {p q : Rat} {m n : Nat} (h : Fits p m) (k : Fits q n) : Fits (p + q) (m + n + 1) := by
  rw [← sum_eq]; exact .of_div (prod_ne p q) (sum_top h k) (nb_mono (dd h k) (by omega))
theorem Fits.less {p q : Rat} {m n : Nat} (h : Fits p m) (k : Fits q n) : Fits (p - q) (m + n + 1) := by
  rw [← less_eq]; exact .of_div (prod_ne p q) (less_top h k) (nb_mono (dd h k) (by omega))
theorem Fits.times {p q : Rat} {m n : Nat} (h : Fits p m) (k : Fits q n) : Fits (p * q) (m + n) := by
  rw [← times_eq]; exact .of_div (prod_ne p q) (nn h k) (dd h k)
theorem Fits.by_ {p q : Rat} {m n : Nat} (z : q ≠ 0) (h : Fits p m) (k : Fits q n) : Fits (p / q) (m + n) := by
  rw [← by_eq]; exact .of_div (prod_ne' z) (nd h k) (dn h k)
end FM
namespace FM
theorem gcd_abs (a b : Int) : Int.gcd (if a < 0 then -a else a) (if b < 0 then -b else b) = Int.gcd a b := by
  split <;> split <;> simp [Int.gcd_neg, Int.neg_gcd]
theorem abs_nonneg (a : Int) : 0 ≤ (if a < 0 then -a else a) := by split <;> omega
theorem gi_end {g a b : Int} (h : Int.gcd g 0 = Int.gcd a b) (h0 : 0 ≤ g) : g = gi a b := by
  unfold gi
  rw [← h, Int.gcd_zero_right]
  omega
theorem gi_end' {g a b : Int} (h : Int.gcd g 0 = Int.gcd a b) : (if g < 0 then -g else g) = gi a b := by
  unfold gi
  rw [← h, Int.gcd_zero_right]
  split <;> omega
theorem fmod_nonneg {g l : Int} (hl : l ≠ 0) (h : 0 ≤ l) : 0 ≤ g.fmod l := Int.fmod_nonneg_of_pos g (by omega)
end FM

set_option Elab.async false
set_option linter.all false
set_option maxRecDepth 100000
namespace L2
open PySem PySem.Spec PyProof.Rows
section
variable {X : Cx}
/-- a product of two ints of at most a million bits -/
def CMulW (i j : Int) : Prop := ∃ m : Nat, m ≤ 1000000 ∧ i.natAbs < 2 ^ m ∧ j.natAbs < 2 ^ m
theorem CMulW.ok {i j : Int} (h : CMulW i j) : IntMulOk i j := by
  obtain ⟨m, hm, h1, h2⟩ := h
  exact IntMulOk.of_le (intBits_le_iff.mpr h1) (intBits_le_iff.mpr h2) (by omega)
theorem op_mulW : OpR X (binaryOp .Mult) (rI (fun i j => CMul i j ∨ CMulW i j) fun i j => .int (i * j)) :=
  opI fun _ _ _ _ _ _ _ hc q => mul_int q (hc.elim (fun z => z.ok) fun z => z.ok)
/-- a quotient by an int other than 0 of at most nine thousand bits -/
def CDivW (_i j : Int) : Prop := j ≠ 0 ∧ ∃ m : Nat, m ≤ 9000 ∧ j.natAbs < 2 ^ m
theorem op_fdivW : OpR X (binaryOp .FloorDiv) (rI CDivW fun i j => .int (i.fdiv j)) := opI fun i j _ _ _ _ _ hc q => by
  obtain ⟨h0, m, hm, h1⟩ := hc
  refine floordiv_int h0 q (.inl (PyProof.noPylong_of_log2 ?_))
  have hne : j.natAbs ≠ 0 := by omega
  have : j.natAbs.log2 < m := (Nat.log2_lt hne).mpr h1
  omega

/-! ### data: what stands behind a value, however deep -/
mutual
def Br (K : PySem.W.Frag) (H : Hp) : PyData → V → Prop
  | .none, v => v = .non
  | .bool b, v => v = .bl b
  | .int i, v => v = .int i
  | .str x, v => v = .str x
  | .tuple ds, v => ∃ a xs, v = .ref a ∧ SqT K H a xs ∧ BrAll K H ds xs
  | .list ds, v => ∃ a xs, v = .ref a ∧ SqL K H a xs ∧ BrAll K H ds xs
  | .dict _, _ => False
def BrAll (K : PySem.W.Frag) (H : Hp) : List PyData → List V → Prop
  | [], xs => xs = []
  | d :: ds, xs => ∃ x r, xs = x :: r ∧ Br K H d x ∧ BrAll K H ds r
end
theorem Same.tup {K : PySem.W.Frag} {H H' : Hp} {a : Addr} {xs : List V} (e : Same H H') (h : SqT K H a xs) : SqT K H' a xs := by
  rcases h with (h | ⟨o, h⟩) | h
  · exact .inl (.inl (e _ _ h))
  · exact .inl (.inr ⟨o, e _ _ h⟩)
  · exact .inr h
mutual
theorem Br.same {K : PySem.W.Frag} {H H' : Hp} (e : Same H H') : ∀ {d : PyData} {v : V}, Br K H d v → Br K H' d v
  | .none, _, h => by rw [Br] at h ⊢; exact h
  | .bool _, _, h => by rw [Br] at h ⊢; exact h
  | .int _, _, h => by rw [Br] at h ⊢; exact h
  | .str _, _, h => by rw [Br] at h ⊢; exact h
  | .tuple _, _, h => by
    rw [Br] at h ⊢
    obtain ⟨a, xs, e1, h1, h2⟩ := h
    exact ⟨a, xs, e1, e.tup h1, BrAll.same e h2⟩
  | .list _, _, h => by
    rw [Br] at h ⊢
    obtain ⟨a, xs, e1, h1, h2⟩ := h
    exact ⟨a, xs, e1, e.seq h1, BrAll.same e h2⟩
  | .dict _, _, h => by rw [Br] at h; exact h.elim
theorem BrAll.same {K : PySem.W.Frag} {H H' : Hp} (e : Same H H') : ∀ {ds : List PyData} {xs : List V}, BrAll K H ds xs → BrAll K H' ds xs
  | [], _, h => by rw [BrAll] at h ⊢; exact h
  | _ :: _, _, h => by
    rw [BrAll] at h ⊢
    obtain ⟨x, r, e1, h1, h2⟩ := h
    exact ⟨x, r, e1, Br.same e h1, BrAll.same e h2⟩
end
mutual
theorem Br.reads {pins : List (Addr × Obj)} {σ : St} {H : Hp} {s : Shared} (I : Inv X pins σ H s) : ∀ {d : PyData} {v : V} {u : Value}, Br X.K H d v → RelV v u → ∃ as, Reads s.heap u d as
  | .none, _, u, h, r => by rw [Br] at h; subst h; cases r; exact ⟨_, .none⟩
  | .bool b, _, u, h, r => by rw [Br] at h; subst h; cases r; exact ⟨_, .bool b⟩
  | .int i, _, u, h, r => by rw [Br] at h; subst h; obtain ⟨t, rfl⟩ := r; exact ⟨_, .int i t⟩
  | .str x, _, u, h, r => by rw [Br] at h; subst h; obtain ⟨t, rfl⟩ := r; exact ⟨_, .str x t⟩
  | .tuple ds, _, u, h, r => by
    rw [Br] at h
    obtain ⟨a, xs, e1, h1, h2⟩ := h
    subst e1
    cases r
    obtain ⟨its, rv, ⟨o, e, c, n, hd⟩, _⟩ := I.tuple h1
    obtain ⟨as, ra⟩ := BrAll.reads I h2 rv
    exact ⟨_, .tuple e c hd (by simpa using ra)⟩
  | .list ds, _, u, h, r => by
    rw [Br] at h
    obtain ⟨a, xs, e1, h1, h2⟩ := h
    subst e1
    cases r
    obtain ⟨its, rv, ⟨o, n, e, c, _, hd⟩, _⟩ := I.list h1
    obtain ⟨as, ra⟩ := BrAll.reads I h2 rv
    exact ⟨_, .list e c hd (by simpa using ra)⟩
  | .dict _, _, _, h, _ => by rw [Br] at h; exact h.elim
theorem BrAll.reads {pins : List (Addr × Obj)} {σ : St} {H : Hp} {s : Shared} (I : Inv X pins σ H s) : ∀ {ds : List PyData} {xs : List V} {us : List Value}, BrAll X.K H ds xs → Vals xs us → ∃ as, ReadsAll s.heap us ds as
  | [], _, us, h, r => by rw [BrAll] at h; subst h; cases r; exact ⟨_, .nil⟩
  | _ :: _, _, us, h, r => by
    rw [BrAll] at h
    obtain ⟨x, q, e1, h1, h2⟩ := h
    subst e1
    cases r with
    | cons r1 r2 =>
      obtain ⟨as, ra⟩ := Br.reads I h1 r1
      obtain ⟨bs, rb⟩ := BrAll.reads I h2 r2
      exact ⟨_, .cons ra rb⟩
end
/-- == and != of data -/
def rEqD (K : PySem.W.Frag) (neg : Bool) : R2 := fun x y H Q => ∃ d e, Br K H d x ∧ Br K H e y ∧ SeqAt.shaped d = true ∧ SeqAt.shaped e = true ∧ Q (.bl (if neg then !PyData.eqv d e else PyData.eqv d e)) H
theorem op_eqD (hu : X.A.units + 64 < cLine) : OpR X (compareOp .Eq) (rEqD X.K false) := by
  intro pins s σ H x y v u Q I rx ry h
  obtain ⟨d, e, h1, h2, s1, s2, q⟩ := h
  obtain ⟨as, ra⟩ := Br.reads I h1 rx
  obtain ⟨bs, rb⟩ := Br.reads I h2 ry
  exact eq_dataH ra rb s1 s2 hu ⟨.bl _, H, I, rfl, q⟩
theorem op_neD (hu : X.A.units + 64 < cLine) : OpR X (compareOp .NotEq) (rEqD X.K true) := by
  intro pins s σ H x y v u Q I rx ry h
  obtain ⟨d, e, h1, h2, s1, s2, q⟩ := h
  obtain ⟨as, ra⟩ := Br.reads I h1 rx
  obtain ⟨bs, rb⟩ := Br.reads I h2 ry
  exact ne_dataH ra rb s1 s2 hu ⟨.bl _, H, I, rfl, q⟩
end
end L2

set_option Elab.async false
namespace L2
open PySem PySem.Spec PyProof.Rows
/-- a def of the text with all that a caller wants of it -/
structure Fn (K : PySem.W.Frag) (mg : Str → Option Value) (x : Str) (st : Stmt) (ps : List Str) (f : Addr) (fd : FuncData) : Prop where
  F : Fun K x x st f fd
  b : Binds K fd ps []
  m : mg x = some (.ref f)
section
variable {X : Cx} {k : Nat} {f : Addr} {fd : FuncData} {ps : List Str} {sp : Sp} {x : Str} {st : Stmt} {p pos : Pos} {e : Expr} {es : List Expr} {t : TA}
theorem pe_fn (T : Fn X.K X.mg x st ps f fd) (G : FnOk X.prog X.w X.K X.mg X.base CX0 k f fd ps sp) (hr : Room k X.A) (hg : Gl X x) (ha : PA X (e :: es) t)
    (hdb : (x == ("__debug__" : Str)) = false := by decide) (he : starEach (e :: es) X.env = (false, eval e X.env) :: starEach es X.env := by rfl) (hpl : (backTo pos (starEach es X.env)).any (·.1) = false := by rfl) :
    PE X (.Call (.Name x p) (e :: es) [] pos) (tCall sp [] E0 t) := pe_call G hr hg T.m T.F.kp T.b .nil pass0 ha hdb he hpl
end
/-- two statements in a row, by what holds between them -/
theorem seq_join {t u : TS} {D : Ends} {σ : St} {H : Hp} (P : St → Hp → Prop) (h1 : ∀ nx : St → Hp → Prop, (∀ σ' H', P σ' H' → nx σ' H') → t { D with nx := nx } σ H) (h2 : ∀ σ' H', P σ' H' → u D σ' H') : tSeq t u D σ H := h1 _ h2
theorem sz2 : 2 ≤ sizeLine := by decide
theorem sz1 : 1 ≤ sizeLine := by decide
theorem same_new {H : Hp} {p : Addr} (h : H p = none) (o : HO) : Same H (upd H p o) := fun b u q => by rw [upd_ne (ne_of_none q h)]; exact q
theorem new_at {H : Hp} {p : Addr} (h : H p = none) (o : HO) : upd H p o p = some o := upd_same
/-- all that was tracked is as it was, but at l -/
def SameBut (l : Addr) (H H' : Hp) : Prop := ∀ b o, b ≠ l → H b = some o → H' b = some o
theorem SameBut.of {l : Addr} {H H' : Hp} (h : Same H H') : SameBut l H H' := fun b o _ q => h b o q
theorem SameBut.trans {l : Addr} {H H1 H2 : Hp} (a : SameBut l H H1) (b : SameBut l H1 H2) : SameBut l H H2 := fun c o n h => b c o n (a c o n h)
theorem SameBut.upd {l : Addr} {H : Hp} {o : HO} : SameBut l H (upd H l o) := fun b u n q => by rw [upd_ne n]; exact q
/-- a fraction's tuple -/
def ratV (p : Rat) : List V := [.int p.num, .int (p.den : Int)]
def Rt (K : PySem.W.Frag) (H : Hp) (p : Rat) (v : V) : Prop := ∃ a, v = .ref a ∧ SqT K H a (ratV p)
theorem Rt.same {K : PySem.W.Frag} {H H' : Hp} {p : Rat} {v : V} (h : Rt K H p v) (e : Same H H') : Rt K H' p v := let ⟨a, e1, q⟩ := h; ⟨a, e1, e.tup q⟩
theorem Rt.of {K : PySem.W.Frag} {H : Hp} {p : Rat} {a : Addr} (h : H a = some (.tup (ratV p))) : Rt K H p (.ref a) := ⟨a, rfl, .of h⟩
def ratD (p : Rat) : PyData := .tuple [.int p.num, .int (p.den : Int)]
theorem Rt.br {K : PySem.W.Frag} {H : Hp} {p : Rat} {v : V} (h : Rt K H p v) : Br K H (ratD p) v := by
  obtain ⟨a, e, q⟩ := h
  unfold ratD
  rw [Br]
  refine ⟨a, _, e, q, ?_⟩
  unfold ratV
  rw [BrAll]
  refine ⟨_, _, rfl, by rw [Br], ?_⟩
  rw [BrAll]
  refine ⟨_, _, rfl, by rw [Br], ?_⟩
  rw [BrAll]
theorem ratD_shaped (p : Rat) : SeqAt.shaped (ratD p) = true := by
  simp [ratD, SeqAt.shaped, PyData.canLay0, PyData.canLayAll0, PyData.depth, PyData.depthAll]
theorem ratD_eqv (p : Rat) : PyData.eqv (ratD p) (ratD p) = true := by
  simp [ratD, PyData.eqv, PyData.eqvAll]
/-- t == u and t != u of two fractions that are one -/
theorem rd_ne {K : PySem.W.Frag} {H : Hp} {p q : Rat} {v w : V} {Q : VK} (h1 : Rt K H p v) (h2 : Rt K H q w) (e : p = q) (h : Q (.bl false) H) : rEqD K true v w H Q := by
  subst e
  refine ⟨ratD p, ratD p, h1.br, h2.br, ratD_shaped p, ratD_shaped p, ?_⟩
  rw [ratD_eqv]; exact h
theorem rd_eq {K : PySem.W.Frag} {H : Hp} {p q : Rat} {v w : V} {Q : VK} (h1 : Rt K H p v) (h2 : Rt K H q w) (e : p = q) (h : Q (.bl true) H) : rEqD K false v w H Q := by
  subst e
  refine ⟨ratD p, ratD p, h1.br, h2.br, ratD_shaped p, ratD_shaped p, ?_⟩
  rw [ratD_eqv]; exact h
theorem mulW {i j : Int} {m n : Nat} (h1 : i.natAbs < 2 ^ m) (h2 : j.natAbs < 2 ^ n) (h : m + n ≤ 1000000) : CMul i j ∨ CMulW i j :=
  .inr ⟨m + n, h, FM.nb_mono h1 (Nat.le_add_right _ _), FM.nb_mono h2 (Nat.le_add_left _ _)⟩
theorem SqT.but {K : PySem.W.Frag} {H H' : Hp} {l a : Addr} {ys xs : List V} (e : SameBut l H H') (hl : H l = some (.lst ys)) (h : SqT K H a xs) : SqT K H' a xs := by
  rcases h with (h | ⟨o, h⟩) | h
  · exact .inl (.inl (e _ _ (fun z => by rw [z, hl] at h; cases h) h))
  · exact .inl (.inr ⟨o, e _ _ (fun z => by rw [z, hl] at h; cases h) h⟩)
  · exact .inr h
theorem Rt.but {K : PySem.W.Frag} {H H' : Hp} {l : Addr} {ys : List V} {p : Rat} {v : V} (h : Rt K H p v) (e : SameBut l H H') (hl : H l = some (.lst ys)) : Rt K H' p v := let ⟨a, e1, q⟩ := h; ⟨a, e1, SqT.but e hl q⟩
theorem Same.but {H H1 H2 : Hp} {l : Addr} (a : Same H H1) (b : SameBut l H1 H2) (hl : H l = none) : Same H H2 := fun c o h => b c o (ne_of_none h hl) (a c o h)
end L2

set_option Elab.async false
set_option linter.all false
set_option maxRecDepth 100000
set_option maxHeartbeats 4000000
namespace L2
open PySem PySem.Spec PyProof.Rows
/-! ### comprehensions -/
/-- the tests of a clause -/
def PIf (X : Cx) (ifs : List Expr) (t : TT) : Prop :=
  ∀ (pins : List (Addr × Obj)) (s : Shared) (σ : St) (H : Hp) (Q : Bool → Hp → Prop), Inv X pins σ H s → t σ H Q →
    wpAny (model X.prog X.w) X.A (forIn ifs true fun c r => if r = true then do let ok ← isTrue c X.env (eval c X.env); pure (ForInStep.yield ok) else pure (ForInStep.yield r)) (TP X pins σ Q) X.xe s
def tNoIf : TT := fun _ H Q => Q true H
theorem pif_nil {X : Cx} : PIf X [] tNoIf := fun _ _ σ H _ I h => wpAny_tests_nil ⟨H, I, h⟩
theorem pif_one {X : Cx} {c : Expr} {t : TT} (h : PT X c t) : PIf X [c] t := by
  intro pins s σ H Q I hw
  simp only [List.forIn_cons, List.forIn_nil, if_true]
  refine wpAny_bind (wpAny_bind (thn (h pins s σ H Q I hw) fun b s1 q => ?_))
  exact wpAny_pure (wpAny_pure q)
/-- the names of the block that stand for names of the def around it: by their places there -/
def frOk (N XN : List Str) (sc xsc : Scope) : List (Option Nat) → Nat → Bool
  | [], _ => true
  | none :: r, i => frOk N XN sc xsc r (i + 1)
  | some j :: r, i => (match N[i]?, XN[j]? with
      | some n, some m => n == m && sc.names.lookup n == some .free && xsc.names.lookup n == some .cell
      | _, _ => false) && frOk N XN sc xsc r (i + 1)
theorem frOk_get {N XN : List Str} {sc xsc : Scope} : ∀ {fr : List (Option Nat)} {k : Nat}, frOk N XN sc xsc fr k = true → ∀ {i j : Nat}, fr[i]? = some (some j) →
    ∃ n, N[k + i]? = some n ∧ XN[j]? = some n ∧ sc.names.lookup n = some .free ∧ xsc.names.lookup n = some .cell
  | [], _, _, i, j, e => by simp at e
  | none :: r, k, h, 0, j, e => by simp at e
  | none :: r, k, h, i + 1, j, e => by
    have q := frOk_get (fr := r) (k := k + 1) h (i := i) (j := j) (by simpa using e)
    have z : k + (i + 1) = k + 1 + i := by omega
    rw [z]; exact q
  | some j' :: r, k, h, 0, j, e => by
    have e' : j' = j := by simpa using e
    subst e'
    rw [frOk, Bool.and_eq_true] at h
    have h1 := h.1
    split at h1
    · rename_i n m hn hm
      simp only [Bool.and_eq_true, beq_iff_eq] at h1
      obtain ⟨⟨rfl, h2⟩, h3⟩ := h1
      exact ⟨n, by simpa using hn, hm, h2, h3⟩
    · cases h1
  | some j' :: r, k, h, i + 1, j, e => by
    rw [frOk, Bool.and_eq_true] at h
    have q := frOk_get (fr := r) (k := k + 1) h.2 (i := i) (j := j) (by simpa using e)
    have z : k + (i + 1) = k + 1 + i := by omega
    rw [z]; exact q
def carry (fr : List (Option Nat)) (σ : St) : St := fr.map fun o => match o with
  | some j => (σ[j]?).join
  | none => none
theorem carry_get {fr : List (Option Nat)} {σ : St} {i : Nat} {v : V} (h : (carry fr σ)[i]? = some (some v)) : ∃ j, fr[i]? = some (some j) ∧ σ[j]? = some (some v) := by
  unfold carry at h
  rw [List.getElem?_map] at h
  cases e : fr[i]? with
  | none => rw [e] at h; cases h
  | some o =>
    rw [e] at h
    cases o with
    | none => simp at h
    | some j =>
      refine ⟨j, rfl, ?_⟩
      simp only [Option.map_some, Option.some.injEq] at h
      cases q : σ[j]? with
      | none => rw [q] at h; cases h
      | some w => rw [q] at h; simp at h; rw [h]
/-- the cells that a block takes along -/
theorem closure_of {env : Env} : ∀ (names : List (Str × NameKind)) (cs : List (Str × Addr)), (∀ x ∈ names, x.2 = NameKind.free → ∃ c, env.cells.lookup x.1 = some c) → (∀ x c, cs.lookup x = some c → env.cells.lookup x = some c) →
    ∃ cl, (forIn names cs (fun (x : Str × NameKind) (r : List (Str × Addr)) => do if (x.2 == NameKind.free) = true then do let a ← cellOf env x.1; pure (ForInStep.yield ((x.1, a) :: r)) else pure (ForInStep.yield r)) : Sem (List (Str × Addr))) = pure cl ∧
      (∀ x c, cl.lookup x = some c → env.cells.lookup x = some c) ∧ (∀ x, (∃ c, cs.lookup x = some c) → ∃ c, cl.lookup x = some c) ∧ ∀ x ∈ names, x.2 = NameKind.free → ∃ c, cl.lookup x.1 = some c
  | [], cs, _, h2 => ⟨cs, rfl, h2, fun _ q => q, fun _ z => (by cases z)⟩
  | (n, k) :: r, cs, h1, h2 => by
    rw [List.forIn_cons]
    by_cases hk : (k == NameKind.free) = true
    · obtain ⟨c, hc⟩ := h1 (n, k) List.mem_cons_self (by simpa using hk)
      have h2' : ∀ x c', ((n, c) :: cs).lookup x = some c' → env.cells.lookup x = some c' := fun x c' e => by
        rw [List.lookup_cons] at e
        cases hx : x == n with
        | true => rw [hx] at e; have := beq_iff_eq.mp hx; subst this; simp at e; rw [← e]; exact hc
        | false => rw [hx] at e; exact h2 x c' e
      obtain ⟨cl, q1, q2, q3, q4⟩ := closure_of r ((n, c) :: cs) (fun x hx => h1 x (List.mem_cons_of_mem _ hx)) h2'
      have hn : ∃ c', cl.lookup n = some c' := q3 n ⟨c, by rw [List.lookup_cons, beq_self_eq_true]⟩
      refine ⟨cl, ?_, q2, fun x hx => ?_, fun x hx hf => ?_⟩
      · simp only [hk, if_true]
        unfold cellOf
        rw [hc]
        exact q1
      · refine q3 x ?_
        rw [List.lookup_cons]
        cases hxn : x == n with
        | true => exact ⟨c, rfl⟩
        | false => exact hx
      · rcases List.mem_cons.mp hx with e | hx
        · subst e; exact hn
        · exact q4 x hx hf
    · obtain ⟨cl, q1, q2, q3, q4⟩ := closure_of r cs (fun x hx => h1 x (List.mem_cons_of_mem _ hx)) h2
      refine ⟨cl, ?_, q2, q3, fun x hx hf => ?_⟩
      · simp only [hk]
        exact q1
      · rcases List.mem_cons.mp hx with e | hx
        · subst e; exact absurd (by simpa using hf) hk
        · exact q4 x hx hf
/-- the context of a block -/
def cxComp (X : Cx) (scope : Scope) (cl : List (Str × Addr)) (N : List Str) (C : Addr) (s₀ : Shared) (H₀ : Hp) (fp : List Addr) : Cx where
  prog := X.prog
  w := X.w
  K := X.K
  mg := X.mg
  base := X.base
  A := X.A
  N := N
  s₀ := s₀
  H₀ := H₀
  env := compEnvC scope cl C X.env
  outer := X.stack
  stack := X.stack
  ex := fp
  fn := fun _ => false
  calm := X.calm
  pn := []
  xe := fun _ _ => False
/-- [elt for x in iter if ..]: W goes by the turn, a measure, what was gathered and the heap -/
def tComp (wi : TI) (fr : List (Option Nat)) (ix : Nat) (tif : TT) (te : TE) : TE := fun σ H Q => wi σ H fun J H1 => ∀ D, H1 D = none → ∃ W : Nat → Nat → List V → Hp → Prop, (∃ m, W 0 m [] (upd H1 D (.lst []))) ∧
  ∀ i m ys H, W i m ys H → H D = some (.lst ys) ∧ ((J.stop i H ∧ Q (.ref D) H) ∨ (J.go i H ∧ ys.length < sizeLine ∧ ∀ x H', J.yld i H x H' →
    tif ((carry fr σ).set ix (some x)) H' fun b H2 => if b = true then te ((carry fr σ).set ix (some x)) H2 fun y H3 => H3 D = some (.lst ys) ∧ ∃ m', m' < m ∧ W (i + 1) m' (ys ++ [y]) (upd H3 D (.lst (ys ++ [y])))
      else ∃ m', m' < m ∧ W (i + 1) m' ys H2))
structure CompScope (scope : Scope) (N : List Str) (x : Str) (ix : Nat) : Prop where
  kind : scope.kind = .function
  cell : ∀ y ∈ scope.names, y.2 ≠ .cell
  names : ∀ y ∈ scope.names, y.2 = .local → scope.names.lookup y.1 = some .local
  free : ∀ y ∈ scope.names, y.2 = .free → scope.names.lookup y.1 = some .free
  loc : scope.names.lookup x = some .local
  nd : N.Nodup
  at_ : N[ix]? = some x
theorem lookup_mem {names : List (Str × NameKind)} {n : Str} {k : NameKind} : names.lookup n = some k → (n, k) ∈ names := by
  induction names with
  | nil => intro h; cases h
  | cons y r ih =>
    intro h
    obtain ⟨m, j⟩ := y
    rw [List.lookup_cons] at h
    cases e : n == m with
    | true => rw [e] at h; have := beq_iff_eq.mp e; subst this; simp at h; subst h; exact List.mem_cons_self
    | false => rw [e] at h; exact List.mem_cons_of_mem _ (ih h)
theorem relabel_kind {scope : Scope} {env : Env} (hc : ∀ y ∈ scope.names, y.2 ≠ .cell) {n : Str} (h : (relabel scope env).names.lookup n = some .cell ∨ (relabel scope env).names.lookup n = some .free) : ∃ k, (n, k) ∈ scope.names ∧ k = NameKind.free := by
  have key : ∀ k', (relabel scope env).names.lookup n = some k' → (k' = .cell ∨ k' = .free) → ∃ k, (n, k) ∈ scope.names ∧ k = NameKind.free := fun k' h hk => by
    have hm := lookup_mem h
    unfold relabel at hm
    obtain ⟨⟨m, k⟩, hy, e⟩ := List.mem_map.mp hm
    dsimp only at e
    by_cases hcond : (k == NameKind.free && env.scope.kind == .function && env.kindOf m == some .cell) = true
    · rw [if_pos hcond] at e
      injection e with e1 e2
      subst e1
      refine ⟨k, hy, ?_⟩
      simp only [Bool.and_eq_true, beq_iff_eq] at hcond
      exact hcond.1.1
    · rw [if_neg hcond] at e
      injection e with e1 e2
      subst e1 e2
      rcases hk with rfl | rfl
      · exact absurd rfl (hc _ hy)
      · exact ⟨_, hy, rfl⟩
  rcases h with h | h
  · exact key _ h (.inl rfl)
  · exact key _ h (.inr rfl)
section
variable {X : Cx} {elt iter : Expr} {x : Str} {px pos : Pos} {ifs : List Expr} {scope : Scope} {wi : TI} {fr : List (Option Nat)} {ix : Nat} {tif : TT} {te : TE} {N : List Str}
/-- the block, from its iterator on; Fin: what is wanted of the list and the state where the block's own dict has been let go -/
theorem comp_block {pins : List (Addr × Obj)} {σ : St} {H2 : Hp} {s2 : Shared} {Q : VK} {it : Addr} {fp : List Addr} {tn : Nat → Heap → Prop} {J : It} {cl : List (Str × Addr)} {E : Value → Shared → Prop} {RR : Value → Addr → Result → Shared → Prop}
    (S : CompScope scope N x ix) (hcalm : X.calm = true) (hfr : frOk N X.N scope X.env.scope fr 0 = true) (hlen : fr.length = N.length)
    (hif : ∀ cl C s₀ H₀ fp, PIf (cxComp X scope cl N C s₀ H₀ fp) ifs tif) (he : ∀ cl C s₀ H₀ fp, PE (cxComp X scope cl N C s₀ H₀ fp) elt te)
    (I2 : Inv X pins σ H2 s2) (T : Turn X.prog X.w X.K (.Name x px) J fp it tn) (st2 : tn 0 s2.heap) (f2 : ∀ b ∈ fp, FpOk X pins H2 b)
    (c1 : ∀ x c, cl.lookup x = some c → X.env.cells.lookup x = some c) (c2 : ∀ x ∈ scope.names, x.2 = NameKind.free → ∃ c, cl.lookup x.1 = some c)
    (W : ∀ D, H2 D = none → ∃ W : Nat → Nat → List V → Hp → Prop, (∃ m, W 0 m [] (upd H2 D (.lst []))) ∧
      ∀ i m ys H, W i m ys H → H D = some (.lst ys) ∧ ((J.stop i H ∧ Q (.ref D) H) ∨ (J.go i H ∧ ys.length < sizeLine ∧ ∀ x H', J.yld i H x H' →
        tif ((carry fr σ).set ix (some x)) H' fun b H2 => if b = true then te ((carry fr σ).set ix (some x)) H2 fun y H3 => H3 D = some (.lst ys) ∧ ∃ m', m' < m ∧ W (i + 1) m' (ys ++ [y]) (upd H3 D (.lst (ys ++ [y])))
          else ∃ m', m' < m ∧ W (i + 1) m' ys H2)))
    (fin : ∀ (D C : Addr) (s' : Shared) (H' : Hp) m, s'.heap.Ns C m → Q (.ref D) H' → (∀ h', Heap.SameBut C s'.heap h' → Inv X pins σ H' { s' with heap := h' }) → C ≠ D → (∀ b o, s2.heap.get? b = some o → b ≠ C) → H' C = none → s2.heap.objs.size ≤ C → RR (.ref D) C (.ok .next) s') :
    wpAny (model X.prog X.w) X.A (newList []) (fun acc s₃ => wpAny (model X.prog X.w) X.A (newFunctionEnv scope X.env.globals cl [] X.env.qual none .none (some X.env)) (fun cenv s₄ =>
      codeAny (model X.prog X.w) X.A (.compStart (.ListComp elt [⟨.Name x px, iter, ifs, 0⟩] scope pos) 0 (.ref it) acc { cenv with scope := relabel scope X.env }) (RR acc cenv.locals) s₄) E s₃) E s2 := by
  refine wpAny_newObj_type (wpAny_newFunctionEnv S.cell (by intro y hy; simp at hy) (fun h₁ hns₁ hsb₁ => ?_) S.kind)
  dsimp only at hns₁ hsb₁ ⊢
  generalize hHp : s2.heap.push { cls := .type "list", dict := none, data := .seq ([] : List Value).toArray } = Hq at hns₁ hsb₁ ⊢
  have hC : Hq.objs.size = s2.heap.objs.size + 1 := by rw [← hHp, Heap.size_push]
  have hDC : s2.heap.objs.size ≠ Hq.objs.size := by rw [hC]; exact Nat.ne_of_lt (Nat.lt_succ_self _)
  have below : ∀ b, b < s2.heap.objs.size → b ≠ Hq.objs.size ∧ b ≠ s2.heap.objs.size := fun b hb => ⟨by rw [hC]; exact Nat.ne_of_lt (Nat.lt_succ_of_lt hb), Nat.ne_of_lt hb⟩
  have old : ∀ b o, s2.heap.get? b = some o → h₁.get? b = some o := fun b o e => hsb₁.extBut b o (below b (Heap.lt_size e)).1 (Heap.get?_push_of_some _ (hHp ▸ Heap.get?_push_of_some _ e))
  have hacc : h₁.get? s2.heap.objs.size = some { cls := .type "list", data := .seq ([] : List Value).toArray } := hsb₁.extBut _ _ hDC (Heap.get?_push_of_some _ (hHp ▸ Heap.get?_push_size _ rfl))
  have hD2 : H2 s2.heap.objs.size = none := I2.hok.fresh (Nat.le_refl _)
  have hC2 : H2 Hq.objs.size = none := I2.hok.fresh (by rw [hC]; exact Nat.le_succ _)
  have fpo : ∀ b ∈ fp, b < s2.heap.objs.size := fun b hb => by
    obtain ⟨o, e, _⟩ := T.obj _ _ st2 b hb
    exact Heap.lt_size e
  obtain ⟨W, ⟨m0, w0⟩, turn⟩ := W s2.heap.objs.size hD2
  -- the block's context
  have ok : (cxComp X scope cl N Hq.objs.size s2 H2 fp).Ok := by
    refine ⟨I2.ok.mod, S.kind, I2.ok.glob, I2.ok.blt, by show s2.heap.objs.size ≤ Hq.objs.size; rw [hC]; exact Nat.le_succ _, ?_, ?_, ?_, fun _ => I2.ok.hd hcalm, I2.ok.frames, .inl rfl, ?_, I2.bs, Nat.le_trans I2.ok.bsz I2.sz, ?_, ?_, I2.stack, I2.stkFree⟩
    · exact fun a b c h1 h2 => I2.ok.inj a b c (c1 _ _ h1) (c1 _ _ h2)
    · intro y hy
      obtain ⟨k, hm, rfl⟩ := relabel_kind S.cell hy
      exact c2 _ hm rfl
    · intro y c hf
      cases hf
    · intro b hb
      refine ⟨(below b (fpo b hb)).1, fun y c e => ?_⟩
      obtain ⟨_, _, _, _, f5, _⟩ := f2 b hb
      exact f5 y c (c1 _ _ e)
    · intro b o e hb
      obtain ⟨_, _, _, f4, _, _⟩ := f2 b hb
      rcases f4 with z | z
      · exact I2.ok.noex b o e z
      · exact absurd (Nat.lt_of_lt_of_le (Heap.lt_size e) (Nat.le_trans I2.ok.bsz z)) (Nat.lt_irrefl _)
    · intro b hb hs
      obtain ⟨_, f1, f3, _⟩ := f2 b hb
      rcases List.mem_cons.mp (I2.stkSub b hs) with z | z
      · exact f1 z
      · exact f3 z
  have I4 : Inv (cxComp X scope cl N Hq.objs.size s2 H2 fp) [] (carry fr σ) (upd H2 s2.heap.objs.size (.lst [])) { s2 with heap := h₁, toks := s2.toks + ([] : List (Str × Value)).length } := by
    refine ⟨ok, rfl, I2.bare, Un.laid old (Nat.le_refl _) hD2, ⟨_, hns₁, fun i y v h1 h2 h3 => ?_⟩, fun y c e => ?_, ?_, fun y c e => ?_, fun p hp => (by cases hp), I2.hok.laid old (Nat.le_refl _) ⟨Nat.zero_le _, [], 0, .nil, hacc⟩, ?_⟩
    · obtain ⟨j, e1, e2⟩ := carry_get h2
      obtain ⟨n, n1, n2, n3, n4⟩ := frOk_get hfr e1
      rw [Nat.zero_add] at n1
      have : y = n := by
        have h1' : N[i]? = some y := h1
        rw [h1'] at n1; exact Option.some.inj n1
      subst this
      obtain ⟨m, hn, hl⟩ := I2.loc
      obtain ⟨u, ru, lk⟩ := hl j y v n2 e2 (.inr (.inl n4))
      refine ⟨u, ru, ?_⟩
      obtain ⟨c, hc⟩ := c2 _ (lookup_mem n3) rfl
      rcases lk with ⟨k1, _⟩ | ⟨_, c', hc', hcell⟩
      · have k1' : X.env.scope.names.lookup y = some .local := k1
        rw [n4] at k1'; cases k1'
      · have := c1 _ _ hc
        rw [hc'] at this; cases this
        refine .inr ⟨?_, c, hc, hcell.keeps old⟩
        rcases h3 with z | z | z
        · obtain ⟨k, hm⟩ : ∃ k, (y, k) ∈ scope.names ∧ k = NameKind.local := by
            have hm := lookup_mem z
            have hm' : (y, NameKind.local) ∈ (relabel scope X.env).names := hm
            unfold relabel at hm'
            obtain ⟨⟨m', k⟩, hy, e⟩ := List.mem_map.mp hm'
            dsimp only at e
            by_cases hcond : (k == NameKind.free && X.env.scope.kind == .function && X.env.kindOf m' == some .cell) = true
            · rw [if_pos hcond] at e; injection e with _ e2'; cases e2'
            · rw [if_neg hcond] at e; injection e with e1' e2'; subst e1' e2'; exact ⟨_, hy, rfl⟩
          obtain ⟨hm, rfl⟩ := hm
          have := S.names _ hm rfl
          rw [n3] at this; cases this
        · exact .inl z
        · exact .inr z
    · obtain ⟨v, z⟩ := I2.cell y c (c1 _ _ e)
      exact ⟨v, z.keeps old⟩
    · show upd H2 s2.heap.objs.size _ Hq.objs.size = none
      rw [upd_ne (Ne.symm hDC)]; exact hC2
    · obtain ⟨v, o, ho, _⟩ := I2.cell y c (c1 _ _ e)
      rw [upd_ne (below c (Heap.lt_size ho)).2]
      exact I2.freeC y c (c1 _ _ e)
    · show (carry fr σ).length = N.length
      unfold carry
      rw [List.length_map]; exact hlen
  have fpX : ∀ (p : List (Addr × Obj)) (H' : Hp), (∀ q ∈ p, q.1 ∈ fp → False) → (∀ b ∈ fp, H' b = none) → ∀ b ∈ fp, FpOk (cxComp X scope cl N Hq.objs.size s2 H2 fp) p H' b := fun p H' hp hn b hb => by
    obtain ⟨_, f1, f3, f4, f5, _⟩ := f2 b hb
    refine ⟨hn b hb, (below b (fpo b hb)).1, fun hs => ok.exfs b hb hs, .inl hb, fun y c e => f5 y c (c1 _ _ e), fun q hq e => ?_⟩
    exact hp q hq (e ▸ hb)
  have hxv : (relabel scope X.env).names.lookup x = some .local := lookup_relabel_local S.loc
  have loop : ∀ s₃ : Shared, s₃ = { s2 with heap := h₁, toks := s2.toks + ([] : List (Str × Value)).length } →
      codeAny (model X.prog X.w) X.A (.compLoop (.ListComp elt [⟨.Name x px, iter, ifs, 0⟩] scope pos) 0 (.ref it) (.ref s2.heap.objs.size) (compEnvC scope cl Hq.objs.size X.env)) (RR (.ref s2.heap.objs.size) Hq.objs.size) s₃ := by
    rintro s₃ rfl
    refine codeAny_compLoop_tests (fun n s' => ∃ i ys σ' H', Inv (cxComp X scope cl N Hq.objs.size s2 H2 fp) [] σ' H' s' ∧ (∀ v, σ'.set ix v = (carry fr σ).set ix v) ∧ tn i s'.heap ∧ (∀ b ∈ fp, H' b = none) ∧ W i n ys H') ?_ m0
      ⟨0, [], carry fr σ, _, I4, fun _ => rfl, T.keep _ _ _ st2 fun b _ o e => old b o e, fun b hb => by rw [upd_ne (below b (fpo b hb)).2]; exact (f2 b hb).1, w0⟩
    rintro n s3 ⟨i, ys, σ3, H3, I3, hσ, st3, fr3, w3⟩
    obtain ⟨hD3, way⟩ := turn i n ys H3 w3
    rcases way with ⟨stop, qn⟩ | ⟨go, hsz, step⟩
    · refine wpAny_mono (T.done (cxComp X scope cl N Hq.objs.size s2 H2 fp) rfl rfl rfl hcalm i [] s3 σ3 H3 (fun _ _ => False) I3 (fpX [] H3 (fun _ z => by cases z) fr3) st3 stop) (fun r s4 ⟨hr, I5⟩ => ?_) fun _ _ z => z.elim
      subst hr
      obtain ⟨m, hn, _⟩ := id I5.loc
      refine fin _ _ s4 H3 m hn qn (fun h' hs' => ?_) (Ne.symm hDC) (fun b o e => (below b (Heap.lt_size e)).1) I5.free (by rw [hC]; exact Nat.le_succ _)
      have nC : ∀ b u, H3 b = some u → b ≠ Hq.objs.size := fun b u e z => by
        have := I5.free
        rw [show (cxComp X scope cl N Hq.objs.size s2 H2 fp).env.locals = Hq.objs.size from rfl, ← z, e] at this
        cases this
      have keepU : Un (frs X.stack) fp H2 H3 s2.heap h' := by
        have u := I5.base
        refine ⟨fun b o e n hb hx => ?_, fun b o e n hb hx => ?_, fun b o e n hx => u.free b o e n hx, fun b o e hx => ?_, u.tups, u.frzs, u.tbls⟩
        · exact (hs'.2 b (below b (Heap.lt_size e)).1).trans (u.keep b o e n hb hx)
        · obtain ⟨sl, e1⟩ := u.slot b o e n hb hx
          exact ⟨sl, (hs'.2 b (below b (Heap.lt_size e)).1).trans e1⟩
        · obtain ⟨o', e1⟩ := u.there b o e hx
          exact ⟨o', (hs'.2 b (below b (Heap.lt_size e)).1).trans e1⟩
      have hok' : HOk X.prog X.w H3 h' := fun b u e => (I5.hok b u e).stay (fun c v hc q => (hs'.2 c (by
        rcases hc with rfl | hc
        · exact nC _ _ e
        · exact nC _ _ hc)).trans q) (fun _ q => q) fun _ _ q => q
      refine I2.call' (s' := { s4 with heap := h' }) (ch := fp) I5.os keepU hok' I5.bare fun b hb => ?_
      obtain ⟨_, f1, _, f4, f5, f6⟩ := f2 b hb
      exact ⟨f4, f1, f5, f6⟩
    · refine wpAny_mono (T.item (cxComp X scope cl N Hq.objs.size s2 H2 fp) rfl rfl rfl hcalm i [] s3 σ3 H3 (fun _ _ => False) I3 (fpX [] H3 (fun _ z => by cases z) fr3) st3 go) (fun r s4 ⟨u, hr, h4⟩ => ?_) fun _ _ z => z.elim
      subst hr
      show wpAny (model X.prog X.w) X.A (letOwnedTupleGo (.Name x px) (.ref it) u >>= fun _ => assign (.Name x px) (compEnvC scope cl Hq.objs.size X.env) u) _ _ s4
      refine wpAny_bind (wpAny_mono h4 (fun _ s5 ⟨xv, H5, I5, r5, y5, st5, fr5⟩ => ?_) fun _ _ z => z.elim)
      have I5' := I5.pinned (fpX [] H5 (fun _ z => by cases z) fr5) (T.obj _ _ st5)
      refine wpAny_assign_Name (store_ok I5' S.nd S.at_ (.inl hxv) r5 (fun s6 I6 => ?_) (.inr hxv))
      rw [hσ] at I6
      refine wpAny_mono (hif _ _ _ _ _ _ s6 _ H5 _ I6 (step xv H5 y5)) (fun b s7 ⟨H7, I7, q7⟩ => ?_) fun _ _ z => z.elim
      -- what holds again behind the turn
      have again : ∀ {s8 : Shared} {H8 : Hp} {k : Nat} {zs : List V}, Inv (cxComp X scope cl N Hq.objs.size s2 H2 fp) ([] ++ pinsAt fp s5.heap) ((carry fr σ).set ix (some xv)) H8 s8 → W (i + 1) k zs H8 → k < n →
          ∃ m, m < n ∧ ∃ i ys σ' H', Inv (cxComp X scope cl N Hq.objs.size s2 H2 fp) [] σ' H' s8 ∧ (∀ v, σ'.set ix v = (carry fr σ).set ix v) ∧ tn i s8.heap ∧ (∀ b ∈ fp, H' b = none) ∧ W i m ys H' := fun {s8 H8 k zs} I8 w8 hk => by
        refine ⟨k, hk, i + 1, zs, _, H8, I8.unpinned, fun v => by rw [List.set_set], T.keep _ _ _ st5 fun b hb o e => (I8.pin (b, o) (List.mem_append_right _ (List.mem_append_right _ (mem_pinsAt hb e)))).1, fun b hb => ?_, w8⟩
        obtain ⟨o, e, d⟩ := T.obj _ _ st5 b hb
        exact (I8.pin (b, o) (List.mem_append_right _ (List.mem_append_right _ (mem_pinsAt hb e)))).2.1
      cases b with
      | false =>
        rw [if_neg Bool.false_ne_true] at q7 ⊢
        obtain ⟨k, hk, w7⟩ := q7
        exact again I7 w7 hk
      | true =>
        rw [if_pos rfl] at q7 ⊢
        refine wpAny_mono (he _ _ _ _ _ _ s7 _ H7 _ I7 q7) (fun yv s8 ⟨y, H8, I8, r8, hD8, k, hk, w8⟩ => ?_) fun _ _ z => z.elim
        refine wpAny_mono (mt_append (X := cxComp X scope cl N Hq.objs.size s2 H2 fp) _ s8 _ H8 (.ref s2.heap.objs.size) [y] (.ref s2.heap.objs.size) [yv] (fun _ H9 => H9 = upd H8 s2.heap.objs.size (.lst (ys ++ [y]))) I8 rfl (.cons r8 .nil) ⟨_, ys, y, rfl, rfl, hD8, hsz, rfl⟩) (fun _ s9 ⟨_, H9, I9, _, e9⟩ => ?_) fun _ _ z => z.elim
        subst e9
        exact again I9 w8 hk
  exact codeAny_compStart_list (loop _ rfl) (T.self X.A 0 _ _ _ (T.keep _ _ _ st2 fun b _ o e => old b o e) (loop _ rfl))
theorem pe_comp (S : CompScope scope N x ix) (hcalm : X.calm = true) (hfr : frOk N X.N scope X.env.scope fr 0 = true) (hlen : fr.length = N.length) (hfree : ∀ y ∈ scope.names, y.2 = .free → X.env.scope.names.lookup y.1 = some .cell ∨ X.env.scope.names.lookup y.1 = some .free)
    (hi : PI X (.Name x px) iter wi) (hif : ∀ cl C s₀ H₀ fp, PIf (cxComp X scope cl N C s₀ H₀ fp) ifs tif) (he : ∀ cl C s₀ H₀ fp, PE (cxComp X scope cl N C s₀ H₀ fp) elt te)
    (hs : ∀ x, foldedSetIterable iter X.env x = pure x := by intro _; rfl) : PE X (.ListComp elt [⟨.Name x px, iter, ifs, 0⟩] scope pos) (tComp wi fr ix tif te) := by
  intro pins s σ H Q I hw
  obtain ⟨cl, hclos, c1, _, c2⟩ := closure_of (env := X.env) scope.names [] (fun y hy hf => I.ok.has y.1 (hfree y hy hf)) (fun y c z => by cases z)
  have hclos' : closureFor scope X.env = pure cl := by
    have e : closureFor scope X.env = ((forIn scope.names [] (fun (x : Str × NameKind) (r : List (Str × Addr)) => do if (x.2 == NameKind.free) = true then do let a ← cellOf X.env x.1; pure (ForInStep.yield ((x.1, a) :: r)) else pure (ForInStep.yield r)) : Sem (List (Str × Addr))) >>= fun cs => pure cs) := rfl
    rw [e, hclos]
    rfl
  rw [eval_ListComp]
  refine wpAny_comprehension_free (use := none) rfl hs hclos' S.kind S.names (thn (hi pins s σ H _ I hw) fun v s1 h1 => thn h1 fun itv s2 h2 => ?_)
  obtain ⟨it, fp, tn, J, H2, e, I2, T, st2, f2, W⟩ := h2
  subst e
  refine comp_block (RR := fun acc C => compPost (model X.prog X.w) X.A X.xe none (EP X pins σ Q) acc C) S hcalm hfr hlen hif he I2 T st2 f2 c1 c2 W ?_
  intro D C s' H' m hn q hI _ _ _ _
  exact ⟨m, hn, fun h' hs' => ⟨.ref D, H', hI h' hs', rfl, q⟩⟩
/-- name = [..] -/
theorem ps_setComp {i : Nat} {y : Str} {py spos : Pos} (hN : X.N.Nodup) (hy : X.N[i]? = some y) (hly : X.env.scope.names.lookup y = some .local) (S : CompScope scope N x ix) (hcalm : X.calm = true) (hfr : frOk N X.N scope X.env.scope fr 0 = true) (hlen : fr.length = N.length)
    (hfree : ∀ y ∈ scope.names, y.2 = .free → X.env.scope.names.lookup y.1 = some .cell ∨ X.env.scope.names.lookup y.1 = some .free)
    (hi : PI X (.Name x px) iter wi) (hif : ∀ cl C s₀ H₀ fp, PIf (cxComp X scope cl N C s₀ H₀ fp) ifs tif) (he : ∀ cl C s₀ H₀ fp, PE (cxComp X scope cl N C s₀ H₀ fp) elt te)
    (hsw : swapsWith (.ListComp elt [⟨.Name x px, iter, ifs, 0⟩] scope pos) (some (.Name y py)) spos.line X.env = pure true := by rfl)
    (hs : ∀ x, foldedSetIterable iter X.env x = pure x := by intro _; rfl) :
    PS X (.Assign [.Name y py] (.ListComp elt [⟨.Name x px, iter, ifs, 0⟩] scope pos) spos) (tAsg (tComp wi fr ix tif te) (gName i)) := by
  intro pins s σ H D I hw
  obtain ⟨cl, hclos, c1, _, c2⟩ := closure_of (env := X.env) scope.names [] (fun y hy hf => I.ok.has y.1 (hfree y hy hf)) (fun y c z => by cases z)
  have hclos' : closureFor scope X.env = pure cl := by
    have e : closureFor scope X.env = ((forIn scope.names [] (fun (x : Str × NameKind) (r : List (Str × Addr)) => do if (x.2 == NameKind.free) = true then do let a ← cellOf X.env x.1; pure (ForInStep.yield ((x.1, a) :: r)) else pure (ForInStep.yield r)) : Sem (List (Str × Addr))) >>= fun cs => pure cs) := rfl
    rw [e, hclos]
    rfl
  rw [exec_Assign_Name_used _ _ _ _ hsw]
  refine wpAny_bind (wpAny_standAt (wpAny_bind ?_))
  show wpAny _ X.A (do let _ ← comprehension (.ListComp elt [⟨.Name x px, iter, ifs, 0⟩] scope pos) scope X.env _ (newList []) false (eval iter X.env) (some (assign (.Name y py) X.env))) _ _ s
  refine wpAny_bind (wpAny_mono (wpAny_comprehension_free (use := some (assign (.Name y py) X.env)) (Q := fun _ s' => SP X pins D .next s') rfl hs hclos' S.kind S.names
    (thn (hi pins s σ H _ I hw) fun v s1 h1 => thn h1 fun itv s2 h2 => ?_)) (fun _ s' hq => wpAny_pure (wpAny_pure hq)) fun _ _ e => e)
  obtain ⟨it, fp, tn, J, H2, e, I2, T, st2, f2, W⟩ := h2
  subst e
  refine comp_block (Q := fun x H1 => gName i x σ H1 D.nx) (RR := fun acc C => compPost (model X.prog X.w) X.A X.xe (some (assign (.Name y py) X.env)) (fun _ s' => SP X pins D .next s') acc C) S hcalm hfr hlen hif he I2 T st2 f2 c1 c2 W ?_
  intro D' C s' H' m hn q hI hCD hold hfreeC hsz
  have I5 : Inv X pins σ H' s' := hI s'.heap (Heap.SameBut.refl ..)
  refine wpAny_assign_Name (store_ok2 I5 hN hy (.inl hly) (v := .ref D') rfl (fun s'' I6 ⟨a, hsb, ha⟩ => ?_) (.inr hly))
  have hL : C ≠ X.env.locals := fun z => by
    obtain ⟨_, ⟨o, _, _, e, _⟩, _⟩ := I2.loc
    exact hold _ _ e z.symm
  have hcl : ∀ z c, X.env.cells.lookup z = some c → c ≠ C := fun z c e => by
    obtain ⟨_, o, ho, _⟩ := I2.cell z c e
    exact hold _ _ ho
  have hCa : C ≠ a := by
    rcases ha with z | z
    · rw [z]; exact hL
    · exact Ne.symm (hcl _ _ z)
  refine ⟨m, hn.sameBut hsb hCa, fun h' hs' => ⟨_, H', I6.turned (t' := s''.toks) (it := C) (fun b o hb e => (hs'.2 b hb).trans e) hfreeC hL (.inr (Nat.le_trans I2.sz hsz)) hcl fun p hp => ?_, q⟩⟩
  obtain ⟨e, _⟩ := I2.pin p hp
  exact hold _ _ e
end
end L2

set_option Elab.async false
set_option linter.all false
set_option maxRecDepth 100000
set_option maxHeartbeats 4000000
namespace L2
open PySem PySem.Spec PyProof.Rows
/-! ### exceptions: how one lies behind a call -/
theorem ObjOk.get {P : Program} {w : World} {H : Hp} {h : Heap} {a : Addr} {o : HO} (x : ObjOk P w H h a o) : ∃ u, h.get? a = some u := by
  cases o with
  | lst xs => obtain ⟨_, _, _, _, e⟩ := x; exact ⟨_, e⟩
  | tup xs => obtain ⟨_, _, _, o, e, _⟩ := x; exact ⟨o, e⟩
  | dK kvs => obtain ⟨_, _, _, _, o, _, _, e, _⟩ := x; exact ⟨o, e⟩
  | dT kvs => obtain ⟨_, _, _, _, o, _, _, e, _⟩ := x; exact ⟨o, e⟩
  | set S n => obtain ⟨o, _, _, _, e, _⟩ := x; exact ⟨o, e⟩
  | ins C dx fs => obtain ⟨_, _, _, e, _⟩ := x; exact ⟨_, e⟩
  | own y => obtain ⟨o, e⟩ := x; exact ⟨o, e⟩
  | xd fs => obtain ⟨_, ⟨o, _, _, e, _⟩, _⟩ := x; exact ⟨o, e⟩
  | rng lo hi => obtain ⟨_, _, _, e⟩ := x; exact ⟨_, e⟩
  | frz ob u => obtain ⟨e, _⟩ := x; exact ⟨_, e⟩
  | tbl ps => exact ⟨_, (show h.get? a = some _ from x)⟩
  | met f y => exact ⟨_, (show h.get? a = some _ from x)⟩
  | ext φ => obtain ⟨_, ⟨o, e⟩, _⟩ := x; exact ⟨o, e⟩
/-- an exception flies: B is what stays as it is while it does; s, H: ahead of the call; H': the abstract heap behind it -/
structure FlyB (P : Program) (w : World) (outer : List Env) (H : Hp) (s : Shared) (ea : Addr) (cls a0 : Value) (H' : Hp) (s' : Shared) (B : Heap) : Prop where
  os : s'.os = s.os
  bare : AllBare s'.gens
  fly : Heap.FlyingW B outer ea cls a0 s'.heap
  keep : ∀ b o, s.heap.get? b = some o → H b = none → b ∉ frs outer → B.get? b = some o
  there : ∀ b o, s.heap.get? b = some o → b ∉ frs outer → ∃ o', B.get? b = some o'
  slot : ∀ b o, s.heap.get? b = some o → b ∈ frs outer → ∃ sl, s'.heap.get? b = some { o with slots := sl }
  free : ∀ b o, s.heap.get? b = some o → H b = none → H' b = none
  tups : ∀ b xs, H b = some (.tup xs) → H' b = some (.tup xs)
  frzs : ∀ b o u, H b = some (.frz o u) → H' b = some (.frz o u)
  tbls : ∀ b ps, H b = some (.tbl ps) → ∃ more, H' b = some (.tbl (ps ++ more))
  hok : HOk P w H' B
  new : s.heap.get? ea = none
def CXW (P : Program) (w : World) : CXT := fun outer H s E e s' => ∃ ea cls a0 H' B, e = .ref ea ∧ FlyB P w outer H s ea cls a0 H' s' B ∧ E cls none H'
theorem frs_data {base h : Heap} {l : List Env} (F : h.FunFrames base l) {b : Addr} (hb : b ∈ frs l) : ∃ o, h.get? b = some o ∧ ∀ vs, o.data ≠ .fields vs := (F.mem hb).2
section
variable {P : Program} {w : World} {K : PySem.W.Frag} {mg : Str → Option Value} {base : Heap} {N : List Str} {qual : Str} {scope : Scope} {f : Addr} {cd : Value} {A : Around} {outer : List Env} {s : Shared} {H : Hp} {E : XK}
/-- an exception made in a def's body leaves it -/
theorem xe_made {pins : List (Addr × Obj)} {σ : St} {H1 : Hp} {s1 : Shared} {h' : Heap} {ea : Addr} {cls : Value} {args : List Value} (I : Inv (cxOf (CXW P w) P w K mg base N qual scope f cd A outer s H E) pins σ H1 s1)
    (hx : Heap.MadeExcOf s1.heap h' ea cls args) (hE : E cls none H1) : (cxOf (CXW P w) P w K mg base N qual scope f cd A outer s H E).xe (.ref ea) { s1 with heap := h' } := by
  show wpAny (model P w) (A.deeper (envOfC qual scope s.heap.objs.size f cd)) (leaving (envOfC qual scope s.heap.objs.size f cd) (.ref ea)) _ _ _
  have FF := I.stack
  have hfr : (A.deeper (envOfC qual scope s.heap.objs.size f cd)).frames = some (envOfC qual scope s.heap.objs.size f cd :: outer) := I.ok.frames
  have hin : ∀ env ∈ (envOfC qual scope s.heap.objs.size f cd :: outer), ∀ b, env.frame = some b → b ∈ (envOfC qual scope s.heap.objs.size f cd :: outer).filterMap (·.frame) := fun env he b hb => List.mem_filterMap.mpr ⟨env, he, hb⟩
  have notL : ∀ b o, s.heap.get? b = some o → b ≠ s.heap.objs.size := fun b o e => Nat.ne_of_lt (Heap.lt_size e)
  have out : ∀ b, b ≠ s.heap.objs.size → b ∉ frs outer → b ∉ (envOfC qual scope s.heap.objs.size f cd :: outer).filterMap (·.frame) := fun b h1 h2 hm => by
    rcases List.mem_cons.mp (I.stkSub b hm) with z | z
    · exact h1 z
    · exact h2 z
  have outT : ∀ b u, H1 b = some u → b ∉ (envOfC qual scope s.heap.objs.size f cd :: outer).filterMap (·.frame) := fun b u e hm => by
    have := I.stkFree b hm
    rw [e] at this; cases this
  refine wpAny_leaves_madeW (base := PySem.W.hideAll s1.heap ((envOfC qual scope s.heap.objs.size f cd :: outer).filterMap (·.frame))) hfr rfl (fun b o q => PySem.W.of_hideAll _ q) (PySem.W.funFrames_hide FF hin) hx fun h2 t fl _ _ up => ?_
  have hokB : HOk P w H1 (PySem.W.hideAll s1.heap ((envOfC qual scope s.heap.objs.size f cd :: outer).filterMap (·.frame))) := fun b u e =>
    (I.hok b u e).stay (fun c v hc q => PySem.W.hideAll_get _ q (by
      rcases hc with rfl | hc
      · exact outT _ _ e
      · exact outT _ _ hc)) (fun _ q => q) fun _ _ q => q
  refine ⟨ea, cls, .ref t, H1, _, rfl, ⟨I.os, I.bare, fl, fun b o e n hb => ?_, fun b o e hb => ?_, fun b o e hb => ?_, fun b o e n => I.base.free b o e n (by simp [cxOf]), I.base.tups, I.base.frzs, I.base.tbls, hokB, ?_⟩, hE⟩
  · exact PySem.W.hideAll_get _ (I.base.keep b o e n hb (by simp [cxOf])) (out b (notL b o e) hb)
  · obtain ⟨o', e1⟩ := I.base.there b o e (by simp [cxOf])
    exact ⟨o', PySem.W.hideAll_get _ e1 (out b (notL b o e) hb)⟩
  · obtain ⟨sl, e1⟩ := I.base.slot b o e (I.ok.frf b hb) hb (by simp [cxOf])
    obtain ⟨o', e2, hd⟩ := frs_data I.funs hb
    rw [e1] at e2
    cases e2
    obtain ⟨sl', e3⟩ := up b _ (hx.keeps _ _ e1) hd
    exact ⟨sl', e3⟩
  · cases q : s.heap.get? ea with
    | none => rfl
    | some o =>
      obtain ⟨o', e1⟩ := I.base.there ea o q (by simp [cxOf])
      have := hx.new
      rw [e1] at this; cases this
/-- one that a callee has let out goes on -/
theorem passW {E' : XK} (hE : ∀ c a H', E' c a H' → E c a H') : Passes (CXW P w) (cxOf (CXW P w) P w K mg base N qual scope f cd A outer s H E) E' := by
  intro pins σ H1 s1 e s2 I ⟨ea, cls, a0, H2, B, ee, F, hq⟩
  subst ee
  show wpAny (model P w) (A.deeper (envOfC qual scope s.heap.objs.size f cd)) (leaving (envOfC qual scope s.heap.objs.size f cd) (.ref ea)) _ _ _
  have notL : ∀ b o, s.heap.get? b = some o → b ≠ s.heap.objs.size := fun b o e => Nat.ne_of_lt (Heap.lt_size e)
  have out : ∀ b, b ≠ s.heap.objs.size → b ∉ frs outer → b ∉ frs (cxOf (CXW P w) P w K mg base N qual scope f cd A outer s H E).stack := fun b h1 h2 hm => by
    rcases List.mem_cons.mp (I.stkSub b hm) with z | z
    · exact h1 z
    · exact h2 z
  refine wpAny_leaves_onW I.ok.frames rfl F.fly fun h3 fl up => ?_
  refine ⟨ea, cls, a0, H2, B, rfl, ⟨F.os.trans I.os, F.bare, fl, fun b o e n hb => ?_, fun b o e hb => ?_, fun b o e hb => ?_, fun b o e n => ?_, fun b xs q => F.tups b xs (I.base.tups b xs q), fun b o u q => F.frzs b o u (I.base.frzs b o u q), fun b ps q => ?_, F.hok, ?_⟩, hE _ _ _ hq⟩
  · exact F.keep b o (I.base.keep b o e n hb (by simp [cxOf])) (I.base.free b o e n (by simp [cxOf])) (out b (notL b o e) hb)
  · obtain ⟨o', e1⟩ := I.base.there b o e (by simp [cxOf])
    exact F.there b o' e1 (out b (notL b o e) hb)
  · obtain ⟨sl, e1⟩ := I.base.slot b o e (I.ok.frf b hb) hb (by simp [cxOf])
    have hb' : b ∈ frs (cxOf (CXW P w) P w K mg base N qual scope f cd A outer s H E).stack := by
      show b ∈ frs (envOfC qual scope s.heap.objs.size f cd :: outer)
      unfold frs
      rw [List.filterMap_cons]
      exact List.mem_cons_of_mem _ hb
    obtain ⟨sl2, e2⟩ := F.slot b _ e1 hb'
    obtain ⟨o', e3, hd⟩ := frs_data I.funs hb
    rw [e1] at e3
    cases e3
    obtain ⟨sl3, e4⟩ := up b _ e2 hd
    exact ⟨sl3, e4⟩
  · obtain ⟨o', e1⟩ := I.base.there b o e (by simp [cxOf])
    exact F.free b o' e1 (I.base.free b o e n (by simp [cxOf]))
  · obtain ⟨m1, e1⟩ := I.base.tbls b ps q
    obtain ⟨m2, e2⟩ := F.tbls b _ e1
    exact ⟨m1 ++ m2, by rw [e2, Array.append_assoc]⟩
  · cases q : s.heap.get? ea with
    | none => rfl
    | some o =>
      obtain ⟨o', e1⟩ := I.base.there ea o q (by simp [cxOf])
      have := F.new
      rw [e1] at this; cases this
/-- a def that may refuse -/
theorem Fun.okW {x : Str} {st : Stmt} {fd : FuncData} {ps : List Str} {k : Nat} {sp : Sp} (F : Fun K x x st f fd) (S : FnScope N ps (defScope st)) (len : ∀ vs H Q E, sp vs H Q E → vs.length = ps.length)
    (hbody : ∀ (cdv : Value) (A : Around) (outer : List Env) (s : Shared) (H : Hp) (vs : List V) (Q : VK) (E : XK), Room k (A.deeper (envOfC x (defScope st) s.heap.objs.size f cdv)) → sp vs H Q E →
      ∃ t, PSs (cxOf (CXW P w) P w K mg base N x (defScope st) f cdv A outer s H E) (defBody st) t ∧ t { nx := fun _ H' => Q .non H', rt := Q } (start N vs) H) : FnOk P w K mg base (CXW P w) (k + 1) f fd ps sp := by
  obtain ⟨oc, od, kV, doc, pm, an, cdv, ct, osl, rfl, lk, hcd⟩ := F.ex
  exact fn_of lk hcd S len fun A outer s H vs Q E hr hsp => hbody cdv A outer s H vs Q E hr hsp
/-- a promise without refusals serves where refusals are let through -/
theorem FnOk.toW {fd : FuncData} {ps : List Str} {k : Nat} {sp : Sp} (F : FnOk P w K mg base CX0 k f fd ps sp) : FnOk P w K mg base (CXW P w) k f fd ps sp :=
  ⟨F.len, fun A outer s H args us vs Q E hr he hb hv hs => codeAny_mono (F.run A outer s H args us vs Q E hr he hb hv hs) fun r s' h => by
    cases r with
    | ok fl => cases fl <;> exact h
    | error e => exact False.elim h⟩
end
/-! ### the text's own classes of refusals -/
structure Exc (K : PySem.W.Frag) (mg : Str → Option Value) (x : Str) (C : Addr) : Prop where
  m : mg x = some (.ref C)
  q : PySem.W.excIn K C [.type "ValueError", .type "Exception", .type "BaseException", .type "object"] "ValueError.__new__" = true
theorem exc_obj {K : PySem.W.Frag} {h : Heap} {C : Addr} {bB : List Value} {nid : String} (kin : K.In h) (hq : PySem.W.excIn K C bB nid = true) :
    ∃ tl N nm qn bs hd sn sub ab col dd k0 k1 k2 k3 k5 mN, h.get? C = some (excClassObj nm qn C N bs tl hd sn sub ab col dd k0 k1 k2 k3 k5 nid) ∧ h.Ns N mN ∧ mN "__init__" = none ∧ OwnTail h bB tl := by
  unfold PySem.W.excIn at hq
  split at hq
  · rename_i dd cd sl lk
    split at hq
    · rename_i C1 tl k0 k1 k2 k3 n1 k5 e1 e2
      simp only [Bool.and_eq_true, beq_iff_eq, Bool.not_eq_true'] at hq
      obtain ⟨⟨⟨⟨⟨y1, y2⟩, y3⟩, y4⟩, y5⟩, y6⟩ := hq
      subst y1 y2
      obtain ⟨nm, bs, mro, N, qn, hd, sn, sub, ab, col, del⟩ := cd
      dsimp only at e1 y3 y5 y6
      subst e1 y3
      have e3 : sl = #[k0, k1, k2, k3, some (.builtin n1), k5] := by
        cases sl with
        | mk l => simp only at e2; rw [e2]
      subst e3
      exact ⟨tl, N, nm, qn, bs, hd, sn, sub, ab, col, dd, k0, k1, k2, k3, k5, _, kin _ _ lk, .of_isNs (PySem.W.isNs_of_in kin y5), PySem.W.nsMap_none_of_in kin y5 y6, PySem.W.tail_of_in kin y4⟩
    · cases hq
  · cases hq
section
variable {X : Cx} {x : Str} {C : Addr} {np cpos pos : Pos} {e : Expr} {te : TE} {E : XK}
/-- what is made here may leave -/
def Lets (X : Cx) (E : XK) : Prop := ∀ (pins : List (Addr × Obj)) (σ : St) (H : Hp) (s : Shared) (h' : Heap) (ea : Addr) (cls : Value) (args : List Value), Inv X pins σ H s → Heap.MadeExcOf s.heap h' ea cls args → E cls none H → X.xe (.ref ea) { s with heap := h' }
def tRaise (C : Addr) (E : XK) (te : TE) : TS := fun _ σ H => te σ H fun _ H1 => E (.ref C) none H1
/-- raise C(e) -/
theorem ps_raise (T : Exc X.K X.mg x C) (hL : Lets X E) (hcalm : X.calm = true) (hg : Gl X x) (he : PE X e te) (hd : (x == ("__debug__" : Str)) = false := by decide)
    (hst : starEach [e] X.env = [(false, eval e X.env)] := by rfl) : PS X (.Raise (some (.Call (.Name x np) [e] [] cpos)) none pos) (tRaise C E te) := by
  intro pins s σ H D I h
  obtain ⟨tl, N, nm, qn, bs, hdct, sn, sub, ab, col, dd, k0, k1, k2, k3, k5, mN, hC, hN, hni, TL⟩ := exc_obj I.ok.mod.kin T.q
  refine wpAny_Raise_call_subT (C := C) (nm := nm) (q := qn) (N := N) (bs := bs) (bm := tl) (hdct := hdct) (sn := sn) (sub := sub) (ab := ab) (col := col) (dd := dd) (k0 := k0) (k1 := k1) (k2 := k2) (k3 := k3) (k5 := k5)
    PySem.F.excBase_ValueError (mN := mN) (TL.hasType (by decide)) (I.ok.hd hcalm) (by rw [hst]; rfl) hni (ld_glob I hg T.m ⟨rfl, ?_⟩ hd)
  rw [hst]
  refine Calls.evalArgs_plain (Calls.spliced_cons (thn (he pins s σ H _ I h) fun u s1 ⟨v, H1, I1, r1, q1⟩ => Calls.spliced_nil ?_))
  exact ⟨rfl, by show 1 ≤ sizeLine; decide, I1.bk _ _ hC, hN.keeps I1.bk, TL.keeps I1.bk, fun h' ea hm => hL pins σ H1 s1 h' ea _ _ I1 hm q1⟩
end
end L2

set_option Elab.async false
set_option linter.all false
set_option maxRecDepth 100000
set_option maxHeartbeats 4000000
namespace L2
open PySem PySem.Spec PyProof.Rows
/-! ### an expression that may raise; try .. except C as n: z = n -/
/-- an exception came out of what was run in X at σ -/
def FlyAt (X : Cx) (pins : List (Addr × Obj)) (σ : St) (E : XK) (e : Value) (s' : Shared) : Prop := ∃ H0 s0, Inv X pins σ H0 s0 ∧ CXW X.prog X.w X.stack H0 s0 E e s'
abbrev TX := St → Hp → VK → XK → Prop
def PEX (X : Cx) (e : Expr) (t : TX) : Prop :=
  ∀ (pins : List (Addr × Obj)) (s : Shared) (σ : St) (H : Hp) (Q : VK) (E : XK), Inv X pins σ H s → t σ H Q E → wpAny (model X.prog X.w) X.A (eval e X.env) (EP X pins σ Q) (FlyAt X pins σ E) s
section
variable {X : Cx} {k : Nat} {f : Addr} {fd : FuncData} {ps : List Str} {sp : Sp} {x : Str} {st : Stmt} {p pos : Pos} {e : Expr} {es : List Expr} {t : TA}
def tCallX (sp : Sp) (t : TA) : TX := fun σ H Q E => t σ H fun vs H1 => sp (vs ++ []) H1 Q E
/-- the call of a function object that is known -/
theorem run_fnX {pins : List (Addr × Obj)} {σ : St} {H : Hp} {s : Shared} {Q : VK} {E : XK} {us : List Value} {vs : List V} (F : FnOk X.prog X.w X.K X.mg X.base (CXW X.prog X.w) k f fd ps sp) (hr : Room k X.A) (hb : Binds X.K fd ps [])
    (I : Inv X pins σ H s) (r : Vals vs us) (h : sp (vs ++ []) H Q E) : wpAny (model X.prog X.w) X.A (call (.ref f) us) (EP X pins σ Q) (FlyAt X pins σ E) s := by
  rw [List.append_nil] at h
  have hl : (us ++ []).length = ps.length := by rw [List.append_nil, ← r.length]; exact F.len _ _ _ _ h
  have hb' := hb s us I.kIn hl
  rw [List.append_nil] at hb'
  refine wpAny_call (codeAny_mono (F.run X.A X.stack s H ⟨us, []⟩ us vs Q E hr I.env0 hb' r h) fun r s' hq => ?_)
  cases r with
  | error e => exact ⟨H, s, I, hq⟩
  | ok fl =>
    cases fl with
    | ret u => exact I.after hq
    | next => exact False.elim hq
    | brk => exact False.elim hq
    | cont => exact False.elim hq
theorem pex_fn (T : Fn X.K X.mg x st ps f fd) (G : FnOk X.prog X.w X.K X.mg X.base (CXW X.prog X.w) k f fd ps sp) (hr : Room k X.A) (hg : Gl X x) (ha : PA X.nox (e :: es) t)
    (hdb : (x == ("__debug__" : Str)) = false := by decide) (he : starEach (e :: es) X.env = (false, eval e X.env) :: starEach es X.env := by rfl) (hpl : (backTo pos (starEach es X.env)).any (·.1) = false := by rfl) :
    PEX X (.Call (.Name x p) (e :: es) [] pos) (tCallX sp t) := by
  intro pins s σ H Q E I h
  refine wpAny_Call_Name_kw (ld_glob I hg T.m ?_ hdb)
  refine PySem.W.callWith_K (h₀ := X.base) I.ok.mod.kin T.F.kp (wpAny_mono (ha pos pins s σ H _ (I.wish _) h) (fun us s1 ⟨vs, H1, I1, r, q⟩ => ⟨I1.kIn, ?_⟩) fun _ _ z => z.elim) he hpl
  exact run_fnX G hr T.b I1.unwish r q
end
/-- where the exception has landed -/
theorem land {X : Cx} {pins : List (Addr × Obj)} {σ : St} {H0 H' : Hp} {s0 s' : Shared} {ea : Addr} {cls a0 : Value} {B : Heap} (I : Inv X pins σ H0 s0) (F : FlyB X.prog X.w X.stack H0 s0 ea cls a0 H' s' B)
    {h' : Heap} {tk : Nat} (st : B.StaysIn h') (up : s'.heap.UpToSlots h') : Inv X pins σ H' { s' with heap := h', toks := tk } := by
  have fdat : ∀ b o, s0.heap.get? b = some o → b ∈ frs X.stack → ∃ sl, h'.get? b = some { o with slots := sl } := fun b o e hb => by
    obtain ⟨sl, e1⟩ := F.slot b o e hb
    obtain ⟨o', e2, hd⟩ := frs_data I.stack hb
    rw [e] at e2; cases e2
    obtain ⟨sl', e3⟩ := up b _ e1 hd
    exact ⟨sl', e3⟩
  refine I.call' (s' := { s' with heap := h', toks := tk }) (ch := []) F.os ⟨fun b o e n hb _ => st b o (F.keep b o e n hb), fun b o e n hb _ => fdat b o e hb, fun b o e n _ => F.free b o e n, fun b o e _ => ?_, F.tups, F.frzs, F.tbls⟩ (F.hok.kept st) F.bare fun b z => absurd z (by simp)
  by_cases hb : b ∈ frs X.stack
  · obtain ⟨sl, e1⟩ := fdat b o e hb
    exact ⟨_, e1⟩
  · obtain ⟨o', e1⟩ := F.there b o e hb
    exact ⟨o', st _ _ e1⟩
/-- a caught exception, by its class -/
def excO (ea : Addr) (cls : Value) : HO := .ext fun h => ∃ o vs, h.get? ea = some o ∧ o.cls = cls ∧ o.data = .fields vs
/-- .. is tracked from now on -/
theorem track {X : Cx} {pins : List (Addr × Obj)} {σ : St} {H0 H' : Hp} {s0 s' s6 : Shared} {ea : Addr} {cls a0 : Value} {B : Heap} (I : Inv X pins σ H0 s0) (F : FlyB X.prog X.w X.stack H0 s0 ea cls a0 H' s' B)
    (I6 : Inv X pins σ H' s6) (ho : ∃ o vs, s6.heap.get? ea = some o ∧ o.cls = cls ∧ o.data = .fields vs) : H' ea = none ∧ Inv X pins σ (upd H' ea (excO ea cls)) s6 := by
  have hn : H' ea = none := by
    cases q : H' ea with
    | none => rfl
    | some u =>
      obtain ⟨o, e⟩ := (F.hok ea u q).get
      rw [F.fly.2.1] at e; cases e
  have ne : ∀ b o, s0.heap.get? b = some o → b ≠ ea := fun b o e z => by rw [z, F.new] at e; cases e
  have up : ∀ b, b ≠ ea → upd H' ea (excO ea cls) b = H' b := fun b z => upd_ne z
  have neT : ∀ b u, H' b = some u → b ≠ ea := fun b u e z => by rw [z, hn] at e; cases e
  refine ⟨hn, I6.ok, I6.os, I6.bare, ⟨I6.base.keep, I6.base.slot, fun b o e n hx => ?_, I6.base.there, fun b xs e => ?_, fun b o u e => ?_, fun b ps e => ?_⟩, I6.loc, I6.cell, ?_, fun y c e => ?_, fun p hp => ?_, fun b u e => ?_, I6.len⟩
  · obtain ⟨o', e1⟩ := I.base.there b o e hx
    rw [up b (ne b o' e1)]; exact I6.base.free b o e n hx
  · have := I6.base.tups b xs e
    rw [up b (neT _ _ this)]; exact this
  · have := I6.base.frzs b o u e
    rw [up b (neT _ _ this)]; exact this
  · obtain ⟨m, e1⟩ := I6.base.tbls b ps e
    exact ⟨m, by rw [up b (neT _ _ e1)]; exact e1⟩
  · obtain ⟨m, ⟨o, _, _, e, _⟩, _⟩ := I.loc
    rw [up _ (ne _ o e)]; exact I6.free
  · obtain ⟨v, o, e1, _⟩ := I.cell y c e
    rw [up _ (ne _ o e1)]; exact I6.freeC y c e
  · obtain ⟨e1, e2, e3⟩ := I6.pin p hp
    have e0 := (I.pin p hp).1
    exact ⟨e1, by rw [up _ (ne _ _ e0)]; exact e2, e3⟩
  · by_cases hb : b = ea
    · subst hb
      rw [upd_same] at e
      cases e
      obtain ⟨o, vs, e1, e2, e3⟩ := ho
      exact ⟨⟨o, vs, e1, e2, e3⟩, ⟨o, e1⟩, fun h1 h2 ⟨o1, vs1, q1, q2⟩ k => ⟨o1, vs1, k _ q1, q2⟩⟩
    · rw [up b hb] at e
      exact (I6.hok b u e).stay (fun c v _ q => q) (fun c q => by rw [up c (neT _ _ q)]; exact q) fun c xs q => by rw [up c (neT _ _ q)]; exact q
end L2

set_option Elab.async false
set_option linter.all false
set_option maxRecDepth 100000
set_option maxHeartbeats 4000000
namespace L2
open PySem PySem.Spec PyProof.Rows
/-- the refusal's class is, or is not, beneath the clause's -/
structure Beneath (K : PySem.W.Frag) (C G : Addr) (b : Bool) : Prop where
  cl : (PySem.W.clsIn K G).isSome = true
  ty : PySem.W.typeIn K (.ref G) = some (.type "type")
  ex : PySem.W.subIn K (.ref G) (.type "BaseException") = some true
  sub : PySem.W.subIn K (.ref C) (.ref G) = some b
theorem excMatch {M : Model} {A : Around} {E : Value → Shared → Prop} {s : Shared} {K : PySem.W.Frag} {e C G : Addr} {oe : Obj} {b : Bool} {Q : Bool → Shared → Prop} (X : K.In s.heap) (he : s.heap.get? e = some oe) (hc : oe.cls = .ref C) (B : Beneath K C G b)
    (h : Q b s) : wpAny M A (excMatches (.ref e) (.ref G)) Q E s := by
  have l1 : PySem.W.Looks M s.heap (isInstance (.ref G) (.type "tuple")) false := (PySem.W.looks_typeIn X B.ty).andThen (PySem.W.Looks.of_pure tc_notTuple)
  have l2 : PySem.W.Looks M s.heap (isType (.ref G)) true := by
    have z := B.cl
    unfold PySem.W.clsIn at z
    split at z
    · rename_i c' d' cd' sl' ho
      intro A' Q' E' s' k q
      unfold isType loadHead
      exact wpAny_bind (wpAny_loadPart (k _ _ (X _ _ ho)) (wpAny_pure q))
    · cases z
  have l3 : PySem.W.Looks M s.heap (isSubtype (.ref G) (.type "BaseException")) true := PySem.W.looks_subIn X B.ex
  have l4 : PySem.W.Looks M s.heap (typeOf (.ref e)) (.ref C) := hc ▸ (PySem.W.Looks.ld he).andThen .now
  have l5 : PySem.W.Looks M s.heap (isSubtype (.ref C) (.ref G)) b := PySem.W.looks_subIn X B.sub
  obtain ⟨hp, g, d, tk, os⟩ := s
  unfold excMatches isExcClass
  refine wpAny_bind (l1.at ?_)
  simp only [Bool.false_eq_true, if_false]
  refine wpAny_bind (wpAny_pure ?_)
  simp only [List.forIn_cons, List.forIn_nil]
  refine wpAny_bind (wpAny_bind (wpAny_bind (wpAny_bind (l2.at ?_))))
  simp only [if_true]
  refine l3.at ?_
  simp only [Bool.not_true, Bool.false_eq_true, if_false]
  refine wpAny_pure (wpAny_pure (wpAny_bind (l4.at (wpAny_bind (wpAny_bind (wpAny_bind (l5.at ?_)))))))
  cases b with
  | true =>
    simp only [if_true]
    exact wpAny_pure (wpAny_pure (wpAny_pure h))
  | false =>
    simp only [Bool.false_eq_true, if_false]
    exact wpAny_pure (wpAny_pure (wpAny_pure h))
/-- within the suite of an except clause -/
def Cx.held (X : Cx) (ea : Addr) : Cx := { X with A := X.A.mark (some (.ref ea)), calm := false, xe := fun _ _ => False }
theorem Inv.held {X : Cx} {pins : List (Addr × Obj)} {σ : St} {H : Hp} {s : Shared} (I : Inv X pins σ H s) (ea : Addr) : Inv (X.held ea) pins σ H s :=
  ⟨⟨I.ok.mod, I.ok.kind, I.ok.glob, I.ok.blt, I.ok.above, I.ok.inj, I.ok.has, I.ok.cab, fun z => (by cases z), I.ok.frames, I.ok.stk, I.ok.exf, I.ok.bs, I.ok.bsz, I.ok.noex, I.ok.exfs, I.ok.funs, I.ok.frf⟩, I.os, I.bare, I.base, I.loc, I.cell, I.free, I.freeC, I.pin, I.hok, I.len⟩
theorem Inv.unheld {X : Cx} {pins : List (Addr × Obj)} {σ : St} {H : Hp} {s : Shared} {ea : Addr} (ok : X.Ok) (I : Inv (X.held ea) pins σ H s) : Inv X pins σ H s :=
  ⟨ok, I.os, I.bare, I.base, I.loc, I.cell, I.free, I.freeC, I.pin, I.hok, I.len⟩
/-- a name goes: its slot is empty again -/
theorem goes {X : Cx} {pins : List (Addr × Obj)} {σ : St} {H : Hp} {s : Shared} {M : Model} {A : Around} {E : Value → Shared → Prop} {i : Nat} {n : Str} {pos : Pos} {Q : Unit → Shared → Prop} (I : Inv X pins σ H s) (hN : X.N.Nodup) (hi : X.N[i]? = some n)
    (hl : X.env.scope.names.lookup n = some .local) (h : ∀ s', Inv X pins (σ.set i none) H s' → Q () s') : wpAny M A (do bindName X.env n .none; unbindBehindTheSuite X.env n pos) Q E s := by
  obtain ⟨m, hn, hlk⟩ := id I.loc
  have hcls : (X.env.scope.kind == .class || (X.env.scope.kind == .module && X.env.locals != X.env.globals)) = false := by rw [I.ok.kind]; rfl
  refine wpAny_nameGoes_keeps hl hn hcls fun h' v hn' hs => h _ ?_
  have hiS : i < σ.length := by rw [I.len]; exact (List.getElem?_eq_some_iff.mp hi).1
  obtain ⟨oL, _, _, hoL, _⟩ := id hn
  have tr : HOk X.prog X.w H h' := fun b ob e => (I.hok b ob e).stay (fun c w' hc q => (hs.2 c (by
    rintro rfl
    rcases hc with hc | hc
    · rw [← hc, I.free] at e; cases e
    · rw [I.free] at hc; cases hc)).trans q) (fun _ q => q) fun _ _ q => q
  refine ⟨I.ok, I.os, I.bare, ⟨fun b o e n hb hx => ?_, fun b o e n hb hx => ?_, I.base.free, fun b o e hx => ?_, I.base.tups, I.base.frzs, I.base.tbls⟩, ⟨_, hn', fun j y v' e1 e2 e3 => ?_⟩, fun y c e => ?_, I.free, I.freeC, fun p hp => ?_, tr, by simpa using I.len⟩
  · exact (hs.2 b (Nat.ne_of_lt (Nat.lt_of_lt_of_le (Heap.lt_size e) I.ok.above))).trans (I.base.keep b o e n hb hx)
  · obtain ⟨sl, e1⟩ := I.base.slot b o e n hb hx
    exact ⟨sl, (hs.2 b (Nat.ne_of_lt (Nat.lt_of_lt_of_le (Heap.lt_size e) I.ok.above))).trans e1⟩
  · obtain ⟨o', e1⟩ := I.base.there b o e hx
    exact ⟨o', (hs.2 b (Nat.ne_of_lt (Nat.lt_of_lt_of_le (Heap.lt_size e) I.ok.above))).trans e1⟩
  · by_cases hj : j = i
    · subst hj
      rw [List.getElem?_set_self hiS] at e2
      cases e2
    · rw [List.getElem?_set_ne (Ne.symm hj)] at e2
      obtain ⟨u', r', q⟩ := hlk j y v' e1 e2 e3
      refine ⟨u', r', ?_⟩
      rcases q with ⟨k, e⟩ | ⟨k, c, e, z⟩
      · refine .inl ⟨k, ?_⟩
        have : y ≠ n := fun e => hj (nodup_ix hN e1 (e ▸ hi))
        simp [this, e]
      · exact .inr ⟨k, c, e, z.sameBut hs (I.cne y c e)⟩
  · obtain ⟨w', z⟩ := I.cell y c e
    exact ⟨w', z.sameBut hs (I.cne y c e)⟩
  · obtain ⟨e, n', ne, nf, d⟩ := I.pin p hp
    exact ⟨(hs.2 p.1 ne).trans e, n', ne, nf, d⟩
section
variable {X : Cx} {e : Expr} {t : TX} {x y z n : Str} {G : Addr} {py pz pn np spos tpos hpos pos : Pos} {i j k : Nat}
/-- try: y = e; except x as n: z = n -/
def tTryAs (K : PySem.W.Frag) (G : Addr) (t : TX) (i j k : Nat) : TS := fun D σ H => t σ H (fun v H1 => D.nx (σ.set i (some v)) H1) fun cls _ H' => ∃ C, cls = .ref C ∧ Beneath K C G true ∧
  ∀ ea, H' ea = none → D.nx (((σ.set k (some (.ref ea))).set j (some (.ref ea))).set k none) (upd H' ea (excO ea cls))
/-- the exception is caught -/
theorem caught {pins : List (Addr × Obj)} {σ : St} {D : Ends} {ev : Value} {s1 : Shared} (hN : X.N.Nodup) (hcalm : X.calm = true) (hj : X.N[j]? = some z) (hk : X.N[k]? = some n) (hlz : X.env.scope.names.lookup z = some .local) (hln : X.env.scope.names.lookup n = some .local)
    (hg : Gl X x) (hm : X.mg x = some (.ref G)) (hkj : k ≠ j) (hstk : ∃ rest, X.stack = X.env :: rest) (hfr : X.env.frame = some X.env.locals)
    (hf : FlyAt X pins σ (fun cls _ H' => ∃ C, cls = .ref C ∧ Beneath X.K C G true ∧ ∀ ea, H' ea = none → D.nx (((σ.set k (some (.ref ea))).set j (some (.ref ea))).set k none) (upd H' ea (excO ea cls))) ev s1)
    (hd : (x == ("__debug__" : Str)) = false) (hsw : swapsWith (.Name n pn) (some (.Name z pz)) tpos.line X.env = pure false) (hdn : (n == ("__debug__" : Str)) = false) (hcn : (n == ("__classdict__" : Str)) = false) :
    wpAny (model X.prog X.w) X.A (noteFrame ev X.env) (fun _ s₂ => wpAny (model X.prog X.w) X.A (setFlight ev none) (fun _ s₃ => wpAny (model X.prog X.w) X.A (handleBy ev X.env [.ExceptHandler (some (.Name x np)) (some n) [.Assign [.Name z pz] (.Name n pn) tpos] hpos]) (SP X pins D) X.xe s₃) X.xe s₂) X.xe s1 := by
  obtain ⟨H0, s0, I, ea, cls, a0, H', B, ee, F, C, hc, hB, q⟩ := hf
  subst ee hc
  obtain ⟨rest, hrest⟩ := hstk
  have F1 := F.fly
  rw [hrest] at F1
  have hfrm : X.A.frames = some (X.env :: rest) := by rw [← hrest]; exact I.ok.frames
  refine wpAny_looks_onW hfrm hfr F1 fun h4 held4 up4 => ?_
  refine wpAny_landsW held4 fun h5 fl5 up5 => ?_
  have up05 := up4.trans up5
  have I5 : Inv X pins σ H' { s1 with heap := h5, toks := s1.toks } := land I F fl5.1 up05
  obtain ⟨ob, hob, hobc⟩ := fl5.there
  have hcls : (X.env.scope.kind == .class || (X.env.scope.kind == .module && X.env.locals != X.env.globals)) = false := by rw [I.ok.kind]; rfl
  refine wpAny_handleBy_cons (codeAny_handlers_test (ld_glob (I5.held ea) hg hm ?_ hd)) (by intro q; cases q)
  refine excMatch (K := X.K) I5.kIn hob hobc hB (codeAny_handlers_suite_as ?_)
  refine lands_againW fl5 fun h6 fl6 up6 => ?_
  have I6 : Inv X pins σ H' { s1 with heap := h6, toks := s1.toks } := land I F fl6.1 (up05.trans up6)
  obtain ⟨oe, ws, e1, e2, e3, _⟩ := fl6.first
  obtain ⟨hfree, I7⟩ := track I F I6 ⟨oe, ws, e1, e2, e3⟩
  refine store_ok (X := X.held ea) (I7.held ea) hN hk (.inl hln) (v := .ref ea) rfl (fun s8 I8 => ?_) (.inr hln)
  have hbody : PSs (X.held ea) [.Assign [.Name z pz] (.Name n pn) tpos] (tAsg (tVar k) (gName j)) := pss_one (ps_set (X := X.held ea) hN hj (.inl hlz) (pe_var hk (.inl hln) hdn hcn) hsw (.inr hlz))
  have hkl : k < (σ.set k (some (V.ref ea))).length := by
    rw [List.length_set]
    have := (List.getElem?_eq_some_iff.mp hk).1
    rw [I.len]; exact this
  refine wpAny_mono (hbody pins s8 _ _ { nx := fun σ' H2 => σ' = (σ.set k (some (.ref ea))).set j (some (.ref ea)) ∧ H2 = upd H' ea (excO ea (.ref C)), rt := fun _ _ => False } I8 ⟨.ref ea, ?_, rfl, rfl⟩) (fun fl s9 h9 => ?_) fun _ _ z => z.elim
  · rw [List.getElem?_set_self (by rw [List.length_set] at hkl; exact hkl)]
  · cases fl with
    | next =>
      obtain ⟨σ9, H9, I9, e9, eH⟩ := h9
      subst e9 eH
      exact goes (I9.unheld I.ok) hN hk hln fun s' I' => ⟨_, _, I', q ea hfree⟩
    | brk => obtain ⟨_, _, _, z⟩ := h9; exact z.elim
    | cont => obtain ⟨_, _, _, z⟩ := h9; exact z.elim
    | ret v => obtain ⟨_, _, _, _, _, z⟩ := h9; exact z.elim
theorem ps_tryAs (he : PEX X e t) (hN : X.N.Nodup) (hcalm : X.calm = true) (hi : X.N[i]? = some y) (hj : X.N[j]? = some z) (hk : X.N[k]? = some n) (hly : X.env.scope.names.lookup y = some .local) (hlz : X.env.scope.names.lookup z = some .local) (hln : X.env.scope.names.lookup n = some .local)
    (hg : Gl X x) (hm : X.mg x = some (.ref G)) (hkj : k ≠ j) (hstk : ∃ rest, X.stack = X.env :: rest) (hfr : X.env.frame = some X.env.locals)
    (hd : (x == ("__debug__" : Str)) = false := by decide) (hsw : swapsWith (.Name n pn) (some (.Name z pz)) tpos.line X.env = pure false := by rfl) (hdn : (n == ("__debug__" : Str)) = false := by decide) (hcn : (n == ("__classdict__" : Str)) = false := by decide)
    (hsy : swapsWith e (some (.Name y py)) spos.line X.env = pure false := by rfl) :
    PS X (.Try [.Assign [.Name y py] e spos] [.ExceptHandler (some (.Name x np)) (some n) [.Assign [.Name z pz] (.Name n pn) tpos] hpos] [] [] pos) (tTryAs X.K G t i j k) := by
  intro pins s σ H D I h
  refine wpAny_Try_except (wpAny_execs_cons (wpAny_Assign_Name (wpAny_mono (he pins s σ H _ _ I h) (fun v s1 ⟨w, H1, I1, r1, q1⟩ => ?_) fun ev s1 hf => ?_) hsy))
  · exact store_ok I1 hN hi (.inl hly) r1 (fun s2 I2 => wpAny_execs_nil (wpAny_execs_nil ⟨_, H1, I2, q1⟩)) (.inr hly)
  · exact caught hN hcalm hj hk hlz hln hg hm hkj hstk hfr hf hd hsw hdn hcn
end
end L2

set_option Elab.async false
set_option linter.all false
set_option maxRecDepth 100000
set_option maxHeartbeats 4000000
namespace L2
open PySem PySem.Spec PyProof.Rows PySem.Builtin.ObjectAttr PySem.Builtin.Getset_descriptor
/-! ### isinstance -/
/-- what the class of a refusal is asked for -/
structure ExcK (K : PySem.W.Frag) (C : Addr) : Prop where
  cl : (PySem.W.clsIn K C).isSome = true
  ga : PySem.W.findIn K (.ref C) "__getattribute__" = some (some (.builtin "BaseException.__getattribute__"))
  gh : PySem.W.findIn K (.ref C) "__getattr__" = some none
  at_ : PySem.W.findIn K (.ref C) "__class__" = some (some (.builtin "object.__class__"))
  gt : PySem.W.specialIn K (.builtin "object.__class__") "__get__" = some (some (.builtin "getset_descriptor.__get__"))
  tk : PySem.W.takesIn K (.builtin "object.__class__") = some true
  ob : PySem.W.mroIn K C (.type "object") = some true
  be : PySem.W.mroIn K C (.type "BaseException") = some true
def excAt (x C : Addr) (h : Heap) : Prop := ∃ o vs, h.get? x = some o ∧ o.cls = .ref C ∧ o.data = .fields vs
theorem excAt.ty {x C : Addr} {h : Heap} (p : excAt x C h) (M : Model) : PySem.W.Looks M h (typeOf (.ref x)) (.ref C) := by
  obtain ⟨o, _, e, c, _⟩ := p
  exact c ▸ (PySem.W.Looks.ld e).andThen .now
theorem clsLooks {K : PySem.W.Frag} {C : Addr} {h : Heap} (X : K.In h) (z : (PySem.W.clsIn K C).isSome = true) (M : Model) : PySem.W.Looks M h (isType (.ref C)) true := by
  unfold PySem.W.clsIn at z
  split at z
  · rename_i c' d' cd' sl' ho
    intro A' Q' E' s' k q
    exact wpAny_bind (wpAny_loadPart (k _ _ (X _ _ ho)) (wpAny_pure q))
  · cases z
section
variable {prog : Program} {w : World} {A : Around} {E : Value → Shared → Prop} {K : PySem.W.Frag} {x C : Addr} {h : Heap} {g : Array GenState} {d : Drawn} {t : Nat} {os : OsState}
theorem exc_find (X : K.In h) (F : ExcK K C) (M : Model) : PySem.W.Looks M h (find (.ref x) (.ref C) "__class__") (.bind (.builtin "getset_descriptor.__get__") (.builtin "object.__class__")) := by
  have a1 := PySem.W.looks_findIn (M := M) X F.at_
  have a2 : PySem.W.Looks M h (getOf (some (.builtin "object.__class__"))) (some (.builtin "getset_descriptor.__get__")) := PySem.W.looks_specialIn X F.gt
  have a3 := PySem.W.looks_takesIn (M := M) X F.tk
  exact a1.andThen (a2.andThen ((show PySem.W.Looks M h (dataDescriptor? (some (.builtin "object.__class__")) (some (.builtin "getset_descriptor.__get__"))) (some (.builtin "getset_descriptor.__get__", .builtin "object.__class__")) from a3.andThen .now).andThen (PySem.W.Looks.tag .now)))
theorem exc_get {tp : Value} {R : Result → Shared → Prop} (X : K.In h) (F : ExcK K C) (p : excAt x C h) (hR : R (.ok (.ret (.ref C))) ⟨h, g, d, t, os⟩) :
    codeAny (model prog w) A (.call (.builtin "getset_descriptor.__get__") ⟨[.builtin "object.__class__", .ref x, tp], []⟩) R ⟨h, g, d, t, os⟩ := by
  have b0 := p.ty (model prog w)
  have b1 := PySem.W.looks_mroIn (M := model prog w) X F.ob
  refine codeAny_call_builtin PySem.W.KF.slot_gs.plain PySem.W.KF.entry_gs ?_
  refine PySem.W.KF.slot_gs.check _ _ _ _ _ _ _ _ PySem.W.KF.type_class (PySem.W.KF.args_gs _ _ _) ?_
  unfold Builtin.«getset_descriptor.__get__» descrGet
  rw [PySem.W.dga_obj]; refine wpAny_bind (wpAny_pure ?_)
  unfold descrGetter descrCheckInstance descrNameAndClass isInstance
  simp only [PySem.W.KF.owner_class]
  repeat lk
  refine ⟨Code.quiet_builtin _ (by decide +kernel), codeAny_builtin PySem.W.KF.entry_class ?_⟩
  unfold Builtin.«object.__class__» shownTypeOf
  repeat lk
  exact hR
theorem exc_entry {tk : Tok} {Q : Fin → Shared → Prop} (X : K.In h) (F : ExcK K C) (p : excAt x C h) (hQ : Q (.done (.ret (.ref C))) ⟨h, g, d, t, os⟩) :
    wpAny (model prog w) A (Builtin.«object.__getattribute__» ⟨[.ref x, .str "__class__" tk], []⟩) Q E ⟨h, g, d, t, os⟩ := by
  have b0 := p.ty (model prog w)
  have b1 := exc_find (x := x) X F (model prog w)
  unfold Builtin.«object.__getattribute__»
  repeat lk
  refine wpAny_run (exc_get X F p ?_)
  exact wpAny_pure (wpAny_pure hQ)
theorem exc_check {nameV : Value} {Q : Unit → Shared → Prop} (X : K.In h) (F : ExcK K C) (p : excAt x C h) (hQ : Q () ⟨h, g, d, t, os⟩) :
    wpAny (model prog w) A (checkBuiltinCall "BaseException.__getattribute__" ⟨[.ref x, nameV], []⟩) Q E ⟨h, g, d, t, os⟩ := by
  have c1 : builtinKind "BaseException.__getattribute__" = some .slot := by decide +kernel
  have c2 : splitId "BaseException.__getattribute__" = some ("BaseException", "__getattribute__") := by decide +kernel
  have c3 := PySem.F.args_bexc_ga (.ref x) nameV
  have b0 := p.ty (model prog w)
  have b1 := PySem.W.looks_mroIn (M := model prog w) X F.be
  simp only [checkBuiltinCall, c1, c2]
  refine wpAny_bind ?_
  unfold isInstance
  repeat lk
  exact hQ
theorem exc_class {Q : Option Value → Shared → Prop} (X : K.In h) (F : ExcK K C) (p : excAt x C h) (hQ : Q (some (.ref C)) ⟨h, g, d, t + 1, os⟩) :
    wpAny (model prog w) A (getAttr? (.ref x) "__class__") Q E ⟨h, g, d, t, os⟩ := by
  have b0 := p.ty (model prog w)
  have b1 := PySem.W.looks_findIn (M := model prog w) X F.ga
  have b2 := PySem.W.looks_findIn (M := model prog w) X F.gh
  unfold getAttr? getAttrBy? getAttrBy
  refine wpAny_bind (wpAny_mkText (wpAny_bind (wpAny_attempt (wpAny_holding (wpAny_bind (b0.at (wpAny_bind (b1.at ?_))))))))
  have c2 : (Value.builtin "BaseException.__getattribute__" == Value.builtin "object.__getattribute__") = false := by decide +kernel
  have c1 : ¬ ((onTheHeap (Value.ref C) && Value.builtin "BaseException.__getattribute__" == Value.builtin "object.__getattribute__") = true) := by rw [c2, Bool.and_false]; exact Bool.false_ne_true
  show wpAny _ _ (if (onTheHeap (Value.ref C) && Value.builtin "BaseException.__getattribute__" == Value.builtin "object.__getattribute__") = true then _ else _) _ _ _
  rw [if_neg c1]
  unfold getAttrByItsOwn
  refine wpAny_bind (show wpAny _ _ (typeLookup (Value.ref C) "__getattr__") _ _ _ from b2.at ?_)
  refine wpAny_bind (wpAny_attempt (wpAny_holding ?_))
  show wpAny _ _ (boundAndCalled _ _ _) _ _ _
  unfold boundAndCalled
  have f3 := (PySem.F.excAttr_ValueError).ga.bind (.ref x)
  refine wpAny_bind (wpAny_of_eq f3 ?_)
  refine wpAny_call (codeAny_call_builtin (PySem.F.excAttr_ValueError).ga.plain PySem.F.entry_bexc_ga (exc_check X F p (exc_entry X F p ?_)))
  exact wpAny_pure (wpAny_pure hQ)
end
theorem kitx_exc {K : PySem.W.Frag} {x C : Addr} (F : ExcK K C) : PySem.W.KitX K (.ref x) (.ref C) (excAt x C) where
  ty := fun M h _ p => p.ty M
  it := fun M h X _ => clsLooks X F.cl M
  ne := fun h tp dd its n sl X htp => by
    have z := F.cl
    refine Bool.eq_false_iff.mpr fun q => ?_
    have e : C = tp := Value.ref.inj (beq_iff_eq.mp q)
    subst e
    unfold PySem.W.clsIn at z
    split at z
    · rename_i c' d' cd' sl' ho
      have y := (X _ _ ho).symm.trans htp
      cases y
    · cases z
  ca := fun {prog w A E Q s} X p k => by
    obtain ⟨h, g, d, t, os⟩ := s
    exact exc_class X F p k
/-- a class as a value: one of the text's own, or a built-in one -/
def clsV : V → Value
  | .ref C => .ref C
  | .ty n => .type n
  | _ => .none
theorem clsV_of {c : V} {u : Value} (r : RelV c u) (h : clsV c ≠ .none) : u = clsV c := by
  cases c with
  | ref C => exact r
  | ty n => exact r
  | _ => exact absurd rfl h
section
variable {X : Cx}
/-- isinstance(x, c): x is data -/
def rIsi (K : PySem.W.Frag) : List V → Hp → VK → Prop := fun xs H Q => ∃ x c t b, xs = [x, c] ∧ clsV c ≠ .none ∧ TyOf K H x t ∧ PySem.W.kitOne K t (clsV c) = some b ∧ Q (.bl b) H
theorem call_isi : CallR X (.builtin "isinstance") (rIsi X.K) := by
  intro pins s σ H xs us Q I r h
  obtain ⟨x, c, t, b, rfl, hc, ty, e, q⟩ := h
  obtain ⟨u, v, rfl, r1, r2⟩ := r.two
  rw [clsV_of r2 hc]
  exact isinst_ok I r1 ty e fun tk => ⟨.bl b, H, I.tok tk, rfl, q⟩
/-- .. x is a caught refusal -/
def rIsiE (K : PySem.W.Frag) : List V → Hp → VK → Prop := fun xs H Q => ∃ ea C c b, xs = [.ref ea, c] ∧ clsV c ≠ .none ∧ H ea = some (excO ea (.ref C)) ∧ ExcK K C ∧ PySem.W.kitOne K (.ref C) (clsV c) = some b ∧ Q (.bl b) H
theorem call_isiE : CallR X (.builtin "isinstance") (rIsiE X.K) := by
  intro pins s σ H xs us Q I r h
  obtain ⟨ea, C, c, b, rfl, hc, he, F, e, q⟩ := h
  obtain ⟨u, v, rfl, r1, r2⟩ := r.two
  rw [clsV_of r2 hc]
  cases (show u = Value.ref ea from r1)
  obtain ⟨p, _, _⟩ := (show ObjOk X.prog X.w H s.heap ea (excO ea (.ref C)) from I.hok ea _ he)
  exact PySem.W.kia_one (kitx_exc F) I.kIn p e (fun z => nomatch z) fun tk => ⟨.bl b, H, I.tok tk, rfl, q⟩
end
theorem kit_tt (K : PySem.W.Frag) : PySem.W.kitOne K (.type "tuple") (.type "tuple") = some true := rfl
theorem kit_ii (K : PySem.W.Frag) : PySem.W.kitOne K (.type "int") (.type "int") = some true := rfl
theorem kit_bb (K : PySem.W.Frag) : PySem.W.kitOne K (.type "bool") (.type "bool") = some true := rfl
theorem kit_ib (K : PySem.W.Frag) : PySem.W.kitOne K (.type "int") (.type "bool") = some false := by kernel_rfl
theorem kit_bi (K : PySem.W.Frag) : PySem.W.kitOne K (.type "bool") (.type "int") = some true := by kernel_rfl
theorem kit_lt (K : PySem.W.Frag) : PySem.W.kitOne K (.type "list") (.type "tuple") = some false := by kernel_rfl
theorem kit_tl (K : PySem.W.Frag) : PySem.W.kitOne K (.type "tuple") (.type "list") = some false := by kernel_rfl
theorem kit_ll (K : PySem.W.Frag) : PySem.W.kitOne K (.type "list") (.type "list") = some true := rfl
theorem kit_it (K : PySem.W.Frag) : PySem.W.kitOne K (.type "int") (.type "tuple") = some false := by kernel_rfl
theorem kit_bt (K : PySem.W.Frag) : PySem.W.kitOne K (.type "bool") (.type "tuple") = some false := by kernel_rfl
theorem kit_nt (K : PySem.W.Frag) : PySem.W.kitOne K (.type "NoneType") (.type "tuple") = some false := by kernel_rfl
theorem kit_st (K : PySem.W.Frag) : PySem.W.kitOne K (.type "str") (.type "tuple") = some false := by kernel_rfl
theorem kit_ti (K : PySem.W.Frag) : PySem.W.kitOne K (.type "tuple") (.type "int") = some false := by kernel_rfl
theorem kit_li (K : PySem.W.Frag) : PySem.W.kitOne K (.type "list") (.type "int") = some false := by kernel_rfl
theorem kit_ni (K : PySem.W.Frag) : PySem.W.kitOne K (.type "NoneType") (.type "int") = some false := by kernel_rfl
theorem kit_si (K : PySem.W.Frag) : PySem.W.kitOne K (.type "str") (.type "int") = some false := by kernel_rfl
theorem kit_il (K : PySem.W.Frag) : PySem.W.kitOne K (.type "int") (.type "list") = some false := by kernel_rfl
theorem kit_bl (K : PySem.W.Frag) : PySem.W.kitOne K (.type "bool") (.type "list") = some false := by kernel_rfl
theorem kit_nl (K : PySem.W.Frag) : PySem.W.kitOne K (.type "NoneType") (.type "list") = some false := by kernel_rfl
theorem kit_sl (K : PySem.W.Frag) : PySem.W.kitOne K (.type "str") (.type "list") = some false := by kernel_rfl
/-! ### short words -/
def freeOk (xsc : Scope) (names : List (Str × NameKind)) : Bool := names.all fun y => y.2 != .free || xsc.names.lookup y.1 == some .cell || xsc.names.lookup y.1 == some .free
theorem freeOk_of {xsc : Scope} {names : List (Str × NameKind)} (h : freeOk xsc names = true) : ∀ y ∈ names, y.2 = .free → xsc.names.lookup y.1 = some .cell ∨ xsc.names.lookup y.1 = some .free := fun y hy hf => by
  have q := List.all_eq_true.mp h y hy
  rw [hf] at q
  simp only [bne_self_eq_false, Bool.false_or, Bool.or_eq_true, beq_iff_eq] at q
  exact q
def compScopeOk (scope : Scope) (N : List Str) (x : Str) (ix : Nat) : Bool :=
  scope.kind == .function && (scope.names.all fun y => y.2 != .cell && (y.2 != .local || scope.names.lookup y.1 == some .local) && (y.2 != .free || scope.names.lookup y.1 == some .free)) && scope.names.lookup x == some .local && decide N.Nodup && N[ix]? == some x
theorem compScope_of {scope : Scope} {N : List Str} {x : Str} {ix : Nat} (h : compScopeOk scope N x ix = true) : CompScope scope N x ix := by
  unfold compScopeOk at h
  simp only [Bool.and_eq_true, beq_iff_eq, decide_eq_true_eq, List.all_eq_true, bne_iff_ne, Bool.or_eq_true] at h
  obtain ⟨⟨⟨⟨h1, h2⟩, h3⟩, h4⟩, h5⟩ := h
  exact ⟨h1, fun y hy => (h2 y hy).1.1, fun y hy hl => (h2 y hy).1.2.resolve_left fun z => z hl, fun y hy hl => (h2 y hy).2.resolve_left fun z => z hl, h3, h4, h5⟩
section
variable {X : Cx} {elt iter : Expr} {x : Str} {px pos : Pos} {ifs : List Expr} {scope : Scope} {wi : TI} {tif : TT} {te : TE}
/-- [elt for x in iter ..]: N, ix, fr: the block's names, the place of x, the places around of those that it takes along -/
theorem pe_compr (N : List Str) (ix : Nat) (fr : List (Option Nat)) (hi : PI X (.Name x px) iter wi) (hif : ∀ cl C s₀ H₀ fp, PIf (cxComp X scope cl N C s₀ H₀ fp) ifs tif) (he : ∀ cl C s₀ H₀ fp, PE (cxComp X scope cl N C s₀ H₀ fp) elt te)
    (h1 : compScopeOk scope N x ix = true := by decide +kernel) (h2 : X.calm = true := by rfl) (h3 : frOk N X.N scope X.env.scope fr 0 = true := by rfl) (h4 : fr.length = N.length := by rfl) (h5 : freeOk X.env.scope scope.names = true := by rfl)
    (hs : ∀ x, foldedSetIterable iter X.env x = pure x := by intro _; rfl) : PE X (.ListComp elt [⟨.Name x px, iter, ifs, 0⟩] scope pos) (tComp wi fr ix tif te) :=
  pe_comp (compScope_of h1) h2 h3 h4 (freeOk_of h5) hi hif he hs
theorem ps_setCompr {i : Nat} {y : Str} {py spos : Pos} (N : List Str) (ix : Nat) (fr : List (Option Nat)) (hN : X.N.Nodup) (hy : X.N[i]? = some y) (hly : X.env.scope.names.lookup y = some .local)
    (hi : PI X (.Name x px) iter wi) (hif : ∀ cl C s₀ H₀ fp, PIf (cxComp X scope cl N C s₀ H₀ fp) ifs tif) (he : ∀ cl C s₀ H₀ fp, PE (cxComp X scope cl N C s₀ H₀ fp) elt te)
    (h1 : compScopeOk scope N x ix = true := by decide +kernel) (h2 : X.calm = true := by rfl) (h3 : frOk N X.N scope X.env.scope fr 0 = true := by rfl) (h4 : fr.length = N.length := by rfl) (h5 : freeOk X.env.scope scope.names = true := by rfl)
    (hsw : swapsWith (.ListComp elt [⟨.Name x px, iter, ifs, 0⟩] scope pos) (some (.Name y py)) spos.line X.env = pure true := by rfl)
    (hs : ∀ x, foldedSetIterable iter X.env x = pure x := by intro _; rfl) : PS X (.Assign [.Name y py] (.ListComp elt [⟨.Name x px, iter, ifs, 0⟩] scope pos) spos) (tAsg (tComp wi fr ix tif te) (gName i)) :=
  ps_setComp hN hy hly (compScope_of h1) h2 h3 h4 (freeOk_of h5) hi hif he hsw hs
end
/-- over the ints from lo on, the list that the turns gather is known -/
theorem comp_range {lo : Int} {n : Nat} {D : Addr} {H1 : Hp} {fr : List (Option Nat)} {σ : St} {ix : Nat} {te : TE} {G : Hp → Prop} (g : Int → V) (Pv : Nat → Hp → Prop) (hD : H1 D = none) (hn : n ≤ sizeLine) (h0 : Pv 0 (upd H1 D (.lst [])))
    (hs : ∀ i H, i < n → Pv i H → H D = some (.lst ((List.range i).map fun j => g (lo + (j : Nat)))) → te ((carry fr σ).set ix (some (.int (lo + i)))) H fun y H3 => y = g (lo + i) ∧ H3 D = some (.lst ((List.range i).map fun j => g (lo + (j : Nat)))) ∧ Pv (i + 1) (upd H3 D (.lst ((List.range (i + 1)).map fun j => g (lo + (j : Nat))))))
    (hd : ∀ H, Pv n H → H D = some (.lst ((List.range n).map fun j => g (lo + (j : Nat)))) → G H)
    (mono : ∀ σ H (q q' : VK), (∀ v H1, q v H1 → q' v H1) → te σ H q → te σ H q') :
    ∃ W : Nat → Nat → List V → Hp → Prop, (∃ m, W 0 m [] (upd H1 D (.lst []))) ∧
      ∀ i m ys H, W i m ys H → H D = some (.lst ys) ∧ (((Itr lo n).stop i H ∧ G H) ∨ ((Itr lo n).go i H ∧ ys.length < sizeLine ∧ ∀ x H', (Itr lo n).yld i H x H' →
        tNoIf ((carry fr σ).set ix (some x)) H' fun b H2 => if b = true then te ((carry fr σ).set ix (some x)) H2 fun y H3 => H3 D = some (.lst ys) ∧ ∃ m', m' < m ∧ W (i + 1) m' (ys ++ [y]) (upd H3 D (.lst (ys ++ [y])))
          else ∃ m', m' < m ∧ W (i + 1) m' ys H2)) := by
  refine ⟨fun i m ys H => m = n - i ∧ i ≤ n ∧ ys = (List.range i).map (fun j => g (lo + (j : Nat))) ∧ H D = some (.lst ys) ∧ Pv i H, ⟨n, by simp, Nat.zero_le _, rfl, upd_same, h0⟩, ?_⟩
  rintro i m ys H ⟨rfl, hi, rfl, hH, p⟩
  refine ⟨hH, ?_⟩
  by_cases hlt : i < n
  · refine .inr ⟨hlt, by rw [List.length_map, List.length_range]; omega, fun x H' y => ?_⟩
    obtain ⟨e1, e2⟩ := y
    subst e1 e2
    unfold tNoIf
    refine iteT ?_
    refine mono _ _ _ _ (fun v H3 ⟨ev, hD3, hP⟩ => ⟨hD3, n - (i + 1), by omega, rfl, hlt, ?_, upd_same, ?_⟩) (hs i _ hlt p hH)
    · rw [List.range_succ, List.map_append, ev]; rfl
    · rw [List.range_succ, List.map_append] at hP
      rw [ev]; exact hP
  · have e : i = n := by omega
    subst e
    exact .inl ⟨Nat.le_refl _, hd H p hH⟩
end L2

set_option Elab.async false
set_option linter.all false
set_option maxRecDepth 100000
set_option maxHeartbeats 4000000
namespace L2
open PySem PySem.Spec PyProof.Rows
section
variable {X : Cx} {k : Nat} {f : Addr} {fd : FuncData} {ps : List Str} {sp : Sp} {x : Str} {st : Stmt} {p pos : Pos} {e : Expr} {es : List Expr} {t : TA} {E : XK}
/-- a call that may refuse, within a def that may refuse -/
theorem pe_fnW (T : Fn X.K X.mg x st ps f fd) (G : FnOk X.prog X.w X.K X.mg X.base (CXW X.prog X.w) k f fd ps sp) (hr : Room k X.A) (hg : Gl X x) (hP : Passes (CXW X.prog X.w) X E) (ha : PA X (e :: es) t)
    (hdb : (x == ("__debug__" : Str)) = false := by decide) (he : starEach (e :: es) X.env = (false, eval e X.env) :: starEach es X.env := by rfl) (hpl : (backTo pos (starEach es X.env)).any (·.1) = false := by rfl) :
    PE X (.Call (.Name x p) (e :: es) [] pos) (tCall sp [] E t) := pe_call G hr hg T.m T.F.kp T.b .nil hP ha hdb he hpl
end
end L2

set_option Elab.async false
/-- a tree, told by the row of its boughs: none, or a bough and the rest of the row -/
inductive Tr where
  | nil
  | cons (b r : Tr)
  deriving DecidableEq
namespace Tr
def bs : Tr → List Tr
  | .nil => []
  | .cons b r => b :: r.bs
def of : List Tr → Tr
  | [] => .nil
  | b :: r => .cons b (of r)
theorem of_bs : ∀ t : Tr, of t.bs = t
  | .nil => rfl
  | .cons b r => by rw [bs, of, of_bs r]
theorem bs_of : ∀ l : List Tr, (of l).bs = l
  | [] => rfl
  | b :: r => by rw [of, bs, bs_of r]
theorem bs_inj {t u : Tr} (h : t.bs = u.bs) : t = u := by rw [← of_bs t, h, of_bs]
def len : Tr → Nat
  | .nil => 0
  | .cons _ r => r.len + 1
theorem len_bs : ∀ t : Tr, t.bs.length = t.len
  | .nil => rfl
  | .cons _ r => by rw [bs, List.length_cons, len_bs r, len]
def knots : Tr → Nat
  | .nil => 1
  | .cons b r => b.knots + r.knots
def deep : Tr → Nat
  | .nil => 0
  | .cons b r => max (b.deep + 1) r.deep
/-- as Python compares tuples -/
def lt : Tr → Tr → Bool
  | .nil, .nil => false
  | .nil, .cons _ _ => true
  | .cons _ _, .nil => false
  | .cons b r, .cons c q => if b = c then lt r q else lt b c
theorem lt_irrefl : ∀ t : Tr, lt t t = false
  | .nil => rfl
  | .cons b r => by rw [lt, if_pos rfl]; exact lt_irrefl r
theorem lt_trans : ∀ a b c : Tr, lt a b = true → lt b c = true → lt a c = true
  | .nil, .nil, _, h, _ => by cases h
  | .nil, .cons _ _, .nil, _, h => by cases h
  | .nil, .cons _ _, .cons _ _, _, _ => rfl
  | .cons _ _, .nil, _, h, _ => by cases h
  | .cons _ _, .cons _ _, .nil, _, h => by cases h
  | .cons a r, .cons b s, .cons c t, h1, h2 => by
    rw [lt] at h1 h2 ⊢
    by_cases e1 : a = b
    · subst e1
      rw [if_pos rfl] at h1
      by_cases e2 : a = c
      · subst e2
        rw [if_pos rfl] at h2 ⊢
        exact lt_trans r s t h1 h2
      · rw [if_neg e2] at h2 ⊢; exact h2
    · rw [if_neg e1] at h1
      by_cases e2 : b = c
      · subst e2
        rw [if_neg e1]; exact h1
      · rw [if_neg e2] at h2
        have h3 := lt_trans a b c h1 h2
        by_cases e3 : a = c
        · subst e3
          rw [lt_irrefl] at h3; cases h3
        · rw [if_neg e3]; exact h3
theorem lt_total : ∀ a b : Tr, lt a b = false → lt b a = false → a = b
  | .nil, .nil, _, _ => rfl
  | .nil, .cons _ _, h, _ => by cases h
  | .cons _ _, .nil, _, h => by cases h
  | .cons a r, .cons b s, h1, h2 => by
    rw [lt] at h1 h2
    by_cases e : a = b
    · subst e
      rw [if_pos rfl] at h1 h2
      rw [lt_total r s h1 h2]
    · rw [if_neg e] at h1
      rw [if_neg (Ne.symm e)] at h2
      exact absurd (lt_total a b h1 h2) e
theorem lt_negTrans (a b c : Tr) (h : lt a c = true) : lt a b = true ∨ lt b c = true := by
  cases h1 : lt a b with
  | true => exact .inl rfl
  | false =>
    right
    cases h2 : lt b a with
    | true => exact lt_trans b a c h2 h
    | false => rw [← lt_total a b h1 h2]; exact h
theorem lt_asymm {a b : Tr} (h : lt a b = true) : lt b a = false := by
  cases h2 : lt b a with
  | false => rfl
  | true => have := lt_trans a b a h h2; rw [lt_irrefl] at this; cases this
/-- as ints would be told -/
def cmpL : List Tr → List Tr → Bool
  | [], [] => false
  | [], _ :: _ => true
  | _ :: _, [] => false
  | b :: r, c :: q => if b = c then cmpL r q else lt b c
theorem lt_bs : ∀ t u : Tr, lt t u = cmpL t.bs u.bs
  | .nil, .nil => rfl
  | .nil, .cons _ _ => rfl
  | .cons _ _, .nil => rfl
  | .cons b r, .cons c q => by
    rw [lt, bs, bs, cmpL, lt_bs r q]
/-- all boughs in falling order, throughout -/
def fall : Tr → Bool
  | .nil => true
  | .cons b r => b.fall && r.fall && (match r with
    | .nil => true
    | .cons c _ => !lt b c)
/-- sorted falling -/
def ins (x : Tr) : List Tr → List Tr
  | [] => [x]
  | y :: r => if lt x y = true then y :: ins x r else x :: y :: r
def srt : List Tr → List Tr
  | [] => []
  | x :: r => ins x (srt r)
end Tr

set_option Elab.async false
namespace Tr
/-- falling throughout, by the row -/
theorem fall_cons {b r : Tr} : (cons b r).fall = true ↔ b.fall = true ∧ r.fall = true ∧ ∀ c, r.bs[0]? = some c → lt b c = false := by
  cases r with
  | nil => simp [bs, fall]
  | cons c q =>
    rw [show (cons b (cons c q)).fall = (b.fall && (cons c q).fall && !lt b c) from rfl]
    simp only [Bool.and_eq_true, Bool.not_eq_true', bs, List.getElem?_cons_zero, Option.some.injEq, forall_eq', and_assoc]
theorem fall_iff : ∀ t : Tr, t.fall = true ↔ (∀ c ∈ t.bs, c.fall = true) ∧ ∀ (i : Nat) (a b : Tr), t.bs[i]? = some a → t.bs[i + 1]? = some b → lt a b = false
  | .nil => by simp [fall, bs]
  | .cons b r => by
    rw [fall_cons, fall_iff r, bs, List.forall_mem_cons]
    constructor
    · rintro ⟨h1, ⟨h2, h3⟩, h4⟩
      refine ⟨⟨h1, h2⟩, fun i x y ex ey => ?_⟩
      cases i with
      | zero => simp at ex; subst ex; exact h4 y (by simpa using ey)
      | succ i => exact h3 i x y (by simpa using ex) (by simpa using ey)
    · rintro ⟨⟨h1, h2⟩, h3⟩
      exact ⟨h1, ⟨h2, fun i x y ex ey => h3 (i + 1) x y (by simpa using ex) (by simpa using ey)⟩, fun c hc => h3 0 b c rfl (by simpa using hc)⟩
theorem deep_mem {t c : Tr} (h : c ∈ t.bs) : c.deep < t.deep := by
  induction t with
  | nil => cases h
  | cons b r _ ih =>
    rw [bs] at h
    have hd : (cons b r).deep = max (b.deep + 1) r.deep := rfl
    rcases List.mem_cons.mp h with rfl | h
    · omega
    · have := ih h; omega
theorem knots_pos : ∀ t : Tr, 0 < t.knots
  | .nil => Nat.one_pos
  | .cons b r => by rw [knots]; have := knots_pos b; omega
theorem deep_lt_knots : ∀ t : Tr, t.deep < t.knots
  | .nil => Nat.one_pos
  | .cons b r => by
    have h1 := deep_lt_knots b
    have h2 := deep_lt_knots r
    have h3 := knots_pos b
    have h4 := knots_pos r
    have hd : (cons b r).deep = max (b.deep + 1) r.deep := rfl
    have hk : (cons b r).knots = b.knots + r.knots := rfl
    omega
theorem knots_mem {t c : Tr} (h : c ∈ t.bs) : c.knots < t.knots := by
  induction t with
  | nil => cases h
  | cons b r _ ih =>
    rw [bs] at h
    have hk : (cons b r).knots = b.knots + r.knots := rfl
    have h3 := knots_pos b
    have h4 := knots_pos r
    rcases List.mem_cons.mp h with rfl | h
    · omega
    · have := ih h; omega
theorem knots_sum : ∀ t : Tr, 1 + (t.bs.map fun c => (c.knots : Int)).sum = (t.knots : Int)
  | .nil => rfl
  | .cons b r => by
    rw [bs, List.map_cons, List.sum_cons, knots]
    have := knots_sum r
    omega
theorem len_lt_knots : ∀ t : Tr, t.bs.length < t.knots
  | .nil => Nat.one_pos
  | .cons b r => by
    rw [bs, List.length_cons, knots]
    have := len_lt_knots r
    have := knots_pos b
    omega
/-- the product of the boughs' densities; the density is knots times it -/
def dp : Tr → Nat
  | .nil => 1
  | .cons b r => b.knots * b.dp * r.dp
def dens (t : Tr) : Nat := t.knots * t.dp
theorem dp_prod : ∀ t : Tr, (t.bs.map dens).prod = t.dp
  | .nil => rfl
  | .cons b r => by rw [bs, List.map_cons, List.prod_cons, dp_prod r, dp, dens]
theorem dp_le : ∀ t : Tr, t.knots ≤ 8 → 8 * t.dp ≤ 8 ^ t.knots
  | .nil, _ => by decide
  | .cons b r, h => by
    have hk : (cons b r).knots = b.knots + r.knots := rfl
    have hr := knots_pos r
    have h1 := dp_le b (by omega)
    have h2 := dp_le r (by omega)
    rw [dp, knots, Nat.pow_add]
    have h3 : b.knots * b.dp ≤ 8 * b.dp := Nat.mul_le_mul_right _ (by omega)
    calc 8 * (b.knots * b.dp * r.dp) = (b.knots * b.dp) * (8 * r.dp) := by rw [← Nat.mul_assoc, Nat.mul_comm 8, Nat.mul_assoc]
      _ ≤ 8 ^ b.knots * 8 ^ r.knots := Nat.mul_le_mul (Nat.le_trans h3 h1) h2
theorem dens_le (t : Tr) (h : t.knots ≤ 8) : t.dens ≤ 8 ^ t.knots := Nat.le_trans (Nat.mul_le_mul_right _ h) (dp_le t h)
theorem dp_pos : ∀ t : Tr, 0 < t.dp
  | .nil => Nat.one_pos
  | .cons b r => Nat.mul_pos (Nat.mul_pos (knots_pos b) (dp_pos b)) (dp_pos r)
theorem dens_pos (t : Tr) : 0 < t.dens := Nat.mul_pos (knots_pos t) (dp_pos t)
/-- how many are alike up to a bough: p the one ahead, al its count -/
def alike (p : Option Tr) (al : Nat) (b : Tr) : Nat := if p = some b then al + 1 else 1
def tu : Option Tr → Nat → Tr → Nat
  | _, _, .nil => 1
  | p, al, .cons b r => alike p al b * tu none 0 b * tu (some b) (alike p al b) r
def turns (t : Tr) : Nat := tu none 0 t
theorem tu_pos : ∀ (t : Tr) (p : Option Tr) (al : Nat), 0 < tu p al t
  | .nil, _, _ => Nat.one_pos
  | .cons b r, p, al => by
    rw [tu]
    have : 0 < alike p al b := by unfold alike; split <;> omega
    exact Nat.mul_pos (Nat.mul_pos this (tu_pos b _ _)) (tu_pos r _ _)
theorem tu_le : ∀ (t : Tr) (p : Option Tr) (al : Nat), al + t.knots ≤ 9 → 8 * tu p al t ≤ 8 ^ t.knots
  | .nil, _, _, _ => by rw [tu, knots]; decide
  | .cons b r, p, al, h => by
    have hk : (cons b r).knots = b.knots + r.knots := rfl
    have hb := knots_pos b
    have hr := knots_pos r
    have ha : alike p al b ≤ al + 1 := by unfold alike; split <;> omega
    have h1 := tu_le b none 0 (by omega)
    have h2 := tu_le r (some b) (alike p al b) (by omega)
    rw [tu, knots, Nat.pow_add]
    have h3 : alike p al b * tu none 0 b ≤ 8 * tu none 0 b := Nat.mul_le_mul_right _ (by omega)
    calc 8 * (alike p al b * tu none 0 b * tu (some b) (alike p al b) r) = (alike p al b * tu none 0 b) * (8 * tu (some b) (alike p al b) r) := by rw [← Nat.mul_assoc, Nat.mul_comm 8, Nat.mul_assoc]
      _ ≤ 8 ^ b.knots * 8 ^ r.knots := Nat.mul_le_mul (Nat.le_trans h3 h1) h2
theorem turns_le (t : Tr) (h : t.knots ≤ 8) : t.turns ≤ 8 ^ t.knots := by
  have := tu_le t none 0 (by omega)
  unfold turns; omega
theorem turns_pos (t : Tr) : 0 < t.turns := tu_pos t none 0
/-- the factors ahead of a place -/
def tuTo : Option Tr → Nat → List Tr → Nat × Option Tr × Nat
  | p, al, [] => (1, p, al)
  | p, al, b :: r => let a := alike p al b; let q := tuTo (some b) a r; (a * turns b * q.1, q.2)
theorem tuTo_app : ∀ (l : List Tr) (p : Option Tr) (al : Nat) (b : Tr), tuTo p al (l ++ [b]) = ((tuTo p al l).1 * alike (tuTo p al l).2.1 (tuTo p al l).2.2 b * turns b, some b, alike (tuTo p al l).2.1 (tuTo p al l).2.2 b)
  | [], p, al, b => by simp [tuTo]
  | c :: l, p, al, b => by
    rw [List.cons_append, tuTo, tuTo_app l]
    simp only [tuTo, Nat.mul_assoc]
theorem tuTo_all : ∀ (t : Tr) (p : Option Tr) (al : Nat), (tuTo p al t.bs).1 = tu p al t
  | .nil, _, _ => rfl
  | .cons b r, p, al => by
    rw [bs, tuTo, tu]
    simp only [tuTo_all r]
    rfl
theorem tuTo_last : ∀ (l : List Tr) (p : Option Tr) (al : Nat), (tuTo p al l).2.1 = (l.getLast?).or p
  | [], p, al => rfl
  | [b], p, al => rfl
  | b :: c :: l, p, al => by
    obtain ⟨x, hx⟩ : ∃ x, (c :: l).getLast? = some x := ⟨_, List.getLast?_eq_some_getLast (by simp)⟩
    rw [tuTo, List.getLast?_cons_cons, hx]
    show (tuTo (some b) (alike p al b) (c :: l)).2.1 = _
    rw [tuTo_last (c :: l), hx]
    rfl
end Tr

set_option Elab.async false
namespace Tr
/-- a row of parents: the first is 0, each further one lies ahead of its own place -/
def PsOk (ps : List Nat) : Prop := 0 < ps.length ∧ ∀ k p, ps[k]? = some p → p < max k 1
def gStep (ps : List Nat) (k : Nat) (B : List (List Tr)) : List (List Tr) := B.set (ps.getD k 0) (B.getD (ps.getD k 0) [] ++ [of (srt (B.getD k []))])
/-- the boughs behind i knots put, from the last one on -/
def gB (ps : List Nat) : Nat → List (List Tr)
  | 0 => List.replicate ps.length []
  | i + 1 => gStep ps (ps.length - 1 - i) (gB ps i)
def grown (ps : List Nat) : Tr := of (srt ((gB ps (ps.length - 1)).getD 0 []))
theorem gB_len (ps : List Nat) : ∀ i, (gB ps i).length = ps.length
  | 0 => by simp [gB]
  | i + 1 => by rw [gB, gStep, List.length_set, gB_len ps i]
/-- all rows of parents of n knots -/
def par : Nat → List (List Nat)
  | 0 => [[]]
  | n + 1 => (par n).flatMap fun ps => (List.range (max n 1)).map fun p => ps ++ [p]
theorem mem_par : ∀ (n : Nat) (ps : List Nat), ps.length = n → (∀ k p, ps[k]? = some p → p < max k 1) → ps ∈ par n
  | 0, ps, h, _ => by
    have : ps = [] := List.eq_nil_of_length_eq_zero h
    subst this; exact List.mem_singleton.mpr rfl
  | n + 1, ps, h, hk => by
    have hne : ps ≠ [] := fun z => by subst z; simp at h
    rw [par, List.mem_flatMap]
    refine ⟨ps.dropLast, mem_par n _ (by rw [List.length_dropLast, h]; rfl) fun k p e => ?_, ?_⟩
    · refine hk k p ?_
      have hlt := (List.getElem?_eq_some_iff.mp e).1
      rw [List.length_dropLast] at hlt
      rw [List.getElem?_dropLast, if_pos hlt] at e
      exact e
    · refine List.mem_map.mpr ⟨ps.getLast hne, List.mem_range.mpr ?_, List.dropLast_concat_getLast hne⟩
      refine hk n _ ?_
      rw [List.getLast_eq_getElem, List.getElem?_eq_getElem (by omega)]
      congr 1
      simp [h]
theorem PsOk.mem {ps : List Nat} (h : PsOk ps) : ps ∈ par ps.length := mem_par _ ps rfl h.2
/-- what is looked at, tree by tree -/
def fine (ps : List Nat) : Bool := (grown ps).fall && decide ((grown ps).knots = ps.length)
theorem fine_all : ((List.range 8).all fun n => n == 0 || (par n).all fine) = true := by decide +kernel
theorem fine_of {ps : List Nat} (h : PsOk ps) (h7 : ps.length ≤ 7) : (grown ps).fall = true ∧ (grown ps).knots = ps.length := by
  have h1 := List.all_eq_true.mp fine_all ps.length (List.mem_range.mpr (by omega))
  have h0 := h.1
  rw [Bool.or_eq_true] at h1
  rcases h1 with h1 | h1
  · exact absurd (by simpa using h1) (Nat.ne_of_gt h0)
  · have h2 := List.all_eq_true.mp h1 ps h.mem
    unfold fine at h2
    rw [Bool.and_eq_true, decide_eq_true_eq] at h2
    exact h2
end Tr

set_option Elab.async false
set_option linter.all false
set_option maxRecDepth 100000
set_option maxHeartbeats 4000000
namespace SM
open PySem.W PyProof.Rows
/-- the sort's tree of questions, answered by lt, of the first n alone: what comes out -/
def Wp {α : Type} (lt : Nat → Nat → Bool) (n : Nat) : KasT α → (α → Prop) → Prop
  | .ret a, Q => Q a
  | .ask i j k, Q => i < n ∧ j < n ∧ Wp lt n (k (lt i j)) Q
theorem Wp.mono {α : Type} {lt : Nat → Nat → Bool} {n : Nat} {Q Q' : α → Prop} (hq : ∀ a, Q a → Q' a) : ∀ t : KasT α, Wp lt n t Q → Wp lt n t Q'
  | .ret a, h => hq a h
  | .ask i j k, h => ⟨h.1, h.2.1, Wp.mono hq (k (lt i j)) h.2.2⟩
theorem Wp.bind {α β : Type} {lt : Nat → Nat → Bool} {n : Nat} {f : α → KasT β} {Q : β → Prop} : ∀ t : KasT α, Wp lt n t (fun a => Wp lt n (f a) Q) → Wp lt n (t.bind f) Q
  | .ret _, h => h
  | .ask i j k, h => ⟨h.1, h.2.1, Wp.bind (k (lt i j)) h.2.2⟩
theorem getD_rev {p : Array Nat} {i j : Nat} (hj : j ≤ p.size) (k : Nat) : (kas_rev p i j).getD k 0 = if i ≤ k ∧ k < j then p.getD (i + j - 1 - k) 0 else p.getD k 0 := by
  have e := getElem?_mirror_all (i := i) hj k
  unfold kas_rev
  rw [Array.getD_eq_getD_getElem?, Array.getD_eq_getD_getElem?, Array.getD_eq_getD_getElem?, e]
  split <;> rfl
theorem getD_bubble {p : Array Nat} {src d : Nat} (hs : src < p.size) (hd : d ≤ src) (k : Nat) :
    (bubble p src d).getD k 0 = if k = src - d then p.getD src 0 else if src - d < k ∧ k ≤ src then p.getD (k - 1) 0 else p.getD k 0 := by
  have e := getElem?_bubble hs d hd k
  simp only [Array.getD_eq_getD_getElem?, e]
  split
  · rfl
  · split <;> rfl
section
variable {O : KeyOrd} {key : Nat → O.α} {n : Nat}
def Key (key : Nat → O.α) (p : Array Nat) (i : Nat) : O.α := key (p.getD i 0)
def Up (key : Nat → O.α) (p : Array Nat) (m : Nat) : Prop := ∀ i j, i ≤ j → j < m → O.kle (Key key p i) (Key key p j)
def Dn (key : Nat → O.α) (p : Array Nat) (m : Nat) : Prop := ∀ i j, i ≤ j → j < m → O.kle (Key key p j) (Key key p i)
/-- a way of putting the first n -/
structure Pm (n : Nat) (p : Array Nat) : Prop where
  perm : p.Perm (List.toArray (List.range n))
  pos : 0 < n
theorem Pm.size {p : Array Nat} (h : Pm n p) : p.size = n := by rw [h.perm.size_eq]; simp
theorem Pm.lt {p : Array Nat} (h : Pm n p) (i : Nat) : p.getD i 0 < n := by
  rw [Array.getD_eq_getD_getElem?]
  by_cases hi : i < p.size
  · rw [Array.getElem?_eq_getElem hi]
    have hm : p[i] ∈ p := Array.getElem_mem hi
    have := (h.perm.mem_iff).mp hm
    simpa using this
  · rw [Array.getElem?_eq_none (by omega)]
    exact h.pos
theorem Pm.rev {p : Array Nat} (h : Pm n p) (i j : Nat) : Pm n (kas_rev p i j) := ⟨(mirror_perm _ _ _ _).trans h.perm, h.pos⟩
theorem Pm.bubble {p : Array Nat} (h : Pm n p) (i j : Nat) : Pm n (bubble p i j) := ⟨(bubble_perm _ _ _).trans h.perm, h.pos⟩
abbrev ltOf (key : Nat → O.α) : Nat → Nat → Bool := fun i j => O.blt (key i) (key j)
theorem Up.one {p : Array Nat} : Up key p 1 := fun i j h1 h2 => by
  have : i = j := by omega
  subst this; exact KeyOrd.kle_refl _
theorem Up.more {p : Array Nat} {m : Nat} (h : Up key p m) (h1 : 1 ≤ m) (hk : O.kle (Key key p (m - 1)) (Key key p m)) : Up key p (m + 1) := fun i j hij hj => by
  by_cases e : j = m
  · subst e
    by_cases e2 : i = j
    · subst e2; exact KeyOrd.kle_refl _
    · exact KeyOrd.kle_trans (h i (j - 1) (by omega) (by omega)) hk
  · exact h i j hij (by omega)
theorem Dn.more {p : Array Nat} {m : Nat} (h : Dn key p m) (h1 : 1 ≤ m) (hk : O.kle (Key key p m) (Key key p (m - 1))) : Dn key p (m + 1) := fun i j hij hj => by
  by_cases e : j = m
  · subst e
    by_cases e2 : i = j
    · subst e2; exact KeyOrd.kle_refl _
    · exact KeyOrd.kle_trans hk (h i (j - 1) (by omega) (by omega))
  · exact h i j hij (by omega)
theorem asc {p : Array Nat} (hp : Pm n p) : ∀ (f m : Nat), 1 ≤ m → Up key p m → Wp (ltOf key) n (kas_asc p f m) fun r => m ≤ r ∧ r ≤ m + f ∧ Up key p r ∧ (r = m + f ∨ O.klt (Key key p r) (Key key p (r - 1)))
  | 0, m, _, h => ⟨Nat.le_refl _, Nat.le_refl _, h, .inl rfl⟩
  | f + 1, m, h1, h => by
    refine ⟨hp.lt _, hp.lt _, ?_⟩
    cases c : ltOf key (p.getD m 0) (p.getD (m - 1) 0) with
    | true => exact ⟨Nat.le_refl _, by omega, h, .inr c⟩
    | false =>
      simp only [Bool.false_eq_true, if_false]
      refine Wp.mono (fun r hr => ?_) _ (asc hp f (m + 1) (by omega) (h.more h1 c))
      exact ⟨by omega, by omega, hr.2.2.1, hr.2.2.2.elim (fun z => .inl (by omega)) .inr⟩
/-- the last q + 1 of the first m are alike -/
def Eq (key : Nat → O.α) (p : Array Nat) (m q : Nat) : Prop := q < m ∧ ∀ k, m - (q + 1) ≤ k → k < m → Key key p k = Key key p (m - 1)
theorem rev_eq {p : Array Nat} {m q : Nat} (h : Eq key p m q) (hm : m ≤ p.size) (k : Nat) : Key key (kas_rev p (m - (q + 1)) m) k = Key key p k := by
  unfold Key
  rw [getD_rev hm]
  split
  · have a := h.2 (m - (q + 1) + m - 1 - k) (by have := h.1; omega) (by have := h.1; omega)
    have b := h.2 k (by omega) (by omega)
    exact a.trans b.symm
  · rfl
theorem desc : ∀ (f : Nat) (p : Array Nat) (m q : Nat), Pm n p → 1 ≤ m → m + f ≤ n → Dn key p m → Eq key p m q → Wp (ltOf key) n (kas_desc f p m q) fun r => Pm n r.1 ∧ m ≤ r.2.1 ∧ r.2.1 ≤ m + f ∧ Dn key r.1 r.2.1 ∧ Eq key r.1 r.2.1 r.2.2
  | 0, p, m, q, hp, _, _, h, e => ⟨hp, Nat.le_refl _, Nat.le_refl _, h, e⟩
  | f + 1, p, m, q, hp, h1, hf, h, e => by
    refine ⟨hp.lt _, hp.lt _, ?_⟩
    have hm : m ≤ p.size := by rw [hp.size]; omega
    cases c : ltOf key (p.getD m 0) (p.getD (m - 1) 0) with
    | true =>
      have ck : O.klt (Key key p m) (Key key p (m - 1)) := c
      simp only [if_true]
      have fin : ∀ p' : Array Nat, Pm n p' → (∀ k, Key key p' k = Key key p k) → Wp (ltOf key) n (kas_desc f p' (m + 1) 0) fun r => Pm n r.1 ∧ m ≤ r.2.1 ∧ r.2.1 ≤ m + (f + 1) ∧ Dn key r.1 r.2.1 ∧ Eq key r.1 r.2.1 r.2.2 := fun p' hp' hk => by
        have hd : Dn key p' (m + 1) := fun i j hij hj => by rw [hk, hk]; exact h.more h1 (KeyOrd.kle_of_klt ck) i j hij hj
        have he : Eq key p' (m + 1) 0 := ⟨by omega, fun k h1 h2 => by rw [show k = m + 1 - 1 by omega]⟩
        exact Wp.mono (fun r hr => ⟨hr.1, by omega, by omega, hr.2.2.2.1, hr.2.2.2.2⟩) _ (desc f p' (m + 1) 0 hp' (by omega) (by omega) hd he)
      split
      · exact fin _ (hp.rev _ _) (rev_eq e hm)
      · exact fin _ hp fun _ => rfl
    | false =>
      simp only [Bool.false_eq_true, if_false]
      refine ⟨hp.lt _, hp.lt _, ?_⟩
      cases d : ltOf key (p.getD (m - 1) 0) (p.getD m 0) with
      | true =>
        simp only [if_true]
        exact ⟨hp, Nat.le_refl _, Nat.le_add_right _ _, h, e⟩
      | false =>
        simp only [Bool.false_eq_true, if_false]
        have ek : Key key p m = Key key p (m - 1) := KeyOrd.kle_antisymm (show O.kle (Key key p m) (Key key p (m - 1)) from d) (show O.kle (Key key p (m - 1)) (Key key p m) from c)
        refine Wp.mono (fun r hr => ⟨hr.1, by omega, by omega, hr.2.2.2.1, hr.2.2.2.2⟩) _ (desc f p (m + 1) (q + 1) hp (by omega) (by omega) (h.more h1 (by rw [ek]; exact KeyOrd.kle_refl _)) ⟨by have := e.1; omega, fun k h2 h3 => ?_⟩)
        rw [show m + 1 - 1 = m by omega, ek]
        by_cases z : k = m
        · rw [z, ek]
        · exact e.2 k (by omega) (by omega)
theorem up_rev {p : Array Nat} {m : Nat} (h : Dn key p m) (hm : m ≤ p.size) : Up key (kas_rev p 0 m) m := fun i j hij hj => by
  unfold Key
  rw [getD_rev hm, getD_rev hm, if_pos ⟨Nat.zero_le _, by omega⟩, if_pos ⟨Nat.zero_le _, by omega⟩]
  exact h (0 + m - 1 - j) (0 + m - 1 - i) (by omega) (by omega)
theorem tail3 {p : Array Nat} {m : Nat} (hp : Pm n p) (h1 : 1 ≤ m) (hm : m ≤ n) (h : Dn key p m) : Wp (ltOf key) n (kas_tail3 m n p) fun r => Pm n r.2 ∧ 1 ≤ r.1 ∧ r.1 ≤ n ∧ Up key r.2 r.1 := by
  unfold kas_tail3
  refine Wp.bind _ (Wp.mono (fun r hr => ?_) _ (asc (hp.rev 0 m) (n - m) m h1 (up_rev h (by rw [hp.size]; exact hm))))
  exact ⟨hp.rev 0 m, by omega, by omega, hr.2.2.1⟩
theorem descPart {p : Array Nat} {m : Nat} (hp : Pm n p) (h1 : 1 ≤ m) (hm : m + 1 ≤ n) (h : Dn key p (m + 1)) : Wp (ltOf key) n (kas_descPart m n p) fun r => Pm n r.2 ∧ 1 ≤ r.1 ∧ r.1 ≤ n ∧ Up key r.2 r.1 := by
  unfold kas_descPart
  refine Wp.bind _ (Wp.mono (fun r hr => ?_) _ (desc (n - (m + 1)) p (m + 1) 0 hp (by omega) (by omega) h ⟨by omega, fun k h1 h2 => by rw [show k = m + 1 - 1 by omega]⟩))
  obtain ⟨a, b, c, d, e⟩ := hr
  have hz : r.2.1 ≤ r.1.size := by rw [a.size]; omega
  split
  · refine tail3 (a.rev _ _) (by omega) (by omega) fun i j hij hj => ?_
    rw [rev_eq e hz, rev_eq e hz]
    exact d i j hij hj
  · exact tail3 a (by omega) (by omega) d
theorem count {p : Array Nat} (hp : Pm n p) : Wp (ltOf key) n (kas_count n p) fun r => Pm n r.2 ∧ 1 ≤ r.1 ∧ r.1 ≤ n ∧ Up key r.2 r.1 := by
  have hn := hp.pos
  unfold kas_count
  refine Wp.bind _ (Wp.mono (fun m hm => ?_) _ (asc hp (n - 1) 1 (Nat.le_refl _) Up.one))
  obtain ⟨h1, h2, h3, h4⟩ := hm
  split
  · exact ⟨hp, h1, by omega, h3⟩
  · rename_i hne
    have hne' : m ≠ n := by simpa using hne
    have hk : O.klt (Key key p m) (Key key p (m - 1)) := by
      rcases h4 with z | z
      · exact absurd (by omega) hne'
      · exact z
    have hz : m ≤ p.size := by rw [hp.size]; omega
    split
    · refine ⟨hp.lt _, hp.lt _, ?_⟩
      cases c : ltOf key (p.getD 0 0) (p.getD (m - 1) 0) with
      | true => simp only [if_true]; exact ⟨hp, h1, by omega, h3⟩
      | false =>
        simp only [Bool.false_eq_true, if_false]
        have all : ∀ k, k < m → Key key p k = Key key p (m - 1) := fun k hk' => KeyOrd.kle_antisymm (h3 k (m - 1) (by omega) (by omega)) (KeyOrd.kle_trans (show O.kle (Key key p (m - 1)) (Key key p 0) from c) (h3 0 k (by omega) hk'))
        have ek : ∀ k, Key key (kas_rev p 0 m) k = Key key p k := fun k => by
          by_cases hk' : k < m
          · have : Key key (kas_rev p 0 m) k = Key key p (0 + m - 1 - k) := by
              unfold Key; rw [getD_rev hz, if_pos ⟨Nat.zero_le _, hk'⟩]
            rw [this, all _ (by omega), all k hk']
          · unfold Key; rw [getD_rev hz, if_neg (by omega)]
        refine descPart (hp.rev _ _) h1 (by omega) fun i j hij hj => ?_
        rw [ek, ek]
        by_cases e : j = m
        · subst e
          by_cases e2 : i = j
          · subst e2; exact KeyOrd.kle_refl _
          · rw [all i (by omega)]; exact KeyOrd.kle_of_klt hk
        · rw [all i (by omega), all j (by omega)]; exact KeyOrd.kle_refl _
    · have : m = 1 := by omega
      subst this
      refine descPart hp h1 (by omega) fun i j hij hj => ?_
      by_cases e : i = j
      · subst e; exact KeyOrd.kle_refl _
      · rw [show i = 0 by omega, show j = 1 by omega]
        exact KeyOrd.kle_of_klt hk
theorem place {p : Array Nat} {k : Nat} (hp : Pm n p) (hs : Up key p k) : ∀ (f l r : Nat), l ≤ r → r ≤ k → r - l ≤ f → (∀ i, i < l → O.kle (Key key p i) (Key key p k)) → (∀ i, r ≤ i → i < k → O.klt (Key key p k) (Key key p i)) →
    Wp (ltOf key) n (kas_place p k f l r) fun x => x ≤ k ∧ (∀ i, i < x → O.kle (Key key p i) (Key key p k)) ∧ ∀ i, x ≤ i → i < k → O.klt (Key key p k) (Key key p i)
  | 0, l, r, h1, h2, h3, a, b => by
    have : l = r := by omega
    subst this
    exact ⟨h2, a, b⟩
  | f + 1, l, r, h1, h2, h3, a, b => by
    unfold kas_place
    split
    · have : l = r := by omega
      subst this
      exact ⟨h2, a, b⟩
    · refine ⟨hp.lt _, hp.lt _, ?_⟩
      cases c : ltOf key (p.getD k 0) (p.getD ((l + r) / 2) 0) with
      | true =>
        simp only [if_true]
        exact place hp hs f l ((l + r) / 2) (by omega) (by omega) (by omega) a fun i x1 x2 => KeyOrd.klt_of_klt_of_kle (show O.klt (Key key p k) (Key key p ((l + r) / 2)) from c) (hs _ _ x1 x2)
      | false =>
        simp only [Bool.false_eq_true, if_false]
        exact place hp hs f ((l + r) / 2 + 1) r (by omega) h2 (by omega) (fun i x1 => KeyOrd.kle_trans (hs i ((l + r) / 2) (by omega) (by omega)) (show O.kle (Key key p ((l + r) / 2)) (Key key p k) from c)) b
theorem bin : ∀ (f : Nat) (p : Array Nat) (k : Nat), Pm n p → 1 ≤ k → k + f = n → Up key p k → Wp (ltOf key) n (kas_bin f p k) fun r => Pm n r ∧ Up key r n
  | 0, p, k, hp, _, hk, h => by
    have : k = n := by omega
    subst this
    exact ⟨hp, h⟩
  | f + 1, p, k, hp, h1, hk, h => by
    have hks : k < p.size := by rw [hp.size]; omega
    refine Wp.bind _ (Wp.mono (fun l hl => ?_) _ (place hp h k 0 k (Nat.zero_le _) (Nat.le_refl _) (by omega) (fun i z => absurd z (by omega)) fun i z1 z2 => absurd z1 (by omega)))
    obtain ⟨hlk, hlo, hhi⟩ := hl
    refine bin f _ (k + 1) (hp.bubble _ _) (by omega) (by omega) fun i j hij hj => ?_
    have kb : ∀ x, Key key (PyProof.Rows.bubble p k (k - l)) x = if x = l then Key key p k else if l < x ∧ x ≤ k then Key key p (x - 1) else Key key p x := fun x => by
      unfold Key
      rw [getD_bubble hks (by omega), show k - (k - l) = l by omega]
      split
      · rfl
      · split <;> rfl
    rw [kb, kb]
    repeat' split
    all_goals first
      | (exfalso; omega)
      | exact KeyOrd.kle_refl _
      | exact hlo _ (by omega)
      | exact KeyOrd.kle_of_klt (hhi _ (by omega) (by omega))
      | exact h _ _ (by omega) (by omega)
/-- the sort puts them in order -/
theorem sort (hn : 0 < n) : Wp (ltOf key) n (kas_sort n) fun p => Pm n p ∧ Up key p n := by
  have hp : Pm n (List.toArray (List.range n)) := ⟨Array.Perm.refl _, hn⟩
  unfold kas_sort
  refine Wp.bind _ (Wp.mono (fun r hr => ?_) _ (count hp))
  obtain ⟨a, b, c, d⟩ := hr
  split
  · rw [show max r.1 1 = r.1 by omega]
    exact bin _ _ _ a b (by omega) d
  · have : r.1 = n := by omega
    rw [this] at d
    exact ⟨a, d⟩
end
end SM

set_option Elab.async false
set_option linter.all false
set_option maxRecDepth 100000
set_option maxHeartbeats 4000000
namespace TH
open PySem PyProof.Rows PySem.SeqAt
/-- the row of trees t lies at the values us -/
def Vs (h : Heap) : Tr → List Value → Prop
  | .nil, us => us = []
  | .cons b r, us => ∃ (a : Addr) (its rest : List Value), us = .ref a :: rest ∧ h.IsTuple a its.toArray ∧ Vs h b its ∧ Vs h r rest
theorem Vs.length {h : Heap} : ∀ {t : Tr} {us : List Value}, Vs h t us → us.length = t.len
  | .nil, us, e => by rw [Vs] at e; rw [e]; rfl
  | .cons b r, us, e => by
    rw [Vs] at e
    obtain ⟨a, its, rest, rfl, _, _, q⟩ := e
    rw [List.length_cons, Tr.len, Vs.length q]
theorem tuple_same {h : Heap} {a : Addr} {x y : Array Value} (h1 : h.IsTuple a x) (h2 : h.IsTuple a y) : x = y := by
  obtain ⟨o, e, _, n, d⟩ := h1
  obtain ⟨o', e', _, n', d'⟩ := h2
  rw [e] at e'; cases e'
  rw [d] at d'; cases d'; rfl
theorem Vs.inj {h : Heap} : ∀ {t u : Tr} {us : List Value}, Vs h t us → Vs h u us → t = u
  | .nil, .nil, _, _, _ => rfl
  | .nil, .cons _ _, us, e, f => by
    rw [Vs] at e
    rw [Vs] at f
    obtain ⟨_, _, _, f, _⟩ := f
    rw [e] at f; cases f
  | .cons _ _, .nil, us, e, f => by
    rw [Vs] at e
    rw [Vs] at f
    obtain ⟨_, _, _, e, _⟩ := e
    rw [f] at e; cases e
  | .cons b r, .cons c q, us, e, f => by
    rw [Vs] at e f
    obtain ⟨a, its, rest, rfl, h1, h2, h3⟩ := e
    obtain ⟨a', its', rest', e', k1, k2, k3⟩ := f
    cases e'
    have := tuple_same h1 k1
    have e2 : its = its' := by simpa using this
    subst e2
    rw [Vs.inj h2 k2, Vs.inj h3 k3]
/-- == of two trees, and of two rows place by place -/
theorem eqRow {s : Shared} : ∀ (t u : Tr) (A : Around) (us vs : List Value), Vs s.heap t us → Vs s.heap u vs → A.units + t.deep ≤ cLine →
    ∀ j (h1 : j < us.length) (h2 : j < vs.length), EqAt A s us[j] vs[j] (decide (t.bs[j]? = u.bs[j]?))
  | .nil, u, A, us, vs, e, f, _, j, h1, h2 => by
    rw [Vs] at e; subst e; exact absurd h1 (Nat.not_lt_zero _)
  | .cons b r, .nil, A, us, vs, e, f, _, j, h1, h2 => by
    rw [Vs] at f; subst f; exact absurd h2 (Nat.not_lt_zero _)
  | .cons b r, .cons c q, A, us, vs, e, f, hu, j, h1, h2 => by
    rw [Vs] at e f
    obtain ⟨a, its, rest, rfl, k1, k2, k3⟩ := e
    obtain ⟨a', its', rest', rfl, l1, l2, l3⟩ := f
    have hd : (Tr.cons b r).deep = max (b.deep + 1) r.deep := rfl
    cases j with
    | zero =>
      show EqAt A s (.ref a) (.ref a') (decide (some b = some c))
      by_cases ea : a = a'
      · subst ea
        have := tuple_same k1 l1
        have e2 : its = its' := by simpa using this
        subst e2
        rw [Vs.inj k2 l2, decide_eq_true rfl]
        exact EqAt.same _
      · refine EqAt.of_refs ea ?_
        have key := RcAt.tuples (s := s) (A := A) (e := fun j => decide (b.bs[j]? = c.bs[j]?)) k1 l1 (by omega) fun j x1 x2 => by
          have := eqRow b c A.in1 its its' k2 l2 (by rw [show A.in1.units = A.units + 1 from rfl]; omega) j (by simpa using x1) (by simpa using x2)
          simpa using this
        have ev : ((List.range (min its.toArray.size its'.toArray.size)).all (fun j => decide (b.bs[j]? = c.bs[j]?)) && its.toArray.size == its'.toArray.size) = decide (some b = some c) := by
          have z1 : its.toArray.size = b.bs.length := by rw [Tr.len_bs, ← Vs.length k2]; simp
          have z2 : its'.toArray.size = c.bs.length := by rw [Tr.len_bs, ← Vs.length l2]; simp
          rw [z1, z2]
          by_cases hbc : b = c
          · subst hbc; simp
          · rw [decide_eq_false (fun z => hbc (Option.some.inj z))]
            cases hl : b.bs.length == c.bs.length with
            | false => rw [Bool.and_false]
            | true =>
              rw [Bool.and_true]
              have hl' : b.bs.length = c.bs.length := by simpa using hl
              refine Bool.eq_false_iff.mpr fun z => hbc (Tr.bs_inj (List.ext_getElem? fun i => ?_))
              by_cases hi : i < b.bs.length
              · have := List.all_eq_true.mp z i (List.mem_range.mpr (by omega))
                simpa using this
              · rw [List.getElem?_eq_none (by omega), List.getElem?_eq_none (by omega)]
        rw [ev] at key
        exact key
    | succ j =>
      exact eqRow r q A rest rest' k3 l3 (by omega) j (by simpa using h1) (by simpa using h2)
theorem eqAt {s : Shared} {t u : Tr} {A : Around} {a b : Addr} {its its' : List Value} (h1 : s.heap.IsTuple a its.toArray) (k1 : Vs s.heap t its) (h2 : s.heap.IsTuple b its'.toArray) (k2 : Vs s.heap u its') (hu : A.units + t.deep < cLine) :
    EqAt A s (.ref a) (.ref b) (decide (t = u)) := by
  have := eqRow (.cons t .nil) (.cons u .nil) A [.ref a] [.ref b] ⟨a, its, [], rfl, h1, k1, by rw [Vs]⟩ ⟨b, its', [], rfl, h2, k2, by rw [Vs]⟩ (by show A.units + max (t.deep + 1) 0 ≤ cLine; omega) 0 (by simp) (by simp)
  simpa [Tr.bs] using this

theorem rcEq {s : Shared} {t u : Tr} {A : Around} {a b : Addr} {its its' : List Value} (h1 : s.heap.IsTuple a its.toArray) (k1 : Vs s.heap t its) (h2 : s.heap.IsTuple b its'.toArray) (k2 : Vs s.heap u its') (hu : A.units + t.deep < cLine) :
    RcAt A s (.ref a) (.ref b) (decide (t = u)) := by
  have key := RcAt.tuples (s := s) (A := A) (e := fun j => decide (t.bs[j]? = u.bs[j]?)) h1 h2 (by omega) fun j x1 x2 => by
    have := eqRow t u A.in1 its its' k1 k2 (by rw [show A.in1.units = A.units + 1 from rfl]; omega) j (by simpa using x1) (by simpa using x2)
    simpa using this
  have ev : ((List.range (min its.toArray.size its'.toArray.size)).all (fun j => decide (t.bs[j]? = u.bs[j]?)) && its.toArray.size == its'.toArray.size) = decide (t = u) := by
    have z1 : its.toArray.size = t.bs.length := by rw [Tr.len_bs, ← Vs.length k1]; simp
    have z2 : its'.toArray.size = u.bs.length := by rw [Tr.len_bs, ← Vs.length k2]; simp
    rw [z1, z2]
    by_cases hbc : t = u
    · subst hbc; simp
    · rw [decide_eq_false hbc]
      cases hl : t.bs.length == u.bs.length with
      | false => rw [Bool.and_false]
      | true =>
        rw [Bool.and_true]
        have hl' : t.bs.length = u.bs.length := by simpa using hl
        refine Bool.eq_false_iff.mpr fun z => hbc (Tr.bs_inj (List.ext_getElem? fun i => ?_))
        by_cases hi : i < t.bs.length
        · have := List.all_eq_true.mp z i (List.mem_range.mpr (by omega))
          simpa using this
        · rw [List.getElem?_eq_none (by omega), List.getElem?_eq_none (by omega)]
  rw [ev] at key
  exact key
section
open PySem.AutoSeq1 (wpAny_loadPart')
open PySem.MeetsSeq PySem.MeetsSeq2 PySem.MeetsSeq3
theorem tuple_lt (n0 : Nat) (ih : ∀ (t u : Tr) (A : Around) (s : Shared) (a b : Addr) (its its' : List Value), t.deep < n0 → s.heap.IsTuple a its.toArray → Vs s.heap t its → s.heap.IsTuple b its'.toArray → Vs s.heap u its' → A.units + t.deep < cLine →
      ∀ (prog : Program) (w : World) (E : Value → Shared → Prop) (Q : Value → Shared → Prop), Q (.bool (Tr.lt t u)) s → wpAny (model prog w) A (richCompare .Lt (.ref a) (.ref b)) Q E s)
    (l b : Addr) (items items2 : Array Value) (n n2 : Nat) (dd dd2 : Option Addr) (sl sl2 : Array (Option Value)) (t u : Tr) (ht : t.deep ≤ n0) :
    Meets (Builtin.«tuple.__lt__» ⟨[.ref l, .ref b], []⟩)
      (fun A R s => s.heap.get? l = some { cls := .type "tuple", dict := dd, data := .seq items n, slots := sl } ∧ s.heap.get? b = some { cls := .type "tuple", dict := dd2, data := .seq items2 n2, slots := sl2 } ∧
        Vs s.heap t items.toList ∧ Vs s.heap u items2.toList ∧ A.units + t.deep < cLine ∧ R (.ok (.ret (.bool (Tr.lt t u)))) s) :=
  .of_wp fun prog w A R s h => by
    obtain ⟨hp, g, d, tk, os⟩ := s; obtain ⟨hl, hb, hi, hj, hun, h⟩ := h
    have f2 := AutoSeq1.sub_tuple_tuple
    have z1 : items.size = t.len := by rw [← Vs.length hi]; simp
    have z2 : items2.size = u.len := by rw [← Vs.length hj]; simp
    wp_walk using wpAny_loadPart' hl, wpAny_loadPart' hb, wpAny_forIn_list _ (fun rest b s' => b.1 = none ∧ s' = ⟨hp, g, d, tk, os⟩ ∧ ∃ (vs ws : List Value) (t' u' : Tr), rest = vs.zip ws ∧
      Vs hp t' vs ∧ Vs hp u' ws ∧ t'.deep ≤ t.deep ∧ t'.len + items2.size = u'.len + items.size ∧ R (.ok (.ret (.bool (Tr.lt t' u')))) ⟨hp, g, d, tk, os⟩) _
    case turn =>
      rintro ⟨y, x⟩ rest b s' ⟨hb', rfl, vs, ws, t', u', hz, hvi, hwi, hdp, hlen, hR⟩
      cases t' with
      | nil => rw [Vs] at hvi; subst hvi; rw [List.zip_nil_left] at hz; cases hz
      | cons bt rt =>
        cases u' with
        | nil => rw [Vs] at hwi; subst hwi; rw [List.zip_nil_right] at hz; cases hz
        | cons bu ru =>
          rw [Vs] at hvi hwi
          obtain ⟨a1, i1, v1, rfl, p1, p2, p3⟩ := hvi
          obtain ⟨a2, i2, v2, rfl, q1, q2, q3⟩ := hwi
          rw [List.zip_cons_cons] at hz
          injection hz with hyx hrest
          injection hyx with hy hx
          subst hy hx
          have hdd : (Tr.cons bt rt).deep = max (bt.deep + 1) rt.deep := rfl
          rw [Tr.lt] at hR
          simp only [Tr.len] at hlen
          have he := eqAt (s := ⟨hp, g, d, tk, os⟩) (A := A.in1) p1 p2 q1 q2 (by rw [show A.in1.units = A.units + 1 from rfl]; omega)
          refine wpAny_bind (he prog w _ _ ?_)
          cases hc : decide (bt = bu) with
          | true =>
            rw [if_pos (of_decide_eq_true hc)] at hR
            wp_walk
            exact ⟨rfl, rfl, _, _, _, _, hrest, p3, q3, by omega, by omega, hR⟩
          | false =>
            rw [if_neg (of_decide_eq_false hc)] at hR
            have hri := ih bt bu A.in1 ⟨hp, g, d, tk, os⟩ a1 a2 i1 i2 (by omega) p1 p2 q1 q2 (by rw [show A.in1.units = A.units + 1 from rfl]; omega) prog w
            wp_walk using hri
            exact ⟨_, rfl, by simpa using hR⟩
    case fin =>
      rintro ⟨b1, b2⟩ s' ⟨hb', rfl, vs, ws, t', u', hz, hvi, hwi, hdp, hlen, hR⟩
      simp only at hb'
      subst hb'
      have hv : Tr.lt t' u' = decide (items.size < items2.size) := by
        cases t' with
        | nil =>
          cases u' with
          | nil =>
            simp only [Tr.len] at hlen
            exact (decide_eq_false (by omega)).symm
          | cons c q =>
            simp only [Tr.len] at hlen
            exact (decide_eq_true (by omega)).symm
        | cons bt rt =>
          cases u' with
          | nil =>
            simp only [Tr.len] at hlen
            exact (decide_eq_false (by omega)).symm
          | cons c q =>
            rw [Vs] at hvi hwi
            obtain ⟨_, _, _, rfl, _⟩ := hvi
            obtain ⟨_, _, _, rfl, _⟩ := hwi
            rw [List.zip_cons_cons] at hz
            cases hz
      rw [hv] at hR
      wp_walk
      exact ⟨_, rfl, by simpa [Builtin.Tuple.tupleCompareSizes] using hR⟩
    case h =>
      exact ⟨rfl, rfl, items.toList, items2.toList, t, u, rfl, hi, hj, Nat.le_refl _, by omega, h⟩
theorem rc_lt : ∀ (n0 : Nat) (t u : Tr) (A : Around) (s : Shared) (a b : Addr) (its its' : List Value), t.deep < n0 → s.heap.IsTuple a its.toArray → Vs s.heap t its → s.heap.IsTuple b its'.toArray → Vs s.heap u its' → A.units + t.deep < cLine →
      ∀ (prog : Program) (w : World) (E : Value → Shared → Prop) (Q : Value → Shared → Prop), Q (.bool (Tr.lt t u)) s → wpAny (model prog w) A (richCompare .Lt (.ref a) (.ref b)) Q E s
  | 0, _, _, _, _, _, _, _, _, h, _, _, _, _, _ => absurd h (Nat.not_lt_zero _)
  | n0 + 1, t, u, A, s, a, b, its, its', hd, hl, ht, hb, hu', hun => fun prog w E Q h => by
    obtain ⟨⟨cls, dd, data, sl⟩, ho, hc, n, hdt⟩ := id hl
    obtain ⟨⟨cls2, dd2, data2, sl2⟩, ho2, hc2, n2, hdt2⟩ := id hb
    simp only at hc hdt hc2 hdt2
    subst hc hdt hc2 hdt2
    exact richCompare_meets_room (op := .Lt) ⟨_, ho, rfl⟩ ⟨_, ho2, rfl⟩ PySem.F.slot_tuple_lt PySem.F.entry_tuple_lt (PySem.F.args_tuple_lt_2 _ _) (tuple_lt n0 (rc_lt n0) a b its.toArray its'.toArray n n2 dd dd2 sl sl2 t u (by omega))
      ⟨ho, ho2, by simpa using ht, by simpa using hu', hun, show Value.bool (Tr.lt t u) ≠ Value.notImplemented ∧ Q (.bool (Tr.lt t u)) s from ⟨(fun x => nomatch x), h⟩⟩ (by omega)
end

section
open PySem.AutoSeq1 (wpAny_loadPart')
open PySem.MeetsSeq PySem.MeetsSeq2 PySem.MeetsSeq3
theorem tuple_gt (n0 : Nat) (ih : ∀ (t u : Tr) (A : Around) (s : Shared) (a b : Addr) (its its' : List Value), t.deep < n0 → s.heap.IsTuple a its.toArray → Vs s.heap t its → s.heap.IsTuple b its'.toArray → Vs s.heap u its' → A.units + t.deep < cLine →
      ∀ (prog : Program) (w : World) (E : Value → Shared → Prop) (Q : Value → Shared → Prop), Q (.bool (Tr.lt u t)) s → wpAny (model prog w) A (richCompare .Gt (.ref a) (.ref b)) Q E s)
    (l b : Addr) (items items2 : Array Value) (n n2 : Nat) (dd dd2 : Option Addr) (sl sl2 : Array (Option Value)) (t u : Tr) (ht : t.deep ≤ n0) :
    Meets (Builtin.«tuple.__gt__» ⟨[.ref l, .ref b], []⟩)
      (fun A R s => s.heap.get? l = some { cls := .type "tuple", dict := dd, data := .seq items n, slots := sl } ∧ s.heap.get? b = some { cls := .type "tuple", dict := dd2, data := .seq items2 n2, slots := sl2 } ∧
        Vs s.heap t items.toList ∧ Vs s.heap u items2.toList ∧ A.units + t.deep < cLine ∧ R (.ok (.ret (.bool (Tr.lt u t)))) s) :=
  .of_wp fun prog w A R s h => by
    obtain ⟨hp, g, d, tk, os⟩ := s; obtain ⟨hl, hb, hi, hj, hun, h⟩ := h
    have f2 := AutoSeq1.sub_tuple_tuple
    have z1 : items.size = t.len := by rw [← Vs.length hi]; simp
    have z2 : items2.size = u.len := by rw [← Vs.length hj]; simp
    wp_walk using wpAny_loadPart' hl, wpAny_loadPart' hb, wpAny_forIn_list _ (fun rest b s' => b.1 = none ∧ s' = ⟨hp, g, d, tk, os⟩ ∧ ∃ (vs ws : List Value) (t' u' : Tr), rest = vs.zip ws ∧
      Vs hp t' vs ∧ Vs hp u' ws ∧ t'.deep ≤ t.deep ∧ t'.len + items2.size = u'.len + items.size ∧ R (.ok (.ret (.bool (Tr.lt u' t')))) ⟨hp, g, d, tk, os⟩) _
    case turn =>
      rintro ⟨y, x⟩ rest b s' ⟨hb', rfl, vs, ws, t', u', hz, hvi, hwi, hdp, hlen, hR⟩
      cases t' with
      | nil => rw [Vs] at hvi; subst hvi; rw [List.zip_nil_left] at hz; cases hz
      | cons bt rt =>
        cases u' with
        | nil => rw [Vs] at hwi; subst hwi; rw [List.zip_nil_right] at hz; cases hz
        | cons bu ru =>
          rw [Vs] at hvi hwi
          obtain ⟨a1, i1, v1, rfl, p1, p2, p3⟩ := hvi
          obtain ⟨a2, i2, v2, rfl, q1, q2, q3⟩ := hwi
          rw [List.zip_cons_cons] at hz
          injection hz with hyx hrest
          injection hyx with hy hx
          subst hy hx
          have hdd : (Tr.cons bt rt).deep = max (bt.deep + 1) rt.deep := rfl
          rw [Tr.lt] at hR
          simp only [Tr.len] at hlen
          have he := eqAt (s := ⟨hp, g, d, tk, os⟩) (A := A.in1) p1 p2 q1 q2 (by rw [show A.in1.units = A.units + 1 from rfl]; omega)
          refine wpAny_bind (he prog w _ _ ?_)
          cases hc : decide (bt = bu) with
          | true =>
            rw [if_pos (of_decide_eq_true hc).symm] at hR
            wp_walk
            exact ⟨rfl, rfl, _, _, _, _, hrest, p3, q3, by omega, by omega, hR⟩
          | false =>
            rw [if_neg (fun z => of_decide_eq_false hc z.symm)] at hR
            have hri := ih bt bu A.in1 ⟨hp, g, d, tk, os⟩ a1 a2 i1 i2 (by omega) p1 p2 q1 q2 (by rw [show A.in1.units = A.units + 1 from rfl]; omega) prog w
            wp_walk using hri
            exact ⟨_, rfl, by simpa using hR⟩
    case fin =>
      rintro ⟨b1, b2⟩ s' ⟨hb', rfl, vs, ws, t', u', hz, hvi, hwi, hdp, hlen, hR⟩
      simp only at hb'
      subst hb'
      have hv : Tr.lt u' t' = decide (items2.size < items.size) := by
        cases t' with
        | nil =>
          cases u' with
          | nil =>
            simp only [Tr.len] at hlen
            exact (decide_eq_false (by omega)).symm
          | cons c q =>
            simp only [Tr.len] at hlen
            exact (decide_eq_false (by omega)).symm
        | cons bt rt =>
          cases u' with
          | nil =>
            simp only [Tr.len] at hlen
            exact (decide_eq_true (by omega)).symm
          | cons c q =>
            rw [Vs] at hvi hwi
            obtain ⟨_, _, _, rfl, _⟩ := hvi
            obtain ⟨_, _, _, rfl, _⟩ := hwi
            rw [List.zip_cons_cons] at hz
            cases hz
      rw [hv] at hR
      wp_walk
      exact ⟨_, rfl, by simpa [Builtin.Tuple.tupleCompareSizes] using hR⟩
    case h =>
      exact ⟨rfl, rfl, items.toList, items2.toList, t, u, rfl, hi, hj, Nat.le_refl _, by omega, h⟩
theorem rc_gt : ∀ (n0 : Nat) (t u : Tr) (A : Around) (s : Shared) (a b : Addr) (its its' : List Value), t.deep < n0 → s.heap.IsTuple a its.toArray → Vs s.heap t its → s.heap.IsTuple b its'.toArray → Vs s.heap u its' → A.units + t.deep < cLine →
      ∀ (prog : Program) (w : World) (E : Value → Shared → Prop) (Q : Value → Shared → Prop), Q (.bool (Tr.lt u t)) s → wpAny (model prog w) A (richCompare .Gt (.ref a) (.ref b)) Q E s
  | 0, _, _, _, _, _, _, _, _, h, _, _, _, _, _ => absurd h (Nat.not_lt_zero _)
  | n0 + 1, t, u, A, s, a, b, its, its', hd, hl, ht, hb, hu', hun => fun prog w E Q h => by
    obtain ⟨⟨cls, dd, data, sl⟩, ho, hc, n, hdt⟩ := id hl
    obtain ⟨⟨cls2, dd2, data2, sl2⟩, ho2, hc2, n2, hdt2⟩ := id hb
    simp only at hc hdt hc2 hdt2
    subst hc hdt hc2 hdt2
    exact richCompare_meets_room (op := .Gt) ⟨_, ho, rfl⟩ ⟨_, ho2, rfl⟩ PySem.F.slot_tuple_gt PySem.F.entry_tuple_gt (PySem.F.args_tuple_gt_2 _ _) (tuple_gt n0 (rc_gt n0) a b its.toArray its'.toArray n n2 dd dd2 sl sl2 t u (by omega))
      ⟨ho, ho2, by simpa using ht, by simpa using hu', hun, show Value.bool (Tr.lt u t) ≠ Value.notImplemented ∧ Q (.bool (Tr.lt u t)) s from ⟨(fun x => nomatch x), h⟩⟩ (by omega)
end
end TH

set_option Elab.async false
set_option linter.all false
set_option maxRecDepth 100000
set_option maxHeartbeats 4000000
namespace Tr
theorem perm_ins (x : Tr) : ∀ l : List Tr, (ins x l).Perm (x :: l)
  | [] => .refl _
  | y :: r => by
    rw [ins]
    split
    · exact ((perm_ins x r).cons y).trans (.swap x y r)
    · exact .refl _
theorem perm_srt : ∀ l : List Tr, (srt l).Perm l
  | [] => .refl _
  | x :: r => by
    rw [srt]
    exact (perm_ins x (srt r)).trans ((perm_srt r).cons x)
/-- falling -/
abbrev Fall (l : List Tr) : Prop := l.Pairwise fun a b => lt a b = false
theorem fall_ins (x : Tr) : ∀ l : List Tr, Fall l → Fall (ins x l)
  | [], _ => List.pairwise_singleton _ _
  | y :: r, h => by
    obtain ⟨h1, h2⟩ := List.pairwise_cons.mp h
    rw [ins]
    split
    · rename_i c
      refine List.pairwise_cons.mpr ⟨fun z hz => ?_, fall_ins x r h2⟩
      rcases List.mem_cons.mp ((perm_ins x r).mem_iff.mp hz) with rfl | hz
      · exact lt_asymm c
      · exact h1 z hz
    · rename_i c
      have c' : lt x y = false := by simpa using c
      refine List.pairwise_cons.mpr ⟨fun z hz => ?_, h⟩
      rcases List.mem_cons.mp hz with rfl | hz
      · exact c'
      · cases e : lt x z with
        | false => rfl
        | true =>
          rcases lt_negTrans x y z e with q | q
          · rw [c'] at q; cases q
          · rw [h1 z hz] at q; cases q
theorem fall_srt : ∀ l : List Tr, Fall (srt l)
  | [] => List.Pairwise.nil
  | x :: r => by rw [srt]; exact fall_ins x _ (fall_srt r)
theorem fall_unique : ∀ {l m : List Tr}, Fall l → Fall m → l.Perm m → l = m
  | [], m, _, _, p => (List.nil_perm.mp p).symm
  | x :: r, [], _, _, p => absurd p.length_eq (by simp)
  | x :: r, y :: q, h1, h2, p => by
    obtain ⟨a1, a2⟩ := List.pairwise_cons.mp h1
    obtain ⟨b1, b2⟩ := List.pairwise_cons.mp h2
    have hx : x ∈ y :: q := p.mem_iff.mp List.mem_cons_self
    have hy : y ∈ x :: r := p.mem_iff.mpr List.mem_cons_self
    have e : x = y := by
      rcases List.mem_cons.mp hx with e | hx
      · exact e
      · rcases List.mem_cons.mp hy with e | hy
        · exact e.symm
        · exact lt_total x y (a1 y hy) (b1 x hx)
    subst e
    rw [fall_unique a2 b2 (List.Perm.cons_inv p)]
theorem srt_of {l m : List Tr} (h : Fall m) (p : m.Perm l) : m = srt l := fall_unique h (fall_srt l) (p.trans (perm_srt l).symm)
/-- rising -/
theorem srt_rev_of {l m : List Tr} (h : m.Pairwise fun a b => lt b a = false) (p : m.Perm l) : m = (srt l).reverse := by
  have : m.reverse = srt l := srt_of (List.pairwise_reverse.mpr h) ((List.reverse_perm m).trans p)
  rw [← this, List.reverse_reverse]
theorem deep_of (n : Nat) : ∀ l : List Tr, (of l).deep ≤ n ↔ ∀ c ∈ l, c.deep + 1 ≤ n
  | [] => by simp [of, deep]
  | b :: r => by
    rw [of, deep, List.forall_mem_cons, ← deep_of n r]
    omega
theorem deep_perm {l m : List Tr} (p : l.Perm m) : (of l).deep ≤ (of m).deep := (deep_of _ l).mpr fun c hc => (deep_of _ m).mp (Nat.le_refl _) c (p.mem_iff.mp hc)
theorem deep_rev (t : Tr) : (of t.bs.reverse).deep ≤ t.deep := by
  have := deep_perm (List.reverse_perm t.bs)
  rwa [of_bs] at this
def ord : PyProof.Rows.KeyOrd where
  α := Tr
  blt := lt
  irrefl := lt_irrefl
  trans := lt_trans
  negTrans := lt_negTrans
  total := lt_total
end Tr
namespace TH
open PySem PySem.W PyProof.Rows PySem.SeqAt
theorem Vs.at {h : Heap} : ∀ {t : Tr} {us : List Value} {i : Nat}, Vs h t us → i < us.length → ∃ (a : Addr) (its : List Value) (c : Tr), us.getD i Value.none = .ref a ∧ h.IsTuple a its.toArray ∧ Vs h c its ∧ t.bs[i]? = some c ∧ c.deep < t.deep
  | .nil, us, i, e, hi => by rw [Vs] at e; subst e; exact absurd hi (Nat.not_lt_zero _)
  | .cons b r, us, i, e, hi => by
    rw [Vs] at e
    obtain ⟨a, its, rest, rfl, h1, h2, h3⟩ := e
    have hd : (Tr.cons b r).deep = max (b.deep + 1) r.deep := rfl
    cases i with
    | zero => exact ⟨a, its, b, rfl, h1, h2, rfl, by omega⟩
    | succ i =>
      obtain ⟨a', its', c, q1, q2, q3, q4, q5⟩ := Vs.at (i := i) h3 (by simpa using hi)
      exact ⟨a', its', c, by simpa using q1, q2, q3, by simpa [Tr.bs] using q4, by omega⟩
theorem Vs.of_all {h : Heap} : ∀ (ts : List Tr) (us : List Value), us.length = ts.length → (∀ i, i < ts.length → ∃ (a : Addr) (its : List Value) (c : Tr), us[i]? = some (.ref a) ∧ h.IsTuple a its.toArray ∧ Vs h c its ∧ ts[i]? = some c) → Vs h (Tr.of ts) us
  | [], us, hl, _ => by
    rw [Tr.of, Vs]
    exact List.eq_nil_of_length_eq_zero (by simpa using hl)
  | t :: ts, [], hl, _ => by simp at hl
  | t :: ts, u :: us, hl, h => by
    rw [Tr.of, Vs]
    obtain ⟨a, its, c, e1, e2, e3, e4⟩ := h 0 (by simp)
    simp at e1 e4
    subst e1 e4
    refine ⟨a, its, us, rfl, e2, e3, Vs.of_all ts us (by simpa using hl) fun i hi => ?_⟩
    obtain ⟨a', its', c', q1, q2, q3, q4⟩ := h (i + 1) (by simpa using hi)
    exact ⟨a', its', c', by simpa using q1, q2, q3, by simpa using q4⟩
theorem Vs.all {h : Heap} {t : Tr} {us : List Value} (e : Vs h t us) : ∀ i, i < t.bs.length → ∃ (a : Addr) (its : List Value) (c : Tr), us[i]? = some (.ref a) ∧ h.IsTuple a its.toArray ∧ Vs h c its ∧ t.bs[i]? = some c := fun i hi => by
  have hl : i < us.length := by rw [Vs.length e, ← Tr.len_bs]; exact hi
  obtain ⟨a, its, c, q1, q2, q3, q4, _⟩ := e.at hl
  refine ⟨a, its, c, ?_, q2, q3, q4⟩
  rw [List.getD_eq_getElem?_getD, List.getElem?_eq_getElem hl] at q1
  rw [List.getElem?_eq_getElem hl]
  simpa using q1
section
variable {prog : Program} {w : World} {A : Around} {E : Value → Shared → Prop} {s : Shared} {t u : Tr} {a b : Addr} {its its' : List Value} {Q : Bool → Shared → Prop}
theorem ask_gen (h1 : s.heap.IsTuple a its.toArray) (k1 : Vs s.heap t its) (h2 : s.heap.IsTuple b its'.toArray) (k2 : Vs s.heap u its') (hu : A.units + t.deep < cLine) (h : Q (Tr.lt t u) s) : wpAny (model prog w) A (oneLt' false (.ref a) (.ref b)) Q E s := by
  rw [oneLt'_eq]
  simp only [Bool.false_eq_true, if_false]
  exact wpAny_bind (rc_lt (t.deep + 1) t u A s a b its its' (Nat.lt_succ_self _) h1 k1 h2 k2 hu prog w E _ (wpAny_truthy_bool h))
theorem ask_one (h1 : s.heap.IsTuple a its.toArray) (k1 : Vs s.heap t its) (h2 : s.heap.IsTuple b its'.toArray) (k2 : Vs s.heap u its') (hu : A.units + t.deep < cLine) (h : Q (Tr.lt t u) s) : wpAny (model prog w) A (oneLt' true (.ref a) (.ref b)) Q E s := by
  rw [oneLt'_eq]
  simp only [if_true]
  refine wpAny_bind (wpAny_cRoomFor (by omega) ?_)
  obtain ⟨⟨cls, dd, data, sl⟩, ho, hc, n, hdt⟩ := id h1
  obtain ⟨⟨cls2, dd2, data2, sl2⟩, ho2, hc2, n2, hdt2⟩ := id h2
  simp only at hc hdt hc2 hdt2
  subst hc hdt hc2 hdt2
  refine wpAny_bind (wpAny_callSpecialIfBound?_slot (T := "tuple") ⟨_, ho, rfl⟩ PySem.F.slot_tuple_lt (call_meets PySem.F.slot_tuple_lt ⟨_, ho, rfl⟩ PySem.F.entry_tuple_lt (PySem.F.args_tuple_lt_2 _ _)
    (tuple_lt t.deep (rc_lt t.deep) a b its.toArray its'.toArray n n2 dd dd2 sl sl2 t u (Nat.le_refl _)) ⟨ho, ho2, by simpa using k1, by simpa using k2, hu, ?_⟩))
  exact wpAny_truthy_bool h
theorem ask_lex : ∀ (t u : Tr) (us vs : List Value) (i : Nat), Vs s.heap t us → Vs s.heap u vs → A.units + t.deep ≤ cLine → Q (Tr.lt t u) s → KatLex prog w A false (decide (t.len < u.len)) Q (us.zip vs) i s
  | .nil, .nil, us, vs, i, e, f, _, h => by
    rw [Vs] at e
    subst e
    rw [List.zip_nil_left]
    exact kat_nil h
  | .nil, .cons c q, us, vs, i, e, f, _, h => by
    rw [Vs] at e
    subst e
    rw [List.zip_nil_left]
    refine kat_nil ?_
    rw [show decide (Tr.nil.len < (Tr.cons c q).len) = true from decide_eq_true (Nat.zero_lt_succ _)]
    exact h
  | .cons b r, .nil, us, vs, i, e, f, _, h => by
    rw [Vs] at f
    subst f
    rw [List.zip_nil_right]
    refine kat_nil ?_
    rw [show decide ((Tr.cons b r).len < Tr.nil.len) = false from decide_eq_false (Nat.not_lt_zero _)]
    exact h
  | .cons b r, .cons c q, us, vs, i, e, f, hu, h => by
    rw [Vs] at e f
    obtain ⟨a, its, rest, rfl, k1, k2, k3⟩ := e
    obtain ⟨a', its', rest', rfl, l1, l2, l3⟩ := f
    have hd : (Tr.cons b r).deep = max (b.deep + 1) r.deep := rfl
    rw [List.zip_cons_cons, show decide ((Tr.cons b r).len < (Tr.cons c q).len) = decide (r.len < q.len) from by simp [Tr.len]]
    rw [Tr.lt] at h
    refine kat_cons (eqAt k1 k2 l1 l2 (by omega) prog w _ _ ?_)
    by_cases hbc : b = c
    · rw [decide_eq_true hbc]
      rw [if_pos hbc] at h
      exact kat_yes (ask_lex r q rest rest' (i + 1) k3 l3 (by omega) h)
    · rw [decide_eq_false hbc]
      rw [if_neg hbc] at h
      exact kat_no (by rw [Bool.false_and]; exact ask_gen k1 k2 l1 l2 (by omega) h)
theorem ask_tup (h1 : s.heap.IsTuple a its.toArray) (k1 : Vs s.heap t its) (h2 : s.heap.IsTuple b its'.toArray) (k2 : Vs s.heap u its') (hu : A.units + t.deep < cLine) (h : Q (Tr.lt t u) s) : wpAny (model prog w) A (keyLt' (tuples' false) (.ref a) (.ref b)) Q E s := by
  obtain ⟨o, ho, hc, n, hd⟩ := id h1
  obtain ⟨o2, ho2, hc2, n2, hd2⟩ := id h2
  refine kat_lt ho hd ho2 hd2 ?_
  have z1 : its.toArray.size = t.len := by rw [← Vs.length k1]; simp
  have z2 : its'.toArray.size = u.len := by rw [← Vs.length k2]; simp
  rw [z1, z2]
  exact ask_lex t u its its' 0 k1 k2 (by omega) h
/-- what kind of keys trees are -/
def TrKind (κ : SortKind) : Prop := κ = general' ∨ κ = oneType' ∨ κ = tuples' false
theorem ask_any {κ : SortKind} (hκ : TrKind κ) (h1 : s.heap.IsTuple a its.toArray) (k1 : Vs s.heap t its) (h2 : s.heap.IsTuple b its'.toArray) (k2 : Vs s.heap u its') (hu : A.units + t.deep < cLine) (h : Q (Tr.lt t u) s) : wpAny (model prog w) A (keyLt' κ (.ref a) (.ref b)) Q E s := by
  rcases hκ with rfl | rfl | rfl
  · exact ask_gen h1 k1 h2 k2 hu h
  · rw [keyLt'_oneType]; exact ask_one h1 k1 h2 k2 hu h
  · exact ask_tup h1 k1 h2 k2 hu h
theorem tuple_looks {M : Model} {h : Heap} {a : Addr} {x : Array Value} (h1 : h.IsTuple a x) : Looks M h (typeOf (.ref a)) (.type "tuple") := by
  obtain ⟨o, ho, hc, _⟩ := h1
  exact hc ▸ (Looks.ld ho).andThen .now
theorem firsts_tr {M : Model} : ∀ (t : Tr) (us : List Value) {Q : List (Option Value) → Shared → Prop}, Vs s.heap t us → (∀ fs : List (Option Value), (∀ v, some v ∈ fs → Looks M s.heap (typeOf v) (.type "tuple")) → Q fs s) → wpAny M A (us.mapM firstOfTuple') Q E s
  | .nil, us, Q, e, h => by
    rw [Vs] at e
    subst e
    rw [List.mapM_nil]
    exact wpAny_pure (h [] fun _ z => by cases z)
  | .cons b r, us, Q, e, h => by
    rw [Vs] at e
    obtain ⟨a, its, rest, rfl, h1, h2, h3⟩ := e
    obtain ⟨o, ho, hc, n, hd⟩ := id h1
    rw [List.mapM_cons]
    refine wpAny_bind ?_
    rw [kas_first_eq]
    refine wpAny_bind (Looks.here (show Looks M s.heap (typeOf (.ref a)) o.cls from (Looks.ld ho).andThen .now) ?_)
    rw [hc, if_neg (by first | decide | simp)]
    refine wpAny_bind (listItems_at ho hd (wpAny_pure ?_))
    refine wpAny_bind (firsts_tr r rest (Q := fun bs s' => wpAny M A (pure (its.toArray[0]? :: bs)) Q E s') h3 fun fs hfs => wpAny_pure (h _ fun v hv => ?_))
    rcases List.mem_cons.mp hv with z | z
    · cases b with
      | nil => rw [Vs] at h2; subst h2; simp at z
      | cons c q =>
        rw [Vs] at h2
        obtain ⟨a', its', rest', rfl, k1, _⟩ := h2
        simp at z
        subst z
        exact tuple_looks k1
    · exact hfs v z
theorem only_tr {M : Model} {vs : List Value} {Q : Option Value → Shared → Prop} (hT : ∀ v ∈ vs, Looks M s.heap (typeOf v) (.type "tuple")) (h0 : vs = [] → Q none s) (h1 : Q (some (.type "tuple")) s) : wpAny M A (oneTypeOnly' vs.toArray) Q E s := by
  rw [oneTypeOnly'_eq, List.mapM_toArray, map_eq_pure_bind]
  refine wpAny_bind (wpAny_bind (kas_mapM (r := Value.type "tuple") _ (fun v hv Q' hq => (hT v hv).here hq) (wpAny_pure ?_)))
  cases vs with
  | nil => exact wpAny_pure (h0 rfl)
  | cons f r =>
    have hall : ((List.map (fun _ => Value.type "tuple") (f :: r)).toArray.all fun x => x == Value.type "tuple") = true := by
      simp only [List.all_toArray, List.all_map, List.all_eq_true]
      intro _ _
      rfl
    have e0 : (List.map (fun _ => Value.type "tuple") (f :: r)).toArray[0]? = some (Value.type "tuple") := by simp
    rw [e0]
    simp only [hall, if_true]
    exact wpAny_pure h1
theorem kind_tr {M : Model} {t : Tr} {us : List Value} {Q : SortKind → Shared → Prop} (e : Vs s.heap t us) (h : ∀ κ, TrKind κ → Q κ s) : wpAny M A (keyKind' us.toArray) Q E s := by
  rw [kat_kind_eq, List.mapM_toArray, map_eq_pure_bind]
  refine wpAny_bind (wpAny_bind (firsts_tr t us e fun fs hfs => wpAny_pure ?_))
  split
  · refine wpAny_bind (wpAny_rule ?_)
    have e1 : fs.toArray.filterMap id = (fs.filterMap id).toArray := by simp
    rw [e1]
    have hl : ∀ v ∈ fs.filterMap id, Looks M s.heap (typeOf v) (.type "tuple") := fun v hv => hfs v (by simpa using hv)
    refine wpAny_bind (only_tr hl (fun _ => ?_) ?_)
    · exact wpAny_pure (h _ (.inr (.inr rfl)))
    · exact wpAny_pure (h _ (.inr (.inr rfl)))
  · split
    · exact wpAny_pure (h _ (.inl rfl))
    · have hl : ∀ v ∈ us, Looks M s.heap (typeOf v) (.type "tuple") := fun v hv => by
        obtain ⟨i, hi, rfl⟩ := List.getElem_of_mem hv
        obtain ⟨a, its, c, q1, q2, _⟩ := e.at hi
        rw [List.getD_eq_getElem?_getD, List.getElem?_eq_getElem hi] at q1
        simp at q1
        rw [q1]
        exact tuple_looks q2
      refine wpAny_bind (only_tr hl (fun _ => ?_) ?_)
      · exact wpAny_pure (h _ (.inl rfl))
      · exact wpAny_pure (h _ (.inr (.inl rfl)))
theorem kasWp_of {α : Type} {cmp : Nat → Nat → (Bool → Shared → Prop) → Shared → Prop} {lt : Nat → Nat → Bool} {n : Nat} {Q' : α → Prop} (hc : ∀ i j C, i < n → j < n → C (lt i j) s → cmp i j C s) : ∀ T : KasT α, SM.Wp lt n T Q' → T.kasWp cmp (fun a s' => s' = s ∧ Q' a) s
  | .ret a, h => ⟨rfl, h⟩
  | .ask i j k, h => hc i j _ h.1 h.2.1 (kasWp_of hc (k (lt i j)) h.2.2)
end
end TH

set_option Elab.async false
set_option linter.all false
set_option maxRecDepth 100000
set_option maxHeartbeats 4000000
namespace TH
open PySem PySem.W PyProof.Rows PySem.SeqAt
theorem Vs.keeps {h h' : Heap} (k : ∀ b o, h.get? b = some o → o.cls = .type "tuple" → h'.get? b = some o) : ∀ {t : Tr} {us : List Value}, Vs h t us → Vs h' t us
  | .nil, us, e => by rw [Vs] at e ⊢; exact e
  | .cons b r, us, e => by
    rw [Vs] at e ⊢
    obtain ⟨a, its, rest, rfl, ⟨o, ho, hc, hd⟩, h2, h3⟩ := e
    exact ⟨a, its, rest, rfl, ⟨o, k _ _ ho hc, hc, hd⟩, h2.keeps k, h3.keeps k⟩
theorem map_getD {α : Type} (d : α) (l : List α) : (List.range l.length).map (fun i => l.getD i d) = l := by
  refine List.ext_getElem (by simp) fun i h1 h2 => ?_
  simp [h2]
theorem Vs.rev {h : Heap} {t : Tr} {us : List Value} (e : Vs h t us) : Vs h (Tr.of t.bs.reverse) us.reverse := by
  have hl : us.length = t.bs.length := by rw [e.length, Tr.len_bs]
  refine Vs.of_all _ _ (by simp [hl]) fun i hi => ?_
  rw [List.length_reverse] at hi
  obtain ⟨a, its, c, q1, q2, q3, q4⟩ := e.all (t.bs.length - 1 - i) (by omega)
  exact ⟨a, its, c, by rw [List.getElem?_reverse (by omega), hl]; exact q1, q2, q3, by rw [List.getElem?_reverse hi]; exact q4⟩
section
variable {prog : Program} {w : World} {A : Around} {E : Value → Shared → Prop} {s : Shared}
theorem sort_run {κ : SortKind} {t : Tr} {ws : List Value} (hκ : TrKind κ) (e : Vs s.heap t ws) (h2 : 2 ≤ ws.length) (h64 : ws.length < 64) (hu : A.units + t.deep ≤ cLine) :
    wpAny (model prog w) A ((sortRuns').run (SortSt.mk' κ (ws.toArray.zip ws.toArray) #[] 7 none)) (fun r s' => s' = s ∧ failedOf r.2 = none ∧ ∃ ix : List Nat, ix.length = ws.length ∧ (∀ i ∈ ix, i < ws.length) ∧
      (arrOf r.2).map (·.2) = (ix.map fun i => ws.getD i Value.none).toArray ∧ (ix.map fun i => t.bs.getD i .nil) = (Tr.srt t.bs).reverse) E s := by
  have hl : ws.length = t.bs.length := by rw [e.length, Tr.len_bs]
  have key : ∀ i, i < ws.length → ∃ (a : Addr) (its : List Value), ws.getD i Value.none = .ref a ∧ s.heap.IsTuple a its.toArray ∧ Vs s.heap (t.bs.getD i .nil) its ∧ (t.bs.getD i .nil).deep < t.deep := fun i hi => by
    obtain ⟨a, its, c, q1, q2, q3, q4, q5⟩ := e.at hi
    have : t.bs.getD i .nil = c := by rw [List.getD_eq_getElem?_getD, q4]; rfl
    rw [this]
    exact ⟨a, its, q1, q2, q3, q5⟩
  refine kat_run (Q := fun st' s' => s' = s ∧ failedOf st' = none ∧ ∃ ix : List Nat, ix.length = ws.length ∧ (∀ i ∈ ix, i < ws.length) ∧ (arrOf st').map (·.2) = (ix.map fun i => ws.getD i Value.none).toArray ∧ (ix.map fun i => t.bs.getD i .nil) = (Tr.srt t.bs).reverse)
    (G := fun p s' => s' = s ∧ SM.Pm ws.length p ∧ SM.Up (O := Tr.ord) (fun i => t.bs.getD i .nil) p ws.length) rfl h2 h64 (fun p st' s' hp har hf hG => ?_)
    (kasWp_of (lt := SM.ltOf (O := Tr.ord) fun i => t.bs.getD i .nil) (n := ws.length) (fun i j C hi hj hC => ?_) _ (SM.sort (by omega)))
  · obtain ⟨rfl, hpm, hup⟩ := hG
    have h1 : p.toList.Perm (List.range ws.length) := by simpa using Array.perm_iff_toList_perm.mp hpm.perm
    refine ⟨rfl, hf, p.toList, by rw [Array.length_toList, hp], fun i hi => List.mem_range.mp (h1.mem_iff.mp hi), kat_snds rfl har, ?_⟩
    have perm : (p.toList.map fun i => t.bs.getD i .nil).Perm t.bs := by
      have h3 := h1.map fun i => t.bs.getD i Tr.nil
      rwa [hl, map_getD] at h3
    refine Tr.srt_rev_of (List.pairwise_iff_getElem.mpr fun i j hi hj hij => ?_) perm
    rw [List.length_map, Array.length_toList, hp] at hi hj
    have := hup i j (by omega) hj
    have e1 : ∀ k, k < ws.length → ∀ hk, (p.toList.map fun i => t.bs.getD i Tr.nil)[k]'hk = t.bs.getD (p.getD k 0) .nil := fun k hk hk' => by
      rw [List.getElem_map, Array.getElem_toList, Array.getD, dif_pos (by omega)]
      rfl
    rw [e1 i hi, e1 j hj]
    exact this
  · obtain ⟨a, its, q1, q2, q3, q4⟩ := key i hi
    obtain ⟨a', its', r1, r2, r3, r4⟩ := key j hj
    unfold kas_ask
    rw [q1, r1]
    exact ask_any hκ q2 q3 r2 r3 (by omega) hC
theorem short_out (b : Bool) (us : List Value) (hz : us.length < 2) : (if b = true then ((if b = true then (us.toArray.zip us.toArray).reverse else us.toArray.zip us.toArray).map (·.2)).reverse else (if b = true then (us.toArray.zip us.toArray).reverse else us.toArray.zip us.toArray).map (·.2)) = us.toArray := by
  match us, hz with
  | [], _ => cases b <;> simp
  | [x], _ => cases b <;> simp
theorem list_sort_tr {a : Addr} {us : List Value} {t : Tr} {n : Nat} {b : Bool} {P : PySem.Fin → Shared → Prop} (ho : s.heap.get? a = some (seqObj "list" us.toArray n)) (e : Vs s.heap t us) (h64 : us.length < 64) (hu : A.units + t.deep ≤ cLine)
    (h : ∀ ix : List Nat, ix.length = us.length → (∀ i ∈ ix, i < us.length) → (ix.map fun i => t.bs.getD i .nil) = (if b then Tr.srt t.bs else (Tr.srt t.bs).reverse) → P (.done (.ret .none)) { s with heap := sortedHeap s.heap a us (ix.map fun i => us.getD i Value.none).toArray }) :
    wpAny (model prog w) A (Builtin.«list.sort» ⟨[.ref a], [(Str.ofString "reverse", .bool b)]⟩) P E s := by
  rw [list_sort_rev]
  have ha : a < s.heap.objs.size := Heap.lt_size ho
  refine wpAny_bind (listItems_at ho rfl ?_)
  refine wpAny_bind (listUpdate_at ho rfl ?_ (by rw [List.size_toArray, sizeLine_eq]; omega) (Nat.zero_le _))
  obtain ⟨e1, ho1⟩ : ∃ e1, (s.heap.update a (Obj.mapSeq fun _ => #[])).get? a = some (seqObj "list" #[] e1) := ⟨_, get?_update_seq ho (fun _ => #[])⟩
  refine wpAny_bind (seqEpoch_at ho1 rfl ?_)
  refine wpAny_bind (wpAny_newTuple ?_ (by show us.length ≤ _; rw [sizeLine_eq]; omega))
  refine wpAny_bind (wpAny_newList ?_ (Nat.zero_le _))
  refine wpAny_holding ?_
  have ho6 : (((s.heap.update a (Obj.mapSeq fun _ => #[])).push (seqObj "tuple" us.toArray 0)).push (seqObj "list" #[] 0)).get? a = some (seqObj "list" #[] e1) := by
    rw [Heap.get?_push_ne _ _ _ (by rw [size_push', Heap.size_update]; exact Nat.ne_of_lt (Nat.lt_succ_of_lt ha)), Heap.get?_push_ne _ _ _ (by rw [Heap.size_update]; exact Nat.ne_of_lt ha)]
    exact ho1
  have keep : ∀ c o, s.heap.get? c = some o → o.cls = .type "tuple" → (((s.heap.update a (Obj.mapSeq fun _ => #[])).push (seqObj "tuple" us.toArray 0)).push (seqObj "list" #[] 0)).get? c = some o := fun c o hc hcl => by
    have hne : c ≠ a := fun z => by
      rw [z, ho] at hc
      cases hc
      exact absurd (show Value.type "list" = Value.type "tuple" from hcl) (by decide)
    refine Heap.get?_push_of_some _ (Heap.get?_push_of_some _ ?_)
    rw [Heap.get?_update_ne _ _ _ _ hne]
    exact hc
  show wpAny (model prog w) A _ P E { s with heap := ((s.heap.update a (Obj.mapSeq fun _ => #[])).push (seqObj "tuple" us.toArray 0)).push (seqObj "list" #[] 0) }
  have e6 := e.keeps keep
  dsimp only
  have step : ∀ T : Sem PySem.Fin, wpAny (model prog w) A T P E { s with heap := ((s.heap.update a (Obj.mapSeq fun _ => #[])).push (seqObj "tuple" us.toArray 0)).push (seqObj "list" #[] 0) } →
      wpAny (model prog w) A (if b = true then (do let _ ← rule "list.sort.reverse"; T) else T) P E { s with heap := ((s.heap.update a (Obj.mapSeq fun _ => #[])).push (seqObj "tuple" us.toArray 0)).push (seqObj "list" #[] 0) } := by
    intro T hT
    split
    · exact wpAny_bind (wpAny_rule hT)
    · exact hT
  refine step _ ?_
  by_cases h2 : us.toArray.size < 2
  · rw [if_pos h2, if_pos h2]
    refine wpAny_bind (wpAny_pure ?_)
    rw [StateT.run_pure]
    refine wpAny_bind (wpAny_pure ?_)
    dsimp only
    have hz : us.length < 2 := by simpa using h2
    have hout := short_out b us hz
    refine wpAny_bind (seqEpoch_at ho6 rfl ?_)
    refine wpAny_bind (listUpdate_at ho6 rfl ?_ (Nat.zero_le _) (by
      refine Nat.le_trans (Nat.le_of_eq (congrArg Array.size hout)) ?_
      rw [List.size_toArray, sizeLine_eq]; omega))
    simp only [bne_self_eq_false, Bool.false_eq_true, if_false]
    have hl : us.length = t.bs.length := by rw [e.length, Tr.len_bs]
    have fin := h (List.range us.length) (by simp) (fun i hi => List.mem_range.mp hi) (by
      rw [hl, map_getD]
      match hbs : t.bs, (show t.bs.length < 2 by omega) with
      | [], _ => cases b <;> rfl
      | [_], _ => cases b <;> rfl)
    rw [map_getD] at fin
    rw [← hout] at fin
    exact wpAny_pure fin
  · rw [if_neg h2, if_neg h2]
    have hz : 2 ≤ us.length := by simpa using h2
    refine wpAny_bind (kind_tr (s := { s with heap := ((s.heap.update a (Obj.mapSeq fun _ => #[])).push (seqObj "tuple" us.toArray 0)).push (seqObj "list" #[] 0) }) e6 fun κ hκ => ?_)
    have hl : us.length = t.bs.length := by rw [e.length, Tr.len_bs]
    obtain ⟨ws, tw, ew, hwl, hws, hdp, pick⟩ : ∃ (ws : List Value) (tw : Tr), Vs (((s.heap.update a (Obj.mapSeq fun _ => #[])).push (seqObj "tuple" us.toArray 0)).push (seqObj "list" #[] 0)) tw ws ∧ ws.length = us.length ∧
        (if b = true then (us.toArray.zip us.toArray).reverse else us.toArray.zip us.toArray) = ws.toArray.zip ws.toArray ∧ tw.deep ≤ t.deep ∧
        ∀ (_b : Bool) (ix : List Nat), ix.length = ws.length → (∀ i ∈ ix, i < ws.length) → (ix.map fun i => tw.bs.getD i .nil) = (Tr.srt tw.bs).reverse → ∃ iy : List Nat, iy.length = us.length ∧ (∀ i ∈ iy, i < us.length) ∧ (iy.map fun i => t.bs.getD i .nil) = (if b then Tr.srt t.bs else (Tr.srt t.bs).reverse) ∧
          (if b = true then ((ix.map fun i => ws.getD i Value.none).toArray).reverse else (ix.map fun i => ws.getD i Value.none).toArray) = (iy.map fun i => us.getD i Value.none).toArray := by
      cases b with
      | false => exact ⟨us, t, e6, rfl, rfl, Nat.le_refl _, fun _ ix h1 h2 h3 => ⟨ix, h1, h2, h3, rfl⟩⟩
      | true =>
        have hsrt : Tr.srt t.bs.reverse = Tr.srt t.bs := Tr.srt_of (Tr.fall_srt _) ((Tr.perm_srt _).trans (List.reverse_perm _))
        refine ⟨us.reverse, Tr.of t.bs.reverse, e6.rev, by simp, kat_pairs (ks := us) (vs := us) true rfl, Tr.deep_rev t, fun _ ix h1 h2 h3 => ⟨(ix.map fun i => us.length - 1 - i).reverse, by simpa using h1, fun i hi => ?_, ?_, ?_⟩⟩
        · rw [List.mem_reverse, List.mem_map] at hi
          obtain ⟨k, hk, rfl⟩ := hi
          have := h2 k hk
          rw [List.length_reverse] at this
          omega
        · rw [Tr.bs_of, hsrt] at h3
          rw [List.map_reverse, List.map_map]
          have : (ix.map ((fun i => t.bs.getD i Tr.nil) ∘ fun i => us.length - 1 - i)) = ix.map fun i => t.bs.reverse.getD i .nil := List.map_congr_left fun i hi => by
            have := h2 i hi
            rw [List.length_reverse] at this
            show t.bs.getD (us.length - 1 - i) Tr.nil = _
            rw [List.getD_eq_getElem?_getD, List.getD_eq_getElem?_getD, List.getElem?_reverse (by omega), hl]
          rw [this, h3, List.reverse_reverse]
          rfl
        · rw [if_pos rfl, List.map_reverse, List.map_map, List.reverse_toArray]
          congr 2
          exact List.map_congr_left fun i hi => by
            have := h2 i hi
            rw [List.length_reverse] at this
            show us.reverse.getD i Value.none = us.getD (us.length - 1 - i) Value.none
            rw [List.getD_eq_getElem?_getD, List.getD_eq_getElem?_getD, List.getElem?_reverse (by omega)]
    rw [hws]
    refine wpAny_bind (wpAny_mono (sort_run (s := { s with heap := ((s.heap.update a (Obj.mapSeq fun _ => #[])).push (seqObj "tuple" us.toArray 0)).push (seqObj "list" #[] 0) }) hκ ew (by omega) (by omega) (by omega)) ?_ fun _ _ z => z)
    rintro ⟨⟨⟩, st'⟩ s' ⟨rfl, hf, ix, hil, hix, hout, hst⟩
    dsimp only
    refine wpAny_bind (seqEpoch_at ho6 rfl ?_)
    obtain ⟨iy, y1, y2, y3, hfin⟩ : ∃ iy : List Nat, iy.length = us.length ∧ (∀ i ∈ iy, i < us.length) ∧ (iy.map fun i => t.bs.getD i .nil) = (if b then Tr.srt t.bs else (Tr.srt t.bs).reverse) ∧
        (if b = true then ((arrOf st').map (·.2)).reverse else (arrOf st').map (·.2)) = (iy.map fun i => us.getD i Value.none).toArray := by
      rw [show (arrOf st').map (·.2) = _ from hout]
      exact pick b ix hil hix hst
    refine wpAny_bind (listUpdate_at ho6 rfl ?_ (Nat.zero_le _) (by
      refine Nat.le_trans (Nat.le_of_eq (congrArg Array.size hfin)) ?_
      rw [List.size_toArray, List.length_map, y1, sizeLine_eq]; omega))
    rw [show failedOf st' = none from hf]
    simp only [bne_self_eq_false, Bool.false_eq_true, if_false]
    have fin := h iy y1 y2 y3
    rw [← hfin] at fin
    exact wpAny_pure fin
end
end TH

set_option Elab.async false
set_option linter.all false
set_option maxRecDepth 100000
set_option maxHeartbeats 4000000
namespace TH
open PySem PySem.W PyProof.Rows PySem.SeqAt
section
variable {prog : Program} {w : World} {A : Around} {E : Value → Shared → Prop} {s : Shared}
theorem sort_plain_rev (a : Addr) : Builtin.«list.sort» ⟨[.ref a], []⟩ = Builtin.«list.sort» ⟨[.ref a], [(Str.ofString "reverse", .bool false)]⟩ := by
  rw [list_sort_rev, list_sort_plain]
  rfl
theorem list_sort_tr0 {a : Addr} {us : List Value} {t : Tr} {n : Nat} {P : PySem.Fin → Shared → Prop} (ho : s.heap.get? a = some (seqObj "list" us.toArray n)) (e : Vs s.heap t us) (h64 : us.length < 64) (hu : A.units + t.deep ≤ cLine)
    (h : ∀ ix : List Nat, ix.length = us.length → (∀ i ∈ ix, i < us.length) → (ix.map fun i => t.bs.getD i .nil) = (Tr.srt t.bs).reverse → P (.done (.ret .none)) { s with heap := sortedHeap s.heap a us (ix.map fun i => us.getD i Value.none).toArray }) :
    wpAny (model prog w) A (Builtin.«list.sort» ⟨[.ref a], []⟩) P E s := by
  rw [sort_plain_rev]
  exact list_sort_tr (b := false) ho e h64 hu h
theorem collect_tup {l : Addr} {vs : List Value} {Q : List Value → Shared → Prop} (hl : s.heap.IsTuple l vs.toArray)
    (h : Q vs { s with heap := (s.heap.push (seqObj "list" #[] 0)).update s.heap.objs.size (Obj.mapSeq (· ++ vs.toArray)) }) (hsz : vs.length ≤ sizeLine) :
    wpAny (model prog w) A (collect (.ref l)) Q E s := by
  obtain ⟨o, ho, hc, n, hd⟩ := id hl
  unfold collect
  refine wpAny_bind (wpAny_runValue (codeAny_builtin entry_proto_collect' ?_))
  show wpAny _ _ (do again (.builtin "list.__iadd__" ⟨[← newList [], .ref l], []⟩)) _ _ s
  refine wpAny_bind (wpAny_newList (wpAny_pure ⟨Code.quiet_builtin _ (by decide +kernel), codeAny_builtin entry_list_iadd' ?_⟩))
  show wpAny _ _ (Builtin.List.listExtendWith (.ref s.heap.objs.size) (.ref l) (.ref s.heap.objs.size)) _ _ { s with heap := s.heap.push (seqObj "list" #[] 0) }
  unfold Builtin.List.listExtendWith
  have ho' : (s.heap.push (seqObj "list" #[] 0)).get? l = some o := Heap.get?_push_of_some _ ho
  refine wpAny_bind (wpAny_typeOf (T := "tuple") ⟨o, ho', hc⟩ ?_)
  have ht : (Value.type "tuple" == Value.type "tuple") = true := by rfl
  rw [if_pos (by rw [ht]; simp)]
  refine wpAny_bind (listItems_at ho' hd ?_)
  refine wpAny_bind (listItems_at (xs := #[]) (n := 0) (Heap.get?_push_size _ rfl) rfl ?_)
  rw [if_neg (by simp)]
  refine wpAny_bind (listUpdate_at (xs := #[]) (n := 0) (Heap.get?_push_size _ rfl) rfl ?_ (Nat.zero_le _) (by show (#[] ++ vs.toArray).size ≤ sizeLine + 1; simp only [Array.size_append, List.size_toArray, List.length_nil]; omega))
  refine wpAny_pure ?_
  show wpAny (model prog w) A (do
      let o ← load s.heap.objs.size
      match o.data with
      | .seq xs _ => pure xs.toList
      | _ => unsupported "internal:collect") Q E { s with heap := (s.heap.push (seqObj "list" #[] 0)).update s.heap.objs.size (Obj.mapSeq (· ++ vs.toArray)) }
  refine wpAny_bind (wpAny_load (get?_update_seq (Heap.get?_push_size _ rfl) _) ?_)
  show wpAny _ _ (pure ((#[] : Array Value) ++ vs.toArray).toList) Q E _
  rw [show ((#[] : Array Value) ++ vs.toArray).toList = vs by simp]
  exact wpAny_pure h
theorem sorted_list {l : Addr} {us : List Value} {t : Tr} {Q : Value → Shared → Prop} (hl : s.heap.IsList l us.toArray) (e : Vs s.heap t us) (h64 : us.length < 64) (hu : A.units + 2 + t.deep ≤ cLine)
    (h : ∀ (h' : Heap) (ix : List Nat) (e1 : Nat), ix.length = us.length → (∀ i ∈ ix, i < us.length) → (ix.map fun i => t.bs.getD i .nil) = (Tr.srt t.bs).reverse → (∀ c o, s.heap.get? c = some o → h'.get? c = some o) →
      h'.get? (s.heap.objs.size + 1) = some (seqObj "list" (ix.map fun i => us.getD i Value.none).toArray e1) → Q (.ref (s.heap.objs.size + 1)) { s with heap := h' }) :
    wpAny (model prog w) A (call (.builtin "sorted") [.ref l]) Q E s := by
  refine Calls.call_function_entry kind_sorted plain_sorted entry_sorted (args_sorted1 _) ?_
  unfold Builtin.«sorted»
  refine wpAny_bind (m := checkCount "sorted" 1 1 _) (wpAny_pure ?_)
  refine wpAny_bind (collect_list hl ?_ (by rw [sizeLine_eq]; omega))
  refine wpAny_bind (wpAny_newList ?_ (by rw [sizeLine_eq]; omega))
  have hsz : ((s.heap.push (seqObj "list" #[] 0)).update s.heap.objs.size (Obj.mapSeq (· ++ us.toArray))).objs.size = s.heap.objs.size + 1 := by
    rw [Heap.size_update, size_push']
  have hoL : (((s.heap.push (seqObj "list" #[] 0)).update s.heap.objs.size (Obj.mapSeq (· ++ us.toArray))).push (seqObj "list" us.toArray 0)).get? (s.heap.objs.size + 1) = some (seqObj "list" us.toArray 0) := by
    rw [← hsz]; exact Heap.get?_push_size _ rfl
  have keep : ∀ b o, s.heap.get? b = some o → o.cls = .type "tuple" → (((s.heap.push (seqObj "list" #[] 0)).update s.heap.objs.size (Obj.mapSeq (· ++ us.toArray))).push (seqObj "list" us.toArray 0)).get? b = some o := fun b o q _ => by
    have hlt : b < s.heap.objs.size := Heap.lt_size q
    rw [Heap.get?_push_ne _ _ _ (by rw [hsz]; exact Nat.ne_of_lt (Nat.lt_succ_of_lt hlt)), Heap.get?_update_ne _ _ _ _ (Nat.ne_of_lt hlt), Heap.get?_push_ne _ _ _ (Nat.ne_of_lt hlt)]
    exact q
  show wpAny _ _ _ _ _ { s with heap := ((s.heap.push (seqObj "list" #[] 0)).update s.heap.objs.size (Obj.mapSeq (· ++ us.toArray))).push (seqObj "list" us.toArray 0) }
  rw [hsz]
  refine wpAny_bind (wpAny_holding (wpAny_call_entry slot_list_sort ⟨_, hoL, rfl⟩ entry_list_sort (list_sort_tr0 (s := { s with heap := ((s.heap.push (seqObj "list" #[] 0)).update s.heap.objs.size (Obj.mapSeq (· ++ us.toArray))).push (seqObj "list" us.toArray 0) }) hoL (e.keeps keep) h64 (by
    rw [show A.in1.in1.units = A.units + 2 from rfl]; omega) fun ix a1 a2 a3 => ⟨_, rfl, ?_⟩) (args_list_sort _)))
  obtain ⟨e1, he1⟩ := sortedAll_at s.heap us (ix.map fun i => us.getD i Value.none).toArray
  exact wpAny_pure ⟨_, rfl, h _ ix e1 a1 a2 a3 (fun _ _ => sortedAll_old) he1⟩
theorem sorted_listR {l : Addr} {us : List Value} {t : Tr} {b : Bool} {Q : Value → Shared → Prop} (hl : s.heap.IsList l us.toArray) (e : Vs s.heap t us) (h64 : us.length < 64) (hu : A.units + 2 + t.deep ≤ cLine)
    (h : ∀ (h' : Heap) (ix : List Nat) (e1 : Nat), ix.length = us.length → (∀ i ∈ ix, i < us.length) → (ix.map fun i => t.bs.getD i .nil) = (if b then Tr.srt t.bs else (Tr.srt t.bs).reverse) → (∀ c o, s.heap.get? c = some o → h'.get? c = some o) →
      h'.get? (s.heap.objs.size + 1) = some (seqObj "list" (ix.map fun i => us.getD i Value.none).toArray e1) → Q (.ref (s.heap.objs.size + 1)) { s with heap := h' }) :
    wpAny (model prog w) A (call (.builtin "sorted") [.ref l] [(Str.ofString "reverse", .bool b)]) Q E s := by
  refine call_function_entry_kw kind_sorted plain_sorted entry_sorted (args_sorted_rev _ _) ?_
  unfold Builtin.«sorted»
  refine wpAny_bind (m := checkCount "sorted" 1 1 _) (wpAny_pure ?_)
  refine wpAny_bind (collect_list hl ?_ (by rw [sizeLine_eq]; omega))
  refine wpAny_bind (wpAny_newList ?_ (by rw [sizeLine_eq]; omega))
  have hsz : ((s.heap.push (seqObj "list" #[] 0)).update s.heap.objs.size (Obj.mapSeq (· ++ us.toArray))).objs.size = s.heap.objs.size + 1 := by
    rw [Heap.size_update, size_push']
  have hoL : (((s.heap.push (seqObj "list" #[] 0)).update s.heap.objs.size (Obj.mapSeq (· ++ us.toArray))).push (seqObj "list" us.toArray 0)).get? (s.heap.objs.size + 1) = some (seqObj "list" us.toArray 0) := by
    rw [← hsz]; exact Heap.get?_push_size _ rfl
  have keep : ∀ b o, s.heap.get? b = some o → o.cls = .type "tuple" → (((s.heap.push (seqObj "list" #[] 0)).update s.heap.objs.size (Obj.mapSeq (· ++ us.toArray))).push (seqObj "list" us.toArray 0)).get? b = some o := fun b o q _ => by
    have hlt : b < s.heap.objs.size := Heap.lt_size q
    rw [Heap.get?_push_ne _ _ _ (by rw [hsz]; exact Nat.ne_of_lt (Nat.lt_succ_of_lt hlt)), Heap.get?_update_ne _ _ _ _ (Nat.ne_of_lt hlt), Heap.get?_push_ne _ _ _ (Nat.ne_of_lt hlt)]
    exact q
  show wpAny _ _ _ _ _ { s with heap := ((s.heap.push (seqObj "list" #[] 0)).update s.heap.objs.size (Obj.mapSeq (· ++ us.toArray))).push (seqObj "list" us.toArray 0) }
  rw [hsz]
  refine wpAny_bind (wpAny_holding (wpAny_call_entry_kw slot_list_sort ⟨_, hoL, rfl⟩ entry_list_sort (list_sort_tr (b := b) (s := { s with heap := ((s.heap.push (seqObj "list" #[] 0)).update s.heap.objs.size (Obj.mapSeq (· ++ us.toArray))).push (seqObj "list" us.toArray 0) }) hoL (e.keeps keep) h64 (by
    rw [show A.in1.in1.units = A.units + 2 from rfl]; omega) fun ix a1 a2 a3 => ⟨_, rfl, ?_⟩) (args_list_sort_rev _ _)))
  obtain ⟨e1, he1⟩ := sortedAll_at s.heap us (ix.map fun i => us.getD i Value.none).toArray
  exact wpAny_pure ⟨_, rfl, h _ ix e1 a1 a2 a3 (fun _ _ => sortedAll_old) he1⟩
theorem sorted_tup {l : Addr} {us : List Value} {t : Tr} {Q : Value → Shared → Prop} (hl : s.heap.IsTuple l us.toArray) (e : Vs s.heap t us) (h64 : us.length < 64) (hu : A.units + 2 + t.deep ≤ cLine)
    (h : ∀ (h' : Heap) (ix : List Nat) (e1 : Nat), ix.length = us.length → (∀ i ∈ ix, i < us.length) → (ix.map fun i => t.bs.getD i .nil) = (Tr.srt t.bs).reverse → (∀ c o, s.heap.get? c = some o → h'.get? c = some o) →
      h'.get? (s.heap.objs.size + 1) = some (seqObj "list" (ix.map fun i => us.getD i Value.none).toArray e1) → Q (.ref (s.heap.objs.size + 1)) { s with heap := h' }) :
    wpAny (model prog w) A (call (.builtin "sorted") [.ref l]) Q E s := by
  refine Calls.call_function_entry kind_sorted plain_sorted entry_sorted (args_sorted1 _) ?_
  unfold Builtin.«sorted»
  refine wpAny_bind (m := checkCount "sorted" 1 1 _) (wpAny_pure ?_)
  refine wpAny_bind (collect_tup hl ?_ (by rw [sizeLine_eq]; omega))
  refine wpAny_bind (wpAny_newList ?_ (by rw [sizeLine_eq]; omega))
  have hsz : ((s.heap.push (seqObj "list" #[] 0)).update s.heap.objs.size (Obj.mapSeq (· ++ us.toArray))).objs.size = s.heap.objs.size + 1 := by
    rw [Heap.size_update, size_push']
  have hoL : (((s.heap.push (seqObj "list" #[] 0)).update s.heap.objs.size (Obj.mapSeq (· ++ us.toArray))).push (seqObj "list" us.toArray 0)).get? (s.heap.objs.size + 1) = some (seqObj "list" us.toArray 0) := by
    rw [← hsz]; exact Heap.get?_push_size _ rfl
  have keep : ∀ b o, s.heap.get? b = some o → o.cls = .type "tuple" → (((s.heap.push (seqObj "list" #[] 0)).update s.heap.objs.size (Obj.mapSeq (· ++ us.toArray))).push (seqObj "list" us.toArray 0)).get? b = some o := fun b o q _ => by
    have hlt : b < s.heap.objs.size := Heap.lt_size q
    rw [Heap.get?_push_ne _ _ _ (by rw [hsz]; exact Nat.ne_of_lt (Nat.lt_succ_of_lt hlt)), Heap.get?_update_ne _ _ _ _ (Nat.ne_of_lt hlt), Heap.get?_push_ne _ _ _ (Nat.ne_of_lt hlt)]
    exact q
  show wpAny _ _ _ _ _ { s with heap := ((s.heap.push (seqObj "list" #[] 0)).update s.heap.objs.size (Obj.mapSeq (· ++ us.toArray))).push (seqObj "list" us.toArray 0) }
  rw [hsz]
  refine wpAny_bind (wpAny_holding (wpAny_call_entry slot_list_sort ⟨_, hoL, rfl⟩ entry_list_sort (list_sort_tr0 (s := { s with heap := ((s.heap.push (seqObj "list" #[] 0)).update s.heap.objs.size (Obj.mapSeq (· ++ us.toArray))).push (seqObj "list" us.toArray 0) }) hoL (e.keeps keep) h64 (by
    rw [show A.in1.in1.units = A.units + 2 from rfl]; omega) fun ix a1 a2 a3 => ⟨_, rfl, ?_⟩) (args_list_sort _)))
  obtain ⟨e1, he1⟩ := sortedAll_at s.heap us (ix.map fun i => us.getD i Value.none).toArray
  exact wpAny_pure ⟨_, rfl, h _ ix e1 a1 a2 a3 (fun _ _ => sortedAll_old) he1⟩
theorem sorted_tupR {l : Addr} {us : List Value} {t : Tr} {b : Bool} {Q : Value → Shared → Prop} (hl : s.heap.IsTuple l us.toArray) (e : Vs s.heap t us) (h64 : us.length < 64) (hu : A.units + 2 + t.deep ≤ cLine)
    (h : ∀ (h' : Heap) (ix : List Nat) (e1 : Nat), ix.length = us.length → (∀ i ∈ ix, i < us.length) → (ix.map fun i => t.bs.getD i .nil) = (if b then Tr.srt t.bs else (Tr.srt t.bs).reverse) → (∀ c o, s.heap.get? c = some o → h'.get? c = some o) →
      h'.get? (s.heap.objs.size + 1) = some (seqObj "list" (ix.map fun i => us.getD i Value.none).toArray e1) → Q (.ref (s.heap.objs.size + 1)) { s with heap := h' }) :
    wpAny (model prog w) A (call (.builtin "sorted") [.ref l] [(Str.ofString "reverse", .bool b)]) Q E s := by
  refine call_function_entry_kw kind_sorted plain_sorted entry_sorted (args_sorted_rev _ _) ?_
  unfold Builtin.«sorted»
  refine wpAny_bind (m := checkCount "sorted" 1 1 _) (wpAny_pure ?_)
  refine wpAny_bind (collect_tup hl ?_ (by rw [sizeLine_eq]; omega))
  refine wpAny_bind (wpAny_newList ?_ (by rw [sizeLine_eq]; omega))
  have hsz : ((s.heap.push (seqObj "list" #[] 0)).update s.heap.objs.size (Obj.mapSeq (· ++ us.toArray))).objs.size = s.heap.objs.size + 1 := by
    rw [Heap.size_update, size_push']
  have hoL : (((s.heap.push (seqObj "list" #[] 0)).update s.heap.objs.size (Obj.mapSeq (· ++ us.toArray))).push (seqObj "list" us.toArray 0)).get? (s.heap.objs.size + 1) = some (seqObj "list" us.toArray 0) := by
    rw [← hsz]; exact Heap.get?_push_size _ rfl
  have keep : ∀ b o, s.heap.get? b = some o → o.cls = .type "tuple" → (((s.heap.push (seqObj "list" #[] 0)).update s.heap.objs.size (Obj.mapSeq (· ++ us.toArray))).push (seqObj "list" us.toArray 0)).get? b = some o := fun b o q _ => by
    have hlt : b < s.heap.objs.size := Heap.lt_size q
    rw [Heap.get?_push_ne _ _ _ (by rw [hsz]; exact Nat.ne_of_lt (Nat.lt_succ_of_lt hlt)), Heap.get?_update_ne _ _ _ _ (Nat.ne_of_lt hlt), Heap.get?_push_ne _ _ _ (Nat.ne_of_lt hlt)]
    exact q
  show wpAny _ _ _ _ _ { s with heap := ((s.heap.push (seqObj "list" #[] 0)).update s.heap.objs.size (Obj.mapSeq (· ++ us.toArray))).push (seqObj "list" us.toArray 0) }
  rw [hsz]
  refine wpAny_bind (wpAny_holding (wpAny_call_entry_kw slot_list_sort ⟨_, hoL, rfl⟩ entry_list_sort (list_sort_tr (b := b) (s := { s with heap := ((s.heap.push (seqObj "list" #[] 0)).update s.heap.objs.size (Obj.mapSeq (· ++ us.toArray))).push (seqObj "list" us.toArray 0) }) hoL (e.keeps keep) h64 (by
    rw [show A.in1.in1.units = A.units + 2 from rfl]; omega) fun ix a1 a2 a3 => ⟨_, rfl, ?_⟩) (args_list_sort_rev _ _)))
  obtain ⟨e1, he1⟩ := sortedAll_at s.heap us (ix.map fun i => us.getD i Value.none).toArray
  exact wpAny_pure ⟨_, rfl, h _ ix e1 a1 a2 a3 (fun _ _ => sortedAll_old) he1⟩
end
end TH

set_option Elab.async false
set_option linter.all false
set_option maxRecDepth 100000
namespace ET
open PySem
section
variable {prog : Program} {w : World} {A : Around} {E : Value → Shared → Prop} {s : Shared}
theorem next_item {it t : Addr} {i : Nat} {items} {x : Value} {Q : Value → Shared → Prop} (hit : s.heap.IsTupleIter it t i) (ht : s.heap.IsTuple t items) (hx : items[i]? = some x)
    (hQ : ∀ h', h'.IsTupleIter it t (i + 1) → Heap.SameBut it s.heap h' → Q x { s with heap := h' }) : wpAny (model prog w) A (Builtin.SmallTypes.nextOf (.ref it)) Q E s := by
  obtain ⟨o, ho, hc, hd⟩ := id hit
  obtain ⟨ol, hol, _, nl, hdl⟩ := ht
  unfold Builtin.SmallTypes.nextOf
  refine wpAny_bind (wpAny_callSpecial?_slot (name := Str.ofString "__next__") hit.typeIs F.slot_tuple_iterator_next
    (wpAny_call_entry F.slot_tuple_iterator_next hit.typeIs F.entry_tuple_iterator_next ?_ (F.args_tuple_iterator_next_1 _)))
  show wpAny _ _ (field (.ref it) 0 >>= _) _ _ s
  refine wpAny_bind (wpAny_field ho hd (x := .ref t) rfl ?_)
  show wpAny _ _ (if (Value.ref t == Value.none) = true then _ else _) _ _ s
  rw [if_neg (show ¬ ((Value.ref t == Value.none) = true) from Bool.false_ne_true)]
  show wpAny _ _ (field (.ref it) 1 >>= _) _ _ s
  refine wpAny_bind (wpAny_field ho hd (x := .int i 0) rfl ?_)
  show wpAny _ _ (seqItems? (.ref t) >>= _) _ _ s
  refine wpAny_bind (wpAny_seqItems hol hdl ?_)
  simp only [Int.toNat_natCast, hx]
  refine wpAny_bind (wpAny_setField ho hd (by simp) (wpAny_pure ⟨x, rfl, wpAny_pure (hQ _ ?_ (Heap.SameBut.update ..))⟩))
  exact ⟨_, Heap.get?_update_self _ ho (Obj.isFreed_of_fields (Obj.data_mapFields hd _)), (Obj.cls_mapFields ..).trans hc, by
    rw [Obj.data_mapFields hd]; simp [rawInt]⟩
theorem next_end {it t : Addr} {i : Nat} {items} {Q : Value → Shared → Prop} (hh : A.handled = none) (hit : s.heap.IsTupleIter it t i) (ht : s.heap.IsTuple t items) (hx : items[i]? = none)
    (hE : ∀ h' e, Heap.ExtBut it s.heap h' → (∃ o, h'.get? e = some o ∧ o.cls = .type "StopIteration") → E (.ref e) { s with heap := h' }) : wpAny (model prog w) A (Builtin.SmallTypes.nextOf (.ref it)) Q E s := by
  obtain ⟨o, ho, hc, hd⟩ := id hit
  obtain ⟨ol, hol, _, nl, hdl⟩ := ht
  unfold Builtin.SmallTypes.nextOf
  refine wpAny_bind (wpAny_callSpecial?_slot (name := Str.ofString "__next__") hit.typeIs F.slot_tuple_iterator_next
    (wpAny_call_entry F.slot_tuple_iterator_next hit.typeIs F.entry_tuple_iterator_next ?_ (F.args_tuple_iterator_next_1 _)))
  show wpAny _ _ (field (.ref it) 0 >>= _) _ _ s
  refine wpAny_bind (wpAny_field ho hd (x := .ref t) rfl ?_)
  show wpAny _ _ (if (Value.ref t == Value.none) = true then _ else _) _ _ s
  rw [if_neg (show ¬ ((Value.ref t == Value.none) = true) from Bool.false_ne_true)]
  show wpAny _ _ (field (.ref it) 1 >>= _) _ _ s
  refine wpAny_bind (wpAny_field ho hd (x := .int i 0) rfl ?_)
  show wpAny _ _ (seqItems? (.ref t) >>= _) _ _ s
  refine wpAny_bind (wpAny_seqItems hol hdl ?_)
  simp only [Int.toNat_natCast, hx]
  refine wpAny_bind (wpAny_rule (wpAny_bind (wpAny_setField ho hd (by simp) ?_)))
  show wpAny _ _ (newExc (.type "StopIteration") [] >>= _) _ _ _
  refine wpAny_bind ?_
  simp only [newExc, newTuple]
  refine wpAny_bind (wpAny_newObj_type ?_ (by size_fits))
  refine wpAny_bind (m := firstArgMember _ _) (wpAny_of_eq (a := Value.none) (by first | rfl | (simp only [firstArgMember]; rfl)) ?_)
  refine wpAny_newObj_type ?_ (by size_fits)
  simp only [raiseNew]
  refine wpAny_bind (wpAny_handled ?_)
  first | rw [show A.in1.handled = none from hh] | rw [hh]
  refine wpAny_bind (wpAny_pure (wpAny_throw ?_))
  exact hE _ _ (((Heap.SameBut.update ..).extBut.push _).push _) ⟨_, Heap.get?_push_size _ rfl, rfl⟩
end
section
open AutoSeq1 (wpAny_loadPart')
theorem new_tuple (l : Addr) (items : Array Value) (n : Nat) (dct : Option Addr) (sl : Array (Option Value)) :
    Meets (Builtin.«enumerate.__new__» ⟨[.type "enumerate", .ref l], []⟩) (fun _ R s => s.heap.get? l = some { cls := .type "tuple", dict := dct, data := .seq items n, slots := sl } ∧
      R (.ok (.ret (.ref (s.heap.push { cls := .type "tuple_iterator", data := .fields #[.ref l, .int 0 0] }).objs.size)))
        { s with heap := (s.heap.push { cls := .type "tuple_iterator", data := .fields #[.ref l, .int 0 0] }).push { cls := .type "enumerate", data := .fields #[.none, .bool false, .ref s.heap.objs.size, rawInt 0, .none, .none] } }) :=
  .of_wp fun prog w A R s h => by
    obtain ⟨hp, g, d, tk, os⟩ := s; obtain ⟨hl, h⟩ := h
    have hsub := sub_enumerate
    have hL : Heap.IsTuple (Shared.heap ⟨hp, g, d, tk, os⟩) l items := ⟨_, hl, rfl, n, rfl⟩
    wp_walk using wpAny_loadPart' hl
    refine wpAny_stack_any fun st => wpAny_pure ?_
    split
    · rename_i c _ _ _ _ _
      cases (c == Value.type "enumerate")
      · wp_walk using wpAny_loadPart' hl, wpAny_pyIter_tuple hL
        exact ⟨_, rfl, h⟩
      · wp_walk using wpAny_loadPart' hl, wpAny_pyIter_tuple hL
        exact ⟨_, rfl, h⟩
    · wp_walk using wpAny_loadPart' hl, wpAny_pyIter_tuple hL
      exact ⟨_, rfl, h⟩
theorem call_enum {prog : Program} {w : World} {A : Around} {E : Value → Shared → Prop} {s : Shared} {l : Addr} {items : Array Value} {Q : Value → Shared → Prop} (hL : s.heap.IsTuple l items)
    (h : ∀ h', IsEnum h' (s.heap.objs.size + 1) s.heap.objs.size 0 .none → h'.IsTupleIter s.heap.objs.size l 0 → h'.objs.size = s.heap.objs.size + 2 →
      (∀ b o, s.heap.get? b = some o → h'.get? b = some o) → Q (.ref (s.heap.objs.size + 1)) { s with heap := h' }) :
    wpAny (model prog w) A (call (.type "enumerate") [.ref l]) Q E s := by
  obtain ⟨⟨c, dct, dt, sl⟩, hl, hc, n, hd⟩ := hL
  replace hc : c = .type "tuple" := hc
  replace hd : dt = .seq items n := hd
  subst hc hd
  refine callType_new F.called_enumerate (by decide) (F.typeCall_enumerate_1 _) (F.newCall_enumerate_1 _) (fun obj => F.args_object_init_2 obj _) F.entry_enumerate_new
    (new_tuple l items n dct sl) ⟨hl, ?_⟩
  have hz : (s.heap.push { cls := .type "tuple_iterator", data := .fields #[.ref l, .int 0 0] }).objs.size = s.heap.objs.size + 1 := Heap.size_push ..
  show _ ∧ _
  rw [hz]
  have he : IsEnum ((s.heap.push { cls := .type "tuple_iterator", data := .fields #[.ref l, .int 0 0] }).push
      { cls := .type "enumerate", data := .fields #[.none, .bool false, .ref s.heap.objs.size, rawInt 0, .none, .none] }) (s.heap.objs.size + 1) s.heap.objs.size 0 .none := by
    have := Heap.get?_push_size (s.heap.push { cls := .type "tuple_iterator", data := .fields #[.ref l, .int 0 0] })
      (o := { cls := .type "enumerate", data := .fields #[.none, .bool false, .ref s.heap.objs.size, rawInt 0, .none, .none] }) rfl
    rw [hz] at this; exact this
  refine ⟨⟨_, he, rfl⟩, h _ he ⟨_, Heap.get?_push_of_some _ (Heap.get?_push_size _ rfl), rfl, rfl⟩ (by rw [Heap.size_push, hz]) fun b o x => Heap.get?_push_of_some _ (Heap.get?_push_of_some _ x)⟩
end
/-- what a tuple's iterator draws, for one state's tuple -/
theorem draws {prog : Program} {w : World} {A : Around} (hh : A.handled = none) (it a : Addr) (its : List Value) (hne : a ≠ it) :
    Draws prog w A it [it, a] its.length (fun i x => its[i]? = some x) (fun i h => h.IsTupleIter it a i ∧ h.IsTuple a its.toArray) where
  live := fun i h st => let ⟨o, e, _⟩ := st.1; ⟨o, e⟩
  frame := fun i h h' st k => by
    obtain ⟨⟨o, e, r⟩, o2, e2, r2⟩ := st
    exact ⟨⟨o, k it (by simp) o e, r⟩, o2, k a (by simp) o2 e2, r2⟩
  item := fun i s Q E hi st hQ => next_item st.1 st.2 (x := its[i]) (by simp [hi]) fun h' st' sb =>
    hQ _ h' s.toks (by simp [hi]) ⟨st', let ⟨o, e, r⟩ := st.2; ⟨o, (sb.2 a hne).trans e, r⟩⟩ sb
  done := fun s Q E st hE => next_end hh st.1 st.2 (by simp) hE
end ET

set_option Elab.async false
set_option linter.all false
set_option maxRecDepth 100000
set_option maxHeartbeats 4000000
namespace L2
open PySem PySem.Spec PyProof.Rows
/-! ### trees: tuples of tuples -/
/-- the row of trees t lies at xs -/
def Ts (H : Hp) : Tr → List V → Prop
  | .nil, xs => xs = []
  | .cons b r, xs => ∃ (a : Addr) (ys zs : List V), xs = .ref a :: zs ∧ H a = some (.tup ys) ∧ Ts H b ys ∧ Ts H r zs
def Tv (H : Hp) (t : Tr) (v : V) : Prop := ∃ (a : Addr) (ys : List V), v = .ref a ∧ H a = some (.tup ys) ∧ Ts H t ys
theorem Ts.same {H H' : Hp} (e : Same H H') : ∀ {t : Tr} {xs : List V}, Ts H t xs → Ts H' t xs
  | .nil, xs, h => by rw [Ts] at h ⊢; exact h
  | .cons b r, xs, h => by
    rw [Ts] at h ⊢
    obtain ⟨a, ys, zs, e1, h1, h2, h3⟩ := h
    exact ⟨a, ys, zs, e1, e _ _ h1, h2.same e, h3.same e⟩
theorem Tv.same {H H' : Hp} {t : Tr} {v : V} (h : Tv H t v) (e : Same H H') : Tv H' t v := let ⟨a, ys, e1, h1, h2⟩ := h; ⟨a, ys, e1, e _ _ h1, h2.same e⟩
/-- tuples stay -/
def TupS (H H' : Hp) : Prop := ∀ b xs, H b = some (.tup xs) → H' b = some (.tup xs)
theorem TupS.of {H H' : Hp} (e : Same H H') : TupS H H' := fun b xs h => e b _ h
theorem TupS.trans {H H1 H2 : Hp} (a : TupS H H1) (b : TupS H1 H2) : TupS H H2 := fun c xs h => b c xs (a c xs h)
theorem TupS.refl (H : Hp) : TupS H H := fun _ _ h => h
theorem TupS.upd {H : Hp} {l : Addr} {ys : List V} {o : HO} (hl : H l = some (.lst ys)) : TupS H (upd H l o) := fun b xs h => by
  rw [upd_ne (ne_of h hl (by intro z; cases z))]; exact h
theorem Ts.tups {H H' : Hp} (e : TupS H H') : ∀ {t : Tr} {xs : List V}, Ts H t xs → Ts H' t xs
  | .nil, xs, h => by rw [Ts] at h ⊢; exact h
  | .cons b r, xs, h => by
    rw [Ts] at h ⊢
    obtain ⟨a, ys, zs, e1, h1, h2, h3⟩ := h
    exact ⟨a, ys, zs, e1, e _ _ h1, h2.tups e, h3.tups e⟩
theorem Tv.tups {H H' : Hp} {t : Tr} {v : V} (h : Tv H t v) (e : TupS H H') : Tv H' t v := let ⟨a, ys, e1, h1, h2⟩ := h; ⟨a, ys, e1, e _ _ h1, h2.tups e⟩
theorem Ts.length {H : Hp} : ∀ {t : Tr} {xs : List V}, Ts H t xs → xs.length = t.len
  | .nil, xs, h => by rw [Ts] at h; rw [h]; rfl
  | .cons b r, xs, h => by
    rw [Ts] at h
    obtain ⟨a, ys, zs, rfl, _, _, h3⟩ := h
    rw [List.length_cons, Tr.len, h3.length]
theorem Ts.len {H : Hp} {t : Tr} {xs : List V} (h : Ts H t xs) : xs.length = t.bs.length := by rw [h.length, Tr.len_bs]
theorem Ts.get {H : Hp} : ∀ {t : Tr} {xs : List V} {i : Nat} {v : V}, Ts H t xs → xs[i]? = some v → ∃ c, t.bs[i]? = some c ∧ Tv H c v
  | .nil, xs, i, v, h, e => by rw [Ts] at h; subst h; simp at e
  | .cons b r, xs, i, v, h, e => by
    rw [Ts] at h
    obtain ⟨a, ys, zs, rfl, h1, h2, h3⟩ := h
    cases i with
    | zero => simp at e; subst e; exact ⟨b, rfl, a, ys, rfl, h1, h2⟩
    | succ i =>
      obtain ⟨c, q1, q2⟩ := h3.get (i := i) (v := v) (by simpa using e)
      exact ⟨c, by simpa [Tr.bs] using q1, q2⟩
theorem Ts.of_all {H : Hp} : ∀ (ts : List Tr) (xs : List V), xs.length = ts.length → (∀ (i : Nat) (v : V), xs[i]? = some v → ∃ c, ts[i]? = some c ∧ Tv H c v) → Ts H (Tr.of ts) xs
  | [], xs, hl, _ => by
    rw [Tr.of, Ts]
    exact List.eq_nil_of_length_eq_zero (by simpa using hl)
  | t :: ts, [], hl, _ => by simp at hl
  | t :: ts, x :: xs, hl, h => by
    rw [Tr.of, Ts]
    obtain ⟨c, e1, a, ys, rfl, h1, h2⟩ := h 0 x rfl
    simp at e1
    subst e1
    exact ⟨a, ys, xs, rfl, h1, h2, Ts.of_all ts xs (by simpa using hl) fun i v e => by
      obtain ⟨c, q1, q2⟩ := h (i + 1) v (by simpa using e)
      exact ⟨c, by simpa using q1, q2⟩⟩
theorem Ts.nil {H : Hp} : Ts H .nil [] := by rw [Ts]
theorem Ts.cons {H : Hp} {b r : Tr} {v : V} {zs : List V} (h : Tv H b v) (k : Ts H r zs) : Ts H (.cons b r) (v :: zs) := by
  obtain ⟨a, ys, rfl, h1, h2⟩ := h
  rw [Ts]
  exact ⟨a, ys, zs, rfl, h1, h2, k⟩
theorem Ts.append {H : Hp} {t u : Tr} {xs ys : List V} (h : Ts H t xs) (k : Ts H u ys) : Ts H (Tr.of (t.bs ++ u.bs)) (xs ++ ys) := by
  refine Ts.of_all _ _ (by simp [h.len, k.len]) fun i v e => ?_
  by_cases hi : i < xs.length
  · rw [List.getElem?_append_left hi] at e
    rw [List.getElem?_append_left (by rw [← h.len]; exact hi)]
    exact h.get e
  · rw [List.getElem?_append_right (by omega)] at e
    rw [List.getElem?_append_right (by rw [← h.len]; omega), ← h.len]
    exact k.get e
theorem Ts.rev {H : Hp} {t : Tr} {xs : List V} (h : Ts H t xs) : Ts H (Tr.of t.bs.reverse) xs.reverse := by
  have hl := h.len
  refine Ts.of_all _ _ (by simp [hl]) fun i v e => ?_
  have hi : i < xs.length := by
    have := (List.getElem?_eq_some_iff.mp e).1
    simpa using this
  rw [List.getElem?_reverse hi] at e
  rw [List.getElem?_reverse (by omega), ← hl]
  exact h.get e
/-- some of a row, by their places -/
theorem Ts.pick {H : Hp} {t : Tr} {xs : List V} (h : Ts H t xs) (ix : List Nat) (hi : ∀ i ∈ ix, i < xs.length) : Ts H (Tr.of (ix.map fun i => t.bs.getD i .nil)) (ix.map fun i => xs.getD i .non) := by
  refine Ts.of_all _ _ (by simp) fun i v e => ?_
  rw [List.getElem?_map] at e ⊢
  cases q : ix[i]? with
  | none => rw [q] at e; cases e
  | some k =>
    rw [q] at e
    have hk : k < xs.length := hi k (List.mem_of_getElem? q)
    simp only [Option.map_some, Option.some.injEq] at e
    obtain ⟨c, q1, q2⟩ := h.get (i := k) (v := v) (by rw [← e, List.getD_eq_getElem?_getD, List.getElem?_eq_getElem hk]; rfl)
    refine ⟨c, ?_, q2⟩
    simp only [Option.map_some, List.getD_eq_getElem?_getD, q1]
    rfl
section
variable {X : Cx} {pins : List (Addr × Obj)} {σ : St} {H : Hp} {s : Shared}
theorem Ts.vs (I : Inv X pins σ H s) : ∀ {t : Tr} {xs : List V} {us : List Value}, Ts H t xs → Vals xs us → TH.Vs s.heap t us
  | .nil, xs, us, h, r => by
    rw [Ts] at h
    subst h
    cases r
    rw [TH.Vs]
  | .cons b rr, xs, us, h, r => by
    rw [Ts] at h
    obtain ⟨a, ys, zs, rfl, h1, h2, h3⟩ := h
    cases r with
    | cons r1 r2 =>
      cases r1
      obtain ⟨its, rv, p, _⟩ := I.tuple (SqT.of (K := X.K) h1)
      rw [TH.Vs]
      exact ⟨a, its, _, rfl, p, Ts.vs I h2 rv, Ts.vs I h3 r2⟩
theorem Tv.at (I : Inv X pins σ H s) {t : Tr} {v : V} {u : Value} (h : Tv H t v) (r : RelV v u) : ∃ (a : Addr) (its : List Value), u = .ref a ∧ s.heap.IsTuple a its.toArray ∧ TH.Vs s.heap t its := by
  obtain ⟨a, ys, rfl, h1, h2⟩ := h
  cases r
  obtain ⟨its, rv, p, _⟩ := I.tuple (SqT.of (K := X.K) h1)
  exact ⟨a, its, rfl, p, Ts.vs I h2 rv⟩
/-- t > u of trees -/
def rGtTr : R2 := fun x y H Q => ∃ t u, Tv H t x ∧ Tv H u y ∧ t.deep ≤ 60 ∧ Q (.bl (Tr.lt u t)) H
theorem op_gtTr (hu : X.A.units + 64 < cLine) : OpR X (compareOp .Gt) rGtTr := by
  intro pins s σ H x y v u' Q I rx ry h
  obtain ⟨t, u, h1, h2, hd, q⟩ := h
  obtain ⟨a, its, rfl, p1, k1⟩ := h1.at I rx
  obtain ⟨b, its', rfl, p2, k2⟩ := h2.at I ry
  exact TH.rc_gt (t.deep + 1) t u X.A s a b its its' (Nat.lt_succ_self _) p1 k1 p2 k2 (by omega) X.prog X.w X.xe _ ⟨.bl _, H, I, rfl, q⟩
/-- t == u, t != u of trees -/
def rEqTr (neg : Bool) : R2 := fun x y H Q => ∃ t u, Tv H t x ∧ Tv H u y ∧ t.deep ≤ 60 ∧ Q (.bl (if neg then !decide (t = u) else decide (t = u))) H
theorem op_eqTr (hu : X.A.units + 64 < cLine) : OpR X (compareOp .Eq) (rEqTr false) := by
  intro pins s σ H x y v u' Q I rx ry h
  obtain ⟨t, u, h1, h2, hd, q⟩ := h
  obtain ⟨a, its, rfl, p1, k1⟩ := h1.at I rx
  obtain ⟨b, its', rfl, p2, k2⟩ := h2.at I ry
  exact TH.rcEq p1 k1 p2 k2 (by omega) X.prog X.w X.xe _ ⟨.bl _, H, I, rfl, q⟩
end
/-! ### for k, x in enumerate(t), t a tuple -/
def Ite (K : PySem.W.Frag) (a : Addr) : It :=
  ⟨fun i H => ∃ xs x, SqT K H a xs ∧ xs[i]? = some x, fun i H v H' => ∃ p x, v = .ref p ∧ H p = none ∧ H' = upd H p (.tup [.int i, x]) ∧ ∀ xs, SqT K H a xs → xs[i]? = some x, fun i H => ∃ xs, SqT K H a xs ∧ xs.length = i⟩
theorem turn_enum {P : Program} {w : World} {K : PySem.W.Frag} {elts : List Expr} {x1} {pos : Pos} (a e it : Addr) (hne : e ≠ it) :
    Turn P w K (.Tuple elts x1 pos) (Ite K a) [e, it] e (fun i h => (∃ old, IsEnum h e it (i : Nat) old) ∧ h.IsTupleIter it a i) where
  mem := by simp
  obj := fun i h st b hb => by
    rcases List.mem_cons.mp hb with rfl | hb
    · obtain ⟨⟨old, q⟩, _⟩ := st
      exact ⟨_, q, fun v z => by cases z⟩
    · have e2 : b = it := by simpa using hb
      subst e2
      obtain ⟨_, o, q, c, d⟩ := st
      exact ⟨o, q, fun v z => by rw [d] at z; cases z⟩
  keep := fun i h h' st k => by
    obtain ⟨⟨old, q⟩, o, q2, r⟩ := st
    exact ⟨⟨old, k e (by simp) _ q⟩, o, k it (by simp) _ q2, r⟩
  item := by
    intro X hP hw hK hc i pins s σ H E I hf st hg
    subst hP hw hK
    obtain ⟨xs, x, hq, hx⟩ := hg
    obtain ⟨its, rv, p, hz⟩ := I.tuple hq
    obtain ⟨u, hu, ru⟩ := rv.get hx
    obtain ⟨⟨old, he⟩, hit⟩ := st
    have hai : a ≠ it := fun z => by
      obtain ⟨o, e1, c1, _⟩ := p
      obtain ⟨o2, e2, c2, _⟩ := hit
      rw [z, e2] at e1; cases e1
      rw [c1] at c2; exact absurd c2 (by decide)
    have hae : a ≠ e := fun z => by
      obtain ⟨o, e1, c1, _⟩ := p
      rw [z, he] at e1; cases e1
      exact absurd (show Value.type "enumerate" = Value.type "tuple" from c1) (by decide)
    have hlt : i < its.length := (List.getElem?_eq_some_iff.mp hu).1
    have hE0 := hf e (by simp)
    have hI0 := hf it (by simp)
    refine wpAny_pyNext_enum_itemD (ET.draws (prog := X.prog) (w := X.w) (A := X.A.in1) (I.ok.hd hc) it a its hai) he ⟨hit, p⟩ hlt hne (by simp [hne, Ne.symm hae]) fun y h' tk hy ho hs' hT hsz hk => ⟨_, rfl, wpAny_letOwnedTupleGo_enum (s := { s with heap := h', toks := tk + 1 }) ho fun h'' he'' sb => ?_⟩
    have hyu : y = u := by rw [hu] at hy; exact (Option.some.inj hy).symm
    subst hyu
    have keep : ∀ b o, b ≠ e → b ≠ it → s.heap.get? b = some o → h''.get? b = some o := fun b o h1 h2 q => (sb.2 b h1).trans (hk b o h1 h2 q)
    have hTe : s.heap.objs.size ≠ e := Nat.ne_of_gt (Heap.lt_size he)
    have hTi : s.heap.objs.size ≠ it := let ⟨_, q, _⟩ := hit; Nat.ne_of_gt (Heap.lt_size q)
    have hT'' : h''.get? s.heap.objs.size = some { cls := .type "tuple", data := .seq #[.int i tk, y] } := (sb.2 _ hTe).trans hT
    have hTn : H s.heap.objs.size = none := I.hok.fresh (Nat.le_refl _)
    have neT : ∀ b o, s.heap.get? b = some o → b ≠ s.heap.objs.size := fun b o q => Nat.ne_of_lt (Heap.lt_size q)
    have trk : ∀ b o, H b = some o → b ≠ e ∧ b ≠ it := fun b o q => ⟨(fun z => by rw [z, hE0.1] at q; cases q), (fun z => by rw [z, hI0.1] at q; cases q)⟩
    refine ⟨.ref s.heap.objs.size, upd H s.heap.objs.size (.tup [.int i, x]), ?_, rfl, ⟨_, x, rfl, hTn, rfl, fun ys hy => by rw [I.tuple_inj hy hq]; exact hx⟩, ⟨⟨_, by simpa using he''⟩, ?_⟩, fun b hb => ?_⟩
    · show Inv X pins σ _ { s with heap := h'', gens := s.gens, drawn := s.drawn, toks := tk + 1 }
      refine I.step (h' := h'') (g' := s.gens) (d' := s.drawn) (t' := tk + 1) (ch := [e, it]) (fun b hb => ?_) (fun b o _ _ hc q _ => keep b o (fun z => hc (by simp [z])) (fun z => hc (by simp [z])) q) (fun b o _ _ hc q _ => ⟨o.slots, keep b o (fun z => hc (by simp [z])) (fun z => hc (by simp [z])) q⟩)
        (fun b o _ q n => by rw [upd_ne (neT b o q)]; exact n) (fun b o hc q => ⟨o, keep b o (fun z => hc (by simp [z])) (fun z => hc (by simp [z])) q⟩) (fun b ys q => by rw [upd_ne (ne_of_none q hTn)]; exact q) (fun b o u q => by rw [upd_ne (ne_of_none q hTn)]; exact q)
        (fun b ps q => ⟨#[], by rw [upd_ne (ne_of_none q hTn), q]; simp⟩) (fun m hm => ?_) (fun b o q => ?_) I.bare
      · rcases List.mem_cons.mp hb with rfl | hb
        · exact ⟨hE0.2.2.2.1, hE0.2.1, hE0.2.2.2.2.1, hE0.2.2.2.2.2⟩
        · have e2 : b = it := by simpa using hb
          subst e2
          exact ⟨hI0.2.2.2.1, hI0.2.1, hI0.2.2.2.2.1, hI0.2.2.2.2.2⟩
      · obtain ⟨o, es, ep, ho, r⟩ := hm
        exact ⟨o, es, ep, keep _ o (Ne.symm hE0.2.1) (Ne.symm hI0.2.1) ho, r⟩
      · by_cases hb : b = s.heap.objs.size
        · subst hb
          rw [upd_same] at q
          cases q
          exact ⟨sz2, [.int i tk, y], .cons ⟨tk, rfl⟩ (.cons ru .nil), _, hT'', rfl, _, rfl⟩
        · rw [upd_ne hb] at q
          refine (I.hok b o q).stay (fun c v hc r => keep c v ?_ ?_ r) (fun c r => by rw [upd_ne (ne_of_none r hTn)]; exact r) fun c ys r => by rw [upd_ne (ne_of_none r hTn)]; exact r
          · rcases hc with rfl | hc
            · exact (trk _ _ q).1
            · exact (trk _ _ hc).1
          · rcases hc with rfl | hc
            · exact (trk _ _ q).2
            · exact (trk _ _ hc).2
    · obtain ⟨⟨o, q, r⟩, _⟩ := hs'
      exact ⟨o, (sb.2 it (Ne.symm hne)).trans q, r⟩
    · rcases List.mem_cons.mp hb with rfl | hb
      · rw [upd_ne (Ne.symm hTe)]; exact hE0.1
      · have e2 : b = it := by simpa using hb
        subst e2
        rw [upd_ne (Ne.symm hTi)]; exact hI0.1
  done := by
    intro X hP hw hK hc i pins s σ H E I hf st hg
    subst hP hw hK
    obtain ⟨xs, hq, hx⟩ := hg
    obtain ⟨its, rv, p, hz⟩ := I.tuple hq
    obtain ⟨⟨old, he⟩, hit⟩ := st
    have hai : a ≠ it := fun z => by
      obtain ⟨o, e1, c1, _⟩ := p
      obtain ⟨o2, e2, c2, _⟩ := hit
      rw [z, e2] at e1; cases e1
      rw [c1] at c2; exact absurd c2 (by decide)
    have hl : its.length = i := by rw [← rv.length]; exact hx
    subst hl
    obtain ⟨f0, f1, f2, f3, f4, f5⟩ := hf it (by simp)
    exact wpAny_pyNext_enum_endD (ET.draws (prog := X.prog) (w := X.w) (A := X.A.in1) (I.ok.hd hc) it a its hai) he ⟨hit, p⟩ fun h' eb => ⟨rfl, I.turned (t' := s.toks) (fun b o hb q => eb b o hb q) f0 f1 f3 f4 f5⟩
  self := fun _ _ _ _ _ st h => by
    obtain ⟨⟨old, he⟩, _⟩ := st
    exact wpAny_pyIter_enum he h
def iEnum (K : PySem.W.Frag) (ta : TA) : TI := fun σ H R => ta σ H fun vs H1 => ∃ a, vs = [.ref a] ∧ (∃ xs, SqT K H1 a xs) ∧ R (Ite K a) H1
theorem pi_enum {X : Cx} {elts : List Expr} {x1} {tpos : Pos} {a : Expr} {ta : TA} {p pos : Pos} (hg : Gl X "enumerate") (hm : X.mg "enumerate" = none) (ha : PA X [a] ta) (hs : starEach [a] X.env = [(false, eval a X.env)] := by rfl) :
    PI X (.Tuple elts x1 tpos) (.Call (.Name "enumerate" p) [a] [] pos) (iEnum X.K ta) := by
  intro pins s σ H R I h
  refine Call_ (ld_blt I hg hm boot_enumerate (PyProof.Rows.callWith_type1 (thn (ha pos pins s σ H _ I h) fun us s1 ⟨vs, H1, I1, r1, q1⟩ => ?_) hs rfl))
  obtain ⟨t, e, ⟨xs, hq⟩, q⟩ := q1
  subst e
  cases r1 with
  | cons r rr =>
    cases rr
    cases r
    obtain ⟨its, rv, p', hz⟩ := I1.tuple hq
    refine ET.call_enum (show s1.heap.IsTuple t its.toArray from p') fun h' he hit hsz hk => wpAny_pyIter_enum he ?_
    have I2 : Inv X pins σ H1 { s1 with heap := h' } := I1.kept (t' := s1.toks) hk
    have hn : s1.heap.objs.size + 1 ≠ s1.heap.objs.size := by omega
    refine ⟨s1.heap.objs.size + 1, [s1.heap.objs.size + 1, s1.heap.objs.size], _, _, H1, rfl, I2, turn_enum t _ _ hn, ⟨⟨_, he⟩, hit⟩, fun b hb => ?_, q⟩
    have hb' : s1.heap.objs.size ≤ b := by
      have hb2 : b = s1.heap.objs.size + 1 ∨ b = s1.heap.objs.size := by simpa using hb
      rcases hb2 with z | z
      · rw [z]; exact Nat.le_succ _
      · rw [z]; exact Nat.le_refl _
    exact I1.fpOk hb' (I1.hok.fresh hb')
/-- over a tuple that stays, with its places -/
theorem for_enum {K : PySem.W.Frag} {a : Addr} {xs : List V} {g : TG} {tb : TS} {D : Ends} {σ : St} {H : Hp} (Pv : Nat → St → Hp → Prop) (h0 : Pv 0 σ H) (hl : ∀ i σ H, i ≤ xs.length → Pv i σ H → SqT K H a xs)
    (hs : ∀ i x σ H, xs[i]? = some x → Pv i σ H → ∀ p, H p = none → g (.ref p) σ (upd H p (.tup [.int (i : Nat), x])) fun σ2 H2 => tb { D with nx := Pv (i + 1), ct := Pv (i + 1), bk := D.nx } σ2 H2) (hd : ∀ σ H, Pv xs.length σ H → D.nx σ H) :
    ∃ W : Nat → Nat → St → Hp → Prop, (∃ m, W 0 m σ H) ∧ ∀ i m σ H, W i m σ H →
      ((Ite K a).stop i H ∧ D.nx σ H) ∨ ((Ite K a).go i H ∧ ∃ N : St → Hp → Prop, (∀ σ' H', N σ' H' → ∃ m', m' < m ∧ W (i + 1) m' σ' H') ∧ ∀ x H', (Ite K a).yld i H x H' → g x σ H' fun σ2 H2 => tb { D with nx := N, ct := N, bk := D.nx } σ2 H2) := by
  refine ⟨fun i m σ H => m = xs.length - i ∧ i ≤ xs.length ∧ Pv i σ H, ⟨xs.length, by simp, Nat.zero_le _, h0⟩, ?_⟩
  rintro i m σ H ⟨rfl, hi, p⟩
  have q := hl i σ H hi p
  by_cases hlt : i < xs.length
  · refine .inr ⟨⟨xs, xs[i], q, by simp [hlt]⟩, Pv (i + 1), fun σ' H' p' => ⟨xs.length - (i + 1), by omega, rfl, hlt, p'⟩, fun x H' y => ?_⟩
    obtain ⟨pp, x', rfl, hn, rfl, y⟩ := y
    exact hs i x' σ _ (y xs q) p pp hn
  · have e : i = xs.length := by omega
    subst e
    exact .inl ⟨⟨xs, q, rfl⟩, hd σ H p⟩
end L2

set_option Elab.async false
set_option linter.all false
set_option maxRecDepth 100000
set_option maxHeartbeats 4000000
namespace L2
open PySem PySem.Spec PyProof.Rows
theorem Vals.pick {xs : List V} {us : List Value} (r : Vals xs us) : ∀ ix : List Nat, (∀ i ∈ ix, i < xs.length) → Vals (ix.map fun i => xs.getD i .non) (ix.map fun i => us.getD i Value.none)
  | [], _ => .nil
  | i :: ix, h => by
    refine .cons ?_ (Vals.pick r ix fun k hk => h k (List.mem_cons_of_mem _ hk))
    have hi := h i List.mem_cons_self
    obtain ⟨u, h1, h2⟩ := r.get (i := i) (x := xs[i]) (by simp [hi])
    show RelV (xs.getD i .non) (us.getD i Value.none)
    rw [List.getD_eq_getElem?_getD, List.getD_eq_getElem?_getD, h1, List.getElem?_eq_getElem hi]
    exact h2
section
variable {X : Cx}
/-- sorted(xs) of trees -/
def rSort (K : PySem.W.Frag) : List V → Hp → VK → Prop := fun xs H Q => ∃ (p : Addr) (ys : List V) (t : Tr), xs = [.ref p] ∧ (SqL K H p ys ∨ SqT K H p ys) ∧ Ts H t ys ∧ ys.length < 64 ∧ t.deep ≤ 60 ∧
  ∀ (l : Addr) (zs : List V), H l = none → Ts H (Tr.of (Tr.srt t.bs).reverse) zs → Q (.ref l) (upd H l (.lst zs))
/-- sorted(xs, reverse=True) -/
def rSortR (K : PySem.W.Frag) : List V → Hp → VK → Prop := fun xs H Q => ∃ (p : Addr) (ys : List V) (t : Tr), xs = [.ref p] ∧ (SqL K H p ys ∨ SqT K H p ys) ∧ Ts H t ys ∧ ys.length < 64 ∧ t.deep ≤ 60 ∧
  ∀ (l : Addr) (zs : List V), H l = none → Ts H (Tr.of (Tr.srt t.bs)) zs → Q (.ref l) (upd H l (.lst zs))
theorem sort_fin {pins : List (Addr × Obj)} {σ : St} {H : Hp} {s : Shared} {Q : VK} {t : Tr} {ts : List Tr} {ys : List V} {its : List Value} {h' : Heap} {ix : List Nat} {e1 : Nat} (I : Inv X pins σ H s) (ht : Ts H t ys) (rv : Vals ys its) (h64 : ys.length < 64)
    (a1 : ix.length = its.length) (a2 : ∀ i ∈ ix, i < its.length) (a3 : (ix.map fun i => t.bs.getD i .nil) = ts) (keep : ∀ c o, s.heap.get? c = some o → h'.get? c = some o)
    (hD : h'.get? (s.heap.objs.size + 1) = some (seqObj "list" (ix.map fun i => its.getD i Value.none).toArray e1)) (q : ∀ (l : Addr) (zs : List V), H l = none → Ts H (Tr.of ts) zs → Q (.ref l) (upd H l (.lst zs))) :
    EP X pins σ Q (.ref (s.heap.objs.size + 1)) { s with heap := h' } := by
  have hl := rv.length
  have a2' : ∀ i ∈ ix, i < ys.length := fun i hi => by rw [hl]; exact a2 i hi
  refine ⟨.ref (s.heap.objs.size + 1), upd H (s.heap.objs.size + 1) (.lst (ix.map fun i => ys.getD i .non)), I.laid (t' := s.toks) keep (Nat.le_succ _) ⟨?_, _, e1, rv.pick ix a2', hD⟩, rfl, q _ _ (I.hok.fresh (Nat.le_succ _)) ?_⟩
  · rw [List.length_map, a1, ← hl]
    exact Nat.le_of_lt (Nat.lt_of_lt_of_le h64 (by rw [sizeLine_eq]; decide))
  · rw [← a3]
    exact ht.pick ix a2'
theorem call_sort (hu : X.A.units + 64 < cLine) : CallR X (.builtin "sorted") (rSort X.K) := by
  intro pins s σ H xs us Q I r h
  obtain ⟨p, ys, t, rfl, hq, ht, h64, hd, q⟩ := h
  obtain ⟨u, rfl, r1⟩ := r.one
  cases r1
  rcases hq with hq | hq
  · obtain ⟨its, rv, pl, hz⟩ := I.list hq
    have hl := rv.length
    exact TH.sorted_list pl.isList (ht.vs I rv) (by omega) (by omega) fun h' ix e1 a1 a2 a3 keep hD => sort_fin I ht rv h64 a1 a2 a3 keep hD q
  · obtain ⟨its, rv, pl, hz⟩ := I.tuple hq
    have hl := rv.length
    exact TH.sorted_tup (show s.heap.IsTuple p its.toArray from pl) (ht.vs I rv) (by omega) (by omega) fun h' ix e1 a1 a2 a3 keep hD => sort_fin I ht rv h64 a1 a2 a3 keep hD q
theorem pe_sortR {e : Expr} {t : TA} {p pos kp kp2 : Pos} {j} (hu : X.A.units + 64 < cLine) (hg : Gl X "sorted") (hm : X.mg "sorted" = none) (ha : PA X [e] t)
    (he : backTo pos (starEach [e] X.env) = (false, eval e X.env) :: backTo pos (starEach [] X.env) := by rfl) (hplain : (backTo pos (starEach [e] X.env)).any (·.1) = false := by rfl) :
    PE X (.Call (.Name "sorted" p) [e] [⟨some "reverse", .Constant (.bool true) j kp2, kp⟩] pos) (fun σ H Q => t σ H fun vs H1 => rSortR X.K vs H1 Q) := by
  intro pins s σ H Q I h
  refine wpAny_Call_Name_kw (ld_blt I hg hm boot_sorted ?_ (by decide) (by decide))
  refine callWith_kw (thn (ha pos pins s σ H _ I h) fun us s1 ⟨vs, H1, I1, r1, q1⟩ => kws_cons (Constant_bool (kws_nil ?_))) he hplain
  obtain ⟨p, ys, t, rfl, hq, ht, h64, hd, q⟩ := q1
  obtain ⟨u, rfl, r2⟩ := r1.one
  cases r2
  rcases hq with hq | hq
  · obtain ⟨its, rv, pl, hz⟩ := I1.list hq
    have hl := rv.length
    exact TH.sorted_listR (b := true) pl.isList (ht.vs I1 rv) (by omega) (by omega) fun h' ix e1 a1 a2 a3 keep hD => sort_fin I1 ht rv h64 a1 a2 a3 keep hD q
  · obtain ⟨its, rv, pl, hz⟩ := I1.tuple hq
    have hl := rv.length
    exact TH.sorted_tupR (b := true) (show s1.heap.IsTuple p its.toArray from pl) (ht.vs I1 rv) (by omega) (by omega) fun h' ix e1 a1 a2 a3 keep hD => sort_fin I1 ht rv h64 a1 a2 a3 keep hD q
/-- xs[::-1] of a list -/
theorem pe_rev {e k : Expr} {te tk : TE} {pos p2 : Pos} (he : PE X e te) (hk : PE X k tk) : PE X (.Subscript e (.Slice none none (some k) p2) pos)
    (fun σ H Q => te σ H fun x H1 => tk σ H1 fun z H2 => ∃ (a : Addr) (xs : List V), x = .ref a ∧ z = .int (-1) ∧ SqL X.K H2 a xs ∧ ∀ p, H2 p = none → Q (.ref p) (upd H2 p (.lst xs.reverse))) := by
  intro pins s σ H Q I h
  refine Subscript_ (thn (he pins s σ H _ I h) fun v s1 ⟨x, H1, I1, r1, q1⟩ => ?_)
  refine wpAny_Slice ?_
  rw [evalPart_none]
  refine wpAny_pure ?_
  refine wpAny_pure ?_
  rw [evalPart_some]
  refine thn (hk pins s1 σ H1 _ I1 q1) fun vk s3 ⟨z, H3, I3, r3, q3⟩ => ?_
  obtain ⟨a, xs, rfl, rfl, hq, q⟩ := q3
  cases r1
  obtain ⟨tk', rfl⟩ := r3
  have I4 : Inv X pins σ H3 { s3 with heap := s3.heap.push { cls := .type "slice", data := .fields #[.none, .none, .int (-1) tk'] } } := I3.kept (t' := s3.toks) fun b ob q => Heap.get?_push_of_some _ q
  obtain ⟨its, rv, pl, hz⟩ := I4.list hq
  have hlen := rv.length
  show wpAny (model X.prog X.w) X.A (subscriptTail e (.Slice none none (some k) p2) (.ref a) (.ref s3.heap.objs.size)) (EP X pins σ Q) X.xe { s3 with heap := s3.heap.push { cls := .type "slice", data := .fields #[.none, .none, .int (-1) tk'] } }
  refine tail_any (ops := [.ref a, .ref s3.heap.objs.size]) (T := "list") pl.isList.typeIs slot_list_getitem.lookup ?_ (by with_unfolding_all rfl)
  refine wpAny_getItem_list_slice pl.isList (Heap.IsSliceOf.new ..) .none .none (.int (-1) tk') (by decide) ?_ (by rw [List.size_toArray] <;> omega)
  rw [PySem.W.krv_pick]
  refine ⟨.ref _, _, I4.laid (t' := s3.toks) (o := .lst xs.reverse) (fun b ob q => Heap.get?_push_of_some _ q) (Nat.le_refl _) ?_, rfl, q _ (I4.hok.fresh (Nat.le_refl _))⟩
  exact ⟨by rw [List.length_reverse]; exact hz, its.reverse, 0, rv.reverse, Heap.get?_push_size _ rfl⟩
end
end L2

set_option Elab.async false
set_option linter.all false
set_option maxRecDepth 100000
set_option maxHeartbeats 4000000
namespace L2
open PySem PySem.Spec PyProof.Rows
/-! ### a comprehension by its invariant -/
def CW (Pv : Nat → List V → Hp → Prop) (n : Nat) (D : Addr) : Nat → Nat → List V → Hp → Prop := fun i m ys H => m = n - i ∧ i ≤ n ∧ H D = some (.lst ys) ∧ Pv i ys H
theorem cw_next {Pv : Nat → List V → Hp → Prop} {n i : Nat} {D : Addr} {ys : List V} {y : V} {H : Hp} (hi : i < n) (p : Pv (i + 1) (ys ++ [y]) (upd H D (.lst (ys ++ [y])))) : ∃ m', m' < n - i ∧ CW Pv n D (i + 1) m' (ys ++ [y]) (upd H D (.lst (ys ++ [y]))) :=
  ⟨n - (i + 1), by omega, rfl, hi, upd_same, p⟩
theorem cw_skip {Pv : Nat → List V → Hp → Prop} {n i : Nat} {D : Addr} {ys : List V} {H : Hp} (hi : i < n) (hD : H D = some (.lst ys)) (p : Pv (i + 1) ys H) : ∃ m', m' < n - i ∧ CW Pv n D (i + 1) m' ys H := ⟨n - (i + 1), by omega, rfl, hi, hD, p⟩
theorem comp_by {J : It} {n : Nat} {D : Addr} {H1 : Hp} {fr : List (Option Nat)} {σ : St} {ix : Nat} {tif : TT} {te : TE} {G : Hp → Prop} (Pv : Nat → List V → Hp → Prop) (h0 : Pv 0 [] (upd H1 D (.lst [])))
    (hgo : ∀ i ys H, i < n → Pv i ys H → H D = some (.lst ys) → J.go i H ∧ ys.length < sizeLine ∧ ∀ x H', J.yld i H x H' →
      tif ((carry fr σ).set ix (some x)) H' fun b H2 => if b = true then te ((carry fr σ).set ix (some x)) H2 fun y H3 => H3 D = some (.lst ys) ∧ ∃ m', m' < n - i ∧ CW Pv n D (i + 1) m' (ys ++ [y]) (upd H3 D (.lst (ys ++ [y])))
        else ∃ m', m' < n - i ∧ CW Pv n D (i + 1) m' ys H2)
    (hstop : ∀ ys H, Pv n ys H → H D = some (.lst ys) → J.stop n H ∧ G H) :
    ∃ W : Nat → Nat → List V → Hp → Prop, (∃ m, W 0 m [] (upd H1 D (.lst []))) ∧
      ∀ i m ys H, W i m ys H → H D = some (.lst ys) ∧ ((J.stop i H ∧ G H) ∨ (J.go i H ∧ ys.length < sizeLine ∧ ∀ x H', J.yld i H x H' →
        tif ((carry fr σ).set ix (some x)) H' fun b H2 => if b = true then te ((carry fr σ).set ix (some x)) H2 fun y H3 => H3 D = some (.lst ys) ∧ ∃ m', m' < m ∧ W (i + 1) m' (ys ++ [y]) (upd H3 D (.lst (ys ++ [y])))
          else ∃ m', m' < m ∧ W (i + 1) m' ys H2)) := by
  refine ⟨CW Pv n D, ⟨n, by simp, Nat.zero_le _, upd_same, h0⟩, ?_⟩
  rintro i m ys H ⟨rfl, hi, hH, p⟩
  refine ⟨hH, ?_⟩
  by_cases hlt : i < n
  · exact .inr (hgo i ys H hlt p hH)
  · have e : i = n := by omega
    subst e
    exact .inl (hstop ys H p hH)
section
variable {X : Cx}
/-- all(bs) of a list of truths -/
theorem call_all (hc : X.calm = true) : CallR X (.builtin "all") (fun xs H Q => ∃ (p : Addr) (bs : List Bool), xs = [.ref p] ∧ SqL X.K H p (bs.map V.bl) ∧ Q (.bl (bs.all id)) H) := by
  intro pins s σ H xs us Q I r h
  obtain ⟨p, bs, rfl, hq, q⟩ := h
  obtain ⟨u, rfl, r1⟩ := r.one
  cases r1
  obtain ⟨its, rv, pl, hz⟩ := I.list hq
  have hl : s.heap.IsList p its.toArray := pl.isList
  have hlt : p < s.heap.objs.size := by obtain ⟨_, e, _⟩ := hl; exact Heap.lt_size e
  have hlen : its.length = bs.length := by rw [← rv.length, List.length_map]
  refine call_all_walk (wpAny_pyIter_list hl ?_)
  refine ⟨s.heap.objs.size, [s.heap.objs.size, p], [s.heap.objs.size], its.toArray.size, _, _, fun i => (bs[i]?).getD true, rfl, Walks.list (A := X.A.in1) (I.ok.hd hc) _ p (Nat.ne_of_lt hlt) its.toArray,
    ⟨⟨_, Heap.get?_push_size _ rfl, rfl, rfl⟩, hl.push _⟩, fun i v s' Q' E' hP hQ => ?_, fun h' tk hk => ?_⟩
  · have hv : its[i]? = some v := by simpa using hP
    have hi : i < bs.length := by rw [← hlen]; exact (List.getElem?_eq_some_iff.mp hv).1
    obtain ⟨u, h1, h2⟩ := rv.get (i := i) (x := .bl bs[i]) (by rw [List.getElem?_map, List.getElem?_eq_getElem hi]; rfl)
    rw [hv] at h1
    cases h1
    cases h2
    simp only [List.getElem?_eq_getElem hi, Option.getD_some] at hQ
    exact wpAny_truthy_bool hQ
  · have e : ((List.range its.toArray.size).all fun i => (bs[i]?).getD true) = bs.all id := by
      rw [List.size_toArray, hlen]; exact PyProof.Rows.LSm.range_all bs
    rw [e]
    exact ⟨.bl _, H, I.kept (t' := tk) (PyProof.Rows.LSm.kept_iter hk), rfl, q⟩
/-- sum(ns) of a list of ints -/
theorem call_sum (hc : X.calm = true) : CallR X (.builtin "sum") (fun xs H Q => ∃ (p : Addr) (ns : List Int), xs = [.ref p] ∧ SqL X.K H p (ns.map V.int) ∧ Q (.int ns.sum) H) := by
  intro pins s σ H xs us Q I r h
  obtain ⟨p, ns, rfl, hq, q⟩ := h
  obtain ⟨u, rfl, r1⟩ := r.one
  cases r1
  obtain ⟨its, rv, pl, hz⟩ := I.list hq
  have hi := intsAre_of rv
  obtain ⟨xs, hx⟩ := hi.allInts.items
  have hl' : s.heap.IsList p (intItems xs) := hx ▸ pl.isList
  refine sum_intListG (I.ok.hd hc) hl' fun h' tk t' hk => ?_
  have e1 : ns = xs.toList.map (·.1) := by
    rw [← nums_intItems, ← hx]
    exact (show numsOf its.toArray.toList = ns from hi.numsOf).symm
  have e2 : preSum (numAt xs) xs.size = ns.sum := by
    rw [preSum_eq, List.take_of_length_le (by simp), e1]
  rw [e2]
  exact ⟨.int _, H, I.kept (t' := tk) hk, ⟨t', rfl⟩, q⟩
end
/-! ### range(lo, hi, -1) -/
def ItrB (lo : Int) (n : Nat) : It := ⟨fun i _ => i < n, fun i H x H' => H' = H ∧ x = .int (lo - i), fun i _ => n ≤ i⟩
theorem turn_rangeB {P : Program} {w : World} {K : PySem.W.Frag} {tg : Expr} (it : Addr) (lo : Int) (n : Nat) : Turn P w K tg (ItrB lo n) [it] it (fun i h => IsRangeIter h it (lo + (i : Nat) * (-1)) ((n : Int) - (i : Nat)) (-1)) where
  mem := by simp
  obj := fun i h st b hb => by
    have e : b = it := by simpa using hb
    subst e
    exact ⟨_, st, fun v z => by
      have z' : Data.fields _ = Data.cell v := z
      cases z'⟩
  keep := fun i h h' st k => k it (by simp) _ st
  item := by
    intro X hP hw hK hc i pins s σ H E I hf st hg
    subst hP hw hK
    obtain ⟨f0, f1, f2, f3, f4, f5⟩ := hf it (by simp)
    have W := Walks.range (prog := X.prog) (w := X.w) (I.ok.hd hc) it lo (-1) n
    refine W.item i s _ _ hg st fun v h' tk hv st' kk => ?_
    obtain ⟨t, rfl⟩ := hv
    have I1 : Inv X pins σ H { s with heap := h', toks := tk } := I.turned (fun b o hb e => kk b o (by simpa using hb) e) f0 f1 f3 f4 f5
    refine ⟨_, rfl, go_of (s := { s with heap := h', toks := tk }) (n := "range_iterator") st' rfl rfl (by decide) ⟨.int (lo - i), H, I1, ⟨t, ?_⟩, ⟨rfl, rfl⟩, st', fun b hb => (hf b hb).1⟩⟩
    rw [Int.mul_neg, Int.mul_one, Int.sub_eq_add_neg]
  done := by
    intro X hP hw hK hc i pins s σ H E I hf st hg
    subst hP hw hK
    obtain ⟨f0, f1, f2, f3, f4, f5⟩ := hf it (by simp)
    exact wpAny_pyNext_range_end (I.ok.hd hc) st (by have : n ≤ i := hg; omega) fun h' eb => ⟨rfl, I.turned (t' := s.toks) (fun b o hb e => eb b o hb e) f0 f1 f3 f4 f5⟩
  self := fun _ _ _ _ _ st h => wpAny_pyIter_rangeiter st h
theorem size_back (a b : Int) : Builtin.Range.rangeSize a b (-1) = if b < a then a - b else 0 := by
  unfold Builtin.Range.rangeSize
  simp only [show ¬ ((-1 : Int) > 0) by decide, if_false, show (- -1 : Int) = 1 by decide, Int.ediv_one]
  split <;> omega
def iRngB (ta : TA) : TI := fun σ H R => ta σ H fun vs H1 => ∃ i j : Int, vs = [.int i, .int j, .int (-1)] ∧ (-(2 ^ 62) ≤ i ∧ i < 2 ^ 62 ∧ -(2 ^ 62) ≤ j ∧ j < 2 ^ 62) ∧ R (ItrB i (i - j).toNat) H1
theorem pi_range3 {X : Cx} {tg a b c : Expr} {ta : TA} {p pos : Pos} (hg : Gl X "range") (hm : X.mg "range" = none) (ha : PA X [a, b, c] ta) (hs : starEach [a, b, c] X.env = (false, eval a X.env) :: starEach [b, c] X.env := by rfl)
    (hs2 : (backTo pos (starEach [b, c] X.env)).any (·.1) = false := by rfl) : PI X tg (.Call (.Name "range" p) [a, b, c] [] pos) (iRngB ta) := by
  intro pins s σ H R I h
  refine Call_ (ld_blt I hg hm boot_range (PyProof.Rows.callWith_type1 (thn (ha pos pins s σ H _ I h) fun us s1 ⟨vs, H1, I1, r1, q1⟩ => ?_) hs hs2))
  obtain ⟨i, j, e, ⟨q1, q2, q3, q4⟩, q⟩ := q1
  subst e
  cases r1 with
  | cons r rr =>
    cases rr with
    | cons r' rr =>
      cases rr with
      | cons r'' rr =>
        cases rr
        obtain ⟨t, rfl⟩ := r
        obtain ⟨t', rfl⟩ := r'
        obtain ⟨t'', rfl⟩ := r''
        refine call_range_3 (by decide) ?_ (Or.inl (PyProof.noPylong_small (by decide)))
        have hsm : Builtin.Range.small i j (-1) = true := by
          unfold Builtin.Range.small
          rw [size_back]
          simp only [Builtin.Range.rangeFitsLong, Bool.and_eq_true, Bool.or_eq_true, decide_eq_true_eq, beq_iff_eq, show ¬ ((-1 : Int) > 0) by decide, if_false]
          split <;> omega
        refine wpAny_pyIter_range (IsRange.new ..) hsm ?_
        have I2 : Inv X pins σ H1 { s1 with heap := s1.heap.push { cls := .type "range", data := .fields #[.int i t, .int j t', .int (-1) t''] }, toks := s1.toks } := I1.kept fun b o e => Heap.get?_push_of_some _ e
        refine ⟨(s1.heap.push { cls := .type "range", data := .fields #[.int i t, .int j t', .int (-1) t''] }).objs.size, [(s1.heap.push { cls := .type "range", data := .fields #[.int i t, .int j t', .int (-1) t''] }).objs.size], _, _, H1, rfl,
          I2.kept (t' := s1.toks) fun b o e => Heap.get?_push_of_some _ e, turn_rangeB _ i (i - j).toNat, ?_, fun b hb => ?_, q⟩
        · have e1 : i + ((0 : Nat) : Int) * (-1) = i := by simp
          have e2 : (((i - j).toNat : Nat) : Int) - ((0 : Nat) : Int) = Builtin.Range.rangeSize i j (-1) := by rw [size_back]; split <;> omega
          show IsRangeIter _ _ (i + ((0 : Nat) : Int) * (-1)) ((((i - j).toNat : Nat) : Int) - ((0 : Nat) : Int)) (-1)
          rw [e1, e2]
          exact Heap.get?_push_size _ rfl
        · have e : b = (s1.heap.push { cls := .type "range", data := .fields #[.int i t, .int j t', .int (-1) t''] }).objs.size := by simpa using hb
          subst e
          exact I2.fpOk (Nat.le_refl _) (I2.hok.fresh (Nat.le_refl _))
theorem for_rangeB {lo : Int} {n : Nat} {g : TG} {tb : TS} {D : Ends} {σ : St} {H : Hp} (Pv : Nat → St → Hp → Prop) (h0 : Pv 0 σ H)
    (hs : ∀ i σ H, i < n → Pv i σ H → g (.int (lo - i)) σ H fun σ2 H2 => tb { D with nx := Pv (i + 1), ct := Pv (i + 1), bk := D.nx } σ2 H2) (hd : ∀ σ H, Pv n σ H → D.nx σ H) :
    ∃ W : Nat → Nat → St → Hp → Prop, (∃ m, W 0 m σ H) ∧ ∀ i m σ H, W i m σ H →
      ((ItrB lo n).stop i H ∧ D.nx σ H) ∨ ((ItrB lo n).go i H ∧ ∃ N : St → Hp → Prop, (∀ σ' H', N σ' H' → ∃ m', m' < m ∧ W (i + 1) m' σ' H') ∧ ∀ x H', (ItrB lo n).yld i H x H' → g x σ H' fun σ2 H2 => tb { D with nx := N, ct := N, bk := D.nx } σ2 H2) := by
  refine ⟨fun i m σ H => m = n - i ∧ i ≤ n ∧ Pv i σ H, ⟨n, by simp, Nat.zero_le _, h0⟩, ?_⟩
  rintro i m σ H ⟨rfl, hi, p⟩
  by_cases hlt : i < n
  · refine .inr ⟨hlt, Pv (i + 1), fun σ' H' p' => ⟨n - (i + 1), by omega, rfl, hlt, p'⟩, fun x H' y => ?_⟩
    obtain ⟨e, y⟩ := y
    subst e y
    exact hs i σ _ hlt p
  · have e : i = n := by omega
    subst e
    exact .inl ⟨Nat.le_refl _, hd σ H p⟩
end L2

set_option Elab.async false
set_option linter.all false
set_option maxRecDepth 100000
set_option maxHeartbeats 4000000
namespace L2
open PySem PySem.Spec PyProof.Rows
/-! ### within a comprehension's block the text's part is the one around it -/
section
variable {X : Cx} {scope : Scope} {cl : List (Str × Addr)} {N : List Str} {C : Addr} {s₀ : Shared} {H₀ : Hp} {fp : List Addr}
theorem ix_listC : IxR (cxComp X scope cl N C s₀ H₀ fp) (rIxL X.K) := ix_list
theorem ix_tupC : IxR (cxComp X scope cl N C s₀ H₀ fp) (rIxT X.K) := ix_tup
theorem sl_listC : SlR (cxComp X scope cl N C s₀ H₀ fp) (rSlL X.K) := sl_list
theorem sl_tupC : SlR (cxComp X scope cl N C s₀ H₀ fp) (rSlT X.K) := sl_tup
theorem call_len_seqC : CallR (cxComp X scope cl N C s₀ H₀ fp) (.builtin "len") (fun xs H Q => ∃ p ys, xs = [.ref p] ∧ (SqL X.K H p ys ∨ SqT X.K H p ys) ∧ Q (.int ys.length) H) := call_len_seq
theorem call_isiC : CallR (cxComp X scope cl N C s₀ H₀ fp) (.builtin "isinstance") (rIsi X.K) := call_isi
theorem call_isiEC : CallR (cxComp X scope cl N C s₀ H₀ fp) (.builtin "isinstance") (rIsiE X.K) := call_isiE
theorem op_eqDC (hu : X.A.units + 64 < cLine) : OpR (cxComp X scope cl N C s₀ H₀ fp) (compareOp .Eq) (rEqD X.K false) := op_eqD hu
theorem op_neDC (hu : X.A.units + 64 < cLine) : OpR (cxComp X scope cl N C s₀ H₀ fp) (compareOp .NotEq) (rEqD X.K true) := op_neD hu
theorem call_tuple_ofC : CallR (cxComp X scope cl N C s₀ H₀ fp) (.type "tuple") (fun xs H Q => ∃ p ys, xs = [.ref p] ∧ ((SqL X.K H p ys ∧ ∀ l, H l = none → Q (.ref l) (upd H l (.tup ys))) ∨ (SqT X.K H p ys ∧ Q (.ref p) H))) := call_tuple_of
theorem op_catTC : OpR (cxComp X scope cl N C s₀ H₀ fp) (binaryOp .Add) (rCatT X.K) := op_catT
end
end L2

set_option Elab.async false
set_option linter.all false
set_option maxRecDepth 100000
set_option maxHeartbeats 4000000
namespace L2
open PySem PySem.Spec PyProof.Rows
/-! ### things: data that is tracked, none of it at l -/
mutual
def Dt (l : Addr) (H : Hp) : PyData → V → Prop
  | .none, v => v = .non
  | .bool b, v => v = .bl b
  | .int i, v => v = .int i
  | .str x, v => v = .str x
  | .tuple ds, v => ∃ (a : Addr) (xs : List V), v = .ref a ∧ a ≠ l ∧ H a = some (.tup xs) ∧ DtAll l H ds xs
  | .list ds, v => ∃ (a : Addr) (xs : List V), v = .ref a ∧ a ≠ l ∧ H a = some (.lst xs) ∧ DtAll l H ds xs
  | .dict _, _ => False
def DtAll (l : Addr) (H : Hp) : List PyData → List V → Prop
  | [], xs => xs = []
  | d :: ds, xs => ∃ x r, xs = x :: r ∧ Dt l H d x ∧ DtAll l H ds r
end
mutual
theorem Dt.but {l : Addr} {H H' : Hp} (e : SameBut l H H') : ∀ {d : PyData} {v : V}, Dt l H d v → Dt l H' d v
  | .none, _, h => by rw [Dt] at h ⊢; exact h
  | .bool _, _, h => by rw [Dt] at h ⊢; exact h
  | .int _, _, h => by rw [Dt] at h ⊢; exact h
  | .str _, _, h => by rw [Dt] at h ⊢; exact h
  | .tuple _, _, h => by
    rw [Dt] at h ⊢
    obtain ⟨a, xs, e1, n, h1, h2⟩ := h
    exact ⟨a, xs, e1, n, e _ _ n h1, DtAll.but e h2⟩
  | .list _, _, h => by
    rw [Dt] at h ⊢
    obtain ⟨a, xs, e1, n, h1, h2⟩ := h
    exact ⟨a, xs, e1, n, e _ _ n h1, DtAll.but e h2⟩
  | .dict _, _, h => by rw [Dt] at h; exact h.elim
theorem DtAll.but {l : Addr} {H H' : Hp} (e : SameBut l H H') : ∀ {ds : List PyData} {xs : List V}, DtAll l H ds xs → DtAll l H' ds xs
  | [], _, h => by rw [DtAll] at h ⊢; exact h
  | _ :: _, _, h => by
    rw [DtAll] at h ⊢
    obtain ⟨x, r, e1, h1, h2⟩ := h
    exact ⟨x, r, e1, Dt.but e h1, DtAll.but e h2⟩
end
theorem Dt.same {l : Addr} {H H' : Hp} {d : PyData} {v : V} (h : Dt l H d v) (e : Same H H') : Dt l H' d v := Dt.but (.of e) h
theorem DtAll.same {l : Addr} {H H' : Hp} {d : List PyData} {v : List V} (h : DtAll l H d v) (e : Same H H') : DtAll l H' d v := DtAll.but (.of e) h
mutual
theorem Dt.br {K : PySem.W.Frag} {l : Addr} {H : Hp} : ∀ {d : PyData} {v : V}, Dt l H d v → Br K H d v
  | .none, _, h => by rw [Dt] at h; rw [Br]; exact h
  | .bool _, _, h => by rw [Dt] at h; rw [Br]; exact h
  | .int _, _, h => by rw [Dt] at h; rw [Br]; exact h
  | .str _, _, h => by rw [Dt] at h; rw [Br]; exact h
  | .tuple _, _, h => by
    rw [Dt] at h; rw [Br]
    obtain ⟨a, xs, e1, n, h1, h2⟩ := h
    exact ⟨a, xs, e1, SqT.of h1, DtAll.br h2⟩
  | .list _, _, h => by
    rw [Dt] at h; rw [Br]
    obtain ⟨a, xs, e1, n, h1, h2⟩ := h
    exact ⟨a, xs, e1, SqL.of h1, DtAll.br h2⟩
  | .dict _, _, h => by rw [Dt] at h; exact h.elim
theorem DtAll.br {K : PySem.W.Frag} {l : Addr} {H : Hp} : ∀ {ds : List PyData} {xs : List V}, DtAll l H ds xs → BrAll K H ds xs
  | [], _, h => by rw [DtAll] at h; rw [BrAll]; exact h
  | _ :: _, _, h => by
    rw [DtAll] at h; rw [BrAll]
    obtain ⟨x, r, e1, h1, h2⟩ := h
    exact ⟨x, r, e1, Dt.br h1, DtAll.br h2⟩
end
theorem DtAll.len {l : Addr} {H : Hp} : ∀ {ds : List PyData} {xs : List V}, DtAll l H ds xs → xs.length = ds.length
  | [], _, h => by rw [DtAll] at h; rw [h]; rfl
  | _ :: _, _, h => by
    rw [DtAll] at h
    obtain ⟨x, r, rfl, _, h2⟩ := h
    rw [List.length_cons, List.length_cons, DtAll.len h2]
theorem DtAll.get {l : Addr} {H : Hp} : ∀ {ds : List PyData} {xs : List V} {i : Nat} {v : V}, DtAll l H ds xs → xs[i]? = some v → ∃ d, ds[i]? = some d ∧ Dt l H d v
  | [], _, i, v, h, e => by rw [DtAll] at h; subst h; simp at e
  | d :: ds, _, i, v, h, e => by
    rw [DtAll] at h
    obtain ⟨x, r, rfl, h1, h2⟩ := h
    cases i with
    | zero => simp at e; subst e; exact ⟨d, rfl, h1⟩
    | succ i =>
      obtain ⟨c, q1, q2⟩ := h2.get (i := i) (v := v) (by simpa using e)
      exact ⟨c, by simpa using q1, q2⟩
theorem DtAll.nil {l : Addr} {H : Hp} : DtAll l H [] [] := by rw [DtAll]
theorem DtAll.cons {l : Addr} {H : Hp} {d : PyData} {ds : List PyData} {x : V} {xs : List V} (h : Dt l H d x) (k : DtAll l H ds xs) : DtAll l H (d :: ds) (x :: xs) := by
  rw [DtAll]; exact ⟨x, xs, rfl, h, k⟩
theorem DtAll.app {l : Addr} {H : Hp} : ∀ {ds es : List PyData} {xs ys : List V}, DtAll l H ds xs → DtAll l H es ys → DtAll l H (ds ++ es) (xs ++ ys)
  | [], _, _, _, h, k => by rw [DtAll] at h; subst h; exact k
  | d :: ds, es, _, ys, h, k => by
    rw [DtAll] at h
    obtain ⟨x, r, rfl, h1, h2⟩ := h
    exact .cons h1 (h2.app k)
theorem Dt.int {l : Addr} {H : Hp} {i : Int} : Dt l H (.int i) (.int i) := by rw [Dt]
theorem Dt.bool {l : Addr} {H : Hp} {b : Bool} : Dt l H (.bool b) (.bl b) := by rw [Dt]
theorem Dt.non {l : Addr} {H : Hp} : Dt l H .none .non := by rw [Dt]
theorem Dt.str {l : Addr} {H : Hp} {x : Str} : Dt l H (.str x) (.str x) := by rw [Dt]
theorem Dt.tup {l a : Addr} {H : Hp} {ds : List PyData} {xs : List V} (n : a ≠ l) (h : H a = some (.tup xs)) (k : DtAll l H ds xs) : Dt l H (.tuple ds) (.ref a) := by rw [Dt]; exact ⟨a, xs, rfl, n, h, k⟩
theorem Dt.lst {l a : Addr} {H : Hp} {ds : List PyData} {xs : List V} (n : a ≠ l) (h : H a = some (.lst xs)) (k : DtAll l H ds xs) : Dt l H (.list ds) (.ref a) := by rw [Dt]; exact ⟨a, xs, rfl, n, h, k⟩
/-- a thing that may be compared: texts in order, not deeper than n -/
def Ok (n : Nat) (d : PyData) : Prop := d.canLay0 = true ∧ d.depth ≤ n
def OkAll (n : Nat) (ds : List PyData) : Prop := PyData.canLayAll0 ds = true ∧ PyData.depthAll ds ≤ n
theorem Ok.shaped {n : Nat} {d : PyData} (h : Ok n d) (hn : n ≤ 64) : SeqAt.shaped d = true := by
  unfold SeqAt.shaped
  rw [h.1, Bool.true_and]
  exact decide_eq_true (Nat.le_trans h.2 hn)
theorem OkAll.nil {n : Nat} : OkAll n [] := ⟨by simp [PyData.canLayAll0], by simp [PyData.depthAll]⟩
theorem OkAll.cons {n : Nat} {d : PyData} {ds : List PyData} (h : Ok n d) (k : OkAll n ds) : OkAll n (d :: ds) := ⟨by simp [PyData.canLayAll0, h.1, k.1], by simp only [PyData.depthAll]; exact Nat.max_le.mpr ⟨h.2, k.2⟩⟩
theorem OkAll.mem {n : Nat} : ∀ {ds : List PyData} {d : PyData}, OkAll n ds → d ∈ ds → Ok n d
  | e :: ds, d, h, hm => by
    obtain ⟨h1, h2⟩ := h
    simp only [PyData.canLayAll0, Bool.and_eq_true] at h1
    simp only [PyData.depthAll] at h2
    rcases List.mem_cons.mp hm with rfl | hm
    · exact ⟨h1.1, by omega⟩
    · exact OkAll.mem (ds := ds) ⟨h1.2, by omega⟩ hm
theorem OkAll.of {n : Nat} : ∀ {ds : List PyData}, (∀ d ∈ ds, Ok n d) → OkAll n ds
  | [], _ => .nil
  | d :: ds, h => .cons (h d List.mem_cons_self) (OkAll.of fun e he => h e (List.mem_cons_of_mem _ he))
theorem Ok.tup {n : Nat} {ds : List PyData} (h : OkAll n ds) : Ok (n + 1) (.tuple ds) := ⟨by simp only [PyData.canLay0]; exact h.1, by simp only [PyData.depth]; exact Nat.succ_le_succ h.2⟩
theorem Ok.lst {n : Nat} {ds : List PyData} (h : OkAll n ds) : Ok (n + 1) (.list ds) := ⟨by simp only [PyData.canLay0]; exact h.1, by simp only [PyData.depth]; exact Nat.succ_le_succ h.2⟩
theorem Ok.un_tup {n : Nat} {ds : List PyData} (h : Ok (n + 1) (.tuple ds)) : OkAll n ds := ⟨by have := h.1; simpa only [PyData.canLay0] using this, by have := h.2; simp only [PyData.depth] at this; omega⟩
theorem Ok.un_lst {n : Nat} {ds : List PyData} (h : Ok (n + 1) (.list ds)) : OkAll n ds := ⟨by have := h.1; simpa only [PyData.canLay0] using this, by have := h.2; simp only [PyData.depth] at this; omega⟩
theorem Ok.int {n : Nat} {i : Int} : Ok n (.int i) := ⟨by simp [PyData.canLay0], by simp [PyData.depth]⟩
theorem Ok.bool {n : Nat} {b : Bool} : Ok n (.bool b) := ⟨by simp [PyData.canLay0], by simp [PyData.depth]⟩
theorem Ok.non {n : Nat} : Ok n .none := ⟨by simp [PyData.canLay0], by simp [PyData.depth]⟩
theorem Ok.str {n : Nat} {x : Str} (h : PyData.strOk x = true) : Ok n (.str x) := ⟨by simp [PyData.canLay0, h], by simp [PyData.depth]⟩
theorem Ok.mono {m n : Nat} {d : PyData} (h : Ok m d) (l : m ≤ n) : Ok n d := ⟨h.1, Nat.le_trans h.2 l⟩
theorem strOk_of (s : String) : PyData.strOk (Str.ofString s) = true := by
  rw [Str.ofString_eq_toList]
  unfold PyData.strOk
  simp only [List.all_toArray, List.all_map, List.all_eq_true, Function.comp, decide_eq_true_eq]
  intro c _
  have := c.valid
  unfold Char.toNat
  rcases this with h | ⟨_, h⟩
  · exact Nat.lt_trans h (by decide)
  · exact h
mutual
theorem eqv_self : ∀ d : PyData, d.canLay0 = true → PyData.eqv d d = true
  | .none, _ => by simp [PyData.eqv]
  | .bool _, _ => by simp [PyData.eqv]
  | .int _, _ => by simp [PyData.eqv]
  | .str _, _ => by simp [PyData.eqv]
  | .tuple ds, h => by simp only [PyData.eqv]; exact eqvAll_self ds (by simpa only [PyData.canLay0] using h)
  | .list ds, h => by simp only [PyData.eqv]; exact eqvAll_self ds (by simpa only [PyData.canLay0] using h)
  | .dict _, h => by simp [PyData.canLay0] at h
theorem eqvAll_self : ∀ ds : List PyData, PyData.canLayAll0 ds = true → PyData.eqvAll ds ds = true
  | [], _ => by simp [PyData.eqvAll]
  | d :: ds, h => by
    simp only [PyData.canLayAll0, Bool.and_eq_true] at h
    simp only [PyData.eqvAll, eqv_self d h.1, eqvAll_self ds h.2, Bool.and_self]
end
/-- the type of a thing -/
def tyOf : PyData → String
  | .none => "NoneType"
  | .bool _ => "bool"
  | .int _ => "int"
  | .str _ => "str"
  | .tuple _ => "tuple"
  | .list _ => "list"
  | .dict _ => "dict"
theorem Dt.ty {K : PySem.W.Frag} {l : Addr} {H : Hp} : ∀ {d : PyData} {v : V}, Dt l H d v → TyOf K H v (.type (tyOf d))
  | .none, _, h => by rw [Dt] at h; subst h; exact .non
  | .bool _, _, h => by rw [Dt] at h; subst h; exact .bl _
  | .int _, _, h => by rw [Dt] at h; subst h; exact .int _
  | .str _, _, h => by rw [Dt] at h; subst h; exact .str _
  | .tuple _, _, h => by rw [Dt] at h; obtain ⟨a, xs, rfl, _, h1, _⟩ := h; exact .tup h1
  | .list _, _, h => by rw [Dt] at h; obtain ⟨a, xs, rfl, _, h1, _⟩ := h; exact .lst h1
  | .dict _, _, h => by rw [Dt] at h; exact h.elim
def isTupD : PyData → Bool
  | .tuple _ => true
  | _ => false
def isLstD : PyData → Bool
  | .list _ => true
  | _ => false
def isIntD : PyData → Bool
  | .int _ => true
  | .bool _ => true
  | _ => false
def isBoolD : PyData → Bool
  | .bool _ => true
  | _ => false
theorem kit_tupD (K : PySem.W.Frag) : ∀ d : PyData, (∀ kv, d ≠ .dict kv) → PySem.W.kitOne K (.type (tyOf d)) (.type "tuple") = some (isTupD d)
  | .none, _ => kit_nt K
  | .bool _, _ => kit_bt K
  | .int _, _ => kit_it K
  | .str _, _ => kit_st K
  | .tuple _, _ => kit_tt K
  | .list _, _ => kit_lt K
  | .dict kv, h => absurd rfl (h kv)
theorem kit_lstD (K : PySem.W.Frag) : ∀ d : PyData, (∀ kv, d ≠ .dict kv) → PySem.W.kitOne K (.type (tyOf d)) (.type "list") = some (isLstD d)
  | .none, _ => kit_nl K
  | .bool _, _ => kit_bl K
  | .int _, _ => kit_il K
  | .str _, _ => kit_sl K
  | .tuple _, _ => kit_tl K
  | .list _, _ => kit_ll K
  | .dict kv, h => absurd rfl (h kv)
theorem kit_nb (K : PySem.W.Frag) : PySem.W.kitOne K (.type "NoneType") (.type "bool") = some false := by kernel_rfl
theorem kit_sb (K : PySem.W.Frag) : PySem.W.kitOne K (.type "str") (.type "bool") = some false := by kernel_rfl
theorem kit_tb (K : PySem.W.Frag) : PySem.W.kitOne K (.type "tuple") (.type "bool") = some false := by kernel_rfl
theorem kit_lb (K : PySem.W.Frag) : PySem.W.kitOne K (.type "list") (.type "bool") = some false := by kernel_rfl
theorem kit_intD (K : PySem.W.Frag) : ∀ d : PyData, (∀ kv, d ≠ .dict kv) → PySem.W.kitOne K (.type (tyOf d)) (.type "int") = some (isIntD d)
  | .none, _ => kit_ni K
  | .bool _, _ => kit_bi K
  | .int _, _ => kit_ii K
  | .str _, _ => kit_si K
  | .tuple _, _ => kit_ti K
  | .list _, _ => kit_li K
  | .dict kv, h => absurd rfl (h kv)
theorem kit_boolD (K : PySem.W.Frag) : ∀ d : PyData, (∀ kv, d ≠ .dict kv) → PySem.W.kitOne K (.type (tyOf d)) (.type "bool") = some (isBoolD d)
  | .none, _ => kit_nb K
  | .bool _, _ => kit_bb K
  | .int _, _ => kit_ib K
  | .str _, _ => kit_sb K
  | .tuple _, _ => kit_tb K
  | .list _, _ => kit_lb K
  | .dict kv, h => absurd rfl (h kv)
theorem Dt.nodict {l : Addr} {H : Hp} {d : PyData} {v : V} (h : Dt l H d v) : ∀ kv, d ≠ .dict kv := fun kv z => by subst z; rw [Dt] at h; exact h
/-- s[i:] of a text -/
theorem pe_strFrom {X : Cx} {e lo : Expr} {te tl : TE} {pos p2 : Pos} (he : PE X e te) (hl : PE X lo tl) : PE X (.Subscript e (.Slice (some lo) none none p2) pos)
    (fun σ H Q => te σ H fun x H1 => tl σ H1 fun z H2 => ∃ (y : Str) (i : Int), x = .str y ∧ z = .int i ∧ y.length ≤ sizeLine ∧ Q (.str (Txt.slice y (some i) none)) H2) := by
  intro pins s σ H Q I h
  refine Subscript_ (thn (he pins s σ H _ I h) fun v s1 ⟨x, H1, I1, r1, q1⟩ => ?_)
  refine wpAny_Slice ?_
  rw [evalPart_some]
  refine thn (hl pins s1 σ H1 _ I1 q1) fun vk s3 ⟨z, H3, I3, r3, q3⟩ => ?_
  rw [evalPart_none]
  refine wpAny_pure ?_
  refine wpAny_pure ?_
  obtain ⟨y, i, rfl, rfl, hz, q⟩ := q3
  obtain ⟨t1, rfl⟩ := r1
  obtain ⟨t3, rfl⟩ := r3
  show wpAny (model X.prog X.w) X.A (subscriptTail e (.Slice (some lo) none none p2) (.str y t1) (.ref s3.heap.objs.size)) (EP X pins σ Q) X.xe { s3 with heap := s3.heap.push { cls := .type "slice", data := .fields #[.int i t3, .none, .none] } }
  obtain ⟨T, id, hT, ht, hg⟩ := SBH.sliceItem_sn (prog := X.prog) (w := X.w) (A := X.A) (E := X.xe) (s := s3) (x := y) (t := t1) (ui := t3) (P := fun h' => ∀ b o, s3.heap.get? b = some o → h'.get? b = some o) (Q := EP X pins σ Q) (fun h o k b ob q => Heap.get?_push_of_some _ (k b ob q)) (fun _ _ q => q)
    (fun h' t' k kk => ⟨.str (Txt.slice y (some i) none), H3, I3.kept (t' := k) kk, ⟨t', rfl⟩, q⟩) hz
  exact tail_any (ops := [.ref s3.heap.objs.size, .str y t1]) ht hT hg (by with_unfolding_all rfl)
end L2

set_option Elab.async false
set_option linter.all false
set_option maxRecDepth 100000
set_option maxHeartbeats 4000000
namespace L2
open PySem PySem.Spec PyProof.Rows
/-! ### small things: leaves, or at most 60 parts of less depth -/
def leaf : PyData → Prop
  | .none => True
  | .bool _ => True
  | .int _ => True
  | .str x => PyData.strOk x = true
  | _ => False
def Sm : Nat → PyData → Prop
  | 0, d => leaf d
  | n + 1, d => leaf d ∨ ∃ ds, (d = .tuple ds ∨ d = .list ds) ∧ ds.length ≤ 60 ∧ ∀ e ∈ ds, Sm n e
theorem leaf.ok {n : Nat} : ∀ {d : PyData}, leaf d → Ok n d
  | .none, _ => .non
  | .bool _, _ => .bool
  | .int _, _ => .int
  | .str _, h => .str h
theorem leaf.sm {n : Nat} {d : PyData} (h : leaf d) : Sm n d := by
  cases n with
  | zero => exact h
  | succ n => exact .inl h
theorem Sm.ok : ∀ {n : Nat} {d : PyData}, Sm n d → Ok n d
  | 0, _, h => leaf.ok h
  | n + 1, d, h => by
    rcases h with h | ⟨ds, h1, _, h2⟩
    · exact h.ok
    · have := OkAll.of fun e he => (h2 e he).ok
      rcases h1 with rfl | rfl
      · exact .tup this
      · exact .lst this
theorem Sm.up : ∀ {n : Nat} {d : PyData}, Sm n d → Sm (n + 1) d
  | 0, _, h => .inl h
  | n + 1, d, h => by
    rcases h with h | ⟨ds, h1, h2, h3⟩
    · exact .inl h
    · exact .inr ⟨ds, h1, h2, fun e he => (h3 e he).up⟩
theorem Sm.tup {n : Nat} {ds : List PyData} (h : ds.length ≤ 60) (k : ∀ e ∈ ds, Sm n e) : Sm (n + 1) (.tuple ds) := .inr ⟨ds, .inl rfl, h, k⟩
theorem Sm.lst {n : Nat} {ds : List PyData} (h : ds.length ≤ 60) (k : ∀ e ∈ ds, Sm n e) : Sm (n + 1) (.list ds) := .inr ⟨ds, .inr rfl, h, k⟩
theorem Sm.un {n : Nat} {d : PyData} {ds : List PyData} (e : d = .tuple ds ∨ d = .list ds) (h : Sm n d) : ∃ m, n = m + 1 ∧ ds.length ≤ 60 ∧ ∀ x ∈ ds, Sm m x := by
  cases n with
  | zero => rcases e with rfl | rfl <;> exact h.elim
  | succ n =>
    refine ⟨n, rfl, ?_⟩
    rcases h with h | ⟨cs, h1, h2, h3⟩
    · rcases e with rfl | rfl <;> exact h.elim
    · rcases e with rfl | rfl
      · rcases h1 with h1 | h1
        · cases h1; exact ⟨h2, h3⟩
        · cases h1
      · rcases h1 with h1 | h1
        · cases h1
        · cases h1; exact ⟨h2, h3⟩
mutual
theorem dt_two {c l : Addr} {H H' : Hp} (e : SameBut c H H') : ∀ {d : PyData} {v : V}, Dt c H d v → Dt l H d v → Dt l H' d v
  | .none, _, _, h => by rw [Dt] at h ⊢; exact h
  | .bool _, _, _, h => by rw [Dt] at h ⊢; exact h
  | .int _, _, _, h => by rw [Dt] at h ⊢; exact h
  | .str _, _, _, h => by rw [Dt] at h ⊢; exact h
  | .tuple _, _, k, h => by
    rw [Dt] at h k ⊢
    obtain ⟨a, xs, e1, n, h1, h2⟩ := h
    obtain ⟨a', xs', e1', n', h1', h2'⟩ := k
    subst e1
    cases e1'
    rw [h1] at h1'
    cases h1'
    exact ⟨a, xs, rfl, n, e _ _ n' h1, dtAll_two e h2' h2⟩
  | .list _, _, k, h => by
    rw [Dt] at h k ⊢
    obtain ⟨a, xs, e1, n, h1, h2⟩ := h
    obtain ⟨a', xs', e1', n', h1', h2'⟩ := k
    subst e1
    cases e1'
    rw [h1] at h1'
    cases h1'
    exact ⟨a, xs, rfl, n, e _ _ n' h1, dtAll_two e h2' h2⟩
  | .dict _, _, _, h => by rw [Dt] at h; exact h.elim
theorem dtAll_two {c l : Addr} {H H' : Hp} (e : SameBut c H H') : ∀ {ds : List PyData} {xs : List V}, DtAll c H ds xs → DtAll l H ds xs → DtAll l H' ds xs
  | [], _, _, h => by rw [DtAll] at h ⊢; exact h
  | _ :: _, _, k, h => by
    rw [DtAll] at h k ⊢
    obtain ⟨x, r, e1, h1, h2⟩ := h
    obtain ⟨x', r', e1', h1', h2'⟩ := k
    subst e1
    cases e1'
    exact ⟨x, r, rfl, dt_two e h1' h1, dtAll_two e h2' h2⟩
end
theorem Dt.two {c l : Addr} {H H' : Hp} (e : SameBut c H H') {d : PyData} {v : V} (h : Dt c H d v) (k : Dt l H d v) : Dt l H' d v := dt_two e h k
theorem DtAll.two {c l : Addr} {H H' : Hp} (e : SameBut c H H') {d : List PyData} {v : List V} (h : DtAll c H d v) (k : DtAll l H d v) : DtAll l H' d v := dtAll_two e h k
theorem Dt.leaf {l c : Addr} {H H' : Hp} : ∀ {d : PyData} {v : V}, Dt l H d v → isTupD d = false → isLstD d = false → Dt c H' d v
  | .none, _, h, _, _ => by rw [Dt] at h ⊢; exact h
  | .bool _, _, h, _, _ => by rw [Dt] at h ⊢; exact h
  | .int _, _, h, _, _ => by rw [Dt] at h ⊢; exact h
  | .str _, _, h, _, _ => by rw [Dt] at h ⊢; exact h
  | .tuple _, _, _, h, _ => by simp [isTupD] at h
  | .list _, _, _, _, h => by simp [isLstD] at h
  | .dict _, _, h, _, _ => by rw [Dt] at h; exact h.elim
/-- made anew: none of it stood there ahead -/
def New (H H' : Hp) (d : PyData) (v : V) : Prop := ∀ c o, H c = some o → Dt c H' d v
def NewAll (H H' : Hp) (ds : List PyData) (vs : List V) : Prop := ∀ c o, H c = some o → DtAll c H' ds vs

/-! ### data that are trees -/
mutual
def trOf : PyData → Option Tr
  | .tuple ds => trsOf ds
  | _ => none
def trsOf : List PyData → Option Tr
  | [] => some .nil
  | d :: ds => (trOf d).bind fun b => (trsOf ds).map fun r => .cons b r
end
theorem trsOf_map : ∀ {ds : List PyData} {t : Tr}, trsOf ds = some t ↔ ds.map trOf = t.bs.map some
  | [], .nil => by simp [trsOf, Tr.bs]
  | [], .cons _ _ => by simp [trsOf, Tr.bs]
  | d :: ds, .nil => by
    rw [trsOf]
    cases trOf d <;> cases trsOf ds <;> simp [Tr.bs]
  | d :: ds, .cons b r => by
    rw [trsOf, Tr.bs]
    simp only [List.map_cons, List.cons.injEq]
    rw [← trsOf_map (ds := ds) (t := r)]
    cases trOf d <;> cases trsOf ds <;> simp
mutual
theorem eqv_tr : ∀ {d e : PyData} {t : Tr}, PyData.eqv d e = true → trOf e = some t → trOf d = some t
  | d, .tuple es, t, h, k => by
    cases d with
    | tuple ds =>
      rw [PyData.eqv] at h
      rw [trOf] at k ⊢
      exact eqvAll_tr h k
    | none => simp [PyData.eqv] at h
    | bool b => simp [PyData.eqv] at h
    | int b => simp [PyData.eqv] at h
    | str b => simp [PyData.eqv] at h
    | list b => simp [PyData.eqv] at h
    | dict b => simp [PyData.eqv] at h
  | _, .none, _, _, k => by simp [trOf] at k
  | _, .bool _, _, _, k => by simp [trOf] at k
  | _, .int _, _, _, k => by simp [trOf] at k
  | _, .str _, _, _, k => by simp [trOf] at k
  | _, .list _, _, _, k => by simp [trOf] at k
  | _, .dict _, _, _, k => by simp [trOf] at k
theorem eqvAll_tr : ∀ {ds es : List PyData} {t : Tr}, PyData.eqvAll ds es = true → trsOf es = some t → trsOf ds = some t
  | [], [], _, _, k => k
  | [], _ :: _, _, h, _ => by simp [PyData.eqvAll] at h
  | _ :: _, [], _, h, _ => by simp [PyData.eqvAll] at h
  | d :: ds, e :: es, t, h, k => by
    rw [PyData.eqvAll, Bool.and_eq_true] at h
    rw [trsOf] at k ⊢
    cases k1 : trOf e with
    | none => rw [k1] at k; simp at k
    | some b =>
      cases k2 : trsOf es with
      | none => rw [k1, k2] at k; simp at k
      | some r =>
        rw [k1, k2] at k
        rw [eqv_tr h.1 k1, eqvAll_tr h.2 k2]
        exact k
end
mutual
theorem dt_tv {l : Addr} {H : Hp} : ∀ {d : PyData} {v : V} {t : Tr}, Dt l H d v → trOf d = some t → Tv H t v
  | .tuple ds, v, t, h, k => by
    rw [Dt] at h
    rw [trOf] at k
    obtain ⟨a, xs, rfl, _, h1, h2⟩ := h
    exact ⟨a, xs, rfl, h1, dtAll_ts h2 k⟩
  | .none, _, _, _, k => by simp [trOf] at k
  | .bool _, _, _, _, k => by simp [trOf] at k
  | .int _, _, _, _, k => by simp [trOf] at k
  | .str _, _, _, _, k => by simp [trOf] at k
  | .list _, _, _, _, k => by simp [trOf] at k
  | .dict _, _, _, _, k => by simp [trOf] at k
theorem dtAll_ts {l : Addr} {H : Hp} : ∀ {ds : List PyData} {xs : List V} {t : Tr}, DtAll l H ds xs → trsOf ds = some t → Ts H t xs
  | [], xs, t, h, k => by
    rw [DtAll] at h
    rw [trsOf] at k
    cases k
    subst h
    exact .nil
  | d :: ds, xs, t, h, k => by
    rw [DtAll] at h
    obtain ⟨x, r, rfl, h1, h2⟩ := h
    rw [trsOf] at k
    cases k1 : trOf d with
    | none => rw [k1] at k; simp at k
    | some b =>
      cases k2 : trsOf ds with
      | none => rw [k1, k2] at k; simp at k
      | some q =>
        rw [k1, k2] at k
        cases k
        exact .cons (dt_tv h1 k1) (dtAll_ts h2 k2)
end
/-- a tree as data -/
def datsOf : Tr → List PyData
  | .nil => []
  | .cons b r => .tuple (datsOf b) :: datsOf r
theorem trsOf_dats : ∀ t : Tr, trsOf (datsOf t) = some t
  | .nil => by rw [datsOf, trsOf]
  | .cons b r => by rw [datsOf, trsOf, trOf, trsOf_dats b, trsOf_dats r]; rfl
theorem ts_dt {l : Addr} {H : Hp} (hl : ∀ xs, H l ≠ some (.tup xs)) : ∀ {t : Tr} {xs : List V}, Ts H t xs → DtAll l H (datsOf t) xs
  | .nil, xs, h => by rw [Ts] at h; subst h; exact .nil
  | .cons b r, xs, h => by
    rw [Ts] at h
    obtain ⟨a, ys, zs, rfl, h1, h2, h3⟩ := h
    exact .cons (.tup (fun z => hl ys (z ▸ h1)) h1 (ts_dt hl h2)) (ts_dt hl h3)
theorem tv_dt {l : Addr} {H : Hp} (hl : ∀ xs, H l ≠ some (.tup xs)) {t : Tr} {v : V} (h : Tv H t v) : Dt l H (.tuple (datsOf t)) v := by
  obtain ⟨a, ys, rfl, h1, h2⟩ := h
  exact .tup (fun z => hl ys (z ▸ h1)) h1 (ts_dt hl h2)
theorem datsOf_len : ∀ t : Tr, (datsOf t).length = t.bs.length
  | .nil => rfl
  | .cons b r => by rw [datsOf, List.length_cons, datsOf_len r, Tr.bs, List.length_cons]
theorem sm_dat : ∀ (n : Nat) (t : Tr), t.deep ≤ n → t.knots ≤ 60 → Sm (n + 1) (.tuple (datsOf t)) ∧ ∀ e ∈ datsOf t, Sm n e
  | n, .nil, _, _ => ⟨.tup (by rw [datsOf]; decide) (fun e he => by rw [datsOf] at he; cases he), fun e he => by rw [datsOf] at he; cases he⟩
  | n, .cons b r, hd, hk => by
    rw [Tr.deep] at hd
    rw [Tr.knots] at hk
    have hb : b.deep + 1 ≤ n := by omega
    obtain ⟨m, rfl⟩ : ∃ m, n = m + 1 := ⟨n - 1, by omega⟩
    have k1 := (sm_dat m b (by omega) (by omega)).1
    have k2 := (sm_dat (m + 1) r (by omega) (by omega)).2
    have all : ∀ e ∈ datsOf (.cons b r), Sm (m + 1) e := fun e he => by
      rw [datsOf] at he
      rcases List.mem_cons.mp he with rfl | he
      · exact k1
      · exact k2 e he
    refine ⟨.tup ?_ all, all⟩
    have h1 := Tr.len_lt_knots (.cons b r)
    rw [Tr.knots] at h1
    rw [datsOf_len]
    omega
def fallD (d : PyData) : Bool := match trOf d with
  | some t => t.fall
  | none => false
theorem fallD_of {d : PyData} {t : Tr} (h : trOf d = some t) : fallD d = t.fall := by unfold fallD; rw [h]
theorem fallD_no {d : PyData} (h : trOf d = none) : fallD d = false := by unfold fallD; rw [h]
theorem fallD_true {d : PyData} (h : fallD d = true) : ∃ t, trOf d = some t ∧ t.fall = true := by
  unfold fallD at h
  cases e : trOf d with
  | none => rw [e] at h; cases h
  | some t => rw [e] at h; exact ⟨t, rfl, h⟩
/-- of a row: each is a tree in falling order, none greater than the one ahead -/
theorem fallD_row {ds : List PyData} : fallD (.tuple ds) = true ↔ (∀ (j : Nat) (d : PyData), ds[j]? = some d → fallD d = true) ∧ ∀ (j : Nat) (d e : PyData) (b c : Tr), ds[j]? = some d → ds[j + 1]? = some e → trOf d = some b → trOf e = some c → Tr.lt b c = false := by
  constructor
  · intro h
    obtain ⟨t, h1, h2⟩ := fallD_true h
    rw [trOf, trsOf_map] at h1
    obtain ⟨k1, k2⟩ := (Tr.fall_iff t).mp h2
    have at_ : ∀ (j : Nat) (d : PyData), ds[j]? = some d → ∃ c, t.bs[j]? = some c ∧ trOf d = some c := fun j d hd => by
      have e := congrArg (fun l => l[j]?) h1
      simp only [List.getElem?_map, hd, Option.map_some] at e
      cases hc : t.bs[j]? with
      | none => rw [hc] at e; cases e
      | some c => rw [hc] at e; exact ⟨c, rfl, by simpa using e⟩
    refine ⟨fun j d hd => ?_, fun j d e b c hd he hb hc => ?_⟩
    · obtain ⟨c, h3, h4⟩ := at_ j d hd
      rw [fallD_of h4]
      exact k1 c (List.mem_of_getElem? h3)
    · obtain ⟨b', h3, h4⟩ := at_ j d hd
      obtain ⟨c', h5, h6⟩ := at_ (j + 1) e he
      rw [hb] at h4; cases h4
      rw [hc] at h6; cases h6
      exact k2 j _ _ h3 h5
  · rintro ⟨h1, h2⟩
    have all : ∀ l : List PyData, (∀ d ∈ l, fallD d = true) → ∃ ts : List Tr, l.map trOf = ts.map some := fun l hl => by
      induction l with
      | nil => exact ⟨[], rfl⟩
      | cons d l ih =>
        obtain ⟨ts, e⟩ := ih fun x hx => hl x (List.mem_cons_of_mem _ hx)
        obtain ⟨t, e1, _⟩ := fallD_true (hl d List.mem_cons_self)
        exact ⟨t :: ts, by rw [List.map_cons, List.map_cons, e1, e]⟩
    obtain ⟨ts, hts⟩ := all ds fun d hd => by
      obtain ⟨j, hj⟩ := List.getElem?_of_mem hd
      exact h1 j d hj
    have e : trOf (.tuple ds) = some (Tr.of ts) := by rw [trOf, trsOf_map, Tr.bs_of]; exact hts
    have at_ : ∀ (j : Nat) (c : Tr), ts[j]? = some c → ∃ d, ds[j]? = some d ∧ trOf d = some c := fun j c hc => by
      have e := congrArg (fun l => l[j]?) hts
      simp only [List.getElem?_map, hc, Option.map_some] at e
      cases hd : ds[j]? with
      | none => rw [hd] at e; cases e
      | some d => rw [hd] at e; exact ⟨d, rfl, by simpa using e⟩
    rw [fallD_of e, Tr.fall_iff, Tr.bs_of]
    refine ⟨fun c hc => ?_, fun j b c hb hc => ?_⟩
    · obtain ⟨j, hj⟩ := List.getElem?_of_mem hc
      obtain ⟨d, h3, h4⟩ := at_ j c hj
      rw [← fallD_of h4]
      exact h1 j d h3
    · obtain ⟨d, h3, h4⟩ := at_ j b hb
      obtain ⟨e, h5, h6⟩ := at_ (j + 1) c hc
      exact h2 j d e b c h3 h5 h4 h6
end L2

set_option Elab.async false
set_option linter.all false
set_option maxRecDepth 100000
set_option maxHeartbeats 4000000
namespace L2
open PySem PySem.Spec PyProof.Rows
section
variable {X : Cx}
def rInsert : V → List V → Hp → VK → Prop := fun x vs H Q => ∃ l xs y, ∃ i : Int, ∃ k : Nat, x = .ref l ∧ vs = [.int i, y] ∧ i = (k : Int) ∧ H l = some (.lst xs) ∧ k ≤ xs.length ∧ xs.length < 1000 ∧ Q .non (upd H l (.lst (xs.take k ++ y :: xs.drop k)))
theorem mt_insert : MtM X "list.insert" rInsert := by
  intro pins s σ H x vs v us Q I rx rv h
  obtain ⟨l, xs, y, i, k, rfl, rfl, hi, hH, hk, hz, q⟩ := h
  subst hi
  cases rx
  obtain ⟨u, u2, rfl, ru, ru2⟩ := rv.two
  obtain ⟨t, rfl⟩ := ru
  obtain ⟨z, its, n, r, hl, e⟩ := I.lstM hH
  have hf : Builtin.List.listFitsIndex (k : Int) = true := by
    unfold Builtin.List.listFitsIndex
    simp only [Bool.and_eq_true, decide_eq_true_eq]
    omega
  have hsz : its.toArray.size ≤ sizeLine := by rw [List.size_toArray]; omega
  have hf' : ¬ (!Builtin.List.listFitsIndex (k : Int)) = true := by rw [hf]; decide
  generalize hx : (k : Int) = x at hf hf'
  have M := PySem.AutoSeq1.list_insert_list_int_val_1 l its.toArray n x t u2 hf' hsz
  refine call_meets F.slot_list_insert ⟨_, e, rfl⟩ F.entry_list_insert (F.args_list_insert_3 (.ref l) (.int x t) u2) M ⟨e, ?_⟩
  subst hx
  refine ⟨.non, _, I.lset (ys := xs.take k ++ y :: xs.drop k) (its' := its.take k ++ u2 :: its.drop k) hH e ?_ ((r.take k).append (.cons ru2 (r.drop k))) ?_, rfl, q⟩
  · have h0 : ¬ ((k : Int) < 0) := by omega
    have hm : min k its.length = k := by omega
    simp only [h0, if_false, Int.toNat_natCast, List.size_toArray, hm]
    simp [List.extract]
    rw [List.take_of_length_le (by simp)]
  · rw [List.length_append, List.length_cons, List.length_take, List.length_drop]
    have : 1000 < sizeLine := by rw [sizeLine_eq]; decide
    omega
/-- t + u, either may be empty -/
def rCatA : R2 := fun x y H Q => ∃ a b xs ys, x = .ref a ∧ y = .ref b ∧ H a = some (.tup xs) ∧ H b = some (.tup ys) ∧ xs.length + ys.length ≤ sizeLine ∧ ∀ p H', Same H H' → H' p = some (.tup (xs ++ ys)) → Q (.ref p) H'
theorem op_catA : OpR X (binaryOp .Add) rCatA := by
  intro pins s σ H x y v u Q I rx ry h
  obtain ⟨a, b, xs, ys, rfl, rfl, ha, hb, hz, q⟩ := h
  cases rx
  cases ry
  obtain ⟨its, r1, p1, _⟩ := I.tuple (SqT.of (K := X.K) ha)
  obtain ⟨its2, r2, p2, _⟩ := I.tuple (SqT.of (K := X.K) hb)
  by_cases hv : its = []
  · have hx := r1.nil_iff.mp hv
    subst hv hx
    obtain ⟨⟨cls, dd, data, sl⟩, ho, hc, n, hd⟩ := id p1
    obtain ⟨⟨cls2, dd2, data2, sl2⟩, ho2, hc2, n2, hd2⟩ := id p2
    simp only at hc hd hc2 hd2
    subst hc hd hc2 hd2
    exact concat_meets ⟨_, ho, rfl⟩ ⟨_, ho2, rfl⟩ noFill_tuple_add seq_tuple_add PySem.F.slot_tuple_add PySem.F.entry_tuple_add (PySem.F.args_tuple_add_2 _ _)
      (tuple_addW0 a b _ _ n n2 dd dd2 sl sl2 (by simp)) ⟨ho, ho2, ⟨.ref b, H, I, rfl, q b H (.refl H) (by simpa using hb)⟩⟩
  · refine HT.cat_tup p1 p2 hv (fun z => ?_) (fun z => ?_) (by rw [← r1.length, ← r2.length]; exact hz)
    · have hy := r2.nil_iff.mp z
      subst hy
      exact ⟨.ref a, H, I, rfl, q a H (.refl H) (by simpa using ha)⟩
    · refine ⟨.ref s.heap.objs.size, _, I.laid (t' := s.toks) (o := .tup (xs ++ ys)) (fun b ob q => Heap.get?_push_of_some _ q) (Nat.le_refl _) ?_, rfl, q _ _ (same_new (I.hok.fresh (Nat.le_refl _)) _) upd_same⟩
      exact ⟨by rw [List.length_append]; exact hz, _, r1.append r2, IsTup.new _ _⟩
end
theorem Ts.take {H : Hp} {t : Tr} {xs : List V} (h : Ts H t xs) (k : Nat) : Ts H (Tr.of (t.bs.take k)) (xs.take k) := by
  refine Ts.of_all _ _ (by simp [h.len]) fun i v e => ?_
  rw [List.getElem?_take] at e ⊢
  by_cases c : i < k
  · rw [if_pos c] at e ⊢
    exact h.get e
  · rw [if_neg c] at e; cases e
theorem Ts.drop {H : Hp} {t : Tr} {xs : List V} (h : Ts H t xs) (k : Nat) : Ts H (Tr.of (t.bs.drop k)) (xs.drop k) := by
  refine Ts.of_all _ _ (by simp [h.len]) fun i v e => ?_
  rw [List.getElem?_drop] at e ⊢
  exact h.get e
theorem Ts.insert {H : Hp} {ts : List Tr} {c : Tr} {xs : List V} {v : V} (h : Ts H (Tr.of ts) xs) (k : Tv H c v) (i : Nat) : Ts H (Tr.of (ts.take i ++ c :: ts.drop i)) (xs.take i ++ v :: xs.drop i) := by
  have h1 := h.take i
  have h2 := Ts.cons k (h.drop i)
  have h3 := Ts.append h1 h2
  rw [Tr.bs_of] at h3
  simpa [Tr.bs_of, Tr.bs] using h3
end L2

set_option Elab.async false
set_option linter.all false
set_option maxRecDepth 100000
set_option maxHeartbeats 0
namespace Tr
/-- a tuple of two trees -/
def pr (x : Tr × Tr) : Tr := .cons x.1 (.cons x.2 .nil)
/-- the ties of the boughs of a row, those ahead of it being pre -/
def tiesR : List Tr → Tr → List (Tr × Tr)
  | _, .nil => []
  | pre, .cons b r => ((of (pre ++ r.bs), b) :: (tiesR [] b).map fun x => (of (srt (pre ++ x.1 :: r.bs)), x.2)) ++ tiesR (pre ++ [b]) r
def ties (t : Tr) : List (Tr × Tr) := tiesR [] t
/-- the places of a row of parents that hang on root, but those that are gone -/
def hang (ps gone : List Nat) (root m : Nat) : List Nat := ((List.range m).map fun i => root + 1 + i).filter fun k => ps.getD k 0 == root && !gone.contains k
/-- what hangs together with root -/
def lpart (ps gone : List Nat) : Nat → Nat → Tr
  | 0, _ => .nil
  | n + 1, root => of (srt ((hang ps gone root (ps.length - (root + 1))).map (lpart ps gone n)))
def duePair (ps : List Nat) (at_ : Nat) : Tr × Tr := (lpart ps [at_] 7 0, lpart ps [] 7 at_)
def dueT (ps : List Nat) : List Tr := ((List.range (ps.length - 1)).map fun i => duePair ps (1 + i)).map pr
def look12 (ps : List Nat) : Bool := decide (srt ((ties (grown ps)).map pr) = srt (dueT ps))
theorem look12_all : ((List.range 8).all fun n => n == 0 || (par n).all look12) = true := by decide +kernel
end Tr

set_option Elab.async false
set_option linter.all false
set_option maxRecDepth 100000
set_option maxHeartbeats 4000000
namespace Tr
theorem ksumR (l : List Tr) : (of l).knots = 1 + (l.map knots).sum := by
  induction l with
  | nil => rfl
  | cons b r ih => rw [of, knots, ih]; simp; omega
theorem ksrtR (l : List Tr) : (of (srt l)).knots = (of l).knots := by rw [ksumR, ksumR, ((perm_srt l).map knots).sum_nat]
theorem tiesR_len : ∀ (r : Tr) (pre : List Tr), (tiesR pre r).length + 1 = r.knots
  | .nil, pre => rfl
  | .cons b r, pre => by
    have h1 := tiesR_len b []
    have h2 := tiesR_len r (pre ++ [b])
    rw [tiesR, List.length_append, List.length_cons, List.length_map, knots]
    omega
theorem ties_len (t : Tr) : (ties t).length + 1 = t.knots := tiesR_len t []
theorem tiesR_knots : ∀ (r : Tr) (pre : List Tr) (x : Tr × Tr), x ∈ tiesR pre r → x.1.knots + x.2.knots = (of (pre ++ r.bs)).knots
  | .nil, pre, x, h => by rw [tiesR] at h; cases h
  | .cons b r, pre, x, h => by
    rw [tiesR, List.mem_append, List.mem_cons] at h
    rcases h with (rfl | h) | h
    · rw [ksumR, ksumR, bs]
      simp
      omega
    · obtain ⟨y, hy, rfl⟩ := List.mem_map.mp h
      have := tiesR_knots b [] y hy
      rw [List.nil_append, of_bs] at this
      dsimp only
      rw [ksrtR, ksumR, ksumR, bs]
      simp
      omega
    · have := tiesR_knots r (pre ++ [b]) x h
      rw [bs]
      simpa using this
theorem ties_knots {t : Tr} {x : Tr × Tr} (h : x ∈ ties t) : x.1.knots + x.2.knots = t.knots := by
  have := tiesR_knots t [] x h
  rwa [List.nil_append, of_bs] at this
/-- what has been gathered behind i boughs -/
def tiTo (l : List Tr) : Nat → List (Tr × Tr)
  | 0 => []
  | i + 1 => tiTo l i ++ (match l[i]? with
    | some b => (of (l.take i ++ l.drop (i + 1)), b) :: (ties b).map fun x => (of (srt (l.take i ++ x.1 :: l.drop (i + 1))), x.2)
    | none => [])
theorem ti_to : ∀ (r : Tr) (pre : List Tr), tiTo (pre ++ r.bs) pre.length ++ tiesR pre r = tiTo (pre ++ r.bs) (pre ++ r.bs).length
  | .nil, pre => by rw [tiesR, bs]; simp
  | .cons b r, pre => by
    have ih := ti_to r (pre ++ [b])
    rw [tiesR, bs]
    have e : pre ++ b :: r.bs = (pre ++ [b]) ++ r.bs := by simp
    rw [e]
    rw [← ih, ← List.append_assoc]
    congr 1
    rw [List.length_append, List.length_cons, List.length_nil, tiTo, ← e]
    have e2 : (pre ++ b :: r.bs)[pre.length]? = some b := by simp
    rw [e2]
    have e3 : (pre ++ b :: r.bs).take pre.length = pre := by simp
    have e4 : (pre ++ b :: r.bs).drop (pre.length + 1) = r.bs := by
      rw [e, show pre.length + 1 = (pre ++ [b]).length by simp, List.drop_left]
    dsimp only
    rw [e3, e4]
    rfl
theorem ties_all (t : Tr) : ties t = tiTo t.bs t.bs.length := by
  unfold ties
  simpa [tiTo] using ti_to t []
theorem tiTo_le (l : List Tr) {i j : Nat} (h : i ≤ j) : (tiTo l i).length ≤ (tiTo l j).length := by
  induction j with
  | zero => have : i = 0 := by omega
            subst this; exact Nat.le_refl _
  | succ j ih =>
    by_cases e : i = j + 1
    · subst e; exact Nat.le_refl _
    · refine Nat.le_trans (ih (by omega)) ?_
      rw [tiTo, List.length_append]
      omega
theorem tiTo_small {t : Tr} {i : Nat} (h : i ≤ t.bs.length) : (tiTo t.bs i).length < t.knots := by
  have := tiTo_le t.bs h
  rw [← ties_all] at this
  have := ties_len t
  omega
theorem pr_deep {x : Tr × Tr} {n : Nat} (h1 : x.1.deep + 1 ≤ n) (h2 : x.2.deep + 1 ≤ n) : (pr x).deep ≤ n := by
  unfold pr
  rw [deep, deep, deep]
  omega
theorem pr_knots (x : Tr × Tr) : (pr x).knots = x.1.knots + x.2.knots + 1 := by
  unfold pr
  rw [knots, knots, knots]
  omega
theorem look12_of {ps : List Nat} (h : PsOk ps) (h7 : ps.length ≤ 7) : srt ((ties (grown ps)).map pr) = srt (dueT ps) := by
  have h1 := List.all_eq_true.mp look12_all ps.length (List.mem_range.mpr (by omega))
  have h0 := h.1
  rw [Bool.or_eq_true] at h1
  rcases h1 with h1 | h1
  · exact absurd (by simpa using h1) (Nat.ne_of_gt h0)
  · have h2 := List.all_eq_true.mp h1 ps h.mem
    unfold look12 at h2
    exact of_decide_eq_true h2
theorem hang_succ (ps gone : List Nat) (root i : Nat) : hang ps gone root (i + 1) = hang ps gone root i ++ (if (ps.getD (root + 1 + i) 0 == root && !gone.contains (root + 1 + i)) = true then [root + 1 + i] else []) := by
  unfold hang
  rw [List.range_succ, List.map_append, List.filter_append]
  congr 1
  rw [List.map_cons, List.map_nil, List.filter_cons, List.filter_nil]
theorem hang_mem {ps gone : List Nat} {root m k : Nat} (h : k ∈ hang ps gone root m) : root < k := by
  unfold hang at h
  have := (List.mem_filter.mp h).1
  obtain ⟨i, _, rfl⟩ := List.mem_map.mp this
  omega
theorem hang_len (ps gone : List Nat) (root m : Nat) : (hang ps gone root m).length ≤ m := by
  unfold hang
  refine Nat.le_trans (List.length_filter_le _ _) ?_
  simp
theorem lpart_deep (ps gone : List Nat) : ∀ n root, (lpart ps gone n root).deep ≤ n
  | 0, _ => Nat.le_refl _
  | n + 1, root => by
    rw [lpart]
    refine (deep_of _ _).mpr fun c hc => ?_
    have hc := (perm_srt _).mem_iff.mp hc
    obtain ⟨k, _, rfl⟩ := List.mem_map.mp hc
    have := lpart_deep ps gone n k
    omega
end Tr

set_option Elab.async false
set_option linter.all false
set_option maxRecDepth 100000
set_option maxHeartbeats 4000000
namespace Q12
open PySem L2
def top (i : Nat) : Stmt := PySem.Challenge.pw_stepgrove_k12_ties.main.body.getD i (.Pass ⟨0, 0, 0, 0⟩)
abbrev s_is_tree : Stmt := top 4
abbrev s_refuse_no_tree : Stmt := top 5
abbrev s_in_falling_order : Stmt := top 6
abbrev s_tree_ties : Stmt := top 8
abbrev s_ties_within : Stmt := top 9
abbrev s__law_cell_at : Stmt := top 11
abbrev s__law_mixed : Stmt := top 12
abbrev s__law_rest : Stmt := top 13
abbrev s__law_parents : Stmt := top 14
abbrev s__law_grown : Stmt := top 15
abbrev s__law_above : Stmt := top 16
abbrev s__law_part : Stmt := top 17
abbrev s__law_tuples : Stmt := top 18
abbrev s__law_good : Stmt := top 19
abbrev s_law : Stmt := top 20
theorem nnr {C : Addr} : clsV (.ref C) ≠ .none := fun z => nomatch z
theorem nnt {n : String} : clsV (.ty n) ≠ .none := fun z => nomatch z
theorem mulC {i j : Int} (h1 : -18446744073709551616 < j) (h2 : j < 18446744073709551616) : CMul i j ∨ CMulW i j := .inl (.inr ⟨h1, h2⟩)
theorem mulL {i j : Int} (h1 : -18446744073709551616 < i) (h2 : i < 18446744073709551616) : CMul i j ∨ CMulW i j := .inl (.inl ⟨h1, h2⟩)

/-! ### the program's trees -/
def spIsTree (n : Nat) : Sp := fun vs H Q _ => ∃ v t, vs = [v] ∧ Tv H t v ∧ t.deep < n ∧ n ≤ 60 ∧ ∀ H', Same H H' → Q (.bl t.fall) H'
def spRefuse : Sp := fun vs H Q _ => ∃ v t, vs = [v] ∧ Tv H t v ∧ t.deep < 8 ∧ t.fall = true ∧ ∀ H', Same H H' → Q .non H'
def spTold (n : Nat) (g : Tr → Nat) : Sp := fun vs H Q _ => ∃ v t, vs = [v] ∧ Tv H t v ∧ t.deep < n ∧ n ≤ 60 ∧ t.knots ≤ 8 ∧ ∀ H', Same H H' → Q (.int (g t)) H'
theorem never_ok {P : Program} {w : World} {K : PySem.W.Frag} {mg : Str → Option Value} {base : Heap} {CX : CXT} {k : Nat} {f : Addr} {fd : FuncData} {ps : List Str} {sp : Sp} (h : ∀ vs H Q E, ¬ sp vs H Q E) : FnOk P w K mg base CX k f fd ps sp :=
  ⟨fun _ _ _ _ z => (h _ _ _ _ z).elim, fun _ _ _ _ _ _ _ _ _ _ _ _ _ z => (h _ _ _ _ z).elim⟩
theorem small64 {x : Int} {n : Nat} (h0 : 0 ≤ x) (h : x ≤ (n : Int)) (hn : n ≤ 16777216) : -18446744073709551616 < x ∧ x < 18446744073709551616 := by omega
section
variable {P : Program} {w : World} {K : PySem.W.Frag} {mg : Str → Option Value} {base : Heap} {f g g1 g2 g3 g4 : Addr} {fd gd gd1 gd2 gd3 gd4 : FuncData}
theorem sc_is_tree : FnScope ["thing", "k", "bough"] ["thing"] (defScope s_is_tree) := ⟨rfl, rfl, rfl, by decide +kernel, rfl, by decide +kernel, by decide +kernel⟩
theorem ok_is_tree (T_is_tree : Fn K mg "is_tree" s_is_tree ["thing"] f fd) (z_isinstance : mg "isinstance" = none) (z_tuple : mg "tuple" = none) (z_enumerate : mg "enumerate" = none) :
    ∀ n, FnOk P w K mg base CX0 n f fd ["thing"] (spIsTree n)
  | 0 => never_ok fun _ _ _ _ ⟨_, _, _, _, h, _⟩ => absurd h (Nat.not_lt_zero _)
  | n + 1 => by
    have sc := sc_is_tree
    have G_is_tree := ok_is_tree T_is_tree z_isinstance z_tuple z_enumerate n
    refine T_is_tree.F.ok (k := n) sc (fun vs H Q E h => ?_) (fun cdv A outer s H vs Q E hr h => ?_)
    · obtain ⟨v, t, rfl, _⟩ := h
      rfl
    obtain ⟨v, t, rfl, ⟨a, xs, rfl, ha, ht⟩, hd, hn, q⟩ := h
    refine ⟨_, (pss_cons (ps_if (pt_not (pt_val (pe_callB call_isi rfl z_isinstance PyProof.Rows.boot_isinstance (pa_cons (pv 0) (pa_cons (pe_bltn (v := .ty "tuple") rfl z_tuple PyProof.Rows.boot_tuple rfl) pa_nil)))))
    (pss_one (ps_ret pe_bl))
    pss_nil)
  (pss_cons (ps_for PassesOwn.never rfl (pi_enum rfl z_enumerate (pa_cons (pv 0) pa_nil)) (pg_tup rfl (pgs_cons (pg_name (i := 1) sc.nd rfl (Or.inl rfl)) (pgs_cons (pg_name (i := 2) sc.nd rfl (Or.inl rfl)) pgs_nil)))
    (pss_cons (ps_if (PW.pt (pw_and (pt_cmpR op_gt (pv 1) pe_int (nomark _)) (pw_and1 (pt_cmpR (op_eqTr (by have := hr.units; exact this)) (pv 2) (pe_ix ix_tup (pv 0) (pe_op op_sub (pv 1) pe_int) (fun _ _ => rfl)) (nomark _)))))
      (pss_one ps_continue)
      pss_nil)
    (pss_one (ps_if (PW.pt (pw_or (pt_not (pt_val (pe_fn T_is_tree G_is_tree hr rfl (pa_cons (pv 2) pa_nil)))) (pw_or1 (PW.pt (pw_and (pt_cmpR op_gt (pv 1) pe_int (nomark _)) (pw_and1 (pt_cmpR (op_gtTr (by have := hr.units; exact this)) (pv 2) (pe_ix ix_tup (pv 0) (pe_op op_sub (pv 1) pe_int) (fun _ _ => rfl)) (nomark _))))))))
      (pss_one (ps_ret pe_bl))
      pss_nil))))
  (pss_one (ps_ret pe_bl)))), ?_⟩
    refine ⟨_, rfl, _, _, _, _, rfl, nnt, TyOf.tup ha, kit_tt K, _, rfl, iteF ?_⟩
    have hlen := ht.len
    refine ⟨_, rfl, a, rfl, ⟨_, SqT.of ha⟩, for_enum (xs := xs) (fun i σ H' => ∃ r1 r2, σ = [some (.ref a), r1, r2] ∧ Same H H' ∧ (∀ j c, j < i → t.bs[j]? = some c → c.fall = true) ∧ ∀ (j : Nat) (b c : Tr), j + 1 < i → t.bs[j]? = some b → t.bs[j + 1]? = some c → Tr.lt b c = false) ?_ ?_ ?_ ?_⟩
    · exact ⟨_, _, rfl, Same.refl _, fun j c h => absurd h (Nat.not_lt_zero _), fun j b c h => absurd h (Nat.not_lt_zero _)⟩
    · rintro i σ H' _ ⟨r1, r2, rfl, e, _⟩
      exact SqT.of (e _ _ ha)
    · rintro i x σ H0 hx ⟨r1, r2, rfl, e0, hf, hl⟩ p hp
      obtain ⟨c, hc, tc⟩ := ht.get hx
      have hcm : c ∈ t.bs := List.mem_of_getElem? hc
      have hcd := Tr.deep_mem hcm
      have s1 := same_new hp (.tup [.int (i : Nat), x])
      have e1 := e0.trans s1
      refine ⟨p, _, rfl, SqT.of upd_same, rfl, _, _, rfl, _, _, rfl, rfl, ?_⟩
      have at1 := e1.tup (SqT.of (K := K) ha)
      have tc1 := tc.same e1
      have next : ∀ (H' : Hp), Same (upd H0 p (.tup [.int (i : Nat), x])) H' → c.fall = true → (∀ (b : Tr), 0 < i → t.bs[i - 1]? = some b → Tr.lt b c = false) →
          ∃ r1 r2, [some (V.ref a), some (V.int (i : Nat)), some x] = [some (.ref a), r1, r2] ∧ Same H H' ∧ (∀ j c, j < i + 1 → t.bs[j]? = some c → c.fall = true) ∧ ∀ (j : Nat) (b c : Tr), j + 1 < i + 1 → t.bs[j]? = some b → t.bs[j + 1]? = some c → Tr.lt b c = false := fun H' e' h1 h2 => by
        refine ⟨_, _, rfl, e1.trans e', fun j d hj hjd => ?_, fun j b d hj hb hjd => ?_⟩
        · by_cases z : j = i
          · subst z; rw [hc] at hjd; cases hjd; exact h1
          · exact hf j d (by omega) hjd
        · by_cases z : j + 1 = i
          · subst z
            rw [hc] at hjd; cases hjd
            exact h2 b (by omega) (by simpa using hb)
          · exact hl j b d (by omega) hb hjd
      have fin : ∀ (H' : Hp), Same (upd H0 p (.tup [.int (i : Nat), x])) H' → (c.fall = false ∨ ∃ b, 0 < i ∧ t.bs[i - 1]? = some b ∧ Tr.lt b c = true) → Q (.bl false) H' := fun H' e' h => by
        have hfalse : t.fall = false := by
          refine Bool.eq_false_iff.mpr fun z => ?_
          obtain ⟨z1, z2⟩ := (Tr.fall_iff t).mp z
          rcases h with h | ⟨b, hi, hb, h⟩
          · rw [z1 c hcm] at h; cases h
          · rw [z2 (i - 1) b c hb (by rw [show i - 1 + 1 = i by omega]; exact hc)] at h; cases h
        have := q H' (e1.trans e')
        rw [hfalse] at this
        exact this
      -- the bough ahead
      have ahead : 0 < i → ∃ y b, atI xs ((i : Int) - 1) = some y ∧ t.bs[i - 1]? = some b ∧ Tv H b y ∧ b.deep < t.deep := fun hi => by
        have hi2 : i - 1 < xs.length := by
          have := (List.getElem?_eq_some_iff.mp hx).1
          omega
        obtain ⟨b, hb, tb⟩ := ht.get (i := i - 1) (v := xs[i - 1]) (by simp [hi2])
        refine ⟨xs[i - 1], b, ?_, hb, tb, Tr.deep_mem (List.mem_of_getElem? hb)⟩
        have := atI_nat (xs := xs) (j := i - 1) (v := xs[i - 1]) (by simp [hi2])
        rwa [show (((i - 1 : Nat)) : Int) = (i : Int) - 1 by omega] at this
      have body2 : ∀ (nx : St → Hp → Prop), (∀ H', Same (upd H0 p (.tup [.int (i : Nat), x])) H' → c.fall = true → (∀ (b : Tr), 0 < i → t.bs[i - 1]? = some b → Tr.lt b c = false) → nx [some (.ref a), some (.int (i : Nat)), some x] H') → True := fun _ _ => trivial
      refine ⟨_, rfl, _, _, rfl, rfl, _, rfl, ite2 (fun hk => ?_) (fun hk => ?_)⟩
      · have hi : 0 < i := by have := of_decide_eq_true hk; omega
        obtain ⟨y, b, hat, hb, tb, hbd⟩ := ahead hi
        refine ⟨_, rfl, _, rfl, _, rfl, _, _, rfl, rfl, _, _, _, _, rfl, rfl, at1, hat, c, b, tc1, tb.same e1, by omega, _, rfl, ite2 (fun hcb => ?_) (fun hcb => ?_)⟩
        · have ecb : c = b := by simpa using hcb
          refine next _ (Same.refl _) ?_ fun b' _ hb' => ?_
          · rw [ecb]; exact hf (i - 1) b (by omega) hb
          · rw [hb] at hb'; cases hb'
            rw [ecb]; exact Tr.lt_irrefl _
        · refine ⟨_, rfl, _, c, rfl, tc1, by omega, by omega, fun H2 e2 => ⟨_, rfl, ite2 (fun hcf => ?_) (fun hcf => ?_)⟩⟩
          · exact fin H2 e2 (.inl (by simpa using hcf))
          · have hcf' : c.fall = true := by simpa using hcf
            refine ⟨_, rfl, _, _, rfl, rfl, _, rfl, ite2 (fun _ => ?_) (fun hk' => absurd hk hk')⟩
            refine ⟨_, rfl, _, rfl, _, rfl, _, _, rfl, rfl, _, _, _, _, rfl, rfl, e2.tup at1, hat, c, b, tc1.same e2, (tb.same e1).same e2, by omega, _, rfl, ite2 (fun hlt => ?_) (fun hlt => ?_)⟩
            · exact fin H2 e2 (.inr ⟨b, hi, hb, hlt⟩)
            · refine next H2 e2 hcf' fun b' _ hb' => ?_
              rw [hb] at hb'; cases hb'
              simpa using hlt
      · have hi : ¬ 0 < i := fun z => hk (decide_eq_true (by omega))
        refine iteF ?_
        refine ⟨_, rfl, _, c, rfl, tc1, by omega, by omega, fun H2 e2 => ⟨_, rfl, ite2 (fun hcf => ?_) (fun hcf => ?_)⟩⟩
        · exact fin H2 e2 (.inl (by simpa using hcf))
        · have hcf' : c.fall = true := by simpa using hcf
          refine ⟨_, rfl, _, _, rfl, rfl, _, rfl, ite2 (fun hk' => absurd hk' hk) (fun _ => iteF ?_)⟩
          exact next H2 e2 hcf' fun b' h _ => absurd h hi
    · rintro σ H' ⟨r1, r2, rfl, e, hf, hl⟩
      have htrue : t.fall = true := (Tr.fall_iff t).mpr ⟨fun c hc => by
        obtain ⟨j, hj, rfl⟩ := List.getElem_of_mem hc
        exact hf j _ (by omega) (List.getElem?_eq_getElem hj), fun j b c hb hc => hl j b c (by
          have := (List.getElem?_eq_some_iff.mp hc).1
          omega) hb hc⟩
      have := q H' e
      rw [htrue] at this
      exact this
theorem sc_refuse_no_tree : FnScope ["thing"] ["thing"] (defScope s_refuse_no_tree) := ⟨rfl, rfl, rfl, by decide +kernel, rfl, by decide +kernel, by decide +kernel⟩
theorem ok_refuse_no_tree (F : Fn K mg "refuse_no_tree" s_refuse_no_tree ["thing"] f fd) (T_is_tree : Fn K mg "is_tree" s_is_tree ["thing"] g gd) (G_is_tree : FnOk P w K mg base CX0 8 g gd ["thing"] (spIsTree 8)) :
    FnOk P w K mg base CX0 9 f fd ["thing"] spRefuse := by
  have sc := sc_refuse_no_tree
  refine F.F.ok (k := 8) sc (fun vs H Q E h => ?_) (fun cdv A outer s H vs Q E hr h => ?_)
  · obtain ⟨v, t, rfl, _⟩ := h
    rfl
  obtain ⟨v, t, rfl, tv, hd, hf, q⟩ := h
  refine ⟨_, (pss_one (ps_if (pt_not (pt_val (pe_fn T_is_tree G_is_tree hr rfl (pa_cons (pv 0) pa_nil))))
    (pss_one ps_never)
    pss_nil)), ?_⟩
  refine ⟨_, rfl, v, t, rfl, tv, hd, by decide, fun H' e => ⟨_, rfl, ite2 (fun z => ?_) (fun _ => q H' e)⟩⟩
  rw [hf] at z
  cases z
end

/-! ### trees among things -/
theorem sm_row {n : Nat} (ih : ∀ {d : PyData} {t : Tr}, Sm n d → trOf d = some t → t.deep < n) : ∀ {ds : List PyData} {t : Tr}, trsOf ds = some t → (∀ e ∈ ds, Sm n e) → t.deep ≤ n
  | [], t, h, _ => by rw [trsOf] at h; cases h; exact Nat.zero_le _
  | d :: ds, t, h, k => by
    rw [trsOf] at h
    cases k1 : trOf d with
    | none => rw [k1] at h; simp at h
    | some b =>
      cases k2 : trsOf ds with
      | none => rw [k1, k2] at h; simp at h
      | some r =>
        rw [k1, k2] at h
        cases h
        have := ih (k d List.mem_cons_self) k1
        have := sm_row ih k2 fun e he => k e (List.mem_cons_of_mem _ he)
        rw [Tr.deep]
        omega
theorem sm_deep : ∀ {n : Nat} {d : PyData} {t : Tr}, Sm n d → trOf d = some t → t.deep < n
  | 0, d, t, h, k => by cases d <;> first | exact h.elim | (simp [trOf] at k)
  | n + 1, d, t, h, k => by
    cases d with
    | tuple ds =>
      obtain ⟨m, e, _, hall⟩ := h.un (.inl rfl)
      cases e
      rw [trOf] at k
      exact Nat.lt_succ_of_le (sm_row (fun a b => sm_deep a b) k hall)
    | none => simp [trOf] at k
    | bool _ => simp [trOf] at k
    | int _ => simp [trOf] at k
    | str _ => simp [trOf] at k
    | list _ => simp [trOf] at k
    | dict _ => simp [trOf] at k
def spTold1 (n : Nat) (g : PyData → Bool) : Sp := fun vs H Q _ => ∃ l d v m, vs = [v] ∧ n = m + 1 ∧ m ≤ 50 ∧ Sm m d ∧ Dt l H d v ∧ ∀ H', Same H H' → Q (.bl (g d)) H'
def tupsD (d : PyData) : Bool := (trOf d).isSome
theorem tupsD_row {ds : List PyData} : tupsD (.tuple ds) = true ↔ ∀ (j : Nat) (c : PyData), ds[j]? = some c → tupsD c = true := by
  unfold tupsD
  rw [trOf]
  induction ds with
  | nil => simp [trsOf]
  | cons d ds ih =>
    rw [trsOf]
    constructor
    · intro h j c hc
      cases k1 : trOf d with
      | none => rw [k1] at h; simp at h
      | some b =>
        cases k2 : trsOf ds with
        | none => rw [k1, k2] at h; simp at h
        | some r =>
          cases j with
          | zero => simp at hc; subst hc; rw [k1]; rfl
          | succ j => exact ih.mp (by rw [k2]; rfl) j c (by simpa using hc)
    · intro h
      have h1 := h 0 d (by simp)
      have h2 := ih.mpr fun j c hc => h (j + 1) c (by simpa using hc)
      cases k1 : trOf d with
      | none => rw [k1] at h1; simp at h1
      | some b =>
        cases k2 : trsOf ds with
        | none => rw [k2] at h2; simp at h2
        | some r => rfl
theorem fallD_tup {d : PyData} (h : isTupD d = false) : fallD d = false := fallD_no (by cases d <;> first | (simp [trOf]; done) | (simp [isTupD] at h))
theorem tupsD_tup {d : PyData} (h : isTupD d = false) : tupsD d = false := by unfold tupsD; cases d <;> first | (simp [trOf]; done) | (simp [isTupD] at h)
section
variable {P : Program} {w : World} {K : PySem.W.Frag} {mg : Str → Option Value} {base : Heap} {f g g1 g2 g3 g4 : Addr} {fd gd gd1 gd2 gd3 gd4 : FuncData}
theorem sc__law_tuples : FnScope ["_law_thing", "_law_one"] ["_law_thing"] (defScope s__law_tuples) := ⟨rfl, rfl, rfl, by decide +kernel, rfl, by decide +kernel, by decide +kernel⟩
theorem ok__law_tuples (T__law_tuples : Fn K mg "_law_tuples" s__law_tuples ["_law_thing"] f fd) (z_isinstance : mg "isinstance" = none) (z_tuple : mg "tuple" = none) :
    ∀ n, FnOk P w K mg base CX0 n f fd ["_law_thing"] (spTold1 n tupsD)
  | 0 => never_ok fun _ _ _ _ ⟨_, _, _, _, _, h, _⟩ => absurd h (Nat.succ_ne_zero _).symm
  | n + 1 => by
    have sc := sc__law_tuples
    have G__law_tuples := ok__law_tuples T__law_tuples z_isinstance z_tuple n
    refine T__law_tuples.F.ok (k := n) sc (fun vs H Q E h => ?_) (fun cdv A outer s H vs Q E hr h => ?_)
    · obtain ⟨l, d, v, m, rfl, _⟩ := h
      rfl
    obtain ⟨l, d, v, m, rfl, hm, hm5, hs, hd, q⟩ := h
    have hm : n = m := by omega
    subst hm
    refine ⟨_, (pss_cons (ps_if (pt_not (pt_val (pe_callB call_isi rfl z_isinstance PyProof.Rows.boot_isinstance (pa_cons (pv 0) (pa_cons (pe_bltn (v := .ty "tuple") rfl z_tuple PyProof.Rows.boot_tuple rfl) pa_nil)))))
    (pss_one (ps_ret pe_bl))
    pss_nil)
  (pss_cons (ps_for PassesOwn.never rfl (pi_tup (pv 0)) (pg_name (i := 1) sc.nd rfl (Or.inl rfl))
    (pss_one (ps_if (pt_not (pt_val (pe_fn T__law_tuples G__law_tuples hr rfl (pa_cons (pv 1) pa_nil))))
      (pss_one (ps_ret pe_bl))
      pss_nil)))
  (pss_one (ps_ret pe_bl)))), ?_⟩
    refine ⟨_, rfl, _, _, _, _, rfl, nnt, hd.ty, kit_tupD K d hd.nodict, _, rfl, ?_⟩
    by_cases hT : isTupD d = false
    · rw [hT]
      have := q H (.refl H)
      rw [tupsD_tup hT] at this
      exact iteT this
    have hT : isTupD d = true := by simpa using hT
    rw [hT]
    refine iteF ?_
    obtain ⟨ds, rfl⟩ : ∃ ds, d = .tuple ds := by cases d <;> first | exact ⟨_, rfl⟩ | exact absurd hT (by simp [isTupD])
    obtain ⟨m, rfl, hw, hall⟩ := hs.un (.inl rfl)
    rw [Dt] at hd
    obtain ⟨a, xs, rfl, na, ha, ht⟩ := hd
    have hlen := ht.len
    have row := tupsD_row (ds := ds)
    refine ⟨_, rfl, a, rfl, ⟨_, SqT.of ha⟩, for_tup (xs := xs) (fun i σ H' => ∃ r1, σ = [some (.ref a), r1] ∧ Same H H' ∧ ∀ j c, j < i → ds[j]? = some c → tupsD c = true) ?_ ?_ ?_ ?_⟩
    · exact ⟨_, rfl, Same.refl _, fun j c h => absurd h (Nat.not_lt_zero _)⟩
    · rintro i σ H' _ ⟨r1, rfl, e, _⟩
      exact SqT.of (e _ _ ha)
    · rintro i x σ H0 hx ⟨r1, rfl, e0, hf⟩
      obtain ⟨c, hc, tc⟩ := ht.get hx
      refine ⟨_, rfl, l, c, x, m, rfl, rfl, by omega, hall c (List.mem_of_getElem? hc), tc.same e0, fun H2 e2 => ⟨_, rfl, ite2 (fun hcf => ?_) (fun hcf => ?_)⟩⟩
      · have hcf' : tupsD c = false := by simpa using hcf
        have : tupsD (.tuple ds) = false := Bool.eq_false_iff.mpr fun z => by
          rw [row.mp z i c hc] at hcf'; cases hcf'
        have z := q H2 (e0.trans e2)
        rw [this] at z
        exact z
      · have hcf' : tupsD c = true := by simpa using hcf
        refine ⟨_, rfl, e0.trans e2, fun j d hj hd => ?_⟩
        by_cases z : j = i
        · subst z; rw [hc] at hd; cases hd; exact hcf'
        · exact hf j d (by omega) hd
    · rintro σ H' ⟨r1, rfl, e, hf⟩
      have htrue : tupsD (.tuple ds) = true := row.mpr fun j c hc => hf j c (by
          have := (List.getElem?_eq_some_iff.mp hc).1
          omega) hc
      have := q H' e
      rw [htrue] at this
      exact this
end

/-! ### the laws' own trees -/
def spCell (K : PySem.W.Frag) : Sp := fun vs H Q _ => ∃ (a : Addr) (ns : List Int) (k : Int), vs = [.ref a, .int k] ∧ SqL K H a (ns.map V.int) ∧ 0 ≤ k ∧ ∀ c : Int, Q (.int c) H
def spMixT : Sp := fun vs H Q _ => ∃ c k, vs = [.int c, .int k] ∧ ∀ r : Int, 0 ≤ r → r < 2147483587 → Q (.int r) H
def natV (ps : List Nat) : List V := ps.map fun p => V.int (p : Nat)
def spParents : Sp := fun vs H Q _ => ∃ r most : Int, vs = [.int r, .int most] ∧ 1 ≤ most ∧ most ≤ 7 ∧ ∀ (l : Addr) (H' : Hp) (ps : List Nat), Same H H' → Tr.PsOk ps → (ps.length : Int) ≤ most → H' l = some (.lst (natV ps)) → Q (.ref l) H'
def spGrown (K : PySem.W.Frag) : Sp := fun vs H Q _ => ∃ (a : Addr) (ps : List Nat), vs = [.ref a] ∧ SqL K H a (natV ps) ∧ Tr.PsOk ps ∧ ps.length ≤ 7 ∧ ∀ (v : V) (H' : Hp), Same H H' → Tv H' (Tr.grown ps) v → Q v H'
theorem natV_len (ps : List Nat) : (natV ps).length = ps.length := List.length_map _
theorem natV_get {ps : List Nat} {k p : Nat} (h : ps[k]? = some p) : (natV ps)[k]? = some (.int (p : Nat)) := by
  unfold natV; rw [List.getElem?_map, h]; rfl
theorem size8 {n : Nat} (h : n < 64) : n < sizeLine := Nat.lt_of_lt_of_le h (by rw [sizeLine_eq]; decide)
section
variable {P : Program} {w : World} {K : PySem.W.Frag} {mg : Str → Option Value} {base : Heap} {f g g1 g2 g3 g4 : Addr} {fd gd gd1 gd2 gd3 gd4 : FuncData}
theorem sc__law_cell_at : FnScope ["_law_script", "_law_k"] ["_law_script", "_law_k"] (defScope s__law_cell_at) := ⟨rfl, rfl, rfl, by decide +kernel, rfl, by decide +kernel, by decide +kernel⟩
theorem ok__law_cell_at (F : Fn K mg "_law_cell_at" s__law_cell_at ["_law_script", "_law_k"] f fd) (z_len : mg "len" = none) : FnOk P w K mg base CX0 1 f fd ["_law_script", "_law_k"] (spCell K) := by
  have sc := sc__law_cell_at
  refine F.F.ok (k := 0) sc (fun vs H Q E h => ?_) (fun cdv A outer s H vs Q E hr h => ?_)
  · obtain ⟨a, ns, k, rfl, _⟩ := h
    rfl
  obtain ⟨a, ns, k, rfl, hS, h0, q⟩ := h
  refine ⟨_, (pss_cons (ps_if (pt_cmpR op_lt (pv 1) (pe_callB call_len_seq rfl z_len PySem.boot_len (pa_cons (pv 0) pa_nil)) (nomark _))
    (pss_one (ps_ret (pe_ix ix_list (pv 0) (pv 1) (fun _ _ => rfl))))
    pss_nil)
  (pss_one (ps_ret pe_int))), ?_⟩
  refine ⟨_, rfl, _, rfl, a, _, rfl, .inl hS, _, _, rfl, rfl, _, rfl, ite2 (fun c => ?_) (fun _ => q _)⟩
  have c' : k < (((ns.map V.int).length : Nat) : Int) := of_decide_eq_true c
  rw [List.length_map] at c'
  have hk : k.toNat < ns.length := by omega
  have hat : atI (ns.map V.int) k = some (.int ns[k.toNat]) := by
    have z := atI_nat (xs := ns.map V.int) (j := k.toNat) (v := .int ns[k.toNat]) (by rw [List.getElem?_map, List.getElem?_eq_getElem hk]; rfl)
    rwa [show ((k.toNat : Nat) : Int) = k by omega] at z
  exact ⟨_, rfl, _, rfl, a, _, _, _, rfl, rfl, hS, hat, q _⟩
theorem sc__law_mixed : FnScope ["_law_cell", "_law_k", "_law_number"] ["_law_cell", "_law_k"] (defScope s__law_mixed) := ⟨rfl, rfl, rfl, by decide +kernel, rfl, by decide +kernel, by decide +kernel⟩
theorem ok__law_mixed (F : Fn K mg "_law_mixed" s__law_mixed ["_law_cell", "_law_k"] f fd) : FnOk P w K mg base CX0 1 f fd ["_law_cell", "_law_k"] spMixT := by
  have sc := sc__law_mixed
  refine F.F.ok (k := 0) sc (fun vs H Q E h => ?_) (fun cdv A outer s H vs Q E hr h => ?_)
  · obtain ⟨a, b, rfl, _⟩ := h
    rfl
  obtain ⟨c, k, rfl, q⟩ := h
  refine ⟨_, (pss_cons (ps_set (i := 2) sc.nd rfl (Or.inl rfl) (pe_op op_mod (pe_op op_add (pe_op op_add (pe_op op_mulW (pe_op op_mod (pv 0) pe_int) pe_int) (pe_op op_mulW (pv 1) pe_int)) pe_int) pe_int))
  (pss_cons (ps_set (i := 2) sc.nd rfl (Or.inl rfl) (pe_op op_mod (pe_op op_mulW (pv 2) (pv 2)) pe_int))
  (pss_one (ps_ret (pe_op op_mod (pe_op op_mulW (pv 2) (pv 2)) pe_int))))), ?_⟩
  refine ⟨_, rfl, _, _, rfl, rfl, (by show (0 : Int) < 2147483647; decide), _, _, rfl, rfl, mulC (by decide) (by decide), _, rfl, _, _, rfl, rfl, mulC (by decide) (by decide), _, _, rfl, rfl, _, _, rfl, rfl, _, _, rfl, rfl, (by show (0 : Int) < 2147483647; decide), ?_⟩
  generalize (c % 2147483647 * 48271 + k * 69621 + 11) = z
  have z0 : 0 ≤ z % 2147483647 := Int.emod_nonneg _ (by decide)
  have z1 : z % 2147483647 < 2147483647 := Int.emod_lt_of_pos _ (by decide)
  refine ⟨_, rfl, _, rfl, _, _, rfl, rfl, mulC (by omega) (by omega), _, _, rfl, rfl, (by show (0 : Int) < 2147483629; decide), ?_⟩
  generalize (z % 2147483647 * (z % 2147483647)) = y
  have y0 : 0 ≤ y % 2147483629 := Int.emod_nonneg _ (by decide)
  have y1 : y % 2147483629 < 2147483629 := Int.emod_lt_of_pos _ (by decide)
  refine ⟨_, rfl, _, rfl, _, _, rfl, rfl, mulC (by omega) (by omega), _, _, rfl, rfl, (by show (0 : Int) < 2147483587; decide), ?_⟩
  exact q _ (Int.emod_nonneg _ (by decide)) (Int.emod_lt_of_pos _ (by decide))
theorem sc__law_rest : FnScope ["_law_script", "_law_k", "_law_cell", "_law_big"] ["_law_script", "_law_k"] (defScope s__law_rest) := ⟨rfl, rfl, rfl, by decide +kernel, rfl, by decide +kernel, by decide +kernel⟩
theorem ok__law_rest (F : Fn K mg "_law_rest" s__law_rest ["_law_script", "_law_k"] f fd) (T__law_cell_at : Fn K mg "_law_cell_at" s__law_cell_at ["_law_script", "_law_k"] g1 gd1) (T__law_mixed : Fn K mg "_law_mixed" s__law_mixed ["_law_cell", "_law_k"] g2 gd2)
    (G__law_cell_at : FnOk P w K mg base CX0 1 g1 gd1 ["_law_script", "_law_k"] (spCell K)) (G__law_mixed : FnOk P w K mg base CX0 1 g2 gd2 ["_law_cell", "_law_k"] spMixT) (z_abs : mg "abs" = none) : FnOk P w K mg base CX0 2 f fd ["_law_script", "_law_k"] (spCell K) := by
  have sc := sc__law_rest
  refine F.F.ok (k := 1) sc (fun vs H Q E h => ?_) (fun cdv A outer s H vs Q E hr h => ?_)
  · obtain ⟨a, ns, k, rfl, _⟩ := h
    rfl
  obtain ⟨a, ns, k, rfl, hS, h0, q⟩ := h
  refine ⟨_, (pss_cons (ps_set (i := 2) sc.nd rfl (Or.inl rfl) (pe_fn T__law_cell_at G__law_cell_at hr rfl (pa_cons (pv 0) (pa_cons (pv 1) pa_nil))))
  (pss_cons (ps_if (pt_cmpR op_ge (pe_callB call_abs rfl z_abs PyProof.Rows.boot_abs (pa_cons (pv 2) pa_nil)) (pe_op op_pow pe_int pe_int) (nomark _))
    (pss_one (ps_ret (pv 2)))
    pss_nil)
  (pss_cons (ps_set (i := 3) sc.nd rfl (Or.inl rfl) (pe_op op_add (pe_fn T__law_mixed G__law_mixed hr rfl (pa_cons (pv 2) (pa_cons (pv 1) pa_nil))) (pe_op op_mulW (pe_fn T__law_mixed G__law_mixed hr rfl (pa_cons (pv 2) (pa_cons (pe_op op_add (pv 1) pe_int) pa_nil))) pe_int)))
  (pss_one (ps_ret (pe_op op_add (pv 3) (pe_op op_mulW (pe_op op_mulW (pe_fn T__law_mixed G__law_mixed hr rfl (pa_cons (pv 2) (pa_cons (pe_op op_add (pv 1) pe_int) pa_nil))) pe_int) pe_int))))))), ?_⟩
  refine ⟨_, rfl, _, rfl, a, ns, k, rfl, hS, h0, fun c => ?_⟩
  refine ⟨_, rfl, _, rfl, _, _, rfl, rfl, ⟨by decide, by decide, by decide⟩, _, _, rfl, rfl, _, rfl, ite2 (fun _ => ⟨_, rfl, q _⟩) (fun _ => ?_)⟩
  refine ⟨_, rfl, _, rfl, _, _, rfl, fun r1 a1 b1 => ⟨_, rfl, _, rfl, _, _, rfl, rfl, _, _, rfl, fun r2 a2 b2 => ⟨_, _, rfl, rfl, mulC (by decide) (by decide), _, _, rfl, rfl, ?_⟩⟩⟩
  exact ⟨_, rfl, _, rfl, _, rfl, _, _, rfl, rfl, _, _, rfl, fun r3 a3 b3 => ⟨_, _, rfl, rfl, mulC (by decide) (by decide), _, _, rfl, rfl, mulC (by decide) (by decide), _, _, rfl, rfl, q _⟩⟩
theorem sc__law_parents : FnScope ["_law_rest_here", "_law_most", "_law_many", "_law_parents_here", "_law_k"] ["_law_rest_here", "_law_most"] (defScope s__law_parents) := ⟨rfl, rfl, rfl, by decide +kernel, rfl, by decide +kernel, by decide +kernel⟩
theorem ok__law_parents (F : Fn K mg "_law_parents" s__law_parents ["_law_rest_here", "_law_most"] f fd) (z_range : mg "range" = none) : FnOk P w K mg base CX0 1 f fd ["_law_rest_here", "_law_most"] spParents := by
  have sc := sc__law_parents
  refine F.F.ok (k := 0) sc (fun vs H Q E h => ?_) (fun cdv A outer s H vs Q E hr h => ?_)
  · obtain ⟨r, most, rfl, _⟩ := h
    rfl
  obtain ⟨r, most, rfl, m1, m7, q⟩ := h
  refine ⟨_, (pss_cons (ps_set (i := 2) sc.nd rfl (Or.inl rfl) (pe_op op_add pe_int (pe_op op_modN (pv 0) (pv 1))))
  (pss_cons (ps_set (i := 0) sc.nd rfl (Or.inl rfl) (pe_op op_fdivW (pv 0) (pv 1)))
  (pss_cons (ps_set (i := 3) sc.nd rfl (Or.inl rfl) (pe_lst (pa_cons pe_int pa_nil)))
  (pss_cons (ps_for PassesOwn.never rfl (pi_range2 rfl z_range (pa_cons pe_int (pa_cons (pv 2) pa_nil))) (pg_name (i := 4) sc.nd rfl (Or.inl rfl))
    (pss_cons (ps_expr (pe_bm PySem.F.plainAttrs_list PySem.F.slot_list_append PySem.F.type_list_append mt_append (pv 3) (pa_cons (pe_op op_modN (pv 0) (pv 4)) pa_nil)))
    (pss_one (ps_set (i := 0) sc.nd rfl (Or.inl rfl) (pe_op op_fdivW (pv 0) (pv 4))))))
  (pss_one (ps_ret (pv 3))))))), ?_⟩
  have f0 := Int.fmod_nonneg_of_pos r (show 0 < most by omega)
  have f1 := Int.fmod_lt_of_pos r (show 0 < most by omega)
  refine ⟨_, rfl, _, rfl, _, _, rfl, rfl, (by show most ≠ 0; omega), _, _, rfl, rfl, ?_⟩
  refine ⟨_, rfl, _, rfl, _, _, rfl, rfl, ⟨by omega, 64, by decide, by omega⟩, sz1, fun l hl => ?_⟩
  generalize hm : r.fmod most = mm at f0 f1
  refine ⟨_, rfl, 1, 1 + mm, rfl, ⟨by decide, by decide, by omega, by omega⟩, for_range (lo := 1) (n := (1 + mm - 1).toNat) (fun i σ H' => ∃ (rr : Int) (r4 : Option V) (ps : List Nat), σ = [some (.int rr), some (.int most), some (.int (1 + mm)), some (.ref l), r4] ∧ Same H H' ∧ H' l = some (.lst (natV ps)) ∧ ps.length = i + 1 ∧ ∀ k p, ps[k]? = some p → p < max k 1) ?_ ?_ ?_⟩
  · exact ⟨_, _, [0], rfl, same_new hl _, upd_same, rfl, fun k p e => by
      cases k with
      | zero => simp at e; omega
      | succ k => simp at e⟩
  · rintro i σ H0 hi ⟨rr, r4, ps, rfl, e0, hl0, hlen, hok⟩
    have k0 := Int.fmod_nonneg_of_pos rr (show 0 < (1 + (i : Int)) by omega)
    have k1 := Int.fmod_lt_of_pos rr (show 0 < (1 + (i : Int)) by omega)
    refine ⟨_, rfl, .inl ⟨rfl, _, SqL.of hl0⟩, _, rfl, _, rfl, _, _, rfl, rfl, (by show (1 + (i : Int)) ≠ 0; omega), l, _, _, rfl, rfl, hl0, size8 (by rw [natV_len]; omega), ?_⟩
    refine ⟨_, rfl, _, rfl, _, _, rfl, rfl, ⟨by omega, 64, by decide, by omega⟩, ?_⟩
    refine ⟨_, _, ps ++ [(rr.fmod (1 + (i : Int))).toNat], rfl, fun b o z => ?_, ?_, by simp [hlen], fun k p e => ?_⟩
    · rw [upd_ne (ne_of_none z hl)]; exact e0 _ _ z
    · rw [upd_same]
      show some (HO.lst (natV ps ++ [V.int (rr.fmod (1 + (i : Int)))])) = _
      unfold natV
      rw [List.map_append]
      congr 3
      simp only [List.map_cons, List.map_nil, List.cons.injEq, and_true, V.int.injEq]
      omega
    · by_cases hk : k < ps.length
      · rw [List.getElem?_append_left hk] at e
        exact hok k p e
      · rw [List.getElem?_append_right (by omega)] at e
        have hk2 : k - ps.length = 0 := by
          have := (List.getElem?_eq_some_iff.mp e).1
          simp at this; omega
        rw [hk2] at e
        simp at e
        omega
  · rintro σ H' ⟨rr, r4, ps, rfl, e, hl', hlen, hok⟩
    refine ⟨_, rfl, q l H' ps e ⟨by omega, hok⟩ ?_ hl'⟩
    omega
theorem sc__law_grown : FnScope ["_law_parents_here", "_law_boughs", "_law_k"] ["_law_parents_here"] (defScope s__law_grown) := ⟨rfl, rfl, rfl, by decide +kernel, rfl, by decide +kernel, by decide +kernel⟩
/-- the rows of boughs as they lie -/
def Rows (H H' : Hp) (D : Addr) (ls : List Addr) (B : List (List Tr)) (i : Nat) : Prop :=
  H' D = some (.lst (ls.map V.ref)) ∧ H D = none ∧ ls.length = B.length ∧ ls.Nodup ∧ Same H H' ∧ ∀ j l, ls[j]? = some l → H l = none ∧ l ≠ D ∧ ∃ xs, H' l = some (.lst xs) ∧ Ts H' (Tr.of (B.getD j [])) xs ∧ xs.length ≤ i ∧ (Tr.of (B.getD j [])).deep ≤ i
theorem ok__law_grown (F : Fn K mg "_law_grown" s__law_grown ["_law_parents_here"] f fd) (z_range : mg "range" = none) (z_len : mg "len" = none) (z_sorted : mg "sorted" = none) (z_tuple : mg "tuple" = none) : FnOk P w K mg base CX0 1 f fd ["_law_parents_here"] (spGrown K) := by
  have sc := sc__law_grown
  refine F.F.ok (k := 0) sc (fun vs H Q E h => ?_) (fun cdv A outer s H vs Q E hr h => ?_)
  · obtain ⟨a, ps, rfl, _⟩ := h
    rfl
  obtain ⟨a, ps, rfl, hS, hok, h7, q⟩ := h
  refine ⟨_, (pss_cons (ps_setCompr (i := 1) [".0", "_law_parent"] 1 [none, none] sc.nd rfl rfl (pi_list (pv 0)) (fun _ _ _ _ _ => pif_nil) (fun _ _ _ _ _ => (pe_lst pa_nil)))
  (pss_cons (ps_for PassesOwn.never rfl (pi_range3 rfl z_range (pa_cons (pe_op op_sub (pe_callB call_len_seq rfl z_len PySem.boot_len (pa_cons (pv 0) pa_nil)) pe_int) (pa_cons pe_int (pa_cons (pe_un un_neg pe_int) pa_nil)))) (pg_name (i := 2) sc.nd rfl (Or.inl rfl))
    (pss_one (ps_expr (pe_bm PySem.F.plainAttrs_list PySem.F.slot_list_append PySem.F.type_list_append mt_append (pe_ix ix_list (pv 1) (pe_ix ix_list (pv 0) (pv 2) (fun _ _ => rfl)) (fun _ _ => rfl)) (pa_cons (pe_callTy call_tuple_of rfl z_tuple PyProof.Rows.boot_tuple (pa_cons (pe_rev (pe_callB (call_sort (by have := hr.units; exact this)) rfl z_sorted PyProof.Rows.boot_sorted (pa_cons (pe_ix ix_list (pv 1) (pv 2) (fun _ _ => rfl)) pa_nil)) (pe_un un_neg pe_int)) pa_nil)) pa_nil)))))
  (pss_one (ps_ret (pe_callTy call_tuple_of rfl z_tuple PyProof.Rows.boot_tuple (pa_cons (pe_rev (pe_callB (call_sort (by have := hr.units; exact this)) rfl z_sorted PyProof.Rows.boot_sorted (pa_cons (pe_ix ix_list (pv 1) pe_int (fun _ _ => rfl)) pa_nil)) (pe_un un_neg pe_int)) pa_nil)))))), ?_⟩
  have hn := hok.1
  refine ⟨_, rfl, a, rfl, ⟨_, hS⟩, fun D hD => comp_by (n := (natV ps).length) (fun i ys H' => ∃ ls : List Addr, ys = ls.map V.ref ∧ ls.length = i ∧ ls.Nodup ∧ (∀ l ∈ ls, H l = none ∧ l ≠ D ∧ H' l = some (.lst [])) ∧ Same H H') ?_ ?_ ?_⟩
  · exact ⟨[], rfl, rfl, List.nodup_nil, (fun l z => by cases z), same_new hD _⟩
  · rintro i ys H0 hi ⟨ls, rfl, hl, hnd, hls, e0⟩ hD0
    refine ⟨⟨_, (natV ps)[i], e0.seq hS, by simp [hi]⟩, size8 (by rw [List.length_map]; rw [natV_len] at hi; omega), fun x H' y => ?_⟩
    obtain ⟨rfl, y⟩ := y
    unfold tNoIf
    refine iteT ⟨Nat.zero_le _, fun p hp => ⟨same_new hp _ _ _ hD0, cw_next hi ?_⟩⟩
    have hpD : p ≠ D := fun z => by rw [z, hD0] at hp; cases hp
    have hpl : p ∉ ls := fun z => by rw [(hls p z).2.2] at hp; cases hp
    have hpH : H p = none := by
      cases z : H p with
      | none => rfl
      | some o => rw [e0 _ _ z] at hp; cases hp
    refine ⟨ls ++ [p], by simp, by simp [hl], List.nodup_append.mpr ⟨hnd, by simp, fun x hx y hy => by simp at hy; subst hy; intro z; subst z; exact hpl hx⟩, fun l hl' => ?_, fun b o z => ?_⟩
    · rcases List.mem_append.mp hl' with hl' | hl'
      · obtain ⟨h1, h2, h3⟩ := hls l hl'
        refine ⟨h1, h2, ?_⟩
        rw [upd_ne h2]
        exact same_new hp _ _ _ h3
      · simp at hl'
        subst hl'
        exact ⟨hpH, hpD, by rw [upd_ne hpD]; exact upd_same⟩
    · rw [upd_ne (ne_of_none z hD)]
      exact same_new hp _ _ _ (e0 _ _ z)
  · rintro ys H0 ⟨ls, rfl, hl, hnd, hls, e0⟩ hD0
    refine ⟨⟨_, e0.seq hS, Nat.le_refl _⟩, ?_⟩
    rw [natV_len] at hl
    refine ⟨_, rfl, a, _, rfl, .inl (e0.seq hS), _, _, rfl, rfl, _, rfl, (ps.length : Int) - 1, 0, ?_, ⟨by omega, by omega, by decide, by decide⟩, for_rangeB (n := ((ps.length : Int) - 1 - 0).toNat) (fun i σ H' => ∃ r2, σ = [some (.ref a), some (.ref D), r2] ∧ Rows H H' D ls (Tr.gB ps i) i) ?_ ?_ ?_⟩
    · rw [natV_len]
    · refine ⟨_, rfl, hD0, hD, by rw [Tr.gB_len, hl], hnd, e0, fun j l hj => ?_⟩
      obtain ⟨h1, h2, h3⟩ := hls l (List.mem_of_getElem? hj)
      have hrow : (Tr.gB ps 0).getD j [] = [] := by
        rw [Tr.gB, List.getD_eq_getElem?_getD, List.getElem?_replicate]
        split <;> rfl
      refine ⟨h1, h2, [], h3, ?_, Nat.zero_le _, ?_⟩
      · rw [hrow]; exact Ts.nil
      · rw [hrow]; exact Nat.le_refl _
    · rintro i σ H1 hi ⟨r2, rfl, hR⟩
      obtain ⟨hD1, hDn, hlB, hnd, e1, hrows⟩ := hR
      have hki : (ps.length : Int) - 1 - (i : Nat) = ((ps.length - 1 - i : Nat) : Int) := by omega
      have hk1 : ps.length - 1 - i < ps.length := by omega
      have hk0 : 0 < ps.length - 1 - i := by omega
      have hpk := List.getElem?_eq_getElem hk1
      have hplt := hok.2 _ _ hpk
      have hpsd : ps.getD (ps.length - 1 - i) 0 = ps[ps.length - 1 - i] := by rw [List.getD_eq_getElem?_getD, hpk]; rfl
      have hlsn : ls.length = ps.length := hl
      have hp1 : ps[ps.length - 1 - i] < ls.length := by omega
      have hk2 : ps.length - 1 - i < ls.length := by omega
      have lp := List.getElem?_eq_getElem hp1
      have lk := List.getElem?_eq_getElem hk2
      obtain ⟨p1, p2, xp, p3, p4, p5, p6⟩ := hrows _ _ lp
      obtain ⟨k1, k2, xk, k3, k4, k5, k6⟩ := hrows _ _ lk
      have at1 : atI (natV ps) ((ps.length : Int) - 1 - (i : Nat)) = some (.int (ps[ps.length - 1 - i] : Nat)) := by rw [hki]; exact atI_nat (natV_get hpk)
      have at2 : atI (ls.map V.ref) ((ps[ps.length - 1 - i] : Nat) : Int) = some (.ref ls[ps[ps.length - 1 - i]]) := atI_nat (by rw [List.getElem?_map, lp]; rfl)
      have at3 : atI (ls.map V.ref) ((ps.length : Int) - 1 - (i : Nat)) = some (.ref ls[ps.length - 1 - i]) := by rw [hki]; exact atI_nat (by rw [List.getElem?_map, lk]; rfl)
      have hnek : ls[ps[ps.length - 1 - i]] ≠ ls[ps.length - 1 - i] := fun z => by
        have := (List.getElem_inj hnd).mp z
        omega
      refine ⟨_, rfl, _, rfl, _, rfl, a, _, _, _, rfl, rfl, e1.seq hS, at1, D, _, _, _, rfl, rfl, SqL.of hD1, at2, .inl ⟨rfl, _, SqL.of p3⟩, _, rfl, _, rfl, D, _, _, _, rfl, rfl, SqL.of hD1, at3, ?_⟩
      refine ⟨_, xk, Tr.of ((Tr.gB ps i).getD (ps.length - 1 - i) []), rfl, .inl (SqL.of k3), k4, by omega, by omega, fun l2 zs n2 hz => ?_⟩
      rw [Tr.bs_of] at hz
      have s2 := same_new n2 (.lst zs)
      refine ⟨_, rfl, l2, zs, rfl, rfl, SqL.of upd_same, fun l3 n3 => ?_⟩
      have s3 := same_new n3 (.lst zs.reverse)
      refine ⟨l3, _, rfl, .inl ⟨SqL.of upd_same, fun l4 n4 => ?_⟩⟩
      have s4 := same_new n4 (.tup zs.reverse)
      have e4 := s2.trans (s3.trans s4)
      have tz : Tv (upd (upd (upd H1 l2 (.lst zs)) l3 (.lst zs.reverse)) l4 (.tup zs.reverse)) (Tr.of (Tr.srt ((Tr.gB ps i).getD (ps.length - 1 - i) []))) (.ref l4) := by
        refine ⟨l4, _, rfl, upd_same, ?_⟩
        have := (hz.same e4).rev
        rw [Tr.bs_of, List.reverse_reverse] at this
        exact this
      revert e4 tz
      generalize upd (upd (upd H1 l2 (.lst zs)) l3 (.lst zs.reverse)) l4 (.tup zs.reverse) = H4
      intro e4 tz
      refine ⟨_, xp, _, rfl, rfl, e4 _ _ p3, size8 (by omega), ?_⟩
      have nD : ls[ps[ps.length - 1 - i]] ≠ D := p2
      have tS : TupS H4 (upd H4 ls[ps[ps.length - 1 - i]] (.lst (xp ++ [.ref l4]))) := TupS.upd (e4 _ _ p3)
      refine ⟨_, rfl, ?_, hDn, by rw [hlB, Tr.gB_len, Tr.gB_len], hnd, fun b o z => ?_, fun j l hj => ?_⟩
      · rw [upd_ne (Ne.symm nD)]; exact e4 _ _ hD1
      · rw [upd_ne (ne_of_none z p1)]; exact e4 _ _ (e1 _ _ z)
      · have hjl : j < ls.length := (List.getElem?_eq_some_iff.mp hj).1
        obtain ⟨j1, j2, xj, j3, j4, j5, j6⟩ := hrows j l hj
        refine ⟨j1, j2, ?_⟩
        rw [Tr.gB, Tr.gStep, hpsd]
        by_cases hjp : j = ps[ps.length - 1 - i]
        · subst hjp
          rw [lp] at hj
          cases hj
          rw [p3] at j3
          cases j3
          have hset : ((Tr.gB ps i).set ps[ps.length - 1 - i] ((Tr.gB ps i).getD ps[ps.length - 1 - i] [] ++ [Tr.of (Tr.srt ((Tr.gB ps i).getD (ps.length - 1 - i) []))])).getD ps[ps.length - 1 - i] [] = (Tr.gB ps i).getD ps[ps.length - 1 - i] [] ++ [Tr.of (Tr.srt ((Tr.gB ps i).getD (ps.length - 1 - i) []))] := by
            rw [List.getD_eq_getElem?_getD, List.getElem?_set_self (by rw [← hlB]; exact hp1)]
            rfl
          rw [hset]
          refine ⟨_, upd_same, ?_, by simp; omega, ?_⟩
          · have ap := ((p4.same e4).tups tS).append (Ts.cons (tz.tups tS) Ts.nil)
            rw [Tr.bs_of] at ap
            exact ap
          · refine (Tr.deep_of _ _).mpr fun c hc => ?_
            rcases List.mem_append.mp hc with hc | hc
            · have := (Tr.deep_of _ _).mp p6 c hc
              omega
            · rw [List.mem_singleton.mp hc]
              have := (Tr.deep_of _ _).mp k6
              have h2 : (Tr.of (Tr.srt ((Tr.gB ps i).getD (ps.length - 1 - i) []))).deep ≤ i := (Tr.deep_of _ _).mpr fun c hc => this c ((Tr.perm_srt _).mem_iff.mp hc)
              omega
        · have hset : ((Tr.gB ps i).set ps[ps.length - 1 - i] ((Tr.gB ps i).getD ps[ps.length - 1 - i] [] ++ [Tr.of (Tr.srt ((Tr.gB ps i).getD (ps.length - 1 - i) []))])).getD j [] = (Tr.gB ps i).getD j [] := by
            rw [List.getD_eq_getElem?_getD, List.getElem?_set_ne (Ne.symm hjp), List.getD_eq_getElem?_getD]
          rw [hset]
          have hne : l ≠ ls[ps[ps.length - 1 - i]] := fun z => by
            rw [List.getElem?_eq_getElem hjl] at hj
            have hj' : ls[j] = l := Option.some.inj hj
            rw [← hj'] at z
            exact hjp ((List.getElem_inj hnd).mp z)
          exact ⟨xj, by rw [upd_ne hne]; exact e4 _ _ j3, (j4.same e4).tups tS, by omega, by omega⟩
    · rintro σ H1 ⟨r2, rfl, hR⟩
      obtain ⟨hD1, hDn, hlB, hnd, e1, hrows⟩ := hR
      have h0 : 0 < ls.length := by omega
      have l0 := List.getElem?_eq_getElem h0
      obtain ⟨k1, k2, xk, k3, k4, k5, k6⟩ := hrows _ _ l0
      have at0 : atI (ls.map V.ref) (0 : Int) = some (.ref ls[0]) := atI_nat (j := 0) (by rw [List.getElem?_map, l0]; rfl)
      have hnn : ((ps.length : Int) - 1 - 0).toNat = ps.length - 1 := by omega
      rw [hnn] at k4 k5 k6
      refine ⟨_, rfl, D, _, _, _, rfl, rfl, SqL.of hD1, at0, _, xk, Tr.of ((Tr.gB ps (ps.length - 1)).getD 0 []), rfl, .inl (SqL.of k3), k4, by omega, by omega, fun l2 zs n2 hz => ?_⟩
      rw [Tr.bs_of] at hz
      have s2 := same_new n2 (.lst zs)
      refine ⟨_, rfl, l2, zs, rfl, rfl, SqL.of upd_same, fun l3 n3 => ?_⟩
      have s3 := same_new n3 (.lst zs.reverse)
      refine ⟨l3, _, rfl, .inl ⟨SqL.of upd_same, fun l4 n4 => ?_⟩⟩
      have s4 := same_new n4 (.tup zs.reverse)
      have e4 := s2.trans (s3.trans s4)
      refine q _ _ (e1.trans e4) ⟨l4, _, rfl, upd_same, ?_⟩
      have := (hz.same e4).rev
      rw [Tr.bs_of, List.reverse_reverse] at this
      exact this
end

/-! ### in falling order -/
theorem cut_to {xs : List V} {i : Nat} (h : i ≤ xs.length) : cutV xs none (some (i : Int)) = xs.take i := by
  unfold cutV HT.sIx
  have h0 : ¬ ((i : Int) < 0) := by omega
  simp [h, h0]
theorem cut_from {xs : List V} {i : Nat} (h : i ≤ xs.length) : cutV xs (some (i : Int)) none = xs.drop i := by
  unfold cutV HT.sIx
  have h0 : ¬ ((i : Int) < 0) := by omega
  simp [h, h0]
  rw [List.take_of_length_le (by simp)]
theorem size64 {n : Nat} (h : n ≤ 1000) : n < sizeLine := Nat.lt_of_le_of_lt h (by rw [sizeLine_eq]; decide)
theorem alloc_q {p : Addr} {H H' : Hp} {o : HO} (hH : upd H p o = H') (hp : H p = none) : Same H H' ∧ H' p = some o := by
  subst hH
  exact ⟨same_new hp o, upd_same⟩
def spFallAny (K : PySem.W.Frag) : Sp := fun vs H Q _ => ∃ p ys t, vs = [.ref p] ∧ (SqL K H p ys ∨ SqT K H p ys) ∧ Ts H t ys ∧ ys.length < 64 ∧ t.deep ≤ 60 ∧ ∀ v' H', Same H H' → Tv H' (Tr.of (Tr.srt t.bs)) v' → Q v' H'
theorem none_of {H H' : Hp} (e : Same H H') {p : Addr} (h : H' p = none) : H p = none := by
  cases q : H p with
  | none => rfl
  | some o => rw [e _ _ q] at h; cases h
section
variable {P : Program} {w : World} {K : PySem.W.Frag} {mg : Str → Option Value} {base : Heap} {f g g1 g2 g3 g4 : Addr} {fd gd gd1 gd2 gd3 gd4 : FuncData}
theorem sc_in_falling_order : FnScope ["boughs"] ["boughs"] (defScope s_in_falling_order) := ⟨rfl, rfl, rfl, by decide +kernel, rfl, by decide +kernel, by decide +kernel⟩
theorem ok_in_falling_order (F : Fn K mg "in_falling_order" s_in_falling_order ["boughs"] f fd) (z_sorted : mg "sorted" = none) (z_tuple : mg "tuple" = none) : FnOk P w K mg base CX0 1 f fd ["boughs"] (spFallAny K) := by
  have sc := sc_in_falling_order
  refine F.F.ok (k := 0) sc (fun vs H Q E h => ?_) (fun cdv A outer s H vs Q E hr h => ?_)
  · obtain ⟨p, ys, t, rfl, _⟩ := h
    rfl
  obtain ⟨p, ys, t, rfl, hS, ht, hl, hd, q⟩ := h
  refine ⟨_, (pss_one (ps_ret (pe_callTy call_tuple_of rfl z_tuple PyProof.Rows.boot_tuple (pa_cons (pe_sortR (by have := hr.units; exact this) rfl z_sorted (pa_cons (pv 0) pa_nil)) pa_nil)))), ?_⟩
  refine ⟨_, rfl, p, ys, t, rfl, hS, ht, hl, hd, fun l zs hl' hz => ?_⟩
  have es := same_new hl' (.lst zs)
  refine ⟨l, zs, rfl, .inl ⟨SqL.of upd_same, fun p2 n2 => ?_⟩⟩
  have e2 := same_new n2 (.tup zs)
  exact q _ _ (es.trans e2) ⟨p2, zs, rfl, upd_same, (hz.same es).same e2⟩
end

/-! ### the ties of a tree -/
def spTies (n : Nat) : Sp := fun vs H Q _ => ∃ v t, vs = [v] ∧ Tv H t v ∧ t.deep < n ∧ n ≤ 40 ∧ t.knots ≤ 8 ∧ ∀ p H' ys, Same H H' → H p = none → H' p = some (.lst ys) → Ts H' (Tr.of ((Tr.ties t).map Tr.pr)) ys → Q (.ref p) H'
def spTreeTies : Sp := fun vs H Q _ => ∃ v t, vs = [v] ∧ Tv H t v ∧ t.fall = true ∧ t.knots ≤ 7 ∧ ∀ p H' ys, Same H H' → H p = none → H' p = some (.lst ys) → Ts H' (Tr.of (Tr.srt ((Tr.ties t).map Tr.pr)).reverse) ys → Q (.ref p) H'
theorem tv_pr {H : Hp} {x : Tr × Tr} {v : V} (h : Tv H (Tr.pr x) v) : ∃ p u1 u2, v = .ref p ∧ H p = some (.tup [u1, u2]) ∧ Tv H x.1 u1 ∧ Tv H x.2 u2 := by
  obtain ⟨p, ys, rfl, hp, ht⟩ := h
  unfold Tr.pr at ht
  rw [Ts] at ht
  obtain ⟨a, its, u1, rfl, h1, h2, h3⟩ := ht
  rw [Ts] at h3
  obtain ⟨a2, its2, u2, rfl, h4, h5, h6⟩ := h3
  rw [Ts] at h6
  subst h6
  exact ⟨p, _, _, rfl, hp, ⟨_, _, rfl, h1, h2⟩, ⟨_, _, rfl, h4, h5⟩⟩
theorem pr_tv {H H' : Hp} {x : Tr × Tr} {p : Addr} {u1 u2 : V} (h : upd H p (.tup [u1, u2]) = H') (hp : H p = none) (h1 : Tv H x.1 u1) (h2 : Tv H x.2 u2) : Same H H' ∧ Tv H' (Tr.pr x) (.ref p) := by
  obtain ⟨e, z⟩ := alloc_q h hp
  exact ⟨e, p, _, rfl, z, Ts.cons (h1.same e) (Ts.cons (h2.same e) Ts.nil)⟩
section
variable {P : Program} {w : World} {K : PySem.W.Frag} {mg : Str → Option Value} {base : Heap} {f g g1 g2 g3 g4 : Addr} {fd gd gd1 gd2 gd3 gd4 : FuncData}
theorem sc_ties_within : FnScope ["tree", "ties", "k", "bough", "trunk", "part"] ["tree"] (defScope s_ties_within) := ⟨rfl, rfl, rfl, by decide +kernel, rfl, by decide +kernel, by decide +kernel⟩
theorem ok_ties_within (T_ties_within : Fn K mg "ties_within" s_ties_within ["tree"] f fd) (T_in_falling_order : Fn K mg "in_falling_order" s_in_falling_order ["boughs"] g gd)
    (g_in : FnOk P w K mg base CX0 1 g gd ["boughs"] (spFallAny K)) (z_enumerate : mg "enumerate" = none) : ∀ n, FnOk P w K mg base CX0 (n + 1) f fd ["tree"] (spTies n)
  | 0 => never_ok fun _ _ _ _ ⟨_, _, _, _, h, _⟩ => absurd h (Nat.not_lt_zero _)
  | n + 1 => by
    have sc := sc_ties_within
    have G_ties_within := ok_ties_within T_ties_within T_in_falling_order g_in z_enumerate n
    have G_in_falling_order := g_in.mono (show 1 ≤ n + 1 by omega)
    refine T_ties_within.F.ok (k := n + 1) sc (fun vs H Q E h => ?_) (fun cdv A outer s H vs Q E hr h => ?_)
    · obtain ⟨v, t, rfl, _⟩ := h
      rfl
    obtain ⟨v, t, rfl, ⟨a, xs, rfl, ha, ht⟩, hd, hn, hk, q⟩ := h
    refine ⟨_, (pss_cons (ps_set (i := 1) sc.nd rfl (Or.inl rfl) (pe_lst pa_nil))
  (pss_cons (ps_for PassesOwn.never rfl (pi_enum rfl z_enumerate (pa_cons (pv 0) pa_nil)) (pg_tup rfl (pgs_cons (pg_name (i := 2) sc.nd rfl (Or.inl rfl)) (pgs_cons (pg_name (i := 3) sc.nd rfl (Or.inl rfl)) pgs_nil)))
    (pss_cons (ps_expr (pe_bm PySem.F.plainAttrs_list PySem.F.slot_list_append PySem.F.type_list_append mt_append (pv 1) (pa_cons (pe_tup (pa_cons (pe_op op_catA (pe_slice sl_tup (pv 0) po_none (po_some (pv 2))) (pe_slice sl_tup (pv 0) (po_some (pe_op op_add (pv 2) pe_int)) po_none)) (pa_cons (pv 3) pa_nil))) pa_nil)))
    (pss_one (ps_for PassesOwn.never rfl (pi_list (pe_fn T_ties_within G_ties_within hr rfl (pa_cons (pv 3) pa_nil))) (pg_tup rfl (pgs_cons (pg_name (i := 4) sc.nd rfl (Or.inl rfl)) (pgs_cons (pg_name (i := 5) sc.nd rfl (Or.inl rfl)) pgs_nil)))
      (pss_one (ps_expr (pe_bm PySem.F.plainAttrs_list PySem.F.slot_list_append PySem.F.type_list_append mt_append (pv 1) (pa_cons (pe_tup (pa_cons (pe_fn T_in_falling_order G_in_falling_order hr rfl (pa_cons (pe_op op_catA (pe_op op_catA (pe_slice sl_tup (pv 0) po_none (po_some (pv 2))) (pe_tup (pa_cons (pv 4) pa_nil))) (pe_slice sl_tup (pv 0) (po_some (pe_op op_add (pv 2) pe_int)) po_none)) pa_nil)) (pa_cons (pv 5) pa_nil))) pa_nil))))))))
  (pss_one (ps_ret (pv 1))))), ?_⟩
    have hlen := ht.len
    have hsz : xs.length < 8 := by rw [hlen]; have := Tr.len_lt_knots t; omega
    have hdk := Tr.deep_lt_knots t
    refine ⟨(by show 0 ≤ sizeLine; decide), fun p5 n5 => ?_⟩
    generalize h5 : upd H p5 (.lst []) = H5
    obtain ⟨E5, z5⟩ := alloc_q h5 n5
    refine ⟨_, rfl, a, rfl, ⟨_, SqT.of (E5 _ _ ha)⟩, for_enum (xs := xs) (fun i σ H' => ∃ (r2 r3 r4 r5 : Option V) (ys : List V), σ = [some (.ref a), some (.ref p5), r2, r3, r4, r5] ∧ Same H H' ∧ H' p5 = some (.lst ys) ∧ Ts H' (Tr.of ((Tr.tiTo t.bs i).map Tr.pr)) ys) ?_ ?_ ?_ ?_⟩
    · exact ⟨_, _, _, _, [], rfl, E5, z5, Ts.nil⟩
    · rintro i σ H' _ ⟨r2, r3, r4, r5, ys, rfl, e, _⟩
      exact SqT.of (e _ _ ha)
    · rintro i x σ H0 hx ⟨r2, r3, r4, r5, ys, rfl, e0, zy, ty⟩ p hp
      obtain ⟨c, hc, tc⟩ := ht.get hx
      have hcm : c ∈ t.bs := List.mem_of_getElem? hc
      have hcd := Tr.deep_mem hcm
      have hck := Tr.knots_mem hcm
      have hil : i < xs.length := (List.getElem?_eq_some_iff.mp hx).1
      have hsplit : t.bs = t.bs.take i ++ c :: t.bs.drop (i + 1) := by
        have hi' : i < t.bs.length := by omega
        have : t.bs[i] = c := by
          have := List.getElem?_eq_getElem hi'
          rw [hc] at this
          exact (Option.some.inj this).symm
        rw [← this, ← List.drop_eq_getElem_cons hi', List.take_append_drop]
      have hksum : t.knots = 1 + ((t.bs.take i).map Tr.knots).sum + c.knots + ((t.bs.drop (i + 1)).map Tr.knots).sum := by
        have k1 := Tr.ksumR t.bs
        rw [Tr.of_bs] at k1
        have k3 := congrArg (fun l : List Tr => (l.map Tr.knots).sum) hsplit
        simp only [List.map_append, List.sum_append, List.map_cons, List.sum_cons] at k3
        omega
      have hyl : ys.length = (Tr.tiTo t.bs i).length := by rw [ty.len, Tr.bs_of, List.length_map]
      have hgi := Tr.tiTo_small (t := t) (i := i) (by omega)
      generalize h6 : upd H0 p (.tup [.int (i : Nat), x]) = H6
      obtain ⟨e6, z6⟩ := alloc_q h6 hp
      have E6 := e0.trans e6
      have zy6 := e6 _ _ zy
      refine ⟨p, _, rfl, SqT.of z6, rfl, _, _, rfl, _, _, rfl, rfl, ?_⟩
      refine ⟨_, rfl, .inl ⟨rfl, _, SqL.of zy6⟩, _, rfl, _, rfl, _, rfl, a, xs, rfl, SqT.of (E6 _ _ ha), ?_, fun q1 m1 => ?_⟩
      · have h0 : ¬ ((i : Int) < 0) := by omega
        unfold HT.sIx
        simp [h0]
        omega
      rw [cut_to (by omega)]
      generalize h8 : upd H6 q1 (.tup (xs.take i)) = H8
      obtain ⟨e8, z8⟩ := alloc_q h8 m1
      refine ⟨_, rfl, _, rfl, _, _, rfl, rfl, _, rfl, a, xs, rfl, SqT.of (e8 _ _ (E6 _ _ ha)), ?_, fun q4 m4 => ?_⟩
      · have h0 : ¬ ((i : Int) + 1 < 0) := by omega
        have h9 : ((i : Int) + 1).toNat = i + 1 := by omega
        rintro ⟨z, -⟩
        unfold HT.sIx at z
        simp only [h0, h9, if_false] at z
        omega
      have hcf : ((i : Int) + 1) = ((i + 1 : Nat) : Int) := by omega
      rw [hcf, cut_from (by omega)]
      generalize h11 : upd H8 q4 (.tup (xs.drop (i + 1))) = H11
      obtain ⟨e11, z11⟩ := alloc_q h11 m4
      refine ⟨q1, q4, _, _, rfl, rfl, e11 _ _ z8, z11, Nat.le_of_lt (size64 (by simp; omega)), fun q5 H12 e12 z12 => ?_⟩
      have E12 := e8.trans (e11.trans e12)
      have E612 := E6.trans E12
      have t12 : Tv H12 (Tr.of (t.bs.take i ++ t.bs.drop (i + 1))) (.ref q5) := by
        refine ⟨q5, _, rfl, z12, ?_⟩
        have b3 := Ts.append ((ht.same E612).take i) ((ht.same E612).drop (i + 1))
        simpa [Tr.bs_of] using b3
      refine ⟨_, rfl, (by show 2 ≤ sizeLine; decide), fun q6 m6 => ?_⟩
      generalize h13 : upd H12 q6 (.tup [.ref q5, x]) = H13
      obtain ⟨e13, tv13⟩ := pr_tv (x := (Tr.of (t.bs.take i ++ t.bs.drop (i + 1)), c)) h13 m6 t12 (tc.same E612)
      have E13 := E12.trans e13
      have z13 := E13 _ _ zy6
      refine ⟨p5, ys, .ref q6, rfl, rfl, z13, size64 (by omega), ?_⟩
      generalize h14 : upd H13 p5 (.lst (ys ++ [.ref q6])) = H14
      have tu14 : TupS H13 H14 := by rw [← h14]; exact TupS.upd z13
      have z14 : H14 p5 = some (.lst (ys ++ [.ref q6])) := by rw [← h14]; exact upd_same
      have E14 : Same H H14 := fun b o z => by
        rw [← h14, upd_ne (ne_of_none z n5)]
        exact E13 _ _ (E6 _ _ z)
      have t14 : Ts H14 (Tr.of ((Tr.tiTo t.bs i ++ [(Tr.of (t.bs.take i ++ t.bs.drop (i + 1)), c)]).map Tr.pr)) (ys ++ [.ref q6]) := by
        have := (Ts.append (ty.same (e6.trans E13)) (Ts.cons tv13 Ts.nil)).tups tu14
        simpa [Tr.bs_of, Tr.bs] using this
      have n14 : ∀ b, H14 b = none → H b = none := fun b => none_of E14
      refine ⟨_, rfl, x, c, rfl, tc.same E14, by omega, by omega, by omega, fun pB HB bs eB nB zB tB => ?_⟩
      have hbl : bs.length + 1 = c.knots := by rw [tB.len, Tr.bs_of, List.length_map, Tr.ties_len]
      have nB5 : pB ≠ p5 := fun z => by rw [z, z14] at nB; cases nB
      refine ⟨pB, rfl, ⟨_, SqL.of zB⟩, for_list (xs := bs) (fun j σ2 H2 => ∃ (r4 r5 : Option V) (zs : List V), σ2 = [some (.ref a), some (.ref p5), some (.int (i : Nat)), some x, r4, r5] ∧ Same H H2 ∧ TupS HB H2 ∧ H2 pB = some (.lst bs) ∧ H2 p5 = some (.lst zs) ∧
        Ts H2 (Tr.of ((Tr.tiTo t.bs i ++ (Tr.of (t.bs.take i ++ t.bs.drop (i + 1)), c) :: ((Tr.ties c).take j).map fun g => (Tr.of (Tr.srt (t.bs.take i ++ g.1 :: t.bs.drop (i + 1))), g.2)).map Tr.pr)) zs) ?_ ?_ ?_ ?_⟩
      · exact ⟨_, _, ys ++ [.ref q6], rfl, E14.trans eB, TupS.refl _, zB, eB _ _ z14, by simpa using t14.same eB⟩
      · rintro j σ2 H7 _ ⟨r4', r5', zs, rfl, _, _, zb, _⟩
        exact SqL.of zb
      · rintro j y σ2 H7 hy ⟨r4', r5', zs, rfl, E7, tu7, zb7, z7, t7⟩
        obtain ⟨gc, hgc, tg⟩ := tB.get hy
        rw [Tr.bs_of, List.getElem?_map] at hgc
        obtain ⟨gx, hgx, rfl⟩ := Option.map_eq_some_iff.mp hgc
        have hgk := Tr.ties_knots (List.mem_of_getElem? hgx)
        obtain ⟨pp, u1, u2, rfl, zp, tv1, tv2⟩ := tv_pr (tg.tups tu7)
        have hzl : zs.length ≤ 100 := by
          have := Tr.ties_len c
          rw [t7.len, Tr.bs_of, List.length_map, List.length_append, List.length_cons, List.length_map, List.length_take]
          omega
        refine ⟨pp, _, rfl, SqT.of zp, rfl, _, _, rfl, _, _, rfl, rfl, ?_⟩
        refine ⟨_, rfl, .inl ⟨rfl, _, SqL.of z7⟩, _, rfl, _, rfl, _, rfl, a, xs, rfl, SqT.of (E7 _ _ ha), ?_, fun q1 m1 => ?_⟩
        · have h0 : ¬ ((i : Int) < 0) := by omega
          unfold HT.sIx
          simp [h0]
          omega
        rw [cut_to (by omega)]
        generalize h8 : upd H7 q1 (.tup (xs.take i)) = H8
        obtain ⟨e8, z8⟩ := alloc_q h8 m1
        refine ⟨_, rfl, (by show 1 ≤ sizeLine; decide), fun q2 m2 => ?_⟩
        generalize h9 : upd H8 q2 (.tup [u1]) = H9
        obtain ⟨e9, z9⟩ := alloc_q h9 m2
        refine ⟨q1, q2, _, _, rfl, rfl, e9 _ _ z8, z9, Nat.le_of_lt (size64 (by simp; omega)), fun q3 H10 e10 z10 => ?_⟩
        have E10 := e8.trans (e9.trans e10)
        refine ⟨_, rfl, _, rfl, _, _, rfl, rfl, _, rfl, a, xs, rfl, SqT.of (E10 _ _ (E7 _ _ ha)), ?_, fun q4 m4 => ?_⟩
        · have h0 : ¬ ((i : Int) + 1 < 0) := by omega
          have h9 : ((i : Int) + 1).toNat = i + 1 := by omega
          rintro ⟨z, -⟩
          unfold HT.sIx at z
          simp only [h0, h9, if_false] at z
          omega
        rw [hcf, cut_from (by omega)]
        generalize h11 : upd H10 q4 (.tup (xs.drop (i + 1))) = H11
        obtain ⟨e11, z11⟩ := alloc_q h11 m4
        refine ⟨q3, q4, _, _, rfl, rfl, e11 _ _ z10, z11, Nat.le_of_lt (size64 (by simp; omega)), fun q5 H12 e12 z12 => ?_⟩
        have E12 := E10.trans (e11.trans e12)
        have E712 := E7.trans E12
        have t12 : Ts H12 (Tr.of (t.bs.take i ++ gx.1 :: t.bs.drop (i + 1))) ((xs.take i ++ [u1]) ++ xs.drop (i + 1)) := by
          have b1 := (ht.same E712).take i
          have b2 := (ht.same E712).drop (i + 1)
          have b3 := Ts.append (Ts.append b1 (Ts.cons (tv1.same E12) Ts.nil)) b2
          simpa [Tr.bs_of, Tr.bs] using b3
        have k12 : (Tr.of (t.bs.take i ++ gx.1 :: t.bs.drop (i + 1))).knots ≤ 10 := by
          rw [Tr.ksumR]
          simp only [List.map_append, List.sum_append, List.map_cons, List.sum_cons]
          omega
        have d12 := Tr.deep_lt_knots (Tr.of (t.bs.take i ++ gx.1 :: t.bs.drop (i + 1)))
        refine ⟨q5, _, _, rfl, .inr (SqT.of z12), t12, by simp; omega, by omega, fun v13 H13 e13 tv13 => ?_⟩
        rw [Tr.bs_of] at tv13
        have E13 := E12.trans e13
        refine ⟨_, rfl, (by show 2 ≤ sizeLine; decide), fun q6 m6 => ?_⟩
        generalize h14 : upd H13 q6 (.tup [v13, u2]) = H14
        obtain ⟨e14, tv14⟩ := pr_tv (x := (Tr.of (Tr.srt (t.bs.take i ++ gx.1 :: t.bs.drop (i + 1))), gx.2)) h14 m6 tv13 (tv2.same E13)
        have E14 := E13.trans e14
        have z14 := E14 _ _ z7
        refine ⟨p5, zs, .ref q6, rfl, rfl, z14, size64 (by omega), ?_⟩
        have tu : TupS H14 (upd H14 p5 (.lst (zs ++ [.ref q6]))) := TupS.upd z14
        refine ⟨_, _, zs ++ [.ref q6], rfl, fun b o z => ?_, ?_, ?_, upd_same, ?_⟩
        · rw [upd_ne (ne_of_none z n5)]
          exact E14 _ _ (E7 _ _ z)
        · exact tu7.trans ((TupS.of E14).trans tu)
        · rw [upd_ne nB5]
          exact E14 _ _ zb7
        · have := (Ts.append (t7.same E14) (Ts.cons tv14 Ts.nil)).tups tu
          rw [List.take_succ, hgx]
          simpa [Tr.bs_of, Tr.bs] using this
      · rintro σ2 H7 ⟨r4', r5', zs, rfl, E7, tu7, zb7, z7, t7⟩
        refine ⟨_, _, _, _, zs, rfl, E7, z7, ?_⟩
        rw [show bs.length = (Tr.ties c).length by have := Tr.ties_len c; omega, List.take_length] at t7
        rw [Tr.tiTo, hc]
        exact t7
    · rintro σ H' ⟨r2, r3, r4, r5, ys, rfl, e, zy, ty⟩
      refine ⟨_, rfl, q p5 H' ys e n5 zy ?_⟩
      rw [Tr.ties_all, ← hlen]
      exact ty
theorem sc_tree_ties : FnScope ["tree"] ["tree"] (defScope s_tree_ties) := ⟨rfl, rfl, rfl, by decide +kernel, rfl, by decide +kernel, by decide +kernel⟩
theorem ok_tree_ties (F : Fn K mg "tree_ties" s_tree_ties ["tree"] f fd) (T_refuse_no_tree : Fn K mg "refuse_no_tree" s_refuse_no_tree ["thing"] g1 gd1) (T_ties_within : Fn K mg "ties_within" s_ties_within ["tree"] g2 gd2)
    (G_refuse_no_tree : FnOk P w K mg base CX0 9 g1 gd1 ["thing"] spRefuse) (G_ties_within : FnOk P w K mg base CX0 9 g2 gd2 ["tree"] (spTies 8)) (z_sorted : mg "sorted" = none) :
    FnOk P w K mg base CX0 10 f fd ["tree"] spTreeTies := by
  have sc := sc_tree_ties
  refine F.F.ok (k := 9) sc (fun vs H Q E h => ?_) (fun cdv A outer s H vs Q E hr h => ?_)
  · obtain ⟨v, t, rfl, _⟩ := h
    rfl
  obtain ⟨v, t, rfl, tv, hf, hk, q⟩ := h
  refine ⟨_, (pss_cons (ps_expr (pe_fn T_refuse_no_tree G_refuse_no_tree hr rfl (pa_cons (pv 0) pa_nil)))
  (pss_one (ps_ret (pe_callB (call_sort (by have := hr.units; exact this)) rfl z_sorted PyProof.Rows.boot_sorted (pa_cons (pe_fn T_ties_within G_ties_within hr rfl (pa_cons (pv 0) pa_nil)) pa_nil))))), ?_⟩
  have hdk := Tr.deep_lt_knots t
  refine ⟨_, rfl, v, t, rfl, tv, by omega, hf, fun H1 e1 => ⟨_, rfl, v, t, rfl, tv.same e1, by omega, by decide, by omega, fun p H2 ys e2 np zp tp => ?_⟩⟩
  have hyl : ys.length = (Tr.ties t).length := by rw [tp.len, Tr.bs_of, List.length_map]
  have htl := Tr.ties_len t
  refine ⟨p, ys, _, rfl, .inl (SqL.of zp), tp, by omega, ?_, fun l zs nl hz => ?_⟩
  · refine (Tr.deep_of _ _).mpr fun c hc => ?_
    obtain ⟨x, hx, rfl⟩ := List.mem_map.mp hc
    have h1 := Tr.ties_knots hx
    have h2 := Tr.deep_lt_knots x.1
    have h3 := Tr.deep_lt_knots x.2
    have h4 := Tr.pr_deep (x := x) (n := 10) (by omega) (by omega)
    omega
  · rw [Tr.bs_of] at hz
    have es := same_new nl (.lst zs)
    exact q l _ zs (e1.trans (e2.trans es)) (none_of (e1.trans e2) nl) upd_same (hz.same es)
end

theorem alloc_p {l p : Addr} {H H' : Hp} {o y : HO} (hH : upd H p o = H') (hl : H l = some y) (hp : H p = none) : Same H H' ∧ H' p = some o ∧ H' l = some y := by
  subst hH
  have es := same_new hp o
  exact ⟨es, upd_same, es _ _ hl⟩
theorem size60 {n : Nat} (h : n ≤ 60) : n < sizeLine := Nat.lt_of_le_of_lt h (by rw [sizeLine_eq]; decide)
def spAlone (C : Addr) : Sp := fun vs H Q _ => ∃ ea, vs = [.ref ea] ∧ H ea = some (excO ea (.ref C)) ∧ ∀ H', Same H H' → Q (.bl true) H'
def told12 : List Bool := [false, false, false, false, false, false, false, false, false, false, false, true]
theorem dats_tr : ∀ t : Tr, trsOf (datsOf t) = some t
  | .nil => by rw [datsOf, trsOf]
  | .cons b r => by rw [datsOf, trsOf, trOf, dats_tr b, dats_tr r]; rfl
theorem dat_tr (t : Tr) : trOf (.tuple (datsOf t)) = some t := by rw [trOf, dats_tr]
theorem dats_of : ∀ l : List Tr, datsOf (Tr.of l) = l.map fun c => .tuple (datsOf c)
  | [] => rfl
  | c :: r => by rw [Tr.of, datsOf, List.map_cons, dats_of r]
def spGood : Sp := fun vs H Q _ => ∃ pT pD ys zs l, vs = [.ref pT, .ref pD] ∧ H pT = some (.lst ys) ∧ H pD = some (.lst zs) ∧ Ts H (Tr.of l) ys ∧ Ts H (Tr.of l) zs ∧ (∀ x ∈ l, x.knots ≤ 8) ∧ l.length ≤ 400 ∧ ∀ H', Same H H' → Q (.bl true) H'
section
variable {P : Program} {w : World} {K : PySem.W.Frag} {mg : Str → Option Value} {base : Heap} {f g g1 g2 g3 g4 g5 g6 : Addr} {fd gd gd1 gd2 gd3 gd4 gd5 gd6 : FuncData}
theorem sc__law_good : FnScope ["_law_found", "_law_due"] ["_law_found", "_law_due"] (defScope s__law_good) := ⟨rfl, rfl, rfl, by decide +kernel, rfl, by decide +kernel, by decide +kernel⟩
theorem ok__law_good (F : Fn K mg "_law_good" s__law_good ["_law_found", "_law_due"] f fd) (T__law_tuples : Fn K mg "_law_tuples" s__law_tuples ["_law_thing"] g gd) (G__law_tuples : FnOk P w K mg base CX0 21 g gd ["_law_thing"] (spTold1 21 tupsD)) (z_isinstance : mg "isinstance" = none) (z_list : mg "list" = none) (z_all : mg "all" = none) :
    FnOk P w K mg base CX0 22 f fd ["_law_found", "_law_due"] spGood := by
  have sc := sc__law_good
  refine F.F.ok (k := 21) sc (fun vs H Q E h => ?_) (fun cdv A outer s H vs Q E hr h => ?_)
  · obtain ⟨pT, pD, ys, zs, l, rfl, _⟩ := h
    rfl
  obtain ⟨pT, pD, ys, zs, l, rfl, zT, zD, tT, tD, hk, hl, q⟩ := h
  refine ⟨_, (pss_one (ps_ret (pe_and (pe_callB call_isi rfl z_isinstance PyProof.Rows.boot_isinstance (pa_cons (pv 0) (pa_cons (pe_bltn (v := .ty "list") rfl z_list PyProof.Rows.boot_list rfl) pa_nil))) (pe_and (pe_cmpR (op_eqD (by have := hr.units; exact this)) (pv 0) (pv 1) (nomark _)) (pe_one (pe_callB (call_all rfl) rfl z_all PyProof.Rows.boot_all (pa_cons (pe_compr [".0", "_law_pair"] 1 [none, none] (pi_list (pv 0)) (fun _ _ _ _ _ => pif_nil) (fun _ _ _ _ _ => (pe_fn T__law_tuples G__law_tuples hr rfl (pa_cons (pv 1) pa_nil)))) pa_nil))))))), ?_⟩
  have hyl : ys.length = l.length := by rw [tT.len, Tr.bs_of]
  have nT : ∀ xs, H pT ≠ some (.tup xs) := fun xs z => by rw [zT] at z; cases z
  have sm : ∀ x ∈ l, Sm 19 (.tuple (datsOf x)) := fun x hx => by
    have h1 := hk x hx
    have h2 := Tr.deep_lt_knots x
    exact (sm_dat 18 x (by omega) (by omega)).1
  have ok : Ok 20 (.list (datsOf (Tr.of l))) := .lst (.of fun d hd => by
    rw [dats_of] at hd
    obtain ⟨x, hx, rfl⟩ := List.mem_map.mp hd
    exact (sm x hx).ok)
  refine ⟨_, rfl, _, _, _, _, rfl, nnt, TyOf.lst zT, kit_ll K, true, rfl, iteT ?_⟩
  have b1 : Br K H (.list (datsOf (Tr.of l))) (.ref pT) := by rw [Br]; exact ⟨pT, ys, rfl, SqL.of zT, (ts_dt nT tT).br⟩
  have b2 : Br K H (.list (datsOf (Tr.of l))) (.ref pD) := by rw [Br]; exact ⟨pD, zs, rfl, SqL.of zD, (ts_dt nT tD).br⟩
  refine ⟨_, rfl, _, rfl, _, _, b1, b2, ok.shaped (by decide), ok.shaped (by decide), true, by simp [eqv_self _ ok.1], iteT ?_⟩
  refine ⟨_, rfl, pT, rfl, ⟨_, SqL.of zT⟩, fun D hD => comp_by (n := ys.length) (fun i us H' => Same H H' ∧ us = (List.replicate i true).map V.bl) ?_ ?_ ?_⟩
  · exact ⟨same_new hD _, rfl⟩
  · rintro i us H0 hi ⟨e0, rfl⟩ hD0
    refine ⟨⟨ys, ys[i], SqL.of (e0 _ _ zT), by simp [hi]⟩, size64 (by simp; omega), fun x H' y => ?_⟩
    obtain ⟨rfl, y⟩ := y
    have hx := y ys (SqL.of (e0 _ _ zT))
    obtain ⟨c, hc, tc⟩ := tT.get hx
    rw [Tr.bs_of] at hc
    have nT0 : ∀ xs, H' pT ≠ some (.tup xs) := fun xs z => by rw [e0 _ _ zT] at z; cases z
    unfold tNoIf
    refine iteT ⟨_, rfl, pT, .tuple (datsOf c), x, 20, rfl, rfl, by decide, (sm c (List.mem_of_getElem? hc)).up, tv_dt nT0 (tc.same e0), fun H2 e2 => ⟨e2 _ _ hD0, cw_next hi ⟨?_, ?_⟩⟩⟩
    · exact fun b o z => by
        rw [upd_ne (ne_of_none z hD)]
        exact e2 _ _ (e0 _ _ z)
    · have : tupsD (.tuple (datsOf c)) = true := by
        unfold tupsD
        rw [dat_tr]
        rfl
      rw [this, List.replicate_succ', List.map_append]
      rfl
  · rintro us H0 ⟨e0, rfl⟩ hD0
    refine ⟨⟨ys, SqL.of (e0 _ _ zT), Nat.le_refl _⟩, ?_⟩
    refine ⟨D, List.replicate ys.length true, rfl, SqL.of hD0, ?_⟩
    have : (List.replicate ys.length true).all id = true := by simp
    rw [this]
    exact q _ e0
end

/-! ### the law of ties -/
def spPart (K : PySem.W.Frag) (n : Nat) : Sp := fun vs H Q _ => ∃ (a g : Addr) (ps gone : List Nat) (root : Nat), vs = [.ref a, .int root, .ref g] ∧ SqL K H a (natV ps) ∧ SqL K H g (natV gone) ∧ ps.length ≤ 7 ∧ n ≤ 20 ∧ root < ps.length ∧ ps.length ≤ root + n ∧ ∀ v H', Same H H' → Tv H' (Tr.lpart ps gone n root) v → Q v H'
theorem natV_at {ps : List Nat} {k : Nat} (h : k < ps.length) : atI (natV ps) (k : Int) = some (.int (ps.getD k 0 : Nat)) := by
  refine atI_nat (natV_get ?_)
  rw [List.getElem?_eq_getElem h, List.getD_eq_getElem?_getD, List.getElem?_eq_getElem h]
  rfl
theorem natV_flat (ps : List Nat) : (natV ps).all flatV = true := by
  unfold natV
  rw [List.all_map]
  exact List.all_eq_true.mpr fun _ _ => rfl
theorem natV_in (ps : List Nat) (k : Nat) : inV (.int (k : Int)) (natV ps) = ps.contains k := by
  unfold inV natV
  rw [List.any_map, List.contains_eq_any_beq]
  congr 1
  funext p
  show eqV (.int (p : Int)) (.int (k : Int)) = (k == p)
  show decide _ = _ 
  rw [Bool.eq_iff_iff]
  simp
  omega
section
variable {P : Program} {w : World} {K : PySem.W.Frag} {mg : Str → Option Value} {base : Heap} {f g g1 g2 g3 g4 g5 g6 : Addr} {fd gd gd1 gd2 gd3 gd4 gd5 gd6 : FuncData}
theorem sc__law_part : FnScope ["_law_parents_here", "_law_root", "_law_gone", "_law_boughs", "_law_k"] ["_law_parents_here", "_law_root", "_law_gone"] (defScope s__law_part) := ⟨rfl, rfl, rfl, by decide +kernel, rfl, by decide +kernel, by decide +kernel⟩
theorem ok__law_part (T__law_part : Fn K mg "_law_part" s__law_part ["_law_parents_here", "_law_root", "_law_gone"] f fd) (z_range : mg "range" = none) (z_len : mg "len" = none) (z_sorted : mg "sorted" = none) (z_tuple : mg "tuple" = none) : ∀ n, FnOk P w K mg base CX0 n f fd ["_law_parents_here", "_law_root", "_law_gone"] (spPart K n)
  | 0 => never_ok fun _ _ _ _ ⟨_, _, _, _, _, _, _, _, _, _, h1, h2, _⟩ => by omega
  | n + 1 => by
    have sc := sc__law_part
    have G__law_part := ok__law_part T__law_part z_range z_len z_sorted z_tuple n
    refine T__law_part.F.ok (k := n) sc (fun vs H Q E h => ?_) (fun cdv A outer s H vs Q E hr h => ?_)
    · obtain ⟨a, g, ps, gone, root, rfl, _⟩ := h
      rfl
    obtain ⟨a, gA, ps, gone, root, rfl, hS, hG, h7, hn, hroot, hfit, q⟩ := h
    refine ⟨_, (pss_cons (ps_set (i := 3) sc.nd rfl (Or.inl rfl) (pe_lst pa_nil))
  (pss_cons (ps_for PassesOwn.never rfl (pi_range2 rfl z_range (pa_cons (pe_op op_add (pv 1) pe_int) (pa_cons (pe_callB call_len_seq rfl z_len PySem.boot_len (pa_cons (pv 0) pa_nil)) pa_nil))) (pg_name (i := 4) sc.nd rfl (Or.inl rfl))
    (pss_one (ps_if (PW.pt (pw_and (pt_cmpR op_eq (pe_ix ix_list (pv 0) (pv 4) (fun _ _ => rfl)) (pv 1) (nomark _)) (pw_and1 (pt_cmpR op_notIn_seq (pv 4) (pv 2) rfl))))
      (pss_one (ps_expr (pe_bm PySem.F.plainAttrs_list PySem.F.slot_list_append PySem.F.type_list_append mt_append (pv 3) (pa_cons (pe_fn T__law_part G__law_part hr rfl (pa_cons (pv 0) (pa_cons (pv 4) (pa_cons (pv 2) pa_nil)))) pa_nil))))
      pss_nil)))
  (pss_one (ps_ret (pe_callTy call_tuple_of rfl z_tuple PyProof.Rows.boot_tuple (pa_cons (pe_rev (pe_callB (call_sort (by have := hr.units; exact this)) rfl z_sorted PyProof.Rows.boot_sorted (pa_cons (pv 3) pa_nil)) (pe_un un_neg pe_int)) pa_nil)))))), ?_⟩
    refine ⟨(by show 0 ≤ sizeLine; decide), fun l hl => ?_⟩
    generalize h1 : upd H l (.lst []) = H1
    obtain ⟨e1, z1⟩ := alloc_q h1 hl
    refine ⟨_, rfl, _, _, rfl, rfl, _, rfl, a, _, rfl, .inl (e1.seq hS), (root : Int) + 1, (ps.length : Int), ?_, ⟨by omega, by omega, by omega, by omega⟩, ?_⟩
    · rw [natV_len]
    rw [show ((ps.length : Int) - ((root : Int) + 1)).toNat = ps.length - (root + 1) by omega]
    refine for_range (n := ps.length - (root + 1)) (fun i σ H' => ∃ (r4 : Option V) (xs : List V), σ = [some (.ref a), some (.int root), some (.ref gA), some (.ref l), r4] ∧ Same H H' ∧ H' l = some (.lst xs) ∧ Ts H' (Tr.of ((Tr.hang ps gone root i).map (Tr.lpart ps gone n))) xs) ?_ ?_ ?_
    · exact ⟨_, [], rfl, e1, z1, Ts.nil⟩
    · rintro i σ H0 hi ⟨r4, xs, rfl, e0, zx, tx⟩
      have hk : root + 1 + i < ps.length := by omega
      have ek : (root : Int) + 1 + (i : Nat) = ((root + 1 + i : Nat) : Int) := by omega
      rw [ek]
      have hat := natV_at hk
      have hxl : xs.length ≤ 7 := by
        have := Tr.hang_len ps gone root i
        rw [tx.len, Tr.bs_of, List.length_map]
        omega
      refine ⟨_, rfl, _, rfl, a, _, _, _, rfl, rfl, e0.seq hS, hat, _, rfl, rfl, _, rfl, ite2 (fun c1 => ⟨_, rfl, _, rfl, gA, _, rfl, .inl (e0.seq hG), rfl, natV_flat gone, _, rfl, ite2 (fun c2 => ?_) (fun c2 => ?_)⟩) (fun c1 => iteF ?_)⟩
      · have hc1 : ps.getD (root + 1 + i) 0 = root := by
          have := of_decide_eq_true c1
          injection this with this
          omega
        have hc2 : gone.contains (root + 1 + i) = false := by
          rw [natV_in] at c2
          simpa using c2
        refine ⟨_, rfl, .inl ⟨rfl, _, SqL.of zx⟩, _, rfl, _, rfl, _, rfl, a, gA, ps, gone, root + 1 + i, rfl, e0.seq hS, e0.seq hG, h7, by omega, hk, by omega, fun v H2 e2 tv => ?_⟩
        have zx2 := e2 _ _ zx
        refine ⟨l, xs, v, rfl, rfl, zx2, size64 (by omega), ?_⟩
        have tu : TupS H2 (upd H2 l (.lst (xs ++ [v]))) := TupS.upd zx2
        refine ⟨_, xs ++ [v], rfl, fun b o z => ?_, upd_same, ?_⟩
        · rw [upd_ne (ne_of_none z hl)]
          exact e2 _ _ (e0 _ _ z)
        · have := (Ts.append (tx.same e2) (Ts.cons tv Ts.nil)).tups tu
          rw [Tr.hang_succ, hc1, hc2]
          simpa [Tr.bs_of, Tr.bs] using this
      · have hc2 : gone.contains (root + 1 + i) = true := by
          rw [natV_in] at c2
          simpa using c2
        refine ⟨_, xs, rfl, e0, zx, ?_⟩
        rw [Tr.hang_succ, hc2]
        simpa using tx
      · have hc1 : (ps.getD (root + 1 + i) 0 == root) = false := by
          refine Bool.eq_false_iff.mpr fun z => c1 ?_
          rw [beq_iff_eq] at z
          rw [z]
          exact decide_eq_true rfl
        refine ⟨_, xs, rfl, e0, zx, ?_⟩
        rw [Tr.hang_succ, hc1]
        simpa using tx
    · rintro σ H0 ⟨r4, xs, rfl, e0, zx, tx⟩
      have hxl : xs.length ≤ 7 := by
        have := Tr.hang_len ps gone root (ps.length - (root + 1))
        rw [tx.len, Tr.bs_of, List.length_map]
        omega
      refine ⟨_, rfl, l, xs, _, rfl, .inl (SqL.of zx), tx, by omega, ?_, fun l2 zs n2 hz => ?_⟩
      · refine (Tr.deep_of _ _).mpr fun c hc => ?_
        obtain ⟨k, _, rfl⟩ := List.mem_map.mp hc
        have := Tr.lpart_deep ps gone n k
        omega
      rw [Tr.bs_of] at hz
      have s2 := same_new n2 (.lst zs)
      refine ⟨_, rfl, l2, zs, rfl, rfl, SqL.of upd_same, fun l3 n3 => ?_⟩
      have s3 := same_new n3 (.lst zs.reverse)
      refine ⟨l3, _, rfl, .inl ⟨SqL.of upd_same, fun l4 n4 => ?_⟩⟩
      have s4 := same_new n4 (.tup zs.reverse)
      have e4 := s2.trans (s3.trans s4)
      refine q _ _ (e0.trans e4) ⟨l4, _, rfl, upd_same, ?_⟩
      have := (hz.same e4).rev
      rw [Tr.bs_of, List.reverse_reverse] at this
      exact this
def spLaw (K : PySem.W.Frag) : Sp := fun vs H Q _ => ∃ (a : Addr) (ns : List Int), vs = [.ref a] ∧ SqL K H a (ns.map V.int) ∧ ns.length ≤ 63 ∧ ∀ H', Q (.bl true) H'
theorem cut_take' {xs : List V} {k : Nat} : cutV xs none (some (k : Int)) = xs.take k := by
  unfold cutV
  rw [HT.sIx_none, HT.sIx_nat, List.drop_zero, Nat.sub_zero]
  by_cases h : k ≤ xs.length
  · rw [Nat.min_eq_left h]
  · rw [Nat.min_eq_right (by omega), List.take_of_length_le (Nat.le_refl _), List.take_of_length_le (by omega)]
theorem sc_law : FnScope ["_law_script", "_law_cells", "_law_k", "_law_parents_here", "_law_tree", "_law_due", "_law_found"] ["_law_script"] (defScope s_law) := ⟨rfl, rfl, rfl, by decide +kernel, rfl, by decide +kernel, by decide +kernel⟩
theorem ok_law (F : Fn K mg "law" s_law ["_law_script"] f fd) (T__law_parents : Fn K mg "_law_parents" s__law_parents ["_law_rest_here", "_law_most"] g1 gd1) (T__law_rest : Fn K mg "_law_rest" s__law_rest ["_law_script", "_law_k"] g2 gd2) (T__law_grown : Fn K mg "_law_grown" s__law_grown ["_law_parents_here"] g3 gd3)
    (T__law_part : Fn K mg "_law_part" s__law_part ["_law_parents_here", "_law_root", "_law_gone"] g4 gd4) (T_tree_ties : Fn K mg "tree_ties" s_tree_ties ["tree"] g5 gd5) (T__law_good : Fn K mg "_law_good" s__law_good ["_law_found", "_law_due"] g6 gd6)
    (G__law_parents : FnOk P w K mg base CX0 22 g1 gd1 ["_law_rest_here", "_law_most"] spParents) (G__law_rest : FnOk P w K mg base CX0 22 g2 gd2 ["_law_script", "_law_k"] (spCell K)) (G__law_grown : FnOk P w K mg base CX0 22 g3 gd3 ["_law_parents_here"] (spGrown K))
    (G__law_part : FnOk P w K mg base CX0 22 g4 gd4 ["_law_parents_here", "_law_root", "_law_gone"] (spPart K 7)) (G_tree_ties : FnOk P w K mg base CX0 22 g5 gd5 ["tree"] spTreeTies) (G__law_good : FnOk P w K mg base CX0 22 g6 gd6 ["_law_found", "_law_due"] spGood)
    (z_len : mg "len" = none) (z_range : mg "range" = none) (z_sorted : mg "sorted" = none) : FnOk P w K mg base CX0 23 f fd ["_law_script"] (spLaw K) := by
  have sc := sc_law
  refine F.F.ok (k := 22) sc (fun vs H Q E h => ?_) (fun cdv A outer s H vs Q E hr h => ?_)
  · obtain ⟨a, ns, rfl, _⟩ := h
    rfl
  obtain ⟨a, ns, rfl, hS, h63, q⟩ := h
  refine ⟨_, (pss_cons (ps_set (i := 1) sc.nd rfl (Or.inl rfl) (pe_op op_cat (pe_slice sl_list (pv 0) po_none (po_some pe_int)) (pe_lst (pa_cons pe_int pa_nil))))
  (pss_cons (ps_for PassesOwn.never rfl (pi_range1 rfl z_range (pa_cons (pe_callB call_len_seq rfl z_len PySem.boot_len (pa_cons (pv 1) pa_nil)) pa_nil)) (pg_name (i := 2) sc.nd rfl (Or.inl rfl))
    (pss_cons (ps_set (i := 3) sc.nd rfl (Or.inr rfl) (pe_fn T__law_parents G__law_parents hr rfl (pa_cons (pe_fn T__law_rest G__law_rest hr rfl (pa_cons (pv 1) (pa_cons (pv 2) pa_nil))) (pa_cons pe_int pa_nil))))
    (pss_cons (ps_set (i := 4) sc.nd rfl (Or.inl rfl) (pe_fn T__law_grown G__law_grown hr rfl (pa_cons (pv 3) pa_nil)))
    (pss_cons (ps_set (i := 5) sc.nd rfl (Or.inl rfl) (pe_callB (call_sort (by have := hr.units; exact this)) rfl z_sorted PyProof.Rows.boot_sorted (pa_cons (pe_compr [".0", "_law_at", "_law_parents_here"] 1 [none, none, some 3] (pi_range2 rfl z_range (pa_cons pe_int (pa_cons (pe_callB call_len_seq rfl z_len PySem.boot_len (pa_cons (pv 3) pa_nil)) pa_nil))) (fun _ _ _ _ _ => pif_nil) (fun _ _ _ _ _ => (pe_tup (pa_cons (pe_fn T__law_part G__law_part hr rfl (pa_cons (pv 2) (pa_cons pe_int (pa_cons (pe_lst (pa_cons (pv 1) pa_nil)) pa_nil)))) (pa_cons (pe_fn T__law_part G__law_part hr rfl (pa_cons (pv 2) (pa_cons (pv 1) (pa_cons (pe_lst pa_nil) pa_nil)))) pa_nil))))) pa_nil)))
    (pss_cons (ps_set (i := 6) sc.nd rfl (Or.inl rfl) (pe_fn T_tree_ties G_tree_ties hr rfl (pa_cons (pv 4) pa_nil)))
    (pss_cons (ps_if (pt_not (pt_val (pe_fn T__law_good G__law_good hr rfl (pa_cons (pv 6) (pa_cons (pv 5) pa_nil)))))
      (pss_one (ps_ret pe_bl))
      pss_nil)
    (pss_cons (ps_expr (pe_bm0 PySem.F.plainAttrs_list PySem.F.slot_list_clear PySem.F.type_list_clear mt_clear (pv 6)))
    (pss_one (ps_if (pt_not (pt_val (pe_fn T__law_good G__law_good hr rfl (pa_cons (pe_fn T_tree_ties G_tree_ties hr rfl (pa_cons (pv 4) pa_nil)) (pa_cons (pv 5) pa_nil)))))
      (pss_one (ps_ret pe_bl))
      pss_nil)))))))))
  (pss_one (ps_ret pe_bl)))), ?_⟩
  refine ⟨_, rfl, _, rfl, a, _, rfl, hS, fun p1 n1 => ⟨(by show 1 ≤ sizeLine; decide), fun p2 n2 => ?_⟩⟩
  have c6 : cutV (ns.map V.int) none (some 63) = (ns.map V.int).take 63 := cut_take' (k := 63)
  have hc6 : (cutV (ns.map V.int) none (some 63)).length ≤ 63 := by rw [c6, List.length_take]; omega
  refine ⟨p1, p2, _, _, rfl, rfl, same_new n2 _ _ _ upd_same, upd_same, ?_, fun p3 n3 => ?_⟩
  · exact Nat.le_of_lt (size64 (by simp only [List.length_cons, List.length_nil]; omega))
  have hms : cutV (ns.map V.int) none (some 63) ++ [V.int 0] = (ns.take 63 ++ [0]).map V.int := by
    rw [c6, List.map_append, List.map_take]; rfl
  have hml : (ns.take 63 ++ [0]).length ≤ 64 := by simp; omega
  rw [hms]
  generalize ns.take 63 ++ [0] = ms at hml
  generalize hH3 : upd _ p3 _ = H3
  have m3 : H3 p3 = some (.lst (ms.map V.int)) := by rw [← hH3, upd_same]
  clear hH3
  refine ⟨_, rfl, p3, _, rfl, .inl (SqL.of m3), ((ms.length : Nat) : Int), by rw [List.length_map], by omega, by omega, ?_⟩
  rw [Int.toNat_natCast]
  refine for_range (n := ms.length) (fun i σ H' => ∃ (r2 r3 r4 r5 r6 : Option V), σ = [some (.ref a), some (.ref p3), r2, r3, r4, r5, r6] ∧ Same H3 H') ?_ ?_ ?_
  · exact ⟨_, _, _, _, _, rfl, Same.refl _⟩
  · rintro i σ H0 hi ⟨r2, r3, r4, r5, r6, rfl, e0⟩
    refine ⟨_, rfl, _, rfl, p3, ms, _, rfl, SqL.of (e0 _ _ m3), by omega, fun c => ⟨c, 7, rfl, by decide, by decide, fun l1 H1 ps e1 hps hp7 t1 => ?_⟩⟩
    have hp7' : ps.length ≤ 7 := by omega
    have hp0 := hps.1
    obtain ⟨hfall, hkn⟩ := Tr.fine_of hps hp7'
    have hlook := Tr.look12_of hps hp7'
    have htl := Tr.ties_len (Tr.grown ps)
    refine ⟨_, rfl, l1, ps, rfl, SqL.of t1, hps, hp7', fun tv H2 e2 t2 => ?_⟩
    have l1at2 : SqL K H2 l1 (natV ps) := SqL.of (e2 _ _ t1)
    refine ⟨_, rfl, l1, _, rfl, .inl l1at2, 1, (ps.length : Int), ?_, ⟨by decide, by decide, by omega, by omega⟩, fun D hD => ?_⟩
    · rw [natV_len]
    rw [show ((ps.length : Int) - 1).toNat = ps.length - 1 by omega]
    refine comp_by (n := ps.length - 1) (fun j ys H' => Same H2 H' ∧ Ts H' (Tr.of (((List.range j).map fun i => Tr.duePair ps (1 + i)).map Tr.pr)) ys) ?_ ?_ ?_
    · exact ⟨same_new hD _, Ts.nil⟩
    · rintro j ys H4 hj ⟨e4, ty⟩ hD4
      have hyl : ys.length = j := by rw [ty.len, Tr.bs_of, List.length_map, List.length_map, List.length_range]
      refine ⟨hj, size64 (by omega), fun x H' y => ?_⟩
      obtain ⟨rfl, rfl⟩ := y
      rw [show (1 : Int) + (j : Nat) = ((1 + j : Nat) : Int) by omega]
      unfold tNoIf
      refine iteT ⟨_, rfl, _, rfl, (by show 1 ≤ sizeLine; decide), fun q1 m1 => ?_⟩
      generalize h5 : upd H' q1 (.lst [.int ((1 + j : Nat) : Int)]) = H5
      obtain ⟨e5, z5⟩ := alloc_q h5 m1
      have E5 := e4.trans e5
      refine ⟨l1, q1, ps, [1 + j], 0, rfl, E5.seq l1at2, SqL.of z5, hp7', by decide, hp0, by omega, fun v1 H6 e6 tv1 => ?_⟩
      refine ⟨_, rfl, _, rfl, (by show 0 ≤ sizeLine; decide), fun q2 m2 => ?_⟩
      generalize h7 : upd H6 q2 (.lst []) = H7
      obtain ⟨e7, z7⟩ := alloc_q h7 m2
      have E7 := e6.trans e7
      refine ⟨l1, q2, ps, [], 1 + j, rfl, (E5.trans E7).seq l1at2, SqL.of z7, hp7', by decide, by omega, by omega, fun v2 H8 e8 tv2 => ?_⟩
      refine ⟨(by show 2 ≤ sizeLine; decide), fun q3 m3' => ?_⟩
      generalize h9 : upd H8 q3 (.tup [v1, v2]) = H9
      obtain ⟨e9, tv9⟩ := pr_tv (x := Tr.duePair ps (1 + j)) h9 m3' (tv1.same (e7.trans e8)) tv2
      have E9 := e5.trans (e6.trans (e7.trans (e8.trans e9)))
      have hD9 := E9 _ _ hD4
      refine ⟨hD9, cw_next hj ⟨fun b o z => ?_, ?_⟩⟩
      · rw [upd_ne (ne_of_none z hD)]
        exact E9 _ _ (e4 _ _ z)
      · have tu : TupS H9 (upd H9 D (.lst (ys ++ [.ref q3]))) := TupS.upd hD9
        have := (Ts.append (ty.same E9) (Ts.cons tv9 Ts.nil)).tups tu
        rw [List.range_succ]
        simpa [Tr.bs_of, Tr.bs] using this
    · rintro ys H4 ⟨e4, ty⟩ hD4
      refine ⟨Nat.le_refl _, ?_⟩
      have hyl : ys.length = ps.length - 1 := by rw [ty.len, Tr.bs_of, List.length_map, List.length_map, List.length_range]
      refine ⟨D, ys, _, rfl, .inl (SqL.of hD4), ty, by omega, ?_, fun l5 zs n5 hz => ?_⟩
      · refine (Tr.deep_of _ _).mpr fun c hc => ?_
        obtain ⟨x, hx, rfl⟩ := List.mem_map.mp hc
        obtain ⟨k, _, rfl⟩ := List.mem_map.mp hx
        have h1 := Tr.lpart_deep ps [1 + k] 7 0
        have h2 := Tr.lpart_deep ps [] 7 (1 + k)
        have h4 := Tr.pr_deep (x := Tr.duePair ps (1 + k)) (n := 8) (Nat.succ_le_succ h1) (Nat.succ_le_succ h2)
        omega
      rw [Tr.bs_of] at hz
      have hz : Ts H4 (Tr.of (Tr.srt ((Tr.ties (Tr.grown ps)).map Tr.pr)).reverse) zs := by
        rw [hlook]
        exact hz
      generalize h5 : upd H4 l5 (.lst zs) = H5
      obtain ⟨e5, z5⟩ := alloc_q h5 n5
      have hz5 := hz.same e5
      have E25 := e4.trans e5
      have t5 := t2.same E25
      have E5 := e0.trans (e1.trans (e2.trans E25))
      have hkn7 : (Tr.grown ps).knots ≤ 7 := by omega
      have hall : ∀ x ∈ (Tr.srt ((Tr.ties (Tr.grown ps)).map Tr.pr)).reverse, x.knots ≤ 8 := fun x hx => by
        have hx := (Tr.perm_srt _).mem_iff.mp (List.mem_reverse.mp hx)
        obtain ⟨y, hy, rfl⟩ := List.mem_map.mp hx
        have := Tr.ties_knots hy
        rw [Tr.pr_knots]
        omega
      have hln : ((Tr.srt ((Tr.ties (Tr.grown ps)).map Tr.pr)).reverse).length ≤ 400 := by
        rw [List.length_reverse, (Tr.perm_srt _).length_eq, List.length_map]
        omega
      generalize hl : (Tr.srt ((Tr.ties (Tr.grown ps)).map Tr.pr)).reverse = l at hz5 hall hln
      refine ⟨_, rfl, tv, _, rfl, t5, hfall, hkn7, fun p6 H6 us e6 n6 z6 t6 => ?_⟩
      rw [hl] at t6
      refine ⟨_, rfl, _, rfl, p6, l5, us, zs, l, rfl, z6, e6 _ _ z5, t6, hz5.same e6, hall, hln, fun H7 e7 => ⟨_, rfl, iteF ?_⟩⟩
      refine ⟨_, rfl, .inl ⟨rfl, _, SqL.of (e7 _ _ z6)⟩, p6, us, rfl, rfl, e7 _ _ z6, ?_⟩
      generalize h8 : upd H7 p6 (.lst []) = H8
      have E8 : Same H5 H8 := fun b o z => by
        rw [← h8, upd_ne (ne_of_none z n6)]
        exact e7 _ _ (e6 _ _ z)
      clear h8
      refine ⟨_, rfl, tv, _, rfl, t5.same E8, hfall, hkn7, fun p9 H9 ws e9 n9 z9 t9 => ?_⟩
      rw [hl] at t9
      have E9 := E8.trans e9
      refine ⟨_, rfl, p9, l5, ws, zs, l, rfl, z9, E9 _ _ z5, t9, hz5.same E9, hall, hln, fun H10 e10 => ⟨_, rfl, iteF ?_⟩⟩
      exact ⟨_, _, _, _, _, rfl, E5.trans (E9.trans e10)⟩
  · rintro σ H' ⟨_, _, _, _, _, rfl, _⟩
    exact q H'
end
set_option maxHeartbeats 4000000 in
theorem all_mk {l : PySem.W.OpenLaw} {w : World} {K : PySem.W.Frag} {h : Heap} {mg : Str → Option Value} {fa f_is_tree f_refuse_no_tree f_in_falling_order f_tree_ties f_ties_within f__law_cell_at f__law_mixed f__law_rest f__law_parents f__law_grown f__law_above f__law_part f__law_tuples f__law_good f_law : Addr} (X : K.In h) (G : h.Ns mainGlobals mg) (hfa : mg "law" = some (.ref fa))
    {od_is_tree an_is_tree : Option Addr} {sl_is_tree : Array (Option Value)} {oc_is_tree kV_is_tree dc_is_tree pm_is_tree cd_is_tree ct_is_tree : Value}
    (a_is_tree : PySem.W.nsIn K mainGlobals "is_tree" = some (some (.ref f_is_tree))) (l_is_tree : K.lookup f_is_tree = some ⟨oc_is_tree, od_is_tree, .func (PySem.W.fnOf "is_tree" "is_tree" (defArgs s_is_tree) (defBody s_is_tree) (defScope s_is_tree) .none kV_is_tree dc_is_tree pm_is_tree an_is_tree cd_is_tree ct_is_tree), sl_is_tree⟩) (c_is_tree : PySem.W.codeIn K cd_is_tree "is_tree" = true) (k_is_tree : PySem.W.keepIn K (.ref f_is_tree) = true)
    {od_refuse_no_tree an_refuse_no_tree : Option Addr} {sl_refuse_no_tree : Array (Option Value)} {oc_refuse_no_tree kV_refuse_no_tree dc_refuse_no_tree pm_refuse_no_tree cd_refuse_no_tree ct_refuse_no_tree : Value}
    (a_refuse_no_tree : PySem.W.nsIn K mainGlobals "refuse_no_tree" = some (some (.ref f_refuse_no_tree))) (l_refuse_no_tree : K.lookup f_refuse_no_tree = some ⟨oc_refuse_no_tree, od_refuse_no_tree, .func (PySem.W.fnOf "refuse_no_tree" "refuse_no_tree" (defArgs s_refuse_no_tree) (defBody s_refuse_no_tree) (defScope s_refuse_no_tree) .none kV_refuse_no_tree dc_refuse_no_tree pm_refuse_no_tree an_refuse_no_tree cd_refuse_no_tree ct_refuse_no_tree), sl_refuse_no_tree⟩) (c_refuse_no_tree : PySem.W.codeIn K cd_refuse_no_tree "refuse_no_tree" = true) (k_refuse_no_tree : PySem.W.keepIn K (.ref f_refuse_no_tree) = true)
    {od_in_falling_order an_in_falling_order : Option Addr} {sl_in_falling_order : Array (Option Value)} {oc_in_falling_order kV_in_falling_order dc_in_falling_order pm_in_falling_order cd_in_falling_order ct_in_falling_order : Value}
    (a_in_falling_order : PySem.W.nsIn K mainGlobals "in_falling_order" = some (some (.ref f_in_falling_order))) (l_in_falling_order : K.lookup f_in_falling_order = some ⟨oc_in_falling_order, od_in_falling_order, .func (PySem.W.fnOf "in_falling_order" "in_falling_order" (defArgs s_in_falling_order) (defBody s_in_falling_order) (defScope s_in_falling_order) .none kV_in_falling_order dc_in_falling_order pm_in_falling_order an_in_falling_order cd_in_falling_order ct_in_falling_order), sl_in_falling_order⟩) (c_in_falling_order : PySem.W.codeIn K cd_in_falling_order "in_falling_order" = true) (k_in_falling_order : PySem.W.keepIn K (.ref f_in_falling_order) = true)
    {od_tree_ties an_tree_ties : Option Addr} {sl_tree_ties : Array (Option Value)} {oc_tree_ties kV_tree_ties dc_tree_ties pm_tree_ties cd_tree_ties ct_tree_ties : Value}
    (a_tree_ties : PySem.W.nsIn K mainGlobals "tree_ties" = some (some (.ref f_tree_ties))) (l_tree_ties : K.lookup f_tree_ties = some ⟨oc_tree_ties, od_tree_ties, .func (PySem.W.fnOf "tree_ties" "tree_ties" (defArgs s_tree_ties) (defBody s_tree_ties) (defScope s_tree_ties) .none kV_tree_ties dc_tree_ties pm_tree_ties an_tree_ties cd_tree_ties ct_tree_ties), sl_tree_ties⟩) (c_tree_ties : PySem.W.codeIn K cd_tree_ties "tree_ties" = true) (k_tree_ties : PySem.W.keepIn K (.ref f_tree_ties) = true)
    {od_ties_within an_ties_within : Option Addr} {sl_ties_within : Array (Option Value)} {oc_ties_within kV_ties_within dc_ties_within pm_ties_within cd_ties_within ct_ties_within : Value}
    (a_ties_within : PySem.W.nsIn K mainGlobals "ties_within" = some (some (.ref f_ties_within))) (l_ties_within : K.lookup f_ties_within = some ⟨oc_ties_within, od_ties_within, .func (PySem.W.fnOf "ties_within" "ties_within" (defArgs s_ties_within) (defBody s_ties_within) (defScope s_ties_within) .none kV_ties_within dc_ties_within pm_ties_within an_ties_within cd_ties_within ct_ties_within), sl_ties_within⟩) (c_ties_within : PySem.W.codeIn K cd_ties_within "ties_within" = true) (k_ties_within : PySem.W.keepIn K (.ref f_ties_within) = true)
    {od__law_cell_at an__law_cell_at : Option Addr} {sl__law_cell_at : Array (Option Value)} {oc__law_cell_at kV__law_cell_at dc__law_cell_at pm__law_cell_at cd__law_cell_at ct__law_cell_at : Value}
    (a__law_cell_at : PySem.W.nsIn K mainGlobals "_law_cell_at" = some (some (.ref f__law_cell_at))) (l__law_cell_at : K.lookup f__law_cell_at = some ⟨oc__law_cell_at, od__law_cell_at, .func (PySem.W.fnOf "_law_cell_at" "_law_cell_at" (defArgs s__law_cell_at) (defBody s__law_cell_at) (defScope s__law_cell_at) .none kV__law_cell_at dc__law_cell_at pm__law_cell_at an__law_cell_at cd__law_cell_at ct__law_cell_at), sl__law_cell_at⟩) (c__law_cell_at : PySem.W.codeIn K cd__law_cell_at "_law_cell_at" = true) (k__law_cell_at : PySem.W.keepIn K (.ref f__law_cell_at) = true)
    {od__law_mixed an__law_mixed : Option Addr} {sl__law_mixed : Array (Option Value)} {oc__law_mixed kV__law_mixed dc__law_mixed pm__law_mixed cd__law_mixed ct__law_mixed : Value}
    (a__law_mixed : PySem.W.nsIn K mainGlobals "_law_mixed" = some (some (.ref f__law_mixed))) (l__law_mixed : K.lookup f__law_mixed = some ⟨oc__law_mixed, od__law_mixed, .func (PySem.W.fnOf "_law_mixed" "_law_mixed" (defArgs s__law_mixed) (defBody s__law_mixed) (defScope s__law_mixed) .none kV__law_mixed dc__law_mixed pm__law_mixed an__law_mixed cd__law_mixed ct__law_mixed), sl__law_mixed⟩) (c__law_mixed : PySem.W.codeIn K cd__law_mixed "_law_mixed" = true) (k__law_mixed : PySem.W.keepIn K (.ref f__law_mixed) = true)
    {od__law_rest an__law_rest : Option Addr} {sl__law_rest : Array (Option Value)} {oc__law_rest kV__law_rest dc__law_rest pm__law_rest cd__law_rest ct__law_rest : Value}
    (a__law_rest : PySem.W.nsIn K mainGlobals "_law_rest" = some (some (.ref f__law_rest))) (l__law_rest : K.lookup f__law_rest = some ⟨oc__law_rest, od__law_rest, .func (PySem.W.fnOf "_law_rest" "_law_rest" (defArgs s__law_rest) (defBody s__law_rest) (defScope s__law_rest) .none kV__law_rest dc__law_rest pm__law_rest an__law_rest cd__law_rest ct__law_rest), sl__law_rest⟩) (c__law_rest : PySem.W.codeIn K cd__law_rest "_law_rest" = true) (k__law_rest : PySem.W.keepIn K (.ref f__law_rest) = true)
    {od__law_parents an__law_parents : Option Addr} {sl__law_parents : Array (Option Value)} {oc__law_parents kV__law_parents dc__law_parents pm__law_parents cd__law_parents ct__law_parents : Value}
    (a__law_parents : PySem.W.nsIn K mainGlobals "_law_parents" = some (some (.ref f__law_parents))) (l__law_parents : K.lookup f__law_parents = some ⟨oc__law_parents, od__law_parents, .func (PySem.W.fnOf "_law_parents" "_law_parents" (defArgs s__law_parents) (defBody s__law_parents) (defScope s__law_parents) .none kV__law_parents dc__law_parents pm__law_parents an__law_parents cd__law_parents ct__law_parents), sl__law_parents⟩) (c__law_parents : PySem.W.codeIn K cd__law_parents "_law_parents" = true) (k__law_parents : PySem.W.keepIn K (.ref f__law_parents) = true)
    {od__law_grown an__law_grown : Option Addr} {sl__law_grown : Array (Option Value)} {oc__law_grown kV__law_grown dc__law_grown pm__law_grown cd__law_grown ct__law_grown : Value}
    (a__law_grown : PySem.W.nsIn K mainGlobals "_law_grown" = some (some (.ref f__law_grown))) (l__law_grown : K.lookup f__law_grown = some ⟨oc__law_grown, od__law_grown, .func (PySem.W.fnOf "_law_grown" "_law_grown" (defArgs s__law_grown) (defBody s__law_grown) (defScope s__law_grown) .none kV__law_grown dc__law_grown pm__law_grown an__law_grown cd__law_grown ct__law_grown), sl__law_grown⟩) (c__law_grown : PySem.W.codeIn K cd__law_grown "_law_grown" = true) (k__law_grown : PySem.W.keepIn K (.ref f__law_grown) = true)
    {od__law_above an__law_above : Option Addr} {sl__law_above : Array (Option Value)} {oc__law_above kV__law_above dc__law_above pm__law_above cd__law_above ct__law_above : Value}
    (a__law_above : PySem.W.nsIn K mainGlobals "_law_above" = some (some (.ref f__law_above))) (l__law_above : K.lookup f__law_above = some ⟨oc__law_above, od__law_above, .func (PySem.W.fnOf "_law_above" "_law_above" (defArgs s__law_above) (defBody s__law_above) (defScope s__law_above) .none kV__law_above dc__law_above pm__law_above an__law_above cd__law_above ct__law_above), sl__law_above⟩) (c__law_above : PySem.W.codeIn K cd__law_above "_law_above" = true) (k__law_above : PySem.W.keepIn K (.ref f__law_above) = true)
    {od__law_part an__law_part : Option Addr} {sl__law_part : Array (Option Value)} {oc__law_part kV__law_part dc__law_part pm__law_part cd__law_part ct__law_part : Value}
    (a__law_part : PySem.W.nsIn K mainGlobals "_law_part" = some (some (.ref f__law_part))) (l__law_part : K.lookup f__law_part = some ⟨oc__law_part, od__law_part, .func (PySem.W.fnOf "_law_part" "_law_part" (defArgs s__law_part) (defBody s__law_part) (defScope s__law_part) .none kV__law_part dc__law_part pm__law_part an__law_part cd__law_part ct__law_part), sl__law_part⟩) (c__law_part : PySem.W.codeIn K cd__law_part "_law_part" = true) (k__law_part : PySem.W.keepIn K (.ref f__law_part) = true)
    {od__law_tuples an__law_tuples : Option Addr} {sl__law_tuples : Array (Option Value)} {oc__law_tuples kV__law_tuples dc__law_tuples pm__law_tuples cd__law_tuples ct__law_tuples : Value}
    (a__law_tuples : PySem.W.nsIn K mainGlobals "_law_tuples" = some (some (.ref f__law_tuples))) (l__law_tuples : K.lookup f__law_tuples = some ⟨oc__law_tuples, od__law_tuples, .func (PySem.W.fnOf "_law_tuples" "_law_tuples" (defArgs s__law_tuples) (defBody s__law_tuples) (defScope s__law_tuples) .none kV__law_tuples dc__law_tuples pm__law_tuples an__law_tuples cd__law_tuples ct__law_tuples), sl__law_tuples⟩) (c__law_tuples : PySem.W.codeIn K cd__law_tuples "_law_tuples" = true) (k__law_tuples : PySem.W.keepIn K (.ref f__law_tuples) = true)
    {od__law_good an__law_good : Option Addr} {sl__law_good : Array (Option Value)} {oc__law_good kV__law_good dc__law_good pm__law_good cd__law_good ct__law_good : Value}
    (a__law_good : PySem.W.nsIn K mainGlobals "_law_good" = some (some (.ref f__law_good))) (l__law_good : K.lookup f__law_good = some ⟨oc__law_good, od__law_good, .func (PySem.W.fnOf "_law_good" "_law_good" (defArgs s__law_good) (defBody s__law_good) (defScope s__law_good) .none kV__law_good dc__law_good pm__law_good an__law_good cd__law_good ct__law_good), sl__law_good⟩) (c__law_good : PySem.W.codeIn K cd__law_good "_law_good" = true) (k__law_good : PySem.W.keepIn K (.ref f__law_good) = true)
    {od_law an_law : Option Addr} {sl_law : Array (Option Value)} {oc_law kV_law dc_law pm_law cd_law ct_law : Value}
    (a_law : PySem.W.nsIn K mainGlobals "law" = some (some (.ref f_law))) (l_law : K.lookup f_law = some ⟨oc_law, od_law, .func (PySem.W.fnOf "law" "law" (defArgs s_law) (defBody s_law) (defScope s_law) .none kV_law dc_law pm_law an_law cd_law ct_law), sl_law⟩) (c_law : PySem.W.codeIn K cd_law "law" = true) (k_law : PySem.W.keepIn K (.ref f_law) = true)
    (y_len : PySem.W.nsIn K mainGlobals "len" = some none)
    (y_range : PySem.W.nsIn K mainGlobals "range" = some none)
    (y_abs : PySem.W.nsIn K mainGlobals "abs" = some none)
    (y_isinstance : PySem.W.nsIn K mainGlobals "isinstance" = some none)
    (y_tuple : PySem.W.nsIn K mainGlobals "tuple" = some none)
    (y_list : PySem.W.nsIn K mainGlobals "list" = some none)
    (y_sorted : PySem.W.nsIn K mainGlobals "sorted" = some none)
    (y_enumerate : PySem.W.nsIn K mainGlobals "enumerate" = some none)
    (y_all : PySem.W.nsIn K mainGlobals "all" = some none)
    : ∃ fd : FuncData, (∀ (s : Shared) (v : Value), BindsTo s fd ⟨[v], []⟩ [("_law_script", v)]) ∧ ∀ base : Heap, K.In base → base.Ns mainGlobals mg → FnOk l.prog w K mg base CX0 23 fa fd ["_law_script"] (spLaw K) := by
  have e := hfa.symm.trans (PySem.W.mg_of X G a_law)
  cases e
  have T_is_tree : Fn K mg "is_tree" s_is_tree ["thing"] _ _ := ⟨fun_mk (st := s_is_tree) l_is_tree c_is_tree k_is_tree, (fun_mk (st := s_is_tree) l_is_tree c_is_tree k_is_tree).binds (ps := ["thing"]) (fun _ _ _ _ _ _ us hl => match us, hl with | [_], _ => rfl), PySem.W.mg_of X G a_is_tree⟩
  have T_refuse_no_tree : Fn K mg "refuse_no_tree" s_refuse_no_tree ["thing"] _ _ := ⟨fun_mk (st := s_refuse_no_tree) l_refuse_no_tree c_refuse_no_tree k_refuse_no_tree, (fun_mk (st := s_refuse_no_tree) l_refuse_no_tree c_refuse_no_tree k_refuse_no_tree).binds (ps := ["thing"]) (fun _ _ _ _ _ _ us hl => match us, hl with | [_], _ => rfl), PySem.W.mg_of X G a_refuse_no_tree⟩
  have T_in_falling_order : Fn K mg "in_falling_order" s_in_falling_order ["boughs"] _ _ := ⟨fun_mk (st := s_in_falling_order) l_in_falling_order c_in_falling_order k_in_falling_order, (fun_mk (st := s_in_falling_order) l_in_falling_order c_in_falling_order k_in_falling_order).binds (ps := ["boughs"]) (fun _ _ _ _ _ _ us hl => match us, hl with | [_], _ => rfl), PySem.W.mg_of X G a_in_falling_order⟩
  have T_tree_ties : Fn K mg "tree_ties" s_tree_ties ["tree"] _ _ := ⟨fun_mk (st := s_tree_ties) l_tree_ties c_tree_ties k_tree_ties, (fun_mk (st := s_tree_ties) l_tree_ties c_tree_ties k_tree_ties).binds (ps := ["tree"]) (fun _ _ _ _ _ _ us hl => match us, hl with | [_], _ => rfl), PySem.W.mg_of X G a_tree_ties⟩
  have T_ties_within : Fn K mg "ties_within" s_ties_within ["tree"] _ _ := ⟨fun_mk (st := s_ties_within) l_ties_within c_ties_within k_ties_within, (fun_mk (st := s_ties_within) l_ties_within c_ties_within k_ties_within).binds (ps := ["tree"]) (fun _ _ _ _ _ _ us hl => match us, hl with | [_], _ => rfl), PySem.W.mg_of X G a_ties_within⟩
  have T__law_cell_at : Fn K mg "_law_cell_at" s__law_cell_at ["_law_script", "_law_k"] _ _ := ⟨fun_mk (st := s__law_cell_at) l__law_cell_at c__law_cell_at k__law_cell_at, (fun_mk (st := s__law_cell_at) l__law_cell_at c__law_cell_at k__law_cell_at).binds (ps := ["_law_script", "_law_k"]) (fun _ _ _ _ _ _ us hl => match us, hl with | [_, _], _ => rfl), PySem.W.mg_of X G a__law_cell_at⟩
  have T__law_mixed : Fn K mg "_law_mixed" s__law_mixed ["_law_cell", "_law_k"] _ _ := ⟨fun_mk (st := s__law_mixed) l__law_mixed c__law_mixed k__law_mixed, (fun_mk (st := s__law_mixed) l__law_mixed c__law_mixed k__law_mixed).binds (ps := ["_law_cell", "_law_k"]) (fun _ _ _ _ _ _ us hl => match us, hl with | [_, _], _ => rfl), PySem.W.mg_of X G a__law_mixed⟩
  have T__law_rest : Fn K mg "_law_rest" s__law_rest ["_law_script", "_law_k"] _ _ := ⟨fun_mk (st := s__law_rest) l__law_rest c__law_rest k__law_rest, (fun_mk (st := s__law_rest) l__law_rest c__law_rest k__law_rest).binds (ps := ["_law_script", "_law_k"]) (fun _ _ _ _ _ _ us hl => match us, hl with | [_, _], _ => rfl), PySem.W.mg_of X G a__law_rest⟩
  have T__law_parents : Fn K mg "_law_parents" s__law_parents ["_law_rest_here", "_law_most"] _ _ := ⟨fun_mk (st := s__law_parents) l__law_parents c__law_parents k__law_parents, (fun_mk (st := s__law_parents) l__law_parents c__law_parents k__law_parents).binds (ps := ["_law_rest_here", "_law_most"]) (fun _ _ _ _ _ _ us hl => match us, hl with | [_, _], _ => rfl), PySem.W.mg_of X G a__law_parents⟩
  have T__law_grown : Fn K mg "_law_grown" s__law_grown ["_law_parents_here"] _ _ := ⟨fun_mk (st := s__law_grown) l__law_grown c__law_grown k__law_grown, (fun_mk (st := s__law_grown) l__law_grown c__law_grown k__law_grown).binds (ps := ["_law_parents_here"]) (fun _ _ _ _ _ _ us hl => match us, hl with | [_], _ => rfl), PySem.W.mg_of X G a__law_grown⟩
  have T__law_above : Fn K mg "_law_above" s__law_above ["_law_parents_here", "_law_k"] _ _ := ⟨fun_mk (st := s__law_above) l__law_above c__law_above k__law_above, (fun_mk (st := s__law_above) l__law_above c__law_above k__law_above).binds (ps := ["_law_parents_here", "_law_k"]) (fun _ _ _ _ _ _ us hl => match us, hl with | [_, _], _ => rfl), PySem.W.mg_of X G a__law_above⟩
  have T__law_part : Fn K mg "_law_part" s__law_part ["_law_parents_here", "_law_root", "_law_gone"] _ _ := ⟨fun_mk (st := s__law_part) l__law_part c__law_part k__law_part, (fun_mk (st := s__law_part) l__law_part c__law_part k__law_part).binds (ps := ["_law_parents_here", "_law_root", "_law_gone"]) (fun _ _ _ _ _ _ us hl => match us, hl with | [_, _, _], _ => rfl), PySem.W.mg_of X G a__law_part⟩
  have T__law_tuples : Fn K mg "_law_tuples" s__law_tuples ["_law_thing"] _ _ := ⟨fun_mk (st := s__law_tuples) l__law_tuples c__law_tuples k__law_tuples, (fun_mk (st := s__law_tuples) l__law_tuples c__law_tuples k__law_tuples).binds (ps := ["_law_thing"]) (fun _ _ _ _ _ _ us hl => match us, hl with | [_], _ => rfl), PySem.W.mg_of X G a__law_tuples⟩
  have T__law_good : Fn K mg "_law_good" s__law_good ["_law_found", "_law_due"] _ _ := ⟨fun_mk (st := s__law_good) l__law_good c__law_good k__law_good, (fun_mk (st := s__law_good) l__law_good c__law_good k__law_good).binds (ps := ["_law_found", "_law_due"]) (fun _ _ _ _ _ _ us hl => match us, hl with | [_, _], _ => rfl), PySem.W.mg_of X G a__law_good⟩
  have T_law : Fn K mg "law" s_law ["_law_script"] _ _ := ⟨fun_mk (st := s_law) l_law c_law k_law, (fun_mk (st := s_law) l_law c_law k_law).binds (ps := ["_law_script"]) (fun _ _ _ _ _ _ us hl => match us, hl with | [_], _ => rfl), PySem.W.mg_of X G a_law⟩
  have z_len := PySem.W.mg_none_of X G y_len
  have z_range := PySem.W.mg_none_of X G y_range
  have z_abs := PySem.W.mg_none_of X G y_abs
  have z_isinstance := PySem.W.mg_none_of X G y_isinstance
  have z_tuple := PySem.W.mg_none_of X G y_tuple
  have z_list := PySem.W.mg_none_of X G y_list
  have z_sorted := PySem.W.mg_none_of X G y_sorted
  have z_enumerate := PySem.W.mg_none_of X G y_enumerate
  have z_all := PySem.W.mg_none_of X G y_all
  refine ⟨PySem.W.fnOf "law" "law" (defArgs s_law) (defBody s_law) (defScope s_law) .none kV_law dc_law pm_law an_law cd_law ct_law, fun s v => .of_eq rfl, fun base _ _ => ?_⟩
  have g_is := ok_is_tree (P := l.prog) (w := w) (base := base) T_is_tree z_isinstance z_tuple z_enumerate
  have g_ref := ok_refuse_no_tree T_refuse_no_tree T_is_tree (g_is 8)
  have g_in := ok_in_falling_order (P := l.prog) (w := w) (base := base) T_in_falling_order z_sorted z_tuple
  have g_ti := ok_ties_within T_ties_within T_in_falling_order g_in z_enumerate
  have g_tt := ok_tree_ties T_tree_ties T_refuse_no_tree T_ties_within g_ref (g_ti 8) z_sorted
  have g_tu := ok__law_tuples (P := l.prog) (w := w) (base := base) T__law_tuples z_isinstance z_tuple
  have g_ca := ok__law_cell_at (P := l.prog) (w := w) (base := base) T__law_cell_at z_len
  have g_mi := ok__law_mixed (P := l.prog) (w := w) (base := base) T__law_mixed
  have g_re := ok__law_rest T__law_rest T__law_cell_at T__law_mixed g_ca g_mi z_abs
  have g_pa := ok__law_parents (P := l.prog) (w := w) (base := base) T__law_parents z_range
  have g_gr := ok__law_grown (P := l.prog) (w := w) (base := base) T__law_grown z_range z_len z_sorted z_tuple
  have g_lp := ok__law_part (P := l.prog) (w := w) (base := base) T__law_part z_range z_len z_sorted z_tuple
  have g_go := ok__law_good T__law_good T__law_tuples (g_tu 21) z_isinstance z_list z_all
  exact ok_law T_law T__law_parents T__law_rest T__law_grown T__law_part T_tree_ties T__law_good (g_pa.mono (by decide)) (g_re.mono (by decide)) (g_gr.mono (by decide)) ((g_lp 7).mono (by decide)) (g_tt.mono (by decide)) g_go z_len z_range z_sorted
theorem walk {l : PySem.W.OpenLaw} {q : Program} {loose : List Str} {XP : (Str → Option Value) → Heap → Prop} {YP : World → Heap → Prop} {d : DefRec} {K : Params → PySem.W.Frag} (hn : l.most = some 63) (hdf : d.params.defaults = [])
    (hY : ∀ (w : World) (h : Heap), YP w h → (K w.params).In h)
    (F : ∀ (w : World) (mg : Str → Option Value) (fa : Addr) (h : Heap), (K w.params).In h → h.Ns mainGlobals mg → mg d.name = some (.ref fa) →
      ∃ fd : FuncData, (∀ (s : Shared) (u : Value), BindsTo s fd ⟨[u], []⟩ [("_law_script", u)]) ∧ ∀ base : Heap, (K w.params).In base → base.Ns mainGlobals mg → FnOk l.prog w (K w.params) mg base CX0 23 fa fd ["_law_script"] (spLaw (K w.params))) :
    PySem.W.WalkO q loose XP YP l.row.toRowW d [] (fun f vs => PySem.call f vs) :=
  L2.walk_of (n := 63) (k := 23) (x := "_law_script") (CX := fun _ => CX0) (sp := fun w => spLaw (K w.params)) hn (by decide) hdf ⟨rfl, by decide, by decide⟩ hY F (fun _ _ a ns hl _ hS => ⟨a, ns, rfl, hS, hl, fun _ => rfl⟩) fun _ _ _ _ _ z => z
end Q12
open PySem PySem.W PyProof.Rows
set_option maxRecDepth 100000 in
set_option maxHeartbeats 0 in
theorem PySem.Challenge.cw_stepgrove_k12_ties_holds : PySem.Challenge.rw_stepgrove_k12_ties.Holds := by
  w_on; o_law; k_head; (case hw => w_witness2)
  k_fill
  refine Q12.walk (l := PySem.Challenge.rw_stepgrove_k12_ties) rfl rfl (fun w h Y => PySem.W.kIn_of Y) ?F
  case F =>
    intro w mg fa h KX G hmg
    refine' Q12.all_mk KX G hmg ?a_is_tree ?l_is_tree ?c_is_tree ?k_is_tree ?a_refuse_no_tree ?l_refuse_no_tree ?c_refuse_no_tree ?k_refuse_no_tree ?a_in_falling_order ?l_in_falling_order ?c_in_falling_order ?k_in_falling_order ?a_tree_ties ?l_tree_ties ?c_tree_ties ?k_tree_ties ?a_ties_within ?l_ties_within ?c_ties_within ?k_ties_within ?a__law_cell_at ?l__law_cell_at ?c__law_cell_at ?k__law_cell_at ?a__law_mixed ?l__law_mixed ?c__law_mixed ?k__law_mixed ?a__law_rest ?l__law_rest ?c__law_rest ?k__law_rest ?a__law_parents ?l__law_parents ?c__law_parents ?k__law_parents ?a__law_grown ?l__law_grown ?c__law_grown ?k__law_grown ?a__law_above ?l__law_above ?c__law_above ?k__law_above ?a__law_part ?l__law_part ?c__law_part ?k__law_part ?a__law_tuples ?l__law_tuples ?c__law_tuples ?k__law_tuples ?a__law_good ?l__law_good ?c__law_good ?k__law_good ?a_law ?l_law ?c_law ?k_law ?y_len ?y_range ?y_abs ?y_isinstance ?y_tuple ?y_list ?y_sorted ?y_enumerate ?y_all 
    (case a_is_tree => k_is); (case l_is_tree => k_is); (case c_is_tree => k_is); (case k_is_tree => k_is)
    (case a_refuse_no_tree => k_is); (case l_refuse_no_tree => k_is); (case c_refuse_no_tree => k_is); (case k_refuse_no_tree => k_is)
    (case a_in_falling_order => k_is); (case l_in_falling_order => k_is); (case c_in_falling_order => k_is); (case k_in_falling_order => k_is)
    (case a_tree_ties => k_is); (case l_tree_ties => k_is); (case c_tree_ties => k_is); (case k_tree_ties => k_is)
    (case a_ties_within => k_is); (case l_ties_within => k_is); (case c_ties_within => k_is); (case k_ties_within => k_is)
    (case a__law_cell_at => k_is); (case l__law_cell_at => k_is); (case c__law_cell_at => k_is); (case k__law_cell_at => k_is)
    (case a__law_mixed => k_is); (case l__law_mixed => k_is); (case c__law_mixed => k_is); (case k__law_mixed => k_is)
    (case a__law_rest => k_is); (case l__law_rest => k_is); (case c__law_rest => k_is); (case k__law_rest => k_is)
    (case a__law_parents => k_is); (case l__law_parents => k_is); (case c__law_parents => k_is); (case k__law_parents => k_is)
    (case a__law_grown => k_is); (case l__law_grown => k_is); (case c__law_grown => k_is); (case k__law_grown => k_is)
    (case a__law_above => k_is); (case l__law_above => k_is); (case c__law_above => k_is); (case k__law_above => k_is)
    (case a__law_part => k_is); (case l__law_part => k_is); (case c__law_part => k_is); (case k__law_part => k_is)
    (case a__law_tuples => k_is); (case l__law_tuples => k_is); (case c__law_tuples => k_is); (case k__law_tuples => k_is)
    (case a__law_good => k_is); (case l__law_good => k_is); (case c__law_good => k_is); (case k__law_good => k_is)
    (case a_law => k_is); (case l_law => k_is); (case c_law => k_is); (case k_law => k_is)
    (case y_len => k_is)
    (case y_range => k_is)
    (case y_abs => k_is)
    (case y_isinstance => k_is)
    (case y_tuple => k_is)
    (case y_list => k_is)
    (case y_sorted => k_is)
    (case y_enumerate => k_is)
    (case y_all => k_is)
#print axioms PySem.Challenge.cw_stepgrove_k12_ties_holds
