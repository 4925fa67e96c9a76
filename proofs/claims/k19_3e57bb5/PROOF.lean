import PyProof.Rows.All
import Wide.All
import OpenK.AllK
import Wide.FinOn
import Lean
import PyProof.EqAt
import PyProof.EqKinds
import PyProof.TupleCall
import PySem.Challenge.RW_stepgrove_k19_what_is_a_change
set_option Elab.async false
set_option linter.all false
set_option maxRecDepth 100000
namespace L2
open PySem PySem.Spec PyProof.Rows
abbrev Key := Sum Int Str
def keyIs : Key → Value → Bool
  | .inl k, v => Value.isInt k v
  | .inr x, v => Value.isStrOf x v
def keyH (w : World) : Key → Int
  | .inl k => hashInt k
  | .inr x => hashStr w x
theorem keyIs_shape : ∀ {k : Key} {v : Value}, keyIs k v = true → (∃ i t, k = Sum.inl i ∧ v = Value.int i t) ∨ (∃ x t, k = Sum.inr x ∧ v = Value.str x t)
  | .inl i, v, h => by
    obtain ⟨t, e⟩ := Value.isInt_shape (k := i) (v := v) h
    exact .inl ⟨i, t, rfl, e⟩
  | .inr x, v, h => by
    obtain ⟨t, e⟩ := Value.isStrOf_shape (x := x) (v := v) h
    exact .inr ⟨x, t, rfl, e⟩
theorem keyIs_int (i : Int) (t : Tok) : keyIs (.inl i) (.int i t) = true := by simp [keyIs, Value.isInt]
theorem keyIs_str (x : Str) (t : Tok) : keyIs (.inr x) (.str x t) = true := by simp [keyIs, Value.isStrOf]
theorem key_ll (a b : Int) : decide ((Sum.inl a : Key) = Sum.inl b) = (a == b) := by
  by_cases e : a = b
  · subst e; simp
  · have h : ¬ (Sum.inl a : Key) = Sum.inl b := fun q => e (Sum.inl.inj q)
    rw [decide_eq_false h]
    exact (beq_eq_false_iff_ne.mpr e).symm
theorem key_rr (a b : Str) : decide ((Sum.inr a : Key) = Sum.inr b) = decide (a = b) := by
  by_cases e : a = b
  · subst e; simp
  · have h : ¬ (Sum.inr a : Key) = Sum.inr b := fun q => e (Sum.inr.inj q)
    rw [decide_eq_false h, decide_eq_false e]
theorem key_lr (a : Int) (b : Str) : decide ((Sum.inl a : Key) = Sum.inr b) = false := decide_eq_false (fun q => nomatch q)
theorem key_rl (a : Str) (b : Int) : decide ((Sum.inr a : Key) = Sum.inl b) = false := decide_eq_false (fun q => nomatch q)
def mixKind (prog : Program) (w : World) : PySem.KeyKind prog w Key where
  is := keyIs
  hash := keyH w
  inj := fun v a b ha hb => by
    rcases keyIs_shape ha with ⟨i, t, rfl, rfl⟩ | ⟨x, t, rfl, rfl⟩
    · rcases keyIs_shape hb with ⟨j, u, rfl, e⟩ | ⟨y, u, rfl, e⟩
      · injection e with e1 _; rw [e1]
      · exact nomatch e
    · rcases keyIs_shape hb with ⟨j, u, rfl, e⟩ | ⟨y, u, rfl, e⟩
      · exact nomatch e
      · injection e with e1 _; rw [e1]
  byValue := fun k v h => by
    rcases keyIs_shape h with ⟨i, t, rfl, rfl⟩ | ⟨x, t, rfl, rfl⟩ <;> rfl
  pyHash := fun hv h => by
    rcases keyIs_shape hv with ⟨i, t, rfl, rfl⟩ | ⟨x, t, rfl, rfl⟩
    · exact wpAny_pyHash_int h
    · exact wpAny_pyHash_str h
  eqBool := fun hu hv h => by
    rcases keyIs_shape hu with ⟨i, t, rfl, rfl⟩ | ⟨x, t, rfl, rfl⟩
    · rcases keyIs_shape hv with ⟨j, u, rfl, rfl⟩ | ⟨y, u, rfl, rfl⟩
      · rw [key_ll] at h; exact wpAny_eqBool_int h
      · rw [key_lr] at h; exact SeqAt.EqAt.int_str i t y u _ _ _ _ h
    · rcases keyIs_shape hv with ⟨j, u, rfl, rfl⟩ | ⟨y, u, rfl, rfl⟩
      · rw [key_rl] at h; exact SeqAt.EqAt.str_int x t j u _ _ _ _ h
      · rw [key_rr] at h; exact wpAny_eqBool_str h
  «strs» := fun k x t v h => by
    rcases keyIs_shape h with ⟨i, u, rfl, e⟩ | ⟨y, u, rfl, e⟩
    · exact nomatch e
    · injection e with e1 _
      subst e1
      cases v <;> rfl
theorem mixKind_int (prog : Program) (w : World) (i : Int) (t : Tok) : (mixKind prog w).is (.inl i) (.int i t) = true := keyIs_int i t
theorem mixKind_str (prog : Program) (w : World) (x : Str) (t : Tok) : (mixKind prog w).is (.inr x) (.str x t) = true := keyIs_str x t
end L2
namespace L2
open PySem PySem.Spec PyProof.Rows
inductive V where
  | non | bl (b : Bool) | int (i : Int) | str (x : Str) | byt (b : Array UInt8) | flt (b : UInt64) | ref (a : Addr) | ty (n : String)
  deriving DecidableEq
def RelV : V → Value → Prop
  | .non, u => u = Value.none
  | .bl b, u => u = Value.bool b
  | .int i, u => ∃ t, u = Value.int i t
  | .str x, u => ∃ t, u = Value.str x t
  | .byt b, u => ∃ t, u = Value.bytes b t
  | .flt b, u => ∃ t, u = Value.float b t
  | .ref a, u => u = Value.ref a
  | .ty n, u => u = Value.type n
abbrev Vals : List V → List Value → Prop := Paired RelV
theorem Vals.length {xs : List V} {us : List Value} (r : Vals xs us) : xs.length = us.length := Paired.length r
theorem Vals.get : ∀ {xs : List V} {us : List Value} {i : Nat} {x : V}, Vals xs us → xs[i]? = some x → ∃ u, us[i]? = some u ∧ RelV x u
  | _, _, _, _, .nil, e => by simp at e
  | _, _, 0, _, .cons r _, e => by simp at e; subst e; exact ⟨_, rfl, r⟩
  | _, _, i + 1, x, .cons _ t, e => by
    obtain ⟨u, h1, h2⟩ := Vals.get (i := i) (x := x) t (by simpa using e)
    exact ⟨u, by simpa using h1, h2⟩
theorem Vals.set {x : V} {u : Value} (r : RelV x u) : ∀ {xs : List V} {us : List Value} (i : Nat), Vals xs us → Vals (xs.set i x) (us.set i u)
  | _, _, _, .nil => .nil
  | _, _, 0, .cons _ t => .cons r t
  | _, _, i + 1, .cons q t => .cons q (Vals.set r i t)
theorem Vals.append : ∀ {xs ys : List V} {us ws : List Value}, Vals xs us → Vals ys ws → Vals (xs ++ ys) (us ++ ws)
  | _, _, _, _, .nil, s => s
  | _, _, _, _, .cons r t, s => .cons r (Vals.append t s)
theorem Vals.take : ∀ {xs : List V} {us : List Value} (n : Nat), Vals xs us → Vals (xs.take n) (us.take n)
  | _, _, 0, _ => .nil
  | _, _, _ + 1, .nil => .nil
  | _, _, n + 1, .cons r t => .cons r (Vals.take n t)
theorem Vals.drop : ∀ {xs : List V} {us : List Value} (n : Nat), Vals xs us → Vals (xs.drop n) (us.drop n)
  | _, _, 0, r => r
  | _, _, _ + 1, .nil => .nil
  | _, _, n + 1, .cons _ t => Vals.drop n t
def RelO : Option V → Option Value → Prop
  | some v, some u => RelV v u
  | none, none => True
  | _, _ => False
def KV {κ : Type} : List (κ × V) → List (κ × Value) → Prop := Paired fun (p : κ × V) (q : κ × Value) => p.1 = q.1 ∧ RelV p.2 q.2
def kV : Key → V
  | .inl i => .int i
  | .inr x => .str x
inductive HO where
  | lst (xs : List V)
  | tup (xs : List V)
  | dK (kvs : List (Key × V)) | dT (kvs : List (List Key × V))
  | set (S : Int → Bool) (n : Nat)
  | ins (C dx : Addr) (fs : List (Str × V))
  | own (x : Addr)
  | xd (fs : List (Str × V))
  | met (f x : Addr)
  | rng (lo hi : Int)
  | frz (o : Obj) (u : HO)
  | tbl (ps : Array Value)
  | ext (φ : Heap → Prop)
abbrev Hp := Addr → Option HO
def upd (H : Hp) (a : Addr) (o : HO) : Hp := fun b => if b = a then some o else H b
theorem upd_same {H : Hp} {a : Addr} {o : HO} : upd H a o a = some o := by unfold upd; rw [if_pos rfl]
theorem upd_ne {H : Hp} {a b : Addr} {o : HO} (h : b ≠ a) : upd H a o b = H b := by unfold upd; rw [if_neg h]
theorem ne_of {H : Hp} {a b : Addr} {o u : HO} (h : H a = some o) (h' : H b = some u) (d : o ≠ u) : a ≠ b := by
  intro e; subst e; rw [h] at h'; exact d (Option.some.inj h')
theorem ne_of_none {H : Hp} {a b : Addr} {o : HO} (h : H a = some o) (h' : H b = none) : a ≠ b := by
  intro e; subst e; rw [h] at h'; cases h'
section
variable (P : Program) (w : World)
def ObjOk (H : Hp) (h : Heap) (a : Addr) : HO → Prop
  | .lst xs => xs.length ≤ sizeLine ∧ ∃ (its : List Value) (n : Nat), Vals xs its ∧ h.get? a = some { cls := .type "list", data := .seq its.toArray n }
  | .tup xs => xs.length ≤ sizeLine ∧ ∃ its : List Value, Vals xs its ∧ IsTup h a its.toArray
  | .dK kvs => kvs.length ≤ sizeLine ∧ (a == sysModules) = false ∧ ∃ vs, KV kvs vs ∧ h.DictOf (mixKind P w) a vs
  | .dT kvs => kvs.length ≤ sizeLine ∧ (a == sysModules) = false ∧ ∃ xs : List (List Key × Addr × Value),
      Paired (fun (p : List Key × V) (q : List Key × Addr × Value) => p.1 = q.1 ∧ H q.2.1 = some (.tup (p.1.map kV)) ∧ RelV p.2 q.2.2) kvs xs ∧
      ∃ o es ep, h.get? a = some o ∧ o.ExactDict ∧ o.data = .dict es ep ∧ es.toList = xs.map (entryOfKey (tupleKind (mixKind P w))) ∧ (xs.map (·.1)).Nodup
  | .set S n => h.SetOf (intKind P w) a S n
  | .ins C dx fs => H dx = some (.own a) ∧ fs.length ≤ 1000 ∧ dx ≠ a ∧ h.get? a = some (PySem.W.instObj C dx) ∧
      ∃ mA, h.Ns1 dx mA ∧ (∀ f, RelO (fs.lookup f) (mA f)) ∧ PySem.Within mA (fs.map (·.1))
  | .own _ => ∃ o, h.get? a = some o
  | .xd fs => ∃ mA, h.Ns1 a mA ∧ ∀ f, RelO (fs.lookup f) (mA f)
  | .rng lo hi => ∃ t u v, h.get? a = some { cls := .type "range", data := .fields #[.int lo t, .int hi u, .int 1 v] }
  | .frz o u => h.get? a = some o ∧ ObjOk H h a u
  | .tbl ps => h.get? a = some { cls := .none, data := .fields ps }
  | .met f x => h.get? a = some (PySem.W.methodObj (.ref f) (.ref x))
  | .ext φ => φ h ∧ (∃ o, h.get? a = some o) ∧ ∀ h1 h2 : Heap, φ h1 → (∀ o, h1.get? a = some o → h2.get? a = some o) → φ h2
def HOk (H : Hp) (h : Heap) : Prop := ∀ a o, H a = some o → ObjOk P w H h a o
end
section
variable {P : Program} {w : World} {H H' : Hp} {h h' : Heap} {a : Addr} {o : HO}
theorem ObjOk.lt (x : ObjOk P w H h a o) : a < h.objs.size := by
  cases o with
  | lst xs => obtain ⟨_, _, _, _, e⟩ := x; exact Heap.lt_size e
  | tup xs => obtain ⟨_, _, _, p⟩ := x; exact p.lt
  | dK kvs => obtain ⟨_, _, _, _, o, _, _, e, _⟩ := x; exact Heap.lt_size e
  | dT kvs => obtain ⟨_, _, _, _, o, _, _, e, _⟩ := x; exact Heap.lt_size e
  | set S n => obtain ⟨o, _, _, _, e, _⟩ := x; exact Heap.lt_size e
  | ins C dx fs => obtain ⟨_, _, _, e, _⟩ := x; exact Heap.lt_size e
  | own y => obtain ⟨_, e⟩ := x; exact Heap.lt_size e
  | xd fs => obtain ⟨_, ⟨_, _, _, e, _⟩, _⟩ := x; exact Heap.lt_size e
  | rng lo hi => obtain ⟨_, _, _, e⟩ := x; exact Heap.lt_size e
  | frz ob u => obtain ⟨e, _⟩ := x; exact Heap.lt_size e
  | tbl ps => exact Heap.lt_size (show h.get? a = some _ from x)
  | met f y => exact Heap.lt_size (show h.get? a = some _ from x)
  | ext φ => obtain ⟨_, ⟨_, e⟩, _⟩ := x; exact Heap.lt_size e
theorem Paired.mapP {α β : Type} {F G : α → β → Prop} : ∀ {l₁ : List α} {l₂ : List β}, Paired F l₁ l₂ → (∀ a b, F a b → G a b) → Paired G l₁ l₂
  | _, _, .nil, _ => .nil
  | _, _, .cons r t, f => .cons (f _ _ r) (Paired.mapP t f)
theorem ObjOk.stay (x : ObjOk P w H h a o) (k : ∀ b u, (b = a ∨ H b = some (.own a)) → h.get? b = some u → h'.get? b = some u)
    (ho : ∀ b, H b = some (.own a) → H' b = some (.own a)) (ht : ∀ b xs, H b = some (.tup xs) → H' b = some (.tup xs)) : ObjOk P w H' h' a o := by
  induction o with
  | lst xs => obtain ⟨z, its, n, r, e⟩ := x; exact ⟨z, its, n, r, k _ _ (.inl rfl) e⟩
  | tup xs => obtain ⟨z, its, r, ob, e, c⟩ := x; exact ⟨z, its, r, ob, k _ _ (.inl rfl) e, c⟩
  | dK kvs => obtain ⟨z, y, vs, r, ob, es, ep, e, c⟩ := x; exact ⟨z, y, vs, r, ob, es, ep, k _ _ (.inl rfl) e, c⟩
  | dT kvs =>
    obtain ⟨z, y, xs, r, ob, es, ep, e, c⟩ := x
    exact ⟨z, y, xs, Paired.mapP r fun p q z => ⟨z.1, ht _ _ z.2.1, z.2.2⟩, ob, es, ep, k _ _ (.inl rfl) e, c⟩
  | set S n => obtain ⟨ob, es, ep, t, e, c⟩ := x; exact ⟨ob, es, ep, t, k _ _ (.inl rfl) e, c⟩
  | ins C dx fs =>
    obtain ⟨d, z, ne, e, mA, ⟨od, es, ep, e2, c⟩, r⟩ := x
    exact ⟨ho _ d, z, ne, k _ _ (.inl rfl) e, mA, ⟨od, es, ep, k _ _ (.inr d) e2, c⟩, r⟩
  | own y => obtain ⟨ob, e⟩ := x; exact ⟨ob, k _ _ (.inl rfl) e⟩
  | xd fs => obtain ⟨mA, ⟨od, es, ep, e, c⟩, r⟩ := x; exact ⟨mA, ⟨od, es, ep, k _ _ (.inl rfl) e, c⟩, r⟩
  | rng lo hi => obtain ⟨t, u, v, e⟩ := x; exact ⟨t, u, v, k _ _ (.inl rfl) e⟩
  | frz ob u ih => obtain ⟨e, q⟩ := x; exact ⟨k _ _ (.inl rfl) e, ih q⟩
  | tbl ps =>
    have e : h.get? a = some { cls := .none, data := .fields ps } := x
    show h'.get? a = some { cls := .none, data := .fields ps }
    exact k a _ (.inl rfl) e
  | met f y =>
    have e : h.get? a = some (PySem.W.methodObj (.ref f) (.ref y)) := x
    show h'.get? a = some (PySem.W.methodObj (.ref f) (.ref y))
    exact k a _ (.inl rfl) e
  | ext φ => obtain ⟨p, ⟨o, e⟩, st⟩ := x; exact ⟨st _ _ p fun o q => k _ _ (.inl rfl) q, ⟨o, k _ _ (.inl rfl) e⟩, st⟩
theorem HOk.lt (x : HOk P w H h) (e : H a = some o) : a < h.objs.size := (x a o e).lt
theorem HOk.fresh (x : HOk P w H h) (e : h.objs.size ≤ a) : H a = none := by
  cases q : H a with
  | none => rfl
  | some u => exact absurd (Nat.lt_of_lt_of_le (x.lt q) e) (Nat.lt_irrefl _)
theorem HOk.kept (x : HOk P w H h) (k : ∀ b u, h.get? b = some u → h'.get? b = some u) : HOk P w H h' := fun a o e =>
  (x a o e).stay (fun b u _ q => k b u q) (fun _ q => q) fun _ _ q => q
theorem HOk.laid (x : HOk P w H h) (k : ∀ b u, h.get? b = some u → h'.get? b = some u) (hp : h.objs.size ≤ a) (new : ObjOk P w (upd H a o) h' a o) : HOk P w (upd H a o) h' := fun b u e => by
  have hn := x.fresh hp
  by_cases hb : b = a
  · subst hb; rw [upd_same] at e; cases e; exact new
  · rw [upd_ne hb] at e
    exact (x b u e).stay (fun c v _ q => k c v q) (fun c q => by rw [upd_ne (ne_of_none q hn)]; exact q) fun c xs q => by rw [upd_ne (ne_of_none q hn)]; exact q
end
def Rd (H : Hp) (a : Addr) (u : HO) : Prop := H a = some u ∨ ∃ o, H a = some (.frz o u)
theorem Rd.ok {P : Program} {w : World} {H : Hp} {h : Heap} {a : Addr} {u : HO} (r : Rd H a u) (x : HOk P w H h) : ObjOk P w H h a u := by
  rcases r with r | ⟨o, r⟩
  · exact x a u r
  · obtain ⟨_, q⟩ := x a _ r
    exact q
def Mut : Option HO → Prop
  | some (.lst _) => True
  | some (.dK _) => True
  | some (.dT _) => True
  | some (.set _ _) => True
  | some (.ins _ _ _) => True
  | some (.ext _) => True
  | _ => False
section
variable {P : Program} {w : World} {H : Hp} {h h' : Heap} {x e : Addr} {o' : HO}
theorem HOk.write (ok : HOk P w H h) (mu : Mut (H x)) (he : e = x ∨ H e = some (.own x)) (k : ∀ b u, b ≠ e → h.get? b = some u → h'.get? b = some u) (heo : ∃ u, h'.get? e = some u)
    (new : ObjOk P w (upd H x o') h' x o') : HOk P w (upd H x o') h' := fun b u q => by
  have nown : ∀ c y, H c = some (.own y) → c ≠ x := fun c y r z => by subst z; rw [r] at mu; exact mu
  have ntup : ∀ c xs, H c = some (.tup xs) → c ≠ x := fun c xs r z => by subst z; rw [r] at mu; exact mu
  by_cases hb : b = x
  · subst hb; rw [upd_same] at q; cases q; exact new
  · rw [upd_ne hb] at q
    by_cases hbe : b = e
    · have q' : H b = some (.own x) := by
        rcases he with z | z
        · exact absurd (hbe.trans z) hb
        · rw [hbe]; exact z
      rw [q] at q'; cases q'
      obtain ⟨v, hv⟩ := heo
      exact ⟨v, by rw [hbe]; exact hv⟩
    · refine (ok b u q).stay (fun c v hc r => k c v ?_ r) (fun c r => by rw [upd_ne (nown c b r)]; exact r) fun c xs r => by rw [upd_ne (ntup c xs r)]; exact r
      rcases hc with rfl | hc
      · exact hbe
      · rintro rfl
        rcases he with z | z
        · exact nown c b hc z
        · rw [hc] at z; cases z; exact hb rfl
end
structure Un (fs ex : List Addr) (H H' : Hp) (h h' : Heap) : Prop where
  keep : ∀ b o, h.get? b = some o → H b = none → b ∉ fs → b ∉ ex → h'.get? b = some o
  slot : ∀ b o, h.get? b = some o → H b = none → b ∈ fs → b ∉ ex → ∃ sl, h'.get? b = some { o with slots := sl }
  free : ∀ b o, h.get? b = some o → H b = none → b ∉ ex → H' b = none
  there : ∀ b o, h.get? b = some o → b ∉ ex → ∃ o', h'.get? b = some o'
  tups : ∀ b xs, H b = some (.tup xs) → H' b = some (.tup xs)
  frzs : ∀ b o u, H b = some (.frz o u) → H' b = some (.frz o u)
  tbls : ∀ b ps, H b = some (.tbl ps) → ∃ more, H' b = some (.tbl (ps ++ more))
section
variable {fs fs' ex ex' : List Addr} {H H1 H2 : Hp} {h h1 h2 h' : Heap} {a x e : Addr} {o : HO}
theorem Un.any (u : Un fs ex H H1 h h1) {b : Addr} {ob : Obj} (q : h.get? b = some ob) (n : H b = none) (hx : b ∉ ex) : ∃ sl, h1.get? b = some { ob with slots := sl } := by
  by_cases hb : b ∈ fs
  · exact u.slot b ob q n hb hx
  · exact ⟨ob.slots, u.keep b ob q n hb hx⟩
theorem Un.kept (k : ∀ b u, h.get? b = some u → h'.get? b = some u) : Un fs ex H H h h' :=
  ⟨fun b ob q _ _ _ => k b ob q, fun b ob q _ _ _ => ⟨ob.slots, k b ob q⟩, fun _ _ _ n _ => n, fun b ob q _ => ⟨ob, k b ob q⟩, fun _ _ q => q, fun _ _ _ q => q, fun _ ps q => ⟨#[], by rw [q]; simp⟩⟩
theorem Un.refl : Un fs ex H H h h := Un.kept fun _ _ q => q
theorem Un.laid (k : ∀ b u, h.get? b = some u → h'.get? b = some u) (hp : h.objs.size ≤ a) (hn : H a = none) : Un fs ex H (upd H a o) h h' where
  keep := fun b u q _ _ _ => k b u q
  slot := fun b u q _ _ _ => ⟨u.slots, k b u q⟩
  free := fun b u q n _ => by rw [upd_ne (Nat.ne_of_lt (Nat.lt_of_lt_of_le (Heap.lt_size q) hp))]; exact n
  there := fun b u q _ => ⟨u, k b u q⟩
  tups := fun b xs q => by rw [upd_ne (ne_of_none q hn)]; exact q
  frzs := fun b u xs q => by rw [upd_ne (ne_of_none q hn)]; exact q
  tbls := fun b ps q => ⟨#[], by rw [upd_ne (ne_of_none q hn), q]; simp⟩
theorem Un.write (mu : Mut (H x)) (he : e = x ∨ H e = some (.own x)) (k : ∀ b u, b ≠ e → h.get? b = some u → h'.get? b = some u) (heo : ∃ u, h'.get? e = some u) : Un fs ex H (upd H x o) h h' := by
  have hx : ∀ b, H b = none → b ≠ x := fun b n z => by subst z; rw [n] at mu; exact mu
  have hb : ∀ b, H b = none → b ≠ e := fun b n z => by
    subst z
    rcases he with r | r
    · exact hx b n r
    · rw [n] at r; cases r
  have hm : ∀ b u, H b = some u → ¬ Mut (some u) → b ≠ x := fun b u q nm z => by subst z; rw [q] at mu; exact nm mu
  refine ⟨fun b u q n _ _ => k b u (hb b n) q, fun b u q n _ _ => ⟨u.slots, k b u (hb b n) q⟩, fun b u q n _ => by rw [upd_ne (hx b n)]; exact n, fun b u q _ => ?_,
    fun b xs q => by rw [upd_ne (hm b _ q fun z => z)]; exact q, fun b u xs q => by rw [upd_ne (hm b _ q fun z => z)]; exact q, fun b ps q => ⟨#[], by rw [upd_ne (hm b _ q fun z => z), q]; simp⟩⟩
  by_cases hbe : b = e
  · subst hbe; exact heo
  · exact ⟨u, k b u hbe q⟩
end
def trk (h : Heap) (H : Hp) : List Addr := (List.range h.objs.size).filter fun a => (H a).isSome
def hidT (h : Heap) (H : Hp) : Heap := PySem.W.hideAll h (trk h H)
theorem hidT_size (h : Heap) (H : Hp) : (hidT h H).objs.size = h.objs.size := PySem.W.hideAll_size _ _
theorem hidT_get {h : Heap} {H : Hp} {b : Addr} {o : Obj} (e : h.get? b = some o) (n : H b = none) : (hidT h H).get? b = some o :=
  PySem.W.hideAll_get _ e fun hm => by
    have q : (H b).isSome = true := (List.mem_filter.mp hm).2
    rw [n] at q; simp at q
theorem of_hidT {h : Heap} {H : Hp} {b : Addr} {o : Obj} (e : (hidT h H).get? b = some o) : h.get? b = some o ∧ H b = none := by
  have e' : h.get? b = some o := PySem.W.of_hideAll (trk h H) e
  refine ⟨e', ?_⟩
  cases q : H b with
  | none => rfl
  | some x =>
    have hm : b ∈ trk h H := List.mem_filter.mpr ⟨List.mem_range.mpr (Heap.lt_size e'), by simp [q]⟩
    have z : (hidT h H).get? b = none := PySem.W.hideAll_none (trk h H) hm
    rw [z] at e; cases e
end L2
namespace L2
open PySem PySem.Spec PyProof.Rows
structure Mod (K : PySem.W.Frag) (mg : Str → Option Value) (base : Heap) : Prop where
  kin : K.In base
  glob : base.Ns mainGlobals mg
  blt : ∃ mb, base.Ns builtinsNs mb ∧ ∀ x : Str, x ≠ "__name__" → mb x = bootBuiltins x
  nolimit : base.NoLimit
structure Cx where
  prog : Program
  w : World
  K : PySem.W.Frag
  mg : Str → Option Value
  base : Heap
  A : Around
  N : List Str
  s₀ : Shared
  H₀ : Hp
  env : Env
  outer : List Env
  stack : List Env
  ex : List Addr
  fn : Str → Bool
  calm : Bool
  pn : List (Addr × Obj)
  xe : Value → Shared → Prop
def frs (l : List Env) : List Addr := l.filterMap (·.frame)
abbrev Cx.fs (X : Cx) : List Addr := frs X.outer
def Vis (sc : Scope) (x : Str) : Prop := sc.names.lookup x = some .local ∨ sc.names.lookup x = some .cell ∨ sc.names.lookup x = some .free
def Loc (sc : Scope) (x : Str) : Prop := sc.names.lookup x = some .local ∨ sc.names.lookup x = some .cell
def Look (env : Env) (h : Heap) (m : Str → Option Value) (x : Str) (u : Value) : Prop :=
  (env.kindOf x = some .local ∧ m x = some u) ∨ ((env.kindOf x = some .cell ∨ env.kindOf x = some .free) ∧ ∃ c, env.cells.lookup x = some c ∧ h.IsCell c (some u))
structure Cx.Ok (X : Cx) : Prop where
  mod : Mod X.K X.mg X.base
  kind : X.env.scope.kind = .function
  glob : X.env.globals = mainGlobals
  blt : X.env.builtins = builtinsNs
  above : X.s₀.heap.objs.size ≤ X.env.locals
  inj : ∀ x y c, X.env.cells.lookup x = some c → X.env.cells.lookup y = some c → x = y
  has : ∀ x, (X.env.kindOf x = some .cell ∨ X.env.kindOf x = some .free) → ∃ c, X.env.cells.lookup x = some c
  cab : ∀ x c, X.fn x = true → X.env.cells.lookup x = some c → X.s₀.heap.objs.size ≤ c
  hd : X.calm = true → X.A.handled = none
  frames : X.A.frames = some X.stack
  stk : X.stack = X.outer ∨ (X.stack = X.env :: X.outer ∧ X.env.frame = some X.env.locals)
  exf : ∀ b ∈ X.ex, b ≠ X.env.locals ∧ ∀ x c, X.env.cells.lookup x = some c → c ≠ b
  bs : ∀ b o, X.base.get? b = some o → X.s₀.heap.get? b = some o ∧ X.H₀ b = none
  bsz : X.base.objs.size ≤ X.s₀.heap.objs.size
  noex : ∀ b o, X.base.get? b = some o → b ∉ X.ex
  exfs : ∀ b ∈ X.ex, b ∉ X.fs
  funs : X.s₀.heap.FunFrames X.base X.outer
  frf : ∀ b ∈ X.fs, X.H₀ b = none
structure Inv (X : Cx) (pins : List (Addr × Obj)) (σ : List (Option V)) (H : Hp) (s : Shared) : Prop where
  ok : X.Ok
  os : s.os = X.s₀.os
  bare : AllBare s.gens
  base : Un X.fs X.ex X.H₀ H X.s₀.heap s.heap
  loc : ∃ m, s.heap.Ns X.env.locals m ∧ ∀ (i : Nat) (x : Str) (v : V), X.N[i]? = some x → σ[i]? = some (some v) → Vis X.env.scope x → ∃ u, RelV v u ∧ Look X.env s.heap m x u
  cell : ∀ x c, X.env.cells.lookup x = some c → ∃ v, s.heap.IsCell c v
  free : H X.env.locals = none
  freeC : ∀ x c, X.env.cells.lookup x = some c → H c = none
  pin : ∀ p ∈ X.pn ++ pins, s.heap.get? p.1 = some p.2 ∧ H p.1 = none ∧ p.1 ≠ X.env.locals ∧ p.1 ∉ X.fs ∧ ∀ v, p.2.data ≠ .cell v
  hok : HOk X.prog X.w H s.heap
  len : σ.length = X.N.length
section
variable {X : Cx} {pins : List (Addr × Obj)} {σ : List (Option V)} {H H' : Hp} {s : Shared} {h' : Heap}
theorem Cx.Ok.nofr (ok : X.Ok) {b : Addr} {o : Obj} (e : X.base.get? b = some o) : b ∉ X.fs := fun hb => by
  have := (ok.funs.mem hb).1
  rw [e] at this; cases this
theorem Inv.bs (I : Inv X pins σ H s) : ∀ b o, X.base.get? b = some o → s.heap.get? b = some o ∧ H b = none := fun b o e =>
  ⟨I.base.keep b o (I.ok.bs b o e).1 (I.ok.bs b o e).2 (I.ok.nofr e) (I.ok.noex b o e), I.base.free b o (I.ok.bs b o e).1 (I.ok.bs b o e).2 (I.ok.noex b o e)⟩
theorem Inv.bk (I : Inv X pins σ H s) : ∀ b o, X.base.get? b = some o → s.heap.get? b = some o := fun b o e => (I.bs b o e).1
theorem Inv.mod (I : Inv X pins σ H s) : Mod X.K X.mg X.base := I.ok.mod
theorem Inv.kIn (I : Inv X pins σ H s) : X.K.In s.heap := I.ok.mod.kin.keeps I.bk
theorem Inv.lt (I : Inv X pins σ H s) : X.env.locals < s.heap.objs.size := let ⟨_, hn, _⟩ := I.loc; hn.lt
theorem Inv.sz (I : Inv X pins σ H s) : X.s₀.heap.objs.size ≤ s.heap.objs.size := Nat.le_trans I.ok.above (Nat.le_of_lt I.lt)
theorem Inv.nofs (I : Inv X pins σ H s) {a : Addr} (h : s.heap.objs.size ≤ a) : a ∉ X.fs := fun hb => by
  obtain ⟨_, o, ho, _⟩ := I.ok.funs.mem hb
  exact absurd (Nat.lt_of_lt_of_le (Heap.lt_size ho) (Nat.le_trans I.sz h)) (Nat.lt_irrefl _)
theorem Inv.cne (I : Inv X pins σ H s) : ∀ x c, X.env.cells.lookup x = some c → c ≠ X.env.locals := fun x c e z => by
  obtain ⟨v, o, ho, hd⟩ := I.cell x c e
  obtain ⟨m, ⟨o', es, ep, ho', hd', _⟩, _⟩ := I.loc
  rw [z, ho'] at ho; cases ho; rw [hd'] at hd; cases hd
theorem Inv.funs (I : Inv X pins σ H s) : s.heap.FunFrames X.base X.outer := by
  have all : ∀ (l : List Env), (∀ b ∈ frs l, b ∈ X.fs) → X.s₀.heap.FunFrames X.base l → s.heap.FunFrames X.base l := by
    intro l
    induction l with
    | nil => intro _ _; trivial
    | cons env r ih =>
      intro hs hl
      obtain ⟨hk, ⟨L, o, hf, hn, ho, hd⟩, hr⟩ := hl
      have hL : L ∈ X.fs := hs L (by unfold frs; rw [List.filterMap_cons, hf]; exact List.mem_cons_self)
      obtain ⟨sl, e⟩ := I.base.slot L o ho (I.ok.frf L hL) hL fun z => I.ok.exfs L z hL
      exact ⟨hk, ⟨L, _, hf, hn, e, hd⟩, ih (fun b hb => hs b (by unfold frs; rw [List.filterMap_cons, hf]; exact List.mem_cons_of_mem _ hb)) hr⟩
  exact all X.outer (fun _ hb => hb) I.ok.funs
theorem Inv.stack (I : Inv X pins σ H s) : s.heap.FunFrames X.base X.stack := by
  rcases I.ok.stk with e | ⟨e, hf⟩
  · rw [e]; exact I.funs
  · rw [e]
    obtain ⟨m, hn, _⟩ := I.loc
    refine .cons (by rw [I.ok.kind]; decide) hf hn ?_ I.funs
    exact Heap.get?_none_of_le (Nat.le_trans I.ok.bsz I.ok.above)
theorem Inv.stkSub (I : Inv X pins σ H s) : ∀ b ∈ frs X.stack, b ∈ X.env.locals :: X.fs := fun b hb => by
  rcases I.ok.stk with e | ⟨e, hf⟩
  · rw [e] at hb; exact List.mem_cons_of_mem _ hb
  · rw [e] at hb
    unfold frs at hb
    rw [List.filterMap_cons, hf] at hb
    exact hb
theorem Inv.stkFree (I : Inv X pins σ H s) : ∀ b ∈ frs X.stack, H b = none := fun b hb => by
  rcases List.mem_cons.mp (I.stkSub b hb) with e | hb
  · rw [e]; exact I.free
  · obtain ⟨_, o, ho, _⟩ := I.ok.funs.mem hb
    exact I.base.free b o ho (I.ok.frf b hb) fun z => I.ok.exfs b z hb
theorem Inv.step {g' : Array GenState} {t' : Nat} {d' : Drawn} {ch : List Addr} (I : Inv X pins σ H s)
    (hch : ∀ b ∈ ch, (b ∈ X.ex ∨ X.s₀.heap.objs.size ≤ b) ∧ b ≠ X.env.locals ∧ (∀ x c, X.env.cells.lookup x = some c → c ≠ b) ∧ ∀ p ∈ X.pn ++ pins, p.1 ≠ b)
    (keep : ∀ b o, b ≠ X.env.locals → b ∉ X.fs → b ∉ ch → s.heap.get? b = some o → H b = none → h'.get? b = some o)
    (slot : ∀ b o, b ≠ X.env.locals → b ∈ X.fs → b ∉ ch → s.heap.get? b = some o → H b = none → ∃ sl, h'.get? b = some { o with slots := sl }) (free : ∀ b o, b ∉ ch → s.heap.get? b = some o → H b = none → H' b = none)
    (there : ∀ b o, b ∉ ch → s.heap.get? b = some o → ∃ o', h'.get? b = some o')
    (tups : ∀ b xs, H b = some (.tup xs) → H' b = some (.tup xs)) (frzs : ∀ b o u, H b = some (.frz o u) → H' b = some (.frz o u)) (tbls : ∀ b ps, H b = some (.tbl ps) → ∃ more, H' b = some (.tbl (ps ++ more)))
    (ns : ∀ m, s.heap.Ns X.env.locals m → h'.Ns X.env.locals m) (hok : HOk X.prog X.w H' h') (hg : AllBare g') :
    Inv X pins σ H' { s with heap := h', gens := g', drawn := d', toks := t' } := by
  have neL : ∀ b o, X.s₀.heap.get? b = some o → b ≠ X.env.locals := fun b o e => Nat.ne_of_lt (Nat.lt_of_lt_of_le (Heap.lt_size e) I.ok.above)
  have neC : ∀ b o, X.s₀.heap.get? b = some o → b ∉ X.ex → b ∉ ch := fun b o e hx hb => by
    rcases (hch b hb).1 with z | z
    · exact hx z
    · exact absurd (Nat.lt_of_lt_of_le (Heap.lt_size e) z) (Nat.lt_irrefl _)
  have cellK : ∀ x c, X.env.cells.lookup x = some c → ∀ v, s.heap.IsCell c v → h'.IsCell c v := fun x c e v ⟨o, ho, hd⟩ => by
    have nch : c ∉ ch := fun z => (hch c z).2.2.1 x c e rfl
    by_cases hc : c ∈ X.fs
    · obtain ⟨sl, q⟩ := slot c o (I.cne x c e) hc nch ho (I.freeC x c e)
      exact ⟨_, q, hd⟩
    · exact ⟨o, keep c o (I.cne x c e) hc nch ho (I.freeC x c e), hd⟩
  refine ⟨I.ok, I.os, hg, ⟨fun b o e n hb hx => ?_, fun b o e n hb hx => ?_, fun b o e n hx => ?_, fun b o e hx => ?_, fun b xs e => tups b xs (I.base.tups b xs e), fun b o xs e => frzs b o xs (I.base.frzs b o xs e), fun b ps e => ?_⟩, ?_, fun x c e => ?_, ?_, fun x c e => ?_, fun p hp => ?_, hok, I.len⟩
  · exact keep b o (neL b o e) hb (neC b o e hx) (I.base.keep b o e n hb hx) (I.base.free b o e n hx)
  · obtain ⟨sl, e1⟩ := I.base.slot b o e n hb hx
    obtain ⟨sl', e2⟩ := slot b _ (neL b o e) hb (neC b o e hx) e1 (I.base.free b o e n hx)
    exact ⟨sl', e2⟩
  · obtain ⟨o', e1⟩ := I.base.there b o e hx
    exact free b o' (neC b o e hx) e1 (I.base.free b o e n hx)
  · obtain ⟨o', e1⟩ := I.base.there b o e hx
    exact there b o' (neC b o e hx) e1
  · obtain ⟨m1, e1⟩ := I.base.tbls b ps e
    obtain ⟨m2, e2⟩ := tbls b _ e1
    exact ⟨m1 ++ m2, by rw [e2, Array.append_assoc]⟩
  · obtain ⟨m, hn, hl⟩ := I.loc
    refine ⟨m, ns m hn, fun i x v e1 e2 e3 => ?_⟩
    obtain ⟨u, r, l⟩ := hl i x v e1 e2 e3
    refine ⟨u, r, ?_⟩
    rcases l with l | ⟨k, c, e, z⟩
    · exact .inl l
    · exact .inr ⟨k, c, e, cellK x c e _ z⟩
  · obtain ⟨v, z⟩ := I.cell x c e
    exact ⟨v, cellK x c e v z⟩
  · obtain ⟨m, ⟨o, _, _, ho, _⟩, _⟩ := I.loc
    exact free _ o (fun z => (hch _ z).2.1 rfl) ho I.free
  · obtain ⟨v, o, ho, hd⟩ := I.cell x c e
    exact free c o (fun z => (hch c z).2.2.1 x c e rfl) ho (I.freeC x c e)
  · obtain ⟨e, n, ne, nf, d⟩ := I.pin p hp
    have nch : p.1 ∉ ch := fun z => (hch p.1 z).2.2.2 p hp rfl
    exact ⟨keep p.1 p.2 ne nf nch e n, free p.1 p.2 nch e n, ne, nf, d⟩
theorem Inv.un {t' : Nat} (I : Inv X pins σ H s) (u : Un X.fs [] H H' s.heap h') (hok : HOk X.prog X.w H' h') : Inv X pins σ H' { s with heap := h', toks := t' } := by
  obtain ⟨m, ⟨o, es, ep, ho, r⟩, _⟩ := id I.loc
  obtain ⟨sl, hL⟩ := u.any ho I.free (by simp)
  exact I.step (g' := s.gens) (d' := s.drawn) (ch := []) (fun _ z => nomatch z) (fun b o _ hb _ e n => u.keep b o e n hb (by simp)) (fun b o _ hb _ e n => u.slot b o e n hb (by simp)) (fun b o _ e n => u.free b o e n (by simp)) (fun b o _ e => u.there b o e (by simp)) u.tups u.frzs u.tbls (fun m' hm => by
    obtain ⟨o', es', ep', ho', r'⟩ := hm
    rw [ho] at ho'; cases ho'
    exact ⟨_, es', ep', hL, r'⟩) hok I.bare
theorem Inv.call {g' : Array GenState} {t' : Nat} {d' : Drawn} {ch : List Addr} (I : Inv X pins σ H s) (u : Un (frs X.stack) ch H H' s.heap h') (hok : HOk X.prog X.w H' h') (hg : AllBare g')
    (hch : ∀ b ∈ ch, (b ∈ X.ex ∨ X.s₀.heap.objs.size ≤ b) ∧ b ≠ X.env.locals ∧ (∀ x c, X.env.cells.lookup x = some c → c ≠ b) ∧ ∀ p ∈ X.pn ++ pins, p.1 ≠ b) :
    Inv X pins σ H' { s with heap := h', gens := g', drawn := d', toks := t' } := by
  obtain ⟨m, ⟨o, es, ep, ho, r⟩, _⟩ := id I.loc
  obtain ⟨sl, hL⟩ := u.any ho I.free fun z => (hch _ z).2.1 rfl
  exact I.step (ch := ch) hch (fun b o hL hb hc e n => u.keep b o e n (fun z => (List.mem_cons.mp (I.stkSub b z)).elim hL hb) hc) (fun b o _ _ hc e n => u.any e n hc) (fun b o hc e n => u.free b o e n hc) (fun b o hc e => u.there b o e hc) u.tups u.frzs u.tbls (fun m' hm => by
    obtain ⟨o', es', ep', ho', r'⟩ := hm
    rw [ho] at ho'; cases ho'
    exact ⟨_, es', ep', hL, r'⟩) hok hg
theorem Inv.turned {t' : Nat} {it : Addr} (I : Inv X pins σ H s) (k : ∀ b o, b ≠ it → s.heap.get? b = some o → h'.get? b = some o) (hn : H it = none) (hL : it ≠ X.env.locals)
    (h1 : it ∈ X.ex ∨ X.s₀.heap.objs.size ≤ it) (h2 : ∀ x c, X.env.cells.lookup x = some c → c ≠ it) (h3 : ∀ p ∈ X.pn ++ pins, p.1 ≠ it) : Inv X pins σ H { s with heap := h', toks := t' } := by
  have nit : ∀ b u, H b = some u → b ≠ it := fun b u e z => by rw [z, hn] at e; cases e
  refine I.step (g' := s.gens) (d' := s.drawn) (ch := [it]) (fun b hb => ?_) (fun b o _ _ hc e _ => k b o (fun z => hc (by simp [z])) e) (fun b o _ _ hc e _ => ⟨o.slots, k b o (fun z => hc (by simp [z])) e⟩) (fun _ _ _ _ n => n)
    (fun b o hc e => ⟨o, k b o (fun z => hc (by simp [z])) e⟩) (fun _ _ e => e) (fun _ _ _ e => e) (fun b ps e => ⟨#[], by rw [e]; simp⟩) (fun m hm => ?_) (fun b u e => ?_) I.bare
  · have e : b = it := by simpa using hb
    subst e
    exact ⟨h1, hL, h2, h3⟩
  · obtain ⟨o, es, ep, ho, r⟩ := hm
    exact ⟨o, es, ep, k _ o (Ne.symm hL) ho, r⟩
  · refine (I.hok b u e).stay (fun c v hc q => k c v ?_ q) (fun _ q => q) fun _ _ q => q
    rcases hc with z | z
    · rw [z]; exact nit b u e
    · exact nit c _ z
theorem Inv.tok (I : Inv X pins σ H s) (t : Nat) : Inv X pins σ H { s with toks := t } := I.un (h' := s.heap) (t' := t) Un.refl I.hok
theorem Inv.kept {t' : Nat} (I : Inv X pins σ H s) (k : ∀ b u, s.heap.get? b = some u → h'.get? b = some u) : Inv X pins σ H { s with heap := h', toks := t' } := I.un (Un.kept k) (I.hok.kept k)
theorem Inv.laid {a : Addr} {o : HO} {t' : Nat} (I : Inv X pins σ H s) (k : ∀ b u, s.heap.get? b = some u → h'.get? b = some u) (hp : s.heap.objs.size ≤ a) (new : ObjOk X.prog X.w (upd H a o) h' a o) :
    Inv X pins σ (upd H a o) { s with heap := h', toks := t' } := I.un (Un.laid k hp (I.hok.fresh hp)) (I.hok.laid k hp new)
theorem Inv.write {x e : Addr} {o : HO} {t' : Nat} (I : Inv X pins σ H s) (mu : Mut (H x)) (he : e = x ∨ H e = some (.own x)) (k : ∀ b u, b ≠ e → s.heap.get? b = some u → h'.get? b = some u) (heo : ∃ u, h'.get? e = some u)
    (new : ObjOk X.prog X.w (upd H x o) h' x o) : Inv X pins σ (upd H x o) { s with heap := h', toks := t' } := I.un (Un.write mu he k heo) (I.hok.write mu he k heo new)
theorem Inv.pins_of {pins' : List (Addr × Obj)} (I : Inv X pins σ H s) (h : ∀ p ∈ pins', s.heap.get? p.1 = some p.2 ∧ H p.1 = none ∧ p.1 ≠ X.env.locals ∧ p.1 ∉ X.fs ∧ ∀ v, p.2.data ≠ .cell v) : Inv X pins' σ H s :=
  ⟨I.ok, I.os, I.bare, I.base, I.loc, I.cell, I.free, I.freeC, fun p hp => (List.mem_append.mp hp).elim (fun z => I.pin p (List.mem_append_left _ z)) (h p), I.hok, I.len⟩
theorem nodup_ix {N : List Str} (hN : N.Nodup) {i j : Nat} {x : Str} (a : N[i]? = some x) (b : N[j]? = some x) : i = j := by
  obtain ⟨h1, e1⟩ := List.getElem?_eq_some_iff.mp a
  obtain ⟨h2, e2⟩ := List.getElem?_eq_some_iff.mp b
  exact (List.getElem_inj hN).mp (e1.trans e2.symm)
theorem store_ok2 {M : Model} {A : Around} {E : Value → Shared → Prop} {i : Nat} {x : Str} {v : V} {u : Value} {Q : Unit → Shared → Prop} (I : Inv X pins σ H s) (hN : X.N.Nodup) (hi : X.N[i]? = some x) (hx : Loc X.env.scope x) (r : RelV v u)
    (h : ∀ s', Inv X pins (σ.set i (some v)) H s' → (∃ a, Heap.SameBut a s.heap s'.heap ∧ (a = X.env.locals ∨ X.env.cells.lookup x = some a)) → Q () s') (hf : X.fn x = true ∨ X.env.scope.names.lookup x = some .local := by first | exact .inl rfl | exact .inr rfl | assumption) : wpAny M A (storeName X.env x u) Q E s := by
  obtain ⟨m, hn, hl⟩ := id I.loc
  have hcls : (X.env.scope.kind == .class || (X.env.scope.kind == .module && X.env.locals != X.env.globals)) = false := by rw [I.ok.kind]; rfl
  have hiσ : i < σ.length := by rw [I.len]; exact (List.getElem?_eq_some_iff.mp hi).1
  have cne := I.cne
  have tracked : ∀ {a : Addr} {h' : Heap}, (∃ o, s.heap.get? a = some o ∧ H a = none) → Heap.SameBut a s.heap h' → HOk X.prog X.w H h' := fun {a h'} ha hs b ob e => by
    obtain ⟨_, _, hfree⟩ := ha
    refine (I.hok b ob e).stay (fun c w' hc q => (hs.2 c ?_).trans q) (fun _ q => q) fun _ _ q => q
    rintro rfl
    rcases hc with rfl | hc
    · rw [hfree] at e; cases e
    · rw [hfree] at hc; cases hc
  rcases hx with hk | hk
  · refine wpAny_storeName_local hk hn (fun h' hn' hs => ?_) hcls
    obtain ⟨oL, _, _, hoL, _⟩ := id hn
    refine h _ ⟨I.ok, I.os, I.bare, ⟨fun b o e n hb hx => ?_, fun b o e n hb hx => ?_, I.base.free, fun b o e hx => ?_, I.base.tups, I.base.frzs, I.base.tbls⟩, ⟨_, hn', fun j y v' e1 e2 e3 => ?_⟩, fun y c e => ?_, I.free, I.freeC, fun p hp => ?_, tracked ⟨oL, hoL, I.free⟩ hs, by simpa using I.len⟩ ⟨_, hs, .inl rfl⟩
    · exact (hs.2 b (Nat.ne_of_lt (Nat.lt_of_lt_of_le (Heap.lt_size e) I.ok.above))).trans (I.base.keep b o e n hb hx)
    · obtain ⟨sl, e1⟩ := I.base.slot b o e n hb hx
      exact ⟨sl, (hs.2 b (Nat.ne_of_lt (Nat.lt_of_lt_of_le (Heap.lt_size e) I.ok.above))).trans e1⟩
    · obtain ⟨o', e1⟩ := I.base.there b o e hx
      exact ⟨o', (hs.2 b (Nat.ne_of_lt (Nat.lt_of_lt_of_le (Heap.lt_size e) I.ok.above))).trans e1⟩
    · by_cases hj : j = i
      · subst hj
        rw [hi] at e1; cases e1
        rw [List.getElem?_set_self hiσ] at e2
        cases e2
        exact ⟨u, r, .inl ⟨hk, by simp⟩⟩
      · rw [List.getElem?_set_ne (Ne.symm hj)] at e2
        obtain ⟨u', r', q⟩ := hl j y v' e1 e2 e3
        refine ⟨u', r', ?_⟩
        rcases q with ⟨k, e⟩ | ⟨k, c, e, z⟩
        · refine .inl ⟨k, ?_⟩
          have : y ≠ x := fun e => hj (nodup_ix hN e1 (e ▸ hi))
          simp [this, e]
        · exact .inr ⟨k, c, e, z.sameBut hs (cne y c e)⟩
    · obtain ⟨w', z⟩ := I.cell y c e
      exact ⟨w', z.sameBut hs (cne y c e)⟩
    · obtain ⟨e, n, ne, nf, d⟩ := I.pin p hp
      exact ⟨(hs.2 p.1 ne).trans e, n, ne, nf, d⟩
  · have hfn : X.fn x = true := by
      rcases hf with z | z
      · exact z
      · rw [z] at hk; cases hk
    obtain ⟨c, hc⟩ := I.ok.has x (.inl hk)
    obtain ⟨w', z⟩ := I.cell x c hc
    refine wpAny_storeName_cell I.ok.kind hk hc z (fun h' hc' hs => ?_)
    obtain ⟨oc, hoc, hocd⟩ := id z
    refine h { s with heap := h' } ⟨I.ok, I.os, I.bare, ⟨fun b o e n hb hx => ?_, fun b o e n hb hx => ?_, I.base.free, fun b o e hx => ?_, I.base.tups, I.base.frzs, I.base.tbls⟩, ⟨m, hn.sameBut hs (Ne.symm (cne x c hc)), fun j y v' e1 e2 e3 => ?_⟩, fun y c' e => ?_, I.free, I.freeC, fun p hp => ?_, tracked ⟨oc, hoc, I.freeC x c hc⟩ hs, by simpa using I.len⟩ ⟨c, hs, .inr hc⟩
    · exact (hs.2 b (Nat.ne_of_lt (Nat.lt_of_lt_of_le (Heap.lt_size e) (I.ok.cab x c hfn hc)))).trans (I.base.keep b o e n hb hx)
    · obtain ⟨sl, e1⟩ := I.base.slot b o e n hb hx
      exact ⟨sl, (hs.2 b (Nat.ne_of_lt (Nat.lt_of_lt_of_le (Heap.lt_size e) (I.ok.cab x c hfn hc)))).trans e1⟩
    · obtain ⟨o', e1⟩ := I.base.there b o e hx
      exact ⟨o', (hs.2 b (Nat.ne_of_lt (Nat.lt_of_lt_of_le (Heap.lt_size e) (I.ok.cab x c hfn hc)))).trans e1⟩
    · by_cases hj : j = i
      · subst hj
        rw [hi] at e1; cases e1
        rw [List.getElem?_set_self hiσ] at e2
        cases e2
        exact ⟨u, r, .inr ⟨.inl hk, c, hc, hc'⟩⟩
      · rw [List.getElem?_set_ne (Ne.symm hj)] at e2
        obtain ⟨u', r', q⟩ := hl j y v' e1 e2 e3
        refine ⟨u', r', ?_⟩
        rcases q with q | ⟨k, c', e, z'⟩
        · exact .inl q
        · refine .inr ⟨k, c', e, z'.sameBut hs ?_⟩
          rintro rfl
          exact hj (nodup_ix hN e1 (I.ok.inj _ _ _ e hc ▸ hi))
    · by_cases hcc : c' = c
      · subst hcc; exact ⟨_, hc'⟩
      · obtain ⟨w2, z2⟩ := I.cell y c' e
        exact ⟨w2, z2.sameBut hs hcc⟩
    · obtain ⟨e, n, ne, nf, d⟩ := I.pin p hp
      refine ⟨(hs.2 p.1 ?_).trans e, n, ne, nf, d⟩
      intro q
      rw [q, hoc] at e
      have q' : oc = p.2 := Option.some.inj e
      exact d w' (by rw [← q']; exact hocd)
theorem store_ok {M : Model} {A : Around} {E : Value → Shared → Prop} {i : Nat} {x : Str} {v : V} {u : Value} {Q : Unit → Shared → Prop} (I : Inv X pins σ H s) (hN : X.N.Nodup) (hi : X.N[i]? = some x) (hx : Loc X.env.scope x) (r : RelV v u)
    (h : ∀ s', Inv X pins (σ.set i (some v)) H s' → Q () s') (hf : X.fn x = true ∨ X.env.scope.names.lookup x = some .local := by first | exact .inl rfl | exact .inr rfl | assumption) : wpAny M A (storeName X.env x u) Q E s :=
  store_ok2 I hN hi hx r (fun s' I' _ => h s' I') hf
theorem Inv.call' {s' : Shared} {ch : List Addr} (I : Inv X pins σ H s) (ho : s'.os = s.os) (u : Un (frs X.stack) ch H H' s.heap s'.heap) (hok : HOk X.prog X.w H' s'.heap) (hg : AllBare s'.gens)
    (hch : ∀ b ∈ ch, (b ∈ X.ex ∨ X.s₀.heap.objs.size ≤ b) ∧ b ≠ X.env.locals ∧ (∀ x c, X.env.cells.lookup x = some c → c ≠ b) ∧ ∀ p ∈ X.pn ++ pins, p.1 ≠ b) : Inv X pins σ H' s' := by
  obtain ⟨h', g', d', t', o'⟩ := s'
  have e : o' = s.os := ho
  subst e
  exact I.call (g' := g') (t' := t') (d' := d') u hok hg hch
end
abbrev XK := Value → Option Addr → Hp → Prop
abbrev St := List (Option V)
abbrev VK := V → Hp → Prop
abbrev TE := St → Hp → VK → Prop
abbrev TT := St → Hp → (Bool → Hp → Prop) → Prop
abbrev TA := St → Hp → (List V → Hp → Prop) → Prop
structure Ends where
  nx : St → Hp → Prop
  rt : VK
  bk : St → Hp → Prop := fun _ _ => False
  ct : St → Hp → Prop := fun _ _ => False
abbrev TS := Ends → St → Hp → Prop
def EP (X : Cx) (pins : List (Addr × Obj)) (σ : St) (Q : VK) (u : Value) (s' : Shared) : Prop := ∃ v H', Inv X pins σ H' s' ∧ RelV v u ∧ Q v H'
def TP (X : Cx) (pins : List (Addr × Obj)) (σ : St) (Q : Bool → Hp → Prop) (b : Bool) (s' : Shared) : Prop := ∃ H', Inv X pins σ H' s' ∧ Q b H'
def AP (X : Cx) (pins : List (Addr × Obj)) (σ : St) (Q : List V → Hp → Prop) (us : List Value) (s' : Shared) : Prop := ∃ vs H', Inv X pins σ H' s' ∧ Vals vs us ∧ Q vs H'
def SP (X : Cx) (pins : List (Addr × Obj)) (D : Ends) (f : Flow) (s' : Shared) : Prop :=
  match f with
  | .next => ∃ σ' H', Inv X pins σ' H' s' ∧ D.nx σ' H'
  | .brk => ∃ σ' H', Inv X pins σ' H' s' ∧ D.bk σ' H'
  | .cont => ∃ σ' H', Inv X pins σ' H' s' ∧ D.ct σ' H'
  | .ret u => ∃ v σ' H', Inv X pins σ' H' s' ∧ RelV v u ∧ D.rt v H'
def PE (X : Cx) (e : Expr) (t : TE) : Prop :=
  ∀ (pins : List (Addr × Obj)) (s : Shared) (σ : St) (H : Hp) (Q : VK), Inv X pins σ H s → t σ H Q → wpAny (model X.prog X.w) X.A (eval e X.env) (EP X pins σ Q) X.xe s
def PT (X : Cx) (e : Expr) (t : TT) : Prop :=
  ∀ (pins : List (Addr × Obj)) (s : Shared) (σ : St) (H : Hp) (Q : Bool → Hp → Prop), Inv X pins σ H s → t σ H Q → wpAny (model X.prog X.w) X.A (isTrue e X.env (eval e X.env)) (TP X pins σ Q) X.xe s
def PW (X : Cx) (e : Expr) (t : TT) : Prop :=
  ∀ (whole : Sem Value) (pins : List (Addr × Obj)) (s : Shared) (σ : St) (H : Hp) (Q : Bool → Hp → Prop), Inv X pins σ H s → t σ H Q → wpAny (model X.prog X.w) X.A (isTrue e X.env whole) (TP X pins σ Q) X.xe s
theorem PW.pt {X : Cx} {e : Expr} {t : TT} (h : PW X e t) : PT X e t := h _
def PA (X : Cx) (es : List Expr) (t : TA) : Prop :=
  ∀ (pos : Pos) (pins : List (Addr × Obj)) (s : Shared) (σ : St) (H : Hp) (Q : List V → Hp → Prop), Inv X pins σ H s → t σ H Q → wpAny (model X.prog X.w) X.A (spliced (backTo pos (starEach es X.env))) (AP X pins σ Q) X.xe s
def PS (X : Cx) (st : Stmt) (t : TS) : Prop :=
  ∀ (pins : List (Addr × Obj)) (s : Shared) (σ : St) (H : Hp) (D : Ends), Inv X pins σ H s → t D σ H → wpAny (model X.prog X.w) X.A (exec st X.env) (SP X pins D) X.xe s
def PSs (X : Cx) (st : List Stmt) (t : TS) : Prop :=
  ∀ (pins : List (Addr × Obj)) (s : Shared) (σ : St) (H : Hp) (D : Ends), Inv X pins σ H s → t D σ H → wpAny (model X.prog X.w) X.A (execs st X.env) (SP X pins D) X.xe s
theorem thn {α : Type} {t : Sem α} {Q Q' : α → Shared → Prop} {M : Model} {A : Around} {E : Value → Shared → Prop} {s : Shared} (h : wpAny M A t Q E s) (hQ : ∀ a s, Q a s → Q' a s) : wpAny M A t Q' E s := wpAny_mono h hQ fun _ _ x => x
end L2
namespace L2
open PySem PySem.Spec PyProof.Rows
section
variable {X : Cx}
def tVar (i : Nat) : TE := fun σ H Q => ∃ v, σ[i]? = some (some v) ∧ Q v H
def tC (v : V) : TE := fun _ H Q => Q v H
theorem pe_var {i : Nat} {x : Str} {pos : Pos} (hN : X.N[i]? = some x) (hv : Vis X.env.scope x) (hd : (x == ("__debug__" : Str)) = false := by decide) (hcd : (x == ("__classdict__" : Str)) = false := by decide) : PE X (.Name x pos) (tVar i) := by
  intro pins s σ H Q I h
  obtain ⟨v, e, h⟩ := h
  obtain ⟨m, hn, hl⟩ := I.loc
  obtain ⟨u, r, l⟩ := hl i x v hN e hv
  have fin : EP X pins σ Q u s := ⟨v, H, I, r, h⟩
  rcases l with ⟨hk, hm⟩ | ⟨hk, c, hc, hcell⟩
  · exact wpAny_Name (wpAny_loadName_local I.ok.kind hk hn hm fin) hd
  · rcases hk with hk | hk
    · exact wpAny_Name (wpAny_loadName_cell I.ok.kind hk hc hcell fin) hd
    · exact wpAny_Name (wpAny_loadName_free I.ok.kind hk hc hcell fin hcd) hd
theorem pe_int {i j pos} : PE X (.Constant (.int i) j pos) (tC (.int i)) := fun _ _ _ H _ I h => wpAny_Constant_int ⟨.int i, H, I.tok _, ⟨_, rfl⟩, h⟩
theorem pe_bl {b j pos} : PE X (.Constant (.bool b) j pos) (tC (.bl b)) := fun _ _ _ H _ I h => Constant_bool ⟨.bl b, H, I, rfl, h⟩
theorem pe_non {j pos} : PE X (.Constant .none j pos) (tC .non) := fun _ _ _ H _ I h => Constant_none ⟨.non, H, I, rfl, h⟩
theorem pe_str {x j pos} : PE X (.Constant (.str x) j pos) (tC (.str x)) := fun _ _ _ H _ I h => Calls.Constant_str ⟨.str x, H, I.tok _, ⟨_, rfl⟩, h⟩
def Gl (X : Cx) (x : Str) : Prop := X.env.kindOf x = some .globalImplicit
theorem ld_glob {E : Value → Shared → Prop} {pins : List (Addr × Obj)} {s : Shared} {σ : St} {H : Hp} {x : Str} {u : Value} {pos : Pos} {Q : Value → Shared → Prop} (I : Inv X pins σ H s) (hg : Gl X x) (hm : X.mg x = some u) (h : Q u s)
    (hd : (x == ("__debug__" : Str)) = false := by decide) : wpAny (model X.prog X.w) X.A (eval (.Name x pos) X.env) Q E s :=
  Calls.Name_function_global I.ok.kind hg (Calls.loadGlobal_global (by rw [I.ok.glob]; exact I.mod.glob.keeps I.bk) hm h) hd
theorem ld_blt {E : Value → Shared → Prop} {pins : List (Addr × Obj)} {s : Shared} {σ : St} {H : Hp} {x : Str} {u : Value} {pos : Pos} {Q : Value → Shared → Prop} (I : Inv X pins σ H s) (hg : Gl X x) (hm : X.mg x = none) (hv : bootBuiltins x = some u) (h : Q u s)
    (hn : x ≠ "__name__" := by decide) (hd : (x == ("__debug__" : Str)) = false := by decide) : wpAny (model X.prog X.w) X.A (eval (.Name x pos) X.env) Q E s := by
  obtain ⟨mb, h1, h2⟩ := I.mod.blt
  exact Calls.Name_function_global I.ok.kind hg (Calls.loadGlobal_builtin (by rw [I.ok.glob]; exact I.mod.glob.keeps I.bk) hm (by rw [I.ok.blt]; exact h1.keeps I.bk) ((h2 x hn).trans hv) h) hd
theorem pe_bltn {x : Str} {v : V} {u : Value} {pos : Pos} (hg : Gl X x) (hm : X.mg x = none) (hv : bootBuiltins x = some u) (r : RelV v u) (hn : x ≠ "__name__" := by decide) (hd : (x == ("__debug__" : Str)) = false := by decide) : PE X (.Name x pos) (tC v) :=
  fun _ _ _ H _ I h => ld_blt I hg hm hv ⟨v, H, I, r, h⟩ hn hd
variable {a b : Expr} {ta tb : TE} {pos : Pos}
def tB (t : TE) : TT := fun σ H Q => t σ H fun x H1 => ∃ c, x = .bl c ∧ Q c H1
theorem pt_val {e : Expr} {t : TE} (h : PE X e t) (he : ∀ whole, isTrue e X.env whole = (do let v ← whole; standAt e.pos; holding [v] (truthy v)) := by intro _; rfl) : PT X e (tB t) := by
  intro pins s σ H Q I hw
  refine isTrue_plain (thn (h pins s σ H _ I hw) fun v s1 ⟨x, H1, I1, r1, q1⟩ => ?_) (he _)
  obtain ⟨d, rfl, q⟩ := q1
  cases r1
  exact wpAny_truthy_bool ⟨H1, I1, q⟩
variable {tA tB' : TT} {rest : List Expr}
def tAnd (t u : TT) : TT := fun σ H Q => t σ H fun c H1 => if c = true then u σ H1 Q else Q false H1
def tOr (t u : TT) : TT := fun σ H Q => t σ H fun c H1 => if c = true then Q true H1 else u σ H1 Q
def tNot (t : TT) : TT := fun σ H Q => t σ H fun c H1 => Q (!c) H1
theorem pw_and1 (ha : PT X a tA) : PW X (.BoolOp .And [a] pos) tA := by
  intro wh pins s σ H Q I h
  refine isTrue_and (thn (ha pins s σ H Q I h) fun c s1 e => ?_)
  cases c with
  | true => exact isTrue_and_nil e
  | false => exact e
theorem pw_or1 (ha : PT X a tA) : PW X (.BoolOp .Or [a] pos) tA := by
  intro wh pins s σ H Q I h
  refine isTrue_or (thn (ha pins s σ H Q I h) fun c s1 e => ?_)
  cases c with
  | false => exact isTrue_or_nil e
  | true => exact e
theorem pw_and (ha : PT X a tA) (hb : PW X (.BoolOp .And (b :: rest) pos) tB') : PW X (.BoolOp .And (a :: b :: rest) pos) (tAnd tA tB') := by
  intro wh pins s σ H Q I h
  refine isTrue_and (thn (ha pins s σ H _ I h) fun c s1 ⟨H1, I1, q1⟩ => ?_)
  cases c with
  | true => exact hb wh pins s1 σ H1 Q I1 q1
  | false => exact ⟨H1, I1, q1⟩
theorem pw_or (ha : PT X a tA) (hb : PW X (.BoolOp .Or (b :: rest) pos) tB') : PW X (.BoolOp .Or (a :: b :: rest) pos) (tOr tA tB') := by
  intro wh pins s σ H Q I h
  refine isTrue_or (thn (ha pins s σ H _ I h) fun c s1 ⟨H1, I1, q1⟩ => ?_)
  cases c with
  | true => exact ⟨H1, I1, q1⟩
  | false => exact hb wh pins s1 σ H1 Q I1 q1
theorem pt_not (ha : PT X a tA) : PT X (.UnaryOp .Not a pos) (tNot tA) := by
  intro pins s σ H Q I h
  exact isTrue_not (ha pins s σ H (fun c H1 => Q (!c) H1) I h)
def tAndV (ta tb : TE) : TE := fun σ H Q => ta σ H fun x H1 => ∃ c, x = .bl c ∧ if c = true then tb σ H1 Q else Q (.bl false) H1
def tNotV (ta : TE) : TE := fun σ H Q => ta σ H fun x H1 => ∃ c, x = .bl c ∧ Q (.bl (!c)) H1
theorem pe_one {op} {t : TE} (h : PE X a t) : PE X (.BoolOp op [a] pos) t := fun pins s σ H Q I hw => BoolOp_one (h pins s σ H Q I hw)
theorem pe_and (ha : PE X a ta) (hb : PE X (.BoolOp .And (b :: rest) pos) tb) : PE X (.BoolOp .And (a :: b :: rest) pos) (tAndV ta tb) := by
  intro pins s σ H Q I h
  refine BoolOp_and (thn (ha pins s σ H _ I h) fun v s1 ⟨x, H1, I1, r1, q1⟩ => ?_)
  obtain ⟨c, rfl, q1⟩ := q1
  cases r1
  refine wpAny_truthy_bool ?_
  cases c with
  | true => exact hb pins s1 σ H1 Q I1 q1
  | false => exact ⟨.bl false, H1, I1, rfl, q1⟩
theorem pe_not (ha : PE X a ta) : PE X (.UnaryOp .Not a pos) (tNotV ta) := by
  intro pins s σ H Q I h
  refine UnaryOp_ (thn (ha pins s σ H _ I h) fun v s1 ⟨x, H1, I1, r1, q1⟩ => ?_)
  obtain ⟨c, rfl, q1⟩ := q1
  cases r1
  exact not_of (wpAny_truthy_bool ⟨.bl (!c), H1, I1, rfl, q1⟩)
end
end L2
namespace L2
open PySem PySem.Spec PyProof.Rows
def SqL (K : PySem.W.Frag) (H : Hp) (a : Addr) (xs : List V) : Prop :=
  Rd H a (.lst xs) ∨
    ∃ (o : Obj) (its : Array Value) (n : Nat), K.lookup a = some o ∧ o.cls = .type "list" ∧ o.dict = none ∧ o.data = .seq its n ∧ its.size ≤ sizeLine ∧ Vals xs its.toList
def SqT (K : PySem.W.Frag) (H : Hp) (a : Addr) (xs : List V) : Prop :=
  Rd H a (.tup xs) ∨
    ∃ (o : Obj) (its : Array Value) (n : Nat), K.lookup a = some o ∧ o.cls = .type "tuple" ∧ o.data = .seq its n ∧ its.size ≤ sizeLine ∧ Vals xs its.toList
def absV : Value → Option V
  | .none => some .non
  | .bool b => some (.bl b)
  | .int i _ => some (.int i)
  | .str x _ => some (.str x)
  | .bytes b _ => some (.byt b)
  | .float b _ => some (.flt b)
  | .ref a => some (.ref a)
  | .type n => some (.ty n)
  | _ => none
theorem RelV.abs {x : V} {u : Value} (r : RelV x u) : absV u = some x := by
  cases x with
  | non => cases r; rfl
  | bl _ => cases r; rfl
  | int _ => obtain ⟨t, rfl⟩ := r; rfl
  | str _ => obtain ⟨t, rfl⟩ := r; rfl
  | byt _ => obtain ⟨t, rfl⟩ := r; rfl
  | flt _ => obtain ⟨t, rfl⟩ := r; rfl
  | ref _ => cases r; rfl
  | ty _ => cases r; rfl
theorem RelV.inj {x y : V} {u : Value} (r : RelV x u) (q : RelV y u) : x = y := Option.some.inj (r.abs.symm.trans q.abs)
theorem Vals.inj : ∀ {xs ys : List V} {us : List Value}, Vals xs us → Vals ys us → xs = ys
  | _, _, _, .nil, .nil => rfl
  | _, _, _, .cons r t, .cons r' t' => by rw [r.inj r', Vals.inj t t']
section
variable {X : Cx} {pins : List (Addr × Obj)} {σ : St} {H : Hp} {s : Shared} {a : Addr} {xs ys : List V}
theorem SqL.of {K : PySem.W.Frag} (h : H a = some (.lst xs)) : SqL K H a xs := .inl (.inl h)
theorem SqT.of {K : PySem.W.Frag} (h : H a = some (.tup xs)) : SqT K H a xs := .inl (.inl h)
theorem Inv.list (I : Inv X pins σ H s) (h : SqL X.K H a xs) : ∃ its : List Value, Vals xs its ∧ PlainL s.heap a its.toArray ∧ xs.length ≤ sizeLine := by
  rcases h with h | ⟨o, its, n, hk, hc, hd, hs, hz, r⟩
  · obtain ⟨z, its, n, r, e⟩ := h.ok I.hok
    exact ⟨its, r, ⟨_, n, e, rfl, rfl, rfl⟩, z⟩
  · refine ⟨its.toList, r, ⟨o, n, I.kIn a o hk, hc, hd, by simpa using hs⟩, ?_⟩
    have e := r.length
    simp only [Array.length_toList] at e
    omega
theorem Inv.tuple (I : Inv X pins σ H s) (h : SqT X.K H a xs) : ∃ its : List Value, Vals xs its ∧ IsTup s.heap a its.toArray ∧ xs.length ≤ sizeLine := by
  rcases h with h | ⟨o, its, n, hk, hc, hs, hz, r⟩
  · obtain ⟨z, its, r, p⟩ := h.ok I.hok
    exact ⟨its, r, p, z⟩
  · refine ⟨its.toList, r, ⟨o, I.kIn a o hk, hc, n, by simpa using hs⟩, ?_⟩
    have e := r.length
    simp only [Array.length_toList] at e
    omega
theorem Inv.list_inj (I : Inv X pins σ H s) (h : SqL X.K H a xs) (h' : SqL X.K H a ys) : xs = ys := by
  obtain ⟨its, r, ⟨o, n, e, _, _, d⟩, _⟩ := I.list h
  obtain ⟨its', r', ⟨o', n', e', _, _, d'⟩, _⟩ := I.list h'
  rw [e] at e'; cases e'
  rw [d] at d'
  injection d' with d1 _
  have : its = its' := by simpa using congrArg Array.toList d1
  subst this
  exact r.inj r'
theorem Inv.tuple_inj (I : Inv X pins σ H s) (h : SqT X.K H a xs) (h' : SqT X.K H a ys) : xs = ys := by
  obtain ⟨its, r, ⟨o, e, _, n, d⟩, _⟩ := I.tuple h
  obtain ⟨its', r', ⟨o', e', _, n', d'⟩, _⟩ := I.tuple h'
  rw [e] at e'; cases e'
  rw [d] at d'
  injection d' with d1 _
  have : its = its' := by simpa using congrArg Array.toList d1
  subst this
  exact r.inj r'
end
abbrev Cx.wish (X : Cx) (E : Value → Shared → Prop) : Cx := { X with xe := E }
abbrev Cx.nox (X : Cx) : Cx := X.wish fun _ _ => False
theorem Cx.Ok.wish {X : Cx} (ok : X.Ok) (E : Value → Shared → Prop) : (X.wish E).Ok :=
  ⟨ok.mod, ok.kind, ok.glob, ok.blt, ok.above, ok.inj, ok.has, ok.cab, ok.hd, ok.frames, ok.stk, ok.exf, ok.bs, ok.bsz, ok.noex, ok.exfs, ok.funs, ok.frf⟩
theorem Cx.Ok.unwish {X : Cx} {E : Value → Shared → Prop} (ok : (X.wish E).Ok) : X.Ok :=
  ⟨ok.mod, ok.kind, ok.glob, ok.blt, ok.above, ok.inj, ok.has, ok.cab, ok.hd, ok.frames, ok.stk, ok.exf, ok.bs, ok.bsz, ok.noex, ok.exfs, ok.funs, ok.frf⟩
section
variable {X : Cx} {pins : List (Addr × Obj)} {σ : St} {H : Hp} {s : Shared} {E : Value → Shared → Prop}
theorem Inv.wish (I : Inv X pins σ H s) (E : Value → Shared → Prop) : Inv (X.wish E) pins σ H s := ⟨I.ok.wish E, I.os, I.bare, I.base, I.loc, I.cell, I.free, I.freeC, I.pin, I.hok, I.len⟩
theorem Inv.unwish (I : Inv (X.wish E) pins σ H s) : Inv X pins σ H s := ⟨I.ok.unwish, I.os, I.bare, I.base, I.loc, I.cell, I.free, I.freeC, I.pin, I.hok, I.len⟩
theorem SP.unwish {D : Ends} {f : Flow} {s' : Shared} (h : SP (X.wish E) pins D f s') : SP X pins D f s' := by
  cases f with
  | next => obtain ⟨σ', H', I, q⟩ := h; exact ⟨σ', H', I.unwish, q⟩
  | brk => obtain ⟨σ', H', I, q⟩ := h; exact ⟨σ', H', I.unwish, q⟩
  | cont => obtain ⟨σ', H', I, q⟩ := h; exact ⟨σ', H', I.unwish, q⟩
  | ret u => obtain ⟨v, σ', H', I, r, q⟩ := h; exact ⟨v, σ', H', I.unwish, r, q⟩
theorem PSs.nox {st : List Stmt} {t : TS} (h : PSs X.nox st t) : PSs X st t := fun pins s σ H D I hw =>
  wpAny_mono (h pins s σ H D (I.wish _) hw) (fun _ _ q => q.unwish) fun _ _ z => False.elim z
end
section
variable {X : Cx} {st : Stmt} {rest : List Stmt} {t u : TS} {e : Expr} {te : TE} {pos : Pos}
def tNext : TS := fun D σ H => D.nx σ H
def tSeq (t u : TS) : TS := fun D σ H => t { D with nx := u D } σ H
theorem pss_nil : PSs X [] tNext := fun _ _ σ H _ I h => wpAny_execs_nil ⟨σ, H, I, h⟩
theorem pss_cons (h1 : PS X st t) (h2 : PSs X rest u) : PSs X (st :: rest) (tSeq t u) := by
  intro pins s σ H D I h
  refine wpAny_execs_cons (thn (h1 pins s σ H { D with nx := u D } I h) fun f s1 q => ?_)
  cases f with
  | next =>
    obtain ⟨σ', H', I', q⟩ := q
    exact h2 pins s1 σ' H' D I' q
  | ret v => exact q
  | brk => exact q
  | cont => exact q
theorem pss_one (h1 : PS X st t) : PSs X [st] t := by
  intro pins s σ H D I h
  refine wpAny_execs_cons (thn (h1 pins s σ H D I h) fun f s1 q => ?_)
  cases f with
  | next => exact wpAny_execs_nil q
  | ret v => exact q
  | brk => exact q
  | cont => exact q
theorem Inv.quiet {pins : List (Addr × Obj)} {σ : St} {H : Hp} {s : Shared} (I : Inv X pins σ H s) : interactive X.env = false := by simp [interactive, I.ok.kind]
def tDrop (te : TE) : TS := fun D σ H => te σ H fun _ H1 => D.nx σ H1
theorem ps_expr (he : PE X e te) (hs : swapsWith e none pos.line X.env = pure false := by rfl) : PS X (.Expr e pos) (tDrop te) := by
  intro pins s σ H D I h
  exact wpAny_Expr_any (thn (he pins s σ H _ I h) fun v s1 ⟨x, H1, I1, r1, q1⟩ => ⟨σ, H1, I1, q1⟩) I.quiet hs
def tRet (te : TE) : TS := fun D σ H => te σ H D.rt
theorem ps_ret (he : PE X e te) : PS X (.Return (some e) pos) (tRet te) := by
  intro pins s σ H D I h
  exact wpAny_Return_some (thn (he pins s σ H _ I h) fun v s1 ⟨x, H1, I1, r1, q1⟩ => ⟨x, σ, H1, I1, r1, q1⟩)
def tIfS (c : TT) (t u : TS) : TS := fun D σ H => c σ H fun b H1 => if b = true then t D σ H1 else u D σ H1
theorem ps_if {c : Expr} {a b : List Stmt} {tc : TT} (hc : PT X c tc) (ha : PSs X a t) (hb : PSs X b u) : PS X (.If c a b pos) (tIfS tc t u) := by
  intro pins s σ H D I h
  refine wpAny_If (thn (hc pins s σ H _ I h) fun d s1 ⟨H1, I1, q1⟩ => ?_)
  cases d with
  | true => exact ha pins s1 σ H1 D I1 q1
  | false => exact hb pins s1 σ H1 D I1 q1
end
abbrev TG := V → St → Hp → (St → Hp → Prop) → Prop
abbrev TGs := List V → St → Hp → (St → Hp → Prop) → Prop
def PG (X : Cx) (target : Expr) (t : TG) : Prop :=
  ∀ (pins : List (Addr × Obj)) (s : Shared) (σ : St) (H : Hp) (v : V) (u : Value) (Q : St → Hp → Prop), Inv X pins σ H s → RelV v u → t v σ H Q →
    wpAny (model X.prog X.w) X.A (assign target X.env u) (fun _ s' => ∃ σ' H', Inv X pins σ' H' s' ∧ Q σ' H') X.xe s
def PGs (X : Cx) (ts : List Expr) (t : TGs) : Prop :=
  ∀ (pins : List (Addr × Obj)) (s : Shared) (σ : St) (H : Hp) (vs : List V) (us : List Value) (Q : St → Hp → Prop), Inv X pins σ H s → Vals vs us → t vs σ H Q →
    wpAny (model X.prog X.w) X.A (assignInOrder ((assignEach ts X.env).map (·.2)) us) (fun _ s' => ∃ σ' H', Inv X pins σ' H' s' ∧ Q σ' H') X.xe s
abbrev TSet := V → V → V → Hp → (Hp → Prop) → Prop
def PSet (X : Cx) (t : TSet) : Prop :=
  ∀ (pins : List (Addr × Obj)) (s : Shared) (σ : St) (H : Hp) (o i v : V) (ov iv u : Value) (Q : Hp → Prop), Inv X pins σ H s → RelV o ov → RelV i iv → RelV v u → t o i v H Q →
    wpAny (model X.prog X.w) X.A (setItem ov iv u) (fun _ s' => ∃ H', Inv X pins σ H' s' ∧ Q H') X.xe s
section
variable {X : Cx} {pos : Pos}
def gName (i : Nat) : TG := fun v σ H Q => Q (σ.set i (some v)) H
theorem pg_name {i : Nat} {x : Str} (hN : X.N.Nodup) (hi : X.N[i]? = some x) (hx : Loc X.env.scope x) (hf : X.fn x = true ∨ X.env.scope.names.lookup x = some .local := by first | exact .inl rfl | exact .inr rfl | assumption) : PG X (.Name x pos) (gName i) := by
  intro pins s σ H v u Q I r h
  exact wpAny_assign_Name (store_ok I hN hi hx r (fun s' I' => ⟨_, H, I', h⟩) hf)
def gNil : TGs := fun vs σ H Q => vs = [] ∧ Q σ H
def gCons (t : TG) (u : TGs) : TGs := fun vs σ H Q => ∃ v r, vs = v :: r ∧ t v σ H fun σ' H' => u r σ' H' Q
theorem pgs_nil : PGs X [] gNil := by
  intro pins s σ H vs us Q I r h
  obtain ⟨e, h⟩ := h
  subst e
  cases r
  exact assignInOrder_nil ⟨σ, H, I, h⟩
theorem pgs_cons {e : Expr} {es : List Expr} {t : TG} {u : TGs} (h1 : PG X e t) (h2 : PGs X es u)
    (hs : (assignEach (e :: es) X.env).map (·.2) = assign e X.env :: (assignEach es X.env).map (·.2) := by rfl) : PGs X (e :: es) (gCons t u) := by
  intro pins s σ H vs us Q I r h
  obtain ⟨v, vr, e1, h⟩ := h
  subst e1
  cases r with
  | cons r rr =>
    rw [hs]
    refine assignInOrder_cons (thn (h1 pins s σ H _ _ _ I r h) fun _ s1 ⟨σ1, H1, I1, q1⟩ => ?_)
    exact h2 pins s1 σ1 H1 _ _ Q I1 rr q1
def gTup (K : PySem.W.Frag) (n : Nat) (t : TGs) : TG := fun v σ H Q => ∃ a xs, v = .ref a ∧ SqT K H a xs ∧ xs.length = n ∧ t xs σ H Q
theorem pg_tup {es : List Expr} {k : Nat} {t : TGs} {n : Nat} (hc : X.calm = true) (h : PGs X es t)
    (hn : (assignEach es X.env).length = n := by rfl) (hst : (assignEach es X.env).findIdx? (·.1) = none := by rfl) : PG X (.Tuple es k pos) (gTup X.K n t) := by
  intro pins s σ H v u Q I r hw
  obtain ⟨a, xs, e1, hq, hl, hw⟩ := hw
  subst e1
  cases r
  obtain ⟨its, rv, ht, hz⟩ := I.tuple hq
  refine assign_Tuple_tuple (I.ok.hd hc) ht (by simp [hn, ← hl, rv.length]) hst fun h' hx => ?_
  have I1 : Inv X pins σ H { s with heap := h' } := I.kept (t' := s.toks) fun b o e => hx b o (Nat.ne_of_lt (Heap.lt_size e)) e
  exact h pins _ σ H xs _ Q I1 (by simpa using rv) hw
def gSub (to ti : TE) (t : TSet) : TG := fun v σ H Q => to σ H fun o H1 => ti σ H1 fun i H2 => t o i v H2 fun H3 => Q σ H3
theorem pg_sub {o i : Expr} {to ti : TE} {t : TSet} (ho : PE X o to) (hi : PE X i ti) (hs : PSet X t)
    (ha : ∀ v, assign (.Subscript o i pos) X.env v = (do
      let ov ← holding [v] (eval o X.env)
      let iv ← holding [v, ov] (eval i X.env)
      standAt pos
      holding [v, ov, iv] (setItem ov iv v)
      release [v, ov, iv] []) := by intro _; rfl) : PG X (.Subscript o i pos) (gSub to ti t) := by
  intro pins s σ H v u Q I r h
  rw [ha]
  refine wpAny_bind (wpAny_holding (thn (ho pins s σ H _ I h) fun ov s1 ⟨x, H1, I1, r1, q1⟩ => ?_))
  refine wpAny_bind (wpAny_holding (thn (hi pins s1 σ H1 _ I1 q1) fun iv s2 ⟨y, H2, I2, r2, q2⟩ => ?_))
  refine wpAny_bind (wpAny_standAt (wpAny_bind (wpAny_holding (thn (hs pins s2 σ H2 x y v ov iv u _ I2 r1 r2 r q2) fun _ s3 ⟨H3, I3, q3⟩ => ?_))))
  exact wpAny_release ⟨σ, H3, I3, q3⟩
def tAsg (te : TE) (g : TG) : TS := fun D σ H => te σ H fun x H1 => g x σ H1 D.nx
theorem ps_asg {tg e : Expr} {te : TE} {g : TG} (he : PE X e te) (hg : PG X tg g) (hs : swapsWithSole [tg] e pos.line X.env = pure false := by rfl) (hw : swappedStores [tg] e X.env = pure none := by rfl)
    (h1 : (assignEach [tg] X.env).map (·.2) = [assign tg X.env] := by rfl) : PS X (.Assign [tg] e pos) (tAsg te g) := by
  intro pins s σ H D I h
  refine wpAny_Assign_stores (thn (he pins s σ H _ I h) fun v s1 ⟨x, H1, I1, r1, q1⟩ => ?_) hs hw
  rw [h1]
  exact thn (hg pins s1 σ H1 x v _ I1 r1 q1) fun _ s2 q => q
theorem ps_set {i : Nat} {x : Str} {e : Expr} {te : TE} {pos' : Pos} (hN : X.N.Nodup) (hi : X.N[i]? = some x) (hx : Loc X.env.scope x) (he : PE X e te) (hs : swapsWith e (some (.Name x pos')) pos.line X.env = pure false := by rfl) (hf : X.fn x = true ∨ X.env.scope.names.lookup x = some .local := by first | exact .inl rfl | exact .inr rfl | assumption) :
    PS X (.Assign [.Name x pos'] e pos) (tAsg te (gName i)) := by
  intro pins s σ H D I h
  refine wpAny_Assign_Name (thn (he pins s σ H _ I h) fun v s1 ⟨y, H1, I1, r1, q1⟩ => ?_) hs
  exact store_ok I1 hN hi hx r1 (fun s2 I2 => ⟨_, H1, I2, q1⟩) hf
def tPar (i j : Nat) (ta : TA) : TS := fun D σ H => ta σ H fun vs H1 => ∃ v w, vs = [v, w] ∧ D.nx ((σ.set i (some v)).set j (some w)) H1
theorem ps_par {i j : Nat} {x y : Str} {a b : Expr} {ta : TA} {px py pt : Pos} {kt k2 pt2} (hc : X.calm = true) (hN : X.N.Nodup) (hi : X.N[i]? = some x) (hj : X.N[j]? = some y) (hij : i ≠ j)
    (hx : X.env.scope.names.lookup x = some .local) (hy : X.env.scope.names.lookup y = some .local) (ha : PA X [a, b] ta)
    (hw : swappedStores [.Tuple [.Name x px, .Name y py] kt pt] (.Tuple [a, b] k2 pt2) X.env = pure (some [x, y]))
    (hs : swapsWithSole [.Tuple [.Name x px, .Name y py] kt pt] (.Tuple [a, b] k2 pt2) pos.line X.env = pure false := by rfl) :
    PS X (.Assign [.Tuple [.Name x px, .Name y py] kt pt] (.Tuple [a, b] k2 pt2) pos) (tPar i j ta) := by
  intro pins s σ H D I h
  rw [exec_Assign_arm]
  refine wpAny_bind (wpAny_standAt ?_)
  rw [hs]
  refine wpAny_bind (wpAny_pure ?_)
  rw [if_neg (by decide)]
  refine wpAny_bind (Tuple_ (thn (ha _ pins s σ H _ I h) fun us s1 ⟨vs, H1, I1, r1, q1⟩ => ?_))
  obtain ⟨v, w, e1, q1⟩ := q1
  subst e1
  obtain ⟨u1, u2, rfl, rv, rw'⟩ : ∃ u1 u2, us = [u1, u2] ∧ RelV v u1 ∧ RelV w u2 := by
    cases r1 with
    | cons p q =>
      cases q with
      | cons p' q' =>
        cases q'
        exact ⟨_, _, rfl, p, p'⟩
  refine wpAny_newObj_type ?_ (by show 2 ≤ sizeLine; decide)
  have I2 : Inv X pins σ H1 { s1 with heap := s1.heap.push { cls := .type "tuple", data := .seq [u1, u2].toArray } } := I1.kept (t' := s1.toks) fun b o e => Heap.get?_push_of_some _ e
  rw [hw]
  refine wpAny_bind (wpAny_pure ?_)
  show wpAny (model X.prog X.w) X.A (do rule "assign.swapped-stores"; let items ← unpackItems (.ref s1.heap.objs.size) 2 none; assignInOrder [fun v => bindName X.env y v, fun v => bindName X.env x v] items.reverse; pure Flow.next) _ _ _
  refine wpAny_bind (wpAny_rule (wpAny_bind (unpackItems_tuple (items := #[u1, u2]) (I.ok.hd hc) (IsTup.new s1.heap _) fun h' hx' => ?_)))
  have I3 := I2.kept (h' := h') (t' := s1.toks) fun b o e => hx' b o (Nat.ne_of_lt (Heap.lt_size e)) e
  show wpAny _ _ (assignInOrder [fun v => bindName X.env y v, fun v => bindName X.env x v] [u2, u1] >>= fun _ => pure Flow.next) _ _ _
  refine wpAny_bind (assignInOrder_cons (wpAny_bindName (store_ok I3 hN hj (.inl hy) rw' (fun s2 I4 => ?_) (.inr hy))))
  refine assignInOrder_cons (wpAny_bindName (store_ok I4 hN hi (.inl hx) rv (fun s3 I5 => assignInOrder_nil (wpAny_pure ?_)) (.inr hx)))
  rw [List.set_comm _ _ (Ne.symm hij)] at I5
  exact ⟨_, H1, I5, q1⟩
end
section
variable {X : Cx} {pos : Pos}
def tWhile (c : TT) (tb : TS) : TS := fun D σ H => ∃ W : Nat → St → Hp → Prop, (∃ m, W m σ H) ∧ ∀ m σ H, W m σ H →
  c σ H fun b H1 => if b = true then ∃ N : St → Hp → Prop, (∀ σ' H', N σ' H' → ∃ m', m' < m ∧ W m' σ' H') ∧ tb { D with nx := N, ct := N, bk := D.nx } σ H1 else D.nx σ H1
theorem ps_while {c : Expr} {body : List Stmt} {tc : TT} {tb : TS} (hp : PassesOwn (model X.prog X.w) X.A X.env X.xe) (hc : PT X c tc) (hb : PSs X body tb) : PS X (.While c body [] pos) (tWhile tc tb) := by
  intro pins s σ H D I h
  obtain ⟨W, ⟨m0, w0⟩, turn⟩ := h
  refine wpAny_While (codeAny_whileLoop (fun n s' => ∃ σ' H', Inv X pins σ' H' s' ∧ W n σ' H') ?_ m0 ⟨σ, H, I, w0⟩)
  rintro n s1 ⟨σ1, H1, I1, w1⟩
  refine wpAny_passesOwn hp (thn (hc pins s1 σ1 H1 _ I1 (turn n σ1 H1 w1)) fun b s2 ⟨H2, I2, q2⟩ => ?_)
  cases b with
  | true =>
    obtain ⟨N, hN, q2⟩ := q2
    rw [if_pos rfl]
    refine wpAny_passesOwn hp (thn (hb pins s2 σ1 H2 _ I2 q2) fun f s3 q3 => ?_)
    cases f with
    | next =>
      obtain ⟨σ3, H3, I3, n3⟩ := q3
      obtain ⟨m', hm, w3⟩ := hN σ3 H3 n3
      exact ⟨m', hm, σ3, H3, I3, w3⟩
    | cont =>
      obtain ⟨σ3, H3, I3, n3⟩ := q3
      obtain ⟨m', hm, w3⟩ := hN σ3 H3 n3
      exact ⟨m', hm, σ3, H3, I3, w3⟩
    | brk => exact q3
    | ret v => exact q3
  | false =>
    rw [if_neg Bool.false_ne_true]
    exact wpAny_execs_nil ⟨σ1, H2, I2, q2⟩
end
structure It where
  go : Nat → Hp → Prop
  yld : Nat → Hp → V → Hp → Prop
  stop : Nat → Hp → Prop
def FpOk (X : Cx) (pins : List (Addr × Obj)) (H : Hp) (b : Addr) : Prop :=
  H b = none ∧ b ≠ X.env.locals ∧ b ∉ X.fs ∧ (b ∈ X.ex ∨ X.s₀.heap.objs.size ≤ b) ∧ (∀ x c, X.env.cells.lookup x = some c → c ≠ b) ∧ ∀ p ∈ X.pn ++ pins, p.1 ≠ b
theorem Inv.fpOk {X : Cx} {pins : List (Addr × Obj)} {σ : St} {H H' : Hp} {s : Shared} {b : Addr} (I : Inv X pins σ H s) (hb : s.heap.objs.size ≤ b) (hn : H' b = none) : FpOk X pins H' b := by
  refine ⟨hn, Nat.ne_of_gt (Nat.lt_of_lt_of_le I.lt hb), I.nofs hb, .inr (Nat.le_trans I.sz hb), fun x c e z => ?_, fun p hp z => ?_⟩
  · obtain ⟨v, q⟩ := I.cell x c e
    exact absurd (Nat.lt_of_lt_of_le q.lt (by rw [z]; exact hb)) (Nat.lt_irrefl _)
  · exact absurd (Nat.lt_of_lt_of_le (Heap.lt_size (I.pin p hp).1) (by rw [z]; exact hb)) (Nat.lt_irrefl _)
structure Turn (P : Program) (w : World) (K : PySem.W.Frag) (tg : Expr) (J : It) (fp : List Addr) (it : Addr) (tn : Nat → Heap → Prop) : Prop where
  mem : it ∈ fp
  obj : ∀ i h, tn i h → ∀ b ∈ fp, ∃ o, h.get? b = some o ∧ ∀ v, o.data ≠ .cell v
  keep : ∀ i h h', tn i h → (∀ b ∈ fp, ∀ o, h.get? b = some o → h'.get? b = some o) → tn i h'
  item : ∀ (X : Cx), X.prog = P → X.w = w → X.K = K → X.calm = true → ∀ (i : Nat) (pins : List (Addr × Obj)) (s : Shared) (σ : St) (H : Hp) (E : Value → Shared → Prop), Inv X pins σ H s → (∀ b ∈ fp, FpOk X pins H b) → tn i s.heap → J.go i H →
    wpAny (model P w) X.A (pyNext (.ref it)) (fun r s1 => ∃ u, r = some u ∧
      wpAny (model P w) X.A (letOwnedTupleGo tg (.ref it) u) (fun _ s2 => ∃ x H', Inv X pins σ H' s2 ∧ RelV x u ∧ J.yld i H x H' ∧ tn (i + 1) s2.heap ∧ ∀ b ∈ fp, H' b = none) E s1) E s
  done : ∀ (X : Cx), X.prog = P → X.w = w → X.K = K → X.calm = true → ∀ (i : Nat) (pins : List (Addr × Obj)) (s : Shared) (σ : St) (H : Hp) (E : Value → Shared → Prop), Inv X pins σ H s → (∀ b ∈ fp, FpOk X pins H b) → tn i s.heap → J.stop i H →
    wpAny (model P w) X.A (pyNext (.ref it)) (fun r s1 => r = none ∧ Inv X pins σ H s1) E s
  self : ∀ (A : Around) (i : Nat) (s : Shared) (Q : Value → Shared → Prop) (E : Value → Shared → Prop), tn i s.heap → Q (.ref it) s → wpAny (model P w) A (pyIter (.ref it)) Q E s
abbrev TI := St → Hp → (It → Hp → Prop) → Prop
def PIE (X : Cx) (pins : List (Addr × Obj)) (σ : St) (tg : Expr) (R : It → Hp → Prop) (itv : Value) (s2 : Shared) : Prop :=
  ∃ (it : Addr) (fp : List Addr) (tn : Nat → Heap → Prop) (J : It) (H' : Hp), itv = .ref it ∧ Inv X pins σ H' s2 ∧ Turn X.prog X.w X.K tg J fp it tn ∧ tn 0 s2.heap ∧ (∀ b ∈ fp, FpOk X pins H' b) ∧ R J H'
def PI (X : Cx) (tg iter : Expr) (wi : TI) : Prop :=
  ∀ (pins : List (Addr × Obj)) (s : Shared) (σ : St) (H : Hp) (R : It → Hp → Prop), Inv X pins σ H s → wi σ H R →
    wpAny (model X.prog X.w) X.A (eval iter X.env) (fun v s1 => wpAny (model X.prog X.w) X.A (pyIter v) (PIE X pins σ tg R) X.xe s1) X.xe s
theorem go_of {M : Model} {A : Around} {E : Value → Shared → Prop} {s : Shared} {tg : Expr} {it : Addr} {u : Value} {o : Obj} {n : String} {vs : Array Value} {Q : Unit → Shared → Prop} (ho : s.heap.get? it = some o) (hc : o.cls = .type n) (hd : o.data = .fields vs)
    (hn : ["enumerate", "zip", "dict_itemiterator", "dict_reverseitemiterator", "odict_iterator", "itertools.zip_longest", "itertools.pairwise"].contains n = false) (hQ : Q () s) : wpAny M A (letOwnedTupleGo tg (.ref it) u) Q E s := by
  unfold letOwnedTupleGo
  cases tg <;> first
    | exact wpAny_pure hQ
    | (cases u <;> first
        | exact wpAny_pure hQ
        | (refine wpAny_bind (wpAny_load ho ?_)
           rw [hc, hd]
           show wpAny M A (if (["enumerate", "zip", "dict_itemiterator", "dict_reverseitemiterator", "odict_iterator", "itertools.zip_longest", "itertools.pairwise"].contains n && vs[0]? == some (rawInt _)) = true then _ else _) Q E s
           rw [if_neg (by intro h; rw [hn, Bool.false_and] at h; cases h)]
           exact wpAny_pure hQ))
def Itl (K : PySem.W.Frag) (a : Addr) : It :=
  ⟨fun i H => ∃ xs x, SqL K H a xs ∧ xs[i]? = some x, fun i H x H' => H' = H ∧ ∀ xs, SqL K H a xs → xs[i]? = some x, fun i H => ∃ xs, SqL K H a xs ∧ xs.length ≤ i⟩
def Itt (K : PySem.W.Frag) (a : Addr) : It :=
  ⟨fun i H => ∃ xs x, SqT K H a xs ∧ xs[i]? = some x, fun i H x H' => H' = H ∧ ∀ xs, SqT K H a xs → xs[i]? = some x, fun i H => ∃ xs, SqT K H a xs ∧ xs.length ≤ i⟩
def Itr (lo : Int) (n : Nat) : It := ⟨fun i _ => i < n, fun i H x H' => H' = H ∧ x = .int (lo + i), fun i _ => n ≤ i⟩
theorem turn_list {P : Program} {w : World} {K : PySem.W.Frag} {tg : Expr} (a it : Addr) : Turn P w K tg (Itl K a) [it] it (fun i h => h.IsListIter it a i) where
  mem := by simp
  obj := fun i h st b hb => by
    have e : b = it := by simpa using hb
    subst e
    obtain ⟨o, e, c, d⟩ := st
    exact ⟨o, e, fun v z => by rw [d] at z; cases z⟩
  keep := fun i h h' st k => st.at fun o e => k it (by simp) o e
  item := by
    intro X hP hw hK hc i pins s σ H E I hf st hg
    subst hP hw hK
    obtain ⟨xs, x, hq, hx⟩ := hg
    obtain ⟨its, rv, p, hz⟩ := I.list hq
    obtain ⟨u, hu, ru⟩ := rv.get hx
    obtain ⟨f0, f1, f2, f3, f4, f5⟩ := hf it (by simp)
    refine wpAny_pyNext_list_item st p.isList (x := u) (by simpa using hu) fun h' st' sb => ?_
    have I1 : Inv X pins σ H { s with heap := h' } := I.turned (t' := s.toks) (fun b o hb e => (sb.2 b hb).trans e) f0 f1 f3 f4 f5
    obtain ⟨o, e, c, d⟩ := id st'
    exact ⟨u, rfl, go_of (s := { s with heap := h' }) e c d (by decide) ⟨x, H, I1, ru, ⟨rfl, fun ys hy => by rw [I.list_inj hy hq]; exact hx⟩, st', fun b hb => (hf b hb).1⟩⟩
  done := by
    intro X hP hw hK hc i pins s σ H E I hf st hg
    subst hP hw hK
    obtain ⟨xs, hq, hx⟩ := hg
    obtain ⟨its, rv, p, hz⟩ := I.list hq
    obtain ⟨f0, f1, f2, f3, f4, f5⟩ := hf it (by simp)
    have hl := rv.length
    exact wpAny_pyNext_list_end (I.ok.hd hc) st p.isList (by simp; omega) fun h' eb => ⟨rfl, I.turned (t' := s.toks) (fun b o hb e => eb b o hb e) f0 f1 f3 f4 f5⟩
  self := fun _ _ _ _ _ st h => wpAny_pyIter_listiter st h
theorem turn_tuple {P : Program} {w : World} {K : PySem.W.Frag} {tg : Expr} (a it : Addr) : Turn P w K tg (Itt K a) [it] it (fun i h => h.IsTupleIter it a i) where
  mem := by simp
  obj := fun i h st b hb => by
    have e : b = it := by simpa using hb
    subst e
    obtain ⟨o, e, c, d⟩ := st
    exact ⟨o, e, fun v z => by rw [d] at z; cases z⟩
  keep := fun i h h' st k => st.at fun o e => k it (by simp) o e
  item := by
    intro X hP hw hK hc i pins s σ H E I hf st hg
    subst hP hw hK
    obtain ⟨xs, x, hq, hx⟩ := hg
    obtain ⟨its, rv, p, hz⟩ := I.tuple hq
    obtain ⟨u, hu, ru⟩ := rv.get hx
    obtain ⟨f0, f1, f2, f3, f4, f5⟩ := hf it (by simp)
    refine wpAny_pyNext_tuple_item st (show s.heap.IsTuple a its.toArray from p) (x := u) (by simpa using hu) fun h' st' sb => ?_
    have I1 : Inv X pins σ H { s with heap := h' } := I.turned (t' := s.toks) (fun b o hb e => (sb.2 b hb).trans e) f0 f1 f3 f4 f5
    obtain ⟨o, e, c, d⟩ := id st'
    exact ⟨u, rfl, go_of (s := { s with heap := h' }) e c d (by decide) ⟨x, H, I1, ru, ⟨rfl, fun ys hy => by rw [I.tuple_inj hy hq]; exact hx⟩, st', fun b hb => (hf b hb).1⟩⟩
  done := by
    intro X hP hw hK hc i pins s σ H E I hf st hg
    subst hP hw hK
    obtain ⟨xs, hq, hx⟩ := hg
    obtain ⟨its, rv, p, hz⟩ := I.tuple hq
    obtain ⟨f0, f1, f2, f3, f4, f5⟩ := hf it (by simp)
    have hl := rv.length
    exact wpAny_pyNext_tuple_end (I.ok.hd hc) st (show s.heap.IsTuple a its.toArray from p) (by simp; omega) fun h' eb => ⟨rfl, I.turned (t' := s.toks) (fun b o hb e => eb b o hb e) f0 f1 f3 f4 f5⟩
  self := fun _ _ _ _ _ st h => wpAny_pyIter_tupleiter st h
theorem turn_range {P : Program} {w : World} {K : PySem.W.Frag} {tg : Expr} (it : Addr) (lo : Int) (n : Nat) : Turn P w K tg (Itr lo n) [it] it (fun i h => IsRangeIter h it (lo + (i : Nat) * 1) ((n : Int) - (i : Nat)) 1) where
  mem := by simp
  obj := fun i h st b hb => by
    have e : b = it := by simpa using hb
    subst e
    exact ⟨_, st, fun v z => by
      have z' : Data.fields _ = Data.cell v := z
      cases z'⟩
  keep := fun i h h' st k => k it (by simp) _ st
  item := by
    intro X hP hw hK hc i pins s σ H E I hf st hg
    subst hP hw hK
    obtain ⟨f0, f1, f2, f3, f4, f5⟩ := hf it (by simp)
    have W := Walks.range (prog := X.prog) (w := X.w) (I.ok.hd hc) it lo 1 n
    refine W.item i s _ _ hg st fun v h' tk hv st' kk => ?_
    obtain ⟨t, rfl⟩ := hv
    have I1 : Inv X pins σ H { s with heap := h', toks := tk } := I.turned (fun b o hb e => kk b o (by simpa using hb) e) f0 f1 f3 f4 f5
    refine ⟨_, rfl, go_of (s := { s with heap := h', toks := tk }) (n := "range_iterator") st' rfl rfl (by decide) ⟨.int (lo + i), H, I1, ⟨t, ?_⟩, ⟨rfl, rfl⟩, st', fun b hb => (hf b hb).1⟩⟩
    rw [Int.mul_one]
  done := by
    intro X hP hw hK hc i pins s σ H E I hf st hg
    subst hP hw hK
    obtain ⟨f0, f1, f2, f3, f4, f5⟩ := hf it (by simp)
    exact wpAny_pyNext_range_end (I.ok.hd hc) st (by have : n ≤ i := hg; omega) fun h' eb => ⟨rfl, I.turned (t' := s.toks) (fun b o hb e => eb b o hb e) f0 f1 f3 f4 f5⟩
  self := fun _ _ _ _ _ st h => wpAny_pyIter_rangeiter st h
end L2
namespace L2
open PySem PySem.Spec PyProof.Rows
section
variable {X : Cx} {tg : Expr}
def iList (K : PySem.W.Frag) (tl : TE) : TI := fun σ H R => tl σ H fun x H1 => ∃ a, x = .ref a ∧ (∃ xs, SqL K H1 a xs) ∧ R (Itl K a) H1
def iTup (K : PySem.W.Frag) (tl : TE) : TI := fun σ H R => tl σ H fun x H1 => ∃ a, x = .ref a ∧ (∃ xs, SqT K H1 a xs) ∧ R (Itt K a) H1
theorem pi_list {l : Expr} {tl : TE} (hl : PE X l tl) : PI X tg l (iList X.K tl) := by
  intro pins s σ H R I h
  refine thn (hl pins s σ H _ I h) fun v s1 ⟨x, H1, I1, r1, q1⟩ => ?_
  obtain ⟨a, e, ⟨xs, hq⟩, q⟩ := q1
  subst e
  cases r1
  obtain ⟨its, rv, p, hz⟩ := I1.list hq
  refine wpAny_pyIter_list p.isList ?_
  refine ⟨s1.heap.objs.size, [s1.heap.objs.size], _, _, H1, rfl, I1.kept (t' := s1.toks) fun b o e => Heap.get?_push_of_some _ e, turn_list a _, ⟨_, Heap.get?_push_size _ rfl, rfl, rfl⟩, fun b hb => ?_, q⟩
  have e : b = s1.heap.objs.size := by simpa using hb
  subst e
  exact I1.fpOk (Nat.le_refl _) (I1.hok.fresh (Nat.le_refl _))
theorem pi_tup {l : Expr} {tl : TE} (hl : PE X l tl) : PI X tg l (iTup X.K tl) := by
  intro pins s σ H R I h
  refine thn (hl pins s σ H _ I h) fun v s1 ⟨x, H1, I1, r1, q1⟩ => ?_
  obtain ⟨a, e, ⟨xs, hq⟩, q⟩ := q1
  subst e
  cases r1
  obtain ⟨its, rv, p, hz⟩ := I1.tuple hq
  refine wpAny_pyIter_tuple (show s1.heap.IsTuple a its.toArray from p) ?_
  refine ⟨s1.heap.objs.size, [s1.heap.objs.size], _, _, H1, rfl, I1.kept (t' := s1.toks) fun b o e => Heap.get?_push_of_some _ e, turn_tuple a _, ⟨_, Heap.get?_push_size _ rfl, rfl, rfl⟩, fun b hb => ?_, q⟩
  have e : b = s1.heap.objs.size := by simpa using hb
  subst e
  exact I1.fpOk (Nat.le_refl _) (I1.hok.fresh (Nat.le_refl _))
theorem range_it {pins : List (Addr × Obj)} {σ : St} {H : Hp} {s : Shared} {R : It → Hp → Prop} {E : Value → Shared → Prop} {lo hi : Int} {t u v : Tok} {tk : Nat} (I : Inv X pins σ H s) (h1 : -(2 ^ 62) ≤ lo) (h2 : lo < 2 ^ 62) (h3 : -(2 ^ 62) ≤ hi) (h4 : hi < 2 ^ 62)
    (q : R (Itr lo (hi - lo).toNat) H) : wpAny (model X.prog X.w) X.A (pyIter (.ref s.heap.objs.size)) (PIE X pins σ tg R) E { s with heap := s.heap.push { cls := .type "range", data := .fields #[.int lo t, .int hi u, .int 1 v] }, toks := tk } := by
  refine wpAny_pyIter_range (IsRange.new ..) (small_one h1 h2 h3 h4) ?_
  have I1 : Inv X pins σ H { s with heap := s.heap.push { cls := .type "range", data := .fields #[.int lo t, .int hi u, .int 1 v] }, toks := tk } := I.kept fun b o e => Heap.get?_push_of_some _ e
  refine ⟨(s.heap.push { cls := .type "range", data := .fields #[.int lo t, .int hi u, .int 1 v] }).objs.size, [(s.heap.push { cls := .type "range", data := .fields #[.int lo t, .int hi u, .int 1 v] }).objs.size], _, _, H, rfl,
    I1.kept (t' := tk) fun b o e => Heap.get?_push_of_some _ e, turn_range _ lo (hi - lo).toNat, ?_, fun b hb => ?_, q⟩
  · have e1 : lo + ((0 : Nat) : Int) * 1 = lo := by simp
    have e2 : (((hi - lo).toNat : Nat) : Int) - ((0 : Nat) : Int) = Builtin.Range.rangeSize lo hi 1 := by rw [rangeSize_one]; split <;> omega
    show IsRangeIter _ _ (lo + ((0 : Nat) : Int) * 1) ((((hi - lo).toNat : Nat) : Int) - ((0 : Nat) : Int)) 1
    rw [e1, e2]
    exact Heap.get?_push_size _ rfl
  · have e : b = (s.heap.push { cls := .type "range", data := .fields #[.int lo t, .int hi u, .int 1 v] }).objs.size := by simpa using hb
    subst e
    exact I1.fpOk (Nat.le_refl _) (I1.hok.fresh (Nat.le_refl _))
def iRng1 (ta : TA) : TI := fun σ H R => ta σ H fun vs H1 => ∃ j : Int, vs = [.int j] ∧ -(2 ^ 62) ≤ j ∧ j < 2 ^ 62 ∧ R (Itr 0 j.toNat) H1
theorem pi_range1 {a : Expr} {ta : TA} {p pos : Pos} (hg : Gl X "range") (hm : X.mg "range" = none) (ha : PA X [a] ta) (hs : starEach [a] X.env = [(false, eval a X.env)] := by rfl) : PI X tg (.Call (.Name "range" p) [a] [] pos) (iRng1 ta) := by
  intro pins s σ H R I h
  refine Call_ (ld_blt I hg hm boot_range (PyProof.Rows.callWith_type1 (thn (ha pos pins s σ H _ I h) fun us s1 ⟨vs, H1, I1, r1, q1⟩ => ?_) hs rfl))
  obtain ⟨j, e, q1, q2, q⟩ := q1
  subst e
  cases r1 with
  | cons r rr =>
    cases rr
    obtain ⟨t, rfl⟩ := r
    exact call_range_1 (range_it I1 (by omega) (by omega) q1 q2 (by simpa using q))
def tFor (wi : TI) (g : TG) (tb : TS) : TS := fun D σ H => wi σ H fun J H1 => ∃ W : Nat → Nat → St → Hp → Prop, (∃ m, W 0 m σ H1) ∧ ∀ i m σ H, W i m σ H →
  (J.stop i H ∧ D.nx σ H) ∨ (J.go i H ∧ ∃ N : St → Hp → Prop, (∀ σ' H', N σ' H' → ∃ m', m' < m ∧ W (i + 1) m' σ' H') ∧ ∀ x H', J.yld i H x H' → g x σ H' fun σ2 H2 => tb { D with nx := N, ct := N, bk := D.nx } σ2 H2)
def pinsAt (fp : List Addr) (h : Heap) : List (Addr × Obj) := fp.filterMap fun b => (h.get? b).map fun o => (b, o)
theorem mem_pinsAt {fp : List Addr} {h : Heap} {b : Addr} {o : Obj} (hb : b ∈ fp) (e : h.get? b = some o) : (b, o) ∈ pinsAt fp h := List.mem_filterMap.mpr ⟨b, hb, by rw [e]; rfl⟩
theorem of_pinsAt {fp : List Addr} {h : Heap} {p : Addr × Obj} (hp : p ∈ pinsAt fp h) : p.1 ∈ fp ∧ h.get? p.1 = some p.2 := by
  obtain ⟨b, hb, e⟩ := List.mem_filterMap.mp hp
  cases q : h.get? b with
  | none => rw [q] at e; cases e
  | some o =>
    rw [q] at e
    have e' : (b, o) = p := Option.some.inj e
    subst e'
    exact ⟨hb, q⟩
theorem Inv.pinned {pins : List (Addr × Obj)} {σ : St} {H : Hp} {s : Shared} {fp : List Addr} (I : Inv X pins σ H s) (hf : ∀ b ∈ fp, FpOk X pins H b) (ho : ∀ b ∈ fp, ∃ o, s.heap.get? b = some o ∧ ∀ v, o.data ≠ .cell v) : Inv X (pins ++ pinsAt fp s.heap) σ H s :=
  I.pins_of fun p hp => (List.mem_append.mp hp).elim (fun z => I.pin p (List.mem_append_right _ z)) fun z => by
    obtain ⟨hb, e⟩ := of_pinsAt z
    obtain ⟨f0, f1, f2, _⟩ := hf p.1 hb
    obtain ⟨o, e', d⟩ := ho p.1 hb
    rw [e] at e'; cases e'
    exact ⟨e, f0, f1, f2, d⟩
theorem Inv.unpinned {pins pl : List (Addr × Obj)} {σ : St} {H : Hp} {s : Shared} (I : Inv X (pins ++ pl) σ H s) : Inv X pins σ H s := I.pins_of fun p hp => I.pin p (List.mem_append_right _ (List.mem_append_left _ hp))
theorem ps_for {iter : Expr} {body : List Stmt} {wi : TI} {g : TG} {tb : TS} {pos : Pos} (hp : PassesOwn (model X.prog X.w) X.A X.env X.xe) (hc : X.calm = true) (hi : PI X tg iter wi) (hg : PG X tg g) (hb : PSs X body tb)
    (hs : ∀ x, foldedSetIterable iter X.env x = pure x := by intro _; rfl) : PS X (.For tg iter body [] pos) (tFor wi g tb) := by
  intro pins s σ H D I h
  refine wpAny_For (thn (hi pins s σ H _ I h) fun v s1 h1 => thn h1 fun itv s2 h2 => ?_) hs
  obtain ⟨it, fp, tn, J, H2, e, I2, T, st2, f2, W, ⟨m0, w0⟩, turn⟩ := h2
  subst e
  have stat : ∀ {H' : Hp}, (∀ b ∈ fp, H' b = none) → ∀ b ∈ fp, FpOk X pins H' b := fun hn b hb => ⟨hn b hb, (f2 b hb).2⟩
  refine codeAny_forLoop_any (fun n s' => ∃ i σ' H', Inv X pins σ' H' s' ∧ tn i s'.heap ∧ (∀ b ∈ fp, H' b = none) ∧ W i n σ' H') ?_ m0 ⟨0, σ, H2, I2, st2, fun b hb => (f2 b hb).1, w0⟩
  rintro n s3 ⟨i, σ3, H3, I3, st3, fr3, w3⟩
  rcases turn i n σ3 H3 w3 with ⟨stop, qn⟩ | ⟨go, N, hN, step⟩
  · refine wpAny_passesOwn hp (thn (T.done X rfl rfl rfl hc i pins s3 σ3 H3 X.xe I3 (stat fr3) st3 stop) fun r s4 ⟨hr, I4⟩ => ?_)
    subst hr
    exact wpAny_execs_nil ⟨σ3, H3, I4, qn⟩
  · refine wpAny_passesOwn hp (thn (T.item X rfl rfl rfl hc i pins s3 σ3 H3 X.xe I3 (stat fr3) st3 go) fun r s4 ⟨u, hr, h4⟩ => ?_)
    subst hr
    refine wpAny_passesOwn hp (thn h4 fun _ s5 ⟨x, H5, I5, r5, y5, st5, fr5⟩ => ?_)
    have I5' := I5.pinned (stat fr5) (T.obj _ _ st5)
    refine wpAny_passesOwn hp (thn (hg _ s5 σ3 H5 x u _ I5' r5 (step x H5 y5)) fun _ s6 ⟨σ6, H6, I6, q6⟩ => ?_)
    refine wpAny_passesOwn hp (thn (hb _ s6 σ6 H6 _ I6 q6) fun f s7 q7 => ?_)
    have again : ∀ {σ7 : St} {H7 : Hp}, Inv X (pins ++ pinsAt fp s5.heap) σ7 H7 s7 → N σ7 H7 → ∃ m, m < n ∧ ∃ i σ' H', Inv X pins σ' H' s7 ∧ tn i s7.heap ∧ (∀ b ∈ fp, H' b = none) ∧ W i m σ' H' := fun {σ7 H7} I7 n7 => by
      obtain ⟨m', hm, w7⟩ := hN σ7 H7 n7
      refine ⟨m', hm, i + 1, σ7, H7, I7.unpinned, T.keep _ _ _ st5 fun b hb o e => (I7.pin (b, o) (List.mem_append_right _ (List.mem_append_right _ (mem_pinsAt hb e)))).1, fun b hb => ?_, w7⟩
      obtain ⟨o, e, d⟩ := T.obj _ _ st5 b hb
      exact (I7.pin (b, o) (List.mem_append_right _ (List.mem_append_right _ (mem_pinsAt hb e)))).2.1
    cases f with
    | next => obtain ⟨σ7, H7, I7, n7⟩ := q7; exact again I7 n7
    | cont => obtain ⟨σ7, H7, I7, n7⟩ := q7; exact again I7 n7
    | brk => obtain ⟨σ7, H7, I7, q7⟩ := q7; exact ⟨σ7, H7, I7.unpinned, q7⟩
    | ret v => obtain ⟨x7, σ7, H7, I7, r7, q7⟩ := q7; exact ⟨x7, σ7, H7, I7.unpinned, r7, q7⟩
end
theorem for_list {K : PySem.W.Frag} {a : Addr} {xs : List V} {g : TG} {tb : TS} {D : Ends} {σ : St} {H : Hp} (Pv : Nat → St → Hp → Prop) (h0 : Pv 0 σ H) (hl : ∀ i σ H, i ≤ xs.length → Pv i σ H → SqL K H a xs)
    (hs : ∀ i x σ H, xs[i]? = some x → Pv i σ H → g x σ H fun σ2 H2 => tb { D with nx := Pv (i + 1), ct := Pv (i + 1), bk := D.nx } σ2 H2) (hd : ∀ σ H, Pv xs.length σ H → D.nx σ H) :
    ∃ W : Nat → Nat → St → Hp → Prop, (∃ m, W 0 m σ H) ∧ ∀ i m σ H, W i m σ H →
      ((Itl K a).stop i H ∧ D.nx σ H) ∨ ((Itl K a).go i H ∧ ∃ N : St → Hp → Prop, (∀ σ' H', N σ' H' → ∃ m', m' < m ∧ W (i + 1) m' σ' H') ∧ ∀ x H', (Itl K a).yld i H x H' → g x σ H' fun σ2 H2 => tb { D with nx := N, ct := N, bk := D.nx } σ2 H2) := by
  refine ⟨fun i m σ H => m = xs.length - i ∧ i ≤ xs.length ∧ Pv i σ H, ⟨xs.length, by simp, Nat.zero_le _, h0⟩, ?_⟩
  rintro i m σ H ⟨rfl, hi, p⟩
  have q := hl i σ H hi p
  by_cases hlt : i < xs.length
  · refine .inr ⟨⟨xs, xs[i], q, by simp [hlt]⟩, Pv (i + 1), fun σ' H' p' => ⟨xs.length - (i + 1), by omega, rfl, hlt, p'⟩, fun x H' y => ?_⟩
    obtain ⟨e, y⟩ := y
    subst e
    exact hs i x σ _ (y xs q) p
  · have e : i = xs.length := by omega
    subst e
    exact .inl ⟨⟨xs, q, Nat.le_refl _⟩, hd σ H p⟩
theorem for_tup {K : PySem.W.Frag} {a : Addr} {xs : List V} {g : TG} {tb : TS} {D : Ends} {σ : St} {H : Hp} (Pv : Nat → St → Hp → Prop) (h0 : Pv 0 σ H) (hl : ∀ i σ H, i ≤ xs.length → Pv i σ H → SqT K H a xs)
    (hs : ∀ i x σ H, xs[i]? = some x → Pv i σ H → g x σ H fun σ2 H2 => tb { D with nx := Pv (i + 1), ct := Pv (i + 1), bk := D.nx } σ2 H2) (hd : ∀ σ H, Pv xs.length σ H → D.nx σ H) :
    ∃ W : Nat → Nat → St → Hp → Prop, (∃ m, W 0 m σ H) ∧ ∀ i m σ H, W i m σ H →
      ((Itt K a).stop i H ∧ D.nx σ H) ∨ ((Itt K a).go i H ∧ ∃ N : St → Hp → Prop, (∀ σ' H', N σ' H' → ∃ m', m' < m ∧ W (i + 1) m' σ' H') ∧ ∀ x H', (Itt K a).yld i H x H' → g x σ H' fun σ2 H2 => tb { D with nx := N, ct := N, bk := D.nx } σ2 H2) := by
  refine ⟨fun i m σ H => m = xs.length - i ∧ i ≤ xs.length ∧ Pv i σ H, ⟨xs.length, by simp, Nat.zero_le _, h0⟩, ?_⟩
  rintro i m σ H ⟨rfl, hi, p⟩
  have q := hl i σ H hi p
  by_cases hlt : i < xs.length
  · refine .inr ⟨⟨xs, xs[i], q, by simp [hlt]⟩, Pv (i + 1), fun σ' H' p' => ⟨xs.length - (i + 1), by omega, rfl, hlt, p'⟩, fun x H' y => ?_⟩
    obtain ⟨e, y⟩ := y
    subst e
    exact hs i x σ _ (y xs q) p
  · have e : i = xs.length := by omega
    subst e
    exact .inl ⟨⟨xs, q, Nat.le_refl _⟩, hd σ H p⟩
theorem for_range {lo : Int} {n : Nat} {g : TG} {tb : TS} {D : Ends} {σ : St} {H : Hp} (Pv : Nat → St → Hp → Prop) (h0 : Pv 0 σ H)
    (hs : ∀ i σ H, i < n → Pv i σ H → g (.int (lo + i)) σ H fun σ2 H2 => tb { D with nx := Pv (i + 1), ct := Pv (i + 1), bk := D.nx } σ2 H2) (hd : ∀ σ H, Pv n σ H → D.nx σ H) :
    ∃ W : Nat → Nat → St → Hp → Prop, (∃ m, W 0 m σ H) ∧ ∀ i m σ H, W i m σ H →
      ((Itr lo n).stop i H ∧ D.nx σ H) ∨ ((Itr lo n).go i H ∧ ∃ N : St → Hp → Prop, (∀ σ' H', N σ' H' → ∃ m', m' < m ∧ W (i + 1) m' σ' H') ∧ ∀ x H', (Itr lo n).yld i H x H' → g x σ H' fun σ2 H2 => tb { D with nx := N, ct := N, bk := D.nx } σ2 H2) := by
  refine ⟨fun i m σ H => m = n - i ∧ i ≤ n ∧ Pv i σ H, ⟨n, by simp, Nat.zero_le _, h0⟩, ?_⟩
  rintro i m σ H ⟨rfl, hi, p⟩
  by_cases hlt : i < n
  · refine .inr ⟨hlt, Pv (i + 1), fun σ' H' p' => ⟨n - (i + 1), by omega, rfl, hlt, p'⟩, fun x H' y => ?_⟩
    obtain ⟨e, y⟩ := y
    subst e y
    exact hs i σ _ hlt p
  · have e : i = n := by omega
    subst e
    exact .inl ⟨Nat.le_refl _, hd σ H p⟩
theorem while_by {c : TT} {tb : TS} {D : Ends} {σ : St} {H : Hp} (Pv : St → Hp → Prop) (μ : St → Hp → Nat) (h0 : Pv σ H)
    (hs : ∀ σ H, Pv σ H → c σ H fun b H1 => if b = true then tb { D with nx := fun σ' H' => Pv σ' H' ∧ μ σ' H' < μ σ H, ct := fun σ' H' => Pv σ' H' ∧ μ σ' H' < μ σ H, bk := D.nx } σ H1 else D.nx σ H1)
    (mono : ∀ σ H Q Q', (∀ b H1, Q b H1 → Q' b H1) → c σ H Q → c σ H Q') : tWhile c tb D σ H := by
  refine ⟨fun m σ H => m = μ σ H ∧ Pv σ H, ⟨_, rfl, h0⟩, ?_⟩
  rintro m σ H ⟨rfl, p⟩
  refine mono σ H _ _ (fun b H1 q => ?_) (hs σ H p)
  cases b with
  | true => exact ⟨_, fun σ' H' ⟨p', l⟩ => ⟨_, l, rfl, p'⟩, q⟩
  | false => exact q
end L2
namespace L2
open PySem PySem.Spec PyProof.Rows
abbrev R2 := V → V → Hp → VK → Prop
def OpR (X : Cx) (f : Value → Value → Sem Value) (r : R2) : Prop :=
  ∀ (pins : List (Addr × Obj)) (s : Shared) (σ : St) (H : Hp) (x y : V) (v u : Value) (Q : VK), Inv X pins σ H s → RelV x v → RelV y u → r x y H Q →
    wpAny (model X.prog X.w) X.A (f v u) (EP X pins σ Q) X.xe s
def UnR (X : Cx) (f : Value → Sem Value) (r : V → Hp → VK → Prop) : Prop :=
  ∀ (pins : List (Addr × Obj)) (s : Shared) (σ : St) (H : Hp) (x : V) (v : Value) (Q : VK), Inv X pins σ H s → RelV x v → r x H Q →
    wpAny (model X.prog X.w) X.A (f v) (EP X pins σ Q) X.xe s
def CallR (X : Cx) (f : Value) (r : List V → Hp → VK → Prop) : Prop :=
  ∀ (pins : List (Addr × Obj)) (s : Shared) (σ : St) (H : Hp) (xs : List V) (us : List Value) (Q : VK), Inv X pins σ H s → Vals xs us → r xs H Q →
    wpAny (model X.prog X.w) X.A (call f us) (EP X pins σ Q) X.xe s
def tOp (r : R2) (ta tb : TE) : TE := fun σ H Q => ta σ H fun x H1 => tb σ H1 fun y H2 => r x y H2 Q
def tUn (r : V → Hp → VK → Prop) (ta : TE) : TE := fun σ H Q => ta σ H fun x H1 => r x H1 Q
def rI (C : Int → Int → Prop) (g : Int → Int → V) : R2 := fun x y H Q => ∃ i j, x = .int i ∧ y = .int j ∧ C i j ∧ Q (g i j) H
def rI0 (g : Int → Int → V) : R2 := fun x y H Q => ∃ i j, x = .int i ∧ y = .int j ∧ Q (g i j) H
def rU (g : Int → V) : V → Hp → VK → Prop := fun x H Q => ∃ i, x = .int i ∧ Q (g i) H
section
variable {X : Cx} {a b c : Expr} {ta tb tc : TE} {pos : Pos}
theorem binT (ha : PE X a ta) (hb : PE X b tb) {pins : List (Addr × Obj)} {s : Shared} {σ : St} {H : Hp} {R : V → V → Hp → Prop} (I : Inv X pins σ H s)
    (h : ta σ H fun x H1 => tb σ H1 fun y H2 => R x y H2) {Q : Value → Shared → Prop} {f : Value → Value → Sem Value}
    (hf : ∀ v u s2 x y H2, Inv X pins σ H2 s2 → RelV x v → RelV y u → R x y H2 → wpAny (model X.prog X.w) X.A (f v u) Q X.xe s2) :
    wpAny (model X.prog X.w) X.A (eval a X.env) (fun v s₁ => wpAny (model X.prog X.w) X.A (eval b X.env) (fun u s₂ => wpAny (model X.prog X.w) X.A (f v u) Q X.xe s₂) X.xe s₁) X.xe s := by
  refine thn (ha pins s σ H _ I h) fun v s1 ⟨x, H1, I1, r1, q1⟩ => ?_
  refine thn (hb pins s1 σ H1 _ I1 q1) fun u s2 ⟨y, H2, I2, r2, q2⟩ => ?_
  exact hf v u s2 x y H2 I2 r1 r2 q2
theorem pe_op {op : Operator} {r : R2} (ho : OpR X (binaryOp op) r) (ha : PE X a ta) (hb : PE X b tb) : PE X (.BinOp a op b pos) (tOp r ta tb) := by
  intro pins s σ H Q I h
  exact wpAny_BinOp (binT ha hb I h fun v u s2 x y H2 I2 rx ry q => ho pins s2 σ H2 x y v u Q I2 rx ry q)
theorem pe_un {op : UnaryOp} {r : V → Hp → VK → Prop} (ho : UnR X (unaryOp op) r) (ha : PE X a ta) : PE X (.UnaryOp op a pos) (tUn r ta) := by
  intro pins s σ H Q I h
  exact UnaryOp_ (thn (ha pins s σ H _ I h) fun v s1 ⟨x, H1, I1, r1, q1⟩ => ho pins s1 σ H1 x v Q I1 r1 q1)
theorem opI {f : Value → Value → Sem Value} {C : Int → Int → Prop} {g : Int → Int → Int}
    (rule : ∀ (i j : Int) (t u : Tok) (s : Shared) (Q : Value → Shared → Prop) (E : Value → Shared → Prop), C i j → Q (.int (g i j) s.toks) { s with toks := s.toks + 1 } → wpAny (model X.prog X.w) X.A (f (.int i t) (.int j u)) Q E s) :
    OpR X f (rI C fun i j => .int (g i j)) := by
  intro pins s σ H x y v u Q I rx ry h
  obtain ⟨i, j, rfl, rfl, hc, q⟩ := h
  obtain ⟨t, rfl⟩ := rx
  obtain ⟨t', rfl⟩ := ry
  exact rule i j t t' s _ _ hc ⟨.int (g i j), H, I.tok _, ⟨_, rfl⟩, q⟩
theorem opI0 {f : Value → Value → Sem Value} {g : Int → Int → Int}
    (rule : ∀ (i j : Int) (t u : Tok) (s : Shared) (Q : Value → Shared → Prop) (E : Value → Shared → Prop), Q (.int (g i j) s.toks) { s with toks := s.toks + 1 } → wpAny (model X.prog X.w) X.A (f (.int i t) (.int j u)) Q E s) :
    OpR X f (rI0 fun i j => .int (g i j)) := by
  intro pins s σ H x y v u Q I rx ry h
  obtain ⟨i, j, rfl, rfl, q⟩ := h
  obtain ⟨t, rfl⟩ := rx
  obtain ⟨t', rfl⟩ := ry
  exact rule i j t t' s _ _ ⟨.int (g i j), H, I.tok _, ⟨_, rfl⟩, q⟩
theorem opB0 {f : Value → Value → Sem Value} {g : Int → Int → Bool}
    (rule : ∀ (i j : Int) (t u : Tok) (s : Shared) (Q : Value → Shared → Prop) (E : Value → Shared → Prop), Q (.bool (g i j)) s → wpAny (model X.prog X.w) X.A (f (.int i t) (.int j u)) Q E s) :
    OpR X f (rI0 fun i j => .bl (g i j)) := by
  intro pins s σ H x y v u Q I rx ry h
  obtain ⟨i, j, rfl, rfl, q⟩ := h
  obtain ⟨t, rfl⟩ := rx
  obtain ⟨t', rfl⟩ := ry
  exact rule i j t t' s _ _ ⟨.bl (g i j), H, I, rfl, q⟩
def CDiv (i j : Int) : Prop := 0 < j ∧ j < 1073741824
def CPow (i j : Int) : Prop := 0 ≤ j ∧ j ≤ 1000000 ∧ i.natAbs < 2 ^ 64
def CMul (i j : Int) : Prop := (-(2 ^ 64) < i ∧ i < 2 ^ 64) ∨ (-(2 ^ 64) < j ∧ j < 2 ^ 64)
theorem CMul.ok {i j : Int} (h : CMul i j) : IntMulOk i j := by
  rcases h with ⟨h1, h2⟩ | ⟨h1, h2⟩
  · exact .of_left (intBits_le_64 h1 h2)
  · exact .of_right (intBits_le_64 h1 h2)
theorem op_add : OpR X (binaryOp .Add) (rI0 fun i j => .int (i + j)) := opI0 fun _ _ _ _ _ _ _ q => add_int q
theorem op_sub : OpR X (binaryOp .Sub) (rI0 fun i j => .int (i - j)) := opI0 fun _ _ _ _ _ _ _ q => sub_int q
theorem op_fdiv : OpR X (binaryOp .FloorDiv) (rI CDiv fun i j => .int (i / j)) := opI fun i j _ _ _ _ _ hc q => by
  have h1 : (0 : Int) < j := hc.1
  have h2 : j < 1073741824 := hc.2
  exact floordiv_int (by omega) (by rw [Int.fdiv_eq_ediv_of_nonneg i (by omega)]; exact q) (.inl (PyProof.noPylong_small (by omega)))
theorem op_mod : OpR X (binaryOp .Mod) (rI (fun _ j => 0 < j) fun i j => .int (i % j)) := opI fun i j _ _ _ _ _ hc q => by
  have h1 : (0 : Int) < j := hc
  exact mod_int' (by omega) (by rw [Int.fmod_eq_emod_of_nonneg i (by omega)]; exact q)
theorem op_modN : OpR X (binaryOp .Mod) (rI (fun _ j => j ≠ 0) fun i j => .int (i.fmod j)) := opI fun _ _ _ _ _ _ _ hc q => mod_int' hc q
theorem op_pow : OpR X (binaryOp .Pow) (rI CPow fun i j => .int (i ^ j.toNat)) := opI fun _ _ _ _ _ _ _ hc q => pow_int_small hc.1 hc.2.1 hc.2.2 q
theorem unI {f : Value → Sem Value} {g : Int → Int}
    (rule : ∀ (i : Int) (t : Tok) (s : Shared) (Q : Value → Shared → Prop) (E : Value → Shared → Prop), Q (.int (g i) s.toks) { s with toks := s.toks + 1 } → wpAny (model X.prog X.w) X.A (f (.int i t)) Q E s) :
    UnR X f (rU fun i => .int (g i)) := by
  intro pins s σ H x v Q I rx h
  obtain ⟨i, rfl, q⟩ := h
  obtain ⟨t, rfl⟩ := rx
  exact rule i t s _ _ ⟨.int (g i), H, I.tok _, ⟨_, rfl⟩, q⟩
theorem un_neg : UnR X (unaryOp .USub) (rU fun i => .int (-i)) := unI fun _ _ _ _ _ q => neg_int q
end
def scal : V → V → Bool
  | .non, .non => true | .non, .int _ => true | .int _, .non => true | .non, .bl _ => true | .bl _, .non => true | .non, .str _ => true | .str _, .non => true
  | .int _, .int _ => true | .bl _, .bl _ => true | .str _, .str _ => true | .byt _, .byt _ => true
  | .int _, .str _ => true | .str _, .int _ => true | .bl _, .str _ => true | .str _, .bl _ => true
  | _, _ => false
def rEq : R2 := fun x y H Q => scal x y = true ∧ Q (.bl (decide (x = y))) H
def rNe : R2 := fun x y H Q => scal x y = true ∧ Q (.bl (!decide (x = y))) H
theorem dec_int {i j : Int} : decide (V.int i = V.int j) = (i == j) := by
  rw [Bool.eq_iff_iff]
  simp
theorem dec_bl {i j : Bool} : decide (V.bl i = V.bl j) = (i == j) := by
  rw [Bool.eq_iff_iff]
  simp
theorem dec_str {i j : Str} : decide (V.str i = V.str j) = (i == j) := by
  rw [Bool.eq_iff_iff]
  simp
theorem dec_byt {i j : Array UInt8} : decide (V.byt i = V.byt j) = (i.toList == j.toList) := by
  rw [Bool.eq_iff_iff]
  cases i
  cases j
  simp
section
variable {X : Cx} {a b c : Expr} {ta tb tc : TE} {pos : Pos}
theorem fin_bl {pins : List (Addr × Obj)} {σ : St} {H : Hp} {s : Shared} {Q : VK} {k k' : Bool} (I : Inv X pins σ H s) (q : Q (.bl k) H) (e : k = k') : EP X pins σ Q (.bool k') s := by
  subst e
  exact ⟨.bl k, H, I, rfl, q⟩
theorem op_eq : OpR X (compareOp .Eq) rEq := by
  intro pins s σ H x y v u Q I rx ry h
  obtain ⟨hs, q⟩ := h
  cases x with
  | non =>
    cases rx
    cases y with
    | non => cases ry; exact PySem.EqNone.eq_none_none (fin_bl I q (by simp))
    | bl j => cases ry; exact PySem.EqNone.eq_none_bool (fin_bl I q (by simp))
    | int j => obtain ⟨t', rfl⟩ := ry; exact PySem.EqNone.eq_none_int (fin_bl I q (by simp))
    | str j => obtain ⟨t', rfl⟩ := ry; exact PySem.EqNone.eq_none_str (fin_bl I q (by simp))
    | _ => exact absurd (show false = true from hs) Bool.false_ne_true
  | bl i =>
    cases rx
    cases y with
    | non => cases ry; exact PySem.EqNone.eq_bool_none (fin_bl I q (by simp))
    | bl j => cases ry; exact eq_bool (fin_bl I q dec_bl)
    | str j => obtain ⟨t', rfl⟩ := ry; exact PySem.EqMixed.eq_bool_str (fin_bl I q (by simp))
    | _ => exact absurd (show false = true from hs) Bool.false_ne_true
  | int i =>
    obtain ⟨t, rfl⟩ := rx
    cases y with
    | non => cases ry; exact PySem.EqNone.eq_int_none (fin_bl I q (by simp))
    | int j => obtain ⟨t', rfl⟩ := ry; exact eq_int (fin_bl I q dec_int)
    | str j => obtain ⟨t', rfl⟩ := ry; exact PySem.EqMixed.eq_int_str (fin_bl I q (by simp))
    | _ => exact absurd (show false = true from hs) Bool.false_ne_true
  | str i =>
    obtain ⟨t, rfl⟩ := rx
    cases y with
    | non => cases ry; exact PySem.EqNone.eq_str_none (fin_bl I q (by simp))
    | bl j => cases ry; exact PySem.EqMixed.eq_str_bool (fin_bl I q (by simp))
    | int j => obtain ⟨t', rfl⟩ := ry; exact PySem.EqMixed.eq_str_int (fin_bl I q (by simp))
    | str j => obtain ⟨t', rfl⟩ := ry; exact eq_str (fin_bl I q dec_str)
    | _ => exact absurd (show false = true from hs) Bool.false_ne_true
  | byt i =>
    obtain ⟨t, rfl⟩ := rx
    cases y with
    | byt j => obtain ⟨t', rfl⟩ := ry; exact PySem.W.eq_bytes (fin_bl I q dec_byt)
    | _ => exact absurd (show false = true from hs) Bool.false_ne_true
  | _ => cases y <;> exact absurd (show false = true from hs) Bool.false_ne_true
theorem op_ne : OpR X (compareOp .NotEq) rNe := by
  intro pins s σ H x y v u Q I rx ry h
  obtain ⟨hs, q⟩ := h
  cases x with
  | non =>
    cases rx
    cases y with
    | non => cases ry; exact PySem.EqNone.ne_none_none (fin_bl I q (by simp))
    | bl j => cases ry; exact PySem.EqNone.ne_none_bool (fin_bl I q (by simp))
    | int j => obtain ⟨t', rfl⟩ := ry; exact PySem.EqNone.ne_none_int (fin_bl I q (by simp))
    | str j => obtain ⟨t', rfl⟩ := ry; exact PySem.EqNone.ne_none_str (fin_bl I q (by simp))
    | _ => exact absurd (show false = true from hs) Bool.false_ne_true
  | bl i =>
    cases rx
    cases y with
    | non => cases ry; exact PySem.EqNone.ne_bool_none (fin_bl I q (by simp))
    | bl j => cases ry; exact ne_bool (fin_bl I q (congrArg not dec_bl))
    | str j => obtain ⟨t', rfl⟩ := ry; exact PySem.EqMixed.ne_bool_str (fin_bl I q (by simp))
    | _ => exact absurd (show false = true from hs) Bool.false_ne_true
  | int i =>
    obtain ⟨t, rfl⟩ := rx
    cases y with
    | non => cases ry; exact PySem.EqNone.ne_int_none (fin_bl I q (by simp))
    | int j => obtain ⟨t', rfl⟩ := ry; exact ne_int (fin_bl I q (congrArg not dec_int))
    | str j => obtain ⟨t', rfl⟩ := ry; exact PySem.EqMixed.ne_int_str (fin_bl I q (by simp))
    | _ => exact absurd (show false = true from hs) Bool.false_ne_true
  | str i =>
    obtain ⟨t, rfl⟩ := rx
    cases y with
    | non => cases ry; exact PySem.EqNone.ne_str_none (fin_bl I q (by simp))
    | bl j => cases ry; exact PySem.EqMixed.ne_str_bool (fin_bl I q (by simp))
    | int j => obtain ⟨t', rfl⟩ := ry; exact PySem.EqMixed.ne_str_int (fin_bl I q (by simp))
    | str j => obtain ⟨t', rfl⟩ := ry; exact ne_str (fin_bl I q (congrArg not dec_str))
    | _ => exact absurd (show false = true from hs) Bool.false_ne_true
  | byt i =>
    obtain ⟨t, rfl⟩ := rx
    cases y with
    | byt j => obtain ⟨t', rfl⟩ := ry; exact PySem.W.ne_bytes (fin_bl I q (congrArg not dec_byt))
    | _ => exact absurd (show false = true from hs) Bool.false_ne_true
  | _ => cases y <;> exact absurd (show false = true from hs) Bool.false_ne_true
theorem op_lt : OpR X (compareOp .Lt) (rI0 fun i j => .bl (decide (i < j))) := opB0 fun _ _ _ _ _ _ _ q => lt_int q
theorem op_gt : OpR X (compareOp .Gt) (rI0 fun i j => .bl (decide (j < i))) := opB0 fun _ _ _ _ _ _ _ q => gt_int q
theorem op_ge : OpR X (compareOp .GtE) (rI0 fun i j => .bl (decide (j ≤ i))) := opB0 fun _ _ _ _ _ _ _ q => ge_int q
theorem nomark (b : Expr) {op : CmpOp} (h : op ≠ .In := by decide) (h2 : op ≠ .NotIn := by decide) : behindInMarks op b = false := by
  have e1 : (op == CmpOp.In) = false := by cases op <;> first | rfl | exact absurd rfl h
  have e2 : (op == CmpOp.NotIn) = false := by cases op <;> first | rfl | exact absurd rfl h2
  cases b <;> simp [behindInMarks, e1, e2]
theorem pe_cmpR {op : CmpOp} {r : R2} (ho : OpR X (compareOp op) r) (ha : PE X a ta) (hb : PE X b tb) (hm : behindInMarks op b = false) : PE X (.Compare a [op] [b] pos) (tOp r ta tb) := by
  intro pins s σ H Q I h
  exact wpAny_Compare1 (binT ha hb I h fun v u s2 x y H2 I2 rx ry q => ho pins s2 σ H2 x y v u Q I2 rx ry q) hm
def tTest (t : TE) : TT := fun σ H Q => t σ H fun x H' => ∃ k, x = .bl k ∧ Q k H'
theorem pt_cmpR {op : CmpOp} {r : R2} (ho : OpR X (compareOp op) r) (ha : PE X a ta) (hb : PE X b tb) (hm : behindInMarks op b = false) : PT X (.Compare a [op] [b] pos) (tTest (tOp r ta tb)) := by
  intro pins s σ H Q I h
  refine wpAny_isTrue_Compare1 (thn (ha pins s σ H _ I h) fun v s1 ⟨x, H1, I1, r1, q1⟩ => thn (hb pins s1 σ H1 _ I1 q1) fun u s2 ⟨y, H2, I2, r2, q2⟩ =>
    thn (ho pins s2 σ H2 x y v u _ I2 r1 r2 q2) fun c s3 ⟨z, H3, I3, r3, k, e, q3⟩ => ?_) hm
  subst e
  cases r3
  exact wpAny_truthy_bool ⟨H3, I3, q3⟩
theorem line63 : (sizeLine : Nat) < 2 ^ 63 := by rw [sizeLine_eq]; decide
theorem vals1 {x : V} {us : List Value} (r : Vals [x] us) : ∃ u, us = [u] ∧ RelV x u := by
  cases r with
  | cons r1 r2 => cases r2; exact ⟨_, rfl, r1⟩
theorem call_abs : CallR X (.builtin "abs") (fun xs H Q => ∃ i, xs = [.int i] ∧ Q (.int (if i < 0 then -i else i)) H) := by
  intro pins s σ H xs us Q I r h
  obtain ⟨i, rfl, q⟩ := h
  obtain ⟨u, rfl, t, rfl⟩ := vals1 r
  exact call_abs_int fun u tk => ⟨.int (if i < 0 then -i else i), H, I.tok _, ⟨_, rfl⟩, q⟩
end
end L2
namespace L2
open PySem PySem.Spec PyProof.Rows
structure ObjM (h : Heap) (x dx C : Addr) (mA : Str → Option Value) : Prop where
  obj : h.get? x = some (PySem.W.instObj C dx)
  ns : h.Ns1 dx mA
  ne : dx ≠ x
theorem lookIn_ns {h : Heap} {dx : Addr} {mA : Str → Option Value} (n : h.Ns1 dx mA) : ∃ od, h.get? dx = some od ∧ ∀ name, PySem.W.lookIn name od = some (mA name) := by
  obtain ⟨o, es, ep, ho, hd, hk, _, hm⟩ := n
  refine ⟨o, ho, fun name => ?_⟩
  have e := hm name
  unfold nsFind findBy at e
  rw [← Array.find?_toList] at e
  unfold PySem.W.lookIn
  rw [hd]
  dsimp only
  split
  · rename_i y q
    rw [q] at e
    exact congrArg some e
  · rename_i q
    rw [q] at e
    have a : es.toList.any (·.refKey) = false := by
      rw [List.any_eq_false]
      intro y hy
      obtain ⟨z, t, hkey⟩ := hk y (Array.mem_toList_iff.mp hy)
      simp [DictEntry.refKey, hkey]
    have a' : ¬ es.toList.any (·.refKey) = true := by rw [a]; exact Bool.false_ne_true
    rw [if_neg a']
    exact congrArg some e
theorem ObjM.look {h : Heap} {x dx C : Addr} {mA : Str → Option Value} (I : ObjM h x dx C mA) : ∃ od, PySem.W.InstAt h x (PySem.W.instObj C dx) C (some od) ∧ ∀ name, PySem.W.lookIn name od = some (mA name) :=
  let ⟨od, ho, hl⟩ := lookIn_ns I.ns
  ⟨od, ⟨I.obj, rfl, rfl, ho⟩, hl⟩
section
variable {prog : Program} {w : World} {A : Around} {E : Value → Shared → Prop} {s : Shared} {K : PySem.W.Frag} {x dx C f : Addr} {mA : Str → Option Value} {name : Str} {v : Value}
end
section
variable {P : Program} {w : World} {H H' : Hp} {h h' : Heap} {a C dx : Addr} {fs fs' : List (Str × V)}
theorem ins_get (hok : HOk P w H h) (e : H a = some (.ins C dx fs)) : ∃ mA, ObjM h a dx C mA ∧ (∀ f, RelO (fs.lookup f) (mA f)) ∧ PySem.Within mA (fs.map (·.1)) ∧ fs.length ≤ 1000 ∧ H dx = some (.own a) := by
  obtain ⟨d, z, ne, ob, mA, n, r, q⟩ := (show ObjOk P w H h a (.ins C dx fs) from hok a _ e)
  exact ⟨mA, ⟨ob, n, ne⟩, r, q, z, d⟩
end
structure Cls (K : PySem.W.Frag) (C : Addr) : Prop where
  pg : PySem.W.plainGet K C Str.empty = true
  hd : PySem.W.hasDictIn K C = true
  po : PySem.W.plainOver K C = true
  sa : PySem.W.findIn K (.ref C) "__setattr__" = some (some (.builtin "object.__setattr__"))
theorem Cls.get {K : PySem.W.Frag} {C : Addr} (c : Cls K C) (f : Str) : PySem.W.plainGet K C f = true := c.pg
section
variable {X : Cx} {pins : List (Addr × Obj)} {σ : St} {H : Hp} {s : Shared} {a C dx : Addr} {fs : List (Str × V)} {f : Str} {v : V} {A : Around} {E : Value → Shared → Prop}
end
section
variable {X : Cx} {o e value : Expr} {f : Str} {pos pos' tpos : Pos} {ta tv : TE}
end
section
variable {X : Cx} {pins : List (Addr × Obj)} {σ : St} {H : Hp} {s : Shared} {A : Around} {E : Value → Shared → Prop} {Q : Value → Shared → Prop} {c : Value} {b : Bool}
inductive TyOf (K : PySem.W.Frag) (H : Hp) : V → Value → Prop where
  | non : TyOf K H .non (.type "NoneType")
  | bl (x : Bool) : TyOf K H (.bl x) (.type "bool")
  | int (i : Int) : TyOf K H (.int i) (.type "int")
  | str (x : Str) : TyOf K H (.str x) (.type "str")
  | flt (x : UInt64) : TyOf K H (.flt x) (.type "float")
  | lst {a : Addr} {xs : List V} (e : H a = some (.lst xs)) : TyOf K H (.ref a) (.type "list")
  | frz {a : Addr} {o : Obj} {xs : List V} (e : H a = some (.frz o (.lst xs))) : TyOf K H (.ref a) (.type "list")
  | tup {a : Addr} {xs : List V} (e : H a = some (.tup xs)) : TyOf K H (.ref a) (.type "tuple")
  | dK {a : Addr} {kvs : List (Key × V)} (e : H a = some (.dK kvs)) : TyOf K H (.ref a) (.type "dict")
  | dT {a : Addr} {kvs : List (List Key × V)} (e : H a = some (.dT kvs)) : TyOf K H (.ref a) (.type "dict")
  | ins {a C dx : Addr} {fs : List (Str × V)} (e : H a = some (.ins C dx fs)) (cl : Cls K C) (ha : PySem.W.findIn K (.ref C) "__class__" = some (some (.builtin "object.__class__")))
      (hn : PySem.W.specialIn K (.builtin "object.__class__") "__get__" = some (some (.builtin "getset_descriptor.__get__"))) (htk : PySem.W.takesIn K (.builtin "object.__class__") = some true)
      (hm : PySem.W.mroIn K C (.type "object") = some true) : TyOf K H (.ref a) (.ref C)
theorem isinst_ok {x : V} {u t : Value} (I : Inv X pins σ H s) (rx : RelV x u) (ty : TyOf X.K H x t) (e : PySem.W.kitOne X.K t c = some b) (h : ∀ tk, Q (.bool b) { s with toks := tk }) :
    wpAny (model X.prog X.w) A (call (.builtin "isinstance") [u, c]) Q E s := by
  cases ty with
  | non => cases (show u = Value.none from rx); exact PySem.W.kia_one PySem.W.kitx_none I.kIn True.intro e (fun z => nomatch z) h
  | bl y => cases (show u = Value.bool y from rx); exact PySem.W.kia_one PySem.W.kitx_bool I.kIn True.intro e (fun z => nomatch z) h
  | int i => obtain ⟨t, q⟩ := (show ∃ t, u = Value.int i t from rx); cases q; exact PySem.W.kia_one PySem.W.kitx_int I.kIn True.intro e (fun z => nomatch z) h
  | str y => obtain ⟨t, q⟩ := (show ∃ t, u = Value.str y t from rx); cases q; exact PySem.W.kia_one PySem.W.kitx_str I.kIn True.intro e (fun z => nomatch z) h
  | flt y => obtain ⟨t, q⟩ := (show ∃ t, u = Value.float y t from rx); cases q; exact PySem.W.kia_one PySem.W.kitx_float I.kIn True.intro e (fun z => nomatch z) h
  | @lst a xs ea =>
    cases (show u = Value.ref a from rx)
    obtain ⟨_, _, n, _, h1⟩ := (show ObjOk X.prog X.w H s.heap a (.lst xs) from I.hok a _ ea)
    exact PySem.W.kia_one PySem.W.kitx_list I.kIn ⟨_, h1, rfl⟩ e (fun z => nomatch z) h
  | @frz a ob xs ea =>
    cases (show u = Value.ref a from rx)
    obtain ⟨_, _, _, n, _, h1⟩ := (show ObjOk X.prog X.w H s.heap a (.frz ob (.lst xs)) from I.hok a _ ea)
    exact PySem.W.kia_one PySem.W.kitx_list I.kIn ⟨_, h1, rfl⟩ e (fun z => nomatch z) h
  | @tup a xs ea =>
    cases (show u = Value.ref a from rx)
    obtain ⟨_, _, _, p⟩ := (show ObjOk X.prog X.w H s.heap a (.tup xs) from I.hok a _ ea)
    obtain ⟨o, h1, h2, _⟩ := p
    exact PySem.W.kia_one PySem.W.kitx_tuple I.kIn ⟨o, h1, h2⟩ e (fun z => nomatch z) h
  | @dK a kvs ea =>
    cases (show u = Value.ref a from rx)
    obtain ⟨_, _, vs, _, p⟩ := (show ObjOk X.prog X.w H s.heap a (.dK kvs) from I.hok a _ ea)
    obtain ⟨o, es, ep, h1, h2, _⟩ := p
    exact PySem.W.kia_one PySem.W.kitx_dict I.kIn ⟨o, h1, h2.1⟩ e (fun z => nomatch z) h
  | @dT a kvs ea =>
    cases (show u = Value.ref a from rx)
    obtain ⟨_, _, xs, _, o, es, ep, h1, h2, _⟩ := (show ObjOk X.prog X.w H s.heap a (.dT kvs) from I.hok a _ ea)
    exact PySem.W.kia_one PySem.W.kitx_dict I.kIn ⟨o, h1, h2.1⟩ e (fun z => nomatch z) h
  | @ins a C dx fs ea cl ha hn htk hm =>
    cases (show u = Value.ref a from rx)
    obtain ⟨mA, O, _⟩ := ins_get I.hok ea
    obtain ⟨od, J, _⟩ := O.look
    exact PySem.W.kia_one (PySem.W.kitx_own (cl.get _) cl.hd ha hn htk hm) I.kIn J e (fun z => nomatch z) h
end
end L2
namespace L2
open PySem PySem.Spec PyProof.Rows
structure Room (k : Nat) (A : Around) : Prop where
  hd : A.handled = none
  dp : A.depth + 3 * k + 5 < recursionLimit
  un : A.units + 16 * k + 200 < cLine
theorem Room.mono {j k : Nat} {A : Around} (r : Room k A) (h : j ≤ k) : Room j A := ⟨r.hd, by have := r.dp; omega, by have := r.un; omega⟩
theorem Room.deeper {k : Nat} {A : Around} (r : Room (k + 1) A) (env : Env) : Room k (A.deeper env) :=
  ⟨r.hd, by have := r.dp; show A.depth + 1 + 3 * k + 5 < _; omega, by have := r.un; show A.units + 3 + 16 * k + 200 < _; omega⟩
theorem Room.depth {k : Nat} {A : Around} (r : Room k A) : A.depth < recursionLimit := by have := r.dp; omega
theorem Room.units {k : Nat} {A : Around} (r : Room k A) : A.units + 64 < cLine := by have := r.un; omega
def tNil : TA := fun _ H Q => Q [] H
def tCons (ta : TE) (tr : TA) : TA := fun σ H Q => ta σ H fun x H1 => tr σ H1 fun xs H2 => Q (x :: xs) H2
section
variable {X : Cx} {e : Expr} {es : List Expr} {te : TE} {t : TA} {pos : Pos}
theorem pa_nil : PA X [] tNil := fun _ _ _ _ H Q I h => Calls.spliced_nil ⟨[], H, I, .nil, h⟩
theorem pa_cons (ha : PE X e te) (hr : PA X es t) (hs : starEach (e :: es) X.env = (false, eval e X.env) :: starEach es X.env := by rfl) : PA X (e :: es) (tCons te t) := by
  intro pos pins s σ H Q I h
  rw [hs]
  show wpAny _ _ (spliced ((false, eval e X.env) :: backTo pos (starEach es X.env))) _ _ s
  refine Calls.spliced_cons (thn (ha pins s σ H _ I h) fun u s1 ⟨x, H1, I1, r1, q1⟩ => ?_)
  exact thn (hr pos pins s1 σ H1 _ I1 q1) fun us s2 ⟨xs, H2, I2, r2, q2⟩ => ⟨x :: xs, H2, I2, .cons r1 r2, q2⟩
def tTup (t : TA) : TE := fun σ H Q => t σ H fun xs H1 => xs.length ≤ sizeLine ∧ ∀ p, H1 p = none → Q (.ref p) (upd H1 p (.tup xs))
def tLst (t : TA) : TE := fun σ H Q => t σ H fun xs H1 => xs.length ≤ sizeLine ∧ ∀ p, H1 p = none → Q (.ref p) (upd H1 p (.lst xs))
theorem pe_tup {x1} (h : PA X es t) : PE X (.Tuple es x1 pos) (tTup t) := by
  intro pins s σ H Q I hq
  refine wpAny_Tuple_spliced (thn (h pos pins s σ H _ I hq) fun us s1 ⟨xs, H1, I1, r, z, q⟩ => ⟨by rw [← r.length]; exact z, ?_⟩)
  have hf : H1 s1.heap.objs.size = none := I1.hok.fresh (Nat.le_refl _)
  refine ⟨.ref s1.heap.objs.size, upd H1 s1.heap.objs.size (.tup xs), I1.laid (t' := s1.toks) (fun b u e => Heap.get?_push_of_some _ e) (Nat.le_refl _) ?_, rfl, q _ hf⟩
  exact ⟨z, us, r, ⟨_, Heap.get?_push_size _ rfl, rfl, _, rfl⟩⟩
theorem pe_lst (h : PA X es t) : PE X (.List es pos) (tLst t) := by
  intro pins s σ H Q I hq
  refine wpAny_List_spliced (thn (h pos pins s σ H _ I hq) fun us s1 ⟨xs, H1, I1, r, z, q⟩ => ⟨by rw [← r.length]; exact z, ?_⟩)
  have hf : H1 s1.heap.objs.size = none := I1.hok.fresh (Nat.le_refl _)
  refine ⟨.ref s1.heap.objs.size, upd H1 s1.heap.objs.size (.lst xs), I1.laid (t' := s1.toks) (fun b u e => Heap.get?_push_of_some _ e) (Nat.le_refl _) ?_, rfl, q _ hf⟩
  exact ⟨z, us, 0, r, Heap.get?_push_size _ rfl⟩
end
abbrev Sp := List V → Hp → VK → XK → Prop
abbrev CXT := List Env → Hp → Shared → XK → Value → Shared → Prop
structure Env0 (P : Program) (w : World) (K : PySem.W.Frag) (mg : Str → Option Value) (base : Heap) (A : Around) (outer : List Env) (s : Shared) (H : Hp) : Prop where
  frames : A.frames = some outer
  mod : Mod K mg base
  bs : ∀ b o, base.get? b = some o → s.heap.get? b = some o ∧ H b = none
  bsz : base.objs.size ≤ s.heap.objs.size
  funs : s.heap.FunFrames base outer
  frf : ∀ b ∈ frs outer, H b = none
  hok : HOk P w H s.heap
  bare : AllBare s.gens
def CE (outer : List Env) (P : Program) (w : World) (H : Hp) (s : Shared) (Q : VK) (u : Value) (s' : Shared) : Prop :=
  ∃ v H', s'.os = s.os ∧ AllBare s'.gens ∧ Un (frs outer) [] H H' s.heap s'.heap ∧ HOk P w H' s'.heap ∧ RelV v u ∧ Q v H'
def CR (CX : CXT) (outer : List Env) (P : Program) (w : World) (H : Hp) (s : Shared) (Q : VK) (E : XK) (r : Result) (s' : Shared) : Prop :=
  match r with
  | .ok (.ret u) => CE outer P w H s Q u s'
  | .ok _ => False
  | .error e => CX outer H s E e s'
structure FnOk (P : Program) (w : World) (K : PySem.W.Frag) (mg : Str → Option Value) (base : Heap) (CX : CXT) (k : Nat) (f : Addr) (fd : FuncData) (ps : List Str) (sp : Sp) : Prop where
  len : ∀ vs H Q E, sp vs H Q E → vs.length = ps.length
  run : ∀ (A : Around) (outer : List Env) (s : Shared) (H : Hp) (args : Args) (us : List Value) (vs : List V) (Q : VK) (E : XK), Room k A → Env0 P w K mg base A outer s H → BindsTo s fd args (ps.zip us) → Vals vs us → sp vs H Q E →
    codeAny (model P w) A (.call (.ref f) args) (CR CX outer P w H s Q E) s
theorem FnOk.mono {P : Program} {w : World} {K : PySem.W.Frag} {mg : Str → Option Value} {base : Heap} {CX : CXT} {j k : Nat} {f : Addr} {fd : FuncData} {ps : List Str} {sp : Sp} (F : FnOk P w K mg base CX j f fd ps sp) (h : j ≤ k) :
    FnOk P w K mg base CX k f fd ps sp := ⟨F.len, fun A outer s H args us vs Q E hr => F.run A outer s H args us vs Q E (hr.mono h)⟩
section
variable {X : Cx} {pins : List (Addr × Obj)} {σ : St} {H : Hp} {s s' : Shared}
theorem Inv.env0 (I : Inv X pins σ H s) : Env0 X.prog X.w X.K X.mg X.base X.A X.stack s H :=
  ⟨I.ok.frames, I.ok.mod, I.bs, Nat.le_trans I.ok.bsz I.sz, I.stack, I.stkFree, I.hok, I.bare⟩
theorem Inv.after {Q : VK} {u : Value} (I : Inv X pins σ H s) (h : CE X.stack X.prog X.w H s Q u s') : EP X pins σ Q u s' := by
  obtain ⟨v, H', os, bare, un, hok, r, q⟩ := h
  obtain ⟨hh, g, d, t, os'⟩ := s'
  obtain rfl : os' = s.os := os
  exact ⟨v, H', I.call (h' := hh) (g' := g) (d' := d) (t' := t) (ch := []) un hok bare (fun b z => absurd z (by simp)), r, q⟩
end
def tCall (sp : Sp) (dvs : List V) (E : XK) (t : TA) : TE := fun σ H Q => t σ H fun vs H1 => sp (vs ++ dvs) H1 Q E
def Binds (K : PySem.W.Frag) (fd : FuncData) (ps : List Str) (ds : List Value) : Prop :=
  ∀ (s : Shared) (us : List Value), K.In s.heap → (us ++ ds).length = ps.length → BindsTo s fd ⟨us, []⟩ (ps.zip (us ++ ds))
theorem Binds.all {K : PySem.W.Frag} {fd : FuncData} {ps : List Str} (h : ∀ us : List Value, us.length = ps.length → bindArgs fd ⟨us, []⟩ = pure (ps.zip us)) : Binds K fd ps [] := fun s us _ hl => by
  rw [List.append_nil] at hl ⊢
  exact .of_eq (h us hl)
def Passes (CX : CXT) (X : Cx) (E : XK) : Prop := ∀ (pins : List (Addr × Obj)) (σ : St) (H : Hp) (s : Shared) (e : Value) (s' : Shared), Inv X pins σ H s → CX X.stack H s E e s' → X.xe e s'
section
variable {X : Cx} {CX : CXT} {k : Nat} {f C : Addr} {fd : FuncData} {ps : List Str} {sp : Sp} {dvs : List V} {ds : List Value} {E : XK} {x m : Str} {p pos apos : Pos} {e o : Expr} {es : List Expr} {ta : TE} {t : TA}
theorem run_fn {pins : List (Addr × Obj)} {σ : St} {H : Hp} {s : Shared} {Q : VK} {us : List Value} {vs : List V} (F : FnOk X.prog X.w X.K X.mg X.base CX k f fd ps sp) (hr : Room k X.A) (hb : Binds X.K fd ps ds) (hd : Vals dvs ds) (hx : Passes CX X E)
    (I : Inv X pins σ H s) (r : Vals vs us) (h : sp (vs ++ dvs) H Q E) : wpAny (model X.prog X.w) X.A (call (.ref f) us) (EP X pins σ Q) X.xe s := by
  have r2 : Vals (vs ++ dvs) (us ++ ds) := r.append hd
  have hl : (us ++ ds).length = ps.length := by rw [← r2.length]; exact F.len _ _ _ _ h
  refine wpAny_call (codeAny_mono (F.run X.A X.stack s H ⟨us, []⟩ (us ++ ds) (vs ++ dvs) Q E hr I.env0 (hb s us I.kIn hl) r2 h) fun r s' hq => ?_)
  cases r with
  | error e => exact hx pins σ H s e s' I hq
  | ok fl =>
    cases fl with
    | ret u => exact I.after hq
    | next => exact False.elim hq
    | brk => exact False.elim hq
    | cont => exact False.elim hq
theorem pe_call (F : FnOk X.prog X.w X.K X.mg X.base CX k f fd ps sp) (hr : Room k X.A) (hg : Gl X x) (hm : X.mg x = some (.ref f)) (hk : PySem.W.keepIn X.K (.ref f) = true) (hb : Binds X.K fd ps ds) (hd : Vals dvs ds) (hx : Passes CX X E)
    (ha : PA X (e :: es) t) (hdb : (x == ("__debug__" : Str)) = false := by decide) (he : starEach (e :: es) X.env = (false, eval e X.env) :: starEach es X.env := by rfl) (hpl : (backTo pos (starEach es X.env)).any (·.1) = false := by rfl) :
    PE X (.Call (.Name x p) (e :: es) [] pos) (tCall sp dvs E t) := by
  intro pins s σ H Q I h
  refine wpAny_Call_Name_kw (ld_glob I hg hm ?_ hdb)
  refine PySem.W.callWith_K (h₀ := X.base) I.ok.mod.kin hk (thn (ha pos pins s σ H _ I h) fun us s1 ⟨vs, H1, I1, r, q⟩ => ⟨I1.kIn, ?_⟩) he hpl
  exact run_fn F hr hb hd hx I1 r q
end
section
variable {X : Cx} {CX : CXT} {k : Nat} {f C : Addr} {fd : FuncData} {ps ks : List Str} {sp : Sp} {E : XK} {x m : Str} {p pos apos kpos : Pos} {e o : Expr} {es : List Expr} {kws : List Keyword} {te ta : TE} {t tk : TA} {nm : Option Str}
variable {g : List Value → List Value → List Value} {gV : List V → List V → List V}
end
structure FnScope (N P : List Str) (sc : Scope) : Prop where
  kind : sc.kind = .function
  co : sc.isCoroutine = false
  gen : sc.isGenerator = false
  nd : N.Nodup
  pre : N.take P.length = P
  par : ∀ x ∈ P, sc.names.lookup x = some .local ∨ sc.names.lookup x = some .cell
  nofree : ∀ y ∈ sc.names, y.2 ≠ .free
theorem bindL_out {kindOf : Str → Option NameKind} {x : Str} : ∀ {binds : List (Str × Value)} {m : Str → Option Value}, (∀ v, (x, v) ∉ binds) → bindL kindOf binds m x = m x
  | [], _, _ => rfl
  | (n, v) :: r, m, h => by
    unfold bindL
    rw [bindL_out fun w hw => h w (List.mem_cons_of_mem _ hw)]
    split
    · have : x ≠ n := by rintro rfl; exact h v List.mem_cons_self
      simp [this]
    · rfl
theorem bindC_out {kindOf : Str → Option NameKind} {x : Str} : ∀ {binds : List (Str × Value)} {m : Str → Option Value}, (∀ v, (x, v) ∉ binds) → bindC kindOf binds m x = m x
  | [], _, _ => rfl
  | (n, v) :: r, m, h => by
    unfold bindC
    rw [bindC_out fun w hw => h w (List.mem_cons_of_mem _ hw)]
    split
    · rfl
    · have : x ≠ n := by rintro rfl; exact h v List.mem_cons_self
      simp [this]
theorem bindL_get {kindOf : Str → Option NameKind} {x : Str} {v : Value} : ∀ {P : List Str} {vs : List Value} {i : Nat} {m : Str → Option Value}, P.Nodup → P[i]? = some x → vs[i]? = some v → kindOf x = some .local →
    bindL kindOf (P.zip vs) m x = some v
  | [], _, _, _, _, h, _, _ => by simp at h
  | _ :: _, [], _, _, _, _, h, _ => by simp at h
  | p :: P, w :: vs, 0, m, nd, h1, h2, hk => by
    simp at h1 h2; subst h1; subst h2
    show bindL kindOf ((p, w) :: P.zip vs) m p = _
    unfold bindL
    rw [bindL_out fun v hv => (List.nodup_cons.mp nd).1 (List.of_mem_zip hv).1, if_pos hk]
    simp
  | p :: P, w :: vs, i + 1, m, nd, h1, h2, hk => by
    show bindL kindOf ((p, w) :: P.zip vs) m x = _
    unfold bindL
    exact bindL_get (i := i) (List.nodup_cons.mp nd).2 (by simpa using h1) (by simpa using h2) hk
theorem bindC_get {kindOf : Str → Option NameKind} {x : Str} {v : Value} : ∀ {P : List Str} {vs : List Value} {i : Nat} {m : Str → Option Value}, P.Nodup → P[i]? = some x → vs[i]? = some v → kindOf x ≠ some .local →
    bindC kindOf (P.zip vs) m x = some v
  | [], _, _, _, _, h, _, _ => by simp at h
  | _ :: _, [], _, _, _, _, h, _ => by simp at h
  | p :: P, w :: vs, 0, m, nd, h1, h2, hk => by
    simp at h1 h2; subst h1; subst h2
    show bindC kindOf ((p, w) :: P.zip vs) m p = _
    unfold bindC
    rw [bindC_out fun v hv => (List.nodup_cons.mp nd).1 (List.of_mem_zip hv).1, if_neg hk]
    simp
  | p :: P, w :: vs, i + 1, m, nd, h1, h2, hk => by
    show bindC kindOf ((p, w) :: P.zip vs) m x = _
    unfold bindC
    exact bindC_get (i := i) (List.nodup_cons.mp nd).2 (by simpa using h1) (by simpa using h2) hk
def start (N : List Str) (vs : List V) : St := vs.map some ++ List.replicate (N.length - vs.length) none
def cxOf (CX : CXT) (P : Program) (w : World) (K : PySem.W.Frag) (mg : Str → Option Value) (base : Heap) (N : List Str) (qual : Str) (scope : Scope) (f : Addr) (cd : Value) (A : Around) (outer : List Env) (s : Shared) (H : Hp) (E : XK) : Cx where
  prog := P
  w := w
  K := K
  mg := mg
  base := base
  A := A.deeper (envOfC qual scope s.heap.objs.size f cd)
  N := N
  s₀ := s
  H₀ := H
  env := envOfC qual scope s.heap.objs.size f cd
  outer := outer
  stack := envOfC qual scope s.heap.objs.size f cd :: outer
  ex := []
  calm := true
  fn := fun _ => true
  pn := []
  xe := fun e s' => wpAny (model P w) (A.deeper (envOfC qual scope s.heap.objs.size f cd)) (leaving (envOfC qual scope s.heap.objs.size f cd) e) (fun _ s'' => CX outer H s E e s'') (fun e' s'' => CX outer H s E e' s'') s'
theorem cell_has {sc : Scope} {n : Nat} {x : Str} (h : sc.names.lookup x = some .cell) : ∃ c, (cellsFrom n sc.names []).lookup x = some c := by
  have q := PySem.W.cellsFrom_some sc.names n [] (.inl h)
  exact Option.isSome_iff_exists.mp q
theorem inv_start {CX : CXT} {P : Program} {w : World} {K : PySem.W.Frag} {mg : Str → Option Value} {base : Heap} {N ps : List Str} {qual : Str} {scope : Scope} {f : Addr} {cd : Value} {A : Around} {outer : List Env} {s s1 : Shared} {H : Hp} {E : XK} {us : List Value} {vs : List V}
    (S : FnScope N ps scope) (hd : A.handled = none) (e0 : Env0 P w K mg base A outer s H) (hl : vs.length = ps.length) (r : Vals vs us)
    (x : InCallC s s.heap.objs.size (bindL (envOfC qual scope s.heap.objs.size f cd).kindOf (ps.zip us) fun _ => none) (cellsFrom (s.heap.objs.size + 1) scope.names []) (bindC (envOfC qual scope s.heap.objs.size f cd).kindOf (ps.zip us) fun _ => none) s1) :
    Inv (cxOf CX P w K mg base N qual scope f cd A outer s H E) [] (start N vs) H s1 := by
  have hpl : ps.length ≤ N.length := by have := congrArg List.length S.pre; rw [List.length_take] at this; omega
  obtain ⟨h1, tk, rfl, hk⟩ := x.done
  have noA : ∀ b : Addr, b ∉ (cxOf CX P w K mg base N qual scope f cd A outer s H E).ex := fun b z => absurd (show b ∈ ([] : List Addr) from z) (by simp)
  refine ⟨⟨e0.mod, S.kind, rfl, rfl, Nat.le_refl _, fun y z c h1 h2 => ?_, fun y hy => ?_, fun y c _ h => ?_, fun _ => hd, Around.frames_deeper e0.frames, .inr ⟨rfl, rfl⟩, fun b z => absurd z (noA b), e0.bs, e0.bsz, fun b _ _ => noA b, fun b z => absurd z (noA b), e0.funs, e0.frf⟩,
    rfl, e0.bare, Un.kept hk, ⟨_, x.toInCall.ns, fun i y v h1 h2 h3 => ?_⟩, fun y c h => ⟨_, x.cell y c h⟩, e0.hok.fresh (Nat.le_refl _), fun y c h => ?_, fun p hp => absurd (show p ∈ ([] : List (Addr × Obj)) from hp) (by simp), e0.hok.kept hk, ?_⟩
  · exact name_of_addr x.apart (PySem.mem_of_lookup h1) (PySem.mem_of_lookup h2)
  · have hy : scope.names.lookup y = some .cell ∨ scope.names.lookup y = some .free := hy
    rcases hy with hy | hy
    · exact cell_has hy
    · exact absurd rfl (S.nofree _ (PySem.mem_of_lookup hy))
  · exact Nat.le_of_lt (x.above y c (PySem.mem_of_lookup h))
  · have hi : i < vs.length := by
      unfold start at h2
      by_cases hi : i < vs.length
      · exact hi
      · rw [List.getElem?_append_right (by simpa using hi)] at h2
        rw [List.getElem?_replicate] at h2
        split at h2 <;> cases h2
    have ha : vs[i]? = some v := by
      unfold start at h2
      rw [List.getElem?_append_left (by simpa using hi), List.getElem?_map] at h2
      cases e : vs[i]? with
      | none => rw [e] at h2; cases h2
      | some a => rw [e] at h2; cases h2; rfl
    obtain ⟨u, hu, rv⟩ := r.get ha
    have hp : ps[i]? = some y := by
      rw [← S.pre, List.getElem?_take_of_lt (by omega)]; exact h1
    have ndP : ps.Nodup := by rw [← S.pre]; exact S.nd.sublist (List.take_sublist _ _)
    refine ⟨u, rv, ?_⟩
    rcases S.par y (List.mem_of_getElem? hp) with k | k
    · exact .inl ⟨k, bindL_get ndP hp hu k⟩
    · obtain ⟨c, e⟩ := cell_has (n := s.heap.objs.size + 1) k
      refine .inr ⟨.inl k, c, e, ?_⟩
      have q := x.cell y c e
      rw [bindC_get ndP hp hu (by show scope.names.lookup y ≠ _; rw [k]; decide)] at q
      exact q
  · exact e0.hok.fresh (Nat.le_of_lt (x.above y c (PySem.mem_of_lookup h)))
  · unfold start
    show _ = N.length
    rw [List.length_append, List.length_map, List.length_replicate]
    omega
theorem fn_of {CX : CXT} {P : Program} {w : World} {K : PySem.W.Frag} {mg : Str → Option Value} {base : Heap} {k : Nat} {f : Addr} {name qual : Str} {params : Arguments} {body : List Stmt} {scope : Scope} {dV kV doc pm cdv ct oc : Value} {an od : Option Addr}
    {osl : Array (Option Value)} {N ps : List Str} {sp : Sp} (lk : K.lookup f = some ⟨oc, od, .func (PySem.W.fnOf name qual params body scope dV kV doc pm an cdv ct), osl⟩) (hcd : PySem.W.codeIn K cdv qual = true) (S : FnScope N ps scope)
    (len : ∀ vs H Q E, sp vs H Q E → vs.length = ps.length)
    (hbody : ∀ (A : Around) (outer : List Env) (s : Shared) (H : Hp) (vs : List V) (Q : VK) (E : XK), Room k (A.deeper (envOfC qual scope s.heap.objs.size f cdv)) → sp vs H Q E →
      ∃ t, PSs (cxOf CX P w K mg base N qual scope f cdv A outer s H E) body t ∧ t { nx := fun _ H' => Q .non H', rt := Q } (start N vs) H) :
    FnOk P w K mg base CX (k + 1) f (PySem.W.fnOf name qual params body scope dV kV doc pm an cdv ct) ps sp := by
  refine ⟨len, fun A outer s H args us vs Q E hr e0 hb r hsp => ?_⟩
  have hl := len _ _ _ _ hsp
  have KX : K.In s.heap := e0.mod.kin.keeps fun b o e => (e0.bs b o e).1
  have lim : s.heap.NoLimit := e0.mod.nolimit.keeps fun b o e => (e0.bs b o e).1
  have hkind : ∀ y ∈ ps.zip us, scope.names.lookup y.1 = some .local ∨ (scope.names.lookup y.1 = some .cell ∧ ((cellsFrom (s.heap.objs.size + 1) scope.names []).lookup y.1).isSome = true) := fun ⟨n, v⟩ hy => by
    rcases S.par n (List.of_mem_zip hy).1 with q | q
    · exact .inl q
    · exact .inr ⟨q, PySem.W.cellsFrom_some _ _ _ (.inl q)⟩
  refine codeAny_call_function hr.depth (KX _ _ lk) rfl S.co S.gen rfl (PySem.W.codeRec_of KX hcd) (hb _ _ _ _ ?_)
  refine wpAny_newFunctionEnv_cells S.kind hkind fun env he s1 x => ?_
  subst he
  refine ⟨lim.keeps x.toInCall.keep, codeAny_func ?_⟩
  obtain ⟨t, ht, hq⟩ := hbody A outer s H vs Q E (hr.deeper _) hsp
  have I : Inv (cxOf CX P w K mg base N qual scope f cdv A outer s H E) [] (start N vs) H s1 := inv_start S hr.hd e0 hl r x
  refine wpAny_mono (ht [] s1 (start N vs) H _ I hq) (fun fl s' hs => ?_) fun e s' hs => hs
  have fin : ∀ {σ' : St} {H' : Hp} {v : V} {u : Value}, Inv (cxOf CX P w K mg base N qual scope f cdv A outer s H E) [] σ' H' s' → RelV v u → Q v H' → CE outer P w H s Q u s' :=
    fun {σ' H' v u} J rv q => ⟨v, H', J.os, J.bare, J.base, J.hok, rv, q⟩
  cases fl with
  | ret u =>
    obtain ⟨v, σ', H', J, rv, q⟩ := hs
    exact fin J rv q
  | next =>
    obtain ⟨σ', H', J, q⟩ := hs
    exact fin (v := V.non) (u := Value.none) J rfl q
  | brk =>
    obtain ⟨_, _, _, q⟩ := hs
    exact False.elim q
  | cont =>
    obtain ⟨_, _, _, q⟩ := hs
    exact False.elim q
end L2
namespace L2
open PySem PySem.Spec PyProof.Rows
section
variable {X : Cx} {x : Str} {p pos : Pos} {e : Expr} {es : List Expr} {t : TA} {id T : String} {r : List V → Hp → VK → Prop}
def tCB (r : List V → Hp → VK → Prop) (t : TA) : TE := fun σ H Q => t σ H fun vs H1 => r vs H1 Q
theorem pe_callB (hc : CallR X (.builtin id) r) (hg : Gl X x) (hm : X.mg x = none) (hv : bootBuiltins x = some (.builtin id)) (ha : PA X (e :: es) t) (hn : x ≠ "__name__" := by decide) (hdb : (x == ("__debug__" : Str)) = false := by decide)
    (he : starEach (e :: es) X.env = (false, eval e X.env) :: starEach es X.env := by rfl) (hpl : (backTo pos (starEach es X.env)).any (·.1) = false := by rfl) : PE X (.Call (.Name x p) (e :: es) [] pos) (tCB r t) := by
  intro pins s σ H Q I h
  refine wpAny_Call_Name_kw (ld_blt I hg hm hv ?_ hn hdb)
  exact PyProof.Rows.callWith_builtin1 (thn (ha pos pins s σ H _ I h) fun us s1 ⟨vs, H1, I1, r1, q1⟩ => hc pins s1 σ H1 vs us Q I1 r1 q1) he hpl
theorem pe_callTy (hc : CallR X (.type T) r) (hg : Gl X x) (hm : X.mg x = none) (hv : bootBuiltins x = some (.type T)) (ha : PA X (e :: es) t) (hn : x ≠ "__name__" := by decide) (hdb : (x == ("__debug__" : Str)) = false := by decide)
    (he : starEach (e :: es) X.env = (false, eval e X.env) :: starEach es X.env := by rfl) (hpl : (backTo pos (starEach es X.env)).any (·.1) = false := by rfl) : PE X (.Call (.Name x p) (e :: es) [] pos) (tCB r t) := by
  intro pins s σ H Q I h
  refine wpAny_Call_Name_kw (ld_blt I hg hm hv ?_ hn hdb)
  exact PyProof.Rows.callWith_type1 (thn (ha pos pins s σ H _ I h) fun us s1 ⟨vs, H1, I1, r1, q1⟩ => hc pins s1 σ H1 vs us Q I1 r1 q1) he hpl
end
end L2
namespace HT
open PySem PyProof.Rows
section
open PySem.SeqAt
open PySem.AutoSeq1 (wpAny_loadPart')
open PySem.MeetsSeq PySem.MeetsSeq2 PySem.MeetsSeq3
end
section
variable {prog : Program} {w : World} {A : Around} {E : Value → Shared → Prop} {s : Shared}
theorem cat_tup {t b : Addr} {vs ws : List Value} {Q : Value → Shared → Prop} (ht : IsTup s.heap t vs.toArray) (hb : IsTup s.heap b ws.toArray) (hv : vs ≠ [])
    (h1 : ws = [] → Q (.ref t) s) (h2 : ws ≠ [] → Q (.ref s.heap.objs.size) { s with heap := s.heap.push { cls := .type "tuple", data := .seq (vs ++ ws).toArray } })
    (hsz : vs.length + ws.length ≤ sizeLine) : wpAny (model prog w) A (binaryOp .Add (.ref t) (.ref b)) Q E s := by
  obtain ⟨⟨cls, dd, data, sl⟩, ho, hc, n, hd⟩ := id ht
  obtain ⟨⟨cls2, dd2, data2, sl2⟩, ho2, hc2, n2, hd2⟩ := id hb
  simp only at hc hd hc2 hd2
  subst hc hd hc2 hd2
  have e : vs.toArray ++ ws.toArray = (vs ++ ws).toArray := by simp
  by_cases hw : ws = []
  · exact concat_meets ⟨_, ho, rfl⟩ ⟨_, ho2, rfl⟩ noFill_tuple_add seq_tuple_add PySem.F.slot_tuple_add PySem.F.entry_tuple_add (PySem.F.args_tuple_add_2 _ _)
      (tuple_addW1 t b vs.toArray ws.toArray n n2 dd dd2 sl sl2 (by simpa using hv) (by simp [hw])) ⟨ho, ho2, h1 hw⟩
  · refine concat_meets ⟨_, ho, rfl⟩ ⟨_, ho2, rfl⟩ noFill_tuple_add seq_tuple_add PySem.F.slot_tuple_add PySem.F.entry_tuple_add (PySem.F.args_tuple_add_2 _ _)
      (tuple_addW2 t b vs.toArray ws.toArray n n2 dd dd2 sl sl2 (by simpa using hv) (by simpa using hw) (by rw [List.size_toArray, List.size_toArray]; exact hsz)) ⟨ho, ho2, ?_⟩
    rw [e]
    exact h2 hw
def sIx (n d : Nat) : Option Int → Nat
  | none => d
  | some v => if v < 0 then (v + (n : Int)).toNat else min v.toNat n
theorem sIx_none (n d : Nat) : sIx n d none = d := rfl
theorem sIx_nat (n d k : Nat) : sIx n d (some (k : Int)) = min k n := by
  show (if (k : Int) < 0 then ((k : Int) + (n : Int)).toNat else min (k : Int).toNat n) = min k n
  rw [if_neg (by omega), Int.toNat_natCast]
theorem sIx_le (n d : Nat) (hd : d ≤ n) (o : Option Int) : sIx n d o ≤ n := by
  cases o with
  | none => exact hd
  | some v =>
    show (if v < 0 then (v + (n : Int)).toNat else min v.toNat n) ≤ n
    by_cases hv : v < 0
    · rw [if_pos hv]; omega
    · rw [if_neg hv]; exact Nat.min_le_right _ _
theorem clip_eq (v : Int) (n d : Nat) : (if v < 0 then max (v + (n : Int)) 0 else min v (n : Int)) = ((sIx n d (some v) : Nat) : Int) := by
  show (if v < 0 then max (v + (n : Int)) 0 else min v (n : Int)) = (((if v < 0 then (v + (n : Int)).toNat else min v.toNat n) : Nat) : Int)
  by_cases hv : v < 0
  · simp only [if_pos hv]; omega
  · simp only [if_neg hv]; omega
theorem adjust_gen (lo hi : Option Int) (n : Nat) : Builtin.Slice.sliceAdjust lo hi 1 (n : Int) = (((sIx n 0 lo : Nat) : Int), ((sIx n n hi : Nat) : Int)) := by
  have h1 : ¬ ((1 : Int) < 0) := by omega
  unfold Builtin.Slice.sliceAdjust
  simp only [h1, if_false]
  refine Prod.ext ?_ ?_
  · cases lo with
    | none => rfl
    | some v => exact clip_eq v n 0
  · cases hi with
    | none => rfl
    | some v => exact clip_eq v n n
theorem places_gen (i j : Nat) : Builtin.Slice.slicePlaces (i : Int) (j : Int) 1 = j - i := by
  unfold Builtin.Slice.slicePlaces
  have h1 : (1 : Int) > 0 := by omega
  simp only [h1, if_true, Int.ediv_one]
  split <;> omega
theorem slicePart_ {v : Value} {o : Option Int} {Q : Option Int → Shared → Prop} (p : IsPart v o) (h : Q o s) : wpAny (model prog w) A (Builtin.Slice.slicePartIndex v) Q E s := by
  cases p with
  | none => exact slicePart_none h
  | int i t => exact slicePart_int h
theorem sliceApplied_gen {sl : Addr} {vl vu : Value} {lo hi : Option Int} {n : Nat} {Q : Int × Int × Nat → Shared → Prop} (hs : s.heap.IsSliceOf sl vl vu .none) (pl : IsPart vl lo) (pu : IsPart vu hi)
    (h : Q (((sIx n 0 lo : Nat) : Int), 1, sIx n n hi - sIx n 0 lo) s) : wpAny (model prog w) A (Builtin.Slice.sliceApplied (.ref sl) (pure (n : Int))) Q E s := by
  obtain ⟨os, hos, hcs, hds⟩ := id hs
  unfold Builtin.Slice.sliceApplied Builtin.Slice.sliceFields
  refine wpAny_bind (wpAny_bind (wpAny_field hos hds (x := vl) rfl (wpAny_bind (wpAny_field hos hds (x := vu) rfl (wpAny_bind (wpAny_field hos hds (x := .none) rfl (wpAny_pure ?_)))))))
  refine wpAny_bind (slicePart_none ?_)
  show wpAny _ _ (if ((1 : Int) == 0) = true then _ else _) _ _ s
  rw [if_neg (by decide)]
  refine wpAny_bind (slicePart_ pl (wpAny_bind (slicePart_ pu (wpAny_bind (wpAny_pure ?_)))))
  show wpAny _ _ (match Builtin.Slice.sliceAdjust lo hi 1 (n : Int) with | (lo, hi) => pure (lo, (1 : Int), Builtin.Slice.slicePlaces lo hi 1)) _ _ s
  rw [adjust_gen lo hi n]
  show wpAny _ _ (pure (((sIx n 0 lo : Nat) : Int), (1 : Int), Builtin.Slice.slicePlaces ((sIx n 0 lo : Nat) : Int) ((sIx n n hi : Nat) : Int) 1)) _ _ s
  rw [places_gen]
  exact wpAny_pure h
theorem pick_gen (xs : Array Value) (i k : Nat) : ((List.range k).filterMap fun (m : Nat) => xs[((i : Int) + (m : Int) * 1).toNat]?).toArray = ((xs.toList.drop i).take k).toArray := by
  have e : (fun (m : Nat) => xs[((i : Int) + (m : Int) * 1).toNat]?) = fun m => xs[i + m]? := by
    funext m
    have : ((i : Int) + (m : Int) * 1).toNat = i + m := by omega
    rw [this]
  rw [e]
  have := pick_run xs i k
  rw [List.filterMap_map] at this
  have e2 : ((fun x => xs[x]?) ∘ fun x => i + x) = fun m => xs[i + m]? := rfl
  rw [e2] at this
  rw [this]
theorem getItem_tuple_cut {t sl : Addr} {items : Array Value} {vl vu : Value} {lo hi : Option Int} {Q : Value → Shared → Prop} (ht : IsTup s.heap t items) (hs : s.heap.IsSliceOf sl vl vu .none) (pl : IsPart vl lo) (pu : IsPart vu hi)
    (hw : ¬ (sIx items.size 0 lo = 0 ∧ sIx items.size items.size hi = items.size))
    (h : Q (.ref s.heap.objs.size) { s with heap := s.heap.push { cls := .type "tuple", data := .seq ((items.toList.drop (sIx items.size 0 lo)).take (sIx items.size items.size hi - sIx items.size 0 lo)).toArray } })
    (hsz : items.size ≤ sizeLine) : wpAny (model prog w) A (getItem (.ref t) (.ref sl)) Q E s := by
  have htake : sizeOk (.seq ((items.toList.drop (sIx items.size 0 lo)).take (sIx items.size items.size hi - sIx items.size 0 lo)).toArray) := by
    show ((items.toList.drop (sIx items.size 0 lo)).take (sIx items.size items.size hi - sIx items.size 0 lo)).toArray.size ≤ sizeLine
    rw [List.size_toArray, List.length_take, List.length_drop, Array.length_toList]
    omega
  have hj : sIx items.size items.size hi ≤ items.size := sIx_le _ _ (Nat.le_refl _) hi
  obtain ⟨os, hos, hcs, hds⟩ := id hs
  have hTs : s.TypeIs (.ref sl) "slice" := ⟨os, hos, hcs⟩
  unfold getItem
  try with_reducible refine wpAny_holding ?_
  first | refine wpAny_bind (wpAny_pure ?_) | skip
  refine wpAny_bind (wpAny_sequenceKey ht.typeIs (by decide) ?_)
  refine wpAny_bind (wpAny_callSpecial?_slot (name := Str.ofString "__getitem__") ht.typeIs PyProof.Rows.slot_tuple_getitem
    (wpAny_call_entry PyProof.Rows.slot_tuple_getitem ht.typeIs entry_tuple_getitem ?_ (args_tuple_getitem _ _)))
  show wpAny _ _ (Builtin.Tuple.tupleItemsOf (.ref t) >>= _) _ _ s
  refine wpAny_bind (tupleItemsOf_ ht ?_)
  refine wpAny_bind (wpAny_typeOf hTs ?_)
  rw [if_pos (by decide)]
  refine wpAny_bind (sliceApplied_gen hs pl pu ?_)
  have hno : ¬ ((((sIx items.size 0 lo : Nat) : Int) == 0 && (1 : Int) == 1 && (sIx items.size items.size hi - sIx items.size 0 lo) == items.size) = true) := by
    intro q
    rw [Bool.and_eq_true, Bool.and_eq_true] at q
    have q1 : ((sIx items.size 0 lo : Nat) : Int) = 0 := eq_of_beq q.1.1
    have q2 : sIx items.size items.size hi - sIx items.size 0 lo = items.size := eq_of_beq q.2
    exact hw ⟨by omega, by omega⟩
  show wpAny _ _ (if (((sIx items.size 0 lo : Nat) : Int) == 0 && (1 : Int) == 1 && (sIx items.size items.size hi - sIx items.size 0 lo) == items.size) = true then _ else _) _ _ s
  rw [if_neg hno, pick_gen]
  first
    | exact wpAny_bind (m := Builtin.Tuple.tupleExact _) (wpAny_newObj_type (wpAny_pure ⟨_, rfl, wpAny_pure h⟩) htake)
    | exact wpAny_bind (m := Builtin.Tuple.tupleExact _) (wpAny_newObj_type (wpAny_bind (wpAny_pure (wpAny_pure ⟨_, rfl, wpAny_pure h⟩))) htake)
    | exact wpAny_bind (wpAny_bind (m := Builtin.Tuple.tupleExact _) (wpAny_newObj_type (wpAny_pure (wpAny_pure ⟨_, rfl, wpAny_pure h⟩)) htake))
    | exact wpAny_bind (wpAny_bind (m := Builtin.Tuple.tupleExact _) (wpAny_newObj_type (wpAny_pure ⟨_, rfl, wpAny_pure h⟩) htake))
end
end HT
namespace L2
open PySem PySem.Spec PyProof.Rows
abbrev TO := St → Hp → (Option Int → Hp → Prop) → Prop
def PO (X : Cx) (e : Option Expr) (t : TO) : Prop :=
  ∀ (pins : List (Addr × Obj)) (s : Shared) (σ : St) (H : Hp) (Q : Option Int → Hp → Prop), Inv X pins σ H s → t σ H Q →
    wpAny (model X.prog X.w) X.A (evalPart e X.env) (fun u s' => ∃ o H', Inv X pins σ H' s' ∧ IsPart u o ∧ Q o H') X.xe s
def tNoPart : TO := fun _ H Q => Q none H
def tPart (t : TE) : TO := fun σ H Q => t σ H fun x H1 => ∃ i, x = .int i ∧ Q (some i) H1
section
variable {X : Cx} {e : Expr} {te : TE} {lo hi : Option Expr} {tl th : TO} {pos p2 : Pos}
theorem po_none : PO X none tNoPart := by
  intro pins s σ H Q I h
  rw [evalPart_none]
  exact wpAny_pure ⟨none, H, I, .none, h⟩
theorem po_some (h : PE X e te) : PO X (some e) (tPart te) := by
  intro pins s σ H Q I hw
  rw [evalPart_some]
  refine thn (h pins s σ H _ I hw) fun u s1 ⟨x, H1, I1, r1, q1⟩ => ?_
  obtain ⟨i, rfl, q⟩ := q1
  obtain ⟨t, rfl⟩ := r1
  exact ⟨some i, H1, I1, .int i t, q⟩
def SlR (X : Cx) (r : V → Option Int → Option Int → Hp → VK → Prop) : Prop :=
  ∀ (pins : List (Addr × Obj)) (s : Shared) (σ : St) (H : Hp) (x : V) (v vl vu : Value) (lo hi : Option Int) (sl : Addr) (Q : VK), Inv X pins σ H s → RelV x v → s.heap.IsSliceOf sl vl vu .none → IsPart vl lo → IsPart vu hi → r x lo hi H Q →
    ∃ T id, typeLookup (.type T) "__getitem__" = pure (some (.builtin id)) ∧ s.TypeIs v T ∧ wpAny (model X.prog X.w) X.A (getItem v (.ref sl)) (EP X pins σ Q) X.xe s
def tSl (r : V → Option Int → Option Int → Hp → VK → Prop) (te : TE) (tl th : TO) : TE := fun σ H Q => te σ H fun x H1 => tl σ H1 fun l H2 => th σ H2 fun u H3 => r x l u H3 Q
theorem pe_slice {r : V → Option Int → Option Int → Hp → VK → Prop} (hr : SlR X r) (he : PE X e te) (hl : PO X lo tl) (hu : PO X hi th) : PE X (.Subscript e (.Slice lo hi none p2) pos) (tSl r te tl th) := by
  intro pins s σ H Q I h
  refine Subscript_ (thn (he pins s σ H _ I h) fun v s1 ⟨x, H1, I1, r1, q1⟩ => ?_)
  refine wpAny_Slice (thn (hl pins s1 σ H1 _ I1 q1) fun vl s2 ⟨l, H2, I2, pl, q2⟩ => thn (hu pins s2 σ H2 _ I2 q2) fun vu s3 ⟨u, H3, I3, pu, q3⟩ => ?_)
  rw [evalPart_none]
  refine wpAny_pure ?_
  have I4 : Inv X pins σ H3 { s3 with heap := s3.heap.push { cls := .type "slice", data := .fields #[vl, vu, .none] } } := I3.kept (t' := s3.toks) fun b ob q => Heap.get?_push_of_some _ q
  obtain ⟨T, id, hT, ht, hg⟩ := hr pins { s3 with heap := s3.heap.push { cls := .type "slice", data := .fields #[vl, vu, .none] } } σ H3 x v vl vu l u s3.heap.objs.size Q I4 r1 (Heap.IsSliceOf.new ..) pl pu q3
  show wpAny (model X.prog X.w) X.A (subscriptTail e (.Slice lo hi none p2) v (.ref s3.heap.objs.size)) (EP X pins σ Q) X.xe { s3 with heap := s3.heap.push { cls := .type "slice", data := .fields #[vl, vu, .none] } }
  exact tail_any (ops := [.ref s3.heap.objs.size, v]) ht hT hg (by with_unfolding_all rfl)
def cutV (xs : List V) (lo hi : Option Int) : List V := (xs.drop (HT.sIx xs.length 0 lo)).take (HT.sIx xs.length xs.length hi - HT.sIx xs.length 0 lo)
theorem cutV_length (xs : List V) (lo hi : Option Int) : (cutV xs lo hi).length ≤ xs.length := by
  unfold cutV
  rw [List.length_take, List.length_drop]
  omega
def rSlT (K : PySem.W.Frag) : V → Option Int → Option Int → Hp → VK → Prop := fun x lo hi H Q => ∃ a xs, x = .ref a ∧ SqT K H a xs ∧
  ¬ (HT.sIx xs.length 0 lo = 0 ∧ HT.sIx xs.length xs.length hi = xs.length) ∧ ∀ p, H p = none → Q (.ref p) (upd H p (.tup (cutV xs lo hi)))
theorem sl_tup : SlR X (rSlT X.K) := by
  intro pins s σ H x v vl vu lo hi sl Q I rx hs pl pu h
  obtain ⟨a, xs, rfl, hx, hw, q⟩ := h
  cases rx
  obtain ⟨its, r, ht, hz⟩ := I.tuple hx
  have hlen : its.toArray.size = xs.length := by rw [List.size_toArray]; exact r.length.symm
  refine ⟨"tuple", _, PyProof.Rows.slot_tuple_getitem.lookup, ht.typeIs, ?_⟩
  refine HT.getItem_tuple_cut ht hs pl pu (by rw [hlen]; exact hw) ?_ (by rw [hlen]; exact hz)
  rw [hlen]
  refine ⟨.ref s.heap.objs.size, _, I.laid (t' := s.toks) (o := .tup (cutV xs lo hi)) (fun b ob q => Heap.get?_push_of_some _ q) (Nat.le_refl _) ?_, rfl, q _ (I.hok.fresh (Nat.le_refl _))⟩
  exact ⟨Nat.le_trans (cutV_length xs lo hi) hz, _, (r.drop (HT.sIx xs.length 0 lo)).take (HT.sIx xs.length xs.length hi - HT.sIx xs.length 0 lo), IsTup.new _ _⟩
theorem Vals.nil_iff {xs : List V} {us : List Value} (r : Vals xs us) : us = [] ↔ xs = [] := by
  cases r with
  | nil => simp
  | cons _ _ => simp
end
end L2
namespace L2
open PySem PySem.Spec PyProof.Rows
def ixN (n : Nat) (i : Int) : Option Nat := if 0 ≤ i then (if i < n then some i.toNat else none) else if -(n : Int) ≤ i then some (i + n).toNat else none
def atI {α : Type} (xs : List α) (i : Int) : Option α := (ixN xs.length i).bind fun j => xs[j]?
theorem ixN_seq {n : Nat} {i : Int} {j : Nat} (h : ixN n i = some j) : seqIndex? i n = some j ∧ j < n ∧ -(n : Int) ≤ i ∧ i < n := by
  unfold ixN at h
  by_cases h0 : 0 ≤ i
  · rw [if_pos h0] at h
    by_cases h1 : i < n
    · rw [if_pos h1] at h
      have e : i.toNat = j := Option.some.inj h
      exact ⟨by rw [seqIndex_of h0 h1, e], by omega, by omega, h1⟩
    · rw [if_neg h1] at h; cases h
  · rw [if_neg h0] at h
    by_cases h1 : -(n : Int) ≤ i
    · rw [if_pos h1] at h
      have e : (i + n).toNat = j := Option.some.inj h
      exact ⟨by rw [seqIndex_neg (by omega) h1, e], by omega, h1, by omega⟩
    · rw [if_neg h1] at h; cases h
theorem atI_get {α : Type} {xs : List α} {i : Int} {v : α} (h : atI xs i = some v) : ∃ j, seqIndex? i xs.length = some j ∧ xs[j]? = some v ∧ j < xs.length ∧ -(xs.length : Int) ≤ i ∧ i < xs.length := by
  unfold atI at h
  cases e : ixN xs.length i with
  | none => rw [e] at h; cases h
  | some j =>
    rw [e] at h
    obtain ⟨h1, h2, h3, h4⟩ := ixN_seq e
    exact ⟨j, h1, h, h2, h3, h4⟩
theorem atI_nat {α : Type} {xs : List α} {j : Nat} {v : α} (h : xs[j]? = some v) : atI xs (j : Int) = some v := by
  have hj : j < xs.length := (List.getElem?_eq_some_iff.mp h).1
  have e : ixN xs.length (j : Int) = some j := by
    unfold ixN
    rw [if_pos (by omega), if_pos (by omega)]; simp
  unfold atI; rw [e]; exact h
def PlainIx (b : Expr) : Prop := ∀ o i, subscripted b false o i = operate [o, i] (getItem o i)
def IxR (X : Cx) (r : R2) : Prop :=
  ∀ (value slice : Expr) (pins : List (Addr × Obj)) (s : Shared) (σ : St) (H : Hp) (x y : V) (v u : Value) (Q : VK), Inv X pins σ H s → RelV x v → RelV y u → r x y H Q →
    subscripted slice false v u = operate [v, u] (getItem v u) → wpAny (model X.prog X.w) X.A (subscriptTail value slice v u) (EP X pins σ Q) X.xe s
def MtR (X : Cx) (id : String) (r : V → List V → Hp → VK → Prop) : Prop :=
  ∀ (pins : List (Addr × Obj)) (s : Shared) (σ : St) (H : Hp) (x : V) (xs : List V) (v : Value) (us : List Value) (Q : VK), Inv X pins σ H s → RelV x v → Vals xs us → r x xs H Q →
    wpAny (model X.prog X.w) X.A (call (.builtin id) (v :: us)) (EP X pins σ Q) X.xe s
section
variable {X : Cx} {a b : Expr} {ta tb : TE} {pos : Pos}
theorem pe_ix {r : R2} (hr : IxR X r) (ha : PE X a ta) (hb : PE X b tb) (hs : PlainIx b) : PE X (.Subscript a b pos) (tOp r ta tb) := by
  intro pins s σ H Q I h
  exact Subscript_ (binT ha hb I h fun v u s2 x y H2 I2 rx ry q => hr a b pins s2 σ H2 x y v u Q I2 rx ry q (hs _ _))
def rIxL (K : PySem.W.Frag) : R2 := fun x y H Q => ∃ p xs i v, x = .ref p ∧ y = .int i ∧ SqL K H p xs ∧ atI xs i = some v ∧ Q v H
def rIxT (K : PySem.W.Frag) : R2 := fun x y H Q => ∃ p xs i v, x = .ref p ∧ y = .int i ∧ SqT K H p xs ∧ atI xs i = some v ∧ Q v H
theorem ix_list : IxR X (rIxL X.K) := by
  intro value slice pins s σ H x y v u Q I rx ry h hs
  obtain ⟨p, xs, i, z, rfl, rfl, hq, he, q⟩ := h
  cases rx
  obtain ⟨t, rfl⟩ := ry
  obtain ⟨its, r, pl, hz⟩ := I.list hq
  obtain ⟨j, h1, h2, h3, h4, h5⟩ := atI_get he
  obtain ⟨w, ew, rw'⟩ := r.get h2
  have hl := r.length
  have hn := line63
  have fin : EP X pins σ Q w s := ⟨z, H, I, rw', q⟩
  by_cases h0 : 0 ≤ i
  · have hj : i.toNat = j := by
      rw [seqIndex_of h0 h5] at h1
      exact Option.some.inj h1
    exact item_listR pl.isList h0 (by omega) (by rw [hj]; simpa using ew) fin hs
  · have hj : (i + (its.toArray.size : Int)).toNat = j := by
      rw [seqIndex_neg (by omega) h4] at h1
      rw [List.size_toArray, ← hl]
      exact Option.some.inj h1
    exact subscriptTail_builtinR (x := w) pl.isList.typeIs slot_list_getitem.lookup
      (wpAny_getItem_list_neg (Q := fun r s' => r = w ∧ EP X pins σ Q r s') pl.isList (by omega) (by rw [List.size_toArray] <;> omega) (by omega) (by rw [hj]; simpa using ew) ⟨rfl, fin⟩) hs
theorem ix_tup : IxR X (rIxT X.K) := by
  intro value slice pins s σ H x y v u Q I rx ry h hs
  obtain ⟨p, xs, i, z, rfl, rfl, hq, he, q⟩ := h
  cases rx
  obtain ⟨t, rfl⟩ := ry
  obtain ⟨its, r, pl, hz⟩ := I.tuple hq
  obtain ⟨j, h1, h2, h3, h4, h5⟩ := atI_get he
  obtain ⟨w, ew, rw'⟩ := r.get h2
  have hl := r.length
  have hn := line63
  have fin : EP X pins σ Q w s := ⟨z, H, I, rw', q⟩
  exact subscriptTail_builtinR (x := w) pl.typeIs slot_tuple_getitem.lookup
    (getItem_tuple (j := j) (Q := fun r s' => r = w ∧ EP X pins σ Q r s') pl (by omega) (by omega) (by rw [List.size_toArray, ← hl]; exact h1) (by simpa using ew) ⟨rfl, fin⟩) hs
theorem mapSeq_set (its : List Value) (n j : Nat) (u : Value) : Obj.mapSeq (·.setIfInBounds j u) { cls := .type "list", data := .seq its.toArray n } = { cls := .type "list", data := .seq (its.set j u).toArray n } := by
  simp [Obj.mapSeq]
theorem Inv.lst {pins : List (Addr × Obj)} {σ : St} {H : Hp} {s : Shared} {p : Addr} {xs : List V} (I : Inv X pins σ H s) (h : H p = some (.lst xs)) :
    ∃ (its : List Value) (n : Nat), Vals xs its ∧ s.heap.get? p = some { cls := .type "list", data := .seq its.toArray n } ∧ xs.length ≤ sizeLine := by
  obtain ⟨z, its, n, r, e⟩ := I.hok p _ h
  exact ⟨its, n, r, e, z⟩
theorem Inv.lstUpd {pins : List (Addr × Obj)} {σ : St} {H : Hp} {s : Shared} {p : Addr} {xs ys : List V} {its its' : List Value} {n n' : Nat} {f : Obj → Obj} (I : Inv X pins σ H s) (h : H p = some (.lst xs))
    (ho : s.heap.get? p = some { cls := .type "list", data := .seq its.toArray n }) (hf : f { cls := .type "list", data := .seq its.toArray n } = { cls := .type "list", data := .seq its'.toArray n' }) (r : Vals ys its') (hz : ys.length ≤ sizeLine) (t : Nat) :
    Inv X pins σ (upd H p (.lst ys)) { s with heap := s.heap.update p f, toks := t } := by
  have e : (s.heap.update p f).get? p = some { cls := .type "list", data := .seq its'.toArray n' } := by
    rw [Heap.get?_update_self f ho (by rw [hf] <;> rfl), hf]
  refine I.write (x := p) (e := p) (by rw [h]; trivial) (.inl rfl) (fun b u hb q => (Heap.get?_update_other _ _ (Ne.symm hb)).trans q) ⟨_, e⟩ ?_
  exact ⟨hz, its', n', r, e⟩
def rSetL : V → V → V → Hp → (Hp → Prop) → Prop := fun o i v H Q => ∃ p xs k j, o = .ref p ∧ i = .int k ∧ H p = some (.lst xs) ∧ ixN xs.length k = some j ∧ Q (upd H p (.lst (xs.set j v)))
theorem set_list : PSet X rSetL := by
  intro pins s σ H o i v ov iv u Q I ro ri rv h
  obtain ⟨p, xs, k, j, rfl, rfl, hp, hj, q⟩ := h
  cases ro
  obtain ⟨t, rfl⟩ := ri
  obtain ⟨its, n, r, ho, hz⟩ := I.lst hp
  obtain ⟨h1, h2, h3, h4⟩ := ixN_seq hj
  have hl := r.length
  have hn := line63
  have I' : Inv X pins σ (upd H p (.lst (xs.set j v))) { s with heap := s.heap.update p (Obj.mapSeq (·.setIfInBounds j u)) } :=
    I.lstUpd hp ho (mapSeq_set its n j u) (r.set rv j) (by rw [List.length_set]; exact hz) s.toks
  by_cases h0 : 0 ≤ k
  · have hk : k.toNat = j := by
      rw [seqIndex_of h0 h4] at h1
      exact Option.some.inj h1
    exact PySem.W.ki_setAt ho h0 (by omega) (by rw [List.size_toArray, ← hl]; exact h4) (by rw [hk]; exact ⟨_, I', q⟩)
  · have hk : (k + (its.toArray.size : Int)).toNat = j := by
      rw [seqIndex_neg (by omega) h3] at h1
      rw [List.size_toArray, ← hl]
      exact Option.some.inj h1
    exact PySem.W.ki_setBack ho (by omega) (by rw [List.size_toArray, ← hl]; exact h3) (by omega) (by rw [hk]; exact ⟨_, I', q⟩)
theorem slice_bounds (lo hi : Option Int) (n : Nat) : (sliceBounds lo hi none n).1 = ((HT.sIx n 0 lo : Nat) : Int) ∧ (sliceBounds lo hi none n).2.1 = ((HT.sIx n n hi : Nat) : Int) ∧ (sliceBounds lo hi none n).2.2 = 1 := by
  refine ⟨?_, ?_, rfl⟩
  · cases lo with
    | none => simp [sliceBounds, HT.sIx]
    | some i =>
      simp only [sliceBounds, HT.sIx, Option.getD_none, show (1 : Int) > 0 by decide, if_true]
      by_cases h : i < 0
      · simp only [h, if_true] <;> omega
      · simp only [h, if_false] <;> omega
  · cases hi with
    | none => simp [sliceBounds, HT.sIx]
    | some i =>
      simp only [sliceBounds, HT.sIx, Option.getD_none, show (1 : Int) > 0 by decide, if_true]
      by_cases h : i < 0
      · simp only [h, if_true] <;> omega
      · simp only [h, if_false] <;> omega
theorem slicePick_cut (its : List Value) (lo hi : Option Int) : slicePick its.toArray lo hi none = ((its.drop (HT.sIx its.length 0 lo)).take (HT.sIx its.length its.length hi - HT.sIx its.length 0 lo)).toArray := by
  obtain ⟨h1, h2, h3⟩ := slice_bounds lo hi its.toArray.size
  unfold slicePick
  rw [h1, h2, h3]
  simp only [sliceRange_one, pick_run, List.size_toArray] <;> rfl
def rSlL (K : PySem.W.Frag) : V → Option Int → Option Int → Hp → VK → Prop := fun x lo hi H Q => ∃ a xs, x = .ref a ∧ SqL K H a xs ∧ ∀ p, H p = none → Q (.ref p) (upd H p (.lst (cutV xs lo hi)))
theorem sl_list : SlR X (rSlL X.K) := by
  intro pins s σ H x v vl vu lo hi sl Q I rx hs pl pu h
  obtain ⟨a, xs, rfl, hx, q⟩ := h
  cases rx
  obtain ⟨its, r, ht, hz⟩ := I.list hx
  have hlen := r.length
  refine ⟨"list", _, slot_list_getitem.lookup, ht.isList.typeIs, ?_⟩
  refine wpAny_getItem_list_slice ht.isList hs pl pu .none (by simp) ?_ (by rw [List.size_toArray] <;> omega)
  rw [slicePick_cut, ← hlen]
  refine ⟨.ref s.heap.objs.size, _, I.laid (t' := s.toks) (o := .lst (cutV xs lo hi)) (fun b ob q => Heap.get?_push_of_some _ q) (Nat.le_refl _) ?_, rfl, q _ (I.hok.fresh (Nat.le_refl _))⟩
  exact ⟨Nat.le_trans (cutV_length xs lo hi) hz, _, 0, (r.drop (HT.sIx xs.length 0 lo)).take (HT.sIx xs.length xs.length hi - HT.sIx xs.length 0 lo), Heap.get?_push_size _ rfl⟩
theorem call_len_seq : CallR X (.builtin "len") (fun xs H Q => ∃ p ys, xs = [.ref p] ∧ (SqL X.K H p ys ∨ SqT X.K H p ys) ∧ Q (.int ys.length) H) := by
  intro pins s σ H xs us Q I r h
  obtain ⟨p, ys, rfl, hq, q⟩ := h
  obtain ⟨u, rfl, rx⟩ := vals1 r
  cases rx
  have hn := line63
  rcases hq with hq | hq
  · obtain ⟨its, r', pl, hz⟩ := I.list hq
    have hlen := r'.length
    exact Calls.call_len_list pl.isList (by simp only [List.size_toArray] <;> omega) ⟨.int ys.length, H, I.tok _, ⟨s.toks + 1, by rw [List.size_toArray, hlen]⟩, q⟩
  · obtain ⟨its, r', pl, hz⟩ := I.tuple hq
    have hlen := r'.length
    exact len_tuple pl (by simp only [List.size_toArray] <;> omega) ⟨.int ys.length, H, I.tok _, ⟨s.toks + 1, by rw [List.size_toArray, hlen]⟩, q⟩
theorem call_list_of : CallR X (.type "list") (fun xs H Q => ∃ p ys, xs = [.ref p] ∧ (SqL X.K H p ys ∨ SqT X.K H p ys) ∧ ∀ l, H l = none → Q (.ref l) (upd H l (.lst ys))) := by
  intro pins s σ H xs us Q I r h
  obtain ⟨p, ys, rfl, hq, q⟩ := h
  obtain ⟨u, rfl, rx⟩ := vals1 r
  cases rx
  have fin : ∀ (its : List Value), Vals ys its → ys.length ≤ sizeLine → ∀ (h' : Heap) (c' : Nat), (∀ b o', s.heap.get? b = some o' → h'.get? b = some o') →
      h'.get? s.heap.objs.size = some { cls := .type "list", dict := none, data := .seq its.toArray c', slots := #[] } → EP X pins σ Q (.ref s.heap.objs.size) { s with heap := h' } := fun its r' hz h' c' kp e =>
    ⟨.ref s.heap.objs.size, _, I.laid (t' := s.toks) kp (Nat.le_refl _) (show ObjOk X.prog X.w _ h' _ (.lst ys) from ⟨hz, its, c', r', e⟩), rfl, q _ (I.hok.fresh (Nat.le_refl _))⟩
  rcases hq with hq | hq
  · obtain ⟨its, r', pl, hz⟩ := I.list hq
    have hlen := r'.length
    obtain ⟨o, ho, hc, n, hd⟩ := pl.isList
    exact call_list_seq p (.inl rfl) ho hc hd (fun h' c' kp e => fin its r' hz h' c' kp e) (by simp only [List.size_toArray] <;> omega)
  · obtain ⟨its, r', pl, hz⟩ := I.tuple hq
    have hlen := r'.length
    obtain ⟨o, ho, hc, n, hd⟩ := pl
    exact call_list_seq p (.inr rfl) ho hc hd (fun h' c' kp e => fin its r' hz h' c' kp e) (by simp only [List.size_toArray] <;> omega)
theorem call_tuple_of : CallR X (.type "tuple") (fun xs H Q => ∃ p ys, xs = [.ref p] ∧ ((SqL X.K H p ys ∧ ∀ l, H l = none → Q (.ref l) (upd H l (.tup ys))) ∨ (SqT X.K H p ys ∧ Q (.ref p) H))) := by
  intro pins s σ H xs us Q I r h
  obtain ⟨p, ys, rfl, h⟩ := h
  obtain ⟨u, rfl, rx⟩ := vals1 r
  cases rx
  rcases h with ⟨hq, q⟩ | ⟨hq, q⟩
  · obtain ⟨its, r', pl, hz⟩ := I.list hq
    have hlen := r'.length
    refine call_tuple_list pl.isList (fun h' kp => ?_) (by simp only [List.size_toArray] <;> omega)
    have I1 : Inv X pins σ H { s with heap := h' } := I.kept (t' := s.toks) kp
    have I2 : Inv X pins σ (upd H h'.objs.size (.tup ys)) { s with heap := h'.push { cls := .type "tuple", data := .seq its.toArray } } :=
      I1.laid (t' := s.toks) (fun b o e => Heap.get?_push_of_some _ e) (Nat.le_refl _) (show ObjOk X.prog X.w _ _ _ (.tup ys) from ⟨hz, its, r', IsTup.new _ _⟩)
    exact ⟨.ref h'.objs.size, _, I2, rfl, q _ (I1.hok.fresh (Nat.le_refl _))⟩
  · obtain ⟨its, r', pl, hz⟩ := I.tuple hq
    exact call_tuple_same pl ⟨.ref p, H, I, rfl, q⟩
def tyV (K : PySem.W.Frag) (T : String) (x : V) (H : Hp) : Prop := match x with
  | .str _ => T = "str"
  | .int _ => T = "int"
  | .ref p => (T = "list" ∧ ∃ xs, SqL K H p xs) ∨ (T = "tuple" ∧ ∃ o, K.lookup p = some o ∧ o.cls = .type "tuple" ∧ o.dict = none) ∨
      (T = "dict" ∧ ((∃ kvs, H p = some (.dK kvs)) ∨ ∃ kvs, H p = some (.dT kvs))) ∨ (T = "set" ∧ ∃ S n, H p = some (.set S n))
  | _ => False
theorem tyV_is {pins : List (Addr × Obj)} {σ : St} {H : Hp} {s : Shared} {T : String} {x : V} {v : Value} (I : Inv X pins σ H s) (r : RelV x v) (ty : tyV X.K T x H) :
    s.TypeIs v T ∧ ∀ a, v = .ref a → ∃ ob, s.heap.get? a = some ob ∧ ob.dict = none := by
  cases x with
  | str z =>
    obtain ⟨t, rfl⟩ := r
    cases (show T = "str" from ty)
    exact ⟨typeIs_str s z t, fun _ e => nomatch e⟩
  | int i =>
    obtain ⟨t, rfl⟩ := r
    cases (show T = "int" from ty)
    exact ⟨typeIs_int s i t, fun _ e => nomatch e⟩
  | ref p =>
    cases r
    rcases ty with ⟨rfl, xs, hq⟩ | ⟨rfl, o, hk, hc, hd⟩ | ⟨rfl, hk⟩ | ⟨rfl, S, n, hk⟩
    · obtain ⟨its, _, pl, _⟩ := I.list hq
      refine ⟨pl.isList.typeIs, fun a e => ?_⟩
      cases e
      obtain ⟨o, n, e, c, hd, _⟩ := pl
      exact ⟨o, e, hd⟩
    · refine ⟨⟨o, I.kIn p o hk, hc⟩, fun a e => ?_⟩
      cases e
      exact ⟨o, I.kIn _ o hk, hd⟩
    · have z : ∃ o, s.heap.get? p = some o ∧ o.ExactDict := by
        rcases hk with ⟨kvs, hk⟩ | ⟨kvs, hk⟩
        · obtain ⟨_, _, _, _, o, _, _, e, ex, _⟩ := I.hok p _ hk
          exact ⟨o, e, ex⟩
        · obtain ⟨_, _, _, _, o, _, _, e, ex, _⟩ := I.hok p _ hk
          exact ⟨o, e, ex⟩
      obtain ⟨o, e, ex⟩ := z
      refine ⟨⟨o, e, ex.1⟩, fun a e2 => ?_⟩
      cases e2
      exact ⟨o, e, ex.2.1⟩
    · obtain ⟨o, _, _, _, e, ex, _⟩ := I.hok p _ hk
      refine ⟨⟨o, e, ex.1⟩, fun a e2 => ?_⟩
      cases e2
      exact ⟨o, e, ex.2.1⟩
  | _ => exact False.elim ty
def tBM (K : PySem.W.Frag) (T : String) (r : V → List V → Hp → VK → Prop) (to : TE) (t : TA) : TE := fun σ H Q => to σ H fun x H1 => tyV K T x H1 ∧ t σ H1 fun xs H2 => r x xs H2 Q
variable {o e : Expr} {es : List Expr} {to : TE} {t : TA} {name : Str} {apos cpos : Pos} {T id : String} {r : V → List V → Hp → VK → Prop}
theorem pe_bm (pa : PlainAttrs T) (slot : Slot T name id) (hty : typeOf (.builtin id) = pure (.type "method_descriptor")) (hm : MtR X id r) (ho : PE X o to) (ha : PA X (e :: es) t)
    (hbase : attributeBase o name X.env (eval o X.env) = eval o X.env := by rfl)
    (hfew : ((backTo cpos (starEach (e :: es) X.env)).all (fun x => !x.1) && (backToKw cpos (keywordEach [] X.env)).all (fun x => x.1.isSome)
      && decide ((e :: es).length + ([] : List Keyword).length + (if ([] : List Keyword).isEmpty then 0 else 1) < 30)) = true := by rfl)
    (hline : (apos.endLine == cpos.line) = true := by rfl) (hs : starEach (e :: es) X.env = (false, eval e X.env) :: starEach es X.env := by rfl) (hplain : (backTo cpos (starEach es X.env)).any (·.1) = false := by rfl) :
    PE X (.Call (.Attribute o name apos) (e :: es) [] cpos) (tBM X.K T r to t) := by
  intro pins s σ H Q I h
  refine wpAny_Call_method_late hbase hfew hline rfl (thn (ho pins s σ H _ I h) fun v s1 ⟨x, H1, I1, r1, ty, q1⟩ => ?_)
  obtain ⟨h1, h2⟩ := tyV_is I1 r1 ty
  refine ⟨T, id, pa, slot, hty, h1, h2, ?_⟩
  have hA := ha cpos pins s1 σ H1 _ I1 q1
  rw [hs] at hA ⊢
  refine Calls.callWith_builtin (by show (false || (backTo cpos (starEach es X.env)).any (·.1)) = false; rw [hplain] <;> rfl) (Calls.evalArgs_plain ?_)
  exact thn hA fun us s2 ⟨vs, H2, I2, r2, q2⟩ => hm pins s2 σ H2 x vs v us Q I2 r1 r2 q2
end
end L2
namespace L2
open PySem PySem.Spec PyProof.Rows
def MtM (X : Cx) (id : String) (r : V → List V → Hp → VK → Prop) : Prop :=
  ∀ (pins : List (Addr × Obj)) (s : Shared) (σ : St) (H : Hp) (x : V) (xs : List V) (v : Value) (us : List Value) (Q : VK), Inv X pins σ H s → RelV x v → Vals xs us → r x xs H Q →
    wpAny (model X.prog X.w) X.A (call (.builtin id) (v :: us)) (EP X pins σ Q) X.xe s
theorem Vals.one : ∀ {x : V} {us : List Value}, Vals [x] us → ∃ u, us = [u] ∧ RelV x u
  | _, _, .cons r .nil => ⟨_, rfl, r⟩
theorem Vals.two : ∀ {x y : V} {us : List Value}, Vals [x, y] us → ∃ u v, us = [u, v] ∧ RelV x u ∧ RelV y v
  | _, _, _, .cons r (.cons q .nil) => ⟨_, _, rfl, r, q⟩
theorem Vals.reverse {xs : List V} {us : List Value} (h : Vals xs us) : Vals xs.reverse us.reverse := by
  induction h with
  | nil => exact .nil
  | cons r t ih => rw [List.reverse_cons, List.reverse_cons]; exact Vals.append ih (.cons r .nil)
section
variable {X : Cx} {pins : List (Addr × Obj)} {σ : St} {H : Hp} {s : Shared} {l b : Addr} {xs ys zs : List V}
theorem Inv.lset {its its' : List Value} {n : Nat} {f : Array Value → Array Value} {t' : Nat} (I : Inv X pins σ H s) (hH : H l = some (.lst xs))
    (e : s.heap.get? l = some { cls := .type "list", data := .seq its.toArray n }) (hf : f its.toArray = its'.toArray) (hv : Vals ys its') (hz : ys.length ≤ sizeLine) :
    Inv X pins σ (upd H l (.lst ys)) { s with heap := s.heap.update l (Obj.mapSeq f), toks := t' } := by
  have q := PySem.IsL.update e f
  rw [hf] at q
  refine I.write (x := l) (e := l) (by rw [hH]; exact trivial) (.inl rfl) (fun b' u hb hu => (Heap.get?_update_other s.heap (Obj.mapSeq f) (Ne.symm hb)).trans hu) ⟨_, q⟩ ?_
  exact ⟨hz, its', _, hv, q⟩
theorem Inv.lnew {its : List Value} {t' : Nat} (I : Inv X pins σ H s) (hv : Vals ys its) (hz : ys.length ≤ sizeLine) :
    Inv X pins σ (upd H s.heap.objs.size (.lst ys)) { s with heap := s.heap.push { cls := .type "list", data := .seq its.toArray }, toks := t' } :=
  I.laid (fun _ _ q => Heap.get?_push_of_some _ q) (Nat.le_refl _) ⟨hz, its, 0, hv, Heap.get?_push_size _ rfl⟩
theorem Inv.fresh (I : Inv X pins σ H s) : H s.heap.objs.size = none := I.hok.fresh (Nat.le_refl _)
theorem Inv.lstM (I : Inv X pins σ H s) (hH : H l = some (.lst xs)) : xs.length ≤ sizeLine ∧ ∃ (its : List Value) (n : Nat), Vals xs its ∧ xs.length = its.length ∧ s.heap.get? l = some { cls := .type "list", data := .seq its.toArray n } := by
  obtain ⟨z, its, n, r, e⟩ := I.hok l _ hH
  exact ⟨z, its, n, r, r.length, e⟩
end
section
variable {X : Cx}
def rAppend : V → List V → Hp → VK → Prop := fun x vs H Q => ∃ l xs y, x = .ref l ∧ vs = [y] ∧ H l = some (.lst xs) ∧ xs.length < sizeLine ∧ Q .non (upd H l (.lst (xs ++ [y])))
theorem mt_append : MtM X "list.append" rAppend := by
  intro pins s σ H x vs v us Q I rx rv h
  obtain ⟨l, xs, y, rfl, rfl, hH, hz, q⟩ := h
  cases rx
  obtain ⟨u, rfl, ru⟩ := rv.one
  obtain ⟨z, its, n, r, hl, e⟩ := I.lstM hH
  refine call_meets F.slot_list_append ⟨_, e, rfl⟩ F.entry_list_append (F.args_list_append_2 _ _) (PySem.list_append l its.toArray n u (by rw [List.size_toArray]; omega)) ⟨e, ?_⟩
  refine ⟨.non, _, I.lset (its' := its ++ [u]) hH e (by simp) (r.append (.cons ru .nil)) ?_, rfl, q⟩
  rw [List.length_append, List.length_singleton]
  omega
def rCat : R2 := fun x y H Q => ∃ l b xs zs, x = .ref l ∧ y = .ref b ∧ H l = some (.lst xs) ∧ H b = some (.lst zs) ∧ xs.length + zs.length ≤ sizeLine ∧ ∀ p, H p = none → Q (.ref p) (upd H p (.lst (xs ++ zs)))
theorem op_cat : OpR X (binaryOp .Add) rCat := by
  intro pins s σ H x y v u Q I rx ry h
  obtain ⟨l, b, xs, zs, rfl, rfl, hH, hB, hz, q⟩ := h
  cases rx
  cases ry
  obtain ⟨z, its, n, r, hl, e⟩ := I.lstM hH
  obtain ⟨z2, its2, n2, r2, hl2, e2⟩ := I.lstM hB
  refine PySem.P.add_list e e2 ?_ (by rw [List.size_toArray, List.size_toArray]; omega)
  have ea : its.toArray ++ its2.toArray = (its ++ its2).toArray := by simp
  rw [ea]
  exact ⟨.ref _, _, I.lnew (t' := s.toks) (r.append r2) (by rw [List.length_append]; omega), rfl, q _ I.fresh⟩
end
section
variable {prog : Program} {w : World} {A : Around} {E : Value → Shared → Prop} {s : Shared}
end
section
variable {X : Cx}
end
end L2
namespace Att
open PySem PySem.W PySem.Calls PyProof.Rows
theorem ints_of_wellAll {P : Params} {h : Heap} : ∀ (ns : List Int) (vs : List Value), WellAll P h vs (ns.map WData.int) → IntsAre vs ns := by
  intro ns
  induction ns with
  | nil =>
    intro vs w
    rw [List.map_nil] at w
    cases w
    exact .nil
  | cons n ns ih =>
    intro vs w
    rw [List.map_cons] at w
    cases w with
    | cons a b =>
      cases a
      exact .cons _ _ (ih _ b)
theorem script_of {l : OpenLaw} {n : Nat} (hn : l.most = some n) {P : Params} {h : Heap} {args : List WData} {vals : List Value}
    (hpre : l.row.toRowW.claim.pre args = true) (hwl : WellAll P h vals args) :
    ∃ a vs ns, vals = [Value.ref a] ∧ args = [WData.list (ns.map WData.int)] ∧ h.get? a = some { cls := .type "list", data := .seq vs.toArray } ∧ IntsAre vs ns ∧ ns.length ≤ n := by
  have hsh : WShape.hasAll [] args [.list .int] = true := (pre_splitW hpre).1
  have hc : l.pre.holds [] { args := args } = true := (pre_splitW hpre).2
  obtain ⟨d, r, rfl, h1, h2⟩ := hasAllW_cons hsh
  obtain rfl := hasAllW_nil h2
  obtain ⟨xs, rfl, h3⟩ := hasW_list h1
  obtain ⟨ns, rfl⟩ := items_int h3
  have hlen : ns.length ≤ n := by
    unfold OpenLaw.pre at hc
    have h4 : (WTm.not (.lt (.lit (.int (n : Int))) (.len (.arg 0)))).holds [] { args := [.list (ns.map .int)] } = true := by
      have h4 := (holds_andW hc).1
      rw [hn] at h4
      exact h4
    have h5 := condW_of h4 (w_not (w_lt w_lit (w_len_list (w_arg rfl))))
    rw [List.length_map] at h5
    refine Nat.le_of_not_lt fun q => ?_
    have q' : (n : Int) < ((ns.length : Nat) : Int) := by omega
    first
      | (rw [decide_eq_true q'] at h5; exact absurd h5 (by decide))
      | (simp at h5; omega)
  cases hwl with
  | cons w1 w2 =>
    cases w2
    cases w1 with
    | list ho hall => exact ⟨_, _, ns, rfl, rfl, ho, ints_of_wellAll ns _ hall, hlen⟩
theorem post_true (l : OpenLaw) (args : List WData) : l.row.toRowW.claim.post args (.bool true) args = true :=
  postW_of (r := l.row.toRowW) (X := (true == true))
    (show WShape.has [] (.bool true) .bool = true by first | rfl | decide | simp [WShape.has, WShape.arms, WShape.armsAll])
    (show (WTm.eq .res (.lit (.bool true))).value [] { args := args, res := some (.bool true), after := args } = some (.bool (true == true)) from w_eq_bool (w_res rfl) w_lit) rfl
theorem attach_call {l : OpenLaw} {n : Nat} {q : Program} {loose : List Str} {XP : (Str → Option Value) → Heap → Prop} {YP : World → Heap → Prop} {d : DefRec}
    (hn : l.most = some n) (hdf : d.params.defaults = [])
    (call : ∀ (w : World) (s₀ s₁ : Shared) (mg mb : Str → Option Value) (fa : Addr) (o : Obj) (pm cd doc : Value) (a : Addr) (vs : List Value) (ns : List Int),
      Ground q loose [] XP w s₀ mg mb s₁.heap → YP w s₁.heap →
      s₁.heap.get? fa = some o → o.data = .func (docDef d.name d.params d.body d.scope pm cd doc) → s₁.heap.CodeRec cd d.name → mg d.name = some (.ref fa) →
      s₁.heap.get? a = some { cls := .type "list", data := .seq vs.toArray } → IntsAre vs ns → ns.length ≤ n → s₁.gens = #[] →
      codeAny (model l.prog w) callerA (.call (.ref fa) ⟨[.ref a], []⟩) (fun r s' => r = .ok (.ret (.bool true)) ∧ OldK s₁.heap s'.heap ∧ s'.os = s₁.os ∧ AllBare s'.gens) s₁) :
    WalkO q loose XP YP l.row.toRowW d [] (fun f vs => PySem.call f vs) := by
  intro w s₀ s₁ mg mb G Y fa o pm cd doc dV kV ho hd hcd hD hmg hg args vals as hpre hlay hrd hwl hlo
  obtain rfl : dV = .none := Dflts.none hD hdf
  obtain rfl : kV = .none := Dflts.noKw hD
  obtain ⟨a, vs, ns, rfl, rfl, hobj, hints, hlen⟩ := script_of hn hpre hwl
  refine enter_call (codeAny_mono (call w s₀ s₁ mg mb fa o pm cd doc a vs ns G Y ho (fd_plain hd) hcd hmg hobj hints hlen hg) fun r s' hq => ?_)
  obtain ⟨rfl, h2, h3, h4⟩ := hq
  exact ⟨.inl ⟨.bool true, .bool true, [], rfl, fun _ => rfl, .bool true, post_true l _, fun _ => ⟨List.Pairwise.nil, fun _ hm => (nomatch hm)⟩⟩, h2, h3, h4⟩
section
variable {prog : Program} {w : World} {A : Around} {E : Value → Shared → Prop} {s : Shared} {K : Frag}
end
end Att
namespace L2
open PySem PySem.Spec PyProof.Rows
theorem vals_ints : ∀ {vs : List Value} {ns : List Int}, IntsAre vs ns → Vals (ns.map V.int) vs
  | _, _, .nil => .nil
  | _, _, .cons n t h => .cons ⟨t, rfl⟩ (vals_ints h)
def Only (H : Hp) : Prop := ∀ b, H b = none ∨ ∃ o xs, H b = some (.frz o (.lst xs))
theorem law_call {P : Program} {w : World} {K : PySem.W.Frag} {mg mb : Str → Option Value} {CX : CXT} {k : Nat} {fa a : Addr} {fd : FuncData} {x : Str} {sp : Sp} {s₁ : Shared} {vs : List Value} {ns : List Int}
    (KX : K.In s₁.heap) (hns : s₁.heap.Ns mainGlobals mg) (hb : s₁.heap.Ns builtinsNs mb) (hbb : ∀ x : Str, x ≠ "__name__" → mb x = bootBuiltins x) (hlim : s₁.heap.NoLimit) (hg : s₁.gens = #[])
    (ha : s₁.heap.get? a = some { cls := .type "list", data := .seq vs.toArray }) (hi : IntsAre vs ns) (hl : ns.length ≤ sizeLine) (hr : Room k callerA)
    (F : ∀ base : Heap, K.In base → base.Ns mainGlobals mg → FnOk P w K mg base CX k fa fd [x] sp) (hbind : ∀ (s : Shared) (u : Value), BindsTo s fd ⟨[u], []⟩ [(x, u)])
    (hsp : ∀ H : Hp, Only H → SqL K H a (ns.map V.int) → sp [.ref a] H (fun v _ => v = .bl true) fun _ _ _ => False)
    (hCX : ∀ H e s', CX [] H s₁ (fun _ _ _ => False) e s' → False) :
    codeAny (model P w) callerA (.call (.ref fa) ⟨[.ref a], []⟩) (fun r s' => r = .ok (.ret (.bool true)) ∧ OldK s₁.heap s'.heap ∧ s'.os = s₁.os ∧ AllBare s'.gens) s₁ := by
  have rv := vals_ints hi
  have lenV := hi.length
  have core : ∀ H : Hp, Only H → SqL K H a (ns.map V.int) → HOk P w H s₁.heap → (∀ b, H b ≠ none → b = a) → (H a ≠ none → K.lookup a = none) →
      codeAny (model P w) callerA (.call (.ref fa) ⟨[.ref a], []⟩) (fun r s' => r = .ok (.ret (.bool true)) ∧ OldK s₁.heap s'.heap ∧ s'.os = s₁.os ∧ AllBare s'.gens) s₁ := by
    intro H hO hS hok hA hK
    have base_of : ∀ {b : Addr} {o : Obj}, s₁.heap.get? b = some o → H b = none → (hidT s₁.heap H).get? b = some o := fun e n => hidT_get e n
    have noA : ∀ {b : Addr} {o : Obj} {es : Array DictEntry} {ep : Nat}, s₁.heap.get? b = some o → o.data = .dict es ep → H b = none := fun {b o es ep} e d => by
      cases q : H b with
      | none => rfl
      | some u =>
        have e' : b = a := hA b (by rw [q]; simp)
        subst e'
        rw [ha] at e; cases e
        have d' : Data.seq vs.toArray _ = Data.dict es ep := d
        cases d'
    have nsK : ∀ {b : Addr} {m : Str → Option Value}, s₁.heap.Ns b m → (hidT s₁.heap H).Ns b m := fun {b m} ⟨o, es, ep, e, d, r⟩ => ⟨o, es, ep, base_of e (noA e d), d, r⟩
    have hKb : K.In (hidT s₁.heap H) := fun b o e => base_of (KX b o e) (by
      cases q : H b with
      | none => rfl
      | some u =>
        have e' : b = a := hA b (by rw [q]; simp)
        subst e'
        rw [hK (by rw [q]; simp)] at e; cases e)
    have hM : Mod K mg (hidT s₁.heap H) := ⟨hKb, nsK hns, ⟨mb, nsK hb, hbb⟩, let ⟨mc, h1, h2⟩ := hlim; ⟨mc, nsK h1, h2⟩⟩
    have e0 : Env0 P w K mg (hidT s₁.heap H) callerA [] s₁ H := ⟨rfl, hM, fun b o e => of_hidT e, Nat.le_of_eq (hidT_size _ _), trivial, fun b hb => absurd (show b ∈ ([] : List Addr) from hb) (by simp), hok, .of_eq hg⟩
    refine codeAny_mono ((F _ hKb (nsK hns)).run callerA [] s₁ H ⟨[.ref a], []⟩ [.ref a] [.ref a] _ _ hr e0 (hbind s₁ (.ref a)) (.cons rfl .nil) (hsp H hO hS)) fun r s' h => ?_
    cases r with
    | error e => exact (hCX H e s' h).elim
    | ok fl =>
      cases fl with
      | next => exact False.elim h
      | brk => exact False.elim h
      | cont => exact False.elim h
      | ret u =>
        obtain ⟨v, H', os, bare, un, hok', r', q⟩ := h
        have q' : v = .bl true := q
        subst q'
        obtain rfl : u = Value.bool true := r'
        refine ⟨rfl, OldK.of_keep fun b o e => ?_, os, bare⟩
        cases q : H b with
        | none => exact un.keep b o e q (by intro z; exact absurd (show b ∈ ([] : List Addr) from z) (by simp)) (by simp)
        | some u =>
          rcases hO b with z | ⟨ob, xs, z⟩
          · rw [q] at z; cases z
          · have z2 := un.frzs b ob _ z
            obtain ⟨e1, _⟩ := hok b _ z
            obtain ⟨e2, _⟩ := hok' b _ z2
            rw [e] at e1; cases e1
            exact e2
  cases hk : K.lookup a with
  | some o =>
    have e := KX a o hk
    rw [ha] at e
    cases e
    refine core (fun _ => none) (fun _ => .inl rfl) (.inr ⟨_, vs.toArray, _, hk, rfl, rfl, rfl, by rw [List.size_toArray, lenV]; exact hl, by simpa using rv⟩) (fun b u z => by have z' : (none : Option HO) = some u := z; cases z') (fun b z => absurd rfl z) fun z => absurd rfl z
  | none =>
    refine core (fun b => if b = a then some (.frz { cls := .type "list", data := .seq vs.toArray } (.lst (ns.map V.int))) else none) (fun b => ?_) (.inl (.inr ⟨{ cls := .type "list", data := .seq vs.toArray }, if_pos rfl⟩)) (fun b u z => ?_) (fun b z => ?_) fun _ => hk
    · by_cases hb : b = a
      · exact .inr ⟨_, _, if_pos hb⟩
      · exact .inl (if_neg hb)
    · by_cases hb : b = a
      · have z' := (if_pos hb).symm.trans z
        cases z'
        subst hb
        exact ⟨ha, by rw [List.length_map]; exact hl, vs, _, rv, ha⟩
      · have z' := (if_neg hb).symm.trans z
        cases z'
    · by_cases hb : b = a
      · exact hb
      · exact absurd (if_neg hb) z
end L2
namespace L2
open PySem PySem.Spec PyProof.Rows
theorem walk_of {l : PySem.W.OpenLaw} {n k : Nat} {q : Program} {loose : List Str} {XP : (Str → Option Value) → Heap → Prop} {YP : World → Heap → Prop} {d : DefRec} {K : Params → PySem.W.Frag} {CX : World → CXT} {sp : World → Sp} {x : Str}
    (hn : l.most = some n) (hn2 : n ≤ sizeLine) (hdf : d.params.defaults = []) (hr : Room k callerA)
    (hY : ∀ (w : World) (h : Heap), YP w h → (K w.params).In h)
    (F : ∀ (w : World) (mg : Str → Option Value) (fa : Addr) (h : Heap), (K w.params).In h → h.Ns mainGlobals mg → mg d.name = some (.ref fa) →
      ∃ fd : FuncData, (∀ (s : Shared) (u : Value), BindsTo s fd ⟨[u], []⟩ [(x, u)]) ∧
        ∀ base : Heap, (K w.params).In base → base.Ns mainGlobals mg → FnOk l.prog w (K w.params) mg base (CX w) k fa fd [x] (sp w))
    (hsp : ∀ (w : World) (H : Hp) (a : Addr) (ns : List Int), ns.length ≤ n → Only H → SqL (K w.params) H a (ns.map V.int) → sp w [.ref a] H (fun v _ => v = .bl true) fun _ _ _ => False)
    (hCX : ∀ (w : World) (H : Hp) (s : Shared) (e : Value) (s' : Shared), CX w [] H s (fun _ _ _ => False) e s' → False) :
    PySem.W.WalkO q loose XP YP l.row.toRowW d [] (fun f vs => PySem.call f vs) := by
  refine Att.attach_call hn hdf fun w s₀ s₁ mg mb fa o pm cd doc a vs ns G Y ho hd hcd hmg hobj hints hlen hg => ?_
  have KX := hY w _ Y
  obtain ⟨fd, hb, hF⟩ := F w mg fa _ KX G.T.g hmg
  exact law_call KX G.T.g G.T.b G.T.builtins G.T.nolimit hg hobj hints (Nat.le_trans hlen hn2) hr hF hb (fun H hO hS => hsp w H a ns hlen hO hS) fun H e s' => hCX w H s₁ e s'
end L2
namespace L2
open PySem PySem.Spec PyProof.Rows
def defArgs (s : Stmt) : Arguments := match s with
  | .FunctionDef _ a _ _ _ _ _ _ _ _ => a
  | _ => { posonlyargs := [], args := [], vararg := none, kwonlyargs := [], kw_defaults := [], kwarg := none, defaults := [] }
def defBody (s : Stmt) : List Stmt := match s with
  | .FunctionDef _ _ b _ _ _ _ _ _ _ => b
  | _ => []
def defScope (s : Stmt) : Scope := match s with
  | .FunctionDef _ _ _ _ _ _ sc _ _ _ => sc
  | _ => { kind := .function, names := [], isGenerator := false, isCoroutine := false }
abbrev CX0 : CXT := fun _ _ _ _ _ _ => False
abbrev E0 : XK := fun _ _ _ => False
theorem pass0 {X : Cx} : Passes CX0 X E0 := fun _ _ _ _ _ _ _ h => h.elim
structure Fun (K : PySem.W.Frag) (x qual : Str) (st : Stmt) (f : Addr) (fd : FuncData) : Prop where
  ex : ∃ (oc : Value) (od : Option Addr) (kV doc pm : Value) (an : Option Addr) (cdv ct : Value) (osl : Array (Option Value)),
    fd = PySem.W.fnOf x qual (defArgs st) (defBody st) (defScope st) .none kV doc pm an cdv ct ∧ K.lookup f = some ⟨oc, od, .func fd, osl⟩ ∧ PySem.W.codeIn K cdv qual = true
  kp : PySem.W.keepIn K (.ref f) = true
section
variable {P : Program} {w : World} {K : PySem.W.Frag} {mg : Str → Option Value} {base : Heap}
theorem Fun.ok {x qual : Str} {st : Stmt} {f : Addr} {fd : FuncData} {N ps : List Str} {k : Nat} {sp : Sp} (F : Fun K x qual st f fd) (S : FnScope N ps (defScope st)) (len : ∀ vs H Q E, sp vs H Q E → vs.length = ps.length)
    (hbody : ∀ (cdv : Value) (A : Around) (outer : List Env) (s : Shared) (H : Hp) (vs : List V) (Q : VK) (E : XK), Room k (A.deeper (envOfC qual (defScope st) s.heap.objs.size f cdv)) → sp vs H Q E →
      ∃ t, PSs (cxOf CX0 P w K mg base N qual (defScope st) f cdv A outer s H E).nox (defBody st) t ∧ t { nx := fun _ H' => Q .non H', rt := Q } (start N vs) H) : FnOk P w K mg base CX0 (k + 1) f fd ps sp := by
  obtain ⟨oc, od, kV, doc, pm, an, cdv, ct, osl, rfl, lk, hcd⟩ := F.ex
  refine fn_of lk hcd S len fun A outer s H vs Q E hr hsp => ?_
  obtain ⟨t, h, q⟩ := hbody cdv A outer s H vs Q E hr hsp
  exact ⟨t, h.nox, q⟩
theorem Fun.binds {x qual : Str} {st : Stmt} {f : Addr} {fd : FuncData} {ps : List Str} (F : Fun K x qual st f fd)
    (h : ∀ (kV doc pm : Value) (an : Option Addr) (cdv ct : Value) (us : List Value), us.length = ps.length → bindArgs (PySem.W.fnOf x qual (defArgs st) (defBody st) (defScope st) .none kV doc pm an cdv ct) ⟨us, []⟩ = pure (ps.zip us)) : Binds K fd ps [] := by
  obtain ⟨oc, od, kV, doc, pm, an, cdv, ct, osl, rfl, lk, hcd⟩ := F.ex
  exact .all (h kV doc pm an cdv ct)
theorem fun_mk {x qual : Str} {st : Stmt} {f : Addr} {oc : Value} {od an : Option Addr} {osl : Array (Option Value)} {kV doc pm cdv ct : Value} (l : K.lookup f = some ⟨oc, od, .func (PySem.W.fnOf x qual (defArgs st) (defBody st) (defScope st) .none kV doc pm an cdv ct), osl⟩)
    (c : PySem.W.codeIn K cdv qual = true) (k : PySem.W.keepIn K (.ref f) = true) : Fun K x qual st f (PySem.W.fnOf x qual (defArgs st) (defBody st) (defScope st) .none kV doc pm an cdv ct) := ⟨⟨oc, od, kV, doc, pm, an, cdv, ct, osl, rfl, l, c⟩, k⟩
end
section
variable {X : Cx}
theorem pv (i : Nat) {x : Str} {pos : Pos} (hN : X.N[i]? = some x := by rfl) (hv : Vis X.env.scope x := by first | exact Or.inl rfl | exact Or.inr (Or.inl rfl) | exact Or.inr (Or.inr rfl)) (hd : (x == ("__debug__" : Str)) = false := by decide)
    (hcd : (x == ("__classdict__" : Str)) = false := by decide) : PE X (.Name x pos) (tVar i) := pe_var hN hv hd hcd
end
theorem iteF {A B : Prop} (h : B) : if false = true then A else B := by
  rw [if_neg Bool.false_ne_true]
  exact h
theorem iteT {A B : Prop} (h : A) : if true = true then A else B := by
  rw [if_pos rfl]
  exact h
theorem ite2 {c A B : Prop} [Decidable c] (h1 : c → A) (h2 : ¬ c → B) : if c then A else B := by
  by_cases h : c
  · rw [if_pos h]
    exact h1 h
  · rw [if_neg h]
    exact h2 h
def Same (H H' : Hp) : Prop := ∀ b o, H b = some o → H' b = some o
theorem Same.refl (H : Hp) : Same H H := fun _ _ h => h
theorem Same.trans {H H1 H2 : Hp} (a : Same H H1) (b : Same H1 H2) : Same H H2 := fun c o h => b c o (a c o h)
theorem Same.free {H H' : Hp} (e : Same H H') {l : Addr} (h : H' l = Option.none) : H l = Option.none := by
  cases q : H l with
  | none => rfl
  | some o =>
    rw [e l o q] at h
    cases h
theorem Same.seq {K : PySem.W.Frag} {H H' : Hp} {a : Addr} {xs : List V} (e : Same H H') (h : SqL K H a xs) : SqL K H' a xs := by
  rcases h with (h | ⟨o, h⟩) | h
  · exact .inl (.inl (e _ _ h))
  · exact .inl (.inr ⟨o, e _ _ h⟩)
  · exact .inr h
end L2
set_option Elab.async false
namespace FM
def gi (a b : Int) : Int := (Int.gcd a b : Int)
theorem gcd_step (a b : Int) : Int.gcd b (a.fmod b) = Int.gcd a b := by
  have e : a.fmod b = a - b * a.fdiv b := Int.fmod_def a b
  rw [e, Int.gcd_comm a b]
  exact Int.gcd_sub_mul_left_right b a (a.fdiv b)
theorem fmod_less (a b : Int) (hb : b ≠ 0) : (a.fmod b).natAbs < b.natAbs := by
  rcases Int.lt_or_gt_of_ne hb with h | h
  · have h1 : -(a.fmod b) = (-a).fmod (-b) := by
      rw [Int.fmod_def, Int.fmod_def, Int.neg_fdiv_neg]
      have : -b * a.fdiv b = -(b * a.fdiv b) := Int.neg_mul _ _
      omega
    have h2 := Int.fmod_nonneg_of_pos (-a) (show 0 < -b by omega)
    have h3 := Int.fmod_lt_of_pos (-a) (show 0 < -b by omega)
    omega
  · have h2 := Int.fmod_nonneg_of_pos a h
    have h3 := Int.fmod_lt_of_pos a h
    omega
theorem gi_pos {a b : Int} (hb : b ≠ 0) : 0 < gi a b := by
  have : 0 < Int.gcd a b := Int.gcd_pos_of_ne_zero_right a hb
  unfold gi; omega
theorem gi_le {a b : Int} (hb : b ≠ 0) : (gi a b).natAbs ≤ b.natAbs := by
  have h : Int.gcd a b ∣ b.natAbs := by
    have := Int.gcd_dvd_right a b
    exact Int.natAbs_dvd_natAbs.mpr this
  have h2 : 0 < b.natAbs := by omega
  have := Nat.le_of_dvd h2 h
  unfold gi; omega
def gs (t b : Int) : Int := if b < 0 then -gi t b else gi t b
theorem gs_ne {t b : Int} (hb : b ≠ 0) : gs t b ≠ 0 := by
  have := gi_pos (a := t) hb
  unfold gs; split <;> omega
theorem gs_le {t b : Int} (hb : b ≠ 0) : (gs t b).natAbs ≤ b.natAbs := by
  have := gi_le (a := t) hb
  unfold gs; split <;> omega
theorem fdiv_exact {g x k : Int} (hg : g ≠ 0) (e : x = g * k) : x.fdiv g = k := by
  subst e
  exact Int.mul_fdiv_cancel_left k hg
theorem gi_dvd_left (a b : Int) : gi a b ∣ a := Int.gcd_dvd_left a b
theorem gi_dvd_right (a b : Int) : gi a b ∣ b := Int.gcd_dvd_right a b
theorem num_eq {t b : Int} (hb : b ≠ 0) : t.fdiv (gs t b) = (Rat.divInt t b).num := by
  have hp := gi_pos (a := t) hb
  obtain ⟨k, hk⟩ := gi_dvd_left t b
  rw [Rat.num_divInt, Int.gcd_comm b t]
  show t.fdiv (gs t b) = b.sign * t / gi t b
  unfold gs
  generalize gi t b = g at hp hk ⊢
  rcases Int.lt_or_gt_of_ne hb with h | h
  · rw [if_pos h, Int.sign_eq_neg_one_of_neg h, fdiv_exact (k := -k) (by omega) (by rw [hk]; simp [Int.mul_neg, Int.neg_mul])]
    have : -1 * t = g * (-k) := by rw [hk]; simp [Int.mul_neg]
    rw [this, Int.mul_ediv_cancel_left _ (by omega)]
  · rw [if_neg (by omega), Int.sign_eq_one_of_pos h, fdiv_exact (k := k) (by omega) hk, Int.one_mul, hk, Int.mul_ediv_cancel_left _ (by omega)]
theorem den_eq {t b : Int} (hb : b ≠ 0) : b.fdiv (gs t b) = ((Rat.divInt t b).den : Int) := by
  have hp := gi_pos (a := t) hb
  obtain ⟨k, hk⟩ := gi_dvd_right t b
  rw [Rat.den_divInt, if_neg hb, Int.gcd_comm b t]
  have e : (((b.natAbs / Int.gcd t b : Nat)) : Int) = (b.natAbs : Int) / gi t b := by unfold gi; simp
  rw [e]
  unfold gs
  generalize gi t b = g at hp hk ⊢
  rcases Int.lt_or_gt_of_ne hb with h | h
  · rw [if_pos h, fdiv_exact (k := -k) (by omega) (by rw [Int.neg_mul_neg]; exact hk)]
    have : (b.natAbs : Int) = g * (-k) := by rw [Int.mul_neg, ← hk]; omega
    rw [this, Int.mul_ediv_cancel_left _ (by omega)]
  · rw [if_neg (by omega), fdiv_exact (k := k) (by omega) hk]
    have : (b.natAbs : Int) = g * k := by rw [← hk]; omega
    rw [this, Int.mul_ediv_cancel_left _ (by omega)]
end FM
namespace FM
theorem gcd_abs (a b : Int) : Int.gcd (if a < 0 then -a else a) (if b < 0 then -b else b) = Int.gcd a b := by
  split <;> split <;> simp [Int.gcd_neg, Int.neg_gcd]
theorem abs_nonneg (a : Int) : 0 ≤ (if a < 0 then -a else a) := by split <;> omega
theorem gi_end {g a b : Int} (h : Int.gcd g 0 = Int.gcd a b) (h0 : 0 ≤ g) : g = gi a b := by
  unfold gi
  rw [← h, Int.gcd_zero_right]
  omega
theorem gi_end' {g a b : Int} (h : Int.gcd g 0 = Int.gcd a b) : (if g < 0 then -g else g) = gi a b := by
  unfold gi
  rw [← h, Int.gcd_zero_right]
  split <;> omega
theorem fmod_nonneg {g l : Int} (hl : l ≠ 0) (h : 0 ≤ l) : 0 ≤ g.fmod l := Int.fmod_nonneg_of_pos g (by omega)
end FM
set_option Elab.async false
set_option linter.all false
set_option maxRecDepth 100000
namespace L2
open PySem PySem.Spec PyProof.Rows
section
variable {X : Cx}
def CMulW (i j : Int) : Prop := ∃ m : Nat, m ≤ 1000000 ∧ i.natAbs < 2 ^ m ∧ j.natAbs < 2 ^ m
theorem CMulW.ok {i j : Int} (h : CMulW i j) : IntMulOk i j := by
  obtain ⟨m, hm, h1, h2⟩ := h
  exact IntMulOk.of_le (intBits_le_iff.mpr h1) (intBits_le_iff.mpr h2) (by omega)
theorem op_mulW : OpR X (binaryOp .Mult) (rI (fun i j => CMul i j ∨ CMulW i j) fun i j => .int (i * j)) :=
  opI fun _ _ _ _ _ _ _ hc q => mul_int q (hc.elim (fun z => z.ok) fun z => z.ok)
def CDivW (_i j : Int) : Prop := j ≠ 0 ∧ ∃ m : Nat, m ≤ 9000 ∧ j.natAbs < 2 ^ m
theorem op_fdivW : OpR X (binaryOp .FloorDiv) (rI CDivW fun i j => .int (i.fdiv j)) := opI fun i j _ _ _ _ _ hc q => by
  obtain ⟨h0, m, hm, h1⟩ := hc
  refine floordiv_int h0 q (.inl (PyProof.noPylong_of_log2 ?_))
  have hne : j.natAbs ≠ 0 := by omega
  have : j.natAbs.log2 < m := (Nat.log2_lt hne).mpr h1
  omega
mutual
def Br (K : PySem.W.Frag) (H : Hp) : PyData → V → Prop
  | .none, v => v = .non
  | .bool b, v => v = .bl b
  | .int i, v => v = .int i
  | .str x, v => v = .str x
  | .tuple ds, v => ∃ a xs, v = .ref a ∧ SqT K H a xs ∧ BrAll K H ds xs
  | .list ds, v => ∃ a xs, v = .ref a ∧ SqL K H a xs ∧ BrAll K H ds xs
  | .dict _, _ => False
def BrAll (K : PySem.W.Frag) (H : Hp) : List PyData → List V → Prop
  | [], xs => xs = []
  | d :: ds, xs => ∃ x r, xs = x :: r ∧ Br K H d x ∧ BrAll K H ds r
end
mutual
theorem Br.reads {pins : List (Addr × Obj)} {σ : St} {H : Hp} {s : Shared} (I : Inv X pins σ H s) : ∀ {d : PyData} {v : V} {u : Value}, Br X.K H d v → RelV v u → ∃ as, Reads s.heap u d as
  | .none, _, u, h, r => by rw [Br] at h; subst h; cases r; exact ⟨_, .none⟩
  | .bool b, _, u, h, r => by rw [Br] at h; subst h; cases r; exact ⟨_, .bool b⟩
  | .int i, _, u, h, r => by rw [Br] at h; subst h; obtain ⟨t, rfl⟩ := r; exact ⟨_, .int i t⟩
  | .str x, _, u, h, r => by rw [Br] at h; subst h; obtain ⟨t, rfl⟩ := r; exact ⟨_, .str x t⟩
  | .tuple ds, _, u, h, r => by
    rw [Br] at h
    obtain ⟨a, xs, e1, h1, h2⟩ := h
    subst e1
    cases r
    obtain ⟨its, rv, ⟨o, e, c, n, hd⟩, _⟩ := I.tuple h1
    obtain ⟨as, ra⟩ := BrAll.reads I h2 rv
    exact ⟨_, .tuple e c hd (by simpa using ra)⟩
  | .list ds, _, u, h, r => by
    rw [Br] at h
    obtain ⟨a, xs, e1, h1, h2⟩ := h
    subst e1
    cases r
    obtain ⟨its, rv, ⟨o, n, e, c, _, hd⟩, _⟩ := I.list h1
    obtain ⟨as, ra⟩ := BrAll.reads I h2 rv
    exact ⟨_, .list e c hd (by simpa using ra)⟩
  | .dict _, _, _, h, _ => by rw [Br] at h; exact h.elim
theorem BrAll.reads {pins : List (Addr × Obj)} {σ : St} {H : Hp} {s : Shared} (I : Inv X pins σ H s) : ∀ {ds : List PyData} {xs : List V} {us : List Value}, BrAll X.K H ds xs → Vals xs us → ∃ as, ReadsAll s.heap us ds as
  | [], _, us, h, r => by rw [BrAll] at h; subst h; cases r; exact ⟨_, .nil⟩
  | _ :: _, _, us, h, r => by
    rw [BrAll] at h
    obtain ⟨x, q, e1, h1, h2⟩ := h
    subst e1
    cases r with
    | cons r1 r2 =>
      obtain ⟨as, ra⟩ := Br.reads I h1 r1
      obtain ⟨bs, rb⟩ := BrAll.reads I h2 r2
      exact ⟨_, .cons ra rb⟩
end
def rEqD (K : PySem.W.Frag) (neg : Bool) : R2 := fun x y H Q => ∃ d e, Br K H d x ∧ Br K H e y ∧ SeqAt.shaped d = true ∧ SeqAt.shaped e = true ∧ Q (.bl (if neg then !PyData.eqv d e else PyData.eqv d e)) H
theorem op_neD (hu : X.A.units + 64 < cLine) : OpR X (compareOp .NotEq) (rEqD X.K true) := by
  intro pins s σ H x y v u Q I rx ry h
  obtain ⟨d, e, h1, h2, s1, s2, q⟩ := h
  obtain ⟨as, ra⟩ := Br.reads I h1 rx
  obtain ⟨bs, rb⟩ := Br.reads I h2 ry
  exact ne_dataH ra rb s1 s2 hu ⟨.bl _, H, I, rfl, q⟩
end
end L2
set_option Elab.async false
namespace L2
open PySem PySem.Spec PyProof.Rows
structure Fn (K : PySem.W.Frag) (mg : Str → Option Value) (x : Str) (st : Stmt) (ps : List Str) (f : Addr) (fd : FuncData) : Prop where
  F : Fun K x x st f fd
  b : Binds K fd ps []
  m : mg x = some (.ref f)
section
variable {X : Cx} {k : Nat} {f : Addr} {fd : FuncData} {ps : List Str} {sp : Sp} {x : Str} {st : Stmt} {p pos : Pos} {e : Expr} {es : List Expr} {t : TA}
theorem pe_fn (T : Fn X.K X.mg x st ps f fd) (G : FnOk X.prog X.w X.K X.mg X.base CX0 k f fd ps sp) (hr : Room k X.A) (hg : Gl X x) (ha : PA X (e :: es) t)
    (hdb : (x == ("__debug__" : Str)) = false := by decide) (he : starEach (e :: es) X.env = (false, eval e X.env) :: starEach es X.env := by rfl) (hpl : (backTo pos (starEach es X.env)).any (·.1) = false := by rfl) :
    PE X (.Call (.Name x p) (e :: es) [] pos) (tCall sp [] E0 t) := pe_call G hr hg T.m T.F.kp T.b .nil pass0 ha hdb he hpl
end
theorem seq_join {t u : TS} {D : Ends} {σ : St} {H : Hp} (P : St → Hp → Prop) (h1 : ∀ nx : St → Hp → Prop, (∀ σ' H', P σ' H' → nx σ' H') → t { D with nx := nx } σ H) (h2 : ∀ σ' H', P σ' H' → u D σ' H') : tSeq t u D σ H := h1 _ h2
theorem sz2 : 2 ≤ sizeLine := by decide
theorem same_new {H : Hp} {p : Addr} (h : H p = none) (o : HO) : Same H (upd H p o) := fun b u q => by rw [upd_ne (ne_of_none q h)]; exact q
def SameBut (l : Addr) (H H' : Hp) : Prop := ∀ b o, b ≠ l → H b = some o → H' b = some o
theorem SameBut.of {l : Addr} {H H' : Hp} (h : Same H H') : SameBut l H H' := fun b o _ q => h b o q
theorem SameBut.trans {l : Addr} {H H1 H2 : Hp} (a : SameBut l H H1) (b : SameBut l H1 H2) : SameBut l H H2 := fun c o n h => b c o n (a c o n h)
theorem SameBut.upd {l : Addr} {H : Hp} {o : HO} : SameBut l H (upd H l o) := fun b u n q => by rw [upd_ne n]; exact q
def ratV (p : Rat) : List V := [.int p.num, .int (p.den : Int)]
end L2
set_option Elab.async false
set_option linter.all false
set_option maxRecDepth 100000
set_option maxHeartbeats 4000000
namespace L2
open PySem PySem.Spec PyProof.Rows
def PIf (X : Cx) (ifs : List Expr) (t : TT) : Prop :=
  ∀ (pins : List (Addr × Obj)) (s : Shared) (σ : St) (H : Hp) (Q : Bool → Hp → Prop), Inv X pins σ H s → t σ H Q →
    wpAny (model X.prog X.w) X.A (forIn ifs true fun c r => if r = true then do let ok ← isTrue c X.env (eval c X.env); pure (ForInStep.yield ok) else pure (ForInStep.yield r)) (TP X pins σ Q) X.xe s
def tNoIf : TT := fun _ H Q => Q true H
theorem pif_nil {X : Cx} : PIf X [] tNoIf := fun _ _ σ H _ I h => wpAny_tests_nil ⟨H, I, h⟩
def frOk (N XN : List Str) (sc xsc : Scope) : List (Option Nat) → Nat → Bool
  | [], _ => true
  | none :: r, i => frOk N XN sc xsc r (i + 1)
  | some j :: r, i => (match N[i]?, XN[j]? with
      | some n, some m => n == m && sc.names.lookup n == some .free && xsc.names.lookup n == some .cell
      | _, _ => false) && frOk N XN sc xsc r (i + 1)
theorem frOk_get {N XN : List Str} {sc xsc : Scope} : ∀ {fr : List (Option Nat)} {k : Nat}, frOk N XN sc xsc fr k = true → ∀ {i j : Nat}, fr[i]? = some (some j) →
    ∃ n, N[k + i]? = some n ∧ XN[j]? = some n ∧ sc.names.lookup n = some .free ∧ xsc.names.lookup n = some .cell
  | [], _, _, i, j, e => by simp at e
  | none :: r, k, h, 0, j, e => by simp at e
  | none :: r, k, h, i + 1, j, e => by
    have q := frOk_get (fr := r) (k := k + 1) h (i := i) (j := j) (by simpa using e)
    have z : k + (i + 1) = k + 1 + i := by omega
    rw [z]; exact q
  | some j' :: r, k, h, 0, j, e => by
    have e' : j' = j := by simpa using e
    subst e'
    rw [frOk, Bool.and_eq_true] at h
    have h1 := h.1
    split at h1
    · rename_i n m hn hm
      simp only [Bool.and_eq_true, beq_iff_eq] at h1
      obtain ⟨⟨rfl, h2⟩, h3⟩ := h1
      exact ⟨n, by simpa using hn, hm, h2, h3⟩
    · cases h1
  | some j' :: r, k, h, i + 1, j, e => by
    rw [frOk, Bool.and_eq_true] at h
    have q := frOk_get (fr := r) (k := k + 1) h.2 (i := i) (j := j) (by simpa using e)
    have z : k + (i + 1) = k + 1 + i := by omega
    rw [z]; exact q
def carry (fr : List (Option Nat)) (σ : St) : St := fr.map fun o => match o with
  | some j => (σ[j]?).join
  | none => none
theorem carry_get {fr : List (Option Nat)} {σ : St} {i : Nat} {v : V} (h : (carry fr σ)[i]? = some (some v)) : ∃ j, fr[i]? = some (some j) ∧ σ[j]? = some (some v) := by
  unfold carry at h
  rw [List.getElem?_map] at h
  cases e : fr[i]? with
  | none => rw [e] at h; cases h
  | some o =>
    rw [e] at h
    cases o with
    | none => simp at h
    | some j =>
      refine ⟨j, rfl, ?_⟩
      simp only [Option.map_some, Option.some.injEq] at h
      cases q : σ[j]? with
      | none => rw [q] at h; cases h
      | some w => rw [q] at h; simp at h; rw [h]
theorem closure_of {env : Env} : ∀ (names : List (Str × NameKind)) (cs : List (Str × Addr)), (∀ x ∈ names, x.2 = NameKind.free → ∃ c, env.cells.lookup x.1 = some c) → (∀ x c, cs.lookup x = some c → env.cells.lookup x = some c) →
    ∃ cl, (forIn names cs (fun (x : Str × NameKind) (r : List (Str × Addr)) => do if (x.2 == NameKind.free) = true then do let a ← cellOf env x.1; pure (ForInStep.yield ((x.1, a) :: r)) else pure (ForInStep.yield r)) : Sem (List (Str × Addr))) = pure cl ∧
      (∀ x c, cl.lookup x = some c → env.cells.lookup x = some c) ∧ (∀ x, (∃ c, cs.lookup x = some c) → ∃ c, cl.lookup x = some c) ∧ ∀ x ∈ names, x.2 = NameKind.free → ∃ c, cl.lookup x.1 = some c
  | [], cs, _, h2 => ⟨cs, rfl, h2, fun _ q => q, fun _ z => (by cases z)⟩
  | (n, k) :: r, cs, h1, h2 => by
    rw [List.forIn_cons]
    by_cases hk : (k == NameKind.free) = true
    · obtain ⟨c, hc⟩ := h1 (n, k) List.mem_cons_self (by simpa using hk)
      have h2' : ∀ x c', ((n, c) :: cs).lookup x = some c' → env.cells.lookup x = some c' := fun x c' e => by
        rw [List.lookup_cons] at e
        cases hx : x == n with
        | true => rw [hx] at e; have := beq_iff_eq.mp hx; subst this; simp at e; rw [← e]; exact hc
        | false => rw [hx] at e; exact h2 x c' e
      obtain ⟨cl, q1, q2, q3, q4⟩ := closure_of r ((n, c) :: cs) (fun x hx => h1 x (List.mem_cons_of_mem _ hx)) h2'
      have hn : ∃ c', cl.lookup n = some c' := q3 n ⟨c, by rw [List.lookup_cons, beq_self_eq_true]⟩
      refine ⟨cl, ?_, q2, fun x hx => ?_, fun x hx hf => ?_⟩
      · simp only [hk, if_true]
        unfold cellOf
        rw [hc]
        exact q1
      · refine q3 x ?_
        rw [List.lookup_cons]
        cases hxn : x == n with
        | true => exact ⟨c, rfl⟩
        | false => exact hx
      · rcases List.mem_cons.mp hx with e | hx
        · subst e; exact hn
        · exact q4 x hx hf
    · obtain ⟨cl, q1, q2, q3, q4⟩ := closure_of r cs (fun x hx => h1 x (List.mem_cons_of_mem _ hx)) h2
      refine ⟨cl, ?_, q2, q3, fun x hx hf => ?_⟩
      · simp only [hk]
        exact q1
      · rcases List.mem_cons.mp hx with e | hx
        · subst e; exact absurd (by simpa using hf) hk
        · exact q4 x hx hf
def cxComp (X : Cx) (scope : Scope) (cl : List (Str × Addr)) (N : List Str) (C : Addr) (s₀ : Shared) (H₀ : Hp) (fp : List Addr) : Cx where
  prog := X.prog
  w := X.w
  K := X.K
  mg := X.mg
  base := X.base
  A := X.A
  N := N
  s₀ := s₀
  H₀ := H₀
  env := compEnvC scope cl C X.env
  outer := X.stack
  stack := X.stack
  ex := fp
  fn := fun _ => false
  calm := X.calm
  pn := []
  xe := fun _ _ => False
def tComp (wi : TI) (fr : List (Option Nat)) (ix : Nat) (tif : TT) (te : TE) : TE := fun σ H Q => wi σ H fun J H1 => ∀ D, H1 D = none → ∃ W : Nat → Nat → List V → Hp → Prop, (∃ m, W 0 m [] (upd H1 D (.lst []))) ∧
  ∀ i m ys H, W i m ys H → H D = some (.lst ys) ∧ ((J.stop i H ∧ Q (.ref D) H) ∨ (J.go i H ∧ ys.length < sizeLine ∧ ∀ x H', J.yld i H x H' →
    tif ((carry fr σ).set ix (some x)) H' fun b H2 => if b = true then te ((carry fr σ).set ix (some x)) H2 fun y H3 => H3 D = some (.lst ys) ∧ ∃ m', m' < m ∧ W (i + 1) m' (ys ++ [y]) (upd H3 D (.lst (ys ++ [y])))
      else ∃ m', m' < m ∧ W (i + 1) m' ys H2))
structure CompScope (scope : Scope) (N : List Str) (x : Str) (ix : Nat) : Prop where
  kind : scope.kind = .function
  cell : ∀ y ∈ scope.names, y.2 ≠ .cell
  names : ∀ y ∈ scope.names, y.2 = .local → scope.names.lookup y.1 = some .local
  free : ∀ y ∈ scope.names, y.2 = .free → scope.names.lookup y.1 = some .free
  loc : scope.names.lookup x = some .local
  nd : N.Nodup
  at_ : N[ix]? = some x
theorem lookup_mem {names : List (Str × NameKind)} {n : Str} {k : NameKind} : names.lookup n = some k → (n, k) ∈ names := by
  induction names with
  | nil => intro h; cases h
  | cons y r ih =>
    intro h
    obtain ⟨m, j⟩ := y
    rw [List.lookup_cons] at h
    cases e : n == m with
    | true => rw [e] at h; have := beq_iff_eq.mp e; subst this; simp at h; subst h; exact List.mem_cons_self
    | false => rw [e] at h; exact List.mem_cons_of_mem _ (ih h)
theorem relabel_kind {scope : Scope} {env : Env} (hc : ∀ y ∈ scope.names, y.2 ≠ .cell) {n : Str} (h : (relabel scope env).names.lookup n = some .cell ∨ (relabel scope env).names.lookup n = some .free) : ∃ k, (n, k) ∈ scope.names ∧ k = NameKind.free := by
  have key : ∀ k', (relabel scope env).names.lookup n = some k' → (k' = .cell ∨ k' = .free) → ∃ k, (n, k) ∈ scope.names ∧ k = NameKind.free := fun k' h hk => by
    have hm := lookup_mem h
    unfold relabel at hm
    obtain ⟨⟨m, k⟩, hy, e⟩ := List.mem_map.mp hm
    dsimp only at e
    by_cases hcond : (k == NameKind.free && env.scope.kind == .function && env.kindOf m == some .cell) = true
    · rw [if_pos hcond] at e
      injection e with e1 e2
      subst e1
      refine ⟨k, hy, ?_⟩
      simp only [Bool.and_eq_true, beq_iff_eq] at hcond
      exact hcond.1.1
    · rw [if_neg hcond] at e
      injection e with e1 e2
      subst e1 e2
      rcases hk with rfl | rfl
      · exact absurd rfl (hc _ hy)
      · exact ⟨_, hy, rfl⟩
  rcases h with h | h
  · exact key _ h (.inl rfl)
  · exact key _ h (.inr rfl)
section
variable {X : Cx} {elt iter : Expr} {x : Str} {px pos : Pos} {ifs : List Expr} {scope : Scope} {wi : TI} {fr : List (Option Nat)} {ix : Nat} {tif : TT} {te : TE} {N : List Str}
theorem comp_block {pins : List (Addr × Obj)} {σ : St} {H2 : Hp} {s2 : Shared} {Q : VK} {it : Addr} {fp : List Addr} {tn : Nat → Heap → Prop} {J : It} {cl : List (Str × Addr)} {E : Value → Shared → Prop} {RR : Value → Addr → Result → Shared → Prop}
    (S : CompScope scope N x ix) (hcalm : X.calm = true) (hfr : frOk N X.N scope X.env.scope fr 0 = true) (hlen : fr.length = N.length)
    (hif : ∀ cl C s₀ H₀ fp, PIf (cxComp X scope cl N C s₀ H₀ fp) ifs tif) (he : ∀ cl C s₀ H₀ fp, PE (cxComp X scope cl N C s₀ H₀ fp) elt te)
    (I2 : Inv X pins σ H2 s2) (T : Turn X.prog X.w X.K (.Name x px) J fp it tn) (st2 : tn 0 s2.heap) (f2 : ∀ b ∈ fp, FpOk X pins H2 b)
    (c1 : ∀ x c, cl.lookup x = some c → X.env.cells.lookup x = some c) (c2 : ∀ x ∈ scope.names, x.2 = NameKind.free → ∃ c, cl.lookup x.1 = some c)
    (W : ∀ D, H2 D = none → ∃ W : Nat → Nat → List V → Hp → Prop, (∃ m, W 0 m [] (upd H2 D (.lst []))) ∧
      ∀ i m ys H, W i m ys H → H D = some (.lst ys) ∧ ((J.stop i H ∧ Q (.ref D) H) ∨ (J.go i H ∧ ys.length < sizeLine ∧ ∀ x H', J.yld i H x H' →
        tif ((carry fr σ).set ix (some x)) H' fun b H2 => if b = true then te ((carry fr σ).set ix (some x)) H2 fun y H3 => H3 D = some (.lst ys) ∧ ∃ m', m' < m ∧ W (i + 1) m' (ys ++ [y]) (upd H3 D (.lst (ys ++ [y])))
          else ∃ m', m' < m ∧ W (i + 1) m' ys H2)))
    (fin : ∀ (D C : Addr) (s' : Shared) (H' : Hp) m, s'.heap.Ns C m → Q (.ref D) H' → (∀ h', Heap.SameBut C s'.heap h' → Inv X pins σ H' { s' with heap := h' }) → C ≠ D → (∀ b o, s2.heap.get? b = some o → b ≠ C) → H' C = none → s2.heap.objs.size ≤ C → RR (.ref D) C (.ok .next) s') :
    wpAny (model X.prog X.w) X.A (newList []) (fun acc s₃ => wpAny (model X.prog X.w) X.A (newFunctionEnv scope X.env.globals cl [] X.env.qual none .none (some X.env)) (fun cenv s₄ =>
      codeAny (model X.prog X.w) X.A (.compStart (.ListComp elt [⟨.Name x px, iter, ifs, 0⟩] scope pos) 0 (.ref it) acc { cenv with scope := relabel scope X.env }) (RR acc cenv.locals) s₄) E s₃) E s2 := by
  refine wpAny_newObj_type (wpAny_newFunctionEnv S.cell (by intro y hy; simp at hy) (fun h₁ hns₁ hsb₁ => ?_) S.kind)
  dsimp only at hns₁ hsb₁ ⊢
  generalize hHp : s2.heap.push { cls := .type "list", dict := none, data := .seq ([] : List Value).toArray } = Hq at hns₁ hsb₁ ⊢
  have hC : Hq.objs.size = s2.heap.objs.size + 1 := by rw [← hHp, Heap.size_push]
  have hDC : s2.heap.objs.size ≠ Hq.objs.size := by rw [hC]; exact Nat.ne_of_lt (Nat.lt_succ_self _)
  have below : ∀ b, b < s2.heap.objs.size → b ≠ Hq.objs.size ∧ b ≠ s2.heap.objs.size := fun b hb => ⟨by rw [hC]; exact Nat.ne_of_lt (Nat.lt_succ_of_lt hb), Nat.ne_of_lt hb⟩
  have old : ∀ b o, s2.heap.get? b = some o → h₁.get? b = some o := fun b o e => hsb₁.extBut b o (below b (Heap.lt_size e)).1 (Heap.get?_push_of_some _ (hHp ▸ Heap.get?_push_of_some _ e))
  have hacc : h₁.get? s2.heap.objs.size = some { cls := .type "list", data := .seq ([] : List Value).toArray } := hsb₁.extBut _ _ hDC (Heap.get?_push_of_some _ (hHp ▸ Heap.get?_push_size _ rfl))
  have hD2 : H2 s2.heap.objs.size = none := I2.hok.fresh (Nat.le_refl _)
  have hC2 : H2 Hq.objs.size = none := I2.hok.fresh (by rw [hC]; exact Nat.le_succ _)
  have fpo : ∀ b ∈ fp, b < s2.heap.objs.size := fun b hb => by
    obtain ⟨o, e, _⟩ := T.obj _ _ st2 b hb
    exact Heap.lt_size e
  obtain ⟨W, ⟨m0, w0⟩, turn⟩ := W s2.heap.objs.size hD2
  have ok : (cxComp X scope cl N Hq.objs.size s2 H2 fp).Ok := by
    refine ⟨I2.ok.mod, S.kind, I2.ok.glob, I2.ok.blt, by show s2.heap.objs.size ≤ Hq.objs.size; rw [hC]; exact Nat.le_succ _, ?_, ?_, ?_, fun _ => I2.ok.hd hcalm, I2.ok.frames, .inl rfl, ?_, I2.bs, Nat.le_trans I2.ok.bsz I2.sz, ?_, ?_, I2.stack, I2.stkFree⟩
    · exact fun a b c h1 h2 => I2.ok.inj a b c (c1 _ _ h1) (c1 _ _ h2)
    · intro y hy
      obtain ⟨k, hm, rfl⟩ := relabel_kind S.cell hy
      exact c2 _ hm rfl
    · intro y c hf
      cases hf
    · intro b hb
      refine ⟨(below b (fpo b hb)).1, fun y c e => ?_⟩
      obtain ⟨_, _, _, _, f5, _⟩ := f2 b hb
      exact f5 y c (c1 _ _ e)
    · intro b o e hb
      obtain ⟨_, _, _, f4, _, _⟩ := f2 b hb
      rcases f4 with z | z
      · exact I2.ok.noex b o e z
      · exact absurd (Nat.lt_of_lt_of_le (Heap.lt_size e) (Nat.le_trans I2.ok.bsz z)) (Nat.lt_irrefl _)
    · intro b hb hs
      obtain ⟨_, f1, f3, _⟩ := f2 b hb
      rcases List.mem_cons.mp (I2.stkSub b hs) with z | z
      · exact f1 z
      · exact f3 z
  have I4 : Inv (cxComp X scope cl N Hq.objs.size s2 H2 fp) [] (carry fr σ) (upd H2 s2.heap.objs.size (.lst [])) { s2 with heap := h₁, toks := s2.toks + ([] : List (Str × Value)).length } := by
    refine ⟨ok, rfl, I2.bare, Un.laid old (Nat.le_refl _) hD2, ⟨_, hns₁, fun i y v h1 h2 h3 => ?_⟩, fun y c e => ?_, ?_, fun y c e => ?_, fun p hp => (by cases hp), I2.hok.laid old (Nat.le_refl _) ⟨Nat.zero_le _, [], 0, .nil, hacc⟩, ?_⟩
    · obtain ⟨j, e1, e2⟩ := carry_get h2
      obtain ⟨n, n1, n2, n3, n4⟩ := frOk_get hfr e1
      rw [Nat.zero_add] at n1
      have : y = n := by
        have h1' : N[i]? = some y := h1
        rw [h1'] at n1; exact Option.some.inj n1
      subst this
      obtain ⟨m, hn, hl⟩ := I2.loc
      obtain ⟨u, ru, lk⟩ := hl j y v n2 e2 (.inr (.inl n4))
      refine ⟨u, ru, ?_⟩
      obtain ⟨c, hc⟩ := c2 _ (lookup_mem n3) rfl
      rcases lk with ⟨k1, _⟩ | ⟨_, c', hc', hcell⟩
      · have k1' : X.env.scope.names.lookup y = some .local := k1
        rw [n4] at k1'; cases k1'
      · have := c1 _ _ hc
        rw [hc'] at this; cases this
        refine .inr ⟨?_, c, hc, hcell.keeps old⟩
        rcases h3 with z | z | z
        · obtain ⟨k, hm⟩ : ∃ k, (y, k) ∈ scope.names ∧ k = NameKind.local := by
            have hm := lookup_mem z
            have hm' : (y, NameKind.local) ∈ (relabel scope X.env).names := hm
            unfold relabel at hm'
            obtain ⟨⟨m', k⟩, hy, e⟩ := List.mem_map.mp hm'
            dsimp only at e
            by_cases hcond : (k == NameKind.free && X.env.scope.kind == .function && X.env.kindOf m' == some .cell) = true
            · rw [if_pos hcond] at e; injection e with _ e2'; cases e2'
            · rw [if_neg hcond] at e; injection e with e1' e2'; subst e1' e2'; exact ⟨_, hy, rfl⟩
          obtain ⟨hm, rfl⟩ := hm
          have := S.names _ hm rfl
          rw [n3] at this; cases this
        · exact .inl z
        · exact .inr z
    · obtain ⟨v, z⟩ := I2.cell y c (c1 _ _ e)
      exact ⟨v, z.keeps old⟩
    · show upd H2 s2.heap.objs.size _ Hq.objs.size = none
      rw [upd_ne (Ne.symm hDC)]; exact hC2
    · obtain ⟨v, o, ho, _⟩ := I2.cell y c (c1 _ _ e)
      rw [upd_ne (below c (Heap.lt_size ho)).2]
      exact I2.freeC y c (c1 _ _ e)
    · show (carry fr σ).length = N.length
      unfold carry
      rw [List.length_map]; exact hlen
  have fpX : ∀ (p : List (Addr × Obj)) (H' : Hp), (∀ q ∈ p, q.1 ∈ fp → False) → (∀ b ∈ fp, H' b = none) → ∀ b ∈ fp, FpOk (cxComp X scope cl N Hq.objs.size s2 H2 fp) p H' b := fun p H' hp hn b hb => by
    obtain ⟨_, f1, f3, f4, f5, _⟩ := f2 b hb
    refine ⟨hn b hb, (below b (fpo b hb)).1, fun hs => ok.exfs b hb hs, .inl hb, fun y c e => f5 y c (c1 _ _ e), fun q hq e => ?_⟩
    exact hp q hq (e ▸ hb)
  have hxv : (relabel scope X.env).names.lookup x = some .local := lookup_relabel_local S.loc
  have loop : ∀ s₃ : Shared, s₃ = { s2 with heap := h₁, toks := s2.toks + ([] : List (Str × Value)).length } →
      codeAny (model X.prog X.w) X.A (.compLoop (.ListComp elt [⟨.Name x px, iter, ifs, 0⟩] scope pos) 0 (.ref it) (.ref s2.heap.objs.size) (compEnvC scope cl Hq.objs.size X.env)) (RR (.ref s2.heap.objs.size) Hq.objs.size) s₃ := by
    rintro s₃ rfl
    refine codeAny_compLoop_tests (fun n s' => ∃ i ys σ' H', Inv (cxComp X scope cl N Hq.objs.size s2 H2 fp) [] σ' H' s' ∧ (∀ v, σ'.set ix v = (carry fr σ).set ix v) ∧ tn i s'.heap ∧ (∀ b ∈ fp, H' b = none) ∧ W i n ys H') ?_ m0
      ⟨0, [], carry fr σ, _, I4, fun _ => rfl, T.keep _ _ _ st2 fun b _ o e => old b o e, fun b hb => by rw [upd_ne (below b (fpo b hb)).2]; exact (f2 b hb).1, w0⟩
    rintro n s3 ⟨i, ys, σ3, H3, I3, hσ, st3, fr3, w3⟩
    obtain ⟨hD3, way⟩ := turn i n ys H3 w3
    rcases way with ⟨stop, qn⟩ | ⟨go, hsz, step⟩
    · refine wpAny_mono (T.done (cxComp X scope cl N Hq.objs.size s2 H2 fp) rfl rfl rfl hcalm i [] s3 σ3 H3 (fun _ _ => False) I3 (fpX [] H3 (fun _ z => by cases z) fr3) st3 stop) (fun r s4 ⟨hr, I5⟩ => ?_) fun _ _ z => z.elim
      subst hr
      obtain ⟨m, hn, _⟩ := id I5.loc
      refine fin _ _ s4 H3 m hn qn (fun h' hs' => ?_) (Ne.symm hDC) (fun b o e => (below b (Heap.lt_size e)).1) I5.free (by rw [hC]; exact Nat.le_succ _)
      have nC : ∀ b u, H3 b = some u → b ≠ Hq.objs.size := fun b u e z => by
        have := I5.free
        rw [show (cxComp X scope cl N Hq.objs.size s2 H2 fp).env.locals = Hq.objs.size from rfl, ← z, e] at this
        cases this
      have keepU : Un (frs X.stack) fp H2 H3 s2.heap h' := by
        have u := I5.base
        refine ⟨fun b o e n hb hx => ?_, fun b o e n hb hx => ?_, fun b o e n hx => u.free b o e n hx, fun b o e hx => ?_, u.tups, u.frzs, u.tbls⟩
        · exact (hs'.2 b (below b (Heap.lt_size e)).1).trans (u.keep b o e n hb hx)
        · obtain ⟨sl, e1⟩ := u.slot b o e n hb hx
          exact ⟨sl, (hs'.2 b (below b (Heap.lt_size e)).1).trans e1⟩
        · obtain ⟨o', e1⟩ := u.there b o e hx
          exact ⟨o', (hs'.2 b (below b (Heap.lt_size e)).1).trans e1⟩
      have hok' : HOk X.prog X.w H3 h' := fun b u e => (I5.hok b u e).stay (fun c v hc q => (hs'.2 c (by
        rcases hc with rfl | hc
        · exact nC _ _ e
        · exact nC _ _ hc)).trans q) (fun _ q => q) fun _ _ q => q
      refine I2.call' (s' := { s4 with heap := h' }) (ch := fp) I5.os keepU hok' I5.bare fun b hb => ?_
      obtain ⟨_, f1, _, f4, f5, f6⟩ := f2 b hb
      exact ⟨f4, f1, f5, f6⟩
    · refine wpAny_mono (T.item (cxComp X scope cl N Hq.objs.size s2 H2 fp) rfl rfl rfl hcalm i [] s3 σ3 H3 (fun _ _ => False) I3 (fpX [] H3 (fun _ z => by cases z) fr3) st3 go) (fun r s4 ⟨u, hr, h4⟩ => ?_) fun _ _ z => z.elim
      subst hr
      show wpAny (model X.prog X.w) X.A (letOwnedTupleGo (.Name x px) (.ref it) u >>= fun _ => assign (.Name x px) (compEnvC scope cl Hq.objs.size X.env) u) _ _ s4
      refine wpAny_bind (wpAny_mono h4 (fun _ s5 ⟨xv, H5, I5, r5, y5, st5, fr5⟩ => ?_) fun _ _ z => z.elim)
      have I5' := I5.pinned (fpX [] H5 (fun _ z => by cases z) fr5) (T.obj _ _ st5)
      refine wpAny_assign_Name (store_ok I5' S.nd S.at_ (.inl hxv) r5 (fun s6 I6 => ?_) (.inr hxv))
      rw [hσ] at I6
      refine wpAny_mono (hif _ _ _ _ _ _ s6 _ H5 _ I6 (step xv H5 y5)) (fun b s7 ⟨H7, I7, q7⟩ => ?_) fun _ _ z => z.elim
      have again : ∀ {s8 : Shared} {H8 : Hp} {k : Nat} {zs : List V}, Inv (cxComp X scope cl N Hq.objs.size s2 H2 fp) ([] ++ pinsAt fp s5.heap) ((carry fr σ).set ix (some xv)) H8 s8 → W (i + 1) k zs H8 → k < n →
          ∃ m, m < n ∧ ∃ i ys σ' H', Inv (cxComp X scope cl N Hq.objs.size s2 H2 fp) [] σ' H' s8 ∧ (∀ v, σ'.set ix v = (carry fr σ).set ix v) ∧ tn i s8.heap ∧ (∀ b ∈ fp, H' b = none) ∧ W i m ys H' := fun {s8 H8 k zs} I8 w8 hk => by
        refine ⟨k, hk, i + 1, zs, _, H8, I8.unpinned, fun v => by rw [List.set_set], T.keep _ _ _ st5 fun b hb o e => (I8.pin (b, o) (List.mem_append_right _ (List.mem_append_right _ (mem_pinsAt hb e)))).1, fun b hb => ?_, w8⟩
        obtain ⟨o, e, d⟩ := T.obj _ _ st5 b hb
        exact (I8.pin (b, o) (List.mem_append_right _ (List.mem_append_right _ (mem_pinsAt hb e)))).2.1
      cases b with
      | false =>
        rw [if_neg Bool.false_ne_true] at q7 ⊢
        obtain ⟨k, hk, w7⟩ := q7
        exact again I7 w7 hk
      | true =>
        rw [if_pos rfl] at q7 ⊢
        refine wpAny_mono (he _ _ _ _ _ _ s7 _ H7 _ I7 q7) (fun yv s8 ⟨y, H8, I8, r8, hD8, k, hk, w8⟩ => ?_) fun _ _ z => z.elim
        refine wpAny_mono (mt_append (X := cxComp X scope cl N Hq.objs.size s2 H2 fp) _ s8 _ H8 (.ref s2.heap.objs.size) [y] (.ref s2.heap.objs.size) [yv] (fun _ H9 => H9 = upd H8 s2.heap.objs.size (.lst (ys ++ [y]))) I8 rfl (.cons r8 .nil) ⟨_, ys, y, rfl, rfl, hD8, hsz, rfl⟩) (fun _ s9 ⟨_, H9, I9, _, e9⟩ => ?_) fun _ _ z => z.elim
        subst e9
        exact again I9 w8 hk
  exact codeAny_compStart_list (loop _ rfl) (T.self X.A 0 _ _ _ (T.keep _ _ _ st2 fun b _ o e => old b o e) (loop _ rfl))
theorem pe_comp (S : CompScope scope N x ix) (hcalm : X.calm = true) (hfr : frOk N X.N scope X.env.scope fr 0 = true) (hlen : fr.length = N.length) (hfree : ∀ y ∈ scope.names, y.2 = .free → X.env.scope.names.lookup y.1 = some .cell ∨ X.env.scope.names.lookup y.1 = some .free)
    (hi : PI X (.Name x px) iter wi) (hif : ∀ cl C s₀ H₀ fp, PIf (cxComp X scope cl N C s₀ H₀ fp) ifs tif) (he : ∀ cl C s₀ H₀ fp, PE (cxComp X scope cl N C s₀ H₀ fp) elt te)
    (hs : ∀ x, foldedSetIterable iter X.env x = pure x := by intro _; rfl) : PE X (.ListComp elt [⟨.Name x px, iter, ifs, 0⟩] scope pos) (tComp wi fr ix tif te) := by
  intro pins s σ H Q I hw
  obtain ⟨cl, hclos, c1, _, c2⟩ := closure_of (env := X.env) scope.names [] (fun y hy hf => I.ok.has y.1 (hfree y hy hf)) (fun y c z => by cases z)
  have hclos' : closureFor scope X.env = pure cl := by
    have e : closureFor scope X.env = ((forIn scope.names [] (fun (x : Str × NameKind) (r : List (Str × Addr)) => do if (x.2 == NameKind.free) = true then do let a ← cellOf X.env x.1; pure (ForInStep.yield ((x.1, a) :: r)) else pure (ForInStep.yield r)) : Sem (List (Str × Addr))) >>= fun cs => pure cs) := rfl
    rw [e, hclos]
    rfl
  rw [eval_ListComp]
  refine wpAny_comprehension_free (use := none) rfl hs hclos' S.kind S.names (thn (hi pins s σ H _ I hw) fun v s1 h1 => thn h1 fun itv s2 h2 => ?_)
  obtain ⟨it, fp, tn, J, H2, e, I2, T, st2, f2, W⟩ := h2
  subst e
  refine comp_block (RR := fun acc C => compPost (model X.prog X.w) X.A X.xe none (EP X pins σ Q) acc C) S hcalm hfr hlen hif he I2 T st2 f2 c1 c2 W ?_
  intro D C s' H' m hn q hI _ _ _ _
  exact ⟨m, hn, fun h' hs' => ⟨.ref D, H', hI h' hs', rfl, q⟩⟩
theorem ps_setComp {i : Nat} {y : Str} {py spos : Pos} (hN : X.N.Nodup) (hy : X.N[i]? = some y) (hly : X.env.scope.names.lookup y = some .local) (S : CompScope scope N x ix) (hcalm : X.calm = true) (hfr : frOk N X.N scope X.env.scope fr 0 = true) (hlen : fr.length = N.length)
    (hfree : ∀ y ∈ scope.names, y.2 = .free → X.env.scope.names.lookup y.1 = some .cell ∨ X.env.scope.names.lookup y.1 = some .free)
    (hi : PI X (.Name x px) iter wi) (hif : ∀ cl C s₀ H₀ fp, PIf (cxComp X scope cl N C s₀ H₀ fp) ifs tif) (he : ∀ cl C s₀ H₀ fp, PE (cxComp X scope cl N C s₀ H₀ fp) elt te)
    (hsw : swapsWith (.ListComp elt [⟨.Name x px, iter, ifs, 0⟩] scope pos) (some (.Name y py)) spos.line X.env = pure true := by rfl)
    (hs : ∀ x, foldedSetIterable iter X.env x = pure x := by intro _; rfl) :
    PS X (.Assign [.Name y py] (.ListComp elt [⟨.Name x px, iter, ifs, 0⟩] scope pos) spos) (tAsg (tComp wi fr ix tif te) (gName i)) := by
  intro pins s σ H D I hw
  obtain ⟨cl, hclos, c1, _, c2⟩ := closure_of (env := X.env) scope.names [] (fun y hy hf => I.ok.has y.1 (hfree y hy hf)) (fun y c z => by cases z)
  have hclos' : closureFor scope X.env = pure cl := by
    have e : closureFor scope X.env = ((forIn scope.names [] (fun (x : Str × NameKind) (r : List (Str × Addr)) => do if (x.2 == NameKind.free) = true then do let a ← cellOf X.env x.1; pure (ForInStep.yield ((x.1, a) :: r)) else pure (ForInStep.yield r)) : Sem (List (Str × Addr))) >>= fun cs => pure cs) := rfl
    rw [e, hclos]
    rfl
  rw [exec_Assign_Name_used _ _ _ _ hsw]
  refine wpAny_bind (wpAny_standAt (wpAny_bind ?_))
  show wpAny _ X.A (do let _ ← comprehension (.ListComp elt [⟨.Name x px, iter, ifs, 0⟩] scope pos) scope X.env _ (newList []) false (eval iter X.env) (some (assign (.Name y py) X.env))) _ _ s
  refine wpAny_bind (wpAny_mono (wpAny_comprehension_free (use := some (assign (.Name y py) X.env)) (Q := fun _ s' => SP X pins D .next s') rfl hs hclos' S.kind S.names
    (thn (hi pins s σ H _ I hw) fun v s1 h1 => thn h1 fun itv s2 h2 => ?_)) (fun _ s' hq => wpAny_pure (wpAny_pure hq)) fun _ _ e => e)
  obtain ⟨it, fp, tn, J, H2, e, I2, T, st2, f2, W⟩ := h2
  subst e
  refine comp_block (Q := fun x H1 => gName i x σ H1 D.nx) (RR := fun acc C => compPost (model X.prog X.w) X.A X.xe (some (assign (.Name y py) X.env)) (fun _ s' => SP X pins D .next s') acc C) S hcalm hfr hlen hif he I2 T st2 f2 c1 c2 W ?_
  intro D' C s' H' m hn q hI hCD hold hfreeC hsz
  have I5 : Inv X pins σ H' s' := hI s'.heap (Heap.SameBut.refl ..)
  refine wpAny_assign_Name (store_ok2 I5 hN hy (.inl hly) (v := .ref D') rfl (fun s'' I6 ⟨a, hsb, ha⟩ => ?_) (.inr hly))
  have hL : C ≠ X.env.locals := fun z => by
    obtain ⟨_, ⟨o, _, _, e, _⟩, _⟩ := I2.loc
    exact hold _ _ e z.symm
  have hcl : ∀ z c, X.env.cells.lookup z = some c → c ≠ C := fun z c e => by
    obtain ⟨_, o, ho, _⟩ := I2.cell z c e
    exact hold _ _ ho
  have hCa : C ≠ a := by
    rcases ha with z | z
    · rw [z]; exact hL
    · exact Ne.symm (hcl _ _ z)
  refine ⟨m, hn.sameBut hsb hCa, fun h' hs' => ⟨_, H', I6.turned (t' := s''.toks) (it := C) (fun b o hb e => (hs'.2 b hb).trans e) hfreeC hL (.inr (Nat.le_trans I2.sz hsz)) hcl fun p hp => ?_, q⟩⟩
  obtain ⟨e, _⟩ := I2.pin p hp
  exact hold _ _ e
end
end L2
set_option Elab.async false
set_option linter.all false
set_option maxRecDepth 100000
set_option maxHeartbeats 4000000
namespace L2
open PySem PySem.Spec PyProof.Rows
section
variable {P : Program} {w : World} {K : PySem.W.Frag} {mg : Str → Option Value} {base : Heap} {N : List Str} {qual : Str} {scope : Scope} {f : Addr} {cd : Value} {A : Around} {outer : List Env} {s : Shared} {H : Hp} {E : XK}
end
section
variable {X : Cx} {x : Str} {C : Addr} {np cpos pos : Pos} {e : Expr} {te : TE} {E : XK}
end
end L2
set_option Elab.async false
set_option linter.all false
set_option maxRecDepth 100000
set_option maxHeartbeats 4000000
namespace L2
open PySem PySem.Spec PyProof.Rows
section
variable {X : Cx} {k : Nat} {f : Addr} {fd : FuncData} {ps : List Str} {sp : Sp} {x : Str} {st : Stmt} {p pos : Pos} {e : Expr} {es : List Expr} {t : TA}
end
end L2
set_option Elab.async false
set_option linter.all false
set_option maxRecDepth 100000
set_option maxHeartbeats 4000000
namespace L2
open PySem PySem.Spec PyProof.Rows
section
variable {X : Cx} {e : Expr} {t : TX} {x y z n : Str} {G : Addr} {py pz pn np spos tpos hpos pos : Pos} {i j k : Nat}
end
end L2
set_option Elab.async false
set_option linter.all false
set_option maxRecDepth 100000
set_option maxHeartbeats 4000000
namespace L2
open PySem PySem.Spec PyProof.Rows PySem.Builtin.ObjectAttr PySem.Builtin.Getset_descriptor
section
variable {prog : Program} {w : World} {A : Around} {E : Value → Shared → Prop} {K : PySem.W.Frag} {x C : Addr} {h : Heap} {g : Array GenState} {d : Drawn} {t : Nat} {os : OsState}
end
def clsV : V → Value
  | .ref C => .ref C
  | .ty n => .type n
  | _ => .none
theorem clsV_of {c : V} {u : Value} (r : RelV c u) (h : clsV c ≠ .none) : u = clsV c := by
  cases c with
  | ref C => exact r
  | ty n => exact r
  | _ => exact absurd rfl h
section
variable {X : Cx}
def rIsi (K : PySem.W.Frag) : List V → Hp → VK → Prop := fun xs H Q => ∃ x c t b, xs = [x, c] ∧ clsV c ≠ .none ∧ TyOf K H x t ∧ PySem.W.kitOne K t (clsV c) = some b ∧ Q (.bl b) H
theorem call_isi : CallR X (.builtin "isinstance") (rIsi X.K) := by
  intro pins s σ H xs us Q I r h
  obtain ⟨x, c, t, b, rfl, hc, ty, e, q⟩ := h
  obtain ⟨u, v, rfl, r1, r2⟩ := r.two
  rw [clsV_of r2 hc]
  exact isinst_ok I r1 ty e fun tk => ⟨.bl b, H, I.tok tk, rfl, q⟩
end
theorem kit_tt (K : PySem.W.Frag) : PySem.W.kitOne K (.type "tuple") (.type "tuple") = some true := rfl
theorem kit_ii (K : PySem.W.Frag) : PySem.W.kitOne K (.type "int") (.type "int") = some true := rfl
theorem kit_bb (K : PySem.W.Frag) : PySem.W.kitOne K (.type "bool") (.type "bool") = some true := rfl
theorem kit_ib (K : PySem.W.Frag) : PySem.W.kitOne K (.type "int") (.type "bool") = some false := by kernel_rfl
theorem kit_bi (K : PySem.W.Frag) : PySem.W.kitOne K (.type "bool") (.type "int") = some true := by kernel_rfl
theorem kit_lt (K : PySem.W.Frag) : PySem.W.kitOne K (.type "list") (.type "tuple") = some false := by kernel_rfl
theorem kit_tl (K : PySem.W.Frag) : PySem.W.kitOne K (.type "tuple") (.type "list") = some false := by kernel_rfl
theorem kit_ll (K : PySem.W.Frag) : PySem.W.kitOne K (.type "list") (.type "list") = some true := rfl
theorem kit_it (K : PySem.W.Frag) : PySem.W.kitOne K (.type "int") (.type "tuple") = some false := by kernel_rfl
theorem kit_bt (K : PySem.W.Frag) : PySem.W.kitOne K (.type "bool") (.type "tuple") = some false := by kernel_rfl
theorem kit_nt (K : PySem.W.Frag) : PySem.W.kitOne K (.type "NoneType") (.type "tuple") = some false := by kernel_rfl
theorem kit_st (K : PySem.W.Frag) : PySem.W.kitOne K (.type "str") (.type "tuple") = some false := by kernel_rfl
theorem kit_ti (K : PySem.W.Frag) : PySem.W.kitOne K (.type "tuple") (.type "int") = some false := by kernel_rfl
theorem kit_li (K : PySem.W.Frag) : PySem.W.kitOne K (.type "list") (.type "int") = some false := by kernel_rfl
theorem kit_ni (K : PySem.W.Frag) : PySem.W.kitOne K (.type "NoneType") (.type "int") = some false := by kernel_rfl
theorem kit_si (K : PySem.W.Frag) : PySem.W.kitOne K (.type "str") (.type "int") = some false := by kernel_rfl
theorem kit_il (K : PySem.W.Frag) : PySem.W.kitOne K (.type "int") (.type "list") = some false := by kernel_rfl
theorem kit_bl (K : PySem.W.Frag) : PySem.W.kitOne K (.type "bool") (.type "list") = some false := by kernel_rfl
theorem kit_nl (K : PySem.W.Frag) : PySem.W.kitOne K (.type "NoneType") (.type "list") = some false := by kernel_rfl
theorem kit_sl (K : PySem.W.Frag) : PySem.W.kitOne K (.type "str") (.type "list") = some false := by kernel_rfl
def freeOk (xsc : Scope) (names : List (Str × NameKind)) : Bool := names.all fun y => y.2 != .free || xsc.names.lookup y.1 == some .cell || xsc.names.lookup y.1 == some .free
theorem freeOk_of {xsc : Scope} {names : List (Str × NameKind)} (h : freeOk xsc names = true) : ∀ y ∈ names, y.2 = .free → xsc.names.lookup y.1 = some .cell ∨ xsc.names.lookup y.1 = some .free := fun y hy hf => by
  have q := List.all_eq_true.mp h y hy
  rw [hf] at q
  simp only [bne_self_eq_false, Bool.false_or, Bool.or_eq_true, beq_iff_eq] at q
  exact q
def compScopeOk (scope : Scope) (N : List Str) (x : Str) (ix : Nat) : Bool :=
  scope.kind == .function && (scope.names.all fun y => y.2 != .cell && (y.2 != .local || scope.names.lookup y.1 == some .local) && (y.2 != .free || scope.names.lookup y.1 == some .free)) && scope.names.lookup x == some .local && decide N.Nodup && N[ix]? == some x
theorem compScope_of {scope : Scope} {N : List Str} {x : Str} {ix : Nat} (h : compScopeOk scope N x ix = true) : CompScope scope N x ix := by
  unfold compScopeOk at h
  simp only [Bool.and_eq_true, beq_iff_eq, decide_eq_true_eq, List.all_eq_true, bne_iff_ne, Bool.or_eq_true] at h
  obtain ⟨⟨⟨⟨h1, h2⟩, h3⟩, h4⟩, h5⟩ := h
  exact ⟨h1, fun y hy => (h2 y hy).1.1, fun y hy hl => (h2 y hy).1.2.resolve_left fun z => z hl, fun y hy hl => (h2 y hy).2.resolve_left fun z => z hl, h3, h4, h5⟩
section
variable {X : Cx} {elt iter : Expr} {x : Str} {px pos : Pos} {ifs : List Expr} {scope : Scope} {wi : TI} {tif : TT} {te : TE}
theorem pe_compr (N : List Str) (ix : Nat) (fr : List (Option Nat)) (hi : PI X (.Name x px) iter wi) (hif : ∀ cl C s₀ H₀ fp, PIf (cxComp X scope cl N C s₀ H₀ fp) ifs tif) (he : ∀ cl C s₀ H₀ fp, PE (cxComp X scope cl N C s₀ H₀ fp) elt te)
    (h1 : compScopeOk scope N x ix = true := by decide +kernel) (h2 : X.calm = true := by rfl) (h3 : frOk N X.N scope X.env.scope fr 0 = true := by rfl) (h4 : fr.length = N.length := by rfl) (h5 : freeOk X.env.scope scope.names = true := by rfl)
    (hs : ∀ x, foldedSetIterable iter X.env x = pure x := by intro _; rfl) : PE X (.ListComp elt [⟨.Name x px, iter, ifs, 0⟩] scope pos) (tComp wi fr ix tif te) :=
  pe_comp (compScope_of h1) h2 h3 h4 (freeOk_of h5) hi hif he hs
theorem ps_setCompr {i : Nat} {y : Str} {py spos : Pos} (N : List Str) (ix : Nat) (fr : List (Option Nat)) (hN : X.N.Nodup) (hy : X.N[i]? = some y) (hly : X.env.scope.names.lookup y = some .local)
    (hi : PI X (.Name x px) iter wi) (hif : ∀ cl C s₀ H₀ fp, PIf (cxComp X scope cl N C s₀ H₀ fp) ifs tif) (he : ∀ cl C s₀ H₀ fp, PE (cxComp X scope cl N C s₀ H₀ fp) elt te)
    (h1 : compScopeOk scope N x ix = true := by decide +kernel) (h2 : X.calm = true := by rfl) (h3 : frOk N X.N scope X.env.scope fr 0 = true := by rfl) (h4 : fr.length = N.length := by rfl) (h5 : freeOk X.env.scope scope.names = true := by rfl)
    (hsw : swapsWith (.ListComp elt [⟨.Name x px, iter, ifs, 0⟩] scope pos) (some (.Name y py)) spos.line X.env = pure true := by rfl)
    (hs : ∀ x, foldedSetIterable iter X.env x = pure x := by intro _; rfl) : PS X (.Assign [.Name y py] (.ListComp elt [⟨.Name x px, iter, ifs, 0⟩] scope pos) spos) (tAsg (tComp wi fr ix tif te) (gName i)) :=
  ps_setComp hN hy hly (compScope_of h1) h2 h3 h4 (freeOk_of h5) hi hif he hsw hs
end
end L2
set_option Elab.async false
set_option linter.all false
set_option maxRecDepth 100000
set_option maxHeartbeats 4000000
namespace L2
open PySem PySem.Spec PyProof.Rows
section
variable {X : Cx} {k : Nat} {f : Addr} {fd : FuncData} {ps : List Str} {sp : Sp} {x : Str} {st : Stmt} {p pos : Pos} {e : Expr} {es : List Expr} {t : TA} {E : XK}
end
end L2
set_option Elab.async false
namespace Tr
end Tr
set_option Elab.async false
namespace Tr
end Tr
set_option Elab.async false
namespace Tr
end Tr
set_option Elab.async false
set_option linter.all false
set_option maxRecDepth 100000
set_option maxHeartbeats 4000000
namespace SM
open PySem.W PyProof.Rows
def Wp {α : Type} (lt : Nat → Nat → Bool) (n : Nat) : KasT α → (α → Prop) → Prop
  | .ret a, Q => Q a
  | .ask i j k, Q => i < n ∧ j < n ∧ Wp lt n (k (lt i j)) Q
theorem Wp.mono {α : Type} {lt : Nat → Nat → Bool} {n : Nat} {Q Q' : α → Prop} (hq : ∀ a, Q a → Q' a) : ∀ t : KasT α, Wp lt n t Q → Wp lt n t Q'
  | .ret a, h => hq a h
  | .ask i j k, h => ⟨h.1, h.2.1, Wp.mono hq (k (lt i j)) h.2.2⟩
theorem Wp.bind {α β : Type} {lt : Nat → Nat → Bool} {n : Nat} {f : α → KasT β} {Q : β → Prop} : ∀ t : KasT α, Wp lt n t (fun a => Wp lt n (f a) Q) → Wp lt n (t.bind f) Q
  | .ret _, h => h
  | .ask i j k, h => ⟨h.1, h.2.1, Wp.bind (k (lt i j)) h.2.2⟩
theorem getD_rev {p : Array Nat} {i j : Nat} (hj : j ≤ p.size) (k : Nat) : (kas_rev p i j).getD k 0 = if i ≤ k ∧ k < j then p.getD (i + j - 1 - k) 0 else p.getD k 0 := by
  have e := getElem?_mirror_all (i := i) hj k
  unfold kas_rev
  rw [Array.getD_eq_getD_getElem?, Array.getD_eq_getD_getElem?, Array.getD_eq_getD_getElem?, e]
  split <;> rfl
theorem getD_bubble {p : Array Nat} {src d : Nat} (hs : src < p.size) (hd : d ≤ src) (k : Nat) :
    (bubble p src d).getD k 0 = if k = src - d then p.getD src 0 else if src - d < k ∧ k ≤ src then p.getD (k - 1) 0 else p.getD k 0 := by
  have e := getElem?_bubble hs d hd k
  simp only [Array.getD_eq_getD_getElem?, e]
  split
  · rfl
  · split <;> rfl
section
variable {O : KeyOrd} {key : Nat → O.α} {n : Nat}
def Key (key : Nat → O.α) (p : Array Nat) (i : Nat) : O.α := key (p.getD i 0)
def Up (key : Nat → O.α) (p : Array Nat) (m : Nat) : Prop := ∀ i j, i ≤ j → j < m → O.kle (Key key p i) (Key key p j)
def Dn (key : Nat → O.α) (p : Array Nat) (m : Nat) : Prop := ∀ i j, i ≤ j → j < m → O.kle (Key key p j) (Key key p i)
structure Pm (n : Nat) (p : Array Nat) : Prop where
  perm : p.Perm (List.toArray (List.range n))
  pos : 0 < n
theorem Pm.size {p : Array Nat} (h : Pm n p) : p.size = n := by rw [h.perm.size_eq]; simp
theorem Pm.lt {p : Array Nat} (h : Pm n p) (i : Nat) : p.getD i 0 < n := by
  rw [Array.getD_eq_getD_getElem?]
  by_cases hi : i < p.size
  · rw [Array.getElem?_eq_getElem hi]
    have hm : p[i] ∈ p := Array.getElem_mem hi
    have := (h.perm.mem_iff).mp hm
    simpa using this
  · rw [Array.getElem?_eq_none (by omega)]
    exact h.pos
theorem Pm.rev {p : Array Nat} (h : Pm n p) (i j : Nat) : Pm n (kas_rev p i j) := ⟨(mirror_perm _ _ _ _).trans h.perm, h.pos⟩
theorem Pm.bubble {p : Array Nat} (h : Pm n p) (i j : Nat) : Pm n (bubble p i j) := ⟨(bubble_perm _ _ _).trans h.perm, h.pos⟩
abbrev ltOf (key : Nat → O.α) : Nat → Nat → Bool := fun i j => O.blt (key i) (key j)
theorem Up.one {p : Array Nat} : Up key p 1 := fun i j h1 h2 => by
  have : i = j := by omega
  subst this; exact KeyOrd.kle_refl _
theorem Up.more {p : Array Nat} {m : Nat} (h : Up key p m) (h1 : 1 ≤ m) (hk : O.kle (Key key p (m - 1)) (Key key p m)) : Up key p (m + 1) := fun i j hij hj => by
  by_cases e : j = m
  · subst e
    by_cases e2 : i = j
    · subst e2; exact KeyOrd.kle_refl _
    · exact KeyOrd.kle_trans (h i (j - 1) (by omega) (by omega)) hk
  · exact h i j hij (by omega)
theorem Dn.more {p : Array Nat} {m : Nat} (h : Dn key p m) (h1 : 1 ≤ m) (hk : O.kle (Key key p m) (Key key p (m - 1))) : Dn key p (m + 1) := fun i j hij hj => by
  by_cases e : j = m
  · subst e
    by_cases e2 : i = j
    · subst e2; exact KeyOrd.kle_refl _
    · exact KeyOrd.kle_trans hk (h i (j - 1) (by omega) (by omega))
  · exact h i j hij (by omega)
theorem asc {p : Array Nat} (hp : Pm n p) : ∀ (f m : Nat), 1 ≤ m → Up key p m → Wp (ltOf key) n (kas_asc p f m) fun r => m ≤ r ∧ r ≤ m + f ∧ Up key p r ∧ (r = m + f ∨ O.klt (Key key p r) (Key key p (r - 1)))
  | 0, m, _, h => ⟨Nat.le_refl _, Nat.le_refl _, h, .inl rfl⟩
  | f + 1, m, h1, h => by
    refine ⟨hp.lt _, hp.lt _, ?_⟩
    cases c : ltOf key (p.getD m 0) (p.getD (m - 1) 0) with
    | true => exact ⟨Nat.le_refl _, by omega, h, .inr c⟩
    | false =>
      simp only [Bool.false_eq_true, if_false]
      refine Wp.mono (fun r hr => ?_) _ (asc hp f (m + 1) (by omega) (h.more h1 c))
      exact ⟨by omega, by omega, hr.2.2.1, hr.2.2.2.elim (fun z => .inl (by omega)) .inr⟩
def Eq (key : Nat → O.α) (p : Array Nat) (m q : Nat) : Prop := q < m ∧ ∀ k, m - (q + 1) ≤ k → k < m → Key key p k = Key key p (m - 1)
theorem rev_eq {p : Array Nat} {m q : Nat} (h : Eq key p m q) (hm : m ≤ p.size) (k : Nat) : Key key (kas_rev p (m - (q + 1)) m) k = Key key p k := by
  unfold Key
  rw [getD_rev hm]
  split
  · have a := h.2 (m - (q + 1) + m - 1 - k) (by have := h.1; omega) (by have := h.1; omega)
    have b := h.2 k (by omega) (by omega)
    exact a.trans b.symm
  · rfl
theorem desc : ∀ (f : Nat) (p : Array Nat) (m q : Nat), Pm n p → 1 ≤ m → m + f ≤ n → Dn key p m → Eq key p m q → Wp (ltOf key) n (kas_desc f p m q) fun r => Pm n r.1 ∧ m ≤ r.2.1 ∧ r.2.1 ≤ m + f ∧ Dn key r.1 r.2.1 ∧ Eq key r.1 r.2.1 r.2.2
  | 0, p, m, q, hp, _, _, h, e => ⟨hp, Nat.le_refl _, Nat.le_refl _, h, e⟩
  | f + 1, p, m, q, hp, h1, hf, h, e => by
    refine ⟨hp.lt _, hp.lt _, ?_⟩
    have hm : m ≤ p.size := by rw [hp.size]; omega
    cases c : ltOf key (p.getD m 0) (p.getD (m - 1) 0) with
    | true =>
      have ck : O.klt (Key key p m) (Key key p (m - 1)) := c
      simp only [if_true]
      have fin : ∀ p' : Array Nat, Pm n p' → (∀ k, Key key p' k = Key key p k) → Wp (ltOf key) n (kas_desc f p' (m + 1) 0) fun r => Pm n r.1 ∧ m ≤ r.2.1 ∧ r.2.1 ≤ m + (f + 1) ∧ Dn key r.1 r.2.1 ∧ Eq key r.1 r.2.1 r.2.2 := fun p' hp' hk => by
        have hd : Dn key p' (m + 1) := fun i j hij hj => by rw [hk, hk]; exact h.more h1 (KeyOrd.kle_of_klt ck) i j hij hj
        have he : Eq key p' (m + 1) 0 := ⟨by omega, fun k h1 h2 => by rw [show k = m + 1 - 1 by omega]⟩
        exact Wp.mono (fun r hr => ⟨hr.1, by omega, by omega, hr.2.2.2.1, hr.2.2.2.2⟩) _ (desc f p' (m + 1) 0 hp' (by omega) (by omega) hd he)
      split
      · exact fin _ (hp.rev _ _) (rev_eq e hm)
      · exact fin _ hp fun _ => rfl
    | false =>
      simp only [Bool.false_eq_true, if_false]
      refine ⟨hp.lt _, hp.lt _, ?_⟩
      cases d : ltOf key (p.getD (m - 1) 0) (p.getD m 0) with
      | true =>
        simp only [if_true]
        exact ⟨hp, Nat.le_refl _, Nat.le_add_right _ _, h, e⟩
      | false =>
        simp only [Bool.false_eq_true, if_false]
        have ek : Key key p m = Key key p (m - 1) := KeyOrd.kle_antisymm (show O.kle (Key key p m) (Key key p (m - 1)) from d) (show O.kle (Key key p (m - 1)) (Key key p m) from c)
        refine Wp.mono (fun r hr => ⟨hr.1, by omega, by omega, hr.2.2.2.1, hr.2.2.2.2⟩) _ (desc f p (m + 1) (q + 1) hp (by omega) (by omega) (h.more h1 (by rw [ek]; exact KeyOrd.kle_refl _)) ⟨by have := e.1; omega, fun k h2 h3 => ?_⟩)
        rw [show m + 1 - 1 = m by omega, ek]
        by_cases z : k = m
        · rw [z, ek]
        · exact e.2 k (by omega) (by omega)
theorem up_rev {p : Array Nat} {m : Nat} (h : Dn key p m) (hm : m ≤ p.size) : Up key (kas_rev p 0 m) m := fun i j hij hj => by
  unfold Key
  rw [getD_rev hm, getD_rev hm, if_pos ⟨Nat.zero_le _, by omega⟩, if_pos ⟨Nat.zero_le _, by omega⟩]
  exact h (0 + m - 1 - j) (0 + m - 1 - i) (by omega) (by omega)
theorem tail3 {p : Array Nat} {m : Nat} (hp : Pm n p) (h1 : 1 ≤ m) (hm : m ≤ n) (h : Dn key p m) : Wp (ltOf key) n (kas_tail3 m n p) fun r => Pm n r.2 ∧ 1 ≤ r.1 ∧ r.1 ≤ n ∧ Up key r.2 r.1 := by
  unfold kas_tail3
  refine Wp.bind _ (Wp.mono (fun r hr => ?_) _ (asc (hp.rev 0 m) (n - m) m h1 (up_rev h (by rw [hp.size]; exact hm))))
  exact ⟨hp.rev 0 m, by omega, by omega, hr.2.2.1⟩
theorem descPart {p : Array Nat} {m : Nat} (hp : Pm n p) (h1 : 1 ≤ m) (hm : m + 1 ≤ n) (h : Dn key p (m + 1)) : Wp (ltOf key) n (kas_descPart m n p) fun r => Pm n r.2 ∧ 1 ≤ r.1 ∧ r.1 ≤ n ∧ Up key r.2 r.1 := by
  unfold kas_descPart
  refine Wp.bind _ (Wp.mono (fun r hr => ?_) _ (desc (n - (m + 1)) p (m + 1) 0 hp (by omega) (by omega) h ⟨by omega, fun k h1 h2 => by rw [show k = m + 1 - 1 by omega]⟩))
  obtain ⟨a, b, c, d, e⟩ := hr
  have hz : r.2.1 ≤ r.1.size := by rw [a.size]; omega
  split
  · refine tail3 (a.rev _ _) (by omega) (by omega) fun i j hij hj => ?_
    rw [rev_eq e hz, rev_eq e hz]
    exact d i j hij hj
  · exact tail3 a (by omega) (by omega) d
theorem count {p : Array Nat} (hp : Pm n p) : Wp (ltOf key) n (kas_count n p) fun r => Pm n r.2 ∧ 1 ≤ r.1 ∧ r.1 ≤ n ∧ Up key r.2 r.1 := by
  have hn := hp.pos
  unfold kas_count
  refine Wp.bind _ (Wp.mono (fun m hm => ?_) _ (asc hp (n - 1) 1 (Nat.le_refl _) Up.one))
  obtain ⟨h1, h2, h3, h4⟩ := hm
  split
  · exact ⟨hp, h1, by omega, h3⟩
  · rename_i hne
    have hne' : m ≠ n := by simpa using hne
    have hk : O.klt (Key key p m) (Key key p (m - 1)) := by
      rcases h4 with z | z
      · exact absurd (by omega) hne'
      · exact z
    have hz : m ≤ p.size := by rw [hp.size]; omega
    split
    · refine ⟨hp.lt _, hp.lt _, ?_⟩
      cases c : ltOf key (p.getD 0 0) (p.getD (m - 1) 0) with
      | true => simp only [if_true]; exact ⟨hp, h1, by omega, h3⟩
      | false =>
        simp only [Bool.false_eq_true, if_false]
        have all : ∀ k, k < m → Key key p k = Key key p (m - 1) := fun k hk' => KeyOrd.kle_antisymm (h3 k (m - 1) (by omega) (by omega)) (KeyOrd.kle_trans (show O.kle (Key key p (m - 1)) (Key key p 0) from c) (h3 0 k (by omega) hk'))
        have ek : ∀ k, Key key (kas_rev p 0 m) k = Key key p k := fun k => by
          by_cases hk' : k < m
          · have : Key key (kas_rev p 0 m) k = Key key p (0 + m - 1 - k) := by
              unfold Key; rw [getD_rev hz, if_pos ⟨Nat.zero_le _, hk'⟩]
            rw [this, all _ (by omega), all k hk']
          · unfold Key; rw [getD_rev hz, if_neg (by omega)]
        refine descPart (hp.rev _ _) h1 (by omega) fun i j hij hj => ?_
        rw [ek, ek]
        by_cases e : j = m
        · subst e
          by_cases e2 : i = j
          · subst e2; exact KeyOrd.kle_refl _
          · rw [all i (by omega)]; exact KeyOrd.kle_of_klt hk
        · rw [all i (by omega), all j (by omega)]; exact KeyOrd.kle_refl _
    · have : m = 1 := by omega
      subst this
      refine descPart hp h1 (by omega) fun i j hij hj => ?_
      by_cases e : i = j
      · subst e; exact KeyOrd.kle_refl _
      · rw [show i = 0 by omega, show j = 1 by omega]
        exact KeyOrd.kle_of_klt hk
theorem place {p : Array Nat} {k : Nat} (hp : Pm n p) (hs : Up key p k) : ∀ (f l r : Nat), l ≤ r → r ≤ k → r - l ≤ f → (∀ i, i < l → O.kle (Key key p i) (Key key p k)) → (∀ i, r ≤ i → i < k → O.klt (Key key p k) (Key key p i)) →
    Wp (ltOf key) n (kas_place p k f l r) fun x => x ≤ k ∧ (∀ i, i < x → O.kle (Key key p i) (Key key p k)) ∧ ∀ i, x ≤ i → i < k → O.klt (Key key p k) (Key key p i)
  | 0, l, r, h1, h2, h3, a, b => by
    have : l = r := by omega
    subst this
    exact ⟨h2, a, b⟩
  | f + 1, l, r, h1, h2, h3, a, b => by
    unfold kas_place
    split
    · have : l = r := by omega
      subst this
      exact ⟨h2, a, b⟩
    · refine ⟨hp.lt _, hp.lt _, ?_⟩
      cases c : ltOf key (p.getD k 0) (p.getD ((l + r) / 2) 0) with
      | true =>
        simp only [if_true]
        exact place hp hs f l ((l + r) / 2) (by omega) (by omega) (by omega) a fun i x1 x2 => KeyOrd.klt_of_klt_of_kle (show O.klt (Key key p k) (Key key p ((l + r) / 2)) from c) (hs _ _ x1 x2)
      | false =>
        simp only [Bool.false_eq_true, if_false]
        exact place hp hs f ((l + r) / 2 + 1) r (by omega) h2 (by omega) (fun i x1 => KeyOrd.kle_trans (hs i ((l + r) / 2) (by omega) (by omega)) (show O.kle (Key key p ((l + r) / 2)) (Key key p k) from c)) b
theorem bin : ∀ (f : Nat) (p : Array Nat) (k : Nat), Pm n p → 1 ≤ k → k + f = n → Up key p k → Wp (ltOf key) n (kas_bin f p k) fun r => Pm n r ∧ Up key r n
  | 0, p, k, hp, _, hk, h => by
    have : k = n := by omega
    subst this
    exact ⟨hp, h⟩
  | f + 1, p, k, hp, h1, hk, h => by
    have hks : k < p.size := by rw [hp.size]; omega
    refine Wp.bind _ (Wp.mono (fun l hl => ?_) _ (place hp h k 0 k (Nat.zero_le _) (Nat.le_refl _) (by omega) (fun i z => absurd z (by omega)) fun i z1 z2 => absurd z1 (by omega)))
    obtain ⟨hlk, hlo, hhi⟩ := hl
    refine bin f _ (k + 1) (hp.bubble _ _) (by omega) (by omega) fun i j hij hj => ?_
    have kb : ∀ x, Key key (PyProof.Rows.bubble p k (k - l)) x = if x = l then Key key p k else if l < x ∧ x ≤ k then Key key p (x - 1) else Key key p x := fun x => by
      unfold Key
      rw [getD_bubble hks (by omega), show k - (k - l) = l by omega]
      split
      · rfl
      · split <;> rfl
    rw [kb, kb]
    repeat' split
    all_goals first
      | (exfalso; omega)
      | exact KeyOrd.kle_refl _
      | exact hlo _ (by omega)
      | exact KeyOrd.kle_of_klt (hhi _ (by omega) (by omega))
      | exact h _ _ (by omega) (by omega)
theorem sort (hn : 0 < n) : Wp (ltOf key) n (kas_sort n) fun p => Pm n p ∧ Up key p n := by
  have hp : Pm n (List.toArray (List.range n)) := ⟨Array.Perm.refl _, hn⟩
  unfold kas_sort
  refine Wp.bind _ (Wp.mono (fun r hr => ?_) _ (count hp))
  obtain ⟨a, b, c, d⟩ := hr
  split
  · rw [show max r.1 1 = r.1 by omega]
    exact bin _ _ _ a b (by omega) d
  · have : r.1 = n := by omega
    rw [this] at d
    exact ⟨a, d⟩
end
end SM
set_option Elab.async false
set_option linter.all false
set_option maxRecDepth 100000
set_option maxHeartbeats 4000000
namespace TH
open PySem PyProof.Rows PySem.SeqAt
section
open PySem.AutoSeq1 (wpAny_loadPart')
open PySem.MeetsSeq PySem.MeetsSeq2 PySem.MeetsSeq3
end
section
open PySem.AutoSeq1 (wpAny_loadPart')
open PySem.MeetsSeq PySem.MeetsSeq2 PySem.MeetsSeq3
end
end TH
set_option Elab.async false
set_option linter.all false
set_option maxRecDepth 100000
set_option maxHeartbeats 4000000
namespace Tr
end Tr
namespace TH
open PySem PySem.W PyProof.Rows PySem.SeqAt
section
variable {prog : Program} {w : World} {A : Around} {E : Value → Shared → Prop} {s : Shared} {t u : Tr} {a b : Addr} {its its' : List Value} {Q : Bool → Shared → Prop}
theorem tuple_looks {M : Model} {h : Heap} {a : Addr} {x : Array Value} (h1 : h.IsTuple a x) : Looks M h (typeOf (.ref a)) (.type "tuple") := by
  obtain ⟨o, ho, hc, _⟩ := h1
  exact hc ▸ (Looks.ld ho).andThen .now
theorem only_tr {M : Model} {vs : List Value} {Q : Option Value → Shared → Prop} (hT : ∀ v ∈ vs, Looks M s.heap (typeOf v) (.type "tuple")) (h0 : vs = [] → Q none s) (h1 : Q (some (.type "tuple")) s) : wpAny M A (oneTypeOnly' vs.toArray) Q E s := by
  rw [oneTypeOnly'_eq, List.mapM_toArray, map_eq_pure_bind]
  refine wpAny_bind (wpAny_bind (kas_mapM (r := Value.type "tuple") _ (fun v hv Q' hq => (hT v hv).here hq) (wpAny_pure ?_)))
  cases vs with
  | nil => exact wpAny_pure (h0 rfl)
  | cons f r =>
    have hall : ((List.map (fun _ => Value.type "tuple") (f :: r)).toArray.all fun x => x == Value.type "tuple") = true := by
      simp only [List.all_toArray, List.all_map, List.all_eq_true]
      intro _ _
      rfl
    have e0 : (List.map (fun _ => Value.type "tuple") (f :: r)).toArray[0]? = some (Value.type "tuple") := by simp
    rw [e0]
    simp only [hall, if_true]
    exact wpAny_pure h1
theorem kasWp_of {α : Type} {cmp : Nat → Nat → (Bool → Shared → Prop) → Shared → Prop} {lt : Nat → Nat → Bool} {n : Nat} {Q' : α → Prop} (hc : ∀ i j C, i < n → j < n → C (lt i j) s → cmp i j C s) : ∀ T : KasT α, SM.Wp lt n T Q' → T.kasWp cmp (fun a s' => s' = s ∧ Q' a) s
  | .ret a, h => ⟨rfl, h⟩
  | .ask i j k, h => hc i j _ h.1 h.2.1 (kasWp_of hc (k (lt i j)) h.2.2)
end
end TH
set_option Elab.async false
set_option linter.all false
set_option maxRecDepth 100000
set_option maxHeartbeats 4000000
namespace TH
open PySem PySem.W PyProof.Rows PySem.SeqAt
theorem map_getD {α : Type} (d : α) (l : List α) : (List.range l.length).map (fun i => l.getD i d) = l := by
  refine List.ext_getElem (by simp) fun i h1 h2 => ?_
  simp [h2]
section
variable {prog : Program} {w : World} {A : Around} {E : Value → Shared → Prop} {s : Shared}
theorem short_out (b : Bool) (us : List Value) (hz : us.length < 2) : (if b = true then ((if b = true then (us.toArray.zip us.toArray).reverse else us.toArray.zip us.toArray).map (·.2)).reverse else (if b = true then (us.toArray.zip us.toArray).reverse else us.toArray.zip us.toArray).map (·.2)) = us.toArray := by
  match us, hz with
  | [], _ => cases b <;> simp
  | [x], _ => cases b <;> simp
end
end TH
set_option Elab.async false
set_option linter.all false
set_option maxRecDepth 100000
set_option maxHeartbeats 4000000
namespace TH
open PySem PySem.W PyProof.Rows PySem.SeqAt
section
variable {prog : Program} {w : World} {A : Around} {E : Value → Shared → Prop} {s : Shared}
end
end TH
set_option Elab.async false
set_option linter.all false
set_option maxRecDepth 100000
set_option maxHeartbeats 4000000
namespace Tim
open PySem PyProof.Rows
section pure
variable (N : Nat) (lt : Nat → Nat → Bool)
end pure
section
variable {M : Model} {A : Around} {E : Value → Shared → Prop} {s : Shared} {σ : Type}
end
section
variable {prog : Program} {w : World} {A : Around} {E : Value → Shared → Prop} {s : Shared} {N : Nat} {lt : Nat → Nat → Bool} {κ : SortKind} {it : Nat → Keyed}
variable {p : Array Nat} {pend : Array (Nat × Nat × Nat)} {g : Nat}
section pure
variable (N : Nat) (lt : Nat → Nat → Bool) (a b : Array Nat)
end pure
section pure
variable (N : Nat) (lt : Nat → Nat → Bool)
end pure
end
end Tim
set_option Elab.async false
set_option linter.all false
set_option maxRecDepth 100000
set_option maxHeartbeats 4000000
namespace GS
open PySem PySem.W PyProof.Rows PySem.SeqAt
abbrev Ext (h0 h : Heap) : Prop := ∀ c o, h0.get? c = some o → h.get? c = some o
def Asks (O : KeyOrd) (prog : Program) (w : World) (κ : SortKind) (A : Around) (s : Shared) (ks : List O.α) (us : List Value) : Prop :=
  ∀ (E : Value → Shared → Prop) (i j : Nat) (x y : O.α) (u v : Value) (Q : Bool → Shared → Prop), us[i]? = some u → us[j]? = some v → ks[i]? = some x → ks[j]? = some y → Q (O.blt x y) s → wpAny (model prog w) A (keyLt' κ u v) Q E s
structure Cmp (O : KeyOrd) (prog : Program) (w : World) (h0 : Heap) (r : Nat) (ks : List O.α) (us : List Value) : Prop where
  len : us.length = ks.length
  go : ∃ ok : SortKind → Prop, (∀ (A : Around) (E : Value → Shared → Prop) (s : Shared) (Q : SortKind → Shared → Prop), Ext h0 s.heap → (∀ κ, ok κ → Q κ s) → wpAny (model prog w) A (keyKind' us.toArray) Q E s) ∧
    ∀ (A : Around) (s : Shared) (κ : SortKind), Ext h0 s.heap → A.units + r < cLine → ok κ → Asks O prog w κ A s ks us
def Runs (O : KeyOrd) (prog : Program) (w : World) (ks : List O.α) : Prop :=
  ∀ (d : O.α) (A : Around) (E : Value → Shared → Prop) (s : Shared) (κ : SortKind) (ws : List Value), ws.length = ks.length → 2 ≤ ws.length → Asks O prog w κ A s ks ws →
    wpAny (model prog w) A ((sortRuns').run (SortSt.mk' κ (ws.toArray.zip ws.toArray) #[] 7 none)) (fun r s' => s' = s ∧ failedOf r.2 = none ∧ ∃ ix : List Nat, ix.Perm (List.range ws.length) ∧
      (arrOf r.2).map (·.2) = (ix.map fun i => ws.getD i Value.none).toArray ∧ (ix.map fun i => ks.getD i d).Pairwise O.kle) E s
theorem runs_small {O : KeyOrd} {prog : Program} {w : World} {ks : List O.α} (h64 : ks.length < 64) : Runs O prog w ks := by
  intro d A E s κ ws hl h2 ask
  have h64 : ws.length < 64 := by omega
  refine kat_run (Q := fun st' s' => s' = s ∧ failedOf st' = none ∧ ∃ ix : List Nat, ix.Perm (List.range ws.length) ∧ (arrOf st').map (·.2) = (ix.map fun i => ws.getD i Value.none).toArray ∧ (ix.map fun i => ks.getD i d).Pairwise O.kle)
    (G := fun p s' => s' = s ∧ SM.Pm ws.length p ∧ SM.Up (O := O) (fun i => ks.getD i d) p ws.length) rfl h2 h64 (fun p st' s' hp har hf hG => ?_)
    (TH.kasWp_of (lt := SM.ltOf (O := O) fun i => ks.getD i d) (n := ws.length) (fun i j C hi hj hC => ?_) _ (SM.sort (by omega)))
  · obtain ⟨rfl, hpm, hup⟩ := hG
    have h1 : p.toList.Perm (List.range ws.length) := by simpa using Array.perm_iff_toList_perm.mp hpm.perm
    refine ⟨rfl, hf, p.toList, h1, kat_snds rfl har, ?_⟩
    refine List.pairwise_iff_getElem.mpr fun i j hi hj hij => ?_
    rw [List.length_map, Array.length_toList, hp] at hi hj
    have := hup i j (by omega) hj
    have e1 : ∀ k, k < ws.length → ∀ hk, (p.toList.map fun i => ks.getD i d)[k]'hk = ks.getD (p.getD k 0) d := fun k hk hk' => by
      rw [List.getElem_map, Array.getElem_toList, Array.getD, dif_pos (by omega)]
      rfl
    rw [e1 i hi, e1 j hj]
    exact this
  · have gi : ∀ k, k < ws.length → ∃ u x, ws[k]? = some u ∧ ks[k]? = some x ∧ ws.getD k Value.none = u ∧ ks.getD k d = x := fun k hk => by
      refine ⟨ws[k], ks[k]'(by omega), List.getElem?_eq_getElem hk, List.getElem?_eq_getElem (by omega), ?_, ?_⟩
      · rw [List.getD_eq_getElem?_getD, List.getElem?_eq_getElem hk]; rfl
      · rw [List.getD_eq_getElem?_getD, List.getElem?_eq_getElem (by omega)]; rfl
    obtain ⟨u, x, q1, q2, q3, q4⟩ := gi i hi
    obtain ⟨v, y, r1, r2, r3, r4⟩ := gi j hj
    unfold kas_ask
    rw [q3, r3]
    refine ask _ i j x y u v C q1 r1 q2 r2 ?_
    have hC : C (O.blt (ks.getD i d) (ks.getD j d)) s := hC
    rw [q4, r4] at hC
    exact hC
section
variable {O : KeyOrd} {prog : Program} {w : World} {A : Around} {E : Value → Shared → Prop} {s : Shared} {h0 : Heap} {r : Nat} {ks : List O.α} {us : List Value}
theorem Asks.rev {κ : SortKind} (hl : us.length = ks.length) (a : Asks O prog w κ A s ks us) : Asks O prog w κ A s ks.reverse us.reverse := fun E i j x y u v Q h1 h2 h3 h4 q => by
  have b1 := (List.getElem?_eq_some_iff.mp h1).1
  have b2 := (List.getElem?_eq_some_iff.mp h2).1
  rw [List.length_reverse] at b1 b2
  rw [List.getElem?_reverse (by omega)] at h1 h2 h3 h4
  rw [← hl] at h3 h4
  exact a E _ _ x y u v Q h1 h2 h3 h4 q
theorem pair_one {α : Type} {R : α → α → Prop} : ∀ {l : List α}, l.length < 2 → l.Pairwise R
  | [], _ => .nil
  | [_], _ => List.pairwise_singleton ..
  | _ :: _ :: _, h => by simp at h; omega
theorem list_sort (d : O.α) {a : Addr} {n : Nat} {b : Bool} {P : PySem.Fin → Shared → Prop} (C : Cmp O prog w h0 r ks us) (hx : Ext h0 s.heap) (ha0 : h0.objs.size ≤ a) (ho : s.heap.get? a = some (seqObj "list" us.toArray n)) (hsz : us.length ≤ 1000) (hr : Runs O prog w (if b then ks.reverse else ks)) (hu : A.units + r < cLine)
    (h : ∀ ix : List Nat, ix.Perm (List.range us.length) → (ix.map fun i => ks.getD i d).Pairwise (fun x y => if b = true then O.kle y x else O.kle x y) → P (.done (.ret .none)) { s with heap := sortedHeap s.heap a us (ix.map fun i => us.getD i Value.none).toArray }) :
    wpAny (model prog w) A (Builtin.«list.sort» ⟨[.ref a], [(Str.ofString "reverse", .bool b)]⟩) P E s := by
  rw [list_sort_rev]
  have ha : a < s.heap.objs.size := Heap.lt_size ho
  refine wpAny_bind (listItems_at ho rfl ?_)
  refine wpAny_bind (listUpdate_at ho rfl ?_ (by rw [List.size_toArray, sizeLine_eq]; omega) (Nat.zero_le _))
  obtain ⟨e1, ho1⟩ : ∃ e1, (s.heap.update a (Obj.mapSeq fun _ => #[])).get? a = some (seqObj "list" #[] e1) := ⟨_, get?_update_seq ho (fun _ => #[])⟩
  refine wpAny_bind (seqEpoch_at ho1 rfl ?_)
  refine wpAny_bind (wpAny_newTuple ?_ (by show us.length ≤ _; rw [sizeLine_eq]; omega))
  refine wpAny_bind (wpAny_newList ?_ (Nat.zero_le _))
  refine wpAny_holding ?_
  have ho6 : (((s.heap.update a (Obj.mapSeq fun _ => #[])).push (seqObj "tuple" us.toArray 0)).push (seqObj "list" #[] 0)).get? a = some (seqObj "list" #[] e1) := by
    rw [Heap.get?_push_ne _ _ _ (by rw [size_push', Heap.size_update]; exact Nat.ne_of_lt (Nat.lt_succ_of_lt ha)), Heap.get?_push_ne _ _ _ (by rw [Heap.size_update]; exact Nat.ne_of_lt ha)]
    exact ho1
  have keep : Ext h0 (((s.heap.update a (Obj.mapSeq fun _ => #[])).push (seqObj "tuple" us.toArray 0)).push (seqObj "list" #[] 0)) := fun c o hc => by
    have hlt : c < h0.objs.size := Heap.lt_size hc
    have hne : c ≠ a := fun z => Nat.not_lt.mpr ha0 (z ▸ hlt)
    refine Heap.get?_push_of_some _ (Heap.get?_push_of_some _ ?_)
    rw [Heap.get?_update_ne _ _ _ _ hne]
    exact hx c o hc
  show wpAny (model prog w) A _ P E { s with heap := ((s.heap.update a (Obj.mapSeq fun _ => #[])).push (seqObj "tuple" us.toArray 0)).push (seqObj "list" #[] 0) }
  dsimp only
  have step : ∀ T : Sem PySem.Fin, wpAny (model prog w) A T P E { s with heap := ((s.heap.update a (Obj.mapSeq fun _ => #[])).push (seqObj "tuple" us.toArray 0)).push (seqObj "list" #[] 0) } →
      wpAny (model prog w) A (if b = true then (do let _ ← rule "list.sort.reverse"; T) else T) P E { s with heap := ((s.heap.update a (Obj.mapSeq fun _ => #[])).push (seqObj "tuple" us.toArray 0)).push (seqObj "list" #[] 0) } := by
    intro T hT
    split
    · exact wpAny_bind (wpAny_rule hT)
    · exact hT
  refine step _ ?_
  obtain ⟨ok, hkind, hask⟩ := C.go
  have hl := C.len
  by_cases h2 : us.toArray.size < 2
  · rw [if_pos h2, if_pos h2]
    refine wpAny_bind (wpAny_pure ?_)
    rw [StateT.run_pure]
    refine wpAny_bind (wpAny_pure ?_)
    dsimp only
    have hz : us.length < 2 := by simpa using h2
    have hout := TH.short_out b us hz
    refine wpAny_bind (seqEpoch_at ho6 rfl ?_)
    refine wpAny_bind (listUpdate_at ho6 rfl ?_ (Nat.zero_le _) (by
      refine Nat.le_trans (Nat.le_of_eq (congrArg Array.size hout)) ?_
      rw [List.size_toArray, sizeLine_eq]; omega))
    simp only [bne_self_eq_false, Bool.false_eq_true, if_false]
    have fin := h (List.range us.length) (.refl _) (pair_one (by simpa using hz))
    rw [TH.map_getD] at fin
    rw [← hout] at fin
    exact wpAny_pure fin
  · rw [if_neg h2, if_neg h2]
    have hz : 2 ≤ us.length := by simpa using h2
    refine wpAny_bind (hkind A E { s with heap := ((s.heap.update a (Obj.mapSeq fun _ => #[])).push (seqObj "tuple" us.toArray 0)).push (seqObj "list" #[] 0) } _ keep fun κ hκ => ?_)
    have ask := hask A { s with heap := ((s.heap.update a (Obj.mapSeq fun _ => #[])).push (seqObj "tuple" us.toArray 0)).push (seqObj "list" #[] 0) } κ keep hu hκ
    obtain ⟨ws, kw, aw, hwl, hwk, hws, hrw, pick⟩ : ∃ (ws : List Value) (kw : List O.α), Asks O prog w κ A { s with heap := ((s.heap.update a (Obj.mapSeq fun _ => #[])).push (seqObj "tuple" us.toArray 0)).push (seqObj "list" #[] 0) } kw ws ∧ ws.length = us.length ∧ ws.length = kw.length ∧
        (if b = true then (us.toArray.zip us.toArray).reverse else us.toArray.zip us.toArray) = ws.toArray.zip ws.toArray ∧ Runs O prog w kw ∧
        ∀ ix : List Nat, ix.Perm (List.range ws.length) → (ix.map fun i => kw.getD i d).Pairwise O.kle → ∃ iy : List Nat, iy.Perm (List.range us.length) ∧ (iy.map fun i => ks.getD i d).Pairwise (fun x y => if b = true then O.kle y x else O.kle x y) ∧
          (if b = true then ((ix.map fun i => ws.getD i Value.none).toArray).reverse else (ix.map fun i => ws.getD i Value.none).toArray) = (iy.map fun i => us.getD i Value.none).toArray := by
      cases b with
      | false => exact ⟨us, ks, ask, rfl, hl, rfl, hr, fun ix h1 h2 => ⟨ix, h1, by simpa using h2, rfl⟩⟩
      | true =>
        refine ⟨us.reverse, ks.reverse, ask.rev hl, by simp, by simp [hl], kat_pairs (ks := us) (vs := us) true rfl, hr, fun ix h1 h2 => ⟨(ix.map fun i => us.length - 1 - i).reverse, ?_, ?_, ?_⟩⟩
        · rw [List.length_reverse] at h1
          refine (List.reverse_perm _).trans ((h1.map fun i => us.length - 1 - i).trans ?_)
          have : (List.range us.length).map (fun i => us.length - 1 - i) = (List.range us.length).reverse := by
            refine List.ext_getElem (by simp) fun i a1 a2 => ?_
            simp
          rw [this]
          exact List.reverse_perm _
        · have hb : ∀ i ∈ ix, i < us.length := fun i hi => by simpa using h1.mem_iff.mp hi
          have e : ((ix.map fun i => us.length - 1 - i).reverse.map fun i => ks.getD i d) = (ix.map fun i => ks.reverse.getD i d).reverse := by
            rw [List.map_reverse, List.map_map]
            congr 1
            exact List.map_congr_left fun i hi => by
              have := hb i hi
              show ks.getD (us.length - 1 - i) d = _
              rw [List.getD_eq_getElem?_getD, List.getD_eq_getElem?_getD, List.getElem?_reverse (by omega), hl]
          rw [e, List.pairwise_reverse]
          simpa using h2
        · have hb : ∀ i ∈ ix, i < us.length := fun i hi => by simpa using h1.mem_iff.mp hi
          rw [if_pos rfl, List.map_reverse, List.map_map, List.reverse_toArray]
          congr 2
          exact List.map_congr_left fun i hi => by
            have := hb i hi
            show us.reverse.getD i Value.none = us.getD (us.length - 1 - i) Value.none
            rw [List.getD_eq_getElem?_getD, List.getD_eq_getElem?_getD, List.getElem?_reverse (by omega)]
    rw [hws]
    refine wpAny_bind (wpAny_mono (hrw d A E { s with heap := ((s.heap.update a (Obj.mapSeq fun _ => #[])).push (seqObj "tuple" us.toArray 0)).push (seqObj "list" #[] 0) } κ ws hwk (by omega) aw) ?_ fun _ _ z => z)
    rintro ⟨⟨⟩, st'⟩ s' ⟨rfl, hf, ix, hix, hout, hst⟩
    dsimp only
    refine wpAny_bind (seqEpoch_at ho6 rfl ?_)
    obtain ⟨iy, y1, y2, hfin⟩ : ∃ iy : List Nat, iy.Perm (List.range us.length) ∧ (iy.map fun i => ks.getD i d).Pairwise (fun x y => if b = true then O.kle y x else O.kle x y) ∧
        (if b = true then ((arrOf st').map (·.2)).reverse else (arrOf st').map (·.2)) = (iy.map fun i => us.getD i Value.none).toArray := by
      rw [show (arrOf st').map (·.2) = _ from hout]
      exact pick ix hix hst
    refine wpAny_bind (listUpdate_at ho6 rfl ?_ (Nat.zero_le _) (by
      refine Nat.le_trans (Nat.le_of_eq (congrArg Array.size hfin)) ?_
      have := y1.length_eq
      rw [List.length_range] at this
      rw [List.size_toArray, List.length_map, this, sizeLine_eq]; omega))
    rw [show failedOf st' = none from hf]
    simp only [bne_self_eq_false, Bool.false_eq_true, if_false]
    have fin := h iy y1 y2
    rw [← hfin] at fin
    exact wpAny_pure fin
theorem sorted_tail (d : O.α) {b : Bool} {Q : Value → Shared → Prop} {h1 : Heap} {tk : Nat} {T : Sem PySem.Fin} (C : Cmp O prog w s.heap r ks us) (hsz : us.length ≤ 1000) (hr : Runs O prog w (if b then ks.reverse else ks)) (x1 : Ext s.heap h1) (z1 : s.heap.objs.size ≤ h1.objs.size)
    (h : ∀ (h' : Heap) (D tk : Nat) (ix : List Nat) (e1 : Nat), s.heap.objs.size ≤ D → Ext s.heap h' → h'.get? D = some (seqObj "list" (ix.map fun i => us.getD i Value.none).toArray e1) → ix.Perm (List.range us.length) → (ix.map fun i => ks.getD i d).Pairwise (fun x y => if b = true then O.kle y x else O.kle x y) → Q (.ref D) { s with heap := h', toks := tk }) :
    (h1.push (seqObj "list" us.toArray 0)).get? h1.objs.size = some (seqObj "list" us.toArray 0) ∧ Ext s.heap (h1.push (seqObj "list" us.toArray 0)) ∧
    ∀ ix : List Nat, ix.Perm (List.range us.length) → (ix.map fun i => ks.getD i d).Pairwise (fun x y => if b = true then O.kle y x else O.kle x y) → Q (.ref h1.objs.size) { s with heap := sortedHeap (h1.push (seqObj "list" us.toArray 0)) h1.objs.size us (ix.map fun i => us.getD i Value.none).toArray, toks := tk } := by
  have g1 : (h1.push (seqObj "list" us.toArray 0)).get? h1.objs.size = some (seqObj "list" us.toArray 0) := Heap.get?_push_size _ rfl
  refine ⟨g1, fun b u e => Heap.get?_push_of_some _ (x1 b u e), fun ix p1 p2 => ?_⟩
  obtain ⟨e1, he1⟩ := sortedHeap_at (vs := us) (out := (ix.map fun i => us.getD i Value.none).toArray) g1
  refine h _ h1.objs.size tk ix e1 z1 (fun b u e => ?_) he1 p1 p2
  have lb : b < h1.objs.size := Heap.lt_size (x1 b u e)
  rw [sortedHeap_old (Nat.ne_of_lt lb) (by rw [Heap.size_push]; exact Nat.lt_succ_of_lt lb)]
  exact Heap.get?_push_of_some _ (x1 b u e)
end
end GS
set_option Elab.async false
set_option linter.all false
set_option maxRecDepth 100000
set_option maxHeartbeats 0
namespace Tr
end Tr
set_option Elab.async false
set_option linter.all false
set_option maxRecDepth 100000
set_option maxHeartbeats 4000000
namespace Tr
end Tr
set_option Elab.async false
set_option linter.all false
set_option maxRecDepth 100000
set_option maxHeartbeats 4000000
namespace TH
open PySem PySem.W PyProof.Rows PySem.SeqAt
section
open PySem.AutoSeq1 (wpAny_loadPart')
open PySem.MeetsSeq PySem.MeetsSeq2 PySem.MeetsSeq3
end
end TH
set_option Elab.async false
set_option linter.all false
set_option maxRecDepth 100000
set_option maxHeartbeats 4000000
namespace TH
open PySem PySem.W PyProof.Rows PySem.SeqAt
theorem tup_ext {h h' : Heap} (k : GS.Ext h h') {a : Addr} {x : Array Value} (e : h.IsTuple a x) : h'.IsTuple a x := let ⟨o, e1, c, n, d⟩ := e; ⟨o, k _ _ e1, c, n, d⟩
section
open PySem.MeetsSeq PySem.MeetsSeq2 PySem.MeetsSeq3
variable {prog : Program} {w : World} {A : Around} {E : Value → Shared → Prop} {s : Shared}
def TupTup (h : Heap) (v : Value) : Prop := ∃ (a b : Addr) (xs : Array Value) (its : List Value), v = .ref a ∧ h.IsTuple a ((.ref b :: its).toArray) ∧ h.IsTuple b xs
theorem firsts_tt {M : Model} : ∀ (us : List Value) {Q : List (Option Value) → Shared → Prop}, (∀ v ∈ us, TupTup s.heap v) → (∀ fs : List Value, fs.length = us.length → (∀ v ∈ fs, Looks M s.heap (typeOf v) (.type "tuple")) → Q (fs.map some) s) → wpAny M A (us.mapM firstOfTuple') Q E s
  | [], Q, _, h => by
    rw [List.mapM_nil]
    exact wpAny_pure (h [] rfl fun _ z => by cases z)
  | v :: us, Q, e, h => by
    obtain ⟨a, b, xs, its, rfl, h1, h2⟩ := e v List.mem_cons_self
    obtain ⟨o, ho, hc, n, hd⟩ := id h1
    rw [List.mapM_cons]
    refine wpAny_bind ?_
    rw [kas_first_eq]
    refine wpAny_bind (Looks.here (show Looks M s.heap (typeOf (.ref a)) o.cls from (Looks.ld ho).andThen .now) ?_)
    rw [hc, if_neg (by first | decide | simp)]
    refine wpAny_bind (listItems_at ho hd (wpAny_pure ?_))
    refine wpAny_bind (firsts_tt us (Q := fun bs s' => wpAny M A (pure ((.ref b :: its).toArray[0]? :: bs)) Q E s') (fun v hv => e v (List.mem_cons_of_mem _ hv)) fun fs hl hfs => wpAny_pure ?_)
    have := h (.ref b :: fs) (by simp [hl]) fun v hv => by
      rcases List.mem_cons.mp hv with rfl | hv
      · exact tuple_looks h2
      · exact hfs v hv
    simpa using this
theorem kind_tt {M : Model} {us : List Value} {Q : SortKind → Shared → Prop} (e : ∀ v ∈ us, TupTup s.heap v) (h : Q (tuples' false) s) : wpAny M A (keyKind' us.toArray) Q E s := by
  rw [kat_kind_eq, List.mapM_toArray, map_eq_pure_bind]
  refine wpAny_bind (wpAny_bind (firsts_tt us e fun fs hl hfs => wpAny_pure ?_))
  rw [if_pos (by simp)]
  refine wpAny_bind (wpAny_rule ?_)
  have e1 : ((fs.map some).toArray.filterMap id) = fs.toArray := by simp
  rw [e1]
  exact wpAny_bind (only_tr hfs (fun _ => wpAny_pure h) (wpAny_pure h))
end
end TH
set_option Elab.async false
set_option linter.all false
set_option maxRecDepth 100000
set_option maxHeartbeats 4000000
namespace IT
open PySem PySem.W PyProof.Rows PySem.SeqAt
def lt : List Int → List Int → Bool
  | [], [] => false
  | [], _ :: _ => true
  | _ :: _, [] => false
  | a :: r, b :: q => if a = b then lt r q else decide (a < b)
theorem lt_irrefl : ∀ a, lt a a = false
  | [] => rfl
  | a :: r => by rw [lt, if_pos rfl, lt_irrefl r]
theorem lt_trans : ∀ a b c, lt a b = true → lt b c = true → lt a c = true
  | [], [], _, h, _ => by cases h
  | [], _ :: _, [], _, h => by cases h
  | [], _ :: _, _ :: _, _, _ => rfl
  | _ :: _, [], _, h, _ => by cases h
  | _ :: _, _ :: _, [], _, h => by cases h
  | a :: r, b :: q, c :: p, h, k => by
    rw [lt] at h k ⊢
    by_cases e1 : a = b
    · subst e1
      rw [if_pos rfl] at h
      by_cases e2 : a = c
      · rw [if_pos e2] at k ⊢
        exact lt_trans r q p h k
      · rw [if_neg e2] at k ⊢
        exact k
    · rw [if_neg e1] at h
      have h := of_decide_eq_true h
      by_cases e2 : b = c
      · subst e2
        rw [if_neg e1]
        exact decide_eq_true h
      · rw [if_neg e2] at k
        have k := of_decide_eq_true k
        rw [if_neg (by omega)]
        exact decide_eq_true (by omega)
theorem lt_total : ∀ a b, lt a b = false → lt b a = false → a = b
  | [], [], _, _ => rfl
  | [], _ :: _, h, _ => by cases h
  | _ :: _, [], _, h => by cases h
  | a :: r, b :: q, h, k => by
    rw [lt] at h k
    by_cases e : a = b
    · subst e
      rw [if_pos rfl] at h k
      rw [lt_total r q h k]
    · rw [if_neg e] at h
      rw [if_neg (Ne.symm e)] at k
      have h := of_decide_eq_false h
      have k := of_decide_eq_false k
      omega
def Is : List Int → List Value → Prop
  | [], us => us = []
  | k :: r, us => ∃ t rest, us = .int k t :: rest ∧ Is r rest
theorem Is.length : ∀ {ks : List Int} {us : List Value}, Is ks us → us.length = ks.length
  | [], us, h => by rw [Is] at h; subst h; rfl
  | k :: r, us, h => by
    rw [Is] at h
    obtain ⟨t, rest, rfl, h⟩ := h
    rw [List.length_cons, List.length_cons, Is.length h]
theorem Is.inj : ∀ {ks js : List Int} {us : List Value}, Is ks us → Is js us → ks = js
  | [], [], _, _, _ => rfl
  | [], _ :: _, us, h, k => by
    simp only [Is] at h k
    subst h
    obtain ⟨t, rest, e, _⟩ := k
    cases e
  | _ :: _, [], us, h, k => by
    simp only [Is] at h k
    subst k
    obtain ⟨t, rest, e, _⟩ := h
    cases e
  | a :: r, b :: q, us, h, k => by
    rw [Is] at h k
    obtain ⟨t, rest, rfl, h⟩ := h
    obtain ⟨t', rest', e, k⟩ := k
    injection e with e1 e2
    injection e1 with e1 e3
    subst e1 e2
    rw [Is.inj h k]
theorem Is.get : ∀ {ks : List Int} {us : List Value} {j : Nat}, Is ks us → (h : j < us.length) → ∃ k t, ks[j]? = some k ∧ us[j] = .int k t
  | [], us, j, h, hj => by rw [Is] at h; subst h; exact absurd hj (Nat.not_lt_zero _)
  | k :: r, us, j, h, hj => by
    rw [Is] at h
    obtain ⟨t, rest, rfl, h⟩ := h
    cases j with
    | zero => exact ⟨k, t, rfl, rfl⟩
    | succ j =>
      obtain ⟨k', t', h1, h2⟩ := Is.get (j := j) h (by simpa using hj)
      exact ⟨k', t', by simpa using h1, by simpa using h2⟩
theorem tup_same {h : Heap} {a : Addr} {x y : Array Value} (h1 : h.IsTuple a x) (h2 : h.IsTuple a y) : x = y := by
  obtain ⟨o, e1, _, n, d1⟩ := h1
  obtain ⟨o', e2, _, n', d2⟩ := h2
  rw [e1] at e2
  cases e2
  rw [d1] at d2
  cases d2
  rfl
theorem rcEq {s : Shared} {ks js : List Int} {A : Around} {a b : Addr} {its its' : List Value} (h1 : s.heap.IsTuple a its.toArray) (k1 : Is ks its) (h2 : s.heap.IsTuple b its'.toArray) (k2 : Is js its') (hu : A.units < cLine) :
    RcAt A s (.ref a) (.ref b) (decide (ks = js)) := by
  have key := RcAt.tuples (s := s) (A := A) (e := fun j => decide (ks[j]? = js[j]?)) h1 h2 hu fun j x1 x2 => by
    obtain ⟨x, t, q1, q2⟩ := k1.get (j := j) (by simpa using x1)
    obtain ⟨y, u, q3, q4⟩ := k2.get (j := j) (by simpa using x2)
    have e : decide (ks[j]? = js[j]?) = (x == y) := by
      rw [q1, q3]
      by_cases hxy : x = y
      · subst hxy; simp
      · rw [decide_eq_false (by simpa using hxy)]; simp [hxy]
    rw [e]
    have := EqAt.int_int (A := A.in1) (s := s) x t y u
    simpa [q2, q4] using this
  have ev : ((List.range (min its.toArray.size its'.toArray.size)).all (fun j => decide (ks[j]? = js[j]?)) && its.toArray.size == its'.toArray.size) = decide (ks = js) := by
    have z1 : its.toArray.size = ks.length := by rw [← k1.length]; simp
    have z2 : its'.toArray.size = js.length := by rw [← k2.length]; simp
    rw [z1, z2]
    by_cases hbc : ks = js
    · subst hbc; simp
    · rw [decide_eq_false hbc]
      cases hl : ks.length == js.length with
      | false => rw [Bool.and_false]
      | true =>
        rw [Bool.and_true]
        have hl' : ks.length = js.length := by simpa using hl
        refine Bool.eq_false_iff.mpr fun z => hbc (List.ext_getElem? fun i => ?_)
        by_cases hi : i < ks.length
        · have := List.all_eq_true.mp z i (List.mem_range.mpr (by omega))
          simpa using this
        · rw [List.getElem?_eq_none (by omega), List.getElem?_eq_none (by omega)]
  rw [ev] at key
  exact key
theorem eqAt {s : Shared} {ks js : List Int} {A : Around} {a b : Addr} {its its' : List Value} (h1 : s.heap.IsTuple a its.toArray) (k1 : Is ks its) (h2 : s.heap.IsTuple b its'.toArray) (k2 : Is js its') (hu : A.units < cLine) :
    EqAt A s (.ref a) (.ref b) (decide (ks = js)) := by
  by_cases ea : a = b
  · subst ea
    have e2 : its = its' := by simpa using tup_same h1 h2
    subst e2
    rw [k1.inj k2, decide_eq_true rfl]
    exact EqAt.same _
  · exact EqAt.of_refs ea (rcEq h1 k1 h2 k2 hu)
section
open PySem.AutoSeq1 (wpAny_loadPart')
open PySem.MeetsSeq PySem.MeetsSeq2 PySem.MeetsSeq3
theorem tuple_lt (l b : Addr) (items items2 : Array Value) (n n2 : Nat) (dd dd2 : Option Addr) (sl sl2 : Array (Option Value)) (t u : List Int) :
    Meets (Builtin.«tuple.__lt__» ⟨[.ref l, .ref b], []⟩)
      (fun A R s => s.heap.get? l = some { cls := .type "tuple", dict := dd, data := .seq items n, slots := sl } ∧ s.heap.get? b = some { cls := .type "tuple", dict := dd2, data := .seq items2 n2, slots := sl2 } ∧
        Is t items.toList ∧ Is u items2.toList ∧ A.units < cLine ∧ R (.ok (.ret (.bool (lt t u)))) s) :=
  .of_wp fun prog w A R s h => by
    obtain ⟨hp, g, d, tk, os⟩ := s; obtain ⟨hl, hb, hi, hj, hun, h⟩ := h
    have f2 := AutoSeq1.sub_tuple_tuple
    have z1 : items.size = t.length := by rw [← Is.length hi]; simp
    have z2 : items2.size = u.length := by rw [← Is.length hj]; simp
    wp_walk using wpAny_loadPart' hl, wpAny_loadPart' hb, wpAny_forIn_list _ (fun rest b s' => b.1 = none ∧ s' = ⟨hp, g, d, tk, os⟩ ∧ ∃ (vs ws : List Value) (t' u' : List Int), rest = vs.zip ws ∧
      Is t' vs ∧ Is u' ws ∧ t'.length + items2.size = u'.length + items.size ∧ R (.ok (.ret (.bool (lt t' u')))) ⟨hp, g, d, tk, os⟩) _
    case turn =>
      rintro ⟨y, x⟩ rest b s' ⟨hb', rfl, vs, ws, t', u', hz, hvi, hwi, hlen, hR⟩
      cases t' with
      | nil => rw [Is] at hvi; subst hvi; rw [List.zip_nil_left] at hz; cases hz
      | cons bt rt =>
        cases u' with
        | nil => rw [Is] at hwi; subst hwi; rw [List.zip_nil_right] at hz; cases hz
        | cons bu ru =>
          rw [Is] at hvi hwi
          obtain ⟨a1, v1, rfl, p3⟩ := hvi
          obtain ⟨a2, v2, rfl, q3⟩ := hwi
          rw [List.zip_cons_cons] at hz
          injection hz with hyx hrest
          injection hyx with hy hx
          subst hy hx
          rw [lt] at hR
          simp only [List.length_cons] at hlen
          have he := EqAt.int_int (A := A.in1) (s := ⟨hp, g, d, tk, os⟩) bt a1 bu a2
          refine wpAny_bind (he prog w _ _ ?_)
          by_cases hc : bt = bu
          · rw [if_pos hc] at hR
            rw [beq_iff_eq.mpr hc]
            wp_walk
            exact ⟨rfl, rfl, _, _, _, _, hrest, p3, q3, by omega, hR⟩
          · rw [if_neg hc] at hR
            rw [beq_eq_false_iff_ne.mpr hc]
            have hri : ∀ (E : Value → Shared → Prop) (Q : Value → Shared → Prop), Q (.bool (decide (bt < bu))) ⟨hp, g, d, tk, os⟩ → wpAny (model prog w) A.in1 (richCompare .Lt (.int bt a1) (.int bu a2)) Q E ⟨hp, g, d, tk, os⟩ := fun E Q h => wpAny_lt_int h
            wp_walk using hri
            exact ⟨_, rfl, by simpa using hR⟩
    case fin =>
      rintro ⟨b1, b2⟩ s' ⟨hb', rfl, vs, ws, t', u', hz, hvi, hwi, hlen, hR⟩
      simp only at hb'
      subst hb'
      have hv : lt t' u' = decide (items.size < items2.size) := by
        cases t' with
        | nil =>
          cases u' with
          | nil =>
            simp only [List.length_nil] at hlen
            exact (decide_eq_false (by omega)).symm
          | cons c q =>
            simp only [List.length_cons, List.length_nil] at hlen
            exact (decide_eq_true (by omega)).symm
        | cons bt rt =>
          cases u' with
          | nil =>
            simp only [List.length_cons, List.length_nil] at hlen
            exact (decide_eq_false (by omega)).symm
          | cons c q =>
            rw [Is] at hvi hwi
            obtain ⟨_, _, rfl, _⟩ := hvi
            obtain ⟨_, _, rfl, _⟩ := hwi
            rw [List.zip_cons_cons] at hz
            cases hz
      rw [hv] at hR
      wp_walk
      exact ⟨_, rfl, by simpa [Builtin.Tuple.tupleCompareSizes] using hR⟩
    case h =>
      exact ⟨rfl, rfl, items.toList, items2.toList, t, u, rfl, hi, hj, by omega, h⟩
end
end IT
set_option Elab.async false
set_option linter.all false
set_option maxRecDepth 100000
set_option maxHeartbeats 4000000
namespace IT
open PySem PySem.W PyProof.Rows PySem.SeqAt
section
open PySem.MeetsSeq PySem.MeetsSeq2 PySem.MeetsSeq3
variable {prog : Program} {w : World} {A : Around} {E : Value → Shared → Prop} {s : Shared} {t u : List Int} {a b : Addr} {its its' : List Value}
theorem rc_lt {Q : Value → Shared → Prop} (h1 : s.heap.IsTuple a its.toArray) (k1 : Is t its) (h2 : s.heap.IsTuple b its'.toArray) (k2 : Is u its') (hu : A.units + 1 < cLine) (h : Q (.bool (lt t u)) s) : wpAny (model prog w) A (richCompare .Lt (.ref a) (.ref b)) Q E s := by
  obtain ⟨⟨cls, dd, data, sl⟩, ho, hc, n, hdt⟩ := id h1
  obtain ⟨⟨cls2, dd2, data2, sl2⟩, ho2, hc2, n2, hdt2⟩ := id h2
  simp only at hc hdt hc2 hdt2
  subst hc hdt hc2 hdt2
  exact richCompare_meets_room (op := .Lt) ⟨_, ho, rfl⟩ ⟨_, ho2, rfl⟩ PySem.F.slot_tuple_lt PySem.F.entry_tuple_lt (PySem.F.args_tuple_lt_2 _ _) (tuple_lt a b its.toArray its'.toArray n n2 dd dd2 sl sl2 t u)
    ⟨ho, ho2, by simpa using k1, by simpa using k2, by omega, show Value.bool (lt t u) ≠ Value.notImplemented ∧ Q (.bool (lt t u)) s from ⟨(fun x => nomatch x), h⟩⟩ (by omega)
theorem ask_gen {Q : Bool → Shared → Prop} (h1 : s.heap.IsTuple a its.toArray) (k1 : Is t its) (h2 : s.heap.IsTuple b its'.toArray) (k2 : Is u its') (hu : A.units + 1 < cLine) (h : Q (lt t u) s) : wpAny (model prog w) A (oneLt' false (.ref a) (.ref b)) Q E s := by
  rw [oneLt'_eq]
  simp only [Bool.false_eq_true, if_false]
  exact wpAny_bind (rc_lt h1 k1 h2 k2 hu (wpAny_truthy_bool h))
end
abbrev Tm := List Int × List Int
def ltT (x y : Tm) : Bool := if x.1 = y.1 then lt x.2 y.2 else lt x.1 y.1
theorem ltT_irrefl (x : Tm) : ltT x x = false := by unfold ltT; rw [if_pos rfl, lt_irrefl]
theorem ltT_total (x y : Tm) (h : ltT x y = false) (k : ltT y x = false) : x = y := by
  unfold ltT at h k
  by_cases e : x.1 = y.1
  · rw [if_pos e] at h
    rw [if_pos e.symm] at k
    exact Prod.ext e (lt_total _ _ h k)
  · rw [if_neg e] at h
    rw [if_neg (Ne.symm e)] at k
    exact absurd (lt_total _ _ h k) e
theorem ltT_trans (x y z : Tm) (h : ltT x y = true) (k : ltT y z = true) : ltT x z = true := by
  unfold ltT at h k ⊢
  by_cases e1 : x.1 = y.1
  · rw [if_pos e1] at h
    by_cases e2 : y.1 = z.1
    · rw [if_pos e2] at k
      rw [if_pos (e1.trans e2)]
      exact lt_trans _ _ _ h k
    · rw [if_neg e2] at k
      rw [if_neg (fun q => e2 (e1.symm.trans q)), e1]
      exact k
  · rw [if_neg e1] at h
    by_cases e2 : y.1 = z.1
    · rw [if_neg (fun q => e1 (q.trans e2.symm)), ← e2]
      exact h
    · rw [if_neg e2] at k
      have := lt_trans _ _ _ h k
      rw [if_neg (fun q => by rw [q, lt_irrefl] at this; cases this)]
      exact this
theorem ltT_negTrans (a b c : Tm) (h : ltT a c = true) : ltT a b = true ∨ ltT b c = true := by
  cases k : ltT a b with
  | true => exact .inl rfl
  | false =>
    right
    cases m : ltT b c with
    | true => rfl
    | false =>
      cases n : ltT b a with
      | true => have := ltT_trans b a c n h; rw [m] at this; cases this
      | false => have := ltT_total a b k n; subst this; rw [m] at h; cases h
def ordT : KeyOrd where
  α := Tm
  blt := ltT
  irrefl := ltT_irrefl
  trans := ltT_trans
  negTrans := ltT_negTrans
  total := ltT_total
def TermV (h : Heap) (k : Tm) (v : Value) : Prop := ∃ (a b c : Addr) (its its2 : List Value), v = .ref a ∧ h.IsTuple a [.ref b, .ref c].toArray ∧ h.IsTuple b its.toArray ∧ Is k.1 its ∧ h.IsTuple c its2.toArray ∧ Is k.2 its2
theorem TermV.ext {h h' : Heap} (e : GS.Ext h h') {k : Tm} {v : Value} (x : TermV h k v) : TermV h' k v := by
  obtain ⟨a, b, c, i1, i2, rfl, h1, h2, h3, h4, h5⟩ := x
  exact ⟨a, b, c, i1, i2, rfl, TH.tup_ext e h1, TH.tup_ext e h2, h3, TH.tup_ext e h4, h5⟩
section
open PySem.MeetsSeq PySem.MeetsSeq2 PySem.MeetsSeq3
variable {prog : Program} {w : World} {A : Around} {E : Value → Shared → Prop} {s : Shared}
theorem ask_term {x y : Tm} {u v : Value} {Q : Bool → Shared → Prop} (h1 : TermV s.heap x u) (h2 : TermV s.heap y v) (hu : A.units + 2 < cLine) (h : Q (ltT x y) s) : wpAny (model prog w) A (keyLt' (tuples' false) u v) Q E s := by
  obtain ⟨a, b, l, i1, i2, rfl, k1, k2, k3, k4, k5⟩ := h1
  obtain ⟨a', b', l', j1, j2, rfl, m1, m2, m3, m4, m5⟩ := h2
  obtain ⟨o, ho, hc, n, hd⟩ := id k1
  obtain ⟨o2, ho2, hc2, n2, hd2⟩ := id m1
  refine kat_lt ho hd ho2 hd2 ?_
  unfold ltT at h
  show KatLex prog w A false (decide (2 < 2)) Q [(.ref b, .ref b'), (.ref l, .ref l')] 0 s
  refine kat_cons (eqAt k2 k3 m2 m3 (by omega) prog w _ _ ?_)
  by_cases e1 : x.1 = y.1
  · rw [decide_eq_true e1]
    rw [if_pos e1] at h
    refine kat_yes (kat_cons (eqAt k4 k5 m4 m5 (by omega) prog w _ _ ?_))
    by_cases e2 : x.2 = y.2
    · rw [decide_eq_true e2]
      rw [e2, lt_irrefl] at h
      exact kat_yes (kat_nil h)
    · rw [decide_eq_false e2]
      exact kat_no (by rw [Bool.false_and]; exact ask_gen k4 k5 m4 m5 (by omega) h)
  · rw [decide_eq_false e1]
    rw [if_neg e1] at h
    exact kat_no (by rw [Bool.false_and]; exact ask_gen k2 k3 m2 m3 (by omega) h)
theorem TermV.tt {h : Heap} {x : Tm} {v : Value} (z : TermV h x v) : TH.TupTup h v := by
  obtain ⟨a, b, l, i1, i2, rfl, h1, h2, h3, h4, h5⟩ := z
  exact ⟨a, b, _, [.ref l], rfl, h1, h2⟩
theorem term_cmp {h0 : Heap} {ks : List Tm} {us : List Value} (hl : us.length = ks.length) (he : ∀ (i : Nat) (x : Tm) (u : Value), ks[i]? = some x → us[i]? = some u → TermV h0 x u) : GS.Cmp ordT prog w h0 2 ks us :=
  ⟨hl, fun κ => κ = tuples' false, fun A E s Q hx h => TH.kind_tt (fun v hv => by
    obtain ⟨i, hi, rfl⟩ := List.getElem_of_mem hv
    exact ((he i _ _ (List.getElem?_eq_getElem (by omega)) (List.getElem?_eq_getElem hi)).ext hx).tt) (h _ rfl),
   fun A s κ hx hr hκ E i j x y u v Q h1 h2 h3 h4 q => by
    subst hκ
    exact ask_term ((he i x u h3 h1).ext hx) ((he j y v h4 h2).ext hx) (by omega) q⟩
end
end IT
set_option Elab.async false
set_option linter.all false
set_option maxRecDepth 100000
namespace ET
open PySem
section
variable {prog : Program} {w : World} {A : Around} {E : Value → Shared → Prop} {s : Shared}
end
section
open AutoSeq1 (wpAny_loadPart')
end
end ET
set_option Elab.async false
set_option linter.all false
set_option maxRecDepth 100000
set_option maxHeartbeats 4000000
namespace L2
open PySem PySem.Spec PyProof.Rows
section
variable {X : Cx} {pins : List (Addr × Obj)} {σ : St} {H : Hp} {s : Shared}
end
end L2
set_option Elab.async false
set_option linter.all false
set_option maxRecDepth 100000
set_option maxHeartbeats 4000000
namespace L2
open PySem PySem.Spec PyProof.Rows
theorem Vals.pick {xs : List V} {us : List Value} (r : Vals xs us) : ∀ ix : List Nat, (∀ i ∈ ix, i < xs.length) → Vals (ix.map fun i => xs.getD i .non) (ix.map fun i => us.getD i Value.none)
  | [], _ => .nil
  | i :: ix, h => by
    refine .cons ?_ (Vals.pick r ix fun k hk => h k (List.mem_cons_of_mem _ hk))
    have hi := h i List.mem_cons_self
    obtain ⟨u, h1, h2⟩ := r.get (i := i) (x := xs[i]) (by simp [hi])
    show RelV (xs.getD i .non) (us.getD i Value.none)
    rw [List.getD_eq_getElem?_getD, List.getD_eq_getElem?_getD, h1, List.getElem?_eq_getElem hi]
    exact h2
section
variable {X : Cx}
theorem pe_rev {e k : Expr} {te tk : TE} {pos p2 : Pos} (he : PE X e te) (hk : PE X k tk) : PE X (.Subscript e (.Slice none none (some k) p2) pos)
    (fun σ H Q => te σ H fun x H1 => tk σ H1 fun z H2 => ∃ (a : Addr) (xs : List V), x = .ref a ∧ z = .int (-1) ∧ SqL X.K H2 a xs ∧ ∀ p, H2 p = none → Q (.ref p) (upd H2 p (.lst xs.reverse))) := by
  intro pins s σ H Q I h
  refine Subscript_ (thn (he pins s σ H _ I h) fun v s1 ⟨x, H1, I1, r1, q1⟩ => ?_)
  refine wpAny_Slice ?_
  rw [evalPart_none]
  refine wpAny_pure ?_
  refine wpAny_pure ?_
  rw [evalPart_some]
  refine thn (hk pins s1 σ H1 _ I1 q1) fun vk s3 ⟨z, H3, I3, r3, q3⟩ => ?_
  obtain ⟨a, xs, rfl, rfl, hq, q⟩ := q3
  cases r1
  obtain ⟨tk', rfl⟩ := r3
  have I4 : Inv X pins σ H3 { s3 with heap := s3.heap.push { cls := .type "slice", data := .fields #[.none, .none, .int (-1) tk'] } } := I3.kept (t' := s3.toks) fun b ob q => Heap.get?_push_of_some _ q
  obtain ⟨its, rv, pl, hz⟩ := I4.list hq
  have hlen := rv.length
  show wpAny (model X.prog X.w) X.A (subscriptTail e (.Slice none none (some k) p2) (.ref a) (.ref s3.heap.objs.size)) (EP X pins σ Q) X.xe { s3 with heap := s3.heap.push { cls := .type "slice", data := .fields #[.none, .none, .int (-1) tk'] } }
  refine tail_any (ops := [.ref a, .ref s3.heap.objs.size]) (T := "list") pl.isList.typeIs slot_list_getitem.lookup ?_ (by with_unfolding_all rfl)
  refine wpAny_getItem_list_slice pl.isList (Heap.IsSliceOf.new ..) .none .none (.int (-1) tk') (by decide) ?_ (by rw [List.size_toArray] <;> omega)
  rw [PySem.W.krv_pick]
  refine ⟨.ref _, _, I4.laid (t' := s3.toks) (o := .lst xs.reverse) (fun b ob q => Heap.get?_push_of_some _ q) (Nat.le_refl _) ?_, rfl, q _ (I4.hok.fresh (Nat.le_refl _))⟩
  exact ⟨by rw [List.length_reverse]; exact hz, its.reverse, 0, rv.reverse, Heap.get?_push_size _ rfl⟩
end
end L2
set_option Elab.async false
set_option linter.all false
set_option maxRecDepth 100000
set_option maxHeartbeats 4000000
namespace L2
open PySem PySem.Spec PyProof.Rows
def CW (Pv : Nat → List V → Hp → Prop) (n : Nat) (D : Addr) : Nat → Nat → List V → Hp → Prop := fun i m ys H => m = n - i ∧ i ≤ n ∧ H D = some (.lst ys) ∧ Pv i ys H
theorem cw_next {Pv : Nat → List V → Hp → Prop} {n i : Nat} {D : Addr} {ys : List V} {y : V} {H : Hp} (hi : i < n) (p : Pv (i + 1) (ys ++ [y]) (upd H D (.lst (ys ++ [y])))) : ∃ m', m' < n - i ∧ CW Pv n D (i + 1) m' (ys ++ [y]) (upd H D (.lst (ys ++ [y]))) :=
  ⟨n - (i + 1), by omega, rfl, hi, upd_same, p⟩
theorem comp_by {J : It} {n : Nat} {D : Addr} {H1 : Hp} {fr : List (Option Nat)} {σ : St} {ix : Nat} {tif : TT} {te : TE} {G : Hp → Prop} (Pv : Nat → List V → Hp → Prop) (h0 : Pv 0 [] (upd H1 D (.lst [])))
    (hgo : ∀ i ys H, i < n → Pv i ys H → H D = some (.lst ys) → J.go i H ∧ ys.length < sizeLine ∧ ∀ x H', J.yld i H x H' →
      tif ((carry fr σ).set ix (some x)) H' fun b H2 => if b = true then te ((carry fr σ).set ix (some x)) H2 fun y H3 => H3 D = some (.lst ys) ∧ ∃ m', m' < n - i ∧ CW Pv n D (i + 1) m' (ys ++ [y]) (upd H3 D (.lst (ys ++ [y])))
        else ∃ m', m' < n - i ∧ CW Pv n D (i + 1) m' ys H2)
    (hstop : ∀ ys H, Pv n ys H → H D = some (.lst ys) → J.stop n H ∧ G H) :
    ∃ W : Nat → Nat → List V → Hp → Prop, (∃ m, W 0 m [] (upd H1 D (.lst []))) ∧
      ∀ i m ys H, W i m ys H → H D = some (.lst ys) ∧ ((J.stop i H ∧ G H) ∨ (J.go i H ∧ ys.length < sizeLine ∧ ∀ x H', J.yld i H x H' →
        tif ((carry fr σ).set ix (some x)) H' fun b H2 => if b = true then te ((carry fr σ).set ix (some x)) H2 fun y H3 => H3 D = some (.lst ys) ∧ ∃ m', m' < m ∧ W (i + 1) m' (ys ++ [y]) (upd H3 D (.lst (ys ++ [y])))
          else ∃ m', m' < m ∧ W (i + 1) m' ys H2)) := by
  refine ⟨CW Pv n D, ⟨n, by simp, Nat.zero_le _, upd_same, h0⟩, ?_⟩
  rintro i m ys H ⟨rfl, hi, hH, p⟩
  refine ⟨hH, ?_⟩
  by_cases hlt : i < n
  · exact .inr (hgo i ys H hlt p hH)
  · have e : i = n := by omega
    subst e
    exact .inl (hstop ys H p hH)
section
variable {X : Cx}
end
end L2
set_option Elab.async false
set_option linter.all false
set_option maxRecDepth 100000
set_option maxHeartbeats 4000000
namespace L2
open PySem PySem.Spec PyProof.Rows
section
variable {X : Cx} {scope : Scope} {cl : List (Str × Addr)} {N : List Str} {C : Addr} {s₀ : Shared} {H₀ : Hp} {fp : List Addr}
end
end L2
set_option Elab.async false
set_option linter.all false
set_option maxRecDepth 100000
set_option maxHeartbeats 4000000
namespace L2
open PySem PySem.Spec PyProof.Rows
mutual
def Dt (l : Addr) (H : Hp) : PyData → V → Prop
  | .none, v => v = .non
  | .bool b, v => v = .bl b
  | .int i, v => v = .int i
  | .str x, v => v = .str x
  | .tuple ds, v => ∃ (a : Addr) (xs : List V), v = .ref a ∧ a ≠ l ∧ H a = some (.tup xs) ∧ DtAll l H ds xs
  | .list ds, v => ∃ (a : Addr) (xs : List V), v = .ref a ∧ a ≠ l ∧ H a = some (.lst xs) ∧ DtAll l H ds xs
  | .dict _, _ => False
def DtAll (l : Addr) (H : Hp) : List PyData → List V → Prop
  | [], xs => xs = []
  | d :: ds, xs => ∃ x r, xs = x :: r ∧ Dt l H d x ∧ DtAll l H ds r
end
mutual
theorem Dt.but {l : Addr} {H H' : Hp} (e : SameBut l H H') : ∀ {d : PyData} {v : V}, Dt l H d v → Dt l H' d v
  | .none, _, h => by rw [Dt] at h ⊢; exact h
  | .bool _, _, h => by rw [Dt] at h ⊢; exact h
  | .int _, _, h => by rw [Dt] at h ⊢; exact h
  | .str _, _, h => by rw [Dt] at h ⊢; exact h
  | .tuple _, _, h => by
    rw [Dt] at h ⊢
    obtain ⟨a, xs, e1, n, h1, h2⟩ := h
    exact ⟨a, xs, e1, n, e _ _ n h1, DtAll.but e h2⟩
  | .list _, _, h => by
    rw [Dt] at h ⊢
    obtain ⟨a, xs, e1, n, h1, h2⟩ := h
    exact ⟨a, xs, e1, n, e _ _ n h1, DtAll.but e h2⟩
  | .dict _, _, h => by rw [Dt] at h; exact h.elim
theorem DtAll.but {l : Addr} {H H' : Hp} (e : SameBut l H H') : ∀ {ds : List PyData} {xs : List V}, DtAll l H ds xs → DtAll l H' ds xs
  | [], _, h => by rw [DtAll] at h ⊢; exact h
  | _ :: _, _, h => by
    rw [DtAll] at h ⊢
    obtain ⟨x, r, e1, h1, h2⟩ := h
    exact ⟨x, r, e1, Dt.but e h1, DtAll.but e h2⟩
end
theorem Dt.same {l : Addr} {H H' : Hp} {d : PyData} {v : V} (h : Dt l H d v) (e : Same H H') : Dt l H' d v := Dt.but (.of e) h
theorem DtAll.same {l : Addr} {H H' : Hp} {d : List PyData} {v : List V} (h : DtAll l H d v) (e : Same H H') : DtAll l H' d v := DtAll.but (.of e) h
mutual
theorem Dt.br {K : PySem.W.Frag} {l : Addr} {H : Hp} : ∀ {d : PyData} {v : V}, Dt l H d v → Br K H d v
  | .none, _, h => by rw [Dt] at h; rw [Br]; exact h
  | .bool _, _, h => by rw [Dt] at h; rw [Br]; exact h
  | .int _, _, h => by rw [Dt] at h; rw [Br]; exact h
  | .str _, _, h => by rw [Dt] at h; rw [Br]; exact h
  | .tuple _, _, h => by
    rw [Dt] at h; rw [Br]
    obtain ⟨a, xs, e1, n, h1, h2⟩ := h
    exact ⟨a, xs, e1, SqT.of h1, DtAll.br h2⟩
  | .list _, _, h => by
    rw [Dt] at h; rw [Br]
    obtain ⟨a, xs, e1, n, h1, h2⟩ := h
    exact ⟨a, xs, e1, SqL.of h1, DtAll.br h2⟩
  | .dict _, _, h => by rw [Dt] at h; exact h.elim
theorem DtAll.br {K : PySem.W.Frag} {l : Addr} {H : Hp} : ∀ {ds : List PyData} {xs : List V}, DtAll l H ds xs → BrAll K H ds xs
  | [], _, h => by rw [DtAll] at h; rw [BrAll]; exact h
  | _ :: _, _, h => by
    rw [DtAll] at h; rw [BrAll]
    obtain ⟨x, r, e1, h1, h2⟩ := h
    exact ⟨x, r, e1, Dt.br h1, DtAll.br h2⟩
end
theorem DtAll.len {l : Addr} {H : Hp} : ∀ {ds : List PyData} {xs : List V}, DtAll l H ds xs → xs.length = ds.length
  | [], _, h => by rw [DtAll] at h; rw [h]; rfl
  | _ :: _, _, h => by
    rw [DtAll] at h
    obtain ⟨x, r, rfl, _, h2⟩ := h
    rw [List.length_cons, List.length_cons, DtAll.len h2]
theorem DtAll.get {l : Addr} {H : Hp} : ∀ {ds : List PyData} {xs : List V} {i : Nat} {v : V}, DtAll l H ds xs → xs[i]? = some v → ∃ d, ds[i]? = some d ∧ Dt l H d v
  | [], _, i, v, h, e => by rw [DtAll] at h; subst h; simp at e
  | d :: ds, _, i, v, h, e => by
    rw [DtAll] at h
    obtain ⟨x, r, rfl, h1, h2⟩ := h
    cases i with
    | zero => simp at e; subst e; exact ⟨d, rfl, h1⟩
    | succ i =>
      obtain ⟨c, q1, q2⟩ := h2.get (i := i) (v := v) (by simpa using e)
      exact ⟨c, by simpa using q1, q2⟩
theorem DtAll.nil {l : Addr} {H : Hp} : DtAll l H [] [] := by rw [DtAll]
theorem DtAll.cons {l : Addr} {H : Hp} {d : PyData} {ds : List PyData} {x : V} {xs : List V} (h : Dt l H d x) (k : DtAll l H ds xs) : DtAll l H (d :: ds) (x :: xs) := by
  rw [DtAll]; exact ⟨x, xs, rfl, h, k⟩
theorem DtAll.app {l : Addr} {H : Hp} : ∀ {ds es : List PyData} {xs ys : List V}, DtAll l H ds xs → DtAll l H es ys → DtAll l H (ds ++ es) (xs ++ ys)
  | [], _, _, _, h, k => by rw [DtAll] at h; subst h; exact k
  | d :: ds, es, _, ys, h, k => by
    rw [DtAll] at h
    obtain ⟨x, r, rfl, h1, h2⟩ := h
    exact .cons h1 (h2.app k)
theorem Dt.int {l : Addr} {H : Hp} {i : Int} : Dt l H (.int i) (.int i) := by rw [Dt]
theorem Dt.bool {l : Addr} {H : Hp} {b : Bool} : Dt l H (.bool b) (.bl b) := by rw [Dt]
theorem Dt.non {l : Addr} {H : Hp} : Dt l H .none .non := by rw [Dt]
theorem Dt.str {l : Addr} {H : Hp} {x : Str} : Dt l H (.str x) (.str x) := by rw [Dt]
theorem Dt.tup {l a : Addr} {H : Hp} {ds : List PyData} {xs : List V} (n : a ≠ l) (h : H a = some (.tup xs)) (k : DtAll l H ds xs) : Dt l H (.tuple ds) (.ref a) := by rw [Dt]; exact ⟨a, xs, rfl, n, h, k⟩
theorem Dt.lst {l a : Addr} {H : Hp} {ds : List PyData} {xs : List V} (n : a ≠ l) (h : H a = some (.lst xs)) (k : DtAll l H ds xs) : Dt l H (.list ds) (.ref a) := by rw [Dt]; exact ⟨a, xs, rfl, n, h, k⟩
def Ok (n : Nat) (d : PyData) : Prop := d.canLay0 = true ∧ d.depth ≤ n
def OkAll (n : Nat) (ds : List PyData) : Prop := PyData.canLayAll0 ds = true ∧ PyData.depthAll ds ≤ n
theorem Ok.shaped {n : Nat} {d : PyData} (h : Ok n d) (hn : n ≤ 64) : SeqAt.shaped d = true := by
  unfold SeqAt.shaped
  rw [h.1, Bool.true_and]
  exact decide_eq_true (Nat.le_trans h.2 hn)
theorem OkAll.nil {n : Nat} : OkAll n [] := ⟨by simp [PyData.canLayAll0], by simp [PyData.depthAll]⟩
theorem OkAll.cons {n : Nat} {d : PyData} {ds : List PyData} (h : Ok n d) (k : OkAll n ds) : OkAll n (d :: ds) := ⟨by simp [PyData.canLayAll0, h.1, k.1], by simp only [PyData.depthAll]; exact Nat.max_le.mpr ⟨h.2, k.2⟩⟩
theorem OkAll.of {n : Nat} : ∀ {ds : List PyData}, (∀ d ∈ ds, Ok n d) → OkAll n ds
  | [], _ => .nil
  | d :: ds, h => .cons (h d List.mem_cons_self) (OkAll.of fun e he => h e (List.mem_cons_of_mem _ he))
theorem Ok.tup {n : Nat} {ds : List PyData} (h : OkAll n ds) : Ok (n + 1) (.tuple ds) := ⟨by simp only [PyData.canLay0]; exact h.1, by simp only [PyData.depth]; exact Nat.succ_le_succ h.2⟩
theorem Ok.lst {n : Nat} {ds : List PyData} (h : OkAll n ds) : Ok (n + 1) (.list ds) := ⟨by simp only [PyData.canLay0]; exact h.1, by simp only [PyData.depth]; exact Nat.succ_le_succ h.2⟩
theorem Ok.int {n : Nat} {i : Int} : Ok n (.int i) := ⟨by simp [PyData.canLay0], by simp [PyData.depth]⟩
theorem Ok.bool {n : Nat} {b : Bool} : Ok n (.bool b) := ⟨by simp [PyData.canLay0], by simp [PyData.depth]⟩
theorem Ok.non {n : Nat} : Ok n .none := ⟨by simp [PyData.canLay0], by simp [PyData.depth]⟩
theorem Ok.str {n : Nat} {x : Str} (h : PyData.strOk x = true) : Ok n (.str x) := ⟨by simp [PyData.canLay0, h], by simp [PyData.depth]⟩
mutual
theorem eqv_self : ∀ d : PyData, d.canLay0 = true → PyData.eqv d d = true
  | .none, _ => by simp [PyData.eqv]
  | .bool _, _ => by simp [PyData.eqv]
  | .int _, _ => by simp [PyData.eqv]
  | .str _, _ => by simp [PyData.eqv]
  | .tuple ds, h => by simp only [PyData.eqv]; exact eqvAll_self ds (by simpa only [PyData.canLay0] using h)
  | .list ds, h => by simp only [PyData.eqv]; exact eqvAll_self ds (by simpa only [PyData.canLay0] using h)
  | .dict _, h => by simp [PyData.canLay0] at h
theorem eqvAll_self : ∀ ds : List PyData, PyData.canLayAll0 ds = true → PyData.eqvAll ds ds = true
  | [], _ => by simp [PyData.eqvAll]
  | d :: ds, h => by
    simp only [PyData.canLayAll0, Bool.and_eq_true] at h
    simp only [PyData.eqvAll, eqv_self d h.1, eqvAll_self ds h.2, Bool.and_self]
end
def tyOf : PyData → String
  | .none => "NoneType"
  | .bool _ => "bool"
  | .int _ => "int"
  | .str _ => "str"
  | .tuple _ => "tuple"
  | .list _ => "list"
  | .dict _ => "dict"
theorem Dt.ty {K : PySem.W.Frag} {l : Addr} {H : Hp} : ∀ {d : PyData} {v : V}, Dt l H d v → TyOf K H v (.type (tyOf d))
  | .none, _, h => by rw [Dt] at h; subst h; exact .non
  | .bool _, _, h => by rw [Dt] at h; subst h; exact .bl _
  | .int _, _, h => by rw [Dt] at h; subst h; exact .int _
  | .str _, _, h => by rw [Dt] at h; subst h; exact .str _
  | .tuple _, _, h => by rw [Dt] at h; obtain ⟨a, xs, rfl, _, h1, _⟩ := h; exact .tup h1
  | .list _, _, h => by rw [Dt] at h; obtain ⟨a, xs, rfl, _, h1, _⟩ := h; exact .lst h1
  | .dict _, _, h => by rw [Dt] at h; exact h.elim
def isTupD : PyData → Bool
  | .tuple _ => true
  | _ => false
def isLstD : PyData → Bool
  | .list _ => true
  | _ => false
def isIntD : PyData → Bool
  | .int _ => true
  | .bool _ => true
  | _ => false
def isBoolD : PyData → Bool
  | .bool _ => true
  | _ => false
theorem kit_tupD (K : PySem.W.Frag) : ∀ d : PyData, (∀ kv, d ≠ .dict kv) → PySem.W.kitOne K (.type (tyOf d)) (.type "tuple") = some (isTupD d)
  | .none, _ => kit_nt K
  | .bool _, _ => kit_bt K
  | .int _, _ => kit_it K
  | .str _, _ => kit_st K
  | .tuple _, _ => kit_tt K
  | .list _, _ => kit_lt K
  | .dict kv, h => absurd rfl (h kv)
theorem kit_lstD (K : PySem.W.Frag) : ∀ d : PyData, (∀ kv, d ≠ .dict kv) → PySem.W.kitOne K (.type (tyOf d)) (.type "list") = some (isLstD d)
  | .none, _ => kit_nl K
  | .bool _, _ => kit_bl K
  | .int _, _ => kit_il K
  | .str _, _ => kit_sl K
  | .tuple _, _ => kit_tl K
  | .list _, _ => kit_ll K
  | .dict kv, h => absurd rfl (h kv)
theorem kit_nb (K : PySem.W.Frag) : PySem.W.kitOne K (.type "NoneType") (.type "bool") = some false := by kernel_rfl
theorem kit_sb (K : PySem.W.Frag) : PySem.W.kitOne K (.type "str") (.type "bool") = some false := by kernel_rfl
theorem kit_tb (K : PySem.W.Frag) : PySem.W.kitOne K (.type "tuple") (.type "bool") = some false := by kernel_rfl
theorem kit_lb (K : PySem.W.Frag) : PySem.W.kitOne K (.type "list") (.type "bool") = some false := by kernel_rfl
theorem kit_intD (K : PySem.W.Frag) : ∀ d : PyData, (∀ kv, d ≠ .dict kv) → PySem.W.kitOne K (.type (tyOf d)) (.type "int") = some (isIntD d)
  | .none, _ => kit_ni K
  | .bool _, _ => kit_bi K
  | .int _, _ => kit_ii K
  | .str _, _ => kit_si K
  | .tuple _, _ => kit_ti K
  | .list _, _ => kit_li K
  | .dict kv, h => absurd rfl (h kv)
theorem kit_boolD (K : PySem.W.Frag) : ∀ d : PyData, (∀ kv, d ≠ .dict kv) → PySem.W.kitOne K (.type (tyOf d)) (.type "bool") = some (isBoolD d)
  | .none, _ => kit_nb K
  | .bool _, _ => kit_bb K
  | .int _, _ => kit_ib K
  | .str _, _ => kit_sb K
  | .tuple _, _ => kit_tb K
  | .list _, _ => kit_lb K
  | .dict kv, h => absurd rfl (h kv)
theorem Dt.nodict {l : Addr} {H : Hp} {d : PyData} {v : V} (h : Dt l H d v) : ∀ kv, d ≠ .dict kv := fun kv z => by subst z; rw [Dt] at h; exact h
end L2
set_option Elab.async false
set_option linter.all false
set_option maxRecDepth 100000
set_option maxHeartbeats 4000000
namespace ZT
open PySem PyProof.Rows
section
variable {prog : Program} {w : World} {A : Around} {E : Value → Shared → Prop} {s : Shared} {z TI TO i1 i2 : Addr} {f1 f2 : List Addr} {n1 n2 k : Nat} {P1 P2 : Nat → Value → Prop} {S1 S2 : Nat → Heap → Prop} {a b : Value}
end
end ZT
set_option Elab.async false
set_option linter.all false
set_option maxRecDepth 100000
set_option maxHeartbeats 4000000
namespace ZT
open PySem PyProof.Rows
section
variable {prog : Program} {w : World} {A : Around} {E : Value → Shared → Prop} {s : Shared}
end
end ZT
set_option Elab.async false
set_option linter.all false
set_option maxRecDepth 100000
set_option maxHeartbeats 4000000
namespace DI
open PySem PySem.W PyProof.Rows
def RD (h : Heap) (d : Addr) (es : Array DictEntry) (ep : Nat) : Prop := ∃ o, h.get? d = some o ∧ o.ExactDict ∧ o.data = .dict es ep
def St (h : Heap) (it d S : Addr) (i n ep : Nat) : Prop := (i = 0 ∧ ∃ ok ov, IsItemIter h it d 0 n ep ok ov) ∨ ∃ ok ov a f oa, KdxIt h it d i n ep ok ov a f ∧ h.get? a = some oa ∧ a ≠ it ∧ a ≠ S
section
variable {prog : Program} {w : World} {A : Around} {E : Value → Shared → Prop} {s : Shared} {it d : Addr} {i ep : Nat} {es : Array DictEntry} {ok ov : Value}
theorem next_first {Q : Option Value → Shared → Prop} (hit : IsItemIter s.heap it d i es.size ep ok ov) (hm : RD s.heap d es ep) (hi : i < es.size)
    (q : ∀ h', IsItemIterOut h' it d (i + 1) es.size ep es[i].key es[i].val s.heap.objs.size → h'.get? s.heap.objs.size = some { cls := .type "tuple", data := .seq #[es[i].key, es[i].val] } → h'.objs.size = s.heap.objs.size + 1 →
      (∀ b o, b ≠ it → s.heap.get? b = some o → h'.get? b = some o) → Q (some (.ref s.heap.objs.size)) { s with heap := h' }) : wpAny (model prog w) A (pyNext (.ref it)) Q E s := by
  obtain ⟨hp, g, dr, tk, os⟩ := s
  obtain ⟨od, e1, e2, e3⟩ := hm
  have hT : Shared.TypeIs ⟨hp, g, dr, tk, os⟩ (.ref it) "dict_itemiterator" := ⟨_, hit, rfl⟩
  have own : Builtin.Dict_items.ownsTuple "dict_itemiterator" = true := by decide
  unfold pyNext
  refine wpAny_bind (wpAny_attempt (wpAny_callSpecial?_slot (name := Str.ofString "__next__") hT F.slot_dict_itemiterator_next
    (wpAny_call_entry F.slot_dict_itemiterator_next hT F.entry_dict_itemiterator_next (wpAny_bind (wpAny_pure (wpAny_bind (wpAny_bind ?_)))) (F.args_dict_itemiterator_next_1 _))))
  first | refine wpAny_bind (wpAny_typeNameOfWhole_itemiter hT (wpAny_pure (wpAny_bind (wpAny_fieldsOf hit rfl ?_)))) | refine wpAny_bind (wpAny_typeNameOf_itemiter hT (wpAny_pure (wpAny_bind (wpAny_fieldsOf hit rfl ?_))))
  simp only [own, if_true]
  show wpAny _ _ (if (Value.ref d == Value.none) = true then _ else _) _ _ _
  rw [if_neg (show ¬ ((Value.ref d == Value.none) = true) from Bool.false_ne_true)]
  refine wpAny_bind (wpAny_pure (wpAny_bind (wpAny_dictEntries e1 e3 ?_)))
  rw [if_neg (by simp)]
  refine wpAny_bind (wpAny_pure (wpAny_bind (wpAny_dictEpoch e1 e3 ?_)))
  rw [if_neg (by simp)]
  refine wpAny_pure ?_
  simp only [show ¬ ((i : Int) < 0) from by omega, if_false, Int.toNat_natCast, Array.getElem?_eq_getElem hi]
  refine wpAny_bind ?_
  first | refine wpAny_bind (wpAny_typeNameOfWhole_itemiter hT (wpAny_pure (wpAny_bind (wpAny_isOneOf_itemiter hT ?_)))) | refine wpAny_bind (wpAny_typeNameOf_itemiter hT (wpAny_pure (wpAny_bind (wpAny_isOneOf_itemiter hT ?_))))
  show wpAny _ _ (setField (.ref it) 3 (rawInt ((i : Int) + 1)) >>= _) _ _ ⟨hp, g, dr, tk, os⟩
  refine wpAny_bind (wpAny_setField_rec hit (by simp) fun g1 z1 m1 => ?_)
  have m1 : Heap.SameBut it hp g1 := m1
  have z1 : IsItemIter g1 it d (i + 1) es.size ep ok ov := by
    have e : ((i + 1 : Nat) : Int) = (i : Int) + 1 := by omega
    unfold IsItemIter
    rw [e]
    simpa [rawInt] using z1
  have hT1 : Shared.TypeIs ⟨g1, g, dr, tk, os⟩ (.ref it) "dict_itemiterator" := ⟨_, z1, rfl⟩
  refine wpAny_bind (wpAny_holding (wpAny_bind (wpAny_isOneOf_itemiter hT1 (wpAny_bind (wpAny_isOneOf_itemiter hT1 ?_)))))
  show wpAny _ _ (Builtin.Dict_items.pairFromOwner (.ref it) 6 es[i].key es[i].val) _ _ ⟨g1, g, dr, tk, os⟩
  unfold Builtin.Dict_items.pairFromOwner
  refine wpAny_bind (wpAny_newTuple ?_)
  have z2 : IsItemIter (g1.push { cls := .type "tuple", data := .seq #[es[i].key, es[i].val] }) it d (i + 1) es.size ep ok ov := Heap.get?_push_of_some _ z1
  have a2 : (g1.push { cls := .type "tuple", data := .seq #[es[i].key, es[i].val] }).get? hp.objs.size = some { cls := .type "tuple", data := .seq #[es[i].key, es[i].val] } := by rw [← m1.1]; exact Heap.get?_push_size _ rfl
  have s2 : (g1.push { cls := .type "tuple", data := .seq #[es[i].key, es[i].val] }).objs.size = hp.objs.size + 1 := by rw [Heap.size_push, m1.1]
  have k2 : ∀ b o, b ≠ it → hp.get? b = some o → (g1.push { cls := .type "tuple", data := .seq #[es[i].key, es[i].val] }).get? b = some o := fun b o hb e => Heap.get?_push_of_some _ ((m1.2 b hb).trans e)
  generalize g1.push { cls := .type "tuple", data := .seq #[es[i].key, es[i].val] } = g2 at z2 a2 s2 k2
  have il : it < hp.objs.size := Heap.lt_size hit
  show wpAny _ _ (Builtin.Dict_items.ownedTupleIsFree (.ref it) >>= _) _ _ ⟨g2, g, dr, tk, os⟩
  rw [m1.1]
  unfold Builtin.Dict_items.ownedTupleIsFree
  refine wpAny_bind (wpAny_bind (wpAny_field z2 rfl (x := .none) rfl (wpAny_pure ?_)))
  simp only [if_true]
  refine wpAny_bind (wpAny_field z2 rfl (x := ok) rfl (wpAny_bind (wpAny_field z2 rfl (x := ov) rfl (wpAny_bind (wpAny_setField_rec z2 (by simp) fun g3 z3 m3 => ?_)))))
  refine wpAny_bind (wpAny_setField_rec (show IsItemIter g3 it d (i + 1) es.size ep es[i].key ov from z3) (by simp) fun g4 z4 m4 => ?_)
  refine wpAny_bind (wpAny_setField_rec (show IsItemIter g4 it d (i + 1) es.size ep es[i].key es[i].val from z4) (by simp) fun g5 z5 m5 => ?_)
  refine wpAny_bind (wpAny_setField_rec (show IsItemIterOut g5 it d (i + 1) es.size ep es[i].key es[i].val hp.objs.size from z5) (by simp) fun g6 z6 m6 => ?_)
  have up : ∀ b o, b ≠ it → g2.get? b = some o → g6.get? b = some o := fun b o hb e => (m6.2 b hb).trans ((m5.2 b hb).trans ((m4.2 b hb).trans ((m3.2 b hb).trans e)))
  exact wpAny_bind (wpAny_letGo (wpAny_pure (wpAny_pure ⟨_, rfl, wpAny_pure (q g6 z6 (up _ _ (Nat.ne_of_gt il) a2) (by show g6.objs.size = hp.objs.size + 1; rw [m6.1, m5.1, m4.1, m3.1, s2]) fun b o hb e => up b o hb (k2 b o hb e))⟩)))
theorem next_later {a : Addr} {f : Bool} {oa : Obj} {Q : Option Value → Shared → Prop} (hit : KdxIt s.heap it d i es.size ep ok ov a f) (ha : s.heap.get? a = some oa) (hai : a ≠ it) (hm : RD s.heap d es ep) (hi : i < es.size)
    (q : ∀ h', KdxIt h' it d (i + 1) es.size ep ok ov a true → h'.get? s.heap.objs.size = some { cls := .type "tuple", data := .seq #[es[i].key, es[i].val] } → h'.objs.size = s.heap.objs.size + 1 →
      (∀ b o, b ≠ it → s.heap.get? b = some o → h'.get? b = some o) → Q (some (.ref s.heap.objs.size)) { s with heap := h' }) : wpAny (model prog w) A (pyNext (.ref it)) Q E s := by
  obtain ⟨hp, g, dr, tk, os⟩ := s
  obtain ⟨od, e1, e2, e3⟩ := hm
  have hT : Shared.TypeIs ⟨hp, g, dr, tk, os⟩ (.ref it) "dict_itemiterator" := ⟨_, hit, rfl⟩
  have own : Builtin.Dict_items.ownsTuple "dict_itemiterator" = true := by decide
  unfold pyNext
  refine wpAny_bind (wpAny_attempt (wpAny_callSpecial?_slot (name := Str.ofString "__next__") hT F.slot_dict_itemiterator_next
    (wpAny_call_entry F.slot_dict_itemiterator_next hT F.entry_dict_itemiterator_next (wpAny_bind (wpAny_pure (wpAny_bind (wpAny_bind ?_)))) (F.args_dict_itemiterator_next_1 _))))
  first | refine wpAny_bind (wpAny_typeNameOfWhole_itemiter hT (wpAny_pure (wpAny_bind (wpAny_fieldsOf hit rfl ?_)))) | refine wpAny_bind (wpAny_typeNameOf_itemiter hT (wpAny_pure (wpAny_bind (wpAny_fieldsOf hit rfl ?_))))
  simp only [own, if_true]
  show wpAny _ _ (if (Value.ref d == Value.none) = true then _ else _) _ _ _
  rw [if_neg (show ¬ ((Value.ref d == Value.none) = true) from Bool.false_ne_true)]
  refine wpAny_bind (wpAny_pure (wpAny_bind (wpAny_dictEntries e1 e3 ?_)))
  rw [if_neg (by simp)]
  refine wpAny_bind (wpAny_pure (wpAny_bind (wpAny_dictEpoch e1 e3 ?_)))
  rw [if_neg (by simp)]
  refine wpAny_pure ?_
  simp only [show ¬ ((i : Int) < 0) from by omega, if_false, Int.toNat_natCast, Array.getElem?_eq_getElem hi]
  refine wpAny_bind ?_
  first | refine wpAny_bind (wpAny_typeNameOfWhole_itemiter hT (wpAny_pure (wpAny_bind (wpAny_isOneOf_itemiter hT ?_)))) | refine wpAny_bind (wpAny_typeNameOf_itemiter hT (wpAny_pure (wpAny_bind (wpAny_isOneOf_itemiter hT ?_))))
  show wpAny _ _ (setField (.ref it) 3 (rawInt ((i : Int) + 1)) >>= _) _ _ ⟨hp, g, dr, tk, os⟩
  refine wpAny_bind (wpAny_setField_rec hit (by simp) fun g1 z1 m1 => ?_)
  have m1 : Heap.SameBut it hp g1 := m1
  have z1 : KdxIt g1 it d (i + 1) es.size ep ok ov a f := by
    have e : ((i + 1 : Nat) : Int) = (i : Int) + 1 := by omega
    unfold KdxIt
    rw [e]
    simpa [rawInt] using z1
  have hT1 : Shared.TypeIs ⟨g1, g, dr, tk, os⟩ (.ref it) "dict_itemiterator" := ⟨_, z1, rfl⟩
  refine wpAny_bind (wpAny_holding (wpAny_bind (wpAny_isOneOf_itemiter hT1 (wpAny_bind (wpAny_isOneOf_itemiter hT1 ?_)))))
  show wpAny _ _ (Builtin.Dict_items.pairFromOwner (.ref it) 6 es[i].key es[i].val) _ _ ⟨g1, g, dr, tk, os⟩
  unfold Builtin.Dict_items.pairFromOwner
  refine wpAny_bind (wpAny_newTuple ?_)
  have z2 : KdxIt (g1.push { cls := .type "tuple", data := .seq #[es[i].key, es[i].val] }) it d (i + 1) es.size ep ok ov a f := Heap.get?_push_of_some _ z1
  have a2 : (g1.push { cls := .type "tuple", data := .seq #[es[i].key, es[i].val] }).get? hp.objs.size = some { cls := .type "tuple", data := .seq #[es[i].key, es[i].val] } := by rw [← m1.1]; exact Heap.get?_push_size _ rfl
  have s2 : (g1.push { cls := .type "tuple", data := .seq #[es[i].key, es[i].val] }).objs.size = hp.objs.size + 1 := by rw [Heap.size_push, m1.1]
  have k2 : ∀ b o, b ≠ it → hp.get? b = some o → (g1.push { cls := .type "tuple", data := .seq #[es[i].key, es[i].val] }).get? b = some o := fun b o hb e => Heap.get?_push_of_some _ ((m1.2 b hb).trans e)
  generalize g1.push { cls := .type "tuple", data := .seq #[es[i].key, es[i].val] } = g2 at z2 a2 s2 k2
  have il : it < hp.objs.size := Heap.lt_size hit
  show wpAny _ _ (Builtin.Dict_items.ownedTupleIsFree (.ref it) >>= _) _ _ ⟨g2, g, dr, tk, os⟩
  rw [m1.1]
  unfold Builtin.Dict_items.ownedTupleIsFree
  refine wpAny_bind (wpAny_bind (wpAny_field z2 rfl (x := rawInt a) rfl ?_))
  show wpAny _ _ (loadIfAlive ((a : Int).toNat) >>= _) _ _ _
  rw [Int.toNat_natCast]
  refine wpAny_bind (kdx_alive (k2 a oa hai ha) ?_)
  simp only [Option.isNone_some, Bool.false_eq_true, if_false]
  refine wpAny_bind (wpAny_field z2 rfl (x := .bool f) rfl ?_)
  cases f with
  | true =>
    rw [if_neg (show ¬ ((Value.bool true != Value.bool true) = true) from Bool.false_ne_true)]
    refine wpAny_pure ?_
    simp only [Bool.false_eq_true, if_false]
    exact wpAny_pure (wpAny_pure ⟨_, rfl, wpAny_pure (q g2 z2 a2 s2 k2)⟩)
  | false =>
    rw [if_pos (show (Value.bool false != Value.bool true) = true from rfl)]
    refine wpAny_bind (wpAny_setField_rec z2 (by simp) fun g3 z3 m3 => wpAny_pure ?_)
    simp only [Bool.false_eq_true, if_false]
    exact wpAny_pure (wpAny_pure ⟨_, rfl, wpAny_pure (q g3 z3 ((m3.2 _ (Nat.ne_of_gt il)).trans a2) (by show g3.objs.size = hp.objs.size + 1; rw [m3.1, s2]) fun b o hb e => (m3.2 b hb).trans (k2 b o hb e))⟩)
theorem next_end {x0 x1 : Value} {Q : Option Value → Shared → Prop} (hh : A.handled = none) (hit : s.heap.get? it = some { cls := .type "dict_itemiterator", dict := none, data := .fields #[x0, x1, .ref d, .int i 0, .int es.size 0, .int ep 0, ok, ov], slots := #[] }) (hm : RD s.heap d es ep) (hi : es.size ≤ i)
    (q : ∀ h', Heap.ExtBut it s.heap h' → Q none { s with heap := h' }) : wpAny (model prog w) A (pyNext (.ref it)) Q E s := by
  obtain ⟨od, e1, e2, e3⟩ := hm
  have hT : s.TypeIs (.ref it) "dict_itemiterator" := ⟨_, hit, rfl⟩
  have own : Builtin.Dict_items.ownsTuple "dict_itemiterator" = true := by decide
  unfold pyNext
  refine wpAny_bind (wpAny_attempt (wpAny_callSpecial?_slot (name := Str.ofString "__next__") hT F.slot_dict_itemiterator_next
    (wpAny_call_entry F.slot_dict_itemiterator_next hT F.entry_dict_itemiterator_next (wpAny_bind (wpAny_pure (wpAny_bind (wpAny_bind ?_)))) (F.args_dict_itemiterator_next_1 _))))
  first | refine wpAny_bind (wpAny_typeNameOfWhole_itemiter hT (wpAny_pure (wpAny_bind (wpAny_fieldsOf hit rfl ?_)))) | refine wpAny_bind (wpAny_typeNameOf_itemiter hT (wpAny_pure (wpAny_bind (wpAny_fieldsOf hit rfl ?_))))
  simp only [own, if_true]
  show wpAny _ _ (if (Value.ref d == Value.none) = true then _ else _) _ _ _
  rw [if_neg (show ¬ ((Value.ref d == Value.none) = true) from Bool.false_ne_true)]
  refine wpAny_bind (wpAny_pure (wpAny_bind (wpAny_dictEntries e1 e3 ?_)))
  rw [if_neg (by simp)]
  refine wpAny_bind (wpAny_pure (wpAny_bind (wpAny_dictEpoch e1 e3 ?_)))
  rw [if_neg (by simp)]
  refine wpAny_pure ?_
  simp only [show ¬ ((i : Int) < 0) from by omega, if_false, Int.toNat_natCast, Array.getElem?_eq_none hi]
  refine wpAny_bind ?_
  first | refine wpAny_bind (wpAny_typeNameOfWhole_itemiter hT (wpAny_pure ?_)) | refine wpAny_bind (wpAny_typeNameOf_itemiter hT (wpAny_pure ?_))
  show wpAny _ _ (setField (.ref it) 2 .none >>= _) _ _ s
  refine wpAny_bind (wpAny_setField hit rfl (by simp) ?_)
  show wpAny _ _ (newExc (.type "StopIteration") [] >>= _) _ _ _
  simp only [newExc, newTuple]
  refine wpAny_bind (wpAny_bind (wpAny_newObj_type ?_ (by size_fits)))
  refine wpAny_bind (m := firstArgMember _ _) (wpAny_of_eq (a := Value.none) (by first | rfl | (simp only [firstArgMember]; rfl)) (wpAny_newObj_type ?_ (by size_fits)))
  simp only [raiseNew]
  refine wpAny_bind (wpAny_handled ?_)
  rw [show A.in1.handled = none from hh]
  refine wpAny_bind (wpAny_pure (wpAny_throw ?_))
  refine wpAny_bind (wpAny_isInstance (T := "StopIteration") (b := true) ⟨_, Heap.get?_push_size _ rfl, rfl⟩ isSubtype_stop (wpAny_pure (q _ ?_)))
  exact ((Heap.SameBut.update ..).extBut.push _).push _
theorem St.keep {h h' : Heap} {S : Addr} {n : Nat} (x : St h it d S i n ep) (k : ∀ b o, b ≠ S → h.get? b = some o → h'.get? b = some o) (hI : it ≠ S) : St h' it d S i n ep := by
  rcases x with ⟨e, ok, ov, hit⟩ | ⟨ok, ov, a, f, oa, hit, ha, hai, haS⟩
  · exact .inl ⟨e, ok, ov, k _ _ hI hit⟩
  · exact .inr ⟨ok, ov, a, f, oa, k _ _ hI hit, k _ _ haS ha, hai, haS⟩
theorem next_item {S : Addr} {Q : Option Value → Shared → Prop} (st : St s.heap it d S i es.size ep) (hS : S < s.heap.objs.size) (hm : RD s.heap d es ep) (hi : i < es.size)
    (q : ∀ h', St h' it d S (i + 1) es.size ep → h'.get? s.heap.objs.size = some { cls := .type "tuple", data := .seq #[es[i].key, es[i].val] } → h'.objs.size = s.heap.objs.size + 1 →
      (∀ b o, b ≠ it → s.heap.get? b = some o → h'.get? b = some o) → Q (some (.ref s.heap.objs.size)) { s with heap := h' }) : wpAny (model prog w) A (pyNext (.ref it)) Q E s := by
  rcases st with ⟨rfl, ok, ov, hit⟩ | ⟨ok, ov, a, f, oa, hit, ha, hai, haS⟩
  · exact next_first hit hm hi fun h' r1 r2 r3 r4 => q h' (.inr ⟨_, _, _, false, _, r1, r2, Nat.ne_of_gt (Heap.lt_size hit), Nat.ne_of_gt hS⟩) r2 r3 r4
  · exact next_later hit ha hai hm hi fun h' r1 r2 r3 r4 => q h' (.inr ⟨ok, ov, a, true, oa, r1, r4 a oa hai ha, hai, haS⟩) r2 r3 r4
theorem next_done {S : Addr} {Q : Option Value → Shared → Prop} (hh : A.handled = none) (st : St s.heap it d S es.size es.size ep) (hm : RD s.heap d es ep)
    (q : ∀ h', Heap.ExtBut it s.heap h' → Q none { s with heap := h' }) : wpAny (model prog w) A (pyNext (.ref it)) Q E s := by
  rcases st with ⟨e, ok, ov, hit⟩ | ⟨ok, ov, a, f, oa, hit, _⟩
  · rw [← e] at hit
    exact next_end (i := es.size) hh hit hm (Nat.le_refl _) q
  · exact next_end hh hit hm (Nat.le_refl _) q
def Made (es : Array DictEntry) (lo : Addr) (h : Heap) (as : List Addr) : Prop := ∀ (j : Nat) (a : Addr), as[j]? = some a → lo < a ∧ ∃ e, es[j]? = some e ∧ h.get? a = some { cls := .type "tuple", data := .seq #[e.key, e.val] }
theorem loop {R : Result → Shared → Prop} {S I : Addr} (hh : A.handled = none) (hSI : S < I) (hSd : d ≠ S) (hId : d ≠ I) (hn : es.size ≤ sizeLine) (res : Value) {h1 : Heap}
    (hR : ∀ h' tk acc c as, (∀ b o, b ≠ S → b ≠ I → h1.get? b = some o → h'.get? b = some o) → h'.get? S = some { cls := .type "list", dict := none, data := .seq acc c, slots := #[] } → as.length = es.size → Made es I h' as → acc.toList = as.map Value.ref → R (.ok (.ret res)) { s with heap := h', toks := tk }) :
    ∀ (k i : Nat) (h : Heap) (tk c : Nat) (acc : Array Value) (as : List Addr), es.size - i = k → i ≤ es.size → St h I d S i es.size ep → RD h d es ep → (∀ b o, b ≠ S → b ≠ I → h1.get? b = some o → h.get? b = some o) →
      h.get? S = some { cls := .type "list", dict := none, data := .seq acc c, slots := #[] } → acc.toList = as.map Value.ref → as.length = i → Made es I h as → I < h.objs.size →
      codeAny (model prog w) A (.builtin "list.extend.loop" ⟨[.ref S, .ref I, res], []⟩) R { s with heap := h, toks := tk } := by
  have ne : S ≠ I := Nat.ne_of_lt hSI
  intro k
  induction k with
  | zero =>
    intro i h tk c acc as hk hi st hD kp hS ha hl hG hIs
    have hin : i = es.size := by omega
    subst hin
    refine codeAny_builtin PySem.F.entry_extend_loop ?_
    rw [Around.under_plainId PySem.F.plain_extend_loop _]
    show wpAny _ A.in1 (pyNext (.ref I) >>= _) _ _ _
    refine wpAny_bind (next_done (s := { s with heap := h, toks := tk }) (A := A.in1) hh st hD fun h' he => wpAny_pure (hR h' tk acc c as (fun b o r1 r2 e => he b o r2 (kp b o r1 r2 e)) (he S _ ne hS) hl (fun j a hj => ?_) ha))
    obtain ⟨r1, e, r2, r3⟩ := hG j a hj
    exact ⟨r1, e, r2, he a _ (Nat.ne_of_gt r1) r3⟩
  | succ k ih =>
    intro i h tk c acc as hk hi st hD kp hS ha hl hG hIs
    have hlt : i < es.size := by omega
    have hsz : acc.size = i := by rw [← Array.length_toList, ha, List.length_map, hl]
    refine codeAny_builtin PySem.F.entry_extend_loop ?_
    rw [Around.under_plainId PySem.F.plain_extend_loop _]
    show wpAny _ A.in1 (pyNext (.ref I) >>= _) _ _ _
    refine wpAny_bind (next_item (s := { s with heap := h, toks := tk }) (S := S) st (Heap.lt_size hS) hD hlt fun h' st' ht hz hkp => ?_)
    dsimp only at ht hz hkp ⊢
    have hS' := hkp S _ ne hS
    have up : ∀ b o, b ≠ S → h'.get? b = some o → (h'.update S (Obj.mapSeq (·.push (Value.ref h.objs.size)))).get? b = some o := fun b o hb e => (Heap.get?_update_other _ _ (Ne.symm hb)).trans e
    have hSl : S < h.objs.size := Heap.lt_size hS
    have hT := up _ _ (Nat.ne_of_gt hSl) ht
    show wpAny _ A.in1 (updateSeq S (·.push (Value.ref h.objs.size)) >>= _) _ _ _
    refine wpAny_bind (wpAny_updateSeq hS' rfl (wpAny_pure ⟨plainId_quiet PySem.F.plain_extend_loop _, ih (i + 1) _ tk _ (acc.push (Value.ref h.objs.size)) (as ++ [h.objs.size]) (by omega) hlt (st'.keep up (Ne.symm ne)) ?_ (fun b o r1 r2 e => up b o r1 (hkp b o r2 (kp b o r1 r2 e)))
      (Heap.get?_update_self _ hS' rfl) (by rw [Array.toList_push, ha, List.map_append]; rfl) (by rw [List.length_append, hl]; rfl) (fun j b hj => ?_) (Nat.lt_trans hIs (Heap.lt_size hT))⟩) (by rw [hsz]; omega) (by show (acc.push (Value.ref h.objs.size)).size ≤ sizeLine + 1; rw [Array.size_push, hsz]; omega))
    · obtain ⟨o, r1, r2⟩ := hD
      exact ⟨o, up d o hSd (hkp d o hId r1), r2⟩
    · by_cases hj1 : j < as.length
      · rw [List.getElem?_append_left hj1] at hj
        obtain ⟨r1, e, r2, r3⟩ := hG j b hj
        exact ⟨r1, e, r2, up b _ (Nat.ne_of_gt (Nat.lt_trans hSI r1)) (hkp b _ (Nat.ne_of_gt r1) r3)⟩
      · rw [List.getElem?_append_right (by omega)] at hj
        have hj0 : j - as.length = 0 := by
          have := (List.getElem?_eq_some_iff.mp hj).1
          simp at this
          omega
        rw [hj0] at hj
        have hb : h.objs.size = b := by simpa using hj
        subst hb
        have hji : j = i := by omega
        subst hji
        exact ⟨hIs, _, Array.getElem?_eq_getElem hlt, hT⟩
theorem iter {v : Addr} {Q : Value → Shared → Prop} (hv : s.heap.IsItemsView v d) (hm : RD s.heap d es ep)
    (q : Q (.ref s.heap.objs.size) { s with heap := s.heap.push { cls := .type "dict_itemiterator", data := .fields #[.none, .bool false, .ref d, .int 0 0, .int es.size 0, .int ep 0, .none, .none] } }) : wpAny (model prog w) A (pyIter (.ref v)) Q E s := by
  obtain ⟨o1, r1, r2, r3⟩ := id hv
  obtain ⟨od, e1, e2, e3⟩ := hm
  have own : Builtin.Dict_items.ownsTuple "dict_itemiterator" = true := by decide
  refine wpAny_pyIter_slot hv.typeIs F.slot_dict_items_iter (wpAny_call_entry F.slot_dict_items_iter hv.typeIs F.entry_dict_items_iter ?_ (F.args_dict_items_iter_1 _))
  unfold Builtin.«dict_items.__iter__»
  refine wpAny_bind (wpAny_pure (wpAny_bind ?_))
  unfold Builtin.Dict_items.dictOf
  refine wpAny_bind (wpAny_field r1 r3 (x := .ref d) rfl (wpAny_pure (wpAny_bind ?_)))
  unfold Builtin.Dict_items.newIterator
  refine wpAny_bind (wpAny_dictEntries e1 e3 (wpAny_bind (wpAny_dictEpoch e1 e3 ?_)))
  simp only [own, if_true]
  refine wpAny_newObj_type (wpAny_pure ⟨_, rfl, "dict_itemiterator", _, ⟨_, Heap.get?_push_size _ rfl, rfl⟩, F.slot_dict_itemiterator_next.lookup, ?_⟩)
    (by simp only [sizeOk, Builtin.Dict_items.ownedTupleFields, List.size_toArray, List.length_append, List.length_cons, List.length_nil, sizeLine_eq]; omega)
  simpa [rawInt, Builtin.Dict_items.ownedTupleFields] using q
theorem extend {R : Result → Shared → Prop} {v : Addr} (hh : A.handled = none) (hv : s.heap.IsItemsView v d) (hm : RD s.heap d es ep) (S : Addr) (hSv : S ≠ v) (hSd : d ≠ S) (res : Value) (c0 : Nat) (hS : s.heap.get? S = some { cls := .type "list", data := .seq #[] c0 })
    (hR : ∀ h' tk acc c as, (∀ b o, b ≠ S → s.heap.get? b = some o → h'.get? b = some o) → h'.get? S = some { cls := .type "list", dict := none, data := .seq acc c, slots := #[] } → as.length = es.size → Made es s.heap.objs.size h' as → acc.toList = as.map Value.ref → R (.ok (.ret res)) { s with heap := h', toks := tk }) (hn : es.size ≤ sizeLine) :
    wpAny (model prog w) A.in1 (Builtin.List.listExtendWith (.ref S) (.ref v) res) (fun fin s' => match fin with | .done f => R (.ok f) s' | .again c' => c'.quiet = true ∧ codeAny (model prog w) A c' R s') (fun e s' => R (.error e) s') s := by
  have hSI : S < s.heap.objs.size := Heap.lt_size hS
  have hdI : d < s.heap.objs.size := by obtain ⟨o, e, _⟩ := hm; exact Heap.lt_size e
  have go : ∀ (h : Heap) (c1 tk : Nat), (∀ b o, b ≠ S → (s.heap.push { cls := .type "dict_itemiterator", data := .fields #[.none, .bool false, .ref d, .int 0 0, .int es.size 0, .int ep 0, .none, .none] }).get? b = some o → h.get? b = some o) →
      h.get? S = some { cls := .type "list", data := .seq #[] c1 } → codeAny (model prog w) A (.builtin "list.extend.loop" ⟨[.ref S, .ref s.heap.objs.size, res], []⟩) R { s with heap := h, toks := tk } := fun h c1 tk hk hS1 => by
    have hI := hk s.heap.objs.size _ (Nat.ne_of_gt hSI) (Heap.get?_push_size _ rfl)
    refine loop (h1 := s.heap) (ep := ep) hh hSI hSd (Nat.ne_of_lt hdI) hn res (fun h' tk' acc c as r1 r2 r3 r4 r5 => hR h' tk' acc c as (fun b o hb e => r1 b o hb (Nat.ne_of_lt (Heap.lt_size e)) e) r2 r3 r4 r5) es.size 0 h tk c1 #[] [] (Nat.sub_zero _) (Nat.zero_le _)
      (.inl ⟨rfl, .none, .none, hI⟩) ?_ (fun b o hb _ e => hk b o hb (Heap.get?_push_of_some _ e)) hS1 rfl rfl (fun j a hj => by simp at hj) (Heap.lt_size hI)
    obtain ⟨o, e, r⟩ := hm
    exact ⟨o, hk d o hSd (Heap.get?_push_of_some _ e), r⟩
  unfold Builtin.List.listExtendWith
  refine wpAny_bind (wpAny_typeOf (T := "dict_items") hv.typeIs ?_)
  have t1 : Builtin.List.listSameRef (.ref S) (.ref v) = false := by simp [Builtin.List.listSameRef, hSv]
  have t2 : (Value.type "dict_items" == Value.type "list") = false := by decide
  have t3 : (Value.type "dict_items" == Value.type "tuple") = false := by decide
  simp only [t1, t2, t3, Bool.or_false, Bool.false_eq_true, if_false]
  refine wpAny_bind (iter hv hm ?_)
  have g1 := Heap.get?_push_of_some { cls := .type "dict_itemiterator", data := .fields #[.none, .bool false, .ref d, .int 0 0, .int es.size 0, .int ep 0, .none, .none] } hS
  refine wpAny_bind (wpAny_holding (kdx_hint (let ⟨o, ho, hc, _⟩ := hv; ⟨o, Heap.get?_push_of_some _ ho, hc⟩) ?_))
  refine wpAny_ite_split (fun _ => ?_) (fun _ => wpAny_pure ⟨plainId_quiet PySem.F.plain_extend_loop _, go _ c0 _ (fun b o _ e => e) g1⟩)
  refine wpAny_bind (wpAny_rule (wpAny_bind ?_))
  show wpAny _ _ (updateSeq S (·.push .none) >>= fun _ => updateSeq S (·.pop)) _ _ _
  refine wpAny_bind (wpAny_updateSeq g1 rfl ?_)
  have g2 := Heap.get?_update_self (Obj.mapSeq (·.push Value.none)) g1 rfl
  refine wpAny_updateSeq (hz := by seq_fits) g2 rfl ?_
  have g3 := Heap.get?_update_self (Obj.mapSeq (·.pop)) g2 rfl
  exact wpAny_pure ⟨plainId_quiet PySem.F.plain_extend_loop _, go _ _ _ (fun b o hb e => (Heap.get?_update_other _ _ (Ne.symm hb)).trans ((Heap.get?_update_other _ _ (Ne.symm hb)).trans e)) g3⟩
theorem gather {R : List Value → Shared → Prop} {v : Addr} (hh : A.handled = none) (hv : s.heap.IsItemsView v d) (hm : RD s.heap d es ep) (hn : es.size ≤ sizeLine)
    (k : ∀ (h1 : Heap) (tk : Nat) (as : List Addr), s.heap.objs.size < h1.objs.size → (∀ b u, s.heap.get? b = some u → h1.get? b = some u) → as.length = es.size → Made es s.heap.objs.size h1 as → R (as.map Value.ref) { s with heap := h1, toks := tk }) :
    wpAny (model prog w) A (collect (.ref v)) R E s := by
  have lv : v < s.heap.objs.size := by obtain ⟨o, e, _⟩ := hv; exact Heap.lt_size e
  have ld : d < s.heap.objs.size := by obtain ⟨o, e, _⟩ := hm; exact Heap.lt_size e
  unfold collect
  refine wpAny_bind (wpAny_runValue (codeAny_builtin entry_proto_collect' ?_))
  rw [Around.under_plainId PySem.F.plain_proto_collect _]
  show wpAny _ A.in1 (newList [] >>= fun x => again (.builtin "list.__iadd__" ⟨[x, .ref v], []⟩)) _ _ s
  refine wpAny_bind (wpAny_newObj_type (wpAny_pure ⟨plainId_quiet PySem.F.plain_list_iadd _, codeAny_builtin entry_list_iadd' ?_⟩))
  rw [Around.under_plainId PySem.F.plain_list_iadd _]
  have g0 : (s.heap.push { cls := .type "list", data := .seq ([] : List Value).toArray }).get? s.heap.objs.size = some { cls := .type "list", data := .seq #[] } := Heap.get?_push_size _ rfl
  have sz0 : (s.heap.push { cls := .type "list", data := .seq ([] : List Value).toArray }).objs.size = s.heap.objs.size + 1 := Heap.size_push ..
  have main := extend (prog := prog) (w := w) (A := A) (s := { s with heap := s.heap.push { cls := .type "list", data := .seq ([] : List Value).toArray } }) (es := es) (ep := ep) hh (v := v) (d := d) (by obtain ⟨o, e, r⟩ := hv; exact ⟨o, Heap.get?_push_of_some _ e, r⟩) (by obtain ⟨o, e, r⟩ := hm; exact ⟨o, Heap.get?_push_of_some _ e, r⟩)
    s.heap.objs.size (Nat.ne_of_gt lv) (Nat.ne_of_lt ld) (.ref s.heap.objs.size) 0 g0
    (R := fun q s1 => ∃ h1 tk acc c as, q = .ok (.ret (.ref s.heap.objs.size)) ∧ s1 = { s with heap := h1, toks := tk } ∧ (∀ b u, s.heap.get? b = some u → h1.get? b = some u) ∧ h1.get? s.heap.objs.size = some { cls := .type "list", dict := none, data := .seq acc c, slots := #[] } ∧ as.length = es.size ∧ Made es s.heap.objs.size h1 as ∧ acc.toList = as.map Value.ref)
    (fun h1 tk acc c as k1 g1 hl hG ha => ⟨h1, tk, acc, c, as, rfl, rfl, fun b u e => k1 b u (Nat.ne_of_lt (Heap.lt_size e)) (Heap.get?_push_of_some _ e), g1, hl, fun j a hj => by
      obtain ⟨r1, r2⟩ := hG j a hj
      exact ⟨Nat.lt_trans (by show s.heap.objs.size < (s.heap.push _).objs.size; rw [sz0]; exact Nat.lt_succ_self _) r1, r2⟩, ha⟩) hn
  refine wpAny_mono main (fun fin s1 x => ?_) fun e s1 x => ?_
  · cases fin with
    | done f =>
      obtain ⟨h1, tk, acc, c, as, e, rfl, k1, g1, hl, hG, ha⟩ := x
      cases e
      show wpAny _ A (load s.heap.objs.size >>= _) _ _ _
      refine wpAny_bind (wpAny_load g1 (wpAny_pure ?_))
      show R acc.toList _
      rw [ha]
      exact k h1 tk as (Heap.lt_size g1) k1 hl hG
    | again c1 =>
      refine ⟨x.1, codeAny_mono x.2 fun q s2 y => ?_⟩
      obtain ⟨h1, tk, acc, c, as, rfl, rfl, k1, g1, hl, hG, ha⟩ := y
      show wpAny _ A (load s.heap.objs.size >>= _) _ _ _
      refine wpAny_bind (wpAny_load g1 (wpAny_pure ?_))
      show R acc.toList _
      rw [ha]
      exact k h1 tk as (Heap.lt_size g1) k1 hl hG
  · obtain ⟨_, _, _, _, _, e, _⟩ := x
    cases e
end
end DI
set_option Elab.async false
set_option linter.all false
set_option maxRecDepth 100000
set_option maxHeartbeats 4000000
namespace DI
open PySem PySem.W PyProof.Rows PySem.SeqAt GS
section
variable {prog : Program} {w : World} {A : Around} {E : Value → Shared → Prop} {s : Shared} {d v : Addr} {ep : Nat} {es : Array DictEntry} {ks : List IT.Tm}
def EntV (h : Heap) (k : IT.Tm) (e : DictEntry) : Prop := ∃ (b c : Addr) (its its2 : List Value), e.key = .ref b ∧ e.val = .ref c ∧ h.IsTuple b its.toArray ∧ IT.Is k.1 its ∧ h.IsTuple c its2.toArray ∧ IT.Is k.2 its2
theorem sorted_items {b : Bool} {Q : Value → Shared → Prop} (hh : A.handled = none) (hv : s.heap.IsItemsView v d) (hm : RD s.heap d es ep) (hn : es.size < 64) (hl : ks.length = es.size) (he : ∀ (j : Nat) (k : IT.Tm) (e : DictEntry), ks[j]? = some k → es[j]? = some e → EntV s.heap k e) (hu : A.units + 4 < cLine)
    (h : ∀ (h' : Heap) (D tk : Nat) (ix : List Nat) (e1 : Nat) (as : List Addr), (∀ b u, s.heap.get? b = some u → h'.get? b = some u) → as.length = es.size → (∀ (j : Nat) (a : Addr), as[j]? = some a → s.heap.objs.size < a ∧ a < D ∧ ∃ e, es[j]? = some e ∧ h'.get? a = some { cls := .type "tuple", data := .seq #[e.key, e.val] }) →
      h'.get? D = some (seqObj "list" (ix.map fun i => (as.map Value.ref).getD i Value.none).toArray e1) → ix.Perm (List.range es.size) → (ix.map fun i => ks.getD i ([], [])).Pairwise (fun x y => if b = true then IT.ordT.kle y x else IT.ordT.kle x y) → s.heap.objs.size ≤ D → Q (.ref D) { s with heap := h', toks := tk }) :
    wpAny (model prog w) A (call (.builtin "sorted") [.ref v] [(Str.ofString "reverse", .bool b)]) Q E s := by
  refine call_function_entry_kw kind_sorted plain_sorted entry_sorted (args_sorted_rev _ _) ?_
  unfold Builtin.«sorted»
  refine wpAny_bind (m := checkCount "sorted" 1 1 _) (wpAny_pure ?_)
  refine wpAny_bind (gather (A := A.in1) hh hv hm (by rw [sizeLine_eq]; omega) fun h1 tk as z1 k1 hal hG => ?_)
  have hus : (as.map Value.ref).length = es.size := by rw [List.length_map, hal]
  refine wpAny_bind (wpAny_newList ?_ (by rw [sizeLine_eq]; omega))
  have C : Cmp IT.ordT prog w h1 2 ks (as.map Value.ref) := IT.term_cmp (by rw [hus, hl]) fun i x u hx hu' => by
    rw [List.getElem?_map] at hu'
    obtain ⟨a, ha, rfl⟩ := Option.map_eq_some_iff.mp hu'
    obtain ⟨r1, e, r2, r3⟩ := hG i a ha
    obtain ⟨b, c, its, its2, q1, q2, q3, q4, q5, q6⟩ := he i x e hx r2
    refine ⟨a, b, c, its, its2, rfl, ⟨_, r3, rfl, 0, ?_⟩, ?_, q4, ?_, q6⟩
    · rw [q1, q2]
    · obtain ⟨o, y, r⟩ := q3; exact ⟨o, k1 _ _ y, r⟩
    · obtain ⟨o, y, r⟩ := q5; exact ⟨o, k1 _ _ y, r⟩
  have hr : Runs IT.ordT prog w (if b then ks.reverse else ks) := by
    cases b with
    | true => exact runs_small (O := IT.ordT) (ks := ks.reverse) (show (ks.reverse : List IT.Tm).length < 64 by rw [List.length_reverse, hl]; exact hn)
    | false => exact runs_small (O := IT.ordT) (ks := ks) (show (ks : List IT.Tm).length < 64 by rw [hl]; exact hn)
  obtain ⟨g1, x2, fin⟩ := sorted_tail (s := { s with heap := h1, toks := tk }) (h1 := h1) (T := pure (.done (.ret .none))) (tk := tk) (b := b) (([], []) : IT.Tm) C (by omega) hr (fun _ _ e => e) (Nat.le_refl _)
    (Q := fun x s' => ∃ (h' : Heap) (D tk : Nat) (ix : List Nat) (e1 : Nat), x = .ref D ∧ s' = { s with heap := h', toks := tk } ∧ h1.objs.size ≤ D ∧ Ext h1 h' ∧ h'.get? D = some (seqObj "list" (ix.map fun i => (as.map Value.ref).getD i Value.none).toArray e1) ∧ ix.Perm (List.range (as.map Value.ref).length) ∧ (ix.map fun i => ks.getD i ([], [])).Pairwise (fun x y => if b = true then IT.ordT.kle y x else IT.ordT.kle x y))
    (fun h' D tk ix e1 a1 a2 a3 a4 a5 => ⟨h', D, tk, ix, e1, rfl, rfl, a1, a2, a3, a4, a5⟩)
  refine wpAny_bind (wpAny_holding (wpAny_call_entry_kw slot_list_sort ⟨_, g1, rfl⟩ entry_list_sort ?_ (args_list_sort_rev _ _)))
  refine list_sort (s := { s with heap := h1.push (seqObj "list" (as.map Value.ref).toArray 0), toks := tk }) (([], []) : IT.Tm) C x2 (Nat.le_refl _) g1 (by omega) hr (by rw [show A.in1.in1.units = A.units + 2 from rfl]; omega) fun ix p1 p2 => ⟨_, rfl, ?_⟩
  refine wpAny_pure ⟨_, rfl, ?_⟩
  obtain ⟨h', D, tk', ix', e1, q1, q2, q3, q4, q5, q6, q7⟩ := fin ix p1 p2
  rw [q1]
  have := h h' D tk' ix' e1 as (fun b u e => q4 _ _ (k1 b u e)) hal (fun j a hj => by
    obtain ⟨r1, e, r2, r3⟩ := hG j a hj
    exact ⟨r1, Nat.lt_of_lt_of_le (Heap.lt_size r3) q3, e, r2, q4 _ _ r3⟩) q5 (by rw [hus] at q6; exact q6) q7 (Nat.le_trans (Nat.le_of_lt z1) q3)
  rw [← q2] at this
  exact this
end
end DI
set_option Elab.async false
set_option linter.all false
set_option maxRecDepth 100000
set_option maxHeartbeats 4000000
namespace L2
open PySem PySem.Spec PyProof.Rows
section
variable {κ : Type} [DecidableEq κ]
def valV (kvs : List (κ × V)) (k : κ) : Option V := (kvs.find? fun kv => decide (kv.1 = k)).map (·.2)
def putK (kvs : List (κ × V)) (k : κ) (v : V) : List (κ × V) :=
  if (kvs.any fun kv => decide (kv.1 = k)) = true then kvs.map (fun kv => if kv.1 = k then (kv.1, v) else kv) else kvs ++ [(k, v)]
theorem valV_pos {p : κ × V} {r : List (κ × V)} {k : κ} (e : p.1 = k) : valV (p :: r) k = some p.2 := by simp [valV, List.find?_cons, e]
theorem valV_neg {p : κ × V} {r : List (κ × V)} {k : κ} (e : ¬ p.1 = k) : valV (p :: r) k = valV r k := by simp [valV, List.find?_cons, e]
theorem valV_any (k : κ) : ∀ kvs : List (κ × V), (kvs.any fun kv => decide (kv.1 = k)) = (valV kvs k).isSome
  | [] => rfl
  | p :: r => by
    rw [List.any_cons]
    by_cases e : p.1 = k
    · simp only [valV_pos e, decide_eq_true e, Bool.true_or, Option.isSome_some]
    · rw [valV_neg e, decide_eq_false e, Bool.false_or]; exact valV_any k r
theorem length_putK (kvs : List (κ × V)) (k : κ) (v : V) : (putK kvs k v).length ≤ kvs.length + 1 := by
  unfold putK
  split
  · rw [List.length_map]; omega
  · rw [List.length_append, List.length_cons, List.length_nil]; omega
theorem putK_new {kvs : List (κ × V)} {k : κ} (v : V) (h : valV kvs k = none) : putK kvs k v = kvs ++ [(k, v)] := by
  unfold putK
  rw [valV_any, h]
  exact if_neg (by decide)
theorem RelO.isSome_eq {o : Option V} {u : Option Value} (r : RelO o u) : o.isSome = u.isSome := by
  cases o with
  | none => cases u with
    | none => rfl
    | some _ => exact (show False from r).elim
  | some _ => cases u with
    | none => exact (show False from r).elim
    | some _ => rfl
theorem KV.any {kvs : List (κ × V)} {vs : List (κ × Value)} (r : KV kvs vs) (k : κ) : (kvs.any fun kv => decide (kv.1 = k)) = vs.any fun kv => decide (kv.1 = k) := by
  unfold KV at r
  induction r with
  | nil => rfl
  | cons h t ih => rw [List.any_cons, List.any_cons, ih, h.1]
theorem KV.repl {kvs : List (κ × V)} {vs : List (κ × Value)} (r : KV kvs vs) (k : κ) {y : V} {u : Value} (ry : RelV y u) :
    KV (kvs.map fun kv => if kv.1 = k then (kv.1, y) else kv) (vs.map fun kv => if kv.1 = k then (kv.1, u) else kv) := by
  unfold KV at r ⊢
  induction r with
  | nil => exact .nil
  | @cons p q ps qs h t ih =>
    rw [List.map_cons, List.map_cons]
    refine .cons ?_ ih
    obtain ⟨h1, h2⟩ := h
    by_cases e : p.1 = k
    · rw [if_pos e, if_pos (h1.symm.trans e)]; exact ⟨h1, ry⟩
    · rw [if_neg e, if_neg (fun z => e (h1.trans z))]; exact ⟨h1, h2⟩
theorem KV.put {kvs : List (κ × V)} {vs : List (κ × Value)} (r : KV kvs vs) (k : κ) {y : V} {u : Value} (ry : RelV y u) : KV (putK kvs k y) (stored vs k u) := by
  unfold putK stored
  rw [r.any k]
  by_cases e : (vs.any fun kv => decide (kv.1 = k)) = true
  · rw [if_pos e, if_pos e]; exact r.repl k ry
  · rw [if_neg e, if_neg e]; exact Paired.snoc r ⟨rfl, ry⟩
theorem KV.length {kvs : List (κ × V)} {vs : List (κ × Value)} (r : KV kvs vs) : kvs.length = vs.length := Paired.length r
end
theorem kV_is {P : Program} {w : World} {k : Key} {u : Value} (r : RelV (kV k) u) : (mixKind P w).is k u = true := by
  cases k with
  | inl i => obtain ⟨t, e⟩ := (show ∃ t, u = Value.int i t from r); subst e; exact mixKind_int P w i t
  | inr x => obtain ⟨t, e⟩ := (show ∃ t, u = Value.str x t from r); subst e; exact mixKind_str P w x t
theorem items_are {P : Program} {w : World} : ∀ {ks : List Key} {us : List Value}, Vals (ks.map kV) us → ItemsAre (mixKind P w) ks us
  | [], _, r => by rw [List.map_nil] at r; cases r; exact .nil
  | k :: ks, _, r => by
    rw [List.map_cons] at r
    cases r with
    | cons h t => exact .cons (kV_is h) (items_are t)
abbrev KT (H : Hp) : List (List Key × V) → List (List Key × Addr × Value) → Prop := Paired fun p q => p.1 = q.1 ∧ H q.2.1 = some (.tup (p.1.map kV)) ∧ RelV p.2 q.2.2
theorem KT.val {H : Hp} {kvs : List (List Key × V)} {xs : List (List Key × Addr × Value)} (r : KT H kvs xs) (k : List Key) : RelO (valV kvs k) ((atKey xs k).map (·.2)) := by
  induction r with
  | nil => exact True.intro
  | @cons p q ps qs h t ih =>
    obtain ⟨h1, _, h2⟩ := h
    by_cases e : p.1 = k
    · have e' : q.1 = k := h1.symm.trans e
      have b : atKey (q :: qs) k = some q.2 := by simp [atKey, List.find?_cons, e']
      rw [valV_pos e, b]; exact h2
    · have e' : ¬ q.1 = k := fun z => e (h1.trans z)
      have b : atKey (q :: qs) k = atKey qs k := by simp [atKey, List.find?_cons, e']
      rw [valV_neg e, b]; exact ih
theorem KT.repl {H : Hp} {kvs : List (List Key × V)} {xs : List (List Key × Addr × Value)} (r : KT H kvs xs) (k : List Key) {y : V} {u : Value} (ry : RelV y u) :
    KT H (kvs.map fun kv => if kv.1 = k then (kv.1, y) else kv) (xs.map (putAt k u)) := by
  induction r with
  | nil => exact .nil
  | @cons p q ps qs h t ih =>
    rw [List.map_cons, List.map_cons]
    refine .cons ?_ ih
    obtain ⟨h1, h2, h3⟩ := h
    unfold putAt
    by_cases e : p.1 = k
    · rw [if_pos e, if_pos (h1.symm.trans e)]; exact ⟨h1, h2, ry⟩
    · rw [if_neg e, if_neg (fun z => e (h1.trans z))]; exact ⟨h1, h2, h3⟩
theorem KT.put {H : Hp} {kvs : List (List Key × V)} {xs : List (List Key × Addr × Value)} (r : KT H kvs xs) (k : List Key) {b : Addr} {y : V} {u : Value} (hb : H b = some (.tup (k.map kV))) (ry : RelV y u) :
    KT H (putK kvs k y) (storedH xs k b u) := by
  have e : (kvs.any fun kv => decide (kv.1 = k)) = (atKey xs k).isSome := by
    rw [valV_any, (r.val k).isSome_eq, Option.isSome_map]
  unfold putK storedH
  rw [e]
  by_cases q : (atKey xs k).isSome = true
  · rw [if_pos q, if_pos q]; exact r.repl k ry
  · rw [if_neg q, if_neg q]; exact Paired.snoc r ⟨rfl, hb, ry⟩
theorem KT.keeps {H H' : Hp} {kvs : List (List Key × V)} {xs : List (List Key × Addr × Value)} (r : KT H kvs xs) (ht : ∀ b ys, H b = some (.tup ys) → H' b = some (.tup ys)) : KT H' kvs xs :=
  Paired.mapP r fun _ _ z => ⟨z.1, ht _ _ z.2.1, z.2.2⟩
section
variable {P : Program} {w : World} {H : Hp} {h : Heap} {a : Addr}
theorem rd_of {u : HO} (ok : HOk P w H h) (e : Rd H a u) : ObjOk P w H h a u := e.ok ok
theorem dk_rd {kvs : List (Key × V)} (ok : HOk P w H h) (e : Rd H a (.dK kvs)) : kvs.length ≤ sizeLine ∧ (a == sysModules) = false ∧ ∃ vs, KV kvs vs ∧ h.DictOf (mixKind P w) a vs :=
  show ObjOk P w H h a (.dK kvs) from rd_of ok e
theorem dk_of {kvs : List (Key × V)} (ok : HOk P w H h) (e : H a = some (.dK kvs)) : kvs.length ≤ sizeLine ∧ (a == sysModules) = false ∧ ∃ vs, KV kvs vs ∧ h.DictOf (mixKind P w) a vs := dk_rd ok (.inl e)
theorem key_of {ks : List Key} (ok : HOk P w H h) (e : H a = some (.tup (ks.map kV))) : (tupleKind (mixKind P w)).is h ks a := by
  obtain ⟨_, its, r, o, h1, h2, n, h3⟩ := (show ObjOk P w H h a (.tup (ks.map kV)) from ok a _ e)
  exact ⟨o, its.toArray, n, h1, h2, h3, by simpa using items_are r⟩
theorem dt_rd {kvs : List (List Key × V)} (ok : HOk P w H h) (e : Rd H a (.dT kvs)) : kvs.length ≤ sizeLine ∧ (a == sysModules) = false ∧
    ∃ xs, KT H kvs xs ∧ h.DictOfH (tupleKind (mixKind P w)) a xs := by
  obtain ⟨z, y, xs, r, o, es, ep, h1, h2, h3, h4, h5⟩ := (show ObjOk P w H h a (.dT kvs) from rd_of ok e)
  refine ⟨z, y, xs, r, o, es, ep, h1, h2, h3, h4, fun x hx => ?_, h5⟩
  have all : ∀ {l : List (List Key × V)} {m : List (List Key × Addr × Value)}, KT H l m → ∀ x ∈ m, (tupleKind (mixKind P w)).is h x.1 x.2.1 := by
    intro l m q
    induction q with
    | nil => intro x hx; exact nomatch hx
    | @cons p q ps qs hq t ih =>
      intro x hx
      rcases List.mem_cons.mp hx with e | hx
      · subst e
        exact key_of ok (by rw [← hq.1]; exact hq.2.1)
      · exact ih x hx
  exact all r x hx
theorem dt_of {kvs : List (List Key × V)} (ok : HOk P w H h) (e : H a = some (.dT kvs)) : kvs.length ≤ sizeLine ∧ (a == sysModules) = false ∧
    ∃ xs, KT H kvs xs ∧ h.DictOfH (tupleKind (mixKind P w)) a xs := dt_rd ok (.inl e)
end
def DPut (H : Hp) (a : Addr) (y v : V) (H' : Hp) : Prop :=
  (∃ kvs k, H a = some (.dK kvs) ∧ y = kV k ∧ kvs.length < sizeLine ∧ H' = upd H a (.dK (putK kvs k v))) ∨
  ∃ kvs k b, H a = some (.dT kvs) ∧ y = .ref b ∧ H b = some (.tup (k.map kV)) ∧ kvs.length < sizeLine ∧ H' = upd H a (.dT (putK kvs k v))
theorem DPut.t {H : Hp} {a b : Addr} {kvs : List (List Key × V)} {k : List Key} {v : V} (e : H a = some (.dT kvs)) (eb : H b = some (.tup (k.map kV))) (hl : kvs.length < sizeLine) :
    DPut H a (.ref b) v (upd H a (.dT (putK kvs k v))) := .inr ⟨kvs, k, b, e, rfl, eb, hl, rfl⟩
section
variable {X : Cx} {pins : List (Addr × Obj)} {σ : St} {H : Hp} {s : Shared} {a : Addr} {y v : V} {u r : Value} {o : Option V} {A : Around} {E : Value → Shared → Prop}
theorem Inv.big (I : Inv X pins σ H s) : sysModules < s.heap.objs.size := by
  have h : mainGlobals < s.heap.objs.size := (I.mod.glob.keeps I.bk).lt
  exact Nat.lt_trans (by decide) h
theorem d_write {h' : Heap} {t' : Nat} {ob : HO} (I : Inv X pins σ H s) (mu : Mut (H a)) (hs : Heap.SameBut a s.heap h') (he : ∃ q, h'.get? a = some q) (new : ObjOk X.prog X.w (upd H a ob) h' a ob) :
    Inv X pins σ (upd H a ob) { s with heap := h', toks := t' } :=
  I.write (x := a) (e := a) mu (.inl rfl) (fun b q hb z => (hs.2 b hb).trans z) he new
theorem dk_new {P : Program} {w : World} {H' : Hp} {h' : Heap} {kvs : List (Key × V)} {vs : List (Key × Value)} (z : kvs.length ≤ sizeLine) (hd : (a == sysModules) = false) (rel : KV kvs vs) (dd : h'.DictOf (mixKind P w) a vs) :
    ObjOk P w H' h' a (.dK kvs) := ⟨z, hd, vs, rel, dd⟩
theorem d_setItem {H' : Hp} {Q : Unit → Shared → Prop} (hu : A.units + 1 < cLine) (I : Inv X pins σ H s) (g : DPut H a y v H') (ry : RelV y u) (rv : RelV v r) (h : ∀ s', Inv X pins σ H' s' → Q () s') :
    wpAny (model X.prog X.w) A (setItem (.ref a) u r) Q E s := by
  rcases g with ⟨kvs, k, e, ey, l, eH⟩ | ⟨kvs, k, b, e, ey, eb, l, eH⟩
  · subst ey eH
    obtain ⟨z, hd, vs, rel, dd⟩ := dk_of I.hok e
    have hz : vs.length ≤ sizeLine := by rw [← rel.length]; exact z
    have hl : (putK kvs k v).length ≤ sizeLine := by have := length_putK kvs k v; omega
    refine wpAny_setItem_pairs (hsz := hz) (kV_is ry) dd fun h' dd' hs => h _ ?_
    have he : ∃ q, h'.get? a = some q := let ⟨q, _, _, hq, _⟩ := dd'; ⟨q, hq⟩
    exact d_write I (by rw [e]; exact True.intro) hs he (dk_new hl hd (rel.put k rv) dd')
  · subst ey eH
    cases (show u = Value.ref b from ry)
    obtain ⟨z, hd, xs, rel, dd⟩ := dt_of I.hok e
    have hz : xs.length ≤ sizeLine := by rw [← Paired.length rel]; exact z
    have hl : (putK kvs k v).length ≤ sizeLine := by have := length_putK kvs k v; omega
    refine wpAny_setItem_heap (hsz := hz) (tupleKind_room_in1 hu) (key_of I.hok eb) dd fun h' dd' hs => h _ ?_
    obtain ⟨q, es, ep, hq, h2, h3, h4, _, h5⟩ := dd'
    refine d_write I (by rw [e]; exact True.intro) hs ⟨q, hq⟩ ⟨hl, hd, _, (rel.put k eb rv).keeps fun c ys ec => ?_, q, es, ep, hq, h2, h3, h4, h5⟩
    rw [upd_ne (ne_of ec e (fun z => nomatch z))]
    exact ec
end
section
variable {X : Cx} {pins : List (Addr × Obj)} {σ : St} {H : Hp} {s : Shared} {a : Addr} {kvs : List (Key × V)} {k : Key} {u : Value} {A : Around} {E : Value → Shared → Prop}
end
def sDPut (td ty tv : TE) : TS := fun D σ H => tv σ H fun v H1 => td σ H1 fun x H2 => ty σ H2 fun y H3 => ∃ a H4, x = .ref a ∧ DPut H3 a y v H4 ∧ D.nx σ H4
section
variable {X : Cx} {o i e value : Expr} {pos pos' tpos : Pos} {td ty tv : TE}
theorem ps_dput (hu : X.A.units + 1 < cLine) (ho : PE X o td) (hi : PE X i ty) (hv : PE X value tv) (hs : swapsWith value (some (.Subscript o i pos')) pos.line X.env = pure false) :
    PS X (.Assign [.Subscript o i pos'] value pos) (sDPut td ty tv) := by
  intro pins s σ H D I h
  refine wpAny_Assign_Subscript (thn (hv pins s σ H _ I h) fun r s1 ⟨v, H1, I1, rv, q1⟩ => thn (ho pins s1 σ H1 _ I1 q1) fun u s2 ⟨x, H2, I2, rx, q2⟩ => thn (hi pins s2 σ H2 _ I2 q2) fun iv s3 ⟨y, H3, I3, ry, a, H4, ex, g, q3⟩ => ?_) hs
  subst ex
  obtain rfl : u = Value.ref a := rx
  exact d_setItem hu I3 g ry rv fun s4 I4 => ⟨σ, H4, I4, q3⟩
end
theorem dt_empty {P : Program} {w : World} {H : Hp} (h : Heap) (hb : sysModules < h.objs.size) : ObjOk P w H (h.push { cls := .type "dict", data := .dict #[] }) h.objs.size (.dT []) :=
  ⟨Nat.zero_le _, beq_eq_false_iff_ne.mpr (Ne.symm (Nat.ne_of_lt hb)), [], .nil, _, #[], 0, Heap.get?_push_size _ rfl, ⟨rfl, rfl, rfl⟩, rfl, rfl, List.nodup_nil⟩
def tDNewT : TE := fun _ H Q => ∀ p, H p = none → Q (.ref p) (upd H p (.dT []))
section
variable {X : Cx} {pos : Pos}
theorem pe_dnewT : PE X (.Dict [] [] pos) tDNewT := fun pins s σ H Q I h =>
  wpAny_Dict_empty ⟨.ref s.heap.objs.size, _, I.laid (a := s.heap.objs.size) (o := .dT []) (t' := s.toks) (fun _ _ q => Heap.get?_push_of_some _ q) (Nat.le_refl _) (dt_empty s.heap I.big), rfl, h _ (I.hok.fresh (Nat.le_refl _))⟩
end
section
variable {X : Cx} {pins : List (Addr × Obj)} {σ : St} {H : Hp} {s : Shared} {a : Addr} {y d : V} {u r : Value} {o : Option V} {A : Around} {E : Value → Shared → Prop}
end
section
variable {X : Cx} {o e f : Expr} {apos cpos : Pos} {td ty tx : TE}
end
section
variable {X : Cx} {pins : List (Addr × Obj)} {σ : St} {H : Hp} {s : Shared} {a : Addr} {kvs : List (Key × V)} {A : Around} {E : Value → Shared → Prop}
end
section
variable {X : Cx} {pins : List (Addr × Obj)} {σ : St} {H : Hp} {s : Shared} {a : Addr} {y : V} {u : Value} {A : Around} {E : Value → Shared → Prop}
end
end L2
namespace Att
open PySem PySem.W PySem.Calls PyProof.Rows
section
variable {prog : Program} {w : World} {A : Around} {E : Value → Shared → Prop} {s : Shared} {K : Frag}
end
end Att
namespace L2
open PySem PySem.Spec PyProof.Rows
end L2
namespace L2
open PySem PySem.Spec PyProof.Rows
end L2
namespace L2
open PySem PySem.Spec PyProof.Rows
section
variable {P : Program} {w : World} {K : PySem.W.Frag} {mg : Str → Option Value} {base : Heap}
end
section
variable {X : Cx}
end
section
variable {κ : Type} [DecidableEq κ]
theorem valV_not {kvs : List (κ × V)} {k : κ} (h : valV kvs k = none) : ¬ k ∈ kvs.map (·.1) := by
  intro m
  obtain ⟨p, hp, e⟩ := List.mem_map.mp m
  have q : (kvs.any fun kv => decide (kv.1 = k)) = true := List.any_eq_true.mpr ⟨p, hp, decide_eq_true e⟩
  rw [valV_any, h] at q
  exact absurd q (by simp)
theorem nd_snoc : ∀ {l : List κ} {k : κ}, l.Nodup → ¬ k ∈ l → (l ++ [k]).Nodup
  | [], k, _, _ => by simp
  | a :: r, k, h, hk => by
    obtain ⟨h1, h2⟩ := List.nodup_cons.mp h
    show (a :: (r ++ [k])).Nodup
    refine List.nodup_cons.mpr ⟨fun m => ?_, nd_snoc h2 fun m => hk (List.mem_cons.mpr (Or.inr m))⟩
    rcases List.mem_append.mp m with q | q
    · exact h1 q
    · exact hk (List.mem_cons.mpr (Or.inl (List.mem_singleton.mp q).symm))
theorem nd_putK {kvs : List (κ × V)} {k : κ} (v : V) (hn : (kvs.map (·.1)).Nodup) (h : valV kvs k = none) : ((putK kvs k v).map (·.1)).Nodup := by
  rw [putK_new v h, List.map_append]
  exact nd_snoc hn (valV_not h)
end
end L2
set_option Elab.async false
set_option linter.all false
set_option maxRecDepth 100000
set_option maxHeartbeats 4000000
namespace L2
open PySem PySem.Spec PyProof.Rows
section
variable {X : Cx}
theorem op_notB : OpR X (compareOp .IsNot) (fun x y H Q => ∃ b c, x = .bl b ∧ y = .bl c ∧ Q (.bl (!(b == c))) H) := by
  intro pins s σ H x y v u Q I rx ry h
  obtain ⟨b, c, rfl, rfl, q⟩ := h
  cases rx
  cases ry
  exact wpAny_pure (fin_bl I q (by cases b <;> cases c <;> rfl))
end
def ItE (K : PySem.W.Frag) (a : Addr) : It :=
  ⟨fun i H => ∃ xs x, SqL K H a xs ∧ xs[i]? = some x, fun i H v H' => ∃ p x, v = .ref p ∧ H p = none ∧ H' = upd H p (.tup [.int i, x]) ∧ ∀ xs, SqL K H a xs → xs[i]? = some x, fun i H => ∃ xs, SqL K H a xs ∧ xs.length = i⟩
theorem turn_enumL {P : Program} {w : World} {K : PySem.W.Frag} {elts : List Expr} {x1} {pos : Pos} (a e it : Addr) (hne : e ≠ it) :
    Turn P w K (.Tuple elts x1 pos) (ItE K a) [e, it] e (fun i h => (∃ old, IsEnum h e it (i : Nat) old) ∧ h.IsListIter it a i) where
  mem := by simp
  obj := fun i h st b hb => by
    rcases List.mem_cons.mp hb with rfl | hb
    · obtain ⟨⟨old, q⟩, _⟩ := st
      exact ⟨_, q, fun v z => by cases z⟩
    · have e2 : b = it := by simpa using hb
      subst e2
      obtain ⟨_, o, q, c, d⟩ := st
      exact ⟨o, q, fun v z => by rw [d] at z; cases z⟩
  keep := fun i h h' st k => by
    obtain ⟨⟨old, q⟩, o, q2, r⟩ := st
    exact ⟨⟨old, k e (by simp) _ q⟩, o, k it (by simp) _ q2, r⟩
  item := by
    intro X hP hw hK hc i pins s σ H E I hf st hg
    subst hP hw hK
    obtain ⟨xs, x, hq, hx⟩ := hg
    obtain ⟨its, rv, pL, hz⟩ := I.list hq
    have p := pL.isList
    obtain ⟨u, hu, ru⟩ := rv.get hx
    obtain ⟨⟨old, he⟩, hit⟩ := st
    have hai : a ≠ it := fun z => by
      obtain ⟨o, e1, c1, _⟩ := p
      obtain ⟨o2, e2, c2, _⟩ := hit
      rw [z, e2] at e1; cases e1
      rw [c1] at c2; exact absurd c2 (by decide)
    have hae : a ≠ e := fun z => by
      obtain ⟨o, e1, c1, _⟩ := p
      rw [z, he] at e1; cases e1
      exact absurd (show Value.type "enumerate" = Value.type "list" from c1) (by decide)
    have hlt : i < its.length := (List.getElem?_eq_some_iff.mp hu).1
    have hE0 := hf e (by simp)
    have hI0 := hf it (by simp)
    refine wpAny_pyNext_enum_itemD (Draws.list (prog := X.prog) (w := X.w) (A := X.A.in1) (I.ok.hd hc) it a hai its.toArray) he ⟨hit, p⟩ (by simpa using hlt) hne (by simp [hne, Ne.symm hae]) fun y h' tk hy ho hs' hT hsz hk => ⟨_, rfl, wpAny_letOwnedTupleGo_enum (s := { s with heap := h', toks := tk + 1 }) ho fun h'' he'' sb => ?_⟩
    have hyu : y = u := by
      have hy : its[i]? = some y := by simpa using hy
      rw [hu] at hy; exact (Option.some.inj hy).symm
    subst hyu
    have keep : ∀ b o, b ≠ e → b ≠ it → s.heap.get? b = some o → h''.get? b = some o := fun b o h1 h2 q => (sb.2 b h1).trans (hk b o h1 h2 q)
    have hTe : s.heap.objs.size ≠ e := Nat.ne_of_gt (Heap.lt_size he)
    have hTi : s.heap.objs.size ≠ it := let ⟨_, q, _⟩ := hit; Nat.ne_of_gt (Heap.lt_size q)
    have hT'' : h''.get? s.heap.objs.size = some { cls := .type "tuple", data := .seq #[.int i tk, y] } := (sb.2 _ hTe).trans hT
    have hTn : H s.heap.objs.size = none := I.hok.fresh (Nat.le_refl _)
    have neT : ∀ b o, s.heap.get? b = some o → b ≠ s.heap.objs.size := fun b o q => Nat.ne_of_lt (Heap.lt_size q)
    have trk : ∀ b o, H b = some o → b ≠ e ∧ b ≠ it := fun b o q => ⟨(fun z => by rw [z, hE0.1] at q; cases q), (fun z => by rw [z, hI0.1] at q; cases q)⟩
    refine ⟨.ref s.heap.objs.size, upd H s.heap.objs.size (.tup [.int i, x]), ?_, rfl, ⟨_, x, rfl, hTn, rfl, fun ys hy => by rw [I.list_inj hy hq]; exact hx⟩, ⟨⟨_, by simpa using he''⟩, ?_⟩, fun b hb => ?_⟩
    · show Inv X pins σ _ { s with heap := h'', gens := s.gens, drawn := s.drawn, toks := tk + 1 }
      refine I.step (h' := h'') (g' := s.gens) (d' := s.drawn) (t' := tk + 1) (ch := [e, it]) (fun b hb => ?_) (fun b o _ _ hc q _ => keep b o (fun z => hc (by simp [z])) (fun z => hc (by simp [z])) q) (fun b o _ _ hc q _ => ⟨o.slots, keep b o (fun z => hc (by simp [z])) (fun z => hc (by simp [z])) q⟩)
        (fun b o _ q n => by rw [upd_ne (neT b o q)]; exact n) (fun b o hc q => ⟨o, keep b o (fun z => hc (by simp [z])) (fun z => hc (by simp [z])) q⟩) (fun b ys q => by rw [upd_ne (ne_of_none q hTn)]; exact q) (fun b o u q => by rw [upd_ne (ne_of_none q hTn)]; exact q)
        (fun b ps q => ⟨#[], by rw [upd_ne (ne_of_none q hTn), q]; simp⟩) (fun m hm => ?_) (fun b o q => ?_) I.bare
      · rcases List.mem_cons.mp hb with rfl | hb
        · exact ⟨hE0.2.2.2.1, hE0.2.1, hE0.2.2.2.2.1, hE0.2.2.2.2.2⟩
        · have e2 : b = it := by simpa using hb
          subst e2
          exact ⟨hI0.2.2.2.1, hI0.2.1, hI0.2.2.2.2.1, hI0.2.2.2.2.2⟩
      · obtain ⟨o, es, ep, ho, r⟩ := hm
        exact ⟨o, es, ep, keep _ o (Ne.symm hE0.2.1) (Ne.symm hI0.2.1) ho, r⟩
      · by_cases hb : b = s.heap.objs.size
        · subst hb
          rw [upd_same] at q
          cases q
          exact ⟨sz2, [.int i tk, y], .cons ⟨tk, rfl⟩ (.cons ru .nil), _, hT'', rfl, _, rfl⟩
        · rw [upd_ne hb] at q
          refine (I.hok b o q).stay (fun c v hc r => keep c v ?_ ?_ r) (fun c r => by rw [upd_ne (ne_of_none r hTn)]; exact r) fun c ys r => by rw [upd_ne (ne_of_none r hTn)]; exact r
          · rcases hc with rfl | hc
            · exact (trk _ _ q).1
            · exact (trk _ _ hc).1
          · rcases hc with rfl | hc
            · exact (trk _ _ q).2
            · exact (trk _ _ hc).2
    · obtain ⟨⟨o, q, r⟩, _⟩ := hs'
      exact ⟨o, (sb.2 it (Ne.symm hne)).trans q, r⟩
    · rcases List.mem_cons.mp hb with rfl | hb
      · rw [upd_ne (Ne.symm hTe)]; exact hE0.1
      · have e2 : b = it := by simpa using hb
        subst e2
        rw [upd_ne (Ne.symm hTi)]; exact hI0.1
  done := by
    intro X hP hw hK hc i pins s σ H E I hf st hg
    subst hP hw hK
    obtain ⟨xs, hq, hx⟩ := hg
    obtain ⟨its, rv, pL, hz⟩ := I.list hq
    have p := pL.isList
    obtain ⟨⟨old, he⟩, hit⟩ := st
    have hai : a ≠ it := fun z => by
      obtain ⟨o, e1, c1, _⟩ := p
      obtain ⟨o2, e2, c2, _⟩ := hit
      rw [z, e2] at e1; cases e1
      rw [c1] at c2; exact absurd c2 (by decide)
    have hl : its.length = i := by rw [← rv.length]; exact hx
    subst hl
    obtain ⟨f0, f1, f2, f3, f4, f5⟩ := hf it (by simp)
    exact wpAny_pyNext_enum_endD (Draws.list (prog := X.prog) (w := X.w) (A := X.A.in1) (I.ok.hd hc) it a hai its.toArray) he ⟨hit, p⟩ fun h' eb => ⟨rfl, I.turned (t' := s.toks) (fun b o hb q => eb b o hb q) f0 f1 f3 f4 f5⟩
  self := fun _ _ _ _ _ st h => by
    obtain ⟨⟨old, he⟩, _⟩ := st
    exact wpAny_pyIter_enum he h
def iEnumL (K : PySem.W.Frag) (ta : TA) : TI := fun σ H R => ta σ H fun vs H1 => ∃ a, vs = [.ref a] ∧ (∃ xs, SqL K H1 a xs) ∧ R (ItE K a) H1
theorem pi_enumL {X : Cx} {elts : List Expr} {x1} {tpos : Pos} {a : Expr} {ta : TA} {p pos : Pos} (hg : Gl X "enumerate") (hm : X.mg "enumerate" = none) (ha : PA X [a] ta) (hs : starEach [a] X.env = [(false, eval a X.env)] := by rfl) :
    PI X (.Tuple elts x1 tpos) (.Call (.Name "enumerate" p) [a] [] pos) (iEnumL X.K ta) := by
  intro pins s σ H R I h
  refine Call_ (ld_blt I hg hm boot_enumerate (PyProof.Rows.callWith_type1 (thn (ha pos pins s σ H _ I h) fun us s1 ⟨vs, H1, I1, r1, q1⟩ => ?_) hs rfl))
  obtain ⟨t, e, ⟨xs, hq⟩, q⟩ := q1
  subst e
  cases r1 with
  | cons r rr =>
    cases rr
    cases r
    obtain ⟨its, rv, p', hz⟩ := I1.list hq
    refine call_enumerate_list (show s1.heap.IsList t its.toArray from p'.isList) fun h' he hit hsz hk => wpAny_pyIter_enum he ?_
    have I2 : Inv X pins σ H1 { s1 with heap := h' } := I1.kept (t' := s1.toks) hk
    have hn : s1.heap.objs.size + 1 ≠ s1.heap.objs.size := by omega
    refine ⟨s1.heap.objs.size + 1, [s1.heap.objs.size + 1, s1.heap.objs.size], _, _, H1, rfl, I2, turn_enumL t _ _ hn, ⟨⟨_, he⟩, hit⟩, fun b hb => ?_, q⟩
    have hb' : s1.heap.objs.size ≤ b := by
      have hb2 : b = s1.heap.objs.size + 1 ∨ b = s1.heap.objs.size := by simpa using hb
      rcases hb2 with z | z
      · rw [z]; exact Nat.le_succ _
      · rw [z]; exact Nat.le_refl _
    exact I1.fpOk hb' (I1.hok.fresh hb')
theorem for_enumL {K : PySem.W.Frag} {a : Addr} {xs : List V} {g : TG} {tb : TS} {D : Ends} {σ : St} {H : Hp} (Pv : Nat → St → Hp → Prop) (h0 : Pv 0 σ H) (hl : ∀ i σ H, i ≤ xs.length → Pv i σ H → SqL K H a xs)
    (hs : ∀ i x σ H, xs[i]? = some x → Pv i σ H → ∀ p, H p = none → g (.ref p) σ (upd H p (.tup [.int (i : Nat), x])) fun σ2 H2 => tb { D with nx := Pv (i + 1), ct := Pv (i + 1), bk := D.nx } σ2 H2) (hd : ∀ σ H, Pv xs.length σ H → D.nx σ H) :
    ∃ W : Nat → Nat → St → Hp → Prop, (∃ m, W 0 m σ H) ∧ ∀ i m σ H, W i m σ H →
      ((ItE K a).stop i H ∧ D.nx σ H) ∨ ((ItE K a).go i H ∧ ∃ N : St → Hp → Prop, (∀ σ' H', N σ' H' → ∃ m', m' < m ∧ W (i + 1) m' σ' H') ∧ ∀ x H', (ItE K a).yld i H x H' → g x σ H' fun σ2 H2 => tb { D with nx := N, ct := N, bk := D.nx } σ2 H2) := by
  refine ⟨fun i m σ H => m = xs.length - i ∧ i ≤ xs.length ∧ Pv i σ H, ⟨xs.length, by simp, Nat.zero_le _, h0⟩, ?_⟩
  rintro i m σ H ⟨rfl, hi, p⟩
  have q := hl i σ H hi p
  by_cases hlt : i < xs.length
  · refine .inr ⟨⟨xs, xs[i], q, by simp [hlt]⟩, Pv (i + 1), fun σ' H' p' => ⟨xs.length - (i + 1), by omega, rfl, hlt, p'⟩, fun x H' y => ?_⟩
    obtain ⟨pp, x', rfl, hn, rfl, y⟩ := y
    exact hs i x' σ _ (y xs q) p pp hn
  · have e : i = xs.length := by omega
    subst e
    exact .inl ⟨⟨xs, q, rfl⟩, hd σ H p⟩
end L2
set_option Elab.async false
set_option linter.all false
set_option maxRecDepth 100000
set_option maxHeartbeats 4000000
namespace L2
open PySem PySem.Spec PyProof.Rows
def litE : Nat → Expr → Option PyData
  | _, .Constant (.int i) _ _ => some (.int i)
  | _, .Constant (.bool b) _ _ => some (.bool b)
  | _, .Constant .none _ _ => some .none
  | _, .Constant (.str x) _ _ => some (.str x)
  | n + 1, .Tuple es _ _ => if es.length ≤ 60 then (es.mapM (litE n)).map .tuple else none
  | n + 1, .List es _ => if es.length ≤ 60 then (es.mapM (litE n)).map .list else none
  | _, _ => none
def tLit (d : PyData) : TE := fun _ H Q => ∀ v H', Same H H' → (∀ p, (H' p = none ∨ H p ≠ none) → Dt p H' d v) → Q v H'
def tLits (ds : List PyData) : TA := fun _ H Q => ∀ vs H', Same H H' → (∀ p, (H' p = none ∨ H p ≠ none) → DtAll p H' ds vs) → vs.length = ds.length → Q vs H'
theorem mapM_len {α β : Type} {f : α → Option β} : ∀ {es : List α} {ds : List β}, es.mapM f = some ds → ds.length = es.length
  | [], ds, h => by simp at h; subst h; rfl
  | e :: es, ds, h => by
    simp only [List.mapM_cons, Option.bind_eq_bind, Option.bind_eq_some_iff, Option.pure_def, Option.some.injEq] at h
    obtain ⟨d, h1, ds', h2, rfl⟩ := h
    rw [List.length_cons, List.length_cons, mapM_len h2]
theorem lit_plain {n : Nat} {e : Expr} {d : PyData} (h : litE n e = some d) (es : List Expr) (env : Env) : starEach (e :: es) env = (false, eval e env) :: starEach es env := by
  cases e <;> first | rfl | (cases n <;> simp [litE] at h)
section
variable {X : Cx}
theorem pe_less {e : Expr} {t t' : TE} (h : PE X e t) (k : ∀ σ H Q, t' σ H Q → t σ H Q) : PE X e t' := fun pins s σ H Q I q => h pins s σ H Q I (k σ H Q q)
theorem pa_less {e : List Expr} {t t' : TA} (h : PA X e t) (k : ∀ σ H Q, t' σ H Q → t σ H Q) : PA X e t' := fun pos pins s σ H Q I q => h pos pins s σ H Q I (k σ H Q q)
theorem pa_lits_of {n : Nat} (hp : ∀ {e : Expr} {d : PyData}, litE n e = some d → PE X e (tLit d)) : ∀ {es : List Expr} {ds : List PyData}, es.mapM (litE n) = some ds → PA X es (tLits ds)
  | [], ds, h => by
    simp at h
    subst h
    exact pa_less pa_nil fun σ H Q q => q [] H (.refl H) (fun p _ => .nil) rfl
  | e :: es, ds, h => by
    simp only [List.mapM_cons, Option.bind_eq_bind, Option.bind_eq_some_iff, Option.pure_def, Option.some.injEq] at h
    obtain ⟨d, h1, ds', h2, rfl⟩ := h
    refine pa_less (pa_cons (hp h1) (pa_lits_of hp h2) (lit_plain h1 _ _)) fun σ H Q q => ?_
    intro v H1 e1 k1 vs H2 e2 k2 hl
    refine q (v :: vs) H2 (e1.trans e2) (fun p hp => .cons ((k1 p ?_).same e2) (k2 p ?_)) (by simp [hl])
    · rcases hp with hp | hp
      · exact .inl (e2.free hp)
      · exact .inr hp
    · rcases hp with hp | hp
      · exact .inl hp
      · refine .inr fun z => hp (e1.free z)
theorem pe_lit : ∀ {n : Nat} {e : Expr} {d : PyData}, litE n e = some d → PE X e (tLit d)
  | n, e, d, h => by
    have hs : 60 ≤ sizeLine := by rw [sizeLine_eq]; decide
    unfold litE at h
    split at h
    · cases h; exact pe_less pe_int fun σ H Q q => q _ H (.refl H) fun p _ => .int
    · cases h; exact pe_less pe_bl fun σ H Q q => q _ H (.refl H) fun p _ => .bool
    · cases h; exact pe_less pe_non fun σ H Q q => q _ H (.refl H) fun p _ => .non
    · cases h; exact pe_less pe_str fun σ H Q q => q _ H (.refl H) fun p _ => .str
    · split at h
      · rename_i m es _ _ hes
        simp only [Option.map_eq_some_iff] at h
        obtain ⟨ds, h1, rfl⟩ := h
        refine pe_less (pe_tup (pa_lits_of (fun h => pe_lit (n := m) h) h1)) fun σ H Q q => ?_
        intro vs H1 e1 k1 hl
        have hlen := mapM_len h1
        refine ⟨by omega, fun p hp => ?_⟩
        have es := same_new hp (.tup vs)
        refine q _ _ (e1.trans es) fun p' hp' => .tup ?_ upd_same ((k1 p' ?_).same es)
        · rcases hp' with hp' | hp'
          · exact ne_of_none upd_same hp'
          · exact fun z => hp' (z ▸ e1.free hp)
        · rcases hp' with hp' | hp'
          · exact .inl (es.free hp')
          · exact .inr hp'
      · cases h
    · split at h
      · rename_i m es _ hes
        simp only [Option.map_eq_some_iff] at h
        obtain ⟨ds, h1, rfl⟩ := h
        refine pe_less (pe_lst (pa_lits_of (fun h => pe_lit (n := m) h) h1)) fun σ H Q q => ?_
        intro vs H1 e1 k1 hl
        have hlen := mapM_len h1
        refine ⟨by omega, fun p hp => ?_⟩
        have es := same_new hp (.lst vs)
        refine q _ _ (e1.trans es) fun p' hp' => .lst ?_ upd_same ((k1 p' ?_).same es)
        · rcases hp' with hp' | hp'
          · exact ne_of_none upd_same hp'
          · exact fun z => hp' (z ▸ e1.free hp)
        · rcases hp' with hp' | hp'
          · exact .inl (es.free hp')
          · exact .inr hp'
      · cases h
    · cases h
theorem pa_lits {n : Nat} {es : List Expr} {ds : List PyData} (h : es.mapM (litE n) = some ds) : PA X es (tLits ds) := pa_lits_of (fun h => pe_lit h) h
end
section
variable {X : Cx} {scope : Scope} {cl : List (Str × Addr)} {N : List Str} {C : Addr} {s₀ : Shared} {H₀ : Hp} {fp : List Addr}
theorem call_list_ofC : CallR (cxComp X scope cl N C s₀ H₀ fp) (.type "list") (fun xs H Q => ∃ p ys, xs = [.ref p] ∧ (SqL X.K H p ys ∨ SqT X.K H p ys) ∧ ∀ l, H l = none → Q (.ref l) (upd H l (.lst ys))) := call_list_of
end
end L2
set_option Elab.async false
set_option linter.all false
set_option maxRecDepth 100000
set_option maxHeartbeats 4000000
namespace L2
open PySem PySem.Spec PyProof.Rows
theorem Inv.many {X : Cx} {pins : List (Addr × Obj)} {σ : St} {H H' : Hp} {s : Shared} {h' : Heap} {t' : Nat} (I : Inv X pins σ H s) (k : ∀ b u, s.heap.get? b = some u → h'.get? b = some u) (hH : ∀ b, b < s.heap.objs.size → H' b = H b) (hok : HOk X.prog X.w H' h') :
    Inv X pins σ H' { s with heap := h', toks := t' } := by
  have lt : ∀ b o, H b = some o → b < s.heap.objs.size := fun b o e => (I.hok b o e).lt
  have up : ∀ b o, H b = some o → H' b = some o := fun b o e => by rw [hH b (lt b o e)]; exact e
  show Inv X pins σ H' { s with heap := h', gens := s.gens, drawn := s.drawn, toks := t' }
  refine I.step (h' := h') (ch := []) (fun b hb => nomatch hb) (fun b o _ _ _ e _ => k b o e) (fun b o _ _ _ e _ => ⟨o.slots, k b o e⟩) (fun b o _ e n => by rw [hH b (Heap.lt_size e)]; exact n) (fun b o _ e => ⟨o, k b o e⟩)
    (fun b xs e => up b _ e) (fun b o u e => up b _ e) (fun b ps e => ⟨#[], by rw [up b _ e]; simp⟩) (fun m hm => ?_) hok I.bare
  obtain ⟨o, es, ep, ho, r⟩ := hm
  exact ⟨o, es, ep, k _ o ho, r⟩
theorem is_of : ∀ {ps : List Int} {us : List Value}, Vals (ps.map V.int) us → IT.Is ps us
  | [], _, r => by rw [List.map_nil] at r; cases r; rw [IT.Is]
  | p :: ps, _, r => by
    rw [List.map_cons] at r
    cases r with
    | cons h t =>
      obtain ⟨tk, rfl⟩ := h
      rw [IT.Is]
      exact ⟨tk, _, rfl, is_of t⟩
theorem items_rd {prog : Program} {w : World} (d : Addr) (nd : (d == sysModules) = false) :
    MeetsIn prog w (Builtin.«dict.items» ⟨[.ref d], []⟩) (fun _ R s => (∃ es ep, DI.RD s.heap d es ep) ∧ R (.ok (.ret (.ref s.heap.objs.size))) { s with heap := s.heap.push { cls := .type "dict_items", data := .fields #[.ref d] } }) :=
  .of_wp fun A R s ⟨⟨es, ep, o, r1, r2, r3⟩, h⟩ => by
    unfold Builtin.«dict.items»; refine wpAny_bind ?_; unfold Builtin.Dict.noArgs; refine wpAny_bind (wpAny_notOrdered_dict ⟨o, r1, r2.1⟩ ?_)
    refine wpAny_pure (show wpAny _ _ (Builtin.Dict.showsAll d >>= _) _ _ s from ?_)
    unfold Builtin.Dict.showsAll; rw [nd, if_neg Bool.false_ne_true]
    exact wpAny_bind (wpAny_pure (wpAny_bind (wpAny_newObj_type (wpAny_pure ⟨_, rfl, h⟩))))
def SortI (H1 : Hp) (x : V) (Q : VK) : Prop := ∃ (a : Addr) (kvs : List (List Key × V)) (ts : List IT.Tm), x = .ref a ∧ H1 a = some (.dT kvs) ∧ kvs.length < 64 ∧ ts.length = kvs.length ∧
  (∀ (j : Nat) k v t, kvs[j]? = some (k, v) → ts[j]? = some t → k = t.1.map Sum.inl ∧ ∃ c, v = .ref c ∧ H1 c = some (.tup (t.2.map V.int))) ∧
  ∀ (D : Addr) (H' : Hp) (zs : List V) (us : List IT.Tm), Same H1 H' → H1 D = none → H' D = some (.lst zs) → us.Perm ts → us.Pairwise (fun x y => IT.ordT.kle y x) → zs.length = us.length →
    (∀ (j : Nat) z t, zs[j]? = some z → us[j]? = some t → ∃ p b c, z = .ref p ∧ H1 p = none ∧ H' p = some (.tup [.ref b, .ref c]) ∧ H1 b = some (.tup (t.1.map V.int)) ∧ H1 c = some (.tup (t.2.map V.int))) → Q (.ref D) H'
theorem map_kV (ps : List Int) : (ps.map (Sum.inl : Int → Key)).map kV = ps.map V.int := by rw [List.map_map]; rfl
theorem paired_at {α β : Type} {F : α → β → Prop} : ∀ {xs : List α} {ys : List β} {j : Nat} {x : α} {y : β}, Paired F xs ys → xs[j]? = some x → ys[j]? = some y → F x y
  | _, _, j, x, y, .nil, h, _ => by simp at h
  | _, _, 0, x, y, .cons f _, h, k => by simp at h k; subst h k; exact f
  | _, _, j + 1, x, y, .cons _ r, h, k => paired_at r (by simpa using h) (by simpa using k)
theorem perm_getD {α : Type} (d : α) (ts : List α) {ix : List Nat} (h : ix.Perm (List.range ts.length)) : (ix.map fun i => ts.getD i d).Perm ts := by
  have e : (List.range ts.length).map (fun i => ts.getD i d) = ts := by
    apply List.ext_getElem
    · simp
    · intro i h1 h2
      simp at h1
      simp [h1]
  have := h.map fun i => ts.getD i d
  rwa [e] at this
theorem refs_vals : ∀ as : List Addr, Vals (as.map V.ref) (as.map Value.ref)
  | [] => .nil
  | a :: as => .cons rfl (refs_vals as)
def tupAt (h : Heap) (y : Addr) : Option HO := match (h.get? y).map (fun o : Obj => o.data) with
  | some (Data.seq its _) => match its.toList with
    | [Value.ref b, Value.ref c] => some (.tup [.ref b, .ref c])
    | _ => none
  | _ => none
theorem sortI_fin {X : Cx} {pins : List (Addr × Obj)} {σ : St} {H : Hp} {s : Shared} {Q : VK} (I : Inv X pins σ H s) {x : V} {v : Value} (rx : RelV x v) (hc : X.calm = true) (hu : X.A.units + 64 < cLine) (q : SortI H x Q) :
    ∃ (a : Addr) (es : Array DictEntry) (ep : Nat), v = .ref a ∧ (a == sysModules) = false ∧ DI.RD s.heap a es ep ∧
      wpAny (model X.prog X.w) X.A (call (.builtin "sorted") [.ref s.heap.objs.size] [(Str.ofString "reverse", .bool true)]) (EP X pins σ Q) X.xe { s with heap := s.heap.push { cls := .type "dict_items", data := .fields #[.ref a] } } := by
  obtain ⟨a, kvs, ts, rfl, ha, h64, hts, hterm, q⟩ := q
  cases rx
  obtain ⟨hz, nd, xs, kt, o, es, ep, r1, r2, r3, r4, r5, r6⟩ := dt_of I.hok ha
  refine ⟨a, es, ep, rfl, nd, ⟨o, r1, r2, r3⟩, ?_⟩
  have hlen : es.size = kvs.length := by rw [size_of_entries r4]; exact (Paired.length kt).symm
  have I2 : Inv X pins σ H { s with heap := s.heap.push { cls := .type "dict_items", data := .fields #[.ref a] } } := I.kept (t' := s.toks) fun b ob e => Heap.get?_push_of_some _ e
  have ent : ∀ (j : Nat) (e : DictEntry), es[j]? = some e → ∃ k w x, kvs[j]? = some (k, w) ∧ xs[j]? = some x ∧ e.key = .ref x.2.1 ∧ e.val = x.2.2 ∧ H x.2.1 = some (.tup (k.map kV)) ∧ RelV w x.2.2 := fun j e he => by
    rw [entry_at r4 j] at he
    obtain ⟨x, hx, rfl⟩ := Option.map_eq_some_iff.mp he
    have hj : j < kvs.length := by rw [Paired.length kt]; exact (List.getElem?_eq_some_iff.mp hx).1
    obtain ⟨kv, hkv⟩ : ∃ kv, kvs[j]? = some kv := ⟨kvs[j], by simp [hj]⟩
    have := paired_at kt hkv hx
    exact ⟨kv.1, kv.2, x, hkv, hx, rfl, rfl, this.1 ▸ this.2.1, this.2.2⟩
  have trm : ∀ (j : Nat) (t : IT.Tm) (e : DictEntry), ts[j]? = some t → es[j]? = some e → ∃ b c, e.key = .ref b ∧ e.val = .ref c ∧ H b = some (.tup (t.1.map V.int)) ∧ H c = some (.tup (t.2.map V.int)) := fun j t e ht he => by
    obtain ⟨k, w, x, h1, h2, h3, h4, h5, h6⟩ := ent j e he
    obtain ⟨rfl, c, rfl, h7⟩ := hterm j k w t h1 ht
    rw [map_kV] at h5
    refine ⟨x.2.1, c, h3, ?_, h5, h7⟩
    rw [h4]
    obtain ⟨xk, xb, xv⟩ := x
    cases h6
    rfl
  have entV : ∀ (j : Nat) (k : IT.Tm) (e : DictEntry), ts[j]? = some k → es[j]? = some e → DI.EntV (s.heap.push { cls := .type "dict_items", data := .fields #[.ref a] }) k e := fun j k e hk he => by
    obtain ⟨b, c, h1, h2, h3, h4⟩ := trm j k e hk he
    obtain ⟨i1, v1, p1, _⟩ := I2.tuple (SqT.of (K := X.K) h3)
    obtain ⟨i2, v2, p2, _⟩ := I2.tuple (SqT.of (K := X.K) h4)
    exact ⟨b, c, i1, i2, h1, h2, p1, is_of v1, p2, is_of v2⟩
  refine DI.sorted_items (s := { s with heap := s.heap.push { cls := .type "dict_items", data := .fields #[.ref a] } }) (b := true) (ks := ts) (d := a) (es := es) (ep := ep) (I.ok.hd hc) ⟨_, Heap.get?_push_size _ rfl, rfl, rfl⟩ ⟨o, Heap.get?_push_of_some _ r1, r2, r3⟩ (by omega) (by omega) entV (by omega) fun h' D tk ix e1 as keep hal hG hD hp hs hge => ?_
  have hsz : (s.heap.push { cls := .type "dict_items", data := .fields #[.ref a] }).objs.size = s.heap.objs.size + 1 := Heap.size_push ..
  simp only [hsz] at hG hge
  have ixl : ix.length = kvs.length := by rw [hp.length_eq, List.length_range]; exact hlen
  have ixm : ∀ i ∈ ix, i < kvs.length := fun i hi => by
    have := (hp.mem_iff (a := i)).mp hi
    rw [List.mem_range] at this
    omega
  have szD : D < h'.objs.size := Heap.lt_size hD
  have at_ : ∀ j a', as[j]? = some a' → ∃ (b c : Addr) (t : IT.Tm), ts[j]? = some t ∧ h'.get? a' = some { cls := .type "tuple", data := .seq #[.ref b, .ref c] } ∧ H b = some (.tup (t.1.map V.int)) ∧ H c = some (.tup (t.2.map V.int)) ∧ s.heap.objs.size < a' ∧ a' < D := fun j a' hj => by
    obtain ⟨h1, h2, e, h3, h4⟩ := hG j a' hj
    have hjk : j < ts.length := by
      rw [hts, ← hlen, ← hal]
      exact (List.getElem?_eq_some_iff.mp hj).1
    obtain ⟨t, ht⟩ : ∃ t, ts[j]? = some t := ⟨ts[j], by simp [hjk]⟩
    obtain ⟨b, c, k1, k2, k3, k4⟩ := trm j t e ht h3
    rw [k1, k2] at h4
    exact ⟨b, c, t, ht, h4, k3, k4, by omega, h2⟩
  let zs : List V := ix.map fun i => (as.map V.ref).getD i .non
  let H' : Hp := fun y => if y = D then some (.lst zs) else if y ∈ as then tupAt h' y else H y
  have hHD : H' D = some (.lst zs) := if_pos rfl
  have hHa : ∀ (j : Nat) a' b c, as[j]? = some a' → h'.get? a' = some { cls := .type "tuple", data := .seq #[.ref b, .ref c] } → H' a' = some (.tup [.ref b, .ref c]) := fun j a' b c hj hb => by
    obtain ⟨_, _, _, _, _, _, _, _, hlt⟩ := at_ j a' hj
    show (if a' = D then _ else _) = _
    rw [if_neg (Nat.ne_of_lt hlt), if_pos (List.mem_of_getElem? hj)]
    unfold tupAt
    rw [hb]
    rfl
  have hHo : ∀ y, y < s.heap.objs.size + 1 → H' y = H y := fun y hy => by
    have hyD : y ≠ D := by omega
    show (if y = D then _ else _) = _
    rw [if_neg hyD]
    refine if_neg fun hm => ?_
    obtain ⟨j, hj⟩ := List.getElem?_of_mem hm
    obtain ⟨_, _, _, _, _, _, _, h1, _⟩ := at_ j y hj
    omega
  have up : ∀ b o, H b = some o → H' b = some o := fun b o e => by
    rw [hHo b (Nat.lt_succ_of_lt (I.hok b o e).lt)]; exact e
  have hok : HOk X.prog X.w H' h' := fun y u e => by
    by_cases hyD : y = D
    · subst hyD
      rw [hHD] at e
      cases e
      refine ⟨?_, _, e1, ?_, hD⟩
      · show (ix.map _).length ≤ sizeLine
        rw [List.length_map, ixl]
        exact hz
      · exact Vals.pick (refs_vals as) ix fun i hi => by rw [List.length_map, hal, hlen]; exact ixm i hi
    · by_cases hm : y ∈ as
      · obtain ⟨j, hj⟩ := List.getElem?_of_mem hm
        obtain ⟨b, c, t, h1, h2, h3, h4, _, _⟩ := at_ j y hj
        rw [hHa j y b c hj h2] at e
        cases e
        exact ⟨sz2, [.ref b, .ref c], .cons rfl (.cons rfl .nil), _, h2, rfl, _, rfl⟩
      · have e' : H y = some u := by
          have : H' y = H y := by
            show (if y = D then _ else _) = _
            rw [if_neg hyD, if_neg hm]
          rw [this] at e
          exact e
        exact (I.hok y u e').stay (fun b o _ z => keep b o (Heap.get?_push_of_some _ z)) (fun b z => up _ _ z) fun b xs z => up _ _ z
  have I3 : Inv X pins σ H' { s with heap := h', toks := tk } := I.many (fun b u e => keep b u (Heap.get?_push_of_some _ e)) (fun b hb => hHo b (by omega)) hok
  refine ⟨.ref D, H', I3, rfl, q D H' zs (ix.map fun i => ts.getD i ([], [])) up (I.hok.fresh (by omega)) hHD (perm_getD _ ts (by rw [hts, ← hlen]; exact hp)) ?_ (by simp [zs]) fun j z t hz' ht => ?_⟩
  · simpa using hs
  · have hj : j < ix.length := by
      have := (List.getElem?_eq_some_iff.mp ht).1
      simpa using this
    have hix : ix[j]? = some ix[j] := by simp [hj]
    have hi := ixm ix[j] (List.getElem_mem hj)
    have k1 : z = .ref (as[ix[j]]'(by rw [hal, hlen]; exact hi)) := by
      have : zs[j]? = some ((as.map V.ref).getD ix[j] .non) := by
        show (ix.map _)[j]? = _
        rw [List.getElem?_map, hix]; rfl
      rw [this] at hz'
      cases hz'
      simp [List.getD_eq_getElem?_getD, List.getElem?_map, show ix[j] < as.length by rw [hal, hlen]; exact hi]
    have k2 : t = ts[ix[j]]'(by rw [hts]; exact hi) := by
      rw [List.getElem?_map, hix] at ht
      simp [List.getD_eq_getElem?_getD, show ix[j] < ts.length by rw [hts]; exact hi] at ht
      exact ht.symm
    obtain ⟨b, c, t', h1, h2, h3, h4, h5, h6⟩ := at_ ix[j] (as[ix[j]]'(by rw [hal, hlen]; exact hi)) (List.getElem?_eq_getElem _)
    have k3 : t' = t := by
      rw [k2]
      rw [List.getElem?_eq_getElem (by rw [hts]; exact hi)] at h1
      exact (Option.some.inj h1).symm
    subst k3
    exact ⟨_, b, c, k1, I.hok.fresh (by omega), hHa _ _ b c (List.getElem?_eq_getElem _) h2, h3, h4⟩
def tSortI (to : TE) : TE := fun σ H Q => to σ H fun x H1 => SortI H1 x Q
theorem pe_sortI {X : Cx} {o : Expr} {to : TE} {p pos apos cpos kp kp2 : Pos} {j} (hc : X.calm = true) (hu : X.A.units + 64 < cLine) (hg : Gl X "sorted") (hm : X.mg "sorted" = none) (ho : PE X o to)
    (hbase : attributeBase o "items" X.env (eval o X.env) = eval o X.env := by rfl) (hline : (apos.endLine == cpos.line) = true := by rfl)
    (he : backTo pos (starEach [.Call (.Attribute o "items" apos) [] [] cpos] X.env) = (false, eval (.Call (.Attribute o "items" apos) [] [] cpos) X.env) :: backTo pos (starEach [] X.env) := by rfl) (hplain : (backTo pos (starEach [.Call (.Attribute o "items" apos) [] [] cpos] X.env)).any (·.1) = false := by rfl) :
    PE X (.Call (.Name "sorted" p) [.Call (.Attribute o "items" apos) [] [] cpos] [⟨some "reverse", .Constant (.bool true) j kp2, kp⟩] pos) (tSortI to) := by
  intro pins s σ H Q I h
  refine wpAny_Call_Name_kw (ld_blt I hg hm boot_sorted ?_ (by decide) (by decide))
  refine callWith_kw ?_ he hplain
  rw [he]
  refine Calls.spliced_cons (wpAny_Call_method0_late hbase hline (thn (ho pins s σ H _ I h) fun v s1 ⟨x, H1, I1, r1, q1⟩ => ?_))
  obtain ⟨a, es, ep, rfl, nd, rd, fin⟩ := sortI_fin I1 r1 hc hu q1
  obtain ⟨ob, e1, e2, e3⟩ := id rd
  refine ⟨"dict", "dict.items", PySem.F.plainAttrs_dict, PySem.F.slot_dict_items, PySem.F.type_dict_items, ⟨ob, e1, e2.1⟩, fun b hb => ?_, Calls.callWith_builtin rfl (PySem.evalArgs_none ?_)⟩
  · cases hb
    exact ⟨ob, e1, e2.2.1⟩
  refine call_meetsIn PySem.F.slot_dict_items ⟨ob, e1, e2.1⟩ PySem.F.entry_dict_items (PySem.F.args_dict_items_1 _) (items_rd a nd) ⟨⟨es, ep, rd⟩, ?_⟩
  exact Calls.spliced_nil (kws_cons (Constant_bool (kws_nil fin)))
end L2
set_option Elab.async false
set_option linter.all false
set_option maxRecDepth 100000
set_option maxHeartbeats 4000000
namespace IT
open PySem PySem.W PyProof.Rows PySem.SeqAt
section
open PySem.AutoSeq1 (wpAny_loadPart')
open PySem.MeetsSeq PySem.MeetsSeq2 PySem.MeetsSeq3
theorem tuple_ge (l b : Addr) (items items2 : Array Value) (n n2 : Nat) (dd dd2 : Option Addr) (sl sl2 : Array (Option Value)) (t u : List Int) :
    Meets (Builtin.«tuple.__ge__» ⟨[.ref l, .ref b], []⟩)
      (fun A R s => s.heap.get? l = some { cls := .type "tuple", dict := dd, data := .seq items n, slots := sl } ∧ s.heap.get? b = some { cls := .type "tuple", dict := dd2, data := .seq items2 n2, slots := sl2 } ∧
        Is t items.toList ∧ Is u items2.toList ∧ A.units < cLine ∧ R (.ok (.ret (.bool (!lt t u)))) s) :=
  .of_wp fun prog w A R s h => by
    obtain ⟨hp, g, d, tk, os⟩ := s; obtain ⟨hl, hb, hi, hj, hun, h⟩ := h
    have f2 := AutoSeq1.sub_tuple_tuple
    have z1 : items.size = t.length := by rw [← Is.length hi]; simp
    have z2 : items2.size = u.length := by rw [← Is.length hj]; simp
    wp_walk using wpAny_loadPart' hl, wpAny_loadPart' hb, wpAny_forIn_list _ (fun rest b s' => b.1 = none ∧ s' = ⟨hp, g, d, tk, os⟩ ∧ ∃ (vs ws : List Value) (t' u' : List Int), rest = vs.zip ws ∧
      Is t' vs ∧ Is u' ws ∧ t'.length + items2.size = u'.length + items.size ∧ R (.ok (.ret (.bool (!lt t' u')))) ⟨hp, g, d, tk, os⟩) _
    case turn =>
      rintro ⟨y, x⟩ rest b s' ⟨hb', rfl, vs, ws, t', u', hz, hvi, hwi, hlen, hR⟩
      cases t' with
      | nil => rw [Is] at hvi; subst hvi; rw [List.zip_nil_left] at hz; cases hz
      | cons bt rt =>
        cases u' with
        | nil => rw [Is] at hwi; subst hwi; rw [List.zip_nil_right] at hz; cases hz
        | cons bu ru =>
          rw [Is] at hvi hwi
          obtain ⟨a1, v1, rfl, p3⟩ := hvi
          obtain ⟨a2, v2, rfl, q3⟩ := hwi
          rw [List.zip_cons_cons] at hz
          injection hz with hyx hrest
          injection hyx with hy hx
          subst hy hx
          rw [lt] at hR
          simp only [List.length_cons] at hlen
          have he := EqAt.int_int (A := A.in1) (s := ⟨hp, g, d, tk, os⟩) bt a1 bu a2
          refine wpAny_bind (he prog w _ _ ?_)
          by_cases hc : bt = bu
          · rw [if_pos hc] at hR
            rw [beq_iff_eq.mpr hc]
            wp_walk
            exact ⟨rfl, rfl, _, _, _, _, hrest, p3, q3, by omega, hR⟩
          · rw [if_neg hc] at hR
            rw [beq_eq_false_iff_ne.mpr hc]
            have hri : ∀ (E : Value → Shared → Prop) (Q : Value → Shared → Prop), Q (.bool (decide (bu ≤ bt))) ⟨hp, g, d, tk, os⟩ → wpAny (model prog w) A.in1 (richCompare .GtE (.int bt a1) (.int bu a2)) Q E ⟨hp, g, d, tk, os⟩ := fun E Q h => PyProof.Rows.ge_int h
            have e : (!decide (bt < bu)) = decide (bu ≤ bt) := by rw [Bool.eq_iff_iff]; simp
            rw [e] at hR
            wp_walk using hri
            exact ⟨_, rfl, by simpa using hR⟩
    case fin =>
      rintro ⟨b1, b2⟩ s' ⟨hb', rfl, vs, ws, t', u', hz, hvi, hwi, hlen, hR⟩
      simp only at hb'
      subst hb'
      have hv : lt t' u' = decide (items.size < items2.size) := by
        cases t' with
        | nil =>
          cases u' with
          | nil =>
            simp only [List.length_nil] at hlen
            exact (decide_eq_false (by omega)).symm
          | cons c q =>
            simp only [List.length_cons, List.length_nil] at hlen
            exact (decide_eq_true (by omega)).symm
        | cons bt rt =>
          cases u' with
          | nil =>
            simp only [List.length_cons, List.length_nil] at hlen
            exact (decide_eq_false (by omega)).symm
          | cons c q =>
            rw [Is] at hvi hwi
            obtain ⟨_, _, rfl, _⟩ := hvi
            obtain ⟨_, _, rfl, _⟩ := hwi
            rw [List.zip_cons_cons] at hz
            cases hz
      have e : (!decide (items.size < items2.size)) = decide (items2.size ≤ items.size) := by rw [Bool.eq_iff_iff]; simp
      rw [hv, e] at hR
      wp_walk
      exact ⟨_, rfl, by simpa [Builtin.Tuple.tupleCompareSizes] using hR⟩
    case h =>
      exact ⟨rfl, rfl, items.toList, items2.toList, t, u, rfl, hi, hj, by omega, h⟩
end
section
open PySem.MeetsSeq PySem.MeetsSeq2 PySem.MeetsSeq3
variable {prog : Program} {w : World} {A : Around} {E : Value → Shared → Prop} {s : Shared} {t u : List Int} {a b : Addr} {its its' : List Value}
theorem rc_ge {Q : Value → Shared → Prop} (h1 : s.heap.IsTuple a its.toArray) (k1 : Is t its) (h2 : s.heap.IsTuple b its'.toArray) (k2 : Is u its') (hu : A.units + 1 < cLine) (h : Q (.bool (!lt t u)) s) : wpAny (model prog w) A (richCompare .GtE (.ref a) (.ref b)) Q E s := by
  obtain ⟨⟨cls, dd, data, sl⟩, ho, hc, n, hdt⟩ := id h1
  obtain ⟨⟨cls2, dd2, data2, sl2⟩, ho2, hc2, n2, hdt2⟩ := id h2
  simp only at hc hdt hc2 hdt2
  subst hc hdt hc2 hdt2
  exact richCompare_meets_room (op := .GtE) ⟨_, ho, rfl⟩ ⟨_, ho2, rfl⟩ PySem.F.slot_tuple_ge PySem.F.entry_tuple_ge (PySem.F.args_tuple_ge_2 _ _) (tuple_ge a b its.toArray its'.toArray n n2 dd dd2 sl sl2 t u)
    ⟨ho, ho2, by simpa using k1, by simpa using k2, by omega, show Value.bool (!lt t u) ≠ Value.notImplemented ∧ Q (.bool (!lt t u)) s from ⟨(fun x => nomatch x), h⟩⟩ (by omega)
end
end IT
namespace L2
open PySem PySem.Spec PyProof.Rows
theorem op_geT {X : Cx} (hu : X.A.units + 64 < cLine) : OpR X (compareOp .GtE) (fun x y H Q => ∃ (a b : Addr) (ps qs : List Int), x = .ref a ∧ y = .ref b ∧ H a = some (.tup (ps.map V.int)) ∧ H b = some (.tup (qs.map V.int)) ∧ Q (.bl (!IT.lt ps qs)) H) := by
  intro pins s σ H x y v u' Q I rx ry h
  obtain ⟨a, b, ps, qs, rfl, rfl, ha, hb, q⟩ := h
  cases rx
  cases ry
  obtain ⟨i1, v1, p1, _⟩ := I.tuple (SqT.of (K := X.K) ha)
  obtain ⟨i2, v2, p2, _⟩ := I.tuple (SqT.of (K := X.K) hb)
  exact IT.rc_ge p1 (is_of v1) p2 (is_of v2) (by omega) ⟨.bl _, H, I, rfl, q⟩
end L2
set_option Elab.async false
set_option linter.all false
set_option maxRecDepth 100000
set_option maxHeartbeats 4000000
namespace L2
open PySem PySem.Spec PyProof.Rows
section
variable {X : Cx}
def rCatA : R2 := fun x y H Q => ∃ a b xs ys, x = .ref a ∧ y = .ref b ∧ H a = some (.tup xs) ∧ H b = some (.tup ys) ∧ xs.length + ys.length ≤ sizeLine ∧ ∀ p H', Same H H' → H' p = some (.tup (xs ++ ys)) → Q (.ref p) H'
theorem op_catA : OpR X (binaryOp .Add) rCatA := by
  intro pins s σ H x y v u Q I rx ry h
  obtain ⟨a, b, xs, ys, rfl, rfl, ha, hb, hz, q⟩ := h
  cases rx
  cases ry
  obtain ⟨its, r1, p1, _⟩ := I.tuple (SqT.of (K := X.K) ha)
  obtain ⟨its2, r2, p2, _⟩ := I.tuple (SqT.of (K := X.K) hb)
  by_cases hv : its = []
  · have hx := r1.nil_iff.mp hv
    subst hv hx
    obtain ⟨⟨cls, dd, data, sl⟩, ho, hc, n, hd⟩ := id p1
    obtain ⟨⟨cls2, dd2, data2, sl2⟩, ho2, hc2, n2, hd2⟩ := id p2
    simp only at hc hd hc2 hd2
    subst hc hd hc2 hd2
    exact concat_meets ⟨_, ho, rfl⟩ ⟨_, ho2, rfl⟩ noFill_tuple_add seq_tuple_add PySem.F.slot_tuple_add PySem.F.entry_tuple_add (PySem.F.args_tuple_add_2 _ _)
      (tuple_addW0 a b _ _ n n2 dd dd2 sl sl2 (by simp)) ⟨ho, ho2, ⟨.ref b, H, I, rfl, q b H (.refl H) (by simpa using hb)⟩⟩
  · refine HT.cat_tup p1 p2 hv (fun z => ?_) (fun z => ?_) (by rw [← r1.length, ← r2.length]; exact hz)
    · have hy := r2.nil_iff.mp z
      subst hy
      exact ⟨.ref a, H, I, rfl, q a H (.refl H) (by simpa using ha)⟩
    · refine ⟨.ref s.heap.objs.size, _, I.laid (t' := s.toks) (o := .tup (xs ++ ys)) (fun b ob q => Heap.get?_push_of_some _ q) (Nat.le_refl _) ?_, rfl, q _ _ (same_new (I.hok.fresh (Nat.le_refl _)) _) upd_same⟩
      exact ⟨by rw [List.length_append]; exact hz, _, r1.append r2, IsTup.new _ _⟩
end
end L2
set_option Elab.async false
set_option linter.all false
set_option maxRecDepth 100000
set_option maxHeartbeats 4000000
namespace Q19
open PySem L2
def top (i : Nat) : Stmt := PySem.Challenge.pw_stepgrove_k19_what_is_a_change.main.body.getD i (.Pass ⟨0, 0, 0, 0⟩)
abbrev s_is_fraction : Stmt := top 1
abbrev s_is_whole : Stmt := top 2
abbrev s_greatest_divisor : Stmt := top 3
abbrev s_is_poly : Stmt := top 5
abbrev s_is_term : Stmt := top 6
abbrev s_are_powers : Stmt := top 7
abbrev s_is_change : Stmt := top 9
abbrev s__law_cell : Stmt := top 11
abbrev s__law_take : Stmt := top 12
abbrev s__law_shared : Stmt := top 13
abbrev s__law_frac : Stmt := top 14
abbrev s__law_part : Stmt := top 17
abbrev s__law_poly : Stmt := top 18
abbrev s__law_change : Stmt := top 19
abbrev s__law_bad_term : Stmt := top 20
abbrev s__law_spoiled : Stmt := top 21
abbrev s_law : Stmt := top 22
theorem nnt {n : String} : clsV (.ty n) ≠ .none := fun z => nomatch z
theorem mulC {i j : Int} (h1 : -18446744073709551616 < j) (h2 : j < 18446744073709551616) : CMul i j ∨ CMulW i j := .inl (.inr ⟨h1, h2⟩)
theorem mulL {i j : Int} (h1 : -18446744073709551616 < i) (h2 : i < 18446744073709551616) : CMul i j ∨ CMulW i j := .inl (.inl ⟨h1, h2⟩)
def spGd : Sp := fun vs H Q _ => ∃ a b, vs = [.int a, .int b] ∧ Q (.int (FM.gi a b)) H
def spFr : Sp := fun vs H Q _ => ∃ t b m, vs = [.int t, .int b] ∧ b ≠ 0 ∧ m ≤ 9000 ∧ b.natAbs < 2 ^ m ∧ ∀ l H', Same H H' → H' l = some (.tup (ratV (Rat.divInt t b))) → Q (.ref l) H'
section
variable {P : Program} {w : World} {K : PySem.W.Frag} {mg : Str → Option Value} {base : Heap} {f g : Addr} {fd gd : FuncData}
theorem sc_greatest_divisor : FnScope ["one", "other", "greater", "lesser", "rest"] ["one", "other"] (defScope s_greatest_divisor) := ⟨rfl, rfl, rfl, by decide +kernel, rfl, by decide +kernel, by decide +kernel⟩
def mu3 (σ : St) : Nat := match σ[3]? with | some (some (V.int l)) => l.natAbs | _ => 0
theorem ok_greatest_divisor (F : Fn K mg "greatest_divisor" s_greatest_divisor ["one", "other"] f fd) (z_abs : mg "abs" = none) : FnOk P w K mg base CX0 1 f fd ["one", "other"] spGd := by
  have sc := sc_greatest_divisor
  refine F.F.ok (k := 0) sc (fun vs H Q E h => ?_) (fun cdv A outer s H vs Q E hr h => ?_)
  · obtain ⟨a, b, rfl, _⟩ := h
    rfl
  obtain ⟨a, b, rfl, q⟩ := h
  refine ⟨_, (pss_cons (ps_set (i := 2) sc.nd rfl (Or.inl rfl) (pe_callB call_abs rfl z_abs PyProof.Rows.boot_abs (pa_cons (pv 0) pa_nil)))
  (pss_cons (ps_set (i := 3) sc.nd rfl (Or.inl rfl) (pe_callB call_abs rfl z_abs PyProof.Rows.boot_abs (pa_cons (pv 1) pa_nil)))
  (pss_cons (ps_while PassesOwn.never (pt_cmpR op_ne (pv 3) pe_int (nomark _))
    (pss_cons (ps_set (i := 4) sc.nd rfl (Or.inl rfl) (pe_op op_modN (pv 2) (pv 3)))
    (pss_cons (ps_set (i := 2) sc.nd rfl (Or.inl rfl) (pv 3))
    (pss_one (ps_set (i := 3) sc.nd rfl (Or.inl rfl) (pv 4))))))
  (pss_one (ps_ret (pv 2)))))), ?_⟩
  refine ⟨_, rfl, _, rfl, _, rfl, _, rfl, ?_⟩
  refine while_by (fun σ H' => ∃ g l r, σ = [some (.int a), some (.int b), some (.int g), some (.int l), r] ∧ H = H' ∧ Int.gcd g l = Int.gcd a b ∧ 0 ≤ g ∧ 0 ≤ l) (fun σ _ => mu3 σ) ?_ ?_ ?_
  · exact ⟨_, _, _, rfl, rfl, FM.gcd_abs a b, FM.abs_nonneg a, FM.abs_nonneg b⟩
  · rintro σ H' ⟨g, l, r, rfl, rfl, hg, h0, h1⟩
    refine ⟨_, rfl, rfl, _, rfl, ite2 (fun c => ?_) (fun c => ?_)⟩
    · have hl : l ≠ 0 := fun z => by subst z; simp at c
      refine ⟨_, rfl, _, rfl, _, _, rfl, rfl, hl, _, rfl, _, rfl, ⟨_, _, _, rfl, rfl, ?_, h1, FM.fmod_nonneg hl h1⟩, ?_⟩
      · rw [FM.gcd_step]; exact hg
      · exact FM.fmod_less g l hl
    · have hl : l = 0 := by simpa using c
      subst hl
      refine ⟨_, rfl, ?_⟩
      rw [FM.gi_end hg h0]
      exact q
  · exact fun σ H Q Q' hq ⟨v, e, s, k, e2, q⟩ => ⟨v, e, s, k, e2, hq _ _ q⟩
end
def spTake : Sp := fun vs H Q _ => ∃ (l : Addr) (x n : Int), vs = [.ref l, .int n] ∧ H l = some (.lst [.int x]) ∧ 0 < n ∧ n < 2 ^ 64 ∧ ∀ r y : Int, 0 ≤ r → r < n → Q (.int r) (upd H l (.lst [.int y]))
def spCellP (K : PySem.W.Frag) : Sp := fun vs H Q _ => ∃ (a : Addr) (ns : List Int) (k : Int), vs = [.ref a, .int k] ∧ SqL K H a (ns.map V.int) ∧ 0 ≤ k ∧ k < 1000 ∧ ∀ x : Int, Q (.int x) H
section
variable {P : Program} {w : World} {K : PySem.W.Frag} {mg : Str → Option Value} {base : Heap} {f g g1 g2 : Addr} {fd gd gd1 gd2 : FuncData}
theorem sc__law_take : FnScope ["_law_pile", "_law_size", "_law_digit"] ["_law_pile", "_law_size"] (defScope s__law_take) := ⟨rfl, rfl, rfl, by decide +kernel, rfl, by decide +kernel, by decide +kernel⟩
theorem ok__law_take (F : Fn K mg "_law_take" s__law_take ["_law_pile", "_law_size"] f fd) : FnOk P w K mg base CX0 1 f fd ["_law_pile", "_law_size"] spTake := by
  have sc := sc__law_take
  refine F.F.ok (k := 0) sc (fun vs H Q E h => ?_) (fun cdv A outer s H vs Q E hr h => ?_)
  · obtain ⟨l, x, n, rfl, _⟩ := h
    rfl
  obtain ⟨l, x, n, rfl, hl, h0, h1, q⟩ := h
  refine ⟨_, (pss_cons (ps_set (i := 2) sc.nd rfl (Or.inl rfl) (pe_op op_modN (pe_ix ix_list (pv 0) pe_int (fun _ _ => rfl)) (pv 1)))
  (pss_cons (ps_asg (pe_op op_fdivW (pe_ix ix_list (pv 0) pe_int (fun _ _ => rfl)) (pv 1)) (pg_sub (pv 0) pe_int set_list))
  (pss_one (ps_ret (pv 2))))), ?_⟩
  refine ⟨_, rfl, _, _, _, _, rfl, rfl, SqL.of hl, rfl, _, rfl, _, _, rfl, rfl, (by show n ≠ 0; omega), ?_⟩
  refine ⟨_, rfl, _, _, _, _, rfl, rfl, SqL.of hl, rfl, _, rfl, _, _, rfl, rfl, ⟨by omega, 64, by decide, by omega⟩, _, rfl, l, _, _, 0, rfl, rfl, hl, rfl, _, rfl, ?_⟩
  exact q _ _ (Int.fmod_nonneg_of_pos x h0) (Int.fmod_lt_of_pos x h0)
theorem sc__law_shared : FnScope ["_law_one", "_law_other"] ["_law_one", "_law_other"] (defScope s__law_shared) := ⟨rfl, rfl, rfl, by decide +kernel, rfl, by decide +kernel, by decide +kernel⟩
def mu1 (σ : St) : Nat := match σ[1]? with | some (some (V.int l)) => l.natAbs | _ => 0
theorem ok__law_shared (F : Fn K mg "_law_shared" s__law_shared ["_law_one", "_law_other"] f fd) (z_abs : mg "abs" = none) : FnOk P w K mg base CX0 1 f fd ["_law_one", "_law_other"] spGd := by
  have sc := sc__law_shared
  refine F.F.ok (k := 0) sc (fun vs H Q E h => ?_) (fun cdv A outer s H vs Q E hr h => ?_)
  · obtain ⟨a, b, rfl, _⟩ := h
    rfl
  obtain ⟨a, b, rfl, q⟩ := h
  refine ⟨_, (pss_cons (ps_while PassesOwn.never (pt_cmpR op_ne (pv 1) pe_int (nomark _))
    (pss_one (ps_par (i := 0) (j := 1) rfl sc.nd rfl rfl (by decide) rfl rfl (pa_cons (pv 1) (pa_cons (pe_op op_modN (pv 0) (pv 1)) pa_nil)) rfl)))
  (pss_one (ps_ret (pe_callB call_abs rfl z_abs PyProof.Rows.boot_abs (pa_cons (pv 0) pa_nil))))), ?_⟩
  refine while_by (fun σ H' => ∃ g l, σ = [some (.int g), some (.int l)] ∧ H = H' ∧ Int.gcd g l = Int.gcd a b) (fun σ _ => mu1 σ) ⟨_, _, rfl, rfl, rfl⟩ ?_ ?_
  · rintro σ H' ⟨g, l, rfl, rfl, hg⟩
    refine ⟨_, rfl, rfl, _, rfl, ite2 (fun c => ?_) (fun c => ?_)⟩
    · have hl : l ≠ 0 := fun z => by subst z; simp at c
      refine ⟨_, rfl, _, rfl, _, rfl, _, _, rfl, rfl, hl, _, _, rfl, ⟨_, _, rfl, rfl, ?_⟩, ?_⟩
      · rw [FM.gcd_step]; exact hg
      · exact FM.fmod_less g l hl
    · have hl : l = 0 := by simpa using c
      subst hl
      refine ⟨_, rfl, _, rfl, ?_⟩
      rw [FM.gi_end' hg]
      exact q
  · exact fun σ H Q Q' hq ⟨v, e, s, k, e2, q⟩ => ⟨v, e, s, k, e2, hq _ _ q⟩
theorem sc__law_frac : FnScope ["_law_top", "_law_bottom", "_law_by_here"] ["_law_top", "_law_bottom"] (defScope s__law_frac) := ⟨rfl, rfl, rfl, by decide +kernel, rfl, by decide +kernel, by decide +kernel⟩
theorem ok__law_frac (F : Fn K mg "_law_frac" s__law_frac ["_law_top", "_law_bottom"] f fd) (T__law_shared : Fn K mg "_law_shared" s__law_shared ["_law_one", "_law_other"] g gd)
    (G__law_shared : FnOk P w K mg base CX0 1 g gd ["_law_one", "_law_other"] spGd) : FnOk P w K mg base CX0 2 f fd ["_law_top", "_law_bottom"] spFr := by
  have sc := sc__law_frac
  refine F.F.ok (k := 1) sc (fun vs H Q E h => ?_) (fun cdv A outer s H vs Q E hr h => ?_)
  · obtain ⟨t, b, m, rfl, _⟩ := h
    rfl
  obtain ⟨t, b, m, rfl, hb, hm, hs, q⟩ := h
  refine ⟨_, (pss_cons (ps_set (i := 2) sc.nd rfl (Or.inl rfl) (pe_fn T__law_shared G__law_shared hr rfl (pa_cons (pv 0) (pa_cons (pv 1) pa_nil))))
  (pss_cons (ps_if (pt_cmpR op_lt (pv 1) pe_int (nomark _))
    (pss_one (ps_set (i := 2) sc.nd rfl (Or.inl rfl) (pe_op op_sub pe_int (pv 2))))
    pss_nil)
  (pss_one (ps_ret (pe_tup (pa_cons (pe_op op_fdivW (pv 0) (pv 2)) (pa_cons (pe_op op_fdivW (pv 1) (pv 2)) pa_nil))))))), ?_⟩
  refine ⟨_, rfl, _, rfl, t, b, rfl, ?_⟩
  try dsimp only [gName]
  refine seq_join (fun σ' H' => σ' = [some (.int t), some (.int b), some (.int (FM.gs t b))] ∧ H = H') (fun nx hn => ?_) ?_
  · refine ⟨_, rfl, _, _, rfl, rfl, _, rfl, ite2 (fun c => ?_) (fun c => ?_)⟩
    · have c' : b < 0 := of_decide_eq_true c
      refine ⟨_, rfl, _, _, rfl, rfl, hn _ _ ⟨?_, rfl⟩⟩
      show [some (V.int t), some (V.int b), some (V.int (0 - FM.gi t b))] = _
      unfold FM.gs
      rw [if_pos c', Int.zero_sub]
    · have c' : ¬ b < 0 := of_decide_eq_false (Bool.eq_false_iff.mpr c)
      refine hn _ _ ⟨?_, rfl⟩
      unfold FM.gs
      rw [if_neg c']
      rfl
  · rintro σ' H' ⟨rfl, rfl⟩
    have h0 : FM.gs t b ≠ 0 := FM.gs_ne hb
    have h1 : (FM.gs t b).natAbs < 2 ^ m := Nat.lt_of_le_of_lt (FM.gs_le hb) hs
    refine ⟨_, rfl, _, rfl, _, _, rfl, rfl, ⟨h0, m, hm, h1⟩, _, rfl, _, rfl, _, _, rfl, rfl, ⟨h0, m, hm, h1⟩, sz2, fun p hp => ?_⟩
    refine q p _ (same_new hp _) ?_
    rw [upd_same]
    show some (HO.tup [V.int (t.fdiv (FM.gs t b)), V.int (b.fdiv (FM.gs t b))]) = _
    rw [FM.num_eq hb, FM.den_eq hb]
    rfl
theorem sc__law_cell : FnScope ["_law_script", "_law_k", "_law_cell_here", "_law_number", "_law_found", "_law_turn"] ["_law_script", "_law_k"] (defScope s__law_cell) := ⟨rfl, rfl, rfl, by decide +kernel, rfl, by decide +kernel, by decide +kernel⟩
theorem ok__law_cell (F : Fn K mg "_law_cell" s__law_cell ["_law_script", "_law_k"] f fd) (z_len : mg "len" = none) (z_range : mg "range" = none) : FnOk P w K mg base CX0 1 f fd ["_law_script", "_law_k"] (spCellP K) := by
  have sc := sc__law_cell
  refine F.F.ok (k := 0) sc (fun vs H Q E h => ?_) (fun cdv A outer s H vs Q E hr h => ?_)
  · obtain ⟨a, ns, k, rfl, _⟩ := h
    rfl
  obtain ⟨a, ns, k, rfl, hS, h0, hk, q⟩ := h
  refine ⟨_, (pss_cons (ps_set (i := 2) sc.nd rfl (Or.inl rfl) pe_int)
  (pss_cons (ps_if (pt_cmpR op_lt (pv 1) (pe_callB call_len_seq rfl z_len PySem.boot_len (pa_cons (pv 0) pa_nil)) (nomark _))
    (pss_one (ps_set (i := 2) sc.nd rfl (Or.inl rfl) (pe_ix ix_list (pv 0) (pv 1) (fun _ _ => rfl))))
    pss_nil)
  (pss_cons (ps_if (pt_cmpR op_ge (pv 2) (pe_op op_pow pe_int pe_int) (nomark _))
    (pss_one (ps_ret (pe_op op_mod (pe_op op_sub (pv 2) (pe_op op_pow pe_int pe_int)) (pe_op op_pow pe_int pe_int))))
    pss_nil)
  (pss_cons (ps_set (i := 3) sc.nd rfl (Or.inl rfl) (pe_op op_mod (pe_op op_add (pe_op op_add (pe_op op_mulW (pv 2) pe_int) (pe_op op_mulW (pv 1) pe_int)) pe_int) pe_int))
  (pss_cons (ps_set (i := 4) sc.nd rfl (Or.inl rfl) pe_int)
  (pss_cons (ps_for PassesOwn.never rfl (pi_range1 rfl z_range (pa_cons pe_int pa_nil)) (pg_name (i := 5) sc.nd rfl (Or.inl rfl))
    (pss_cons (ps_set (i := 3) sc.nd rfl (Or.inl rfl) (pe_op op_mod (pe_op op_add (pe_op op_add (pe_op op_mulW (pv 3) (pv 3)) (pe_op op_mulW pe_int (pv 5))) pe_int) pe_int))
    (pss_one (ps_set (i := 4) sc.nd rfl (Or.inl rfl) (pe_op op_add (pe_op op_mulW (pv 4) pe_int) (pe_op op_mod (pe_op op_mulW (pv 3) (pv 3)) pe_int))))))
  (pss_one (ps_ret (pv 4))))))))), ?_⟩
  try dsimp only [gName]
  refine seq_join (fun σ' H' => ∃ c : Int, σ' = [some (.ref a), some (.int k), some (.int c), none, none, none] ∧ H = H') (fun nx hn => ?_) ?_
  · exact hn _ _ ⟨0, rfl, rfl⟩
  rintro _ _ ⟨_, rfl, rfl⟩
  try dsimp only [gName]
  refine seq_join (fun σ' H' => ∃ c : Int, σ' = [some (.ref a), some (.int k), some (.int c), none, none, none] ∧ H = H') (fun nx hn => ?_) ?_
  · refine ⟨_, rfl, _, rfl, a, _, rfl, .inl hS, _, _, rfl, rfl, _, rfl, ite2 (fun c => ?_) (fun c => ?_)⟩
    · have c' : k < (((ns.map V.int).length : Nat) : Int) := of_decide_eq_true c
      rw [List.length_map] at c'
      have hk : k.toNat < ns.length := by omega
      have hat : atI (ns.map V.int) k = some (.int ns[k.toNat]) := by
        have z := atI_nat (xs := ns.map V.int) (j := k.toNat) (v := .int ns[k.toNat]) (by rw [List.getElem?_map, List.getElem?_eq_getElem hk]; rfl)
        rwa [show ((k.toNat : Nat) : Int) = k by omega] at z
      exact ⟨_, rfl, _, rfl, a, _, _, _, rfl, rfl, hS, hat, hn _ _ ⟨_, rfl, rfl⟩⟩
    · exact hn _ _ ⟨_, rfl, rfl⟩
  rintro _ _ ⟨c, rfl, rfl⟩
  refine ⟨_, rfl, _, _, rfl, rfl, ⟨by decide, by decide, by decide⟩, _, _, rfl, rfl, _, rfl, ite2 (fun _ => ?_) (fun _ => ?_)⟩
  · exact ⟨_, rfl, _, _, rfl, rfl, ⟨by decide, by decide, by decide⟩, _, _, rfl, rfl, _, _, rfl, rfl, ⟨by decide, by decide, by decide⟩, _, _, rfl, rfl, (by show (0 : Int) < 10 ^ 60; decide), q _⟩
  · refine ⟨_, rfl, _, _, rfl, rfl, mulC (by decide) (by decide), _, rfl, _, _, rfl, rfl, mulC (by decide) (by decide), _, _, rfl, rfl, _, _, rfl, rfl, _, _, rfl, rfl, (by show (0 : Int) < 2147483629; decide), ?_⟩
    have z0 : 0 ≤ (c * 48271 + k * 69621 + 11) % 2147483629 := Int.emod_nonneg _ (by decide)
    have z1 : (c * 48271 + k * 69621 + 11) % 2147483629 < 2147483629 := Int.emod_lt_of_pos _ (by decide)
    refine ⟨8, rfl, by decide, by decide, for_range (n := 8) (fun _ σ H' => ∃ (m fo : Int) (jj : Option V), σ = [some (.ref a), some (.int k), some (.int c), some (.int m), some (.int fo), jj] ∧ 0 ≤ m ∧ m < 2147483629 ∧ H = H') ⟨(c * 48271 + k * 69621 + 11) % 2147483629, 0, none, rfl, z0, z1, rfl⟩ ?_ ?_⟩
    · rintro i σ H' hi ⟨m, fo, jj, rfl, m0, m1, rfl⟩
      refine ⟨_, rfl, _, rfl, _, _, rfl, rfl, mulC (by omega) (by omega), _, rfl, _, _, rfl, rfl, mulL (by decide) (by decide), _, _, rfl, rfl, _, _, rfl, rfl, _, _, rfl, rfl, (by show (0 : Int) < 2147483587; decide), ?_⟩
      have y0 : 0 ≤ (m * m + 69621 * (0 + (i : Nat)) + 7) % 2147483587 := Int.emod_nonneg _ (by decide)
      have y1 : (m * m + 69621 * (0 + (i : Nat)) + 7) % 2147483587 < 2147483587 := Int.emod_lt_of_pos _ (by decide)
      exact ⟨_, rfl, _, _, rfl, rfl, mulC (by decide) (by decide), _, rfl, _, rfl, ((m * m + 69621 * (0 + (i : Nat)) + 7) % 2147483587 : Int), ((m * m + 69621 * (0 + (i : Nat)) + 7) % 2147483587 : Int), rfl, rfl, mulC (by omega) (by omega), _, _, rfl, rfl, (by show (0 : Int) < 2147483563; decide), _, _, rfl, rfl, _, _, _, rfl, y0, by omega, rfl⟩
    · rintro σ H' ⟨m, fo, jj, rfl, m0, m1, rfl⟩
      exact ⟨_, rfl, q _⟩
end
def isFrD : PyData → Bool
  | .tuple [.int a, .int b] => decide (1 ≤ b) && (FM.gi a b == 1)
  | _ => false
theorem isFrD_of {ds : List PyData} (h : ds.length ≠ 2 ∨ ∃ d0 d1, ds = [d0, d1] ∧ ((isIntD d0 && !isBoolD d0) = false ∨ (isIntD d1 && !isBoolD d1) = false)) : isFrD (.tuple ds) = false := by
  rcases h with h | ⟨d0, d1, rfl, h⟩
  · match ds, h with
    | [], _ => rfl
    | [a], _ => cases a <;> rfl
    | [_, _], h => exact absurd rfl h
    | a :: b :: _ :: _, _ => cases a <;> first | rfl | (cases b <;> rfl)
  · cases d0 <;> first | rfl | (cases d1 <;> first | rfl | (exfalso; rcases h with h | h <;> exact absurd h (by simp [isIntD, isBoolD])))
def spIsWh : Sp := fun vs H Q _ => ∃ l d v, vs = [v] ∧ Dt l H d v ∧ Q (.bl (isIntD d && !isBoolD d)) H
def spIsFr : Sp := fun vs H Q _ => ∃ l d v, vs = [v] ∧ Dt l H d v ∧ Q (.bl (isFrD d)) H
theorem whole_int {d : PyData} (h : (isIntD d && !isBoolD d) = true) : ∃ i, d = .int i := by
  cases d <;> first | exact ⟨_, rfl⟩ | (exact absurd h (by simp [isIntD, isBoolD])) | (rename_i b; cases b <;> exact absurd h (by decide))
section
variable {P : Program} {w : World} {K : PySem.W.Frag} {mg : Str → Option Value} {base : Heap} {f g g1 g2 g3 g4 g5 : Addr} {fd gd gd1 gd2 gd3 gd4 gd5 : FuncData}
theorem sc_is_whole : FnScope ["thing"] ["thing"] (defScope s_is_whole) := ⟨rfl, rfl, rfl, by decide +kernel, rfl, by decide +kernel, by decide +kernel⟩
theorem ok_is_whole (F : Fn K mg "is_whole" s_is_whole ["thing"] f fd) (z_isinstance : mg "isinstance" = none) (z_int : mg "int" = none) (z_bool : mg "bool" = none) : FnOk P w K mg base CX0 1 f fd ["thing"] spIsWh := by
  have sc := sc_is_whole
  refine F.F.ok (k := 0) sc (fun vs H Q E h => ?_) (fun cdv A outer s H vs Q E hr h => ?_)
  · obtain ⟨l, d, v, rfl, _⟩ := h
    rfl
  obtain ⟨l, d, v, rfl, hd, q⟩ := h
  refine ⟨_, (pss_one (ps_ret (pe_and (pe_callB call_isi rfl z_isinstance PyProof.Rows.boot_isinstance (pa_cons (pv 0) (pa_cons (pe_bltn (v := .ty "int") rfl z_int PyProof.Rows.boot_int rfl) pa_nil))) (pe_one (pe_not (pe_callB call_isi rfl z_isinstance PyProof.Rows.boot_isinstance (pa_cons (pv 0) (pa_cons (pe_bltn (v := .ty "bool") rfl z_bool PyProof.Rows.boot_bool rfl) pa_nil)))))))), ?_⟩
  refine ⟨_, rfl, _, _, _, _, rfl, nnt, hd.ty, kit_intD K d hd.nodict, _, rfl, ite2 (fun c => ⟨_, rfl, _, _, _, _, rfl, nnt, hd.ty, kit_boolD K d hd.nodict, _, rfl, ?_⟩) (fun c => ?_)⟩
  · rw [c, Bool.true_and] at q; exact q
  · rw [Bool.eq_false_iff.mpr c, Bool.false_and] at q; exact q
theorem sc_is_fraction : FnScope ["thing"] ["thing"] (defScope s_is_fraction) := ⟨rfl, rfl, rfl, by decide +kernel, rfl, by decide +kernel, by decide +kernel⟩
theorem ok_is_fraction (F : Fn K mg "is_fraction" s_is_fraction ["thing"] f fd) (T_is_whole : Fn K mg "is_whole" s_is_whole ["thing"] g1 gd1) (T_greatest_divisor : Fn K mg "greatest_divisor" s_greatest_divisor ["one", "other"] g2 gd2)
    (G_is_whole : FnOk P w K mg base CX0 1 g1 gd1 ["thing"] spIsWh) (G_greatest_divisor : FnOk P w K mg base CX0 1 g2 gd2 ["one", "other"] spGd) (z_isinstance : mg "isinstance" = none) (z_tuple : mg "tuple" = none) (z_len : mg "len" = none) : FnOk P w K mg base CX0 2 f fd ["thing"] spIsFr := by
  have sc := sc_is_fraction
  refine F.F.ok (k := 1) sc (fun vs H Q E h => ?_) (fun cdv A outer s H vs Q E hr h => ?_)
  · obtain ⟨l, d, v, rfl, _⟩ := h
    rfl
  obtain ⟨l, d, v, rfl, hd, q⟩ := h
  refine ⟨_, (pss_cons (ps_if (PW.pt (pw_or (pt_not (pt_val (pe_callB call_isi rfl z_isinstance PyProof.Rows.boot_isinstance (pa_cons (pv 0) (pa_cons (pe_bltn (v := .ty "tuple") rfl z_tuple PyProof.Rows.boot_tuple rfl) pa_nil))))) (pw_or1 (pt_cmpR op_ne (pe_callB call_len_seq rfl z_len PySem.boot_len (pa_cons (pv 0) pa_nil)) pe_int (nomark _)))))
    (pss_one (ps_ret pe_bl))
    pss_nil)
  (pss_cons (ps_if (PW.pt (pw_or (pt_not (pt_val (pe_fn T_is_whole G_is_whole hr rfl (pa_cons (pe_ix ix_tup (pv 0) pe_int (fun _ _ => rfl)) pa_nil)))) (pw_or1 (pt_not (pt_val (pe_fn T_is_whole G_is_whole hr rfl (pa_cons (pe_ix ix_tup (pv 0) pe_int (fun _ _ => rfl)) pa_nil)))))))
    (pss_one (ps_ret pe_bl))
    pss_nil)
  (pss_one (ps_ret (pe_and (pe_cmpR op_ge (pe_ix ix_tup (pv 0) pe_int (fun _ _ => rfl)) pe_int (nomark _)) (pe_one (pe_cmpR op_eq (pe_fn T_greatest_divisor G_greatest_divisor hr rfl (pa_cons (pe_ix ix_tup (pv 0) pe_int (fun _ _ => rfl)) (pa_cons (pe_ix ix_tup (pv 0) pe_int (fun _ _ => rfl)) pa_nil))) pe_int (nomark _)))))))), ?_⟩
  refine ⟨_, rfl, _, _, _, _, rfl, nnt, hd.ty, kit_tupD K d hd.nodict, _, rfl, ?_⟩
  have no : isTupD d = false → isFrD d = false := fun z => by cases d <;> first | rfl | exact absurd z (by simp [isTupD])
  by_cases ht : isTupD d = true
  · rw [ht]
    obtain ⟨ds, rfl⟩ : ∃ ds, d = .tuple ds := by cases d <;> first | exact ⟨_, rfl⟩ | exact absurd ht (by simp [isTupD])
    rw [Dt] at hd
    obtain ⟨a, xs, rfl, na, ha, hx⟩ := hd
    have hlen := hx.len
    have s1 : SqT K H a xs := SqT.of ha
    refine iteF ⟨_, rfl, a, xs, rfl, .inr s1, rfl, _, rfl, ite2 (fun c => ?_) (fun c => ?_)⟩
    · have : ds.length ≠ 2 := by
        rw [← hlen]
        intro z
        rw [z] at c
        exact absurd c (by decide)
      rw [isFrD_of (.inl this)] at q
      exact q
    · have h2 : xs.length = 2 := by
        by_cases z : xs.length = 2
        · exact z
        · exfalso
          refine c ?_
          have : ¬ (V.int (xs.length : Nat) = V.int 2) := by simp; omega
          rw [decide_eq_false this]; rfl
      obtain ⟨d0, d1, rfl⟩ : ∃ d0 d1, ds = [d0, d1] := by
        match ds, (show ds.length = 2 by omega) with
        | [x, y], _ => exact ⟨x, y, rfl⟩
      rw [DtAll] at hx
      obtain ⟨x0, r, rfl, hx0, hx⟩ := hx
      rw [DtAll] at hx
      obtain ⟨x1, r, rfl, hx1, hx⟩ := hx
      rw [DtAll] at hx
      subst hx
      refine ⟨_, rfl, _, _, _, _, rfl, rfl, s1, rfl, l, d0, x0, rfl, hx0, _, rfl, ite2 (fun c0 => ?_) (fun c0 => ?_)⟩
      · rw [isFrD_of (.inr ⟨d0, d1, rfl, .inl (by simp at c0; rcases c0 with c | c <;> simp [c])⟩)] at q
        exact q
      refine ⟨_, rfl, _, _, _, _, rfl, rfl, s1, rfl, l, d1, x1, rfl, hx1, _, rfl, ite2 (fun c1 => ?_) (fun c1 => ?_)⟩
      · rw [isFrD_of (.inr ⟨d0, d1, rfl, .inr (by simp at c1; rcases c1 with c | c <;> simp [c])⟩)] at q
        exact q
      obtain ⟨i, rfl⟩ := whole_int (d := d0) (by simpa using c0)
      obtain ⟨j, rfl⟩ := whole_int (d := d1) (by simpa using c1)
      rw [Dt] at hx0 hx1
      subst hx0 hx1
      refine ⟨_, rfl, _, _, _, _, rfl, rfl, s1, rfl, _, _, rfl, rfl, _, rfl, ite2 (fun c => ?_) (fun c => ?_)⟩
      · refine ⟨_, rfl, _, _, _, _, rfl, rfl, s1, rfl, _, rfl, _, _, _, _, rfl, rfl, s1, rfl, i, j, rfl, rfl, ?_⟩
        have hj : 1 ≤ j := by have := of_decide_eq_true c; omega
        have e : isFrD (.tuple [.int i, .int j]) = decide (V.int (FM.gi i j) = V.int 1) := by
          rw [isFrD, decide_eq_true hj, Bool.true_and, Bool.eq_iff_iff]
          simp
        rw [e] at q
        exact q
      · have hj : ¬ 1 ≤ j := fun z => c (decide_eq_true (by omega))
        have e : isFrD (.tuple [.int i, .int j]) = false := by rw [isFrD, decide_eq_false hj, Bool.false_and]
        rw [e] at q
        exact q
  · rw [Bool.eq_false_iff.mpr ht]
    rw [no (Bool.eq_false_iff.mpr ht)] at q
    exact iteT (iteT q)
end
def leaf : PyData → Prop
  | .none => True
  | .bool _ => True
  | .int _ => True
  | .str x => PyData.strOk x = true
  | _ => False
def Sm : Nat → PyData → Prop
  | 0, d => leaf d
  | n + 1, d => leaf d ∨ ∃ ds, (d = .tuple ds ∨ d = .list ds) ∧ ds.length ≤ 64 ∧ ∀ e ∈ ds, Sm n e
theorem leaf.ok {n : Nat} : ∀ {d : PyData}, leaf d → Ok n d
  | .none, _ => .non
  | .bool _, _ => .bool
  | .int _, _ => .int
  | .str _, h => .str h
theorem leaf.sm {n : Nat} {d : PyData} (h : leaf d) : Sm n d := by
  cases n with
  | zero => exact h
  | succ n => exact .inl h
theorem Sm.ok : ∀ {n : Nat} {d : PyData}, Sm n d → Ok n d
  | 0, _, h => leaf.ok h
  | n + 1, d, h => by
    rcases h with h | ⟨ds, h1, _, h2⟩
    · exact h.ok
    · have := OkAll.of fun e he => (h2 e he).ok
      rcases h1 with rfl | rfl
      · exact .tup this
      · exact .lst this
theorem Sm.tup {n : Nat} {ds : List PyData} (h : ds.length ≤ 64) (k : ∀ e ∈ ds, Sm n e) : Sm (n + 1) (.tuple ds) := .inr ⟨ds, .inl rfl, h, k⟩
theorem Sm.lst {n : Nat} {ds : List PyData} (h : ds.length ≤ 64) (k : ∀ e ∈ ds, Sm n e) : Sm (n + 1) (.list ds) := .inr ⟨ds, .inr rfl, h, k⟩
mutual
theorem dt_two {c l : Addr} {H H' : Hp} (e : SameBut c H H') : ∀ {d : PyData} {v : V}, Dt c H d v → Dt l H d v → Dt l H' d v
  | .none, _, _, h => by rw [Dt] at h ⊢; exact h
  | .bool _, _, _, h => by rw [Dt] at h ⊢; exact h
  | .int _, _, _, h => by rw [Dt] at h ⊢; exact h
  | .str _, _, _, h => by rw [Dt] at h ⊢; exact h
  | .tuple _, _, k, h => by
    rw [Dt] at h k ⊢
    obtain ⟨a, xs, e1, n, h1, h2⟩ := h
    obtain ⟨a', xs', e1', n', h1', h2'⟩ := k
    subst e1
    cases e1'
    rw [h1] at h1'
    cases h1'
    exact ⟨a, xs, rfl, n, e _ _ n' h1, dtAll_two e h2' h2⟩
  | .list _, _, k, h => by
    rw [Dt] at h k ⊢
    obtain ⟨a, xs, e1, n, h1, h2⟩ := h
    obtain ⟨a', xs', e1', n', h1', h2'⟩ := k
    subst e1
    cases e1'
    rw [h1] at h1'
    cases h1'
    exact ⟨a, xs, rfl, n, e _ _ n' h1, dtAll_two e h2' h2⟩
  | .dict _, _, _, h => by rw [Dt] at h; exact h.elim
theorem dtAll_two {c l : Addr} {H H' : Hp} (e : SameBut c H H') : ∀ {ds : List PyData} {xs : List V}, DtAll c H ds xs → DtAll l H ds xs → DtAll l H' ds xs
  | [], _, _, h => by rw [DtAll] at h ⊢; exact h
  | _ :: _, _, k, h => by
    rw [DtAll] at h k ⊢
    obtain ⟨x, r, e1, h1, h2⟩ := h
    obtain ⟨x', r', e1', h1', h2'⟩ := k
    subst e1
    cases e1'
    exact ⟨x, r, rfl, dt_two e h1' h1, dtAll_two e h2' h2⟩
end
theorem _root_.L2.DtAll.two {c l : Addr} {H H' : Hp} (e : SameBut c H H') {d : List PyData} {v : List V} (h : DtAll c H d v) (k : DtAll l H d v) : DtAll l H' d v := dtAll_two e h k
theorem _root_.L2.DtAll.take {l : Addr} {H : Hp} {ds : List PyData} {d : PyData} {x : V} {i : Nat} {ys : List V} (h : DtAll l H (ds.take i) ys) (e : ds[i]? = some d) (k : Dt l H d x) : DtAll l H (ds.take (i + 1)) (ys ++ [x]) := by
  rw [List.take_succ, e]
  exact h.app (.cons k .nil)
section
variable {P : Program} {w : World} {K : PySem.W.Frag} {mg : Str → Option Value} {base : Heap} {f g g1 g2 g3 g4 g5 : Addr} {fd gd gd1 gd2 gd3 gd4 gd5 : FuncData}
end
def FrV (H : Hp) (v : V) : Prop := ∃ p a b, v = .ref p ∧ H p = some (.tup [.int a, .int b]) ∧ isFrD (.tuple [.int a, .int b]) = true
def spPartD : Sp := fun vs H Q _ => ∃ (l : Addr) (x : Int), vs = [.ref l] ∧ H l = some (.lst [.int x]) ∧ ∀ v H' y, SameBut l H H' → H' l = some (.lst [.int y]) → FrV H' v → Q v H'
theorem rat_fr (r : Rat) : isFrD (.tuple [.int r.num, .int (r.den : Int)]) = true := by
  have h := r.den_nz
  have k := r.reduced
  rw [isFrD, decide_eq_true (show (1 : Int) ≤ (r.den : Int) by omega), Bool.true_and]
  rw [beq_iff_eq]
  unfold FM.gi
  unfold Nat.Coprime at k
  rw [show r.num.gcd (r.den : Int) = 1 from k]
  rfl
theorem sz60 {i n : Nat} (h : i < n) (hn : n ≤ 60) : i < sizeLine := Nat.lt_of_lt_of_le (show i < 60 by omega) (by rw [sizeLine_eq]; decide)
theorem sz60' {n : Nat} (hn : n ≤ 60) : n ≤ sizeLine := Nat.le_trans hn (by rw [sizeLine_eq]; decide)
section
variable {P : Program} {w : World} {K : PySem.W.Frag} {mg : Str → Option Value} {base : Heap} {f g g1 g2 g3 g4 g5 : Addr} {fd gd gd1 gd2 gd3 gd4 gd5 : FuncData}
theorem sc__law_part : FnScope ["_law_pile", "_law_top"] ["_law_pile"] (defScope s__law_part) := ⟨rfl, rfl, rfl, by decide +kernel, rfl, by decide +kernel, by decide +kernel⟩
theorem ok__law_part (F : Fn K mg "_law_part" s__law_part ["_law_pile"] f fd) (T__law_take : Fn K mg "_law_take" s__law_take ["_law_pile", "_law_size"] g1 gd1) (T__law_frac : Fn K mg "_law_frac" s__law_frac ["_law_top", "_law_bottom"] g2 gd2)
    (G__law_take : FnOk P w K mg base CX0 2 g1 gd1 ["_law_pile", "_law_size"] spTake) (G__law_frac : FnOk P w K mg base CX0 2 g2 gd2 ["_law_top", "_law_bottom"] spFr) : FnOk P w K mg base CX0 3 f fd ["_law_pile"] spPartD := by
  have sc := sc__law_part
  refine F.F.ok (k := 2) sc (fun vs H Q E h => ?_) (fun cdv A outer s H vs Q E hr h => ?_)
  · obtain ⟨l, x, rfl, _⟩ := h
    rfl
  obtain ⟨l, x, rfl, hl, q⟩ := h
  refine ⟨_, (pss_cons (ps_set (i := 1) sc.nd rfl (Or.inl rfl) (pe_op op_sub (pe_fn T__law_take G__law_take hr rfl (pa_cons (pv 0) (pa_cons pe_int pa_nil))) pe_int))
  (pss_one (ps_ret (pe_fn T__law_frac G__law_frac hr rfl (pa_cons (pv 1) (pa_cons (pe_op op_add pe_int (pe_fn T__law_take G__law_take hr rfl (pa_cons (pv 0) (pa_cons pe_int pa_nil)))) pa_nil)))))), ?_⟩
  refine ⟨_, rfl, l, x, 13, rfl, hl, by decide, by decide, fun i y i0 i1 => ⟨_, _, rfl, rfl, ?_⟩⟩
  refine ⟨_, rfl, _, rfl, l, y, 6, rfl, upd_same, by decide, by decide, fun j z j0 j1 => ⟨_, _, rfl, rfl, ?_⟩⟩
  refine ⟨i - 6, 1 + j, 8, rfl, by omega, by decide, by omega, fun p H' e hp => ?_⟩
  exact q _ H' z ((SameBut.upd.trans SameBut.upd).trans (.of e)) (e _ _ upd_same) ⟨p, _, _, rfl, hp, rat_fr _⟩
end
def powI : PyData → Bool
  | .int i => decide (0 ≤ i)
  | _ => false
def powD (n : Int) : PyData → Bool
  | .tuple ds => decide ((ds.length : Int) = n) && ds.all powI
  | _ => false
def topD : PyData → Int
  | .tuple (.int a :: _) => a
  | _ => 0
def termD (n : Int) : PyData → Bool
  | .tuple [p, f] => powD n p && (isFrD f && !decide (topD f = 0))
  | _ => false
def intD : PyData → Int
  | .int i => i
  | _ => 0
def intsD : PyData → List Int
  | .tuple ds => ds.map intD
  | _ => []
def pwD : PyData → List Int
  | .tuple (p :: _) => intsD p
  | _ => []
def termAt (n : Int) (ds : List PyData) (k : Nat) : Bool := match ds[k]? with
  | some d => termD n d && (decide (k = 0) || (match ds[k - 1]? with
    | some e => IT.lt (pwD d) (pwD e)
    | none => true))
  | none => true
def polyD (n : Int) : PyData → Bool
  | .list ds => (List.range ds.length).all (termAt n ds)
  | _ => false
def chgD : PyData → Bool
  | .list ds => !decide (ds.length = 0) && ds.all (polyD ds.length)
  | _ => false
theorem isLst_of {d : PyData} (h : isLstD d = true) : ∃ ds, d = .list ds := by cases d <;> first | exact ⟨_, rfl⟩ | exact absurd h (by simp [isLstD])
theorem isTup_of {d : PyData} (h : isTupD d = true) : ∃ ds, d = .tuple ds := by cases d <;> first | exact ⟨_, rfl⟩ | exact absurd h (by simp [isTupD])
theorem powD_no {n : Int} {d : PyData} (h : isTupD d = false) : powD n d = false := by cases d <;> first | rfl | exact absurd h (by simp [isTupD])
theorem termD_no {n : Int} {d : PyData} (h : isTupD d = false) : termD n d = false := by cases d <;> first | rfl | exact absurd h (by simp [isTupD])
theorem polyD_no {n : Int} {d : PyData} (h : isLstD d = false) : polyD n d = false := by cases d <;> first | rfl | exact absurd h (by simp [isLstD])
theorem chgD_no {d : PyData} (h : isLstD d = false) : chgD d = false := by cases d <;> first | rfl | exact absurd h (by simp [isLstD])
theorem termD_len {n : Int} {ds : List PyData} (h : ds.length ≠ 2) : termD n (.tuple ds) = false := by
  match ds, h with
  | [], _ => rfl
  | [_], _ => rfl
  | [_, _], h => exact absurd rfl h
  | _ :: _ :: _ :: _, _ => rfl
def spPw : Sp := fun vs H Q _ => ∃ l d v n, vs = [v, .int n] ∧ Dt l H d v ∧ Q (.bl (powD n d)) H
def spTm : Sp := fun vs H Q _ => ∃ l d v n, vs = [v, .int n] ∧ Dt l H d v ∧ Q (.bl (termD n d)) H
def spPo : Sp := fun vs H Q _ => ∃ l d v n, vs = [v, .int n] ∧ Dt l H d v ∧ ∀ H', Same H H' → Q (.bl (polyD n d)) H'
def spChg : Sp := fun vs H Q _ => ∃ l d v, vs = [v] ∧ Dt l H d v ∧ ∀ H', Same H H' → Q (.bl (chgD d)) H'
section
variable {P : Program} {w : World} {K : PySem.W.Frag} {mg : Str → Option Value} {base : Heap} {f g g1 g2 g3 g4 g5 : Addr} {fd gd gd1 gd2 gd3 gd4 gd5 : FuncData}
theorem sc_are_powers : FnScope ["thing", "unknowns", "power"] ["thing", "unknowns"] (defScope s_are_powers) := ⟨rfl, rfl, rfl, by decide +kernel, rfl, by decide +kernel, by decide +kernel⟩
theorem ok_are_powers (F : Fn K mg "are_powers" s_are_powers ["thing", "unknowns"] f fd) (T_is_whole : Fn K mg "is_whole" s_is_whole ["thing"] g1 gd1)
    (G_is_whole : FnOk P w K mg base CX0 1 g1 gd1 ["thing"] spIsWh) (z_isinstance : mg "isinstance" = none) (z_tuple : mg "tuple" = none) (z_len : mg "len" = none) : FnOk P w K mg base CX0 2 f fd ["thing", "unknowns"] spPw := by
  have sc := sc_are_powers
  refine F.F.ok (k := 1) sc (fun vs H Q E h => ?_) (fun cdv A outer s H vs Q E hr h => ?_)
  · obtain ⟨l, d, v, n, rfl, _⟩ := h
    rfl
  obtain ⟨l, d, v, n, rfl, hd, q⟩ := h
  refine ⟨_, (pss_cons (ps_if (PW.pt (pw_or (pt_not (pt_val (pe_callB call_isi rfl z_isinstance PyProof.Rows.boot_isinstance (pa_cons (pv 0) (pa_cons (pe_bltn (v := .ty "tuple") rfl z_tuple PyProof.Rows.boot_tuple rfl) pa_nil))))) (pw_or1 (pt_cmpR op_ne (pe_callB call_len_seq rfl z_len PySem.boot_len (pa_cons (pv 0) pa_nil)) (pv 1) (nomark _)))))
    (pss_one (ps_ret pe_bl))
    pss_nil)
  (pss_cons (ps_for PassesOwn.never rfl (pi_tup (pv 0)) (pg_name (i := 2) sc.nd rfl (Or.inl rfl))
    (pss_one (ps_if (PW.pt (pw_or (pt_not (pt_val (pe_fn T_is_whole G_is_whole hr rfl (pa_cons (pv 2) pa_nil)))) (pw_or1 (pt_cmpR op_lt (pv 2) pe_int (nomark _)))))
      (pss_one (ps_ret pe_bl))
      pss_nil)))
  (pss_one (ps_ret pe_bl)))), ?_⟩
  refine ⟨_, rfl, _, _, _, _, rfl, nnt, hd.ty, kit_tupD K d hd.nodict, _, rfl, ?_⟩
  by_cases hL : isTupD d = false
  · rw [hL]
    rw [powD_no hL] at q
    exact iteT (iteT q)
  have hL : isTupD d = true := by simpa using hL
  rw [hL]
  refine iteF ?_
  obtain ⟨ds, rfl⟩ := isTup_of hL
  rw [Dt] at hd
  obtain ⟨a, xs, rfl, na, ha, ht⟩ := hd
  have hlen := ht.len
  refine ⟨_, rfl, a, xs, rfl, .inr (SqT.of ha), _, rfl, rfl, _, rfl, ite2 (fun c => ?_) (fun c => ?_)⟩
  · have hne : ¬ (ds.length : Int) = n := by
      rw [← hlen]
      intro z
      rw [z] at c
      simp at c
    rw [powD, decide_eq_false hne, Bool.false_and] at q
    exact q
  have hn : (ds.length : Int) = n := by
    rw [← hlen]
    by_cases z : (xs.length : Int) = n
    · exact z
    · exact absurd (by simp [z]) c
  rw [powD, decide_eq_true hn, Bool.true_and] at q
  refine ⟨_, rfl, a, rfl, ⟨_, SqT.of ha⟩, for_tup (xs := xs) (fun i σ H' => ∃ r1, σ = [some (.ref a), some (.int n), r1] ∧ H = H' ∧ ∀ j c, j < i → ds[j]? = some c → powI c = true) ?_ ?_ ?_ ?_⟩
  · exact ⟨_, rfl, rfl, fun j c h => absurd h (Nat.not_lt_zero _)⟩
  · rintro i σ H' _ ⟨r1, rfl, rfl, _⟩
    exact SqT.of ha
  · rintro i x σ H' hx ⟨r1, rfl, rfl, hf⟩
    obtain ⟨c, hc, tc⟩ := ht.get hx
    have no : powI c = false → ds.all powI = false := fun z => Bool.eq_false_iff.mpr fun y => by
      rw [List.all_eq_true] at y
      rw [y c (List.mem_of_getElem? hc)] at z
      cases z
    have next : powI c = true → ∃ r1, [some (V.ref a), some (V.int n), some x] = [some (.ref a), some (.int n), r1] ∧ H = H ∧ ∀ j c, j < i + 1 → ds[j]? = some c → powI c = true := fun hb => by
      refine ⟨_, rfl, rfl, fun j e hj he => ?_⟩
      by_cases z : j = i
      · subst z; rw [hc] at he; cases he; exact hb
      · exact hf j e (by omega) he
    refine ⟨_, rfl, l, c, x, rfl, tc, _, rfl, ite2 (fun b => ?_) (fun b => ?_)⟩
    · have : powI c = false := by cases c <;> first | rfl | (simp [isIntD, isBoolD] at b)
      rw [no this] at q
      exact iteT q
    · obtain ⟨i', rfl⟩ := whole_int (d := c) (by simpa using b)
      rw [Dt] at tc
      subst tc
      refine ⟨_, rfl, _, _, rfl, rfl, _, rfl, ite2 (fun b => ?_) (fun b => ?_)⟩
      · have : powI (.int i') = false := by
          have := of_decide_eq_true b
          rw [powI]; exact decide_eq_false (by omega)
        rw [no this] at q
        exact q
      · have : powI (.int i') = true := by
          have := of_decide_eq_false (Bool.eq_false_iff.mpr b)
          rw [powI]; exact decide_eq_true (by omega)
        exact next this
  · rintro σ H' ⟨r1, rfl, rfl, hf⟩
    have e : ds.all powI = true := by
      rw [List.all_eq_true]
      intro c hc
      obtain ⟨j, hj⟩ := List.getElem?_of_mem hc
      exact hf j c (by rw [hlen]; exact (List.getElem?_eq_some_iff.mp hj).1) hj
    rw [e] at q
    exact q
theorem sc_is_term : FnScope ["thing", "unknowns"] ["thing", "unknowns"] (defScope s_is_term) := ⟨rfl, rfl, rfl, by decide +kernel, rfl, by decide +kernel, by decide +kernel⟩
theorem ok_is_term (F : Fn K mg "is_term" s_is_term ["thing", "unknowns"] f fd) (T_are_powers : Fn K mg "are_powers" s_are_powers ["thing", "unknowns"] g1 gd1) (T_is_fraction : Fn K mg "is_fraction" s_is_fraction ["thing"] g2 gd2)
    (G_are_powers : FnOk P w K mg base CX0 2 g1 gd1 ["thing", "unknowns"] spPw) (G_is_fraction : FnOk P w K mg base CX0 2 g2 gd2 ["thing"] spIsFr) (z_isinstance : mg "isinstance" = none) (z_tuple : mg "tuple" = none) (z_len : mg "len" = none) : FnOk P w K mg base CX0 3 f fd ["thing", "unknowns"] spTm := by
  have sc := sc_is_term
  refine F.F.ok (k := 2) sc (fun vs H Q E h => ?_) (fun cdv A outer s H vs Q E hr h => ?_)
  · obtain ⟨l, d, v, n, rfl, _⟩ := h
    rfl
  obtain ⟨l, d, v, n, rfl, hd, q⟩ := h
  refine ⟨_, (pss_cons (ps_if (PW.pt (pw_or (pt_not (pt_val (pe_callB call_isi rfl z_isinstance PyProof.Rows.boot_isinstance (pa_cons (pv 0) (pa_cons (pe_bltn (v := .ty "tuple") rfl z_tuple PyProof.Rows.boot_tuple rfl) pa_nil))))) (pw_or (pt_cmpR op_ne (pe_callB call_len_seq rfl z_len PySem.boot_len (pa_cons (pv 0) pa_nil)) pe_int (nomark _)) (pw_or1 (pt_not (pt_val (pe_fn T_are_powers G_are_powers hr rfl (pa_cons (pe_ix ix_tup (pv 0) pe_int (fun _ _ => rfl)) (pa_cons (pv 1) pa_nil)))))))))
    (pss_one (ps_ret pe_bl))
    pss_nil)
  (pss_one (ps_ret (pe_and (pe_fn T_is_fraction G_is_fraction hr rfl (pa_cons (pe_ix ix_tup (pv 0) pe_int (fun _ _ => rfl)) pa_nil)) (pe_one (pe_cmpR op_ne (pe_ix ix_tup (pe_ix ix_tup (pv 0) pe_int (fun _ _ => rfl)) pe_int (fun _ _ => rfl)) pe_int (nomark _))))))), ?_⟩
  refine ⟨_, rfl, _, _, _, _, rfl, nnt, hd.ty, kit_tupD K d hd.nodict, _, rfl, ?_⟩
  by_cases hL : isTupD d = false
  · rw [hL]
    rw [termD_no hL] at q
    exact iteT (iteT q)
  have hL : isTupD d = true := by simpa using hL
  rw [hL]
  refine iteF ?_
  obtain ⟨ds, rfl⟩ := isTup_of hL
  rw [Dt] at hd
  obtain ⟨a, xs, rfl, na, ha, hx⟩ := hd
  have hlen := hx.len
  have s1 : SqT K H a xs := SqT.of ha
  refine ⟨_, rfl, a, xs, rfl, .inr s1, rfl, _, rfl, ite2 (fun c => ?_) (fun c => ?_)⟩
  · have : ds.length ≠ 2 := by
      rw [← hlen]
      intro z
      rw [z] at c
      exact absurd c (by decide)
    rw [termD_len this] at q
    exact iteT q
  have h2 : xs.length = 2 := by
    by_cases z : xs.length = 2
    · exact z
    · exfalso
      refine c ?_
      have : ¬ (V.int (xs.length : Nat) = V.int 2) := by simp; omega
      rw [decide_eq_false this]; rfl
  obtain ⟨d0, d1, rfl⟩ : ∃ d0 d1, ds = [d0, d1] := by
    match ds, (show ds.length = 2 by omega) with
    | [x, y], _ => exact ⟨x, y, rfl⟩
  rw [DtAll] at hx
  obtain ⟨x0, r, rfl, hx0, hx⟩ := hx
  rw [DtAll] at hx
  obtain ⟨x1, r, rfl, hx1, hx⟩ := hx
  rw [DtAll] at hx
  subst hx
  rw [termD] at q
  refine ⟨_, rfl, _, _, _, _, rfl, rfl, s1, rfl, _, rfl, l, d0, x0, n, rfl, hx0, _, rfl, ite2 (fun c0 => ?_) (fun c0 => ?_)⟩
  · have : powD n d0 = false := by simpa using c0
    rw [this, Bool.false_and] at q
    exact q
  have hp : powD n d0 = true := by simpa using c0
  rw [hp, Bool.true_and] at q
  refine ⟨_, rfl, _, _, _, _, rfl, rfl, s1, rfl, l, d1, x1, rfl, hx1, _, rfl, ite2 (fun c1 => ?_) (fun c1 => ?_)⟩
  · rw [c1, Bool.true_and] at q
    obtain ⟨i, j, rfl⟩ : ∃ i j, d1 = .tuple [.int i, .int j] := by
      unfold isFrD at c1
      split at c1
      · exact ⟨_, _, rfl⟩
      · cases c1
    rw [Dt] at hx1
    obtain ⟨b, ys, rfl, nb, hb, hy⟩ := hx1
    rw [DtAll] at hy
    obtain ⟨y0, r, rfl, hy0, hy⟩ := hy
    rw [DtAll] at hy
    obtain ⟨y1, r, rfl, hy1, hy⟩ := hy
    rw [DtAll] at hy
    subst hy
    rw [Dt] at hy0
    subst hy0
    refine ⟨_, rfl, _, _, _, _, rfl, rfl, s1, rfl, _, _, _, _, rfl, rfl, SqT.of hb, rfl, rfl, ?_⟩
    rw [topD] at q
    have e : decide (V.int i = V.int 0) = decide (i = 0) := by rw [Bool.eq_iff_iff]; simp
    show Q (.bl (!decide (V.int i = V.int 0))) H
    rw [e]
    exact q
  · rw [Bool.eq_false_iff.mpr c1, Bool.false_and] at q
    exact q
theorem sc_is_poly : FnScope ["thing", "unknowns", "k", "term"] ["thing", "unknowns"] (defScope s_is_poly) := ⟨rfl, rfl, rfl, by decide +kernel, rfl, by decide +kernel, by decide +kernel⟩
theorem powD_ints {l : Addr} {H : Hp} {n : Int} {d : PyData} {v : V} (h : Dt l H d v) (k : powD n d = true) : ∃ a, v = .ref a ∧ H a = some (.tup ((intsD d).map V.int)) := by
  cases d with
  | tuple ds =>
    rw [powD, Bool.and_eq_true] at k
    rw [Dt] at h
    obtain ⟨a, xs, rfl, na, ha, hx⟩ := h
    refine ⟨a, rfl, ?_⟩
    rw [ha]
    congr 2
    rw [intsD]
    clear ha
    replace k := k.2
    induction ds generalizing xs with
    | nil => rw [DtAll] at hx; subst hx; rfl
    | cons d ds ih =>
      rw [DtAll] at hx
      obtain ⟨x, r, rfl, h1, h2⟩ := hx
      rw [List.all_cons, Bool.and_eq_true] at k
      rw [List.map_cons, List.map_cons, ← ih r h2 k.2]
      congr 1
      cases d <;> first | (rw [Dt] at h1; subst h1; rfl) | (have := k.1; simp [powI] at this)
  | none => simp [powD] at k
  | bool _ => simp [powD] at k
  | int _ => simp [powD] at k
  | str _ => simp [powD] at k
  | list _ => simp [powD] at k
  | dict _ => simp [powD] at k
theorem termD_pw {l : Addr} {H : Hp} {n : Int} {d : PyData} {v : V} (h : Dt l H d v) (k : termD n d = true) : ∃ a b c, v = .ref a ∧ H a = some (.tup [.ref b, c]) ∧ H b = some (.tup ((pwD d).map V.int)) := by
  unfold termD at k
  split at k
  · rename_i p f
    rw [Bool.and_eq_true] at k
    rw [Dt] at h
    obtain ⟨a, xs, rfl, na, ha, hx⟩ := h
    rw [DtAll] at hx
    obtain ⟨x0, r, rfl, hx0, hx⟩ := hx
    rw [DtAll] at hx
    obtain ⟨x1, r, rfl, hx1, hx⟩ := hx
    rw [DtAll] at hx
    subst hx
    obtain ⟨b, rfl, hb⟩ := powD_ints hx0 k.1
    exact ⟨a, b, x1, rfl, ha, hb⟩
  · cases k
theorem ok_is_poly (F : Fn K mg "is_poly" s_is_poly ["thing", "unknowns"] f fd) (T_is_term : Fn K mg "is_term" s_is_term ["thing", "unknowns"] g1 gd1)
    (G_is_term : FnOk P w K mg base CX0 3 g1 gd1 ["thing", "unknowns"] spTm) (z_isinstance : mg "isinstance" = none) (z_list : mg "list" = none) (z_enumerate : mg "enumerate" = none) : FnOk P w K mg base CX0 4 f fd ["thing", "unknowns"] spPo := by
  have sc := sc_is_poly
  refine F.F.ok (k := 3) sc (fun vs H Q E h => ?_) (fun cdv A outer s H vs Q E hr h => ?_)
  · obtain ⟨l, d, v, n, rfl, _⟩ := h
    rfl
  obtain ⟨l, d, v, n, rfl, hd, q⟩ := h
  refine ⟨_, (pss_cons (ps_if (pt_not (pt_val (pe_callB call_isi rfl z_isinstance PyProof.Rows.boot_isinstance (pa_cons (pv 0) (pa_cons (pe_bltn (v := .ty "list") rfl z_list PyProof.Rows.boot_list rfl) pa_nil)))))
    (pss_one (ps_ret pe_bl))
    pss_nil)
  (pss_cons (ps_for PassesOwn.never rfl (pi_enumL rfl z_enumerate (pa_cons (pv 0) pa_nil)) (pg_tup rfl (pgs_cons (pg_name (i := 2) sc.nd rfl (Or.inl rfl)) (pgs_cons (pg_name (i := 3) sc.nd rfl (Or.inl rfl)) pgs_nil)))
    (pss_one (ps_if (PW.pt (pw_or (pt_not (pt_val (pe_fn T_is_term G_is_term hr rfl (pa_cons (pv 3) (pa_cons (pv 1) pa_nil))))) (pw_or1 (PW.pt (pw_and (pt_cmpR op_gt (pv 2) pe_int (nomark _)) (pw_and1 (pt_cmpR (op_geT (by have := hr.units; exact this)) (pe_ix ix_tup (pv 3) pe_int (fun _ _ => rfl)) (pe_ix ix_tup (pe_ix ix_list (pv 0) (pe_op op_sub (pv 2) pe_int) (fun _ _ => rfl)) pe_int (fun _ _ => rfl)) (nomark _))))))))
      (pss_one (ps_ret pe_bl))
      pss_nil)))
  (pss_one (ps_ret pe_bl)))), ?_⟩
  refine ⟨_, rfl, _, _, _, _, rfl, nnt, hd.ty, kit_lstD K d hd.nodict, _, rfl, ?_⟩
  by_cases hL : isLstD d = false
  · rw [hL]
    have := q H (.refl H)
    rw [polyD_no hL] at this
    exact iteT this
  have hL : isLstD d = true := by simpa using hL
  rw [hL]
  refine iteF ?_
  obtain ⟨ds, rfl⟩ := isLst_of hL
  rw [Dt] at hd
  obtain ⟨a, xs, rfl, na, ha, ht⟩ := hd
  have hlen := ht.len
  refine ⟨_, rfl, a, rfl, ⟨_, SqL.of ha⟩, for_enumL (xs := xs) (fun i σ H' => ∃ r1 r2, σ = [some (.ref a), some (.int n), r1, r2] ∧ Same H H' ∧ ∀ j, j < i → termAt n ds j = true) ?_ ?_ ?_ ?_⟩
  · exact ⟨_, _, rfl, .refl _, fun j h => absurd h (Nat.not_lt_zero _)⟩
  · rintro i σ H' _ ⟨r1, r2, rfl, e, _⟩
    exact SqL.of (e _ _ ha)
  · rintro i x σ H0 hx ⟨r1, r2, rfl, e0, hf⟩ p hp
    obtain ⟨c, hc, tc⟩ := ht.get hx
    have hi : i < ds.length := (List.getElem?_eq_some_iff.mp hc).1
    have s1 := same_new hp (.tup [.int (i : Nat), x])
    have e1 := e0.trans s1
    have hp' : (upd H0 p (.tup [.int (i : Nat), x])) p = some (.tup [.int (i : Nat), x]) := upd_same
    generalize upd H0 p (.tup [.int (i : Nat), x]) = H1 at s1 e1 hp'
    have tc := tc.same e1
    have no : termAt n ds i = false → Q (.bl false) H1 := fun z => by
      have := q H1 e1
      have e : polyD n (.list ds) = false := Bool.eq_false_iff.mpr fun y => by
        rw [polyD, List.all_eq_true] at y
        rw [y i (List.mem_range.mpr hi)] at z
        cases z
      rw [e] at this
      exact this
    have next : termAt n ds i = true → ∃ r1 r2, [some (V.ref a), some (V.int n), some (V.int (i : Nat)), some x] = [some (.ref a), some (.int n), r1, r2] ∧ Same H H1 ∧ ∀ j, j < i + 1 → termAt n ds j = true := fun z => by
      refine ⟨_, _, rfl, e1, fun j hj => ?_⟩
      by_cases zz : j = i
      · subst zz; exact z
      · exact hf j (by omega)
    have tA : termAt n ds i = (termD n c && (decide (i = 0) || (match ds[i - 1]? with
        | some e => IT.lt (pwD c) (pwD e)
        | none => true))) := by unfold termAt; rw [hc]
    refine ⟨p, _, rfl, SqT.of hp', rfl, _, _, rfl, _, _, rfl, rfl, ?_⟩
    refine ⟨_, rfl, _, rfl, l, c, x, n, rfl, tc, _, rfl, ite2 (fun b => ?_) (fun b => ?_)⟩
    · have hb : termD n c = false := by simpa using b
      exact iteT (no (by rw [tA, hb, Bool.false_and]))
    have hb : termD n c = true := by simpa using b
    rw [hb, Bool.true_and] at tA
    refine ⟨_, rfl, _, _, rfl, rfl, _, rfl, ite2 (fun b => ?_) (fun b => ?_)⟩
    · have hi0 : 0 < i := by have := of_decide_eq_true b; omega
      rw [decide_eq_false (show ¬ i = 0 by omega), Bool.false_or] at tA
      have hx' : xs[i - 1]? = some (xs[i - 1]'(by omega)) := by simp [show i - 1 < xs.length by omega]
      obtain ⟨e, he, te⟩ := ht.get hx'
      have hpe : termD n e = true := by
        have := hf (i - 1) (by omega)
        unfold termAt at this
        rw [he] at this
        rw [Bool.and_eq_true] at this
        exact this.1
      generalize xs[i - 1]'(by omega) = v1 at hx' te
      obtain ⟨a1, b1, c1, rfl, ha1, hb1⟩ := termD_pw (te.same e1) hpe
      obtain ⟨a2, b2, c2, rfl, ha2, hb2⟩ := termD_pw tc hb
      have hat : atI xs ((i : Int) - 1) = some (.ref a1) := by
        have := atI_nat (xs := xs) (j := i - 1) hx'
        rwa [show ((i - 1 : Nat) : Int) = (i : Int) - 1 by omega] at this
      rw [he] at tA
      refine ⟨_, rfl, _, _, _, _, rfl, rfl, SqT.of ha2, rfl, _, rfl, _, rfl, _, _, rfl, rfl, _, _, _, _, rfl, rfl, SqL.of (e1 _ _ ha), hat, _, _, _, _, rfl, rfl, SqT.of ha1, rfl, b2, b1, _, _, rfl, rfl, hb2, hb1, _, rfl, ite2 (fun z => ?_) (fun z => ?_)⟩
      · exact no (by rw [tA]; simpa using z)
      · exact next (by rw [tA]; simpa using z)
    · have hi0 : i = 0 := by have := of_decide_eq_false (Bool.eq_false_iff.mpr b); omega
      exact iteF (next (by rw [tA, decide_eq_true hi0, Bool.true_or]))
  · rintro σ H' ⟨r1, r2, rfl, e1, hf⟩
    have := q H' e1
    have e : polyD n (.list ds) = true := by
      rw [polyD, List.all_eq_true]
      intro j hj
      exact hf j (by rw [hlen]; exact List.mem_range.mp hj)
    rw [e] at this
    exact this
theorem sc_is_change : FnScope ["thing", "some"] ["thing"] (defScope s_is_change) := ⟨rfl, rfl, rfl, by decide +kernel, rfl, by decide +kernel, by decide +kernel⟩
theorem ok_is_change (F : Fn K mg "is_change" s_is_change ["thing"] f fd) (T_is_poly : Fn K mg "is_poly" s_is_poly ["thing", "unknowns"] g1 gd1)
    (G_is_poly : FnOk P w K mg base CX0 4 g1 gd1 ["thing", "unknowns"] spPo) (z_isinstance : mg "isinstance" = none) (z_list : mg "list" = none) (z_len : mg "len" = none) : FnOk P w K mg base CX0 5 f fd ["thing"] spChg := by
  have sc := sc_is_change
  refine F.F.ok (k := 4) sc (fun vs H Q E h => ?_) (fun cdv A outer s H vs Q E hr h => ?_)
  · obtain ⟨l, d, v, rfl, _⟩ := h
    rfl
  obtain ⟨l, d, v, rfl, hd, q⟩ := h
  refine ⟨_, (pss_cons (ps_if (PW.pt (pw_or (pt_not (pt_val (pe_callB call_isi rfl z_isinstance PyProof.Rows.boot_isinstance (pa_cons (pv 0) (pa_cons (pe_bltn (v := .ty "list") rfl z_list PyProof.Rows.boot_list rfl) pa_nil))))) (pw_or1 (pt_cmpR op_eq (pe_callB call_len_seq rfl z_len PySem.boot_len (pa_cons (pv 0) pa_nil)) pe_int (nomark _)))))
    (pss_one (ps_ret pe_bl))
    pss_nil)
  (pss_cons (ps_for PassesOwn.never rfl (pi_list (pv 0)) (pg_name (i := 1) sc.nd rfl (Or.inl rfl))
    (pss_one (ps_if (pt_not (pt_val (pe_fn T_is_poly G_is_poly hr rfl (pa_cons (pv 1) (pa_cons (pe_callB call_len_seq rfl z_len PySem.boot_len (pa_cons (pv 0) pa_nil)) pa_nil)))))
      (pss_one (ps_ret pe_bl))
      pss_nil)))
  (pss_one (ps_ret pe_bl)))), ?_⟩
  refine ⟨_, rfl, _, _, _, _, rfl, nnt, hd.ty, kit_lstD K d hd.nodict, _, rfl, ?_⟩
  by_cases hL : isLstD d = false
  · rw [hL]
    have := q H (.refl H)
    rw [chgD_no hL] at this
    exact iteT (iteT this)
  have hL : isLstD d = true := by simpa using hL
  rw [hL]
  refine iteF ?_
  obtain ⟨ds, rfl⟩ := isLst_of hL
  rw [Dt] at hd
  obtain ⟨a, xs, rfl, na, ha, ht⟩ := hd
  have hlen := ht.len
  refine ⟨_, rfl, a, xs, rfl, .inl (SqL.of ha), rfl, _, rfl, ite2 (fun c => ?_) (fun c => ?_)⟩
  · have : ds.length = 0 := by rw [← hlen]; have := of_decide_eq_true c; simpa using this
    have q := q H (.refl H)
    rw [chgD, decide_eq_true this, Bool.not_true, Bool.false_and] at q
    exact q
  have h0 : ¬ ds.length = 0 := by
    rw [← hlen]
    intro z
    exact c (by simp [z])
  rw [chgD, decide_eq_false h0, Bool.not_false, Bool.true_and] at q
  refine ⟨_, rfl, a, rfl, ⟨_, SqL.of ha⟩, for_list (xs := xs) (fun i σ H' => ∃ r1, σ = [some (.ref a), r1] ∧ Same H H' ∧ ∀ j c, j < i → ds[j]? = some c → polyD ds.length c = true) ?_ ?_ ?_ ?_⟩
  · exact ⟨_, rfl, .refl _, fun j c h => absurd h (Nat.not_lt_zero _)⟩
  · rintro i σ H' _ ⟨r1, rfl, e, _⟩
    exact SqL.of (e _ _ ha)
  · rintro i x σ H1 hx ⟨r1, rfl, e1, hf⟩
    obtain ⟨c, hc, tc⟩ := ht.get hx
    refine ⟨_, rfl, _, rfl, a, xs, rfl, .inl (SqL.of (e1 _ _ ha)), l, c, x, _, rfl, tc.same e1, fun H2 e2 => ⟨_, rfl, ite2 (fun b => ?_) (fun b => ?_)⟩⟩
    · have hb : polyD ds.length c = false := by rw [← hlen]; simpa using b
      have := q H2 (e1.trans e2)
      have e : ds.all (polyD ds.length) = false := Bool.eq_false_iff.mpr fun y => by
        rw [List.all_eq_true] at y
        rw [y c (List.mem_of_getElem? hc)] at hb
        cases hb
      rw [e] at this
      exact this
    · have hb : polyD ds.length c = true := by rw [← hlen]; simpa using b
      refine ⟨_, rfl, e1.trans e2, fun j e hj he => ?_⟩
      by_cases z : j = i
      · subst z; rw [hc] at he; cases he; exact hb
      · exact hf j e (by omega) he
  · rintro σ H' ⟨r1, rfl, e1, hf⟩
    have e : ds.all (polyD ds.length) = true := by
      rw [List.all_eq_true]
      intro c hc
      obtain ⟨j, hj⟩ := List.getElem?_of_mem hc
      exact hf j c (by rw [hlen]; exact (List.getElem?_eq_some_iff.mp hj).1) hj
    have := q H' e1
    rw [e] at this
    exact this
end
def TmOk (many : Nat) (t : IT.Tm) : Prop := t.1.length = many ∧ (∀ p ∈ t.1, (0 : Int) ≤ p) ∧ ∃ a b : Int, t.2 = [a, b] ∧ a ≠ 0 ∧ isFrD (.tuple [.int a, .int b]) = true
def tmD (t : IT.Tm) : PyData := .tuple [.tuple (t.1.map .int), .tuple (t.2.map .int)]
def PolyOk (many : Nat) (us : List IT.Tm) : Prop := us.length ≤ 12 ∧ (∀ t ∈ us, TmOk many t) ∧ us.Pairwise (fun x y => IT.lt y.1 x.1 = true)
theorem all_powI : ∀ {ps : List Int}, (∀ p ∈ ps, (0 : Int) ≤ p) → (ps.map PyData.int).all powI = true
  | [], _ => rfl
  | p :: ps, h => by
    rw [List.map_cons, List.all_cons, all_powI (fun q hq => h q (List.mem_cons_of_mem _ hq)), Bool.and_true, powI]
    exact decide_eq_true (h p List.mem_cons_self)
theorem TmOk.is {many : Nat} {t : IT.Tm} (h : TmOk many t) : termD many (tmD t) = true := by
  obtain ⟨h1, h2, a, b, h3, h4, h5⟩ := h
  rw [tmD, termD, powD, all_powI h2, List.length_map, decide_eq_true (by rw [h1]), h3]
  show (true && true && (isFrD (.tuple [.int a, .int b]) && !decide (a = 0))) = true
  rw [h5, decide_eq_false h4]; rfl
theorem map_intD : ∀ ps : List Int, (ps.map PyData.int).map intD = ps
  | [] => rfl
  | p :: ps => by rw [List.map_cons, List.map_cons, map_intD ps, intD]
theorem pwD_tm (t : IT.Tm) : pwD (tmD t) = t.1 := by rw [tmD, pwD, intsD, map_intD]
theorem PolyOk.is {many : Nat} {us : List IT.Tm} (h : PolyOk many us) : polyD many (.list (us.map tmD)) = true := by
  obtain ⟨_, h1, h2⟩ := h
  rw [polyD, List.all_eq_true]
  intro k hk
  rw [List.mem_range, List.length_map] at hk
  unfold termAt
  rw [List.getElem?_map, List.getElem?_eq_getElem hk, Option.map_some]
  simp only
  rw [(h1 _ (List.getElem_mem hk)).is, Bool.true_and]
  by_cases z : k = 0
  · rw [decide_eq_true z, Bool.true_or]
  · rw [List.getElem?_map, List.getElem?_eq_getElem (show k - 1 < us.length by omega), Option.map_some]
    simp only
    rw [pwD_tm, pwD_tm, List.pairwise_iff_getElem.mp h2 (k - 1) k (by omega) hk (by omega), Bool.or_true]
theorem mem_putK {κ : Type} [DecidableEq κ] {kvs : List (κ × V)} {k : κ} {v : V} {x : κ × V} (h : x ∈ putK kvs k v) : x ∈ kvs ∨ x = (k, v) := by
  unfold putK at h
  split at h
  · obtain ⟨y, hy, e⟩ := List.mem_map.mp h
    split at e
    · rename_i z
      right; rw [← e, ← z]
    · left; rw [← e]; exact hy
  · rcases List.mem_append.mp h with h | h
    · exact .inl h
    · exact .inr (List.mem_singleton.mp h)
theorem nodup_putK {κ : Type} [DecidableEq κ] {kvs : List (κ × V)} {k : κ} (v : V) (h : (kvs.map (·.1)).Nodup) : ((putK kvs k v).map (·.1)).Nodup := by
  cases e : valV kvs k with
  | none => exact nd_putK v h e
  | some y =>
    unfold putK
    rw [valV_any, e, if_pos (show (some y).isSome = true from rfl), List.map_map]
    have : (kvs.map ((fun x : κ × V => x.1) ∘ fun kv => if kv.1 = k then (kv.1, v) else kv)) = kvs.map (·.1) := by
      apply List.map_congr_left
      intro x _
      simp only [Function.comp]
      split <;> rfl
    rw [this]; exact h
def KvOk (many : Nat) (H : Hp) (kv : List Key × V) : Prop := ∃ t : IT.Tm, kv.1 = t.1.map Sum.inl ∧ (∃ c, kv.2 = .ref c ∧ H c = some (.tup (t.2.map V.int))) ∧ TmOk many t
theorem KvOk.step {many : Nat} {H H' : Hp} {kv : List Key × V} (e : ∀ c ys, H c = some (.tup ys) → H' c = some (.tup ys)) (h : KvOk many H kv) : KvOk many H' kv := by
  obtain ⟨t, h1, ⟨c, h2, h3⟩, h4⟩ := h
  exact ⟨t, h1, ⟨c, h2, e _ _ h3⟩, h4⟩
theorem kvs_terms {many : Nat} {H : Hp} : ∀ {kvs : List (List Key × V)}, (∀ kv ∈ kvs, KvOk many H kv) → ∃ ts : List IT.Tm, ts.length = kvs.length ∧ (∀ t ∈ ts, TmOk many t) ∧ kvs.map (·.1) = ts.map (fun t => t.1.map Sum.inl) ∧
    ∀ (j : Nat) k v t, kvs[j]? = some (k, v) → ts[j]? = some t → k = t.1.map Sum.inl ∧ ∃ c, v = .ref c ∧ H c = some (.tup (t.2.map V.int))
  | [], _ => ⟨[], rfl, fun _ z => (List.not_mem_nil z).elim, rfl, fun j k v t h => by simp at h⟩
  | kv :: kvs, h => by
    obtain ⟨ts, h1, h2, h3, h4⟩ := kvs_terms (kvs := kvs) fun x hx => h x (List.mem_cons_of_mem _ hx)
    obtain ⟨t, k1, k2, k3⟩ := h kv List.mem_cons_self
    refine ⟨t :: ts, by simp [h1], fun x hx => ?_, by rw [List.map_cons, List.map_cons, h3, k1], fun j k v t' e1 e2 => ?_⟩
    · rcases List.mem_cons.mp hx with rfl | hx
      · exact k3
      · exact h2 x hx
    · cases j with
      | zero =>
        simp at e1 e2
        subst e1 e2
        exact ⟨k1, k2⟩
      | succ j => exact h4 j k v t' (by simpa using e1) (by simpa using e2)
theorem sorted_strict {us ts : List IT.Tm} (hp : us.Perm ts) (hn : (ts.map fun t => t.1.map (Sum.inl : Int → Key)).Nodup) (hs : us.Pairwise (fun x y => IT.ordT.kle y x)) : us.Pairwise (fun x y => IT.lt y.1 x.1 = true) := by
  have hn' : (us.map fun t => t.1.map (Sum.inl : Int → Key)).Nodup := (hp.map _).nodup_iff.mpr hn
  rw [List.Nodup, List.pairwise_map] at hn'
  refine (hs.and hn').imp fun {x y} h => ?_
  obtain ⟨h1, h2⟩ := h
  have hne : x.1 ≠ y.1 := fun z => h2 (by rw [z])
  have h3 : IT.ltT x y = false := h1
  unfold IT.ltT at h3
  rw [if_neg hne] at h3
  cases h4 : IT.lt y.1 x.1 with
  | true => rfl
  | false => exact absurd (IT.lt_total _ _ h3 h4) hne
theorem dt_ints {c : Addr} {H : Hp} : ∀ (ps : List Int), DtAll c H (ps.map .int) (ps.map V.int)
  | [] => .nil
  | p :: ps => .cons .int (dt_ints ps)
theorem terms_dt {c : Addr} {zc : List V} {H1 H' : Hp} (e : Same H1 H') (hc : H1 c = some (.lst zc)) : ∀ {us : List IT.Tm} {zs : List V}, zs.length = us.length →
    (∀ (j : Nat) z t, zs[j]? = some z → us[j]? = some t → ∃ p b d, z = .ref p ∧ H1 p = none ∧ H' p = some (.tup [.ref b, .ref d]) ∧ H1 b = some (.tup (t.1.map V.int)) ∧ H1 d = some (.tup (t.2.map V.int))) → DtAll c H' (us.map tmD) zs
  | [], [], _, _ => .nil
  | [], _ :: _, h, _ => by simp at h
  | _ :: _, [], h, _ => by simp at h
  | t :: us, z :: zs, hl, h => by
    obtain ⟨p, b, d, rfl, h1, h2, h3, h4⟩ := h 0 z t rfl rfl
    have nt : ∀ {x : Addr} {ys : List V}, H1 x = some (.tup ys) → x ≠ c := fun hx zz => by rw [zz, hc] at hx; cases hx
    exact .cons (.tup (fun zz => by rw [zz, hc] at h1; cases h1) h2 (.cons (.tup (nt h3) (e _ _ h3) (dt_ints _)) (.cons (.tup (nt h4) (e _ _ h4) (dt_ints _)) .nil)))
      (terms_dt e hc (by simpa using hl) fun j z' t' hz ht => h (j + 1) z' t' (by simpa using hz) (by simpa using ht))
def spPoly : Sp := fun vs H Q _ => ∃ (l : Addr) (x : Int) (many : Nat), vs = [.ref l, .int many, .int 3] ∧ H l = some (.lst [.int x]) ∧ 1 ≤ many ∧ many ≤ 4 ∧
  ∀ v H' us, SameBut l H H' → PolyOk many us → (∀ c zs, H c = some (.lst zs) → Dt c H' (.list (us.map tmD)) v) → Q v H'
theorem cut_two {ps : List Int} {r : Int} (h0 : 0 ≤ r) (h1 : r ≤ (ps.length : Nat)) : cutV (ps.map V.int) (some r) none ++ cutV (ps.map V.int) none (some r) = (ps.drop r.toNat ++ ps.take r.toNat).map V.int := by
  have e : (some r) = some ((r.toNat : Nat) : Int) := by rw [show ((r.toNat : Nat) : Int) = r by omega]
  unfold cutV
  rw [e, HT.sIx_none, HT.sIx_none, HT.sIx_nat, HT.sIx_nat, List.length_map, Nat.min_eq_left (by omega), List.drop_zero, Nat.sub_zero, List.map_append, List.map_drop, List.map_take]
  congr 1
  rw [List.take_of_length_le (by rw [List.length_drop, List.length_map]; omega)]
section
variable {P : Program} {w : World} {K : PySem.W.Frag} {mg : Str → Option Value} {base : Heap} {f g g1 g2 g3 g4 g5 : Addr} {fd gd gd1 gd2 gd3 gd4 gd5 : FuncData}
theorem sc__law_poly : FnScope ["_law_pile", "_law_many", "_law_most", "_law_counts", "_law_count", "_law_k", "_law_powers", "_law_left", "_law_j", "_law_turn", "_law_part_here"] ["_law_pile", "_law_many", "_law_most"] (defScope s__law_poly) := ⟨rfl, rfl, rfl, by decide +kernel, rfl, by decide +kernel, by decide +kernel⟩
structure Grow (H : Hp) (l C : Addr) (kvs : List (List Key × V)) (many n : Nat) (H' : Hp) : Prop where
  tr : SameBut l H H'
  pile : ∃ y, H' l = some (.lst [.int y])
  dic : H' C = some (.dT kvs)
  len : kvs.length ≤ n
  nd : (kvs.map (·.1)).Nodup
  ok : ∀ kv ∈ kvs, KvOk many H' kv
theorem Grow.same {H : Hp} {l C : Addr} {kvs : List (List Key × V)} {many n : Nat} {H1 H2 : Hp} (g : Grow H l C kvs many n H1) (e : Same H1 H2) : Grow H l C kvs many n H2 :=
  ⟨g.tr.trans (.of e), let ⟨y, h⟩ := g.pile; ⟨y, e _ _ h⟩, e _ _ g.dic, g.len, g.nd, fun kv h => (g.ok kv h).step fun c ys => e c _⟩
theorem Grow.take {H : Hp} {l C : Addr} {kvs : List (List Key × V)} {many n : Nat} {H1 : Hp} (g : Grow H l C kvs many n H1) (nC : C ≠ l) (y : Int) : Grow H l C kvs many n (upd H1 l (.lst [.int y])) :=
  let ⟨_, hl⟩ := g.pile
  ⟨g.tr.trans .upd, ⟨y, upd_same⟩, by rw [upd_ne nC]; exact g.dic, g.len, g.nd, fun kv h => (g.ok kv h).step fun c ys hc => by rw [upd_ne (fun z => by rw [z, hl] at hc; cases hc)]; exact hc⟩
theorem Grow.list {H : Hp} {l C p : Addr} {kvs : List (List Key × V)} {many n : Nat} {H1 : Hp} {ys zs : List V} (g : Grow H l C kvs many n H1) (hp : H p = none) (np : p ≠ l) (nC : p ≠ C) (h : H1 p = some (.lst ys)) : Grow H l C kvs many n (upd H1 p (.lst zs)) :=
  ⟨fun b o nb z => by rw [upd_ne (ne_of_none z hp)]; exact g.tr _ _ nb z, let ⟨y, hy⟩ := g.pile; ⟨y, by rw [upd_ne np.symm]; exact hy⟩, by rw [upd_ne nC.symm]; exact g.dic, g.len, g.nd, fun kv hk => (g.ok kv hk).step fun c ws hc => by rw [upd_ne (fun z => by rw [z, h] at hc; cases hc)]; exact hc⟩
theorem Grow.but {H : Hp} {l C : Addr} {kvs : List (List Key × V)} {many n : Nat} {H1 H2 : Hp} {y : Int} (g : Grow H l C kvs many n H1) (nC : C ≠ l) (e : SameBut l H1 H2) (hy : H2 l = some (.lst [.int y])) : Grow H l C kvs many n H2 :=
  let ⟨_, hl⟩ := g.pile
  ⟨g.tr.trans e, ⟨y, hy⟩, e _ _ nC g.dic, g.len, g.nd, fun kv h => (g.ok kv h).step fun c ys hc => e _ _ (fun z => by rw [z, hl] at hc; cases hc) hc⟩
theorem ok__law_poly (F : Fn K mg "_law_poly" s__law_poly ["_law_pile", "_law_many", "_law_most"] f fd) (T__law_take : Fn K mg "_law_take" s__law_take ["_law_pile", "_law_size"] g1 gd1) (T__law_part : Fn K mg "_law_part" s__law_part ["_law_pile"] g2 gd2)
    (G__law_take : FnOk P w K mg base CX0 3 g1 gd1 ["_law_pile", "_law_size"] spTake) (G__law_part : FnOk P w K mg base CX0 3 g2 gd2 ["_law_pile"] spPartD) (z_range : mg "range" = none) (z_sorted : mg "sorted" = none) (z_tuple : mg "tuple" = none) : FnOk P w K mg base CX0 4 f fd ["_law_pile", "_law_many", "_law_most"] spPoly := by
  have sc := sc__law_poly
  refine F.F.ok (k := 3) sc (fun vs H Q E h => ?_) (fun cdv A outer s H vs Q E hr h => ?_)
  · obtain ⟨l, x, many, rfl, _⟩ := h
    rfl
  obtain ⟨l, x, many, rfl, hl, hm1, hm4, q⟩ := h
  refine ⟨_, (pss_cons (ps_set (i := 3) sc.nd rfl (Or.inl rfl) pe_dnewT)
  (pss_cons (ps_set (i := 4) sc.nd rfl (Or.inl rfl) (pe_fn T__law_take G__law_take hr rfl (pa_cons (pv 0) (pa_cons pe_int pa_nil))))
  (pss_cons (ps_if (pt_cmpR op_eq (pv 4) pe_int (nomark _))
    (pss_one (ps_set (i := 4) sc.nd rfl (Or.inl rfl) (pe_op op_add (pv 4) (pe_fn T__law_take G__law_take hr rfl (pa_cons (pv 0) (pa_cons pe_int pa_nil))))))
    pss_nil)
  (pss_cons (ps_for PassesOwn.never rfl (pi_range1 rfl z_range (pa_cons (pv 4) pa_nil)) (pg_name (i := 5) sc.nd rfl (Or.inl rfl))
    (pss_cons (ps_set (i := 6) sc.nd rfl (Or.inl rfl) (pe_lst pa_nil))
    (pss_cons (ps_set (i := 7) sc.nd rfl (Or.inl rfl) (pv 2))
    (pss_cons (ps_for PassesOwn.never rfl (pi_range1 rfl z_range (pa_cons (pv 1) pa_nil)) (pg_name (i := 8) sc.nd rfl (Or.inl rfl))
      (pss_cons (ps_expr (pe_bm PySem.F.plainAttrs_list PySem.F.slot_list_append PySem.F.type_list_append mt_append (pv 6) (pa_cons (pe_fn T__law_take G__law_take hr rfl (pa_cons (pv 0) (pa_cons (pe_op op_add (pv 7) pe_int) pa_nil))) pa_nil)))
      (pss_one (ps_set (i := 7) sc.nd rfl (Or.inl rfl) (pe_op op_sub (pv 7) (pe_ix ix_list (pv 6) (pe_un un_neg pe_int) (fun _ _ => rfl)))))))
    (pss_cons (ps_set (i := 9) sc.nd rfl (Or.inl rfl) (pe_fn T__law_take G__law_take hr rfl (pa_cons (pv 0) (pa_cons (pv 1) pa_nil))))
    (pss_cons (ps_set (i := 10) sc.nd rfl (Or.inl rfl) (pe_fn T__law_part G__law_part hr rfl (pa_cons (pv 0) pa_nil)))
    (pss_one (ps_if (pt_cmpR (op_neD (by have := hr.units; exact this)) (pv 10) (pe_tup (pa_cons pe_int (pa_cons pe_int pa_nil))) (nomark _))
      (pss_one (ps_dput (by have := hr.units; exact Nat.lt_of_le_of_lt (Nat.add_le_add_left (show 1 ≤ 64 by decide) _) this) (pv 3) (pe_callTy call_tuple_of rfl z_tuple PyProof.Rows.boot_tuple (pa_cons (pe_op op_cat (pe_slice sl_list (pv 6) (po_some (pv 9)) po_none) (pe_slice sl_list (pv 6) po_none (po_some (pv 9)))) pa_nil)) (pv 10) rfl))
      pss_nil))))))))
  (pss_one (ps_ret (pe_sortI rfl (by have := hr.units; exact this) rfl z_sorted (pv 3)))))))), ?_⟩
  refine fun C hC => ?_
  have nC : C ≠ l := (ne_of_none hl hC).symm
  have g0 : Grow H l C [] many 0 (upd H C (.dT [])) := ⟨.of (same_new hC _), ⟨x, same_new hC _ _ _ hl⟩, upd_same, Nat.le_refl _, List.nodup_nil, fun _ z => (List.not_mem_nil z).elim⟩
  generalize upd H C (.dT []) = H1 at g0
  obtain ⟨x1, hl1⟩ := g0.pile
  refine ⟨_, rfl, l, x1, 5, rfl, hl1, by decide, by decide, fun cnt y0 c0 c1 => ?_⟩
  have g0 := g0.take nC y0
  generalize upd H1 l (.lst [.int y0]) = H2 at g0
  try dsimp only [gName]
  refine seq_join (fun σ' H' => ∃ n : Nat, n ≤ 12 ∧ σ' = [some (.ref l), some (.int many), some (.int 3), some (.ref C), some (.int n), none, none, none, none, none, none] ∧ Grow H l C [] many 0 H') (fun nx hnx => ?_) ?_
  · refine ⟨_, rfl, rfl, _, rfl, ite2 (fun c => ?_) (fun c => ?_)⟩
    · obtain ⟨x2, hl2⟩ := g0.pile
      have e4 : cnt = 4 := by simpa using c
      refine ⟨_, rfl, _, rfl, l, x2, 9, rfl, hl2, by decide, by decide, fun r y1 r0 r1 => ⟨_, _, rfl, rfl, hnx _ _ ⟨(cnt + r).toNat, by omega, ?_, g0.take nC y1⟩⟩⟩
      show [some (V.ref l), some (V.int many), some (V.int 3), some (V.ref C), some (V.int (cnt + r)), none, none, none, none, none, none] = _
      rw [show (((cnt + r).toNat : Nat) : Int) = cnt + r by omega]
    · refine hnx _ _ ⟨cnt.toNat, by omega, ?_, g0⟩
      show [some (V.ref l), some (V.int many), some (V.int 3), some (V.ref C), some (V.int cnt), none, none, none, none, none, none] = _
      rw [show ((cnt.toNat : Nat) : Int) = cnt by omega]
  rintro σ' H3 ⟨n, hn, rfl, g0⟩
  refine ⟨_, rfl, (n : Int), rfl, by omega, by omega, for_range (n := (n : Int).toNat) (fun i σ H' => ∃ (r5 r6 r7 r8 r9 r10 : Option V) (kvs : List (List Key × V)), σ = [some (.ref l), some (.int many), some (.int 3), some (.ref C), some (.int n), r5, r6, r7, r8, r9, r10] ∧ Grow H l C kvs many i H') ?_ ?_ ?_⟩
  · exact ⟨_, _, _, _, _, _, [], rfl, g0⟩
  · rintro i σ H4 hi ⟨r5, r6, r7, r8, r9, r10, kvs, rfl, g4⟩
    refine ⟨sz60' (by decide), fun p hp => ?_⟩
    have hpn : H p = none := by
      cases z : H p with
      | none => rfl
      | some o =>
        have np : p ≠ l := fun zz => by
          obtain ⟨y, hy⟩ := g4.pile
          rw [zz, hy] at hp; cases hp
        rw [g4.tr _ _ np z] at hp; cases hp
    have np : p ≠ l := let ⟨y, hy⟩ := g4.pile; (ne_of_none hy hp).symm
    have npC : p ≠ C := (ne_of_none g4.dic hp).symm
    have g5 := g4.same (same_new hp (.lst []))
    have h5 : upd H4 p (.lst []) p = some (.lst []) := upd_same
    generalize upd H4 p (.lst []) = H5 at g5 h5
    refine ⟨_, rfl, ?_⟩
    refine ⟨_, rfl, (many : Int), rfl, by omega, by omega, for_range (n := (many : Int).toNat) (fun j σ H' => ∃ (r8 : Option V) (left : Int) (ps : List Int), σ = [some (.ref l), some (.int many), some (.int 3), some (.ref C), some (.int n), some (.int (0 + (i : Nat))), some (.ref p), some (.int left), r8, r9, r10] ∧ Grow H l C kvs many i H' ∧ H' p = some (.lst (ps.map V.int)) ∧ ps.length = j ∧ (∀ z ∈ ps, (0 : Int) ≤ z) ∧ 0 ≤ left ∧ left ≤ 3) ?_ ?_ ?_⟩
    · exact ⟨_, 3, [], rfl, g5, h5, rfl, fun _ z => (List.not_mem_nil z).elim, by decide, by decide⟩
    · rintro j σ H6 hj ⟨r8, left, ps, rfl, g6, h6, hpl, hps, l0, l3⟩
      obtain ⟨x6, hl6⟩ := g6.pile
      refine ⟨_, rfl, .inl ⟨rfl, _, SqL.of h6⟩, _, rfl, _, rfl, _, _, rfl, rfl, l, x6, left + 1, rfl, hl6, by omega, by omega, fun r y r0 r1 => ?_⟩
      have g7 := g6.take nC y
      have h7 : upd H6 l (.lst [.int y]) p = some (.lst (ps.map V.int)) := by rw [upd_ne np]; exact h6
      generalize upd H6 l (.lst [.int y]) = H7 at g7 h7
      refine ⟨p, _, _, rfl, rfl, h7, sz60 (n := 60) (by rw [List.length_map]; omega) (by decide), ?_⟩
      have g8 := g7.list hpn np npC h7 (zs := ps.map V.int ++ [.int r])
      have h8 : upd H7 p (.lst (ps.map V.int ++ [.int r])) p = some (.lst ((ps ++ [r]).map V.int)) := by rw [upd_same, List.map_append]; rfl
      generalize upd H7 p (.lst (ps.map V.int ++ [.int r])) = H8 at g8 h8
      have hat : atI ((ps ++ [r]).map V.int) (-1) = some (.int r) := by
        unfold atI ixN
        rw [if_neg (by decide), if_pos (by rw [List.length_map, List.length_append, List.length_singleton]; omega)]
        rw [List.length_map, List.length_append, List.length_singleton, show ((-1 : Int) + ((ps.length + 1 : Nat) : Int)).toNat = ps.length by omega]
        simp
      refine ⟨_, rfl, _, rfl, _, rfl, _, _, _, _, rfl, rfl, SqL.of h8, hat, _, _, rfl, rfl, _, left - r, ps ++ [r], rfl, g8, h8, by simp [hpl], fun z hz => ?_, by omega, by omega⟩
      rcases List.mem_append.mp hz with hz | hz
      · exact hps z hz
      · rw [List.mem_singleton.mp hz]; exact r0
    · rintro σ H6 ⟨r8, left, ps, rfl, g6, h6, hpl, hps, l0, l3⟩
      obtain ⟨x6, hl6⟩ := g6.pile
      refine ⟨_, rfl, _, rfl, l, x6, (many : Int), rfl, hl6, by omega, by omega, fun turn y t0 t1 => ?_⟩
      have g7 := g6.take nC y
      have h7 : upd H6 l (.lst [.int y]) p = some (.lst (ps.map V.int)) := by rw [upd_ne np]; exact h6
      generalize upd H6 l (.lst [.int y]) = H7 at g7 h7
      obtain ⟨x7, hl7⟩ := g7.pile
      refine ⟨_, rfl, l, x7, rfl, hl7, fun v H8 y8 e8 hl8 f8 => ?_⟩
      have g8 := g7.but nC e8 hl8
      have h8 := e8 _ _ np h7
      obtain ⟨c, ta, tb, rfl, hc, hfr⟩ := f8
      refine ⟨_, rfl, sz60' (show 2 ≤ 60 by decide), fun q0 hq => ?_⟩
      have e9 := same_new hq (.tup [.int 0, .int 1])
      have hq9 : upd H8 q0 (.tup [.int 0, .int 1]) q0 = some (.tup [.int 0, .int 1]) := upd_same
      generalize upd H8 q0 (.tup [.int 0, .int 1]) = H9 at e9 hq9
      have g9 := g8.same e9
      have h9 := e9 _ _ h8
      have hc9 := e9 _ _ hc
      have sh : ∀ a b : Int, SeqAt.shaped (.tuple [.int a, .int b]) = true := fun a b => (Sm.tup (n := 0) (ds := [.int a, .int b]) (show 2 ≤ 64 by decide) (fun x hx => by
        rcases List.mem_cons.mp hx with rfl | hx
        · trivial
        · rw [List.mem_singleton.mp hx]; trivial)).ok.shaped (by decide)
      obtain ⟨x9, hl9⟩ := g9.pile
      have ntl : ∀ {b : Addr} {ys : List V}, H9 b = some (.tup ys) → b ≠ l := fun hb z => by rw [z, hl9] at hb; cases hb
      refine ⟨.tuple [.int ta, .int tb], .tuple [.int 0, .int 1], (Dt.tup (ntl hc9) hc9 (.cons .int (.cons .int .nil))).br, (Dt.tup (ntl hq9) hq9 (.cons .int (.cons .int .nil))).br, sh _ _, sh _ _, _, rfl, ite2 (fun b => ?_) (fun b => ?_)⟩
      · have hta : ta ≠ 0 := fun z => by
          subst z
          rw [isFrD, Bool.and_eq_true, beq_iff_eq] at hfr
          have h1 := of_decide_eq_true hfr.1
          have h2 := hfr.2
          unfold FM.gi at h2
          have : tb = 1 := by
            rw [Int.gcd_zero_left] at h2
            omega
          subst this
          exact absurd b (by simp [PyData.eqv, PyData.eqvAll])
        refine ⟨_, rfl, _, rfl, _, rfl, _, rfl, _, rfl, p, _, rfl, SqL.of h9, fun p1 hp1 => ?_⟩
        have ea := same_new hp1 (.lst (cutV (ps.map V.int) (some turn) none))
        have ha1 : upd H9 p1 (.lst (cutV (ps.map V.int) (some turn) none)) p1 = some (.lst (cutV (ps.map V.int) (some turn) none)) := upd_same
        generalize upd H9 p1 (.lst (cutV (ps.map V.int) (some turn) none)) = Ha at ea ha1
        refine ⟨_, rfl, _, rfl, _, rfl, p, _, rfl, SqL.of (ea _ _ h9), fun p2 hp2 => ?_⟩
        have eb := same_new hp2 (.lst (cutV (ps.map V.int) none (some turn)))
        have hb2 : upd Ha p2 (.lst (cutV (ps.map V.int) none (some turn))) p2 = some (.lst (cutV (ps.map V.int) none (some turn))) := upd_same
        generalize upd Ha p2 (.lst (cutV (ps.map V.int) none (some turn))) = Hb at eb hb2
        refine ⟨p1, p2, _, _, rfl, rfl, eb _ _ ha1, hb2, ?_, fun p3 hp3 => ?_⟩
        · have z1 := cutV_length (ps.map V.int) (some turn) none
          have z2 := cutV_length (ps.map V.int) none (some turn)
          rw [List.length_map] at z1 z2
          exact sz60' (by omega)
        rw [cut_two t0 (by omega)] at *
        have ec := same_new hp3 (.lst ((ps.drop turn.toNat ++ ps.take turn.toNat).map V.int))
        have hc3 : upd Hb p3 (.lst ((ps.drop turn.toNat ++ ps.take turn.toNat).map V.int)) p3 = some (.lst ((ps.drop turn.toNat ++ ps.take turn.toNat).map V.int)) := upd_same
        generalize upd Hb p3 (.lst ((ps.drop turn.toNat ++ ps.take turn.toNat).map V.int)) = Hc at ec hc3
        refine ⟨p3, _, rfl, .inl ⟨SqL.of hc3, fun p4 hp4 => ?_⟩⟩
        have ed := same_new hp4 (.tup ((ps.drop turn.toNat ++ ps.take turn.toNat).map V.int))
        have hd4 : upd Hc p4 (.tup ((ps.drop turn.toNat ++ ps.take turn.toNat).map V.int)) p4 = some (.tup ((ps.drop turn.toNat ++ ps.take turn.toNat).map V.int)) := upd_same
        generalize upd Hc p4 (.tup ((ps.drop turn.toNat ++ ps.take turn.toNat).map V.int)) = Hd at ed hd4
        have E := ea.trans (eb.trans (ec.trans ed))
        have gd := g9.same E
        have hcd := E _ _ hc9
        refine ⟨C, _, rfl, DPut.t gd.dic (k := (ps.drop turn.toNat ++ ps.take turn.toNat).map Sum.inl) (by rw [map_kV]; exact hd4) (sz60 (n := 60) (by have := gd.len; omega) (by decide)), ?_⟩
        have hCn : ∀ c ys, Hd c = some (.tup ys) → c ≠ C := fun c ys hh z => by rw [z, gd.dic] at hh; cases hh
        refine ⟨_, _, _, _, _, _, _, rfl, ⟨fun b o nb z => by rw [upd_ne (ne_of_none z hC)]; exact gd.tr _ _ nb z, let ⟨y, hy⟩ := gd.pile; ⟨y, by rw [upd_ne nC.symm]; exact hy⟩, upd_same, Nat.le_trans (length_putK _ _ _) (Nat.succ_le_succ gd.len), nodup_putK _ gd.nd, fun kv hk => ?_⟩⟩
        rcases mem_putK hk with hk | rfl
        · exact (gd.ok kv hk).step fun c ys hh => by rw [upd_ne (hCn c ys hh)]; exact hh
        · refine ⟨(ps.drop turn.toNat ++ ps.take turn.toNat, [ta, tb]), rfl, ⟨c, rfl, by rw [upd_ne (hCn _ _ hcd)]; exact hcd⟩, ?_, fun z hz => ?_, ta, tb, rfl, hta, hfr⟩
          · simp only [List.length_append, List.length_drop, List.length_take]; omega
          · rcases List.mem_append.mp hz with hz | hz
            · exact hps z (List.mem_of_mem_drop hz)
            · exact hps z (List.mem_of_mem_take hz)
      · exact ⟨_, _, _, _, _, _, kvs, rfl, ⟨g9.tr, g9.pile, g9.dic, Nat.le_succ_of_le g9.len, g9.nd, g9.ok⟩⟩
  · rintro σ H4 ⟨r5, r6, r7, r8, r9, r10, kvs, rfl, g4⟩
    obtain ⟨ts, k1, k2, k3, k4⟩ := kvs_terms g4.ok
    have hlen := g4.len
    refine ⟨_, rfl, C, kvs, ts, rfl, g4.dic, by omega, k1, k4, fun D H' zs us e hD hD' hp hs hzl hz => ?_⟩
    obtain ⟨y4, hl4⟩ := g4.pile
    refine q _ H' us (g4.tr.trans (.of e)) ⟨by rw [hp.length_eq, k1]; omega, fun t ht => k2 t (hp.mem_iff.mp ht), sorted_strict hp (by rw [← k3]; exact g4.nd) hs⟩ fun c zc hc => ?_
    have hc4 : ∃ zc', H4 c = some (.lst zc') := by
      by_cases z : c = l
      · subst z; exact ⟨_, hl4⟩
      · exact ⟨_, g4.tr _ _ z hc⟩
    obtain ⟨zc', hc4⟩ := hc4
    exact .lst (ne_of_none hc4 hD).symm hD' (terms_dt e hc4 hzl hz)
end
theorem dt_drop {l : Addr} {H : Hp} : ∀ {ds : List PyData} {xs : List V} (i : Nat), DtAll l H ds xs → DtAll l H (ds.drop i) (xs.drop i)
  | ds, xs, 0, h => h
  | [], xs, i + 1, h => by rw [DtAll] at h; subst h; exact .nil
  | d :: ds, xs, i + 1, h => by
    rw [DtAll] at h
    obtain ⟨x, r, rfl, _, h2⟩ := h
    exact dt_drop i h2
theorem dt_take {l : Addr} {H : Hp} : ∀ {ds : List PyData} {xs : List V} (i : Nat), DtAll l H ds xs → DtAll l H (ds.take i) (xs.take i)
  | ds, xs, 0, h => by rw [List.take_zero, List.take_zero]; exact .nil
  | [], xs, i + 1, h => by rw [DtAll] at h; subst h; exact .nil
  | d :: ds, xs, i + 1, h => by
    rw [DtAll] at h
    obtain ⟨x, r, rfl, h1, h2⟩ := h
    exact .cons h1 (dt_take i h2)
theorem dt_rev {l : Addr} {H : Hp} : ∀ {ds : List PyData} {xs : List V}, DtAll l H ds xs → DtAll l H ds.reverse xs.reverse
  | [], xs, h => by rw [DtAll] at h; subst h; exact .nil
  | d :: ds, xs, h => by
    rw [DtAll] at h
    obtain ⟨x, r, rfl, h1, h2⟩ := h
    rw [List.reverse_cons, List.reverse_cons]
    exact (dt_rev h2).app (.cons h1 .nil)
mutual
theorem dt_fresh {l p : Addr} {H : Hp} (hp : H p = none) : ∀ {d : PyData} {v : V}, Dt l H d v → Dt p H d v
  | .none, _, h => by rw [Dt] at h ⊢; exact h
  | .bool _, _, h => by rw [Dt] at h ⊢; exact h
  | .int _, _, h => by rw [Dt] at h ⊢; exact h
  | .str _, _, h => by rw [Dt] at h ⊢; exact h
  | .tuple _, _, h => by
    rw [Dt] at h ⊢
    obtain ⟨a, xs, e1, n, h1, h2⟩ := h
    exact ⟨a, xs, e1, ne_of_none h1 hp, h1, dtAll_fresh hp h2⟩
  | .list _, _, h => by
    rw [Dt] at h ⊢
    obtain ⟨a, xs, e1, n, h1, h2⟩ := h
    exact ⟨a, xs, e1, ne_of_none h1 hp, h1, dtAll_fresh hp h2⟩
  | .dict _, _, h => by rw [Dt] at h; exact h.elim
theorem dtAll_fresh {l p : Addr} {H : Hp} (hp : H p = none) : ∀ {ds : List PyData} {xs : List V}, DtAll l H ds xs → DtAll p H ds xs
  | [], _, h => by rw [DtAll] at h ⊢; exact h
  | _ :: _, _, h => by
    rw [DtAll] at h ⊢
    obtain ⟨x, r, e1, h1, h2⟩ := h
    exact ⟨x, r, e1, dt_fresh hp h1, dtAll_fresh hp h2⟩
end
def DU (H : Hp) (d : PyData) (v : V) : Prop := ∃ N : Nat, ∀ l, N ≤ l → Dt l H d v
def DUs (H : Hp) (ds : List PyData) (xs : List V) : Prop := ∃ N : Nat, ∀ l, N ≤ l → DtAll l H ds xs
theorem DU.same {H H' : Hp} {d : PyData} {v : V} (h : DU H d v) (e : Same H H') : DU H' d v := let ⟨N, k⟩ := h; ⟨N, fun l hl => (k l hl).same e⟩
theorem DUs.same {H H' : Hp} {d : List PyData} {v : List V} (h : DUs H d v) (e : Same H H') : DUs H' d v := let ⟨N, k⟩ := h; ⟨N, fun l hl => (k l hl).same e⟩
theorem DU.int {H : Hp} {i : Int} : DU H (.int i) (.int i) := ⟨0, fun _ _ => .int⟩
theorem DU.bool {H : Hp} {i : Bool} : DU H (.bool i) (.bl i) := ⟨0, fun _ _ => .bool⟩
theorem DU.non {H : Hp} : DU H .none .non := ⟨0, fun _ _ => .non⟩
theorem DU.str {H : Hp} {x : Str} : DU H (.str x) (.str x) := ⟨0, fun _ _ => .str⟩
theorem DUs.nil {H : Hp} : DUs H [] [] := ⟨0, fun _ _ => .nil⟩
theorem DUs.cons {H : Hp} {d : PyData} {ds : List PyData} {x : V} {xs : List V} (h : DU H d x) (k : DUs H ds xs) : DUs H (d :: ds) (x :: xs) :=
  let ⟨N, a⟩ := h; let ⟨M, b⟩ := k; ⟨max N M, fun l hl => .cons (a l (by omega)) (b l (by omega))⟩
theorem DUs.app {H : Hp} {ds es : List PyData} {xs ys : List V} (h : DUs H ds xs) (k : DUs H es ys) : DUs H (ds ++ es) (xs ++ ys) :=
  let ⟨N, a⟩ := h; let ⟨M, b⟩ := k; ⟨max N M, fun l hl => (a l (by omega)).app (b l (by omega))⟩
theorem DUs.take {H : Hp} {ds : List PyData} {xs : List V} (i : Nat) (h : DUs H ds xs) : DUs H (ds.take i) (xs.take i) := let ⟨N, a⟩ := h; ⟨N, fun l hl => dt_take i (a l hl)⟩
theorem DUs.drop {H : Hp} {ds : List PyData} {xs : List V} (i : Nat) (h : DUs H ds xs) : DUs H (ds.drop i) (xs.drop i) := let ⟨N, a⟩ := h; ⟨N, fun l hl => dt_drop i (a l hl)⟩
theorem DUs.rev {H : Hp} {ds : List PyData} {xs : List V} (h : DUs H ds xs) : DUs H ds.reverse xs.reverse := let ⟨N, a⟩ := h; ⟨N, fun l hl => dt_rev (a l hl)⟩
theorem DUs.len {H : Hp} {ds : List PyData} {xs : List V} (h : DUs H ds xs) : xs.length = ds.length := let ⟨N, a⟩ := h; (a N (Nat.le_refl _)).len
theorem DUs.get {H : Hp} {ds : List PyData} {xs : List V} {i : Nat} {d : PyData} (h : DUs H ds xs) (e : ds[i]? = some d) : ∃ v, xs[i]? = some v ∧ DU H d v := by
  have hl := h.len
  have hi : i < xs.length := by rw [hl]; exact (List.getElem?_eq_some_iff.mp e).1
  have hx : xs[i]? = some xs[i] := by simp [hi]
  obtain ⟨N, a⟩ := h
  refine ⟨xs[i], hx, N, fun l hl => ?_⟩
  obtain ⟨d', h1, h2⟩ := (a l hl).get hx
  rw [e] at h1; cases h1
  exact h2
theorem DU.lst {H : Hp} {a : Addr} {ds : List PyData} {xs : List V} (h : H a = some (.lst xs)) (k : DUs H ds xs) : DU H (.list ds) (.ref a) :=
  let ⟨N, b⟩ := k; ⟨max N (a + 1), fun l hl => .lst (Nat.ne_of_lt (show a < l from Nat.lt_of_lt_of_le (Nat.lt_succ_self a) (Nat.le_trans (Nat.le_max_right _ _) hl))) h (b l (by omega))⟩
theorem DU.tup {H : Hp} {a : Addr} {ds : List PyData} {xs : List V} (h : H a = some (.tup xs)) (k : DUs H ds xs) : DU H (.tuple ds) (.ref a) :=
  let ⟨N, b⟩ := k; ⟨max N (a + 1), fun l hl => .tup (Nat.ne_of_lt (show a < l from Nat.lt_of_lt_of_le (Nat.lt_succ_self a) (Nat.le_trans (Nat.le_max_right _ _) hl))) h (b l (by omega))⟩
theorem DU.unL {H : Hp} {ds : List PyData} {v : V} (h : DU H (.list ds) v) : ∃ a xs, v = .ref a ∧ H a = some (.lst xs) ∧ DUs H ds xs := by
  obtain ⟨N, b⟩ := h
  have h0 := b N (Nat.le_refl _)
  rw [Dt] at h0
  obtain ⟨a, xs, rfl, _, ha, _⟩ := h0
  refine ⟨a, xs, rfl, ha, N, fun l hl => ?_⟩
  have h1 := b l hl
  rw [Dt] at h1
  obtain ⟨a', xs', e, _, ha', hx'⟩ := h1
  cases e
  rw [ha] at ha'; cases ha'
  exact hx'
theorem DU.unT {H : Hp} {ds : List PyData} {v : V} (h : DU H (.tuple ds) v) : ∃ a xs, v = .ref a ∧ H a = some (.tup xs) ∧ DUs H ds xs := by
  obtain ⟨N, b⟩ := h
  have h0 := b N (Nat.le_refl _)
  rw [Dt] at h0
  obtain ⟨a, xs, rfl, _, ha, _⟩ := h0
  refine ⟨a, xs, rfl, ha, N, fun l hl => ?_⟩
  have h1 := b l hl
  rw [Dt] at h1
  obtain ⟨a', xs', e, _, ha', hx'⟩ := h1
  cases e
  rw [ha] at ha'; cases ha'
  exact hx'
theorem DUs.un2 {H : Hp} {d e : PyData} {xs : List V} (h : DUs H [d, e] xs) : ∃ x y, xs = [x, y] ∧ DU H d x ∧ DU H e y := by
  obtain ⟨x, h1, h2⟩ := h.get (i := 0) rfl
  obtain ⟨y, h3, h4⟩ := h.get (i := 1) rfl
  have := h.len
  match xs, this with
  | [a, b], _ =>
    simp at h1 h3
    subst h1 h3
    exact ⟨a, b, rfl, h2, h4⟩
mutual
theorem dt_du {c : Addr} {H : Hp} : ∀ {d : PyData} {v : V}, Dt c H d v → DU H d v
  | .none, _, h => by rw [Dt] at h; subst h; exact .non
  | .bool _, _, h => by rw [Dt] at h; subst h; exact .bool
  | .int _, _, h => by rw [Dt] at h; subst h; exact .int
  | .str _, _, h => by rw [Dt] at h; subst h; exact .str
  | .tuple _, _, h => by
    rw [Dt] at h
    obtain ⟨a, xs, rfl, n, h1, h2⟩ := h
    exact .tup h1 (dtAll_du h2)
  | .list _, _, h => by
    rw [Dt] at h
    obtain ⟨a, xs, rfl, n, h1, h2⟩ := h
    exact .lst h1 (dtAll_du h2)
  | .dict _, _, h => by rw [Dt] at h; exact h.elim
theorem dtAll_du {c : Addr} {H : Hp} : ∀ {ds : List PyData} {xs : List V}, DtAll c H ds xs → DUs H ds xs
  | [], _, h => by rw [DtAll] at h; subst h; exact .nil
  | _ :: _, _, h => by
    rw [DtAll] at h
    obtain ⟨x, r, rfl, h1, h2⟩ := h
    exact .cons (dt_du h1) (dtAll_du h2)
end
theorem DU.br {K : PySem.W.Frag} {H : Hp} {d : PyData} {v : V} (h : DU H d v) : Br K H d v := let ⟨N, b⟩ := h; (b N (Nat.le_refl _)).br
theorem DU.ints {H : Hp} {ps : List Int} {v : V} (h : DU H (.tuple (ps.map .int)) v) : ∃ a, v = .ref a ∧ H a = some (.tup (ps.map V.int)) := by
  obtain ⟨a, xs, rfl, ha, hx⟩ := h.unT
  refine ⟨a, rfl, ?_⟩
  rw [ha]
  congr 2
  obtain ⟨N, b⟩ := hx
  have := b N (Nat.le_refl _)
  clear b ha h
  induction ps generalizing xs with
  | nil => rw [List.map_nil, DtAll] at this; exact this
  | cons p ps ih =>
    rw [List.map_cons, DtAll] at this
    obtain ⟨x, r, rfl, h1, h2⟩ := this
    rw [Dt] at h1
    subst h1
    rw [List.map_cons, ih r h2]
def polyDt (us : List IT.Tm) : PyData := .list (us.map tmD)
def spChange (K : PySem.W.Frag) : Sp := fun vs H Q _ => ∃ (a : Addr) (ns : List Int) (many : Nat), vs = [.ref a, .int 1, .int many, .int 3] ∧ SqL K H a (ns.map V.int) ∧ 1 ≤ many ∧ many ≤ 4 ∧
  ∀ v H' (uss : List (List IT.Tm)), Same H H' → uss.length = many → (∀ us ∈ uss, PolyOk many us) → DU H' (.list (uss.map polyDt)) v → Q v H'
section
variable {P : Program} {w : World} {K : PySem.W.Frag} {mg : Str → Option Value} {base : Heap} {f g g1 g2 g3 g4 g5 : Addr} {fd gd gd1 gd2 gd3 gd4 gd5 : FuncData}
theorem sc__law_change : FnScope ["_law_script", "_law_start", "_law_many", "_law_most"] ["_law_script", "_law_start", "_law_many", "_law_most"] (defScope s__law_change) := ⟨rfl, rfl, rfl, by decide +kernel, rfl, by decide +kernel, by decide +kernel⟩
theorem ok__law_change (F : Fn K mg "_law_change" s__law_change ["_law_script", "_law_start", "_law_many", "_law_most"] f fd) (T__law_cell : Fn K mg "_law_cell" s__law_cell ["_law_script", "_law_k"] g1 gd1) (T__law_poly : Fn K mg "_law_poly" s__law_poly ["_law_pile", "_law_many", "_law_most"] g2 gd2)
    (G__law_cell : FnOk P w K mg base CX0 4 g1 gd1 ["_law_script", "_law_k"] (spCellP K)) (G__law_poly : FnOk P w K mg base CX0 4 g2 gd2 ["_law_pile", "_law_many", "_law_most"] spPoly) (z_range : mg "range" = none) : FnOk P w K mg base CX0 5 f fd ["_law_script", "_law_start", "_law_many", "_law_most"] (spChange K) := by
  have sc := sc__law_change
  refine F.F.ok (k := 4) sc (fun vs H Q E h => ?_) (fun cdv A outer s H vs Q E hr h => ?_)
  · obtain ⟨a, ns, many, rfl, _⟩ := h
    rfl
  obtain ⟨a, ns, many, rfl, hS, hm1, hm4, q⟩ := h
  refine ⟨_, (pss_one (ps_ret (pe_compr [".0", "_law_k", "_law_many", "_law_most", "_law_script", "_law_start"] 1 [none, none, some 2, some 3, some 0, some 1] (pi_range1 rfl z_range (pa_cons (pv 2) pa_nil)) (fun _ _ _ _ _ => pif_nil) (fun _ _ _ _ _ => (pe_fn T__law_poly G__law_poly hr rfl (pa_cons (pe_lst (pa_cons (pe_fn T__law_cell G__law_cell hr rfl (pa_cons (pv 4) (pa_cons (pe_op op_add (pv 5) (pv 1)) pa_nil))) pa_nil)) (pa_cons (pv 2) (pa_cons (pv 3) pa_nil)))))))), ?_⟩
  refine ⟨_, rfl, (many : Int), rfl, by omega, by omega, fun D hD => comp_by (n := (many : Int).toNat) (fun i ys H' => Same H H' ∧ ∃ uss : List (List IT.Tm), uss.length = i ∧ (∀ us ∈ uss, PolyOk many us) ∧ DtAll D H' (uss.map polyDt) ys) ?_ ?_ ?_⟩
  · exact ⟨same_new hD _, [], rfl, fun _ z => (List.not_mem_nil z).elim, .nil⟩
  · rintro i ys H0 hi ⟨e0, uss, hul, huo, hd⟩ hD0
    refine ⟨hi, sz60 (n := 60) (by rw [hd.len, List.length_map]; omega) (by decide), fun x H' y => ?_⟩
    obtain ⟨rfl, rfl⟩ := y
    unfold tNoIf
    refine iteT ⟨_, rfl, _, rfl, _, rfl, _, _, rfl, rfl, a, ns, _, rfl, e0.seq hS, by omega, by omega, fun cell => ?_⟩
    refine ⟨sz60' (show 1 ≤ 60 by decide), fun l hl => ?_⟩
    have e1 := same_new hl (.lst [.int cell])
    have hl1 : upd H' l (.lst [.int cell]) l = some (.lst [.int cell]) := upd_same
    have nl : D ≠ l := ne_of_none hD0 hl
    have hln : ∀ o, H l ≠ some o := fun o z => by rw [e0 _ _ z] at hl; cases hl
    have dl : DtAll l (upd H' l (.lst [.int cell])) (uss.map polyDt) ys := (dtAll_fresh hl hd).same e1
    generalize upd H' l (.lst [.int cell]) = H1 at e1 hl1 dl
    refine ⟨_, rfl, _, rfl, l, cell, many, rfl, hl1, hm1, hm4, fun v H2 us e2 ok dt => ?_⟩
    have hD2 : H2 D = some (.lst ys) := e2 _ _ nl (e1 _ _ hD0)
    have k1 : DtAll D H2 ((uss ++ [us]).map polyDt) (ys ++ [v]) := by
      rw [List.map_append]
      exact (DtAll.two e2 dl (hd.same e1)).app (.cons (dt D _ (e1 _ _ hD0)) .nil)
    refine ⟨hD2, cw_next hi ⟨fun b o z => ?_, uss ++ [us], by simp [hul], fun u hu => ?_, .but .upd k1⟩⟩
    · rw [upd_ne (ne_of_none z hD)]
      exact e2 _ _ (fun zz => hln o (zz ▸ z)) (e1 _ _ (e0 _ _ z))
    · rcases List.mem_append.mp hu with hu | hu
      · exact huo u hu
      · rw [List.mem_singleton.mp hu]; exact ok
  · rintro ys H0 ⟨e0, uss, hul, huo, hd⟩ hD0
    exact ⟨Nat.le_refl _, q _ H0 uss e0 (by omega) huo (.lst hD0 (dtAll_du hd))⟩
end
def BA (many : Nat) (H : Hp) (xs : List V) : Prop := ∃ ds, DUs H ds xs ∧ ∀ d ∈ ds, termD many d = false
theorem BA.nil {many : Nat} {H : Hp} : BA many H [] := ⟨[], .nil, fun _ z => (List.not_mem_nil z).elim⟩
theorem BA.cons {many : Nat} {H : Hp} {x : V} {xs : List V} (h : ∃ d, DU H d x ∧ termD many d = false) (k : BA many H xs) : BA many H (x :: xs) := by
  obtain ⟨d, a, b⟩ := h
  obtain ⟨ds, a', b'⟩ := k
  exact ⟨d :: ds, .cons a a', fun e he => by rcases List.mem_cons.mp he with rfl | he; exact b; exact b' e he⟩
theorem BA.app {many : Nat} {H : Hp} {xs ys : List V} (h : BA many H xs) (k : BA many H ys) : BA many H (xs ++ ys) := by
  obtain ⟨d, a, b⟩ := h
  obtain ⟨ds, a', b'⟩ := k
  exact ⟨d ++ ds, a.app a', fun e he => by rcases List.mem_append.mp he with he | he; exact b e he; exact b' e he⟩
theorem BA.same {many : Nat} {H H' : Hp} {xs : List V} (h : BA many H xs) (e : Same H H') : BA many H' xs := by
  obtain ⟨d, a, b⟩ := h
  exact ⟨d, a.same e, b⟩
theorem BA.at {many : Nat} {H : Hp} {xs : List V} {i : Int} (h : BA many H xs) (h0 : 0 ≤ i) (h1 : i < (xs.length : Nat)) : ∃ v, atI xs i = some v ∧ ∃ d, DU H d v ∧ termD many d = false := by
  obtain ⟨ds, a, b⟩ := h
  have hl := a.len
  obtain ⟨d, hd⟩ : ∃ d, ds[i.toNat]? = some d := ⟨ds[i.toNat]'(by omega), by simp [show i.toNat < ds.length by omega]⟩
  obtain ⟨v, k1, k2⟩ := a.get hd
  refine ⟨v, ?_, d, k2, b d (List.mem_of_getElem? hd)⟩
  have := atI_nat (xs := xs) (j := i.toNat) k1
  rwa [show ((i.toNat : Nat) : Int) = i by omega] at this
theorem du_t {p : Addr} {H H' : Hp} {xs : List V} {ds : List PyData} (hH : upd H p (.tup xs) = H') (hp : H p = none) (k : DUs H ds xs) : Same H H' ∧ DU H' (.tuple ds) (.ref p) ∧ H' p = some (.tup xs) := by
  subst hH
  have es := same_new hp (.tup xs)
  exact ⟨es, .tup upd_same (k.same es), upd_same⟩
theorem du_l {p : Addr} {H H' : Hp} {xs : List V} {ds : List PyData} (hH : upd H p (.lst xs) = H') (hp : H p = none) (k : DUs H ds xs) : Same H H' ∧ DU H' (.list ds) (.ref p) ∧ H' p = some (.lst xs) := by
  subst hH
  have es := same_new hp (.lst xs)
  exact ⟨es, .lst upd_same (k.same es), upd_same⟩
theorem DU.items {H : Hp} {a : Addr} {ds : List PyData} {xs : List V} (h : DU H (.tuple ds) (.ref a)) (k : H a = some (.tup xs)) : DUs H ds xs := by
  obtain ⟨a', xs', e, h1, h2⟩ := h.unT
  cases e
  rw [k] at h1; cases h1
  exact h2
theorem DU.itemsL {H : Hp} {a : Addr} {ds : List PyData} {xs : List V} (h : DU H (.list ds) (.ref a)) (k : H a = some (.lst xs)) : DUs H ds xs := by
  obtain ⟨a', xs', e, h1, h2⟩ := h.unL
  cases e
  rw [k] at h1; cases h1
  exact h2
def cutD (ds : List PyData) (lo hi : Option Int) : List PyData := (ds.drop (HT.sIx ds.length 0 lo)).take (HT.sIx ds.length ds.length hi - HT.sIx ds.length 0 lo)
theorem DUs.cut {H : Hp} {ds : List PyData} {xs : List V} (lo hi : Option Int) (h : DUs H ds xs) : DUs H (cutD ds lo hi) (cutV xs lo hi) := by
  unfold cutD cutV
  rw [h.len]
  exact (h.drop _).take _
theorem nw_hi {n : Nat} {e : Int} (h0 : 0 ≤ e) (h1 : e < (n : Int)) : ¬ (HT.sIx n 0 none = 0 ∧ HT.sIx n n (some e) = n) := by
  rintro ⟨_, h⟩
  rw [show e = ((e.toNat : Nat) : Int) by omega, HT.sIx_nat] at h
  omega
theorem nw_lo {n : Nat} {e : Int} {hi : Option Int} (h0 : 0 ≤ e) (h1 : 1 ≤ n) : ¬ (HT.sIx n 0 (some (e + 1)) = 0 ∧ HT.sIx n n hi = n) := by
  rintro ⟨h, _⟩
  rw [show e + 1 = (((e + 1).toNat : Nat) : Int) by omega, HT.sIx_nat] at h
  omega
theorem six_last {n : Nat} (h1 : 1 ≤ n) : HT.sIx n n (some (-1)) = n - 1 := by
  unfold HT.sIx
  simp
  omega
theorem nw_last {n : Nat} (h1 : 1 ≤ n) : ¬ (HT.sIx n 0 none = 0 ∧ HT.sIx n n (some (-1)) = n) := by
  rintro ⟨_, h⟩
  rw [six_last h1] at h
  omega
theorem last_len {ps : List Int} {many : Nat} (hl : ps.length = many) (h1 : 1 ≤ many) : ¬ ((cutD (ps.map .int) none (some (-1))).length : Int) = many := by
  unfold cutD
  rw [HT.sIx_none, List.length_take, List.length_drop, List.length_map, six_last (by omega)]
  omega
theorem pow_mid {many : Nat} {xs ys : List PyData} {d : PyData} (h : powI d = false) : powD many (.tuple (xs ++ [d] ++ ys)) = false := by
  rw [powD]
  refine Bool.eq_false_iff.mpr fun z => ?_
  rw [Bool.and_eq_true, List.all_eq_true] at z
  rw [z.2 d (by simp)] at h
  cases h
theorem bad_pow {many : Nat} {p f : PyData} (h : powD many p = false) : termD many (.tuple [p, f]) = false := by rw [termD, h, Bool.false_and]
theorem bad_fr {many : Nat} {p f : PyData} (h : (isFrD f && !decide (topD f = 0)) = false) : termD many (.tuple [p, f]) = false := by rw [termD, h, Bool.and_false]
theorem fr_twice {a b : Int} (h : isFrD (.tuple [.int a, .int b]) = true) : (isFrD (.tuple [.int (2 * a), .int (2 * b)]) && !decide (topD (.tuple [.int (2 * a), .int (2 * b)]) = 0)) = false := by
  have : isFrD (.tuple [.int (2 * a), .int (2 * b)]) = false := by
    refine Bool.eq_false_iff.mpr fun z => ?_
    rw [isFrD, Bool.and_eq_true, beq_iff_eq] at z
    have z := z.2
    unfold FM.gi at z
    rw [Int.gcd_mul_left] at z
    have : ((Int.natAbs 2 * Int.gcd a b : Nat) : Int) = 1 := z
    simp at this
    omega
  rw [this, Bool.false_and]
theorem fr_zero (a : Int) : (isFrD (.tuple [.int a, .int 0]) && !decide (topD (.tuple [.int a, .int 0]) = 0)) = false := by
  rw [isFrD, decide_eq_false (by decide), Bool.false_and, Bool.false_and]
theorem fr_neg {a b : Int} (h : isFrD (.tuple [.int a, .int b]) = true) : (isFrD (.tuple [.int (0 - a), .int (0 - b)]) && !decide (topD (.tuple [.int (0 - a), .int (0 - b)]) = 0)) = false := by
  rw [isFrD, Bool.and_eq_true] at h
  have := of_decide_eq_true h.1
  rw [isFrD, decide_eq_false (by omega), Bool.false_and, Bool.false_and]
theorem cut_len1 {xs : List V} {lo hi : Option Int} (h : xs.length ≤ 50) {y : V} : (cutV xs lo hi).length + [y].length ≤ sizeLine := by
  have := cutV_length xs lo hi
  exact sz60' (by rw [List.length_singleton]; omega)
theorem cut_len2 {xs : List V} {lo hi lo' hi' : Option Int} (h : xs.length ≤ 25) {y : V} : (cutV xs lo hi ++ [y]).length + (cutV xs lo' hi').length ≤ sizeLine := by
  have h1 := cutV_length xs lo hi
  have h2 := cutV_length xs lo' hi'
  exact sz60' (by rw [List.length_append, List.length_singleton]; omega)
def spBadT : Sp := fun vs H Q _ => ∃ (v : V) (t : IT.Tm) (number : Int) (many : Nat), vs = [v, .int number, .int many] ∧ 1 ≤ many ∧ many ≤ 4 ∧ TmOk many t ∧ DU H (tmD t) v ∧ ∀ v' H' d', Same H H' → DU H' d' v' → termD many d' = false → Q v' H'
section
variable {P : Program} {w : World} {K : PySem.W.Frag} {mg : Str → Option Value} {base : Heap} {f g g1 g2 g3 g4 g5 : Addr} {fd gd gd1 gd2 gd3 gd4 gd5 : FuncData}
theorem sc__law_bad_term : FnScope ["_law_term", "_law_number", "_law_many", "_law_powers", "_law_part_here", "_law_place", "_law_bad"] ["_law_term", "_law_number", "_law_many"] (defScope s__law_bad_term) := ⟨rfl, rfl, rfl, by decide +kernel, rfl, by decide +kernel, by decide +kernel⟩
theorem ok__law_bad_term (F : Fn K mg "_law_bad_term" s__law_bad_term ["_law_term", "_law_number", "_law_many"] f fd) (z_list : mg "list" = none) : FnOk P w K mg base CX0 1 f fd ["_law_term", "_law_number", "_law_many"] spBadT := by
  have sc := sc__law_bad_term
  refine F.F.ok (k := 0) sc (fun vs H Q E h => ?_) (fun cdv A outer s H vs Q E hr h => ?_)
  · obtain ⟨v, t, number, many, rfl, _⟩ := h
    rfl
  obtain ⟨v, ⟨ps, fs⟩, number, many, rfl, hm1, hm4, ⟨hpl, hps, ta, tb, hfs, hta, hfr⟩, hd, q⟩ := h
  simp only at hpl hps hfs
  subst hfs
  obtain ⟨a, xs, rfl, ha, hx⟩ := hd.unT
  obtain ⟨x0, x1, rfl, dP, dF⟩ := hx.un2
  obtain ⟨P, rfl, hP⟩ := dP.ints
  obtain ⟨F, rfl, hF⟩ := dF.ints
  replace hF : H F = some (.tup [.int ta, .int tb]) := hF
  replace hP : H P = some (.tup (ps.map V.int)) := hP
  replace dP : DU H (.tuple (ps.map .int)) (.ref P) := dP
  replace dF : DU H (.tuple [.int ta, .int tb]) (.ref F) := dF
  have hxl : (ps.map V.int).length = many := by rw [List.length_map]; exact hpl
  refine ⟨_, (pss_cons (ps_asg (pv 0) (pg_tup rfl (pgs_cons (pg_name (i := 3) sc.nd rfl (Or.inl rfl)) (pgs_cons (pg_name (i := 4) sc.nd rfl (Or.inl rfl)) pgs_nil))))
  (pss_cons (ps_set (i := 5) sc.nd rfl (Or.inl rfl) (pe_op op_modN (pe_op op_fdiv (pv 1) pe_int) (pv 2)))
  (pss_cons (ps_set (i := 6) sc.nd rfl (Or.inl rfl) (pe_lst (pa_cons (pe_tup (pa_cons (pe_op op_catA (pv 3) (pe_tup (pa_cons pe_int pa_nil))) (pa_cons (pv 4) pa_nil))) (pa_cons (pe_tup (pa_cons (pe_slice sl_tup (pv 3) po_none (po_some (pe_un un_neg pe_int))) (pa_cons (pv 4) pa_nil))) (pa_cons (pe_tup (pa_cons (pe_op op_catA (pe_op op_catA (pe_slice sl_tup (pv 3) po_none (po_some (pv 5))) (pe_tup (pa_cons (pe_un un_neg pe_int) pa_nil))) (pe_slice sl_tup (pv 3) (po_some (pe_op op_add (pv 5) pe_int)) po_none)) (pa_cons (pv 4) pa_nil))) pa_nil)))))
  (pss_cons (ps_set (i := 6) sc.nd rfl (Or.inl rfl) (pe_op op_cat (pv 6) (pe_lst (pa_cons (pe_tup (pa_cons (pe_op op_catA (pe_op op_catA (pe_slice sl_tup (pv 3) po_none (po_some (pv 5))) (pe_tup (pa_cons pe_bl pa_nil))) (pe_slice sl_tup (pv 3) (po_some (pe_op op_add (pv 5) pe_int)) po_none)) (pa_cons (pv 4) pa_nil))) (pa_cons (pe_tup (pa_cons (pe_callTy call_list_of rfl z_list PyProof.Rows.boot_list (pa_cons (pv 3) pa_nil)) (pa_cons (pv 4) pa_nil))) (pa_cons (pe_tup (pa_cons (pv 3) (pa_cons (pe_tup (pa_cons pe_int (pa_cons pe_int pa_nil))) pa_nil))) pa_nil))))))
  (pss_cons (ps_set (i := 6) sc.nd rfl (Or.inl rfl) (pe_op op_cat (pv 6) (pe_lst (pa_cons (pe_tup (pa_cons (pv 3) (pa_cons (pe_tup (pa_cons (pe_op op_mulW pe_int (pe_ix ix_tup (pv 4) pe_int (fun _ _ => rfl))) (pa_cons (pe_op op_mulW pe_int (pe_ix ix_tup (pv 4) pe_int (fun _ _ => rfl))) pa_nil))) pa_nil))) (pa_cons (pe_tup (pa_cons (pv 3) (pa_cons (pe_tup (pa_cons (pe_ix ix_tup (pv 4) pe_int (fun _ _ => rfl)) (pa_cons pe_int pa_nil))) pa_nil))) (pa_cons (pe_tup (pa_cons (pv 3) (pa_cons (pe_tup (pa_cons (pe_op op_sub pe_int (pe_ix ix_tup (pv 4) pe_int (fun _ _ => rfl))) (pa_cons (pe_op op_sub pe_int (pe_ix ix_tup (pv 4) pe_int (fun _ _ => rfl))) pa_nil))) pa_nil))) pa_nil))))))
  (pss_cons (ps_set (i := 6) sc.nd rfl (Or.inl rfl) (pe_op op_cat (pv 6) (pe_lst (pa_cons (pe_tup (pa_cons (pv 3) (pa_cons (pe_ix ix_tup (pv 4) pe_int (fun _ _ => rfl)) pa_nil))) (pa_cons (pe_tup (pa_cons (pv 3) (pa_cons (pe_op op_catA (pv 4) (pe_tup (pa_cons pe_int pa_nil))) pa_nil))) (pa_cons (pe_tup (pa_cons (pv 3) (pa_cons (pe_callTy call_list_of rfl z_list PyProof.Rows.boot_list (pa_cons (pv 4) pa_nil)) pa_nil))) (pa_cons (pe_tup (pa_cons (pv 3) pa_nil)) (pa_cons (pe_lst (pa_cons (pv 3) (pa_cons (pv 4) pa_nil))) pa_nil))))))))
  (pss_cons (ps_set (i := 6) sc.nd rfl (Or.inl rfl) (pe_op op_cat (pv 6) (pe_lst (pa_cons (pe_tup (pa_cons (pe_op op_catA (pe_op op_catA (pe_slice sl_tup (pv 3) po_none (po_some (pv 5))) (pe_tup (pa_cons pe_str pa_nil))) (pe_slice sl_tup (pv 3) (po_some (pe_op op_add (pv 5) pe_int)) po_none)) (pa_cons (pv 4) pa_nil))) (pa_cons (pe_tup (pa_cons (pv 3) (pa_cons (pe_tup (pa_cons pe_bl (pa_cons pe_int pa_nil))) pa_nil))) pa_nil)))))
  (pss_one (ps_ret (pe_ix ix_list (pv 6) (pe_op op_mod (pv 1) pe_int) (fun _ _ => rfl))))))))))), ?_⟩
  refine ⟨_, rfl, a, _, rfl, SqT.of ha, rfl, _, _, rfl, _, _, rfl, rfl, ?_⟩
  refine ⟨_, rfl, _, _, rfl, rfl, ⟨by decide, by decide⟩, _, rfl, _, _, rfl, rfl, (by show ((many : Nat) : Int) ≠ 0; omega), ?_⟩
  have f0 := Int.fmod_nonneg_of_pos (number / 16) (show 0 < ((many : Nat) : Int) by omega)
  have f1 := Int.fmod_lt_of_pos (number / 16) (show 0 < ((many : Nat) : Int) by omega)
  have tr : Same H H := .refl H
  have acc : BA many H [] := .nil
  clear hd hx ha
  refine ⟨_, rfl, (by show 1 ≤ sizeLine; decide), fun p1 hp => ?_⟩
  generalize hH : upd _ p1 _ = H1
  obtain ⟨es, s2, hs2⟩ := du_t hH hp (.cons .int .nil)
  clear hH hp
  have tr := tr.trans es
  have hP := es _ _ hP
  have hF := es _ _ hF
  have dP := dP.same es
  have dF := dF.same es
  have acc := acc.same es
  clear es
  refine ⟨P, p1, _, _, rfl, rfl, hP, hs2, (sz60' (by rw [List.length_map, hpl]; show many + 1 ≤ 60; omega)), fun p2 H2 es hs3 => ?_⟩
  have s3 : DU H2 _ (.ref p2) := DU.tup hs3 (((dP.items hP).app (s2.items hs2)).same es)
  have tr := tr.trans es
  have hP := es _ _ hP
  have hF := es _ _ hF
  have hs2 := es _ _ hs2
  have dP := dP.same es
  have dF := dF.same es
  have s2 := s2.same es
  have acc := acc.same es
  clear es
  refine ⟨_, rfl, (by show 2 ≤ sizeLine; decide), fun p3 hp => ?_⟩
  generalize hH : upd _ p3 _ = H3
  obtain ⟨es, t1, ht1⟩ := du_t hH hp (.cons s3 (.cons dF .nil))
  clear hH hp
  have tr := tr.trans es
  have hP := es _ _ hP
  have hF := es _ _ hF
  have hs2 := es _ _ hs2
  have hs3 := es _ _ hs3
  have dP := dP.same es
  have dF := dF.same es
  have s2 := s2.same es
  have s3 := s3.same es
  have acc := acc.same es
  clear es
  have acc : BA many H3 [.ref p3] := acc.app (.cons ⟨_, t1, bad_pow (by rw [powD, decide_eq_false (by rw [List.length_append, List.length_map, hpl]; show ¬ (((many + 1 : Nat)) : Int) = many; omega), Bool.false_and])⟩ .nil)
  clear t1 ht1
  clear s2 hs2
  clear s3 hs3
  refine ⟨_, rfl, _, rfl, _, rfl, P, _, rfl, SqT.of hP, (nw_last (by omega)), fun p4 hp => ?_⟩
  generalize hH : upd _ p4 _ = H4
  obtain ⟨es, s1, hs1⟩ := du_t hH hp ((dP.items hP).cut _ _)
  clear hH hp
  have tr := tr.trans es
  have hP := es _ _ hP
  have hF := es _ _ hF
  have dP := dP.same es
  have dF := dF.same es
  have acc := acc.same es
  clear es
  refine ⟨_, rfl, (by show 2 ≤ sizeLine; decide), fun p5 hp => ?_⟩
  generalize hH : upd _ p5 _ = H5
  obtain ⟨es, t1, ht1⟩ := du_t hH hp (.cons s1 (.cons dF .nil))
  clear hH hp
  have tr := tr.trans es
  have hP := es _ _ hP
  have hF := es _ _ hF
  have hs1 := es _ _ hs1
  have dP := dP.same es
  have dF := dF.same es
  have s1 := s1.same es
  have acc := acc.same es
  clear es
  have acc : BA many H5 [.ref p3, .ref p5] := acc.app (.cons ⟨_, t1, bad_pow (by rw [powD, decide_eq_false (last_len hpl (by omega)), Bool.false_and])⟩ .nil)
  clear t1 ht1
  clear s1 hs1
  refine ⟨_, rfl, _, rfl, _, rfl, P, _, rfl, SqT.of hP, (nw_hi f0 (by omega)), fun p6 hp => ?_⟩
  generalize hH : upd _ p6 _ = H6
  obtain ⟨es, s1, hs1⟩ := du_t hH hp ((dP.items hP).cut _ _)
  clear hH hp
  have tr := tr.trans es
  have hP := es _ _ hP
  have hF := es _ _ hF
  have dP := dP.same es
  have dF := dF.same es
  have acc := acc.same es
  clear es
  refine ⟨_, rfl, (by show 1 ≤ sizeLine; decide), fun p7 hp => ?_⟩
  generalize hH : upd _ p7 _ = H7
  obtain ⟨es, s2, hs2⟩ := du_t hH hp (.cons .int .nil)
  clear hH hp
  have tr := tr.trans es
  have hP := es _ _ hP
  have hF := es _ _ hF
  have hs1 := es _ _ hs1
  have dP := dP.same es
  have dF := dF.same es
  have s1 := s1.same es
  have acc := acc.same es
  clear es
  refine ⟨p6, p7, _, _, rfl, rfl, hs1, hs2, (cut_len1 (by omega)), fun p8 H8 es hs3 => ?_⟩
  have s3 : DU H8 _ (.ref p8) := DU.tup hs3 (((s1.items hs1).app (s2.items hs2)).same es)
  have tr := tr.trans es
  have hP := es _ _ hP
  have hF := es _ _ hF
  have hs1 := es _ _ hs1
  have hs2 := es _ _ hs2
  have dP := dP.same es
  have dF := dF.same es
  have s1 := s1.same es
  have s2 := s2.same es
  have acc := acc.same es
  clear es
  refine ⟨_, rfl, _, rfl, _, _, rfl, rfl, _, rfl, P, _, rfl, SqT.of hP, (nw_lo f0 (by omega)), fun p9 hp => ?_⟩
  generalize hH : upd _ p9 _ = H9
  obtain ⟨es, s4, hs4⟩ := du_t hH hp ((dP.items hP).cut _ _)
  clear hH hp
  have tr := tr.trans es
  have hP := es _ _ hP
  have hF := es _ _ hF
  have hs1 := es _ _ hs1
  have hs2 := es _ _ hs2
  have hs3 := es _ _ hs3
  have dP := dP.same es
  have dF := dF.same es
  have s1 := s1.same es
  have s2 := s2.same es
  have s3 := s3.same es
  have acc := acc.same es
  clear es
  refine ⟨p8, p9, _, _, rfl, rfl, hs3, hs4, (cut_len2 (by omega)), fun p10 H10 es hs5 => ?_⟩
  have s5 : DU H10 _ (.ref p10) := DU.tup hs5 (((s3.items hs3).app (s4.items hs4)).same es)
  have tr := tr.trans es
  have hP := es _ _ hP
  have hF := es _ _ hF
  have hs1 := es _ _ hs1
  have hs2 := es _ _ hs2
  have hs3 := es _ _ hs3
  have hs4 := es _ _ hs4
  have dP := dP.same es
  have dF := dF.same es
  have s1 := s1.same es
  have s2 := s2.same es
  have s3 := s3.same es
  have s4 := s4.same es
  have acc := acc.same es
  clear es
  refine ⟨_, rfl, (by show 2 ≤ sizeLine; decide), fun p11 hp => ?_⟩
  generalize hH : upd _ p11 _ = H11
  obtain ⟨es, t1, ht1⟩ := du_t hH hp (.cons s5 (.cons dF .nil))
  clear hH hp
  have tr := tr.trans es
  have hP := es _ _ hP
  have hF := es _ _ hF
  have hs1 := es _ _ hs1
  have hs2 := es _ _ hs2
  have hs3 := es _ _ hs3
  have hs4 := es _ _ hs4
  have hs5 := es _ _ hs5
  have dP := dP.same es
  have dF := dF.same es
  have s1 := s1.same es
  have s2 := s2.same es
  have s3 := s3.same es
  have s4 := s4.same es
  have s5 := s5.same es
  have acc := acc.same es
  clear es
  have acc : BA many H11 [.ref p3, .ref p5, .ref p11] := acc.app (.cons ⟨_, t1, bad_pow (pow_mid (by decide))⟩ .nil)
  clear t1 ht1
  clear s1 hs1
  clear s2 hs2
  clear s3 hs3
  clear s4 hs4
  clear s5 hs5
  refine ⟨(by show 3 ≤ sizeLine; decide), fun p12 hp => ?_⟩
  generalize hH : upd _ p12 _ = H12
  have es : Same _ H12 := hH ▸ same_new hp _
  have hA : H12 p12 = _ := hH ▸ upd_same
  clear hH hp
  have tr := tr.trans es
  have hP := es _ _ hP
  have hF := es _ _ hF
  have dP := dP.same es
  have dF := dF.same es
  have acc := acc.same es
  clear es
  refine ⟨_, rfl, _, rfl, _, rfl, _, rfl, P, _, rfl, SqT.of hP, (nw_hi f0 (by omega)), fun p13 hp => ?_⟩
  generalize hH : upd _ p13 _ = H13
  obtain ⟨es, s1, hs1⟩ := du_t hH hp ((dP.items hP).cut _ _)
  clear hH hp
  have tr := tr.trans es
  have hP := es _ _ hP
  have hF := es _ _ hF
  have hA := es _ _ hA
  have dP := dP.same es
  have dF := dF.same es
  have acc := acc.same es
  clear es
  refine ⟨(by show 1 ≤ sizeLine; decide), fun p14 hp => ?_⟩
  generalize hH : upd _ p14 _ = H14
  obtain ⟨es, s2, hs2⟩ := du_t hH hp (.cons .bool .nil)
  clear hH hp
  have tr := tr.trans es
  have hP := es _ _ hP
  have hF := es _ _ hF
  have hA := es _ _ hA
  have hs1 := es _ _ hs1
  have dP := dP.same es
  have dF := dF.same es
  have s1 := s1.same es
  have acc := acc.same es
  clear es
  refine ⟨p13, p14, _, _, rfl, rfl, hs1, hs2, (cut_len1 (by omega)), fun p15 H15 es hs3 => ?_⟩
  have s3 : DU H15 _ (.ref p15) := DU.tup hs3 (((s1.items hs1).app (s2.items hs2)).same es)
  have tr := tr.trans es
  have hP := es _ _ hP
  have hF := es _ _ hF
  have hA := es _ _ hA
  have hs1 := es _ _ hs1
  have hs2 := es _ _ hs2
  have dP := dP.same es
  have dF := dF.same es
  have s1 := s1.same es
  have s2 := s2.same es
  have acc := acc.same es
  clear es
  refine ⟨_, rfl, _, rfl, _, _, rfl, rfl, _, rfl, P, _, rfl, SqT.of hP, (nw_lo f0 (by omega)), fun p16 hp => ?_⟩
  generalize hH : upd _ p16 _ = H16
  obtain ⟨es, s4, hs4⟩ := du_t hH hp ((dP.items hP).cut _ _)
  clear hH hp
  have tr := tr.trans es
  have hP := es _ _ hP
  have hF := es _ _ hF
  have hA := es _ _ hA
  have hs1 := es _ _ hs1
  have hs2 := es _ _ hs2
  have hs3 := es _ _ hs3
  have dP := dP.same es
  have dF := dF.same es
  have s1 := s1.same es
  have s2 := s2.same es
  have s3 := s3.same es
  have acc := acc.same es
  clear es
  refine ⟨p15, p16, _, _, rfl, rfl, hs3, hs4, (cut_len2 (by omega)), fun p17 H17 es hs5 => ?_⟩
  have s5 : DU H17 _ (.ref p17) := DU.tup hs5 (((s3.items hs3).app (s4.items hs4)).same es)
  have tr := tr.trans es
  have hP := es _ _ hP
  have hF := es _ _ hF
  have hA := es _ _ hA
  have hs1 := es _ _ hs1
  have hs2 := es _ _ hs2
  have hs3 := es _ _ hs3
  have hs4 := es _ _ hs4
  have dP := dP.same es
  have dF := dF.same es
  have s1 := s1.same es
  have s2 := s2.same es
  have s3 := s3.same es
  have s4 := s4.same es
  have acc := acc.same es
  clear es
  refine ⟨_, rfl, (by show 2 ≤ sizeLine; decide), fun p18 hp => ?_⟩
  generalize hH : upd _ p18 _ = H18
  obtain ⟨es, t1, ht1⟩ := du_t hH hp (.cons s5 (.cons dF .nil))
  clear hH hp
  have tr := tr.trans es
  have hP := es _ _ hP
  have hF := es _ _ hF
  have hA := es _ _ hA
  have hs1 := es _ _ hs1
  have hs2 := es _ _ hs2
  have hs3 := es _ _ hs3
  have hs4 := es _ _ hs4
  have hs5 := es _ _ hs5
  have dP := dP.same es
  have dF := dF.same es
  have s1 := s1.same es
  have s2 := s2.same es
  have s3 := s3.same es
  have s4 := s4.same es
  have s5 := s5.same es
  have acc := acc.same es
  clear es
  have acc : BA many H18 [.ref p3, .ref p5, .ref p11, .ref p18] := acc.app (.cons ⟨_, t1, bad_pow (pow_mid (by decide))⟩ .nil)
  clear t1 ht1
  clear s1 hs1
  clear s2 hs2
  clear s3 hs3
  clear s4 hs4
  clear s5 hs5
  refine ⟨_, rfl, P, _, rfl, .inr (SqT.of hP), fun p19 hp => ?_⟩
  generalize hH : upd _ p19 _ = H19
  obtain ⟨es, s1, hs1⟩ := du_l hH hp (dP.items hP)
  clear hH hp
  have tr := tr.trans es
  have hP := es _ _ hP
  have hF := es _ _ hF
  have hA := es _ _ hA
  have dP := dP.same es
  have dF := dF.same es
  have acc := acc.same es
  clear es
  refine ⟨_, rfl, (by show 2 ≤ sizeLine; decide), fun p20 hp => ?_⟩
  generalize hH : upd _ p20 _ = H20
  obtain ⟨es, t1, ht1⟩ := du_t hH hp (.cons s1 (.cons dF .nil))
  clear hH hp
  have tr := tr.trans es
  have hP := es _ _ hP
  have hF := es _ _ hF
  have hA := es _ _ hA
  have hs1 := es _ _ hs1
  have dP := dP.same es
  have dF := dF.same es
  have s1 := s1.same es
  have acc := acc.same es
  clear es
  have acc : BA many H20 [.ref p3, .ref p5, .ref p11, .ref p18, .ref p20] := acc.app (.cons ⟨_, t1, bad_pow rfl⟩ .nil)
  clear t1 ht1
  clear s1 hs1
  refine ⟨_, rfl, (by show 2 ≤ sizeLine; decide), fun p21 hp => ?_⟩
  generalize hH : upd _ p21 _ = H21
  obtain ⟨es, s1, hs1⟩ := du_t hH hp (.cons .int (.cons .int .nil))
  clear hH hp
  have tr := tr.trans es
  have hP := es _ _ hP
  have hF := es _ _ hF
  have hA := es _ _ hA
  have dP := dP.same es
  have dF := dF.same es
  have acc := acc.same es
  clear es
  refine ⟨(by show 2 ≤ sizeLine; decide), fun p22 hp => ?_⟩
  generalize hH : upd _ p22 _ = H22
  obtain ⟨es, t1, ht1⟩ := du_t hH hp (DUs.cons dP (.cons s1 .nil))
  clear hH hp
  have tr := tr.trans es
  have hP := es _ _ hP
  have hF := es _ _ hF
  have hA := es _ _ hA
  have hs1 := es _ _ hs1
  have dP := dP.same es
  have dF := dF.same es
  have s1 := s1.same es
  have acc := acc.same es
  clear es
  have acc : BA many H22 [.ref p3, .ref p5, .ref p11, .ref p18, .ref p20, .ref p22] := acc.app (.cons ⟨_, t1, bad_fr (by decide)⟩ .nil)
  clear t1 ht1
  clear s1 hs1
  refine ⟨(by show 3 ≤ sizeLine; decide), fun p23 hp => ?_⟩
  generalize hH : upd _ p23 _ = H23
  have es : Same _ H23 := hH ▸ same_new hp _
  have hM : H23 p23 = _ := hH ▸ upd_same
  clear hH hp
  have tr := tr.trans es
  have hP := es _ _ hP
  have hF := es _ _ hF
  have hA := es _ _ hA
  have dP := dP.same es
  have dF := dF.same es
  have acc := acc.same es
  clear es
  refine ⟨p12, p23, _, _, rfl, rfl, hA, hM, sz60' (show 6 ≤ 60 by decide), fun p24 hp => ?_⟩
  generalize hH : upd _ p24 _ = H24
  have es : Same _ H24 := hH ▸ same_new hp _
  have hB : H24 p24 = some (.lst [.ref p3, .ref p5, .ref p11, .ref p18, .ref p20, .ref p22]) := hH ▸ upd_same
  clear hH hp
  have tr := tr.trans es
  have hP := es _ _ hP
  have hF := es _ _ hF
  have dP := dP.same es
  have dF := dF.same es
  have acc := acc.same es
  clear es
  clear hA hM
  refine ⟨_, rfl, _, rfl, _, rfl, _, _, _, _, rfl, rfl, SqT.of hF, rfl, _, _, rfl, rfl, mulL (by decide) (by decide), _, rfl, _, _, _, _, rfl, rfl, SqT.of hF, rfl, _, _, rfl, rfl, mulL (by decide) (by decide), (by show 2 ≤ sizeLine; decide), fun p25 hp => ?_⟩
  generalize hH : upd _ p25 _ = H25
  obtain ⟨es, s1, hs1⟩ := du_t hH hp (.cons .int (.cons .int .nil))
  clear hH hp
  have tr := tr.trans es
  have hP := es _ _ hP
  have hF := es _ _ hF
  have hB := es _ _ hB
  have dP := dP.same es
  have dF := dF.same es
  have acc := acc.same es
  clear es
  refine ⟨(by show 2 ≤ sizeLine; decide), fun p26 hp => ?_⟩
  generalize hH : upd _ p26 _ = H26
  obtain ⟨es, t1, ht1⟩ := du_t hH hp (DUs.cons dP (.cons s1 .nil))
  clear hH hp
  have tr := tr.trans es
  have hP := es _ _ hP
  have hF := es _ _ hF
  have hB := es _ _ hB
  have hs1 := es _ _ hs1
  have dP := dP.same es
  have dF := dF.same es
  have s1 := s1.same es
  have acc := acc.same es
  clear es
  have acc : BA many H26 [.ref p3, .ref p5, .ref p11, .ref p18, .ref p20, .ref p22, .ref p26] := acc.app (.cons ⟨_, t1, bad_fr (fr_twice hfr)⟩ .nil)
  clear t1 ht1
  clear s1 hs1
  refine ⟨_, rfl, _, rfl, _, _, _, _, rfl, rfl, SqT.of hF, rfl, (by show 2 ≤ sizeLine; decide), fun p27 hp => ?_⟩
  generalize hH : upd _ p27 _ = H27
  obtain ⟨es, s1, hs1⟩ := du_t hH hp (.cons .int (.cons .int .nil))
  clear hH hp
  have tr := tr.trans es
  have hP := es _ _ hP
  have hF := es _ _ hF
  have hB := es _ _ hB
  have dP := dP.same es
  have dF := dF.same es
  have acc := acc.same es
  clear es
  refine ⟨(by show 2 ≤ sizeLine; decide), fun p28 hp => ?_⟩
  generalize hH : upd _ p28 _ = H28
  obtain ⟨es, t1, ht1⟩ := du_t hH hp (DUs.cons dP (.cons s1 .nil))
  clear hH hp
  have tr := tr.trans es
  have hP := es _ _ hP
  have hF := es _ _ hF
  have hB := es _ _ hB
  have hs1 := es _ _ hs1
  have dP := dP.same es
  have dF := dF.same es
  have s1 := s1.same es
  have acc := acc.same es
  clear es
  have acc : BA many H28 [.ref p3, .ref p5, .ref p11, .ref p18, .ref p20, .ref p22, .ref p26, .ref p28] := acc.app (.cons ⟨_, t1, bad_fr (fr_zero _)⟩ .nil)
  clear t1 ht1
  clear s1 hs1
  refine ⟨_, rfl, _, rfl, _, _, _, _, rfl, rfl, SqT.of hF, rfl, _, _, rfl, rfl, _, rfl, _, _, _, _, rfl, rfl, SqT.of hF, rfl, _, _, rfl, rfl, (by show 2 ≤ sizeLine; decide), fun p29 hp => ?_⟩
  generalize hH : upd _ p29 _ = H29
  obtain ⟨es, s1, hs1⟩ := du_t hH hp (.cons .int (.cons .int .nil))
  clear hH hp
  have tr := tr.trans es
  have hP := es _ _ hP
  have hF := es _ _ hF
  have hB := es _ _ hB
  have dP := dP.same es
  have dF := dF.same es
  have acc := acc.same es
  clear es
  refine ⟨(by show 2 ≤ sizeLine; decide), fun p30 hp => ?_⟩
  generalize hH : upd _ p30 _ = H30
  obtain ⟨es, t1, ht1⟩ := du_t hH hp (DUs.cons dP (.cons s1 .nil))
  clear hH hp
  have tr := tr.trans es
  have hP := es _ _ hP
  have hF := es _ _ hF
  have hB := es _ _ hB
  have hs1 := es _ _ hs1
  have dP := dP.same es
  have dF := dF.same es
  have s1 := s1.same es
  have acc := acc.same es
  clear es
  have acc : BA many H30 [.ref p3, .ref p5, .ref p11, .ref p18, .ref p20, .ref p22, .ref p26, .ref p28, .ref p30] := acc.app (.cons ⟨_, t1, bad_fr (fr_neg hfr)⟩ .nil)
  clear t1 ht1
  clear s1 hs1
  refine ⟨(by show 3 ≤ sizeLine; decide), fun p31 hp => ?_⟩
  generalize hH : upd _ p31 _ = H31
  have es : Same _ H31 := hH ▸ same_new hp _
  have hM : H31 p31 = _ := hH ▸ upd_same
  clear hH hp
  have tr := tr.trans es
  have hP := es _ _ hP
  have hF := es _ _ hF
  have hB := es _ _ hB
  have dP := dP.same es
  have dF := dF.same es
  have acc := acc.same es
  clear es
  refine ⟨p24, p31, _, _, rfl, rfl, hB, hM, sz60' (show 9 ≤ 60 by decide), fun p32 hp => ?_⟩
  generalize hH : upd _ p32 _ = H32
  have es : Same _ H32 := hH ▸ same_new hp _
  have hA : H32 p32 = some (.lst [.ref p3, .ref p5, .ref p11, .ref p18, .ref p20, .ref p22, .ref p26, .ref p28, .ref p30]) := hH ▸ upd_same
  clear hH hp
  have tr := tr.trans es
  have hP := es _ _ hP
  have hF := es _ _ hF
  have dP := dP.same es
  have dF := dF.same es
  have acc := acc.same es
  clear es
  clear hB hM
  refine ⟨_, rfl, _, rfl, _, rfl, _, _, _, _, rfl, rfl, SqT.of hF, rfl, (by show 2 ≤ sizeLine; decide), fun p33 hp => ?_⟩
  generalize hH : upd _ p33 _ = H33
  obtain ⟨es, t1, ht1⟩ := du_t hH hp (DUs.cons dP (.cons .int .nil))
  clear hH hp
  have tr := tr.trans es
  have hP := es _ _ hP
  have hF := es _ _ hF
  have hA := es _ _ hA
  have dP := dP.same es
  have dF := dF.same es
  have acc := acc.same es
  clear es
  have acc : BA many H33 [.ref p3, .ref p5, .ref p11, .ref p18, .ref p20, .ref p22, .ref p26, .ref p28, .ref p30, .ref p33] := acc.app (.cons ⟨_, t1, bad_fr rfl⟩ .nil)
  clear t1 ht1
  refine ⟨_, rfl, _, rfl, (by show 1 ≤ sizeLine; decide), fun p34 hp => ?_⟩
  generalize hH : upd _ p34 _ = H34
  obtain ⟨es, s2, hs2⟩ := du_t hH hp (.cons .int .nil)
  clear hH hp
  have tr := tr.trans es
  have hP := es _ _ hP
  have hF := es _ _ hF
  have hA := es _ _ hA
  have dP := dP.same es
  have dF := dF.same es
  have acc := acc.same es
  clear es
  refine ⟨F, p34, _, _, rfl, rfl, hF, hs2, (sz60' (show 3 ≤ 60 by decide)), fun p35 H35 es hs3 => ?_⟩
  have s3 : DU H35 _ (.ref p35) := DU.tup hs3 (((dF.items hF).app (s2.items hs2)).same es)
  have tr := tr.trans es
  have hP := es _ _ hP
  have hF := es _ _ hF
  have hA := es _ _ hA
  have hs2 := es _ _ hs2
  have dP := dP.same es
  have dF := dF.same es
  have s2 := s2.same es
  have acc := acc.same es
  clear es
  refine ⟨(by show 2 ≤ sizeLine; decide), fun p36 hp => ?_⟩
  generalize hH : upd _ p36 _ = H36
  obtain ⟨es, t1, ht1⟩ := du_t hH hp (DUs.cons dP (.cons s3 .nil))
  clear hH hp
  have tr := tr.trans es
  have hP := es _ _ hP
  have hF := es _ _ hF
  have hA := es _ _ hA
  have hs2 := es _ _ hs2
  have hs3 := es _ _ hs3
  have dP := dP.same es
  have dF := dF.same es
  have s2 := s2.same es
  have s3 := s3.same es
  have acc := acc.same es
  clear es
  have acc : BA many H36 [.ref p3, .ref p5, .ref p11, .ref p18, .ref p20, .ref p22, .ref p26, .ref p28, .ref p30, .ref p33, .ref p36] := acc.app (.cons ⟨_, t1, bad_fr rfl⟩ .nil)
  clear t1 ht1
  clear s2 hs2
  clear s3 hs3
  refine ⟨_, rfl, _, rfl, F, _, rfl, .inr (SqT.of hF), fun p37 hp => ?_⟩
  generalize hH : upd _ p37 _ = H37
  obtain ⟨es, s1, hs1⟩ := du_l hH hp (dF.items hF)
  clear hH hp
  have tr := tr.trans es
  have hP := es _ _ hP
  have hF := es _ _ hF
  have hA := es _ _ hA
  have dP := dP.same es
  have dF := dF.same es
  have acc := acc.same es
  clear es
  refine ⟨(by show 2 ≤ sizeLine; decide), fun p38 hp => ?_⟩
  generalize hH : upd _ p38 _ = H38
  obtain ⟨es, t1, ht1⟩ := du_t hH hp (DUs.cons dP (.cons s1 .nil))
  clear hH hp
  have tr := tr.trans es
  have hP := es _ _ hP
  have hF := es _ _ hF
  have hA := es _ _ hA
  have hs1 := es _ _ hs1
  have dP := dP.same es
  have dF := dF.same es
  have s1 := s1.same es
  have acc := acc.same es
  clear es
  have acc : BA many H38 [.ref p3, .ref p5, .ref p11, .ref p18, .ref p20, .ref p22, .ref p26, .ref p28, .ref p30, .ref p33, .ref p36, .ref p38] := acc.app (.cons ⟨_, t1, bad_fr rfl⟩ .nil)
  clear t1 ht1
  clear s1 hs1
  refine ⟨_, rfl, (by show 1 ≤ sizeLine; decide), fun p39 hp => ?_⟩
  generalize hH : upd _ p39 _ = H39
  obtain ⟨es, t1, ht1⟩ := du_t hH hp (DUs.cons dP .nil)
  clear hH hp
  have tr := tr.trans es
  have hP := es _ _ hP
  have hF := es _ _ hF
  have hA := es _ _ hA
  have dP := dP.same es
  have dF := dF.same es
  have acc := acc.same es
  clear es
  have acc : BA many H39 [.ref p3, .ref p5, .ref p11, .ref p18, .ref p20, .ref p22, .ref p26, .ref p28, .ref p30, .ref p33, .ref p36, .ref p38, .ref p39] := acc.app (.cons ⟨_, t1, rfl⟩ .nil)
  clear t1 ht1
  refine ⟨_, rfl, _, rfl, (by show 2 ≤ sizeLine; decide), fun p40 hp => ?_⟩
  generalize hH : upd _ p40 _ = H40
  obtain ⟨es, t1, ht1⟩ := du_l hH hp (DUs.cons dP (.cons dF .nil))
  clear hH hp
  have tr := tr.trans es
  have hP := es _ _ hP
  have hF := es _ _ hF
  have hA := es _ _ hA
  have dP := dP.same es
  have dF := dF.same es
  have acc := acc.same es
  clear es
  have acc : BA many H40 [.ref p3, .ref p5, .ref p11, .ref p18, .ref p20, .ref p22, .ref p26, .ref p28, .ref p30, .ref p33, .ref p36, .ref p38, .ref p39, .ref p40] := acc.app (.cons ⟨_, t1, rfl⟩ .nil)
  clear t1 ht1
  refine ⟨(by show 5 ≤ sizeLine; decide), fun p41 hp => ?_⟩
  generalize hH : upd _ p41 _ = H41
  have es : Same _ H41 := hH ▸ same_new hp _
  have hM : H41 p41 = _ := hH ▸ upd_same
  clear hH hp
  have tr := tr.trans es
  have hP := es _ _ hP
  have hF := es _ _ hF
  have hA := es _ _ hA
  have dP := dP.same es
  have dF := dF.same es
  have acc := acc.same es
  clear es
  refine ⟨p32, p41, _, _, rfl, rfl, hA, hM, sz60' (show 14 ≤ 60 by decide), fun p42 hp => ?_⟩
  generalize hH : upd _ p42 _ = H42
  have es : Same _ H42 := hH ▸ same_new hp _
  have hB : H42 p42 = some (.lst [.ref p3, .ref p5, .ref p11, .ref p18, .ref p20, .ref p22, .ref p26, .ref p28, .ref p30, .ref p33, .ref p36, .ref p38, .ref p39, .ref p40]) := hH ▸ upd_same
  clear hH hp
  have tr := tr.trans es
  have hP := es _ _ hP
  have hF := es _ _ hF
  have dP := dP.same es
  have dF := dF.same es
  have acc := acc.same es
  clear es
  clear hA hM
  refine ⟨_, rfl, _, rfl, _, rfl, _, rfl, P, _, rfl, SqT.of hP, (nw_hi f0 (by omega)), fun p43 hp => ?_⟩
  generalize hH : upd _ p43 _ = H43
  obtain ⟨es, s1, hs1⟩ := du_t hH hp ((dP.items hP).cut _ _)
  clear hH hp
  have tr := tr.trans es
  have hP := es _ _ hP
  have hF := es _ _ hF
  have hB := es _ _ hB
  have dP := dP.same es
  have dF := dF.same es
  have acc := acc.same es
  clear es
  refine ⟨(by show 1 ≤ sizeLine; decide), fun p44 hp => ?_⟩
  generalize hH : upd _ p44 _ = H44
  obtain ⟨es, s2, hs2⟩ := du_t hH hp (.cons .str .nil)
  clear hH hp
  have tr := tr.trans es
  have hP := es _ _ hP
  have hF := es _ _ hF
  have hB := es _ _ hB
  have hs1 := es _ _ hs1
  have dP := dP.same es
  have dF := dF.same es
  have s1 := s1.same es
  have acc := acc.same es
  clear es
  refine ⟨p43, p44, _, _, rfl, rfl, hs1, hs2, (cut_len1 (by omega)), fun p45 H45 es hs3 => ?_⟩
  have s3 : DU H45 _ (.ref p45) := DU.tup hs3 (((s1.items hs1).app (s2.items hs2)).same es)
  have tr := tr.trans es
  have hP := es _ _ hP
  have hF := es _ _ hF
  have hB := es _ _ hB
  have hs1 := es _ _ hs1
  have hs2 := es _ _ hs2
  have dP := dP.same es
  have dF := dF.same es
  have s1 := s1.same es
  have s2 := s2.same es
  have acc := acc.same es
  clear es
  refine ⟨_, rfl, _, rfl, _, _, rfl, rfl, _, rfl, P, _, rfl, SqT.of hP, (nw_lo f0 (by omega)), fun p46 hp => ?_⟩
  generalize hH : upd _ p46 _ = H46
  obtain ⟨es, s4, hs4⟩ := du_t hH hp ((dP.items hP).cut _ _)
  clear hH hp
  have tr := tr.trans es
  have hP := es _ _ hP
  have hF := es _ _ hF
  have hB := es _ _ hB
  have hs1 := es _ _ hs1
  have hs2 := es _ _ hs2
  have hs3 := es _ _ hs3
  have dP := dP.same es
  have dF := dF.same es
  have s1 := s1.same es
  have s2 := s2.same es
  have s3 := s3.same es
  have acc := acc.same es
  clear es
  refine ⟨p45, p46, _, _, rfl, rfl, hs3, hs4, (cut_len2 (by omega)), fun p47 H47 es hs5 => ?_⟩
  have s5 : DU H47 _ (.ref p47) := DU.tup hs5 (((s3.items hs3).app (s4.items hs4)).same es)
  have tr := tr.trans es
  have hP := es _ _ hP
  have hF := es _ _ hF
  have hB := es _ _ hB
  have hs1 := es _ _ hs1
  have hs2 := es _ _ hs2
  have hs3 := es _ _ hs3
  have hs4 := es _ _ hs4
  have dP := dP.same es
  have dF := dF.same es
  have s1 := s1.same es
  have s2 := s2.same es
  have s3 := s3.same es
  have s4 := s4.same es
  have acc := acc.same es
  clear es
  refine ⟨_, rfl, (by show 2 ≤ sizeLine; decide), fun p48 hp => ?_⟩
  generalize hH : upd _ p48 _ = H48
  obtain ⟨es, t1, ht1⟩ := du_t hH hp (.cons s5 (.cons dF .nil))
  clear hH hp
  have tr := tr.trans es
  have hP := es _ _ hP
  have hF := es _ _ hF
  have hB := es _ _ hB
  have hs1 := es _ _ hs1
  have hs2 := es _ _ hs2
  have hs3 := es _ _ hs3
  have hs4 := es _ _ hs4
  have hs5 := es _ _ hs5
  have dP := dP.same es
  have dF := dF.same es
  have s1 := s1.same es
  have s2 := s2.same es
  have s3 := s3.same es
  have s4 := s4.same es
  have s5 := s5.same es
  have acc := acc.same es
  clear es
  have acc : BA many H48 [.ref p3, .ref p5, .ref p11, .ref p18, .ref p20, .ref p22, .ref p26, .ref p28, .ref p30, .ref p33, .ref p36, .ref p38, .ref p39, .ref p40, .ref p48] := acc.app (.cons ⟨_, t1, bad_pow (pow_mid (by decide))⟩ .nil)
  clear t1 ht1
  clear s1 hs1
  clear s2 hs2
  clear s3 hs3
  clear s4 hs4
  clear s5 hs5
  refine ⟨_, rfl, (by show 2 ≤ sizeLine; decide), fun p49 hp => ?_⟩
  generalize hH : upd _ p49 _ = H49
  obtain ⟨es, s1, hs1⟩ := du_t hH hp (.cons .bool (.cons .int .nil))
  clear hH hp
  have tr := tr.trans es
  have hP := es _ _ hP
  have hF := es _ _ hF
  have hB := es _ _ hB
  have dP := dP.same es
  have dF := dF.same es
  have acc := acc.same es
  clear es
  refine ⟨(by show 2 ≤ sizeLine; decide), fun p50 hp => ?_⟩
  generalize hH : upd _ p50 _ = H50
  obtain ⟨es, t1, ht1⟩ := du_t hH hp (DUs.cons dP (.cons s1 .nil))
  clear hH hp
  have tr := tr.trans es
  have hP := es _ _ hP
  have hF := es _ _ hF
  have hB := es _ _ hB
  have hs1 := es _ _ hs1
  have dP := dP.same es
  have dF := dF.same es
  have s1 := s1.same es
  have acc := acc.same es
  clear es
  have acc : BA many H50 [.ref p3, .ref p5, .ref p11, .ref p18, .ref p20, .ref p22, .ref p26, .ref p28, .ref p30, .ref p33, .ref p36, .ref p38, .ref p39, .ref p40, .ref p48, .ref p50] := acc.app (.cons ⟨_, t1, bad_fr rfl⟩ .nil)
  clear t1 ht1
  clear s1 hs1
  refine ⟨(by show 2 ≤ sizeLine; decide), fun p51 hp => ?_⟩
  generalize hH : upd _ p51 _ = H51
  have es : Same _ H51 := hH ▸ same_new hp _
  have hM : H51 p51 = _ := hH ▸ upd_same
  clear hH hp
  have tr := tr.trans es
  have hP := es _ _ hP
  have hF := es _ _ hF
  have hB := es _ _ hB
  have dP := dP.same es
  have dF := dF.same es
  have acc := acc.same es
  clear es
  refine ⟨p42, p51, _, _, rfl, rfl, hB, hM, sz60' (show 16 ≤ 60 by decide), fun p52 hp => ?_⟩
  generalize hH : upd _ p52 _ = H52
  have es : Same _ H52 := hH ▸ same_new hp _
  have hA : H52 p52 = some (.lst [.ref p3, .ref p5, .ref p11, .ref p18, .ref p20, .ref p22, .ref p26, .ref p28, .ref p30, .ref p33, .ref p36, .ref p38, .ref p39, .ref p40, .ref p48, .ref p50]) := hH ▸ upd_same
  clear hH hp
  have tr := tr.trans es
  have hP := es _ _ hP
  have hF := es _ _ hF
  have dP := dP.same es
  have dF := dF.same es
  have acc := acc.same es
  clear es
  clear hB hM
  obtain ⟨v', k1, d', k2, k3⟩ := acc.at (i := number % 16) (by omega) (by show number % 16 < 16; omega)
  exact ⟨_, rfl, _, rfl, _, _, rfl, rfl, (by show (0 : Int) < 16; decide), _, _, _, _, rfl, rfl, SqL.of hA, k1, q v' _ d' tr k2 k3⟩
end
theorem chg_at {ds : List PyData} {d : PyData} (hd : d ∈ ds) (h : polyD ds.length d = false) : chgD (.list ds) = false := by
  rw [chgD]
  refine Bool.eq_false_iff.mpr fun z => ?_
  rw [Bool.and_eq_true, List.all_eq_true] at z
  rw [z.2 d hd] at h
  cases h
theorem chg_mid {xs ys : List PyData} {d : PyData} (h : ∀ n, polyD n d = false) : chgD (.list (xs ++ [d] ++ ys)) = false := chg_at (d := d) (by simp) (h _)
theorem chg_midn {xs ys : List PyData} {d : PyData} {many : Nat} (hl : (xs ++ [d] ++ ys).length = many) (h : polyD many d = false) : chgD (.list (xs ++ [d] ++ ys)) = false := chg_at (d := d) (by simp) (by rw [hl]; exact h)
theorem poly_no {n : Int} {ds : List PyData} {k : Nat} (hk : k < ds.length) (h : termAt n ds k = false) : polyD n (.list ds) = false := by
  rw [polyD]
  refine Bool.eq_false_iff.mpr fun z => ?_
  rw [List.all_eq_true] at z
  rw [z k (List.mem_range.mpr hk)] at h
  cases h
theorem term_no {n : Int} {ds : List PyData} {k : Nat} {d : PyData} (hd : ds[k]? = some d) (h : termD n d = false) : termAt n ds k = false := by
  unfold termAt
  rw [hd]
  simp only
  rw [h, Bool.false_and]
theorem bad_frI {n : Int} {p f : PyData} (h : (isFrD f && !decide (topD f = 0)) = false) : termD n (.tuple [p, f]) = false := by rw [termD, h, Bool.and_false]
theorem poly_head {n : Int} {d : PyData} {ds : List PyData} (h : termD n d = false) : polyD n (.list (d :: ds)) = false := poly_no (k := 0) (by simp) (term_no rfl h)
theorem poly_mid {n : Int} {xs ys : List PyData} {d : PyData} (h : termD n d = false) : polyD n (.list (xs ++ [d] ++ ys)) = false := poly_no (k := xs.length) (by simp) (term_no (by simp) h)
theorem lt_no {n : Int} {ds : List PyData} {k : Nat} {d e : PyData} (h0 : 0 < k) (hd : ds[k]? = some d) (he : ds[k - 1]? = some e) (h : IT.lt (pwD d) (pwD e) = false) : polyD n (.list ds) = false := by
  refine poly_no (k := k) (List.getElem?_eq_some_iff.mp hd).1 ?_
  unfold termAt
  rw [hd, he]
  simp only
  rw [h, decide_eq_false (by omega), Bool.false_or, Bool.and_false]
theorem poly_twice {n : Int} {us : List IT.Tm} (hne : us ≠ []) : polyD n (.list (us.map tmD ++ [tmD (us.getLast hne)])) = false := by
  have hl : 0 < us.length := List.length_pos_iff.mpr hne
  refine lt_no (k := us.length) (d := tmD (us.getLast hne)) (e := tmD (us.getLast hne)) hl (by simp) ?_ (IT.lt_irrefl _)
  rw [List.getElem?_append_left (by rw [List.length_map]; omega), List.getElem?_map, List.getLast_eq_getElem, List.getElem?_eq_getElem (by omega)]
  rfl
theorem lt_asymm {a b : List Int} (h : IT.lt a b = true) : IT.lt b a = false := by
  cases z : IT.lt b a with
  | false => rfl
  | true => have := IT.lt_trans _ _ _ h z; rw [IT.lt_irrefl] at this; cases this
theorem poly_back {n : Int} {many : Nat} {us : List IT.Tm} (h : PolyOk many us) (hg : 1 < us.length) : polyD n (.list (us.map tmD).reverse) = false := by
  have hl : (us.map tmD).length = us.length := List.length_map _
  refine lt_no (k := 1) (d := tmD (us[us.length - 2]'(by omega))) (e := tmD (us[us.length - 1]'(by omega))) (by decide) ?_ ?_ ?_
  · rw [List.getElem?_reverse (by omega), hl, List.getElem?_map, List.getElem?_eq_getElem (by omega)]
    rfl
  · rw [List.getElem?_reverse (by omega), hl, List.getElem?_map, List.getElem?_eq_getElem (by omega)]
    rfl
  · rw [pwD_tm, pwD_tm]
    exact lt_asymm (List.pairwise_iff_getElem.mp h.2.2 (us.length - 2) (us.length - 1) (by omega) (by omega) (by omega))
theorem last_at {H : Hp} {us : List IT.Tm} {ys : List V} (dy : DUs H (us.map tmD) ys) (hne : us ≠ []) : ∃ u, atI ys (-1) = some u ∧ DU H (tmD (us.getLast hne)) u := by
  have hl := dy.len
  rw [List.length_map] at hl
  have hp : 0 < us.length := List.length_pos_iff.mpr hne
  obtain ⟨v, h1, h2⟩ := dy.get (i := us.length - 1) (d := tmD (us.getLast hne)) (by rw [List.getElem?_map, List.getLast_eq_getElem, List.getElem?_eq_getElem (by omega)]; rfl)
  refine ⟨v, ?_, h2⟩
  unfold atI ixN
  rw [if_neg (by decide), if_pos (by omega), show ((-1 : Int) + (ys.length : Int)).toNat = us.length - 1 by omega]
  exact h1
theorem term_at {H : Hp} {many : Nat} {us : List IT.Tm} {ys : List V} {i : Int} (dy : DUs H (us.map tmD) ys) (h : PolyOk many us) (h0 : 0 ≤ i) (h1 : i < (ys.length : Nat)) : ∃ u t, atI ys i = some u ∧ DU H (tmD t) u ∧ TmOk many t := by
  have hl := dy.len
  rw [List.length_map] at hl
  have hi : i.toNat < us.length := by omega
  obtain ⟨v, k1, k2⟩ := dy.get (i := i.toNat) (d := tmD us[i.toNat]) (by rw [List.getElem?_map, List.getElem?_eq_getElem hi]; rfl)
  refine ⟨v, us[i.toNat], ?_, k2, h.2.1 _ (List.getElem_mem hi)⟩
  have := atI_nat (xs := ys) (j := i.toNat) k1
  rwa [show ((i.toNat : Nat) : Int) = i by omega] at this
theorem poly_at {H : Hp} {many : Nat} {uss : List (List IT.Tm)} {xs : List V} {i : Int} (dx : DUs H (uss.map polyDt) xs) (h : ∀ us ∈ uss, PolyOk many us) (h0 : 0 ≤ i) (h1 : i < (xs.length : Nat)) : ∃ u us, atI xs i = some u ∧ DU H (polyDt us) u ∧ PolyOk many us := by
  have hl := dx.len
  rw [List.length_map] at hl
  have hi : i.toNat < uss.length := by omega
  obtain ⟨v, k1, k2⟩ := dx.get (i := i.toNat) (d := polyDt uss[i.toNat]) (by rw [List.getElem?_map, List.getElem?_eq_getElem hi]; rfl)
  refine ⟨v, uss[i.toNat], ?_, k2, h _ (List.getElem_mem hi)⟩
  have := atI_nat (xs := xs) (j := i.toNat) k1
  rwa [show ((i.toNat : Nat) : Int) = i by omega] at this
theorem mid_len {uss : List (List IT.Tm)} {many : Nat} {e : Int} {d : PyData} (hl : uss.length = many) (h0 : 0 ≤ e) (h1 : e < (many : Nat)) : (cutD (uss.map polyDt) none (some e) ++ [d] ++ cutD (uss.map polyDt) (some (e + 1)) none).length = many := by
  unfold cutD
  rw [show e = ((e.toNat : Nat) : Int) by omega, show ((e.toNat : Nat) : Int) + 1 = ((e.toNat + 1 : Nat) : Int) by omega]
  simp only [HT.sIx_none, HT.sIx_nat, List.length_append, List.length_take, List.length_drop, List.length_map, List.length_singleton]
  omega
theorem poly_wrong {many : Nat} {n : Int} {us : List IT.Tm} (hne : us ≠ []) (h : PolyOk many us) (hn : n ≠ (many : Int)) : polyD n (polyDt us) = false := by
  cases us with
  | nil => exact absurd rfl hne
  | cons t us =>
    rw [polyDt, List.map_cons]
    refine poly_head ?_
    have ht := h.2.1 t List.mem_cons_self
    rw [tmD, termD, powD, decide_eq_false (by rw [List.length_map, ht.1]; exact fun z => hn z.symm), Bool.false_and, Bool.false_and]
theorem chg_wrong {many : Nat} {uss : List (List IT.Tm)} (h : ∃ us ∈ uss, us ≠ [] ∧ PolyOk many us) (hn : uss.length ≠ many) : chgD (.list (uss.map polyDt)) = false := by
  obtain ⟨us, h1, h2, h3⟩ := h
  refine chg_at (List.mem_map_of_mem h1) ?_
  rw [List.length_map]
  exact poly_wrong h2 h3 (by omega)
theorem all_nil : ∀ {uss : List (List IT.Tm)}, (∀ us ∈ uss, us = []) → uss.map polyDt = List.replicate uss.length (.list [])
  | [], _ => rfl
  | us :: uss, h => by
    rw [List.map_cons, List.length_cons, List.replicate_succ, all_nil fun u hu => h u (List.mem_cons_of_mem _ hu), h us List.mem_cons_self]
    rfl
theorem nil_can : ∀ k, PyData.canLayAll0 (List.replicate k (.list [])) = true
  | 0 => by simp [PyData.canLayAll0]
  | k + 1 => by rw [List.replicate_succ]; simp [PyData.canLayAll0, PyData.canLay0, nil_can k]
theorem not_nil {uss : List (List IT.Tm)} {k : Nat} (hl : uss.length = k) (h : PyData.eqv (.list (uss.map polyDt)) (.list (List.replicate k (.list []))) = false) : ∃ us ∈ uss, us ≠ [] := by
  by_cases z : ∃ us ∈ uss, us ≠ []
  · exact z
  · exfalso
    have e := all_nil (uss := uss) fun us hu => by
      by_cases y : us = []
      · exact y
      · exact absurd ⟨us, hu, y⟩ z
    rw [e, hl, eqv_self _ (by simp only [PyData.canLay0]; exact nil_can k)] at h
    cases h
theorem sm_nils {k : Nat} (h : k ≤ 60) : Sm 2 (.list (List.replicate k (.list []))) := by
  refine .lst (by rw [List.length_replicate]; omega) fun e he => ?_
  rw [List.eq_of_mem_replicate he]
  exact .lst (by decide) fun _ z => (List.not_mem_nil z).elim
theorem sm_ints {n : Nat} {ps : List Int} (h : ps.length ≤ 60) : Sm (n + 1) (.tuple (ps.map .int)) := by
  refine .tup (by rw [List.length_map]; omega) fun e he => ?_
  obtain ⟨i, _, rfl⟩ := List.mem_map.mp he
  exact leaf.sm trivial
theorem sm_tm {many : Nat} {t : IT.Tm} (hm : many ≤ 4) (h : TmOk many t) : Sm 2 (tmD t) := by
  obtain ⟨h1, _, a, b, h3, _⟩ := h
  refine .tup (show 2 ≤ 64 by decide) fun x hx => ?_
  rcases List.mem_cons.mp hx with rfl | hx
  · exact sm_ints (by omega)
  · rw [List.mem_singleton.mp hx]; exact sm_ints (by rw [h3]; show 2 ≤ 60; decide)
theorem sm_poly {many : Nat} {us : List IT.Tm} (hm : many ≤ 4) (h : PolyOk many us) : Sm 3 (polyDt us) := by
  refine .lst (by rw [List.length_map]; have := h.1; omega) fun e he => ?_
  obtain ⟨t, ht, rfl⟩ := List.mem_map.mp he
  exact sm_tm hm (h.2.1 t ht)
theorem sm_chg {many : Nat} {uss : List (List IT.Tm)} (hm : many ≤ 4) (hl : uss.length ≤ 60) (h : ∀ us ∈ uss, PolyOk many us) : Sm 4 (.list (uss.map polyDt)) := by
  refine .lst (by rw [List.length_map]; omega) fun e he => ?_
  obtain ⟨t, ht, rfl⟩ := List.mem_map.mp he
  exact sm_poly hm (h t ht)
def spSpoiled : Sp := fun vs H Q _ => ∃ (v : V) (uss : List (List IT.Tm)) (number : Int) (many : Nat), vs = [v, .int number] ∧ 1 ≤ many ∧ many ≤ 4 ∧ uss.length = many ∧ (∀ us ∈ uss, PolyOk many us) ∧ DU H (.list (uss.map polyDt)) v ∧ ∀ v' H' d', Same H H' → DU H' d' v' → chgD d' = false → Q v' H'
theorem nils_step {D p : Addr} {Hb H0 : Hp} {i : Nat} {zs : List V} (hD : Hb D = none) (e0 : Same Hb H0) (d0 : DtAll D H0 (List.replicate i (.list [])) zs) (hD0 : H0 D = some (.lst zs)) (hp : H0 p = none) :
    (upd H0 p (.lst [])) D = some (.lst zs) ∧ Same Hb (upd (upd H0 p (.lst [])) D (.lst (zs ++ [.ref p]))) ∧ DtAll D (upd (upd H0 p (.lst [])) D (.lst (zs ++ [.ref p]))) (List.replicate (i + 1) (.list [])) (zs ++ [.ref p]) := by
  have es := same_new hp (.lst [])
  refine ⟨es _ _ hD0, fun b o z => ?_, .but .upd ?_⟩
  · rw [upd_ne (ne_of_none z hD)]
    exact es _ _ (e0 _ _ z)
  · rw [List.replicate_succ']
    exact (d0.same es).app (.cons (.lst (ne_of_none hD0 hp).symm upd_same .nil) .nil)
section
variable {P : Program} {w : World} {K : PySem.W.Frag} {mg : Str → Option Value} {base : Heap} {f g g1 g2 g3 g4 g5 : Addr} {fd gd gd1 gd2 gd3 gd4 gd5 : FuncData}
theorem sc__law_spoiled : FnScope ["_law_change_here", "_law_number", "_law_many", "_law_place", "_law_some", "_law_act", "_law_spoilt", "_law_at", "_law_bad"] ["_law_change_here", "_law_number"] (defScope s__law_spoiled) := ⟨rfl, rfl, rfl, by decide +kernel, rfl, by decide +kernel, by decide +kernel⟩
theorem ok__law_spoiled (F : Fn K mg "_law_spoiled" s__law_spoiled ["_law_change_here", "_law_number"] f fd) (T__law_bad_term : Fn K mg "_law_bad_term" s__law_bad_term ["_law_term", "_law_number", "_law_many"] g1 gd1)
    (G__law_bad_term : FnOk P w K mg base CX0 1 g1 gd1 ["_law_term", "_law_number", "_law_many"] spBadT) (z_len : mg "len" = none) (z_range : mg "range" = none) (z_tuple : mg "tuple" = none) : FnOk P w K mg base CX0 2 f fd ["_law_change_here", "_law_number"] spSpoiled := by
  have sc := sc__law_spoiled
  refine F.F.ok (k := 1) sc (fun vs H Q E h => ?_) (fun cdv A outer s H vs Q E hr h => ?_)
  · obtain ⟨v, uss, number, many, rfl, _⟩ := h
    rfl
  obtain ⟨v, uss, number, many, rfl, hm1, hm4, hul, huo, hd, q⟩ := h
  obtain ⟨a, xs, rfl, ha, dx⟩ := hd.unL
  have hxl : xs.length = many := by rw [dx.len, List.length_map, hul]
  refine ⟨_, (pss_cons (ps_set (i := 2) sc.nd rfl (Or.inl rfl) (pe_callB call_len_seq rfl z_len PySem.boot_len (pa_cons (pv 0) pa_nil)))
  (pss_cons (ps_set (i := 3) sc.nd rfl (Or.inl rfl) (pe_op op_modN (pv 1) (pv 2)))
  (pss_cons (ps_set (i := 4) sc.nd rfl (Or.inl rfl) (pe_ix ix_list (pv 0) (pv 3) (fun _ _ => rfl)))
  (pss_cons (ps_set (i := 5) sc.nd rfl (Or.inl rfl) (pe_op op_mod (pe_op op_fdiv (pv 1) pe_int) pe_int))
  (pss_cons (ps_set (i := 1) sc.nd rfl (Or.inl rfl) (pe_op op_fdiv (pv 1) pe_int))
  (pss_cons (ps_if (PW.pt (pw_and (pt_cmpR op_eq (pv 5) pe_int (nomark _)) (pw_and1 (pt_cmpR (op_neD (by have := hr.units; exact this)) (pv 0) (pe_compr [".0", "_law_k"] 1 [none, none] (pi_range1 rfl z_range (pa_cons (pv 2) pa_nil)) (fun _ _ _ _ _ => pif_nil) (fun _ _ _ _ _ => (pe_lst pa_nil))) (nomark _)))))
    (pss_one (ps_ret (pe_op op_cat (pv 0) (pe_lst (pa_cons (pe_lst pa_nil) pa_nil)))))
    pss_nil)
  (pss_cons (ps_if (PW.pt (pw_and (pt_cmpR op_eq (pv 5) pe_int (nomark _)) (pw_and1 (pt_cmpR (op_neD (by have := hr.units; exact this)) (pe_slice sl_list (pv 0) po_none (po_some (pe_un un_neg pe_int))) (pe_compr [".0", "_law_k"] 1 [none, none] (pi_range1 rfl z_range (pa_cons (pe_op op_sub (pv 2) pe_int) pa_nil)) (fun _ _ _ _ _ => pif_nil) (fun _ _ _ _ _ => (pe_lst pa_nil))) (nomark _)))))
    (pss_one (ps_ret (pe_slice sl_list (pv 0) po_none (po_some (pe_un un_neg pe_int)))))
    pss_nil)
  (pss_cons (ps_if (pt_cmpR op_lt (pv 5) pe_int (nomark _))
    (pss_cons (ps_set (i := 6) sc.nd rfl (Or.inl rfl) (pe_op op_cat (pe_op op_cat (pe_slice sl_list (pv 0) po_none (po_some (pv 3))) (pe_lst (pa_cons (pe_callTy call_tuple_of rfl z_tuple PyProof.Rows.boot_tuple (pa_cons (pv 4) pa_nil)) pa_nil))) (pe_slice sl_list (pv 0) (po_some (pe_op op_add (pv 3) pe_int)) po_none)))
    (pss_one (ps_ret (pe_ix ix_list (pe_lst (pa_cons (pv 6) (pa_cons (pe_callTy call_tuple_of rfl z_tuple PyProof.Rows.boot_tuple (pa_cons (pv 0) pa_nil)) (pa_cons pe_bl pa_nil)))) (pe_op op_mod (pv 1) pe_int) (fun _ _ => rfl)))))
    pss_nil)
  (pss_cons (ps_if (pt_cmpR op_eq (pe_callB call_len_seq rfl z_len PySem.boot_len (pa_cons (pv 4) pa_nil)) pe_int (nomark _))
    (pss_one (ps_ret (pe_op op_cat (pe_op op_cat (pe_slice sl_list (pv 0) po_none (po_some (pv 3))) (pe_lst (pa_cons (pe_lst (pa_cons (pe_tup (pa_cons (pe_callTy call_tuple_of rfl z_tuple PyProof.Rows.boot_tuple (pa_cons (pe_compr [".0", "_law_k"] 1 [none, none] (pi_range1 rfl z_range (pa_cons (pv 2) pa_nil)) (fun _ _ _ _ _ => pif_nil) (fun _ _ _ _ _ => pe_int)) pa_nil)) (pa_cons (pe_tup (pa_cons pe_int (pa_cons pe_int pa_nil))) pa_nil))) pa_nil)) pa_nil))) (pe_slice sl_list (pv 0) (po_some (pe_op op_add (pv 3) pe_int)) po_none))))
    pss_nil)
  (pss_cons (ps_set (i := 7) sc.nd rfl (Or.inl rfl) (pe_op op_modN (pv 1) (pe_callB call_len_seq rfl z_len PySem.boot_len (pa_cons (pv 4) pa_nil))))
  (pss_cons (ps_if (pt_cmpR op_eq (pv 5) pe_int (nomark _))
    (pss_one (ps_ret (pe_op op_cat (pe_op op_cat (pe_slice sl_list (pv 0) po_none (po_some (pv 3))) (pe_lst (pa_cons (pe_op op_cat (pv 4) (pe_lst (pa_cons (pe_ix ix_list (pv 4) (pe_un un_neg pe_int) (fun _ _ => rfl)) pa_nil))) pa_nil))) (pe_slice sl_list (pv 0) (po_some (pe_op op_add (pv 3) pe_int)) po_none))))
    pss_nil)
  (pss_cons (ps_if (PW.pt (pw_and (pt_cmpR op_eq (pv 5) pe_int (nomark _)) (pw_and1 (pt_cmpR op_gt (pe_callB call_len_seq rfl z_len PySem.boot_len (pa_cons (pv 4) pa_nil)) pe_int (nomark _)))))
    (pss_one (ps_ret (pe_op op_cat (pe_op op_cat (pe_slice sl_list (pv 0) po_none (po_some (pv 3))) (pe_lst (pa_cons (pe_rev (pv 4) (pe_un un_neg pe_int)) pa_nil))) (pe_slice sl_list (pv 0) (po_some (pe_op op_add (pv 3) pe_int)) po_none))))
    pss_nil)
  (pss_cons (ps_set (i := 8) sc.nd rfl (Or.inl rfl) (pe_fn T__law_bad_term G__law_bad_term hr rfl (pa_cons (pe_ix ix_list (pv 4) (pv 7) (fun _ _ => rfl)) (pa_cons (pe_op op_fdiv (pv 1) pe_int) (pa_cons (pv 2) pa_nil)))))
  (pss_cons (ps_set (i := 6) sc.nd rfl (Or.inl rfl) (pe_op op_cat (pe_op op_cat (pe_slice sl_list (pv 4) po_none (po_some (pv 7))) (pe_lst (pa_cons (pv 8) pa_nil))) (pe_slice sl_list (pv 4) (po_some (pe_op op_add (pv 7) pe_int)) po_none)))
  (pss_one (ps_ret (pe_op op_cat (pe_op op_cat (pe_slice sl_list (pv 0) po_none (po_some (pv 3))) (pe_lst (pa_cons (pv 6) pa_nil))) (pe_slice sl_list (pv 0) (po_some (pe_op op_add (pv 3) pe_int)) po_none)))))))))))))))))), ?_⟩
  refine ⟨_, rfl, a, xs, rfl, .inl (SqL.of ha), ?_⟩
  rw [hxl]
  have f0 := Int.fmod_nonneg_of_pos number (show 0 < ((many : Nat) : Int) by omega)
  have f1 := Int.fmod_lt_of_pos number (show 0 < ((many : Nat) : Int) by omega)
  refine ⟨_, rfl, _, rfl, _, _, rfl, rfl, (by show ((many : Nat) : Int) ≠ 0; omega), ?_⟩
  obtain ⟨u, us, hu1, du, hpo⟩ := poly_at dx huo f0 (by omega)
  obtain ⟨S, ys, rfl, hS, dy⟩ := DU.unL (ds := us.map tmD) du
  have hyl : ys.length = us.length := by rw [dy.len, List.length_map]
  have hy12 := hpo.1
  refine ⟨_, rfl, _, rfl, _, _, _, _, rfl, rfl, SqL.of ha, hu1, ?_⟩
  refine ⟨_, rfl, _, _, rfl, rfl, ⟨by decide, by decide⟩, _, _, rfl, rfl, (by show (0 : Int) < 6; decide), ?_⟩
  refine ⟨_, rfl, _, _, rfl, rfl, ⟨by decide, by decide⟩, ?_⟩
  clear du hd
  have smx := sm_chg hm4 (by omega) huo
  try dsimp only [gName]
  refine seq_join (fun σ' H' => σ' = [some (.ref a), some (.int (number / 24)), some (.int many), some (.int (number.fmod many)), some (.ref S), some (.int (number / 4 % 6)), none, none, none] ∧ Same H H') (fun nx hnx => ?_) ?_
  · refine ⟨_, rfl, rfl, _, rfl, ite2 (fun c => ?_) (fun c => iteF (hnx _ _ ⟨rfl, .refl _⟩))⟩
    refine ⟨_, rfl, _, rfl, (many : Int), rfl, by omega, by omega, fun D hD => comp_by (n := (many : Int).toNat) (fun i zs H' => Same H H' ∧ DtAll D H' (List.replicate i (.list [])) zs) ?_ ?_ ?_⟩
    · exact ⟨same_new hD _, .nil⟩
    · rintro i zs H0 hi ⟨e0, d0⟩ hD0
      refine ⟨hi, sz60 (n := 60) (by rw [d0.len, List.length_replicate]; omega) (by decide), fun x H' y => ?_⟩
      obtain ⟨rfl, rfl⟩ := y
      unfold tNoIf
      refine iteT ⟨sz60' (by decide), fun p hp => ?_⟩
      obtain ⟨k1, k2, k3⟩ := nils_step hD e0 d0 hD0 hp
      exact ⟨k1, cw_next hi ⟨k2, k3⟩⟩
    rintro zs H0 ⟨e0, d0⟩ hD0
    refine ⟨Nat.le_refl _, ?_⟩
    rw [Int.toNat_natCast] at d0
    have dx := dx.same e0
    have ha := e0 _ _ ha
    refine ⟨.list (uss.map polyDt), .list (List.replicate many (.list [])), (DU.lst ha dx).br, (DU.lst hD0 (dtAll_du d0)).br, smx.ok.shaped (by decide), (sm_nils (by omega)).ok.shaped (by decide), _, rfl, ite2 (fun c => ?_) (fun c => hnx _ _ ⟨rfl, e0⟩)⟩
    have hnil := not_nil hul (by simpa using c)
    have tr := e0
    refine ⟨_, rfl, sz60' (by decide), fun p1 hp => ?_⟩
    generalize hH : upd _ p1 _ = H1
    obtain ⟨es, z1, hz1⟩ := du_l hH hp DUs.nil
    clear hH hp
    have tr := tr.trans es
    have ha := es _ _ ha
    have dx := dx.same es
    refine ⟨sz60' (by show 1 ≤ 60; decide), fun p2 hp => ?_⟩
    generalize hH : upd _ p2 _ = H2
    obtain ⟨es, z2, hz2⟩ := du_l hH hp (.cons z1 .nil)
    clear hH hp
    have tr := tr.trans es
    have ha := es _ _ ha
    have dx := dx.same es
    refine ⟨a, p2, _, _, rfl, rfl, ha, hz2, sz60' (by show xs.length + 1 ≤ 60; omega), fun p3 hp => ?_⟩
    generalize hH : upd _ p3 _ = H3
    obtain ⟨es, z3, hz3⟩ := du_l hH hp (dx.app (z2.itemsL hz2))
    refine q _ _ _ (tr.trans es) z3 ?_
    have e : uss.map polyDt ++ [PyData.list []] = (uss ++ [[]]).map polyDt := by rw [List.map_append]; rfl
    rw [e]
    obtain ⟨u, hu, hu2⟩ := hnil
    exact chg_wrong ⟨u, List.mem_append_left _ hu, hu2, huo u hu⟩ (by rw [List.length_append, hul, List.length_singleton]; omega)
  rintro σ' H1 ⟨rfl, e1⟩
  have ha := e1 _ _ ha
  have hS := e1 _ _ hS
  have dx := dx.same e1
  have dy := dy.same e1
  try dsimp only [gName]
  refine seq_join (fun σ' H' => σ' = [some (.ref a), some (.int (number / 24)), some (.int many), some (.int (number.fmod many)), some (.ref S), some (.int (number / 4 % 6)), none, none, none] ∧ Same H1 H') (fun nx hnx => ?_) ?_
  · refine ⟨_, rfl, rfl, _, rfl, ite2 (fun c => ?_) (fun c => iteF (hnx _ _ ⟨rfl, .refl _⟩))⟩
    refine ⟨_, rfl, _, rfl, _, rfl, a, xs, rfl, SqL.of ha, fun pS hp => ?_⟩
    generalize hH : upd _ pS _ = HS
    obtain ⟨es, zS, hzS⟩ := du_l hH hp (dx.cut none (some (-1)))
    clear hH hp
    have tr : Same H1 HS := es
    have ha := es _ _ ha
    have dx := dx.same es
    clear es
    have ecut : cutD (uss.map polyDt) none (some (-1)) = (uss.take (many - 1)).map polyDt := by
      unfold cutD
      rw [HT.sIx_none, List.length_map, hul, six_last hm1, List.drop_zero, Nat.sub_zero, List.map_take]
    rw [ecut] at zS
    have hut : (uss.take (many - 1)).length = many - 1 := by rw [List.length_take, hul]; omega
    refine ⟨_, rfl, _, _, rfl, rfl, (many : Int) - 1, rfl, by omega, by omega, fun D hD => comp_by (n := ((many : Int) - 1).toNat) (fun i zs H' => Same HS H' ∧ DtAll D H' (List.replicate i (.list [])) zs) ?_ ?_ ?_⟩
    · exact ⟨same_new hD _, .nil⟩
    · rintro i zs H0 hi ⟨e0, d0⟩ hD0
      refine ⟨hi, sz60 (n := 60) (by rw [d0.len, List.length_replicate]; omega) (by decide), fun x H' y => ?_⟩
      obtain ⟨rfl, rfl⟩ := y
      unfold tNoIf
      refine iteT ⟨sz60' (by decide), fun p hp => ?_⟩
      obtain ⟨k1, k2, k3⟩ := nils_step hD e0 d0 hD0 hp
      exact ⟨k1, cw_next hi ⟨k2, k3⟩⟩
    rintro zs H0 ⟨e0, d0⟩ hD0
    refine ⟨Nat.le_refl _, ?_⟩
    rw [show ((many : Int) - 1).toNat = many - 1 by omega] at d0
    have dx := dx.same e0
    have ha := e0 _ _ ha
    have zS := zS.same e0
    have tr := tr.trans e0
    refine ⟨.list ((uss.take (many - 1)).map polyDt), .list (List.replicate (many - 1) (.list [])), zS.br, (DU.lst hD0 (dtAll_du d0)).br, (sm_chg hm4 (by omega) (fun u hu => huo u (List.mem_of_mem_take hu))).ok.shaped (by decide), (sm_nils (by omega)).ok.shaped (by decide), _, rfl, ite2 (fun c => ?_) (fun c => hnx _ _ ⟨rfl, tr⟩)⟩
    obtain ⟨u, hu, hu2⟩ := not_nil hut (by simpa using c)
    refine ⟨_, rfl, _, rfl, _, rfl, a, xs, rfl, SqL.of ha, fun p1 hp => ?_⟩
    generalize hH : upd _ p1 _ = H2
    obtain ⟨es, z1, hz1⟩ := du_l hH hp (dx.cut none (some (-1)))
    rw [ecut] at z1
    exact q _ _ _ (e1.trans (tr.trans es)) z1 (chg_wrong ⟨u, hu, hu2, huo u (List.mem_of_mem_take hu)⟩ (by rw [hut]; omega))
  rintro σ' H2 ⟨rfl, e2⟩
  have tr := e1.trans e2
  have ha := e2 _ _ ha
  have hS := e2 _ _ hS
  have dx := dx.same e2
  have dy := dy.same e2
  clear e1 e2
  refine ⟨_, rfl, _, _, rfl, rfl, _, rfl, ite2 (fun c => ?_) (fun c => ?_)⟩
  · clear c
    refine ⟨_, rfl, _, rfl, _, rfl, a, _, rfl, SqL.of ha, fun p1 hp => ?_⟩
    generalize hH : upd _ p1 _ = H_p1
    obtain ⟨es, a1, ha1⟩ := du_l hH hp (dx.cut _ _)
    clear hH hp
    have tr := tr.trans es
    have ha := es _ _ ha
    have hS := es _ _ hS
    have dx := dx.same es
    have dy := dy.same es
    clear es
    refine ⟨_, rfl, S, ys, rfl, .inl ⟨SqL.of hS, fun p2 hp => ?_⟩⟩
    generalize hH : upd _ p2 _ = H_p2
    obtain ⟨es, dX, hdX⟩ := du_t hH hp dy
    clear hH hp
    have tr := tr.trans es
    have ha := es _ _ ha
    have hS := es _ _ hS
    have ha1 := es _ _ ha1
    have dx := dx.same es
    have dy := dy.same es
    have a1 := a1.same es
    clear es
    refine ⟨(by show 1 ≤ sizeLine; decide), fun p3 hp => ?_⟩
    generalize hH : upd _ p3 _ = H_p3
    obtain ⟨es, a2, ha2⟩ := du_l hH hp (.cons dX .nil)
    clear hH hp
    have tr := tr.trans es
    have ha := es _ _ ha
    have hS := es _ _ hS
    have ha1 := es _ _ ha1
    have hdX := es _ _ hdX
    have dx := dx.same es
    have dy := dy.same es
    have a1 := a1.same es
    have dX := dX.same es
    clear es
    refine ⟨p1, p3, _, _, rfl, rfl, ha1, ha2, (cut_len1 (by omega)), fun p4 hp => ?_⟩
    generalize hH : upd _ p4 _ = H_p4
    obtain ⟨es, a3, ha3⟩ := du_l hH hp ((a1.itemsL ha1).app (a2.itemsL ha2))
    clear hH hp
    have tr := tr.trans es
    have ha := es _ _ ha
    have hS := es _ _ hS
    have ha1 := es _ _ ha1
    have hdX := es _ _ hdX
    have ha2 := es _ _ ha2
    have dx := dx.same es
    have dy := dy.same es
    have a1 := a1.same es
    have dX := dX.same es
    have a2 := a2.same es
    clear es
    refine ⟨_, rfl, _, rfl, _, _, rfl, rfl, _, rfl, a, _, rfl, SqL.of ha, fun p5 hp => ?_⟩
    generalize hH : upd _ p5 _ = H_p5
    obtain ⟨es, a4, ha4⟩ := du_l hH hp (dx.cut _ _)
    clear hH hp
    have tr := tr.trans es
    have ha := es _ _ ha
    have hS := es _ _ hS
    have ha1 := es _ _ ha1
    have hdX := es _ _ hdX
    have ha2 := es _ _ ha2
    have ha3 := es _ _ ha3
    have dx := dx.same es
    have dy := dy.same es
    have a1 := a1.same es
    have dX := dX.same es
    have a2 := a2.same es
    have a3 := a3.same es
    clear es
    refine ⟨p4, p5, _, _, rfl, rfl, ha3, ha4, (cut_len2 (by omega)), fun p6 hp => ?_⟩
    generalize hH : upd _ p6 _ = H_p6
    obtain ⟨es, z1, hz1⟩ := du_l hH hp ((a3.itemsL ha3).app (a4.itemsL ha4))
    clear hH hp
    have tr := tr.trans es
    have ha := es _ _ ha
    have hS := es _ _ hS
    have ha1 := es _ _ ha1
    have hdX := es _ _ hdX
    have ha2 := es _ _ ha2
    have ha3 := es _ _ ha3
    have ha4 := es _ _ ha4
    have dx := dx.same es
    have dy := dy.same es
    have a1 := a1.same es
    have dX := dX.same es
    have a2 := a2.same es
    have a3 := a3.same es
    have a4 := a4.same es
    clear es
    refine ⟨_, rfl, _, rfl, a, xs, rfl, .inl ⟨SqL.of ha, fun p7 hp => ?_⟩⟩
    generalize hH : upd _ p7 _ = H_p7
    obtain ⟨es, z2, hz2⟩ := du_t hH hp dx
    clear hH hp
    have tr := tr.trans es
    have ha := es _ _ ha
    have hS := es _ _ hS
    have ha1 := es _ _ ha1
    have hdX := es _ _ hdX
    have ha2 := es _ _ ha2
    have ha3 := es _ _ ha3
    have ha4 := es _ _ ha4
    have hz1 := es _ _ hz1
    have dx := dx.same es
    have dy := dy.same es
    have a1 := a1.same es
    have dX := dX.same es
    have a2 := a2.same es
    have a3 := a3.same es
    have a4 := a4.same es
    have z1 := z1.same es
    clear es
    refine ⟨(by show 3 ≤ sizeLine; decide), fun pL hp => ?_⟩
    generalize hH : upd _ pL _ = HL
    have es : Same _ HL := hH ▸ same_new hp _
    have hL : HL pL = _ := hH ▸ upd_same
    clear hH hp
    have tr := tr.trans es
    have ha := es _ _ ha
    have hS := es _ _ hS
    have ha1 := es _ _ ha1
    have hdX := es _ _ hdX
    have ha2 := es _ _ ha2
    have ha3 := es _ _ ha3
    have ha4 := es _ _ ha4
    have hz1 := es _ _ hz1
    have hz2 := es _ _ hz2
    have dx := dx.same es
    have dy := dy.same es
    have a1 := a1.same es
    have dX := dX.same es
    have a2 := a2.same es
    have a3 := a3.same es
    have a4 := a4.same es
    have z1 := z1.same es
    have z2 := z2.same es
    clear es
    have h3 : number / 24 % 3 = 0 ∨ number / 24 % 3 = 1 ∨ number / 24 % 3 = 2 := by omega
    have fin : ∃ v', atI [V.ref p6, V.ref p7, V.bl true] (number / 24 % 3) = some v' ∧ ∃ d', DU HL d' v' ∧ chgD d' = false := by
      rcases h3 with h | h | h <;> rw [h]
      · exact ⟨_, rfl, _, z1, chg_mid fun n => rfl⟩
      · exact ⟨_, rfl, _, z2, rfl⟩
      · exact ⟨_, rfl, .bool true, .bool, rfl⟩
    obtain ⟨v', k1, d', k2, k3⟩ := fin
    exact ⟨_, rfl, _, _, rfl, rfl, (by show (0 : Int) < 3; decide), _, _, _, _, rfl, rfl, SqL.of hL, k1, q v' _ d' tr k2 k3⟩
  clear c
  refine ⟨_, rfl, S, ys, rfl, .inl (SqL.of hS), rfl, _, rfl, ite2 (fun c => ?_) (fun c => ?_)⟩
  · clear c
    refine ⟨_, rfl, _, rfl, _, rfl, a, _, rfl, SqL.of ha, fun p1 hp => ?_⟩
    generalize hH : upd _ p1 _ = H_p1
    obtain ⟨es, a1, ha1⟩ := du_l hH hp (dx.cut _ _)
    clear hH hp
    have tr := tr.trans es
    have ha := es _ _ ha
    have hS := es _ _ hS
    have dx := dx.same es
    have dy := dy.same es
    clear es
    refine ⟨_, rfl, (many : Int), rfl, by omega, by omega, fun D hD => comp_by (n := (many : Int).toNat) (fun i zs H' => Same H_p1 H' ∧ zs = (List.replicate i (0 : Int)).map V.int) ?_ ?_ ?_⟩
    · exact ⟨same_new hD _, rfl⟩
    · rintro i zs H0 hi ⟨e0, rfl⟩ hD0
      refine ⟨hi, sz60 (n := 60) (by rw [List.length_map, List.length_replicate]; omega) (by decide), fun x H' y => ?_⟩
      obtain ⟨rfl, rfl⟩ := y
      unfold tNoIf
      refine iteT ⟨hD0, cw_next hi ⟨fun b o z => ?_, ?_⟩⟩
      · rw [upd_ne (ne_of_none z hD)]; exact e0 _ _ z
      · rw [List.replicate_succ', List.map_append]; rfl
    rintro zs H0 ⟨es, rfl⟩ hD0
    refine ⟨Nat.le_refl _, ?_⟩
    have tr := tr.trans es
    have ha := es _ _ ha
    have hS := es _ _ hS
    have ha1 := es _ _ ha1
    have dx := dx.same es
    have dy := dy.same es
    have a1 := a1.same es
    clear es
    refine ⟨D, _, rfl, .inl ⟨SqL.of hD0, fun p2 hp => ?_⟩⟩
    generalize hH : upd _ p2 _ = H_p2
    obtain ⟨es, e1, he1⟩ := du_t hH hp (dtAll_du (dt_ints (c := 0) _))
    clear hH hp
    have tr := tr.trans es
    have ha := es _ _ ha
    have hS := es _ _ hS
    have ha1 := es _ _ ha1
    have hD0 := es _ _ hD0
    have dx := dx.same es
    have dy := dy.same es
    have a1 := a1.same es
    clear es
    refine ⟨(by show 2 ≤ sizeLine; decide), fun p3 hp => ?_⟩
    generalize hH : upd _ p3 _ = H_p3
    obtain ⟨es, e2, he2⟩ := du_t hH hp (.cons .int (.cons .int .nil))
    clear hH hp
    have tr := tr.trans es
    have ha := es _ _ ha
    have hS := es _ _ hS
    have ha1 := es _ _ ha1
    have hD0 := es _ _ hD0
    have he1 := es _ _ he1
    have dx := dx.same es
    have dy := dy.same es
    have a1 := a1.same es
    have e1 := e1.same es
    clear es
    refine ⟨(by show 2 ≤ sizeLine; decide), fun p4 hp => ?_⟩
    generalize hH : upd _ p4 _ = H_p4
    obtain ⟨es, e3, he3⟩ := du_t hH hp (.cons e1 (.cons e2 .nil))
    clear hH hp
    have tr := tr.trans es
    have ha := es _ _ ha
    have hS := es _ _ hS
    have ha1 := es _ _ ha1
    have hD0 := es _ _ hD0
    have he1 := es _ _ he1
    have he2 := es _ _ he2
    have dx := dx.same es
    have dy := dy.same es
    have a1 := a1.same es
    have e1 := e1.same es
    have e2 := e2.same es
    clear es
    refine ⟨(by show 1 ≤ sizeLine; decide), fun p5 hp => ?_⟩
    generalize hH : upd _ p5 _ = H_p5
    obtain ⟨es, dX, hdX⟩ := du_l hH hp (.cons e3 .nil)
    clear hH hp
    have tr := tr.trans es
    have ha := es _ _ ha
    have hS := es _ _ hS
    have ha1 := es _ _ ha1
    have hD0 := es _ _ hD0
    have he1 := es _ _ he1
    have he2 := es _ _ he2
    have he3 := es _ _ he3
    have dx := dx.same es
    have dy := dy.same es
    have a1 := a1.same es
    have e1 := e1.same es
    have e2 := e2.same es
    have e3 := e3.same es
    clear es
    refine ⟨(by show 1 ≤ sizeLine; decide), fun p6 hp => ?_⟩
    generalize hH : upd _ p6 _ = H_p6
    obtain ⟨es, a2, ha2⟩ := du_l hH hp (.cons dX .nil)
    clear hH hp
    have tr := tr.trans es
    have ha := es _ _ ha
    have hS := es _ _ hS
    have ha1 := es _ _ ha1
    have hD0 := es _ _ hD0
    have he1 := es _ _ he1
    have he2 := es _ _ he2
    have he3 := es _ _ he3
    have hdX := es _ _ hdX
    have dx := dx.same es
    have dy := dy.same es
    have a1 := a1.same es
    have e1 := e1.same es
    have e2 := e2.same es
    have e3 := e3.same es
    have dX := dX.same es
    clear es
    refine ⟨p1, p6, _, _, rfl, rfl, ha1, ha2, (cut_len1 (by omega)), fun p7 hp => ?_⟩
    generalize hH : upd _ p7 _ = H_p7
    obtain ⟨es, a3, ha3⟩ := du_l hH hp ((a1.itemsL ha1).app (a2.itemsL ha2))
    clear hH hp
    have tr := tr.trans es
    have ha := es _ _ ha
    have hS := es _ _ hS
    have ha1 := es _ _ ha1
    have hD0 := es _ _ hD0
    have he1 := es _ _ he1
    have he2 := es _ _ he2
    have he3 := es _ _ he3
    have hdX := es _ _ hdX
    have ha2 := es _ _ ha2
    have dx := dx.same es
    have dy := dy.same es
    have a1 := a1.same es
    have e1 := e1.same es
    have e2 := e2.same es
    have e3 := e3.same es
    have dX := dX.same es
    have a2 := a2.same es
    clear es
    refine ⟨_, rfl, _, rfl, _, _, rfl, rfl, _, rfl, a, _, rfl, SqL.of ha, fun p8 hp => ?_⟩
    generalize hH : upd _ p8 _ = H_p8
    obtain ⟨es, a4, ha4⟩ := du_l hH hp (dx.cut _ _)
    clear hH hp
    have tr := tr.trans es
    have ha := es _ _ ha
    have hS := es _ _ hS
    have ha1 := es _ _ ha1
    have hD0 := es _ _ hD0
    have he1 := es _ _ he1
    have he2 := es _ _ he2
    have he3 := es _ _ he3
    have hdX := es _ _ hdX
    have ha2 := es _ _ ha2
    have ha3 := es _ _ ha3
    have dx := dx.same es
    have dy := dy.same es
    have a1 := a1.same es
    have e1 := e1.same es
    have e2 := e2.same es
    have e3 := e3.same es
    have dX := dX.same es
    have a2 := a2.same es
    have a3 := a3.same es
    clear es
    refine ⟨p7, p8, _, _, rfl, rfl, ha3, ha4, (cut_len2 (by omega)), fun p9 hp => ?_⟩
    generalize hH : upd _ p9 _ = H_p9
    obtain ⟨es, z1, hz1⟩ := du_l hH hp ((a3.itemsL ha3).app (a4.itemsL ha4))
    clear hH hp
    have tr := tr.trans es
    have ha := es _ _ ha
    have hS := es _ _ hS
    have ha1 := es _ _ ha1
    have hD0 := es _ _ hD0
    have he1 := es _ _ he1
    have he2 := es _ _ he2
    have he3 := es _ _ he3
    have hdX := es _ _ hdX
    have ha2 := es _ _ ha2
    have ha3 := es _ _ ha3
    have ha4 := es _ _ ha4
    have dx := dx.same es
    have dy := dy.same es
    have a1 := a1.same es
    have e1 := e1.same es
    have e2 := e2.same es
    have e3 := e3.same es
    have dX := dX.same es
    have a2 := a2.same es
    have a3 := a3.same es
    have a4 := a4.same es
    clear es
    exact q _ _ _ tr z1 (chg_mid fun n => poly_head (bad_frI (by decide)))
  have hne : us ≠ [] := fun z => c (by subst z; rw [show ys.length = 0 by simpa using hyl]; rfl)
  have hpos : 0 < ys.length := by rw [hyl]; exact List.length_pos_iff.mpr hne
  clear c
  have g0 := Int.fmod_nonneg_of_pos (number / 24) (show 0 < ((ys.length : Nat) : Int) by omega)
  have g1' := Int.fmod_lt_of_pos (number / 24) (show 0 < ((ys.length : Nat) : Int) by omega)
  refine ⟨_, rfl, _, rfl, S, ys, rfl, .inl (SqL.of hS), _, _, rfl, rfl, (by show ((ys.length : Nat) : Int) ≠ 0; omega), ?_⟩
  try dsimp only [gName]
  refine seq_join (fun σ' H' => σ' = [some (.ref a), some (.int (number / 24)), some (.int many), some (.int (number.fmod many)), some (.ref S), some (.int (number / 4 % 6)), none, some (.int ((number / 24).fmod (ys.length : Nat))), none] ∧ H2 = H') (fun nx hnx => ?_) ?_
  · refine ⟨_, rfl, rfl, _, rfl, ite2 (fun c => ?_) (fun c => hnx _ _ ⟨rfl, rfl⟩)⟩
    clear c
    refine ⟨_, rfl, _, rfl, _, rfl, a, _, rfl, SqL.of ha, fun p1 hp => ?_⟩
    generalize hH : upd _ p1 _ = H_p1
    obtain ⟨es, a1, ha1⟩ := du_l hH hp (dx.cut _ _)
    clear hH hp
    have tr := tr.trans es
    have ha := es _ _ ha
    have hS := es _ _ hS
    have dx := dx.same es
    have dy := dy.same es
    clear es
    obtain ⟨u, hu1, hu2⟩ : ∃ u, atI ys (-1) = some u ∧ DU _ (tmD (us.getLast hne)) u := last_at dy hne
    refine ⟨_, rfl, _, rfl, _, rfl, _, _, _, _, rfl, rfl, SqL.of hS, hu1, (by show 1 ≤ sizeLine; decide), fun p2 hp => ?_⟩
    generalize hH : upd _ p2 _ = H_p2
    obtain ⟨es, e1, he1⟩ := du_l hH hp (.cons hu2 .nil)
    clear hH hp
    have tr := tr.trans es
    have ha := es _ _ ha
    have hS := es _ _ hS
    have ha1 := es _ _ ha1
    have dx := dx.same es
    have dy := dy.same es
    have a1 := a1.same es
    have hu2 := hu2.same es
    clear es
    refine ⟨S, p2, _, _, rfl, rfl, hS, he1, sz60' (show ys.length + 1 ≤ 60 by omega), fun p3 hp => ?_⟩
    generalize hH : upd _ p3 _ = H_p3
    obtain ⟨es, dX, hdX⟩ := du_l hH hp (dy.app (e1.itemsL he1))
    clear hH hp
    have tr := tr.trans es
    have ha := es _ _ ha
    have hS := es _ _ hS
    have ha1 := es _ _ ha1
    have he1 := es _ _ he1
    have dx := dx.same es
    have dy := dy.same es
    have a1 := a1.same es
    have hu2 := hu2.same es
    have e1 := e1.same es
    clear es
    refine ⟨(by show 1 ≤ sizeLine; decide), fun p4 hp => ?_⟩
    generalize hH : upd _ p4 _ = H_p4
    obtain ⟨es, a2, ha2⟩ := du_l hH hp (.cons dX .nil)
    clear hH hp
    have tr := tr.trans es
    have ha := es _ _ ha
    have hS := es _ _ hS
    have ha1 := es _ _ ha1
    have he1 := es _ _ he1
    have hdX := es _ _ hdX
    have dx := dx.same es
    have dy := dy.same es
    have a1 := a1.same es
    have hu2 := hu2.same es
    have e1 := e1.same es
    have dX := dX.same es
    clear es
    refine ⟨p1, p4, _, _, rfl, rfl, ha1, ha2, (cut_len1 (by omega)), fun p5 hp => ?_⟩
    generalize hH : upd _ p5 _ = H_p5
    obtain ⟨es, a3, ha3⟩ := du_l hH hp ((a1.itemsL ha1).app (a2.itemsL ha2))
    clear hH hp
    have tr := tr.trans es
    have ha := es _ _ ha
    have hS := es _ _ hS
    have ha1 := es _ _ ha1
    have he1 := es _ _ he1
    have hdX := es _ _ hdX
    have ha2 := es _ _ ha2
    have dx := dx.same es
    have dy := dy.same es
    have a1 := a1.same es
    have hu2 := hu2.same es
    have e1 := e1.same es
    have dX := dX.same es
    have a2 := a2.same es
    clear es
    refine ⟨_, rfl, _, rfl, _, _, rfl, rfl, _, rfl, a, _, rfl, SqL.of ha, fun p6 hp => ?_⟩
    generalize hH : upd _ p6 _ = H_p6
    obtain ⟨es, a4, ha4⟩ := du_l hH hp (dx.cut _ _)
    clear hH hp
    have tr := tr.trans es
    have ha := es _ _ ha
    have hS := es _ _ hS
    have ha1 := es _ _ ha1
    have he1 := es _ _ he1
    have hdX := es _ _ hdX
    have ha2 := es _ _ ha2
    have ha3 := es _ _ ha3
    have dx := dx.same es
    have dy := dy.same es
    have a1 := a1.same es
    have hu2 := hu2.same es
    have e1 := e1.same es
    have dX := dX.same es
    have a2 := a2.same es
    have a3 := a3.same es
    clear es
    refine ⟨p5, p6, _, _, rfl, rfl, ha3, ha4, (cut_len2 (by omega)), fun p7 hp => ?_⟩
    generalize hH : upd _ p7 _ = H_p7
    obtain ⟨es, z1, hz1⟩ := du_l hH hp ((a3.itemsL ha3).app (a4.itemsL ha4))
    clear hH hp
    have tr := tr.trans es
    have ha := es _ _ ha
    have hS := es _ _ hS
    have ha1 := es _ _ ha1
    have he1 := es _ _ he1
    have hdX := es _ _ hdX
    have ha2 := es _ _ ha2
    have ha3 := es _ _ ha3
    have ha4 := es _ _ ha4
    have dx := dx.same es
    have dy := dy.same es
    have a1 := a1.same es
    have hu2 := hu2.same es
    have e1 := e1.same es
    have dX := dX.same es
    have a2 := a2.same es
    have a3 := a3.same es
    have a4 := a4.same es
    clear es
    exact q _ _ _ tr z1 (chg_mid fun n => poly_twice hne)
  rintro σ' _ ⟨rfl, rfl⟩
  try dsimp only [gName]
  refine seq_join (fun σ' H' => σ' = [some (.ref a), some (.int (number / 24)), some (.int many), some (.int (number.fmod many)), some (.ref S), some (.int (number / 4 % 6)), none, some (.int ((number / 24).fmod (ys.length : Nat))), none] ∧ H2 = H') (fun nx hnx => ?_) ?_
  · refine ⟨_, rfl, rfl, _, rfl, ite2 (fun c => ?_) (fun c => iteF (hnx _ _ ⟨rfl, rfl⟩))⟩
    refine ⟨_, rfl, S, ys, rfl, .inl (SqL.of hS), _, _, rfl, rfl, _, rfl, ite2 (fun c => ?_) (fun c => hnx _ _ ⟨rfl, rfl⟩)⟩
    have hgt : 1 < us.length := by have := of_decide_eq_true c; omega
    clear c
    refine ⟨_, rfl, _, rfl, _, rfl, a, _, rfl, SqL.of ha, fun p1 hp => ?_⟩
    generalize hH : upd _ p1 _ = H_p1
    obtain ⟨es, a1, ha1⟩ := du_l hH hp (dx.cut _ _)
    clear hH hp
    have tr := tr.trans es
    have ha := es _ _ ha
    have hS := es _ _ hS
    have dx := dx.same es
    have dy := dy.same es
    clear es
    refine ⟨_, rfl, _, rfl, S, ys, rfl, rfl, SqL.of hS, fun p2 hp => ?_⟩
    generalize hH : upd _ p2 _ = H_p2
    obtain ⟨es, dX, hdX⟩ := du_l hH hp dy.rev
    clear hH hp
    have tr := tr.trans es
    have ha := es _ _ ha
    have hS := es _ _ hS
    have ha1 := es _ _ ha1
    have dx := dx.same es
    have dy := dy.same es
    have a1 := a1.same es
    clear es
    refine ⟨(by show 1 ≤ sizeLine; decide), fun p3 hp => ?_⟩
    generalize hH : upd _ p3 _ = H_p3
    obtain ⟨es, a2, ha2⟩ := du_l hH hp (.cons dX .nil)
    clear hH hp
    have tr := tr.trans es
    have ha := es _ _ ha
    have hS := es _ _ hS
    have ha1 := es _ _ ha1
    have hdX := es _ _ hdX
    have dx := dx.same es
    have dy := dy.same es
    have a1 := a1.same es
    have dX := dX.same es
    clear es
    refine ⟨p1, p3, _, _, rfl, rfl, ha1, ha2, (cut_len1 (by omega)), fun p4 hp => ?_⟩
    generalize hH : upd _ p4 _ = H_p4
    obtain ⟨es, a3, ha3⟩ := du_l hH hp ((a1.itemsL ha1).app (a2.itemsL ha2))
    clear hH hp
    have tr := tr.trans es
    have ha := es _ _ ha
    have hS := es _ _ hS
    have ha1 := es _ _ ha1
    have hdX := es _ _ hdX
    have ha2 := es _ _ ha2
    have dx := dx.same es
    have dy := dy.same es
    have a1 := a1.same es
    have dX := dX.same es
    have a2 := a2.same es
    clear es
    refine ⟨_, rfl, _, rfl, _, _, rfl, rfl, _, rfl, a, _, rfl, SqL.of ha, fun p5 hp => ?_⟩
    generalize hH : upd _ p5 _ = H_p5
    obtain ⟨es, a4, ha4⟩ := du_l hH hp (dx.cut _ _)
    clear hH hp
    have tr := tr.trans es
    have ha := es _ _ ha
    have hS := es _ _ hS
    have ha1 := es _ _ ha1
    have hdX := es _ _ hdX
    have ha2 := es _ _ ha2
    have ha3 := es _ _ ha3
    have dx := dx.same es
    have dy := dy.same es
    have a1 := a1.same es
    have dX := dX.same es
    have a2 := a2.same es
    have a3 := a3.same es
    clear es
    refine ⟨p4, p5, _, _, rfl, rfl, ha3, ha4, (cut_len2 (by omega)), fun p6 hp => ?_⟩
    generalize hH : upd _ p6 _ = H_p6
    obtain ⟨es, z1, hz1⟩ := du_l hH hp ((a3.itemsL ha3).app (a4.itemsL ha4))
    clear hH hp
    have tr := tr.trans es
    have ha := es _ _ ha
    have hS := es _ _ hS
    have ha1 := es _ _ ha1
    have hdX := es _ _ hdX
    have ha2 := es _ _ ha2
    have ha3 := es _ _ ha3
    have ha4 := es _ _ ha4
    have dx := dx.same es
    have dy := dy.same es
    have a1 := a1.same es
    have dX := dX.same es
    have a2 := a2.same es
    have a3 := a3.same es
    have a4 := a4.same es
    clear es
    exact q _ _ _ tr z1 (chg_mid fun n => poly_back hpo hgt)
  rintro σ' _ ⟨rfl, rfl⟩
  obtain ⟨u, t, hu1, hu2, htm⟩ := term_at dy hpo g0 g1'
  refine ⟨_, rfl, _, rfl, _, _, _, _, rfl, rfl, SqL.of hS, hu1, _, rfl, _, _, rfl, rfl, ⟨by decide, by decide⟩, _, rfl, u, t, _, many, rfl, hm1, hm4, htm, hu2, fun v' H7 d7 es dX hbad => ?_⟩
  have tr := tr.trans es
  have ha := es _ _ ha
  have hS := es _ _ hS
  have dx := dx.same es
  have dy := dy.same es
  clear es
  refine ⟨_, rfl, _, rfl, _, rfl, S, _, rfl, SqL.of hS, fun p1 hp => ?_⟩
  generalize hH : upd _ p1 _ = H_p1
  obtain ⟨es, a1, ha1⟩ := du_l hH hp (dy.cut _ _)
  clear hH hp
  have tr := tr.trans es
  have ha := es _ _ ha
  have hS := es _ _ hS
  have dx := dx.same es
  have dy := dy.same es
  have dX := dX.same es
  clear es
  refine ⟨_, rfl, ?_⟩
  refine ⟨(by show 1 ≤ sizeLine; decide), fun p2 hp => ?_⟩
  generalize hH : upd _ p2 _ = H_p2
  obtain ⟨es, a2, ha2⟩ := du_l hH hp (.cons dX .nil)
  clear hH hp
  have tr := tr.trans es
  have ha := es _ _ ha
  have hS := es _ _ hS
  have ha1 := es _ _ ha1
  have dx := dx.same es
  have dy := dy.same es
  have dX := dX.same es
  have a1 := a1.same es
  clear es
  refine ⟨p1, p2, _, _, rfl, rfl, ha1, ha2, (cut_len1 (by omega)), fun p3 hp => ?_⟩
  generalize hH : upd _ p3 _ = H_p3
  obtain ⟨es, a3, ha3⟩ := du_l hH hp ((a1.itemsL ha1).app (a2.itemsL ha2))
  clear hH hp
  have tr := tr.trans es
  have ha := es _ _ ha
  have hS := es _ _ hS
  have ha1 := es _ _ ha1
  have ha2 := es _ _ ha2
  have dx := dx.same es
  have dy := dy.same es
  have dX := dX.same es
  have a1 := a1.same es
  have a2 := a2.same es
  clear es
  refine ⟨_, rfl, _, rfl, _, _, rfl, rfl, _, rfl, S, _, rfl, SqL.of hS, fun p4 hp => ?_⟩
  generalize hH : upd _ p4 _ = H_p4
  obtain ⟨es, a4, ha4⟩ := du_l hH hp (dy.cut _ _)
  clear hH hp
  have tr := tr.trans es
  have ha := es _ _ ha
  have hS := es _ _ hS
  have ha1 := es _ _ ha1
  have ha2 := es _ _ ha2
  have ha3 := es _ _ ha3
  have dx := dx.same es
  have dy := dy.same es
  have dX := dX.same es
  have a1 := a1.same es
  have a2 := a2.same es
  have a3 := a3.same es
  clear es
  refine ⟨p3, p4, _, _, rfl, rfl, ha3, ha4, (cut_len2 (by omega)), fun p5 hp => ?_⟩
  generalize hH : upd _ p5 _ = H_p5
  obtain ⟨es, dXo, hdXo⟩ := du_l hH hp ((a3.itemsL ha3).app (a4.itemsL ha4))
  clear hH hp
  have tr := tr.trans es
  have ha := es _ _ ha
  have hS := es _ _ hS
  have ha1 := es _ _ ha1
  have ha2 := es _ _ ha2
  have ha3 := es _ _ ha3
  have ha4 := es _ _ ha4
  have dx := dx.same es
  have dy := dy.same es
  have dX := dX.same es
  have a1 := a1.same es
  have a2 := a2.same es
  have a3 := a3.same es
  have a4 := a4.same es
  clear es
  clear a1 ha1 a2 ha2 a3 ha3 a4 ha4
  refine ⟨_, rfl, _, rfl, _, rfl, a, _, rfl, SqL.of ha, fun p6 hp => ?_⟩
  generalize hH : upd _ p6 _ = H_p6
  obtain ⟨es, a1o, ha1o⟩ := du_l hH hp (dx.cut _ _)
  clear hH hp
  have tr := tr.trans es
  have ha := es _ _ ha
  have hS := es _ _ hS
  have hdXo := es _ _ hdXo
  have dx := dx.same es
  have dy := dy.same es
  have dX := dX.same es
  have dXo := dXo.same es
  clear es
  refine ⟨_, rfl, ?_⟩
  refine ⟨(by show 1 ≤ sizeLine; decide), fun p7 hp => ?_⟩
  generalize hH : upd _ p7 _ = H_p7
  obtain ⟨es, a2o, ha2o⟩ := du_l hH hp (.cons dXo .nil)
  clear hH hp
  have tr := tr.trans es
  have ha := es _ _ ha
  have hS := es _ _ hS
  have hdXo := es _ _ hdXo
  have ha1o := es _ _ ha1o
  have dx := dx.same es
  have dy := dy.same es
  have dX := dX.same es
  have dXo := dXo.same es
  have a1o := a1o.same es
  clear es
  refine ⟨p6, p7, _, _, rfl, rfl, ha1o, ha2o, (cut_len1 (by omega)), fun p8 hp => ?_⟩
  generalize hH : upd _ p8 _ = H_p8
  obtain ⟨es, a3o, ha3o⟩ := du_l hH hp ((a1o.itemsL ha1o).app (a2o.itemsL ha2o))
  clear hH hp
  have tr := tr.trans es
  have ha := es _ _ ha
  have hS := es _ _ hS
  have hdXo := es _ _ hdXo
  have ha1o := es _ _ ha1o
  have ha2o := es _ _ ha2o
  have dx := dx.same es
  have dy := dy.same es
  have dX := dX.same es
  have dXo := dXo.same es
  have a1o := a1o.same es
  have a2o := a2o.same es
  clear es
  refine ⟨_, rfl, _, rfl, _, _, rfl, rfl, _, rfl, a, _, rfl, SqL.of ha, fun p9 hp => ?_⟩
  generalize hH : upd _ p9 _ = H_p9
  obtain ⟨es, a4o, ha4o⟩ := du_l hH hp (dx.cut _ _)
  clear hH hp
  have tr := tr.trans es
  have ha := es _ _ ha
  have hS := es _ _ hS
  have hdXo := es _ _ hdXo
  have ha1o := es _ _ ha1o
  have ha2o := es _ _ ha2o
  have ha3o := es _ _ ha3o
  have dx := dx.same es
  have dy := dy.same es
  have dX := dX.same es
  have dXo := dXo.same es
  have a1o := a1o.same es
  have a2o := a2o.same es
  have a3o := a3o.same es
  clear es
  refine ⟨p8, p9, _, _, rfl, rfl, ha3o, ha4o, (cut_len2 (by omega)), fun p10 hp => ?_⟩
  generalize hH : upd _ p10 _ = H_p10
  obtain ⟨es, z1, hz1⟩ := du_l hH hp ((a3o.itemsL ha3o).app (a4o.itemsL ha4o))
  clear hH hp
  have tr := tr.trans es
  have ha := es _ _ ha
  have hS := es _ _ hS
  have hdXo := es _ _ hdXo
  have ha1o := es _ _ ha1o
  have ha2o := es _ _ ha2o
  have ha3o := es _ _ ha3o
  have ha4o := es _ _ ha4o
  have dx := dx.same es
  have dy := dy.same es
  have dX := dX.same es
  have dXo := dXo.same es
  have a1o := a1o.same es
  have a2o := a2o.same es
  have a3o := a3o.same es
  have a4o := a4o.same es
  clear es
  exact q _ _ _ tr z1 (chg_midn (mid_len hul f0 f1) (poly_mid hbad))
end
theorem chg_ok {many : Nat} {uss : List (List IT.Tm)} (hl : uss.length = many) (h1 : 1 ≤ many) (h : ∀ us ∈ uss, PolyOk many us) : chgD (.list (uss.map polyDt)) = true := by
  rw [chgD, List.length_map, hl, decide_eq_false (by omega), Bool.not_false, Bool.true_and, List.all_eq_true]
  intro e he
  obtain ⟨us, hu, rfl⟩ := List.mem_map.mp he
  exact (h us hu).is
theorem DU.call {H : Hp} {d : PyData} {v : V} (h : DU H d v) : ∃ l, Dt l H d v := let ⟨N, k⟩ := h; ⟨N, k N (Nat.le_refl _)⟩
def greatP (many : Nat) : List Int := (List.range many).map fun k : Nat => (30 : Int) - (0 + (k : Int))
theorem great_ok {many : Nat} (hm : many ≤ 4) : PolyOk many [(greatP many, [10 ^ 39 + 1, 10 ^ 39])] := by
  refine ⟨show 1 ≤ 12 by decide, fun t ht => ?_, List.pairwise_singleton _ _⟩
  rw [List.mem_singleton.mp ht]
  refine ⟨by rw [greatP, List.length_map, List.length_range], fun p hp => ?_, _, _, rfl, by decide, by decide +kernel⟩
  obtain ⟨k, hk, rfl⟩ := List.mem_map.mp hp
  have := List.mem_range.mp hk
  omega
theorem nil_ok {many : Nat} : PolyOk many [] := ⟨by decide, fun _ z => (List.not_mem_nil z).elim, .nil⟩
theorem great_take {many : Nat} (i : Nat) : (List.range (i + 1)).map (fun k : Nat => (30 : Int) - (0 + (k : Int))) = (List.range i).map (fun k : Nat => (30 : Int) - (0 + (k : Int))) ++ [30 - (0 + (i : Int))] := by
  rw [List.range_succ, List.map_append]; rfl
def spLaw (K : PySem.W.Frag) : Sp := fun vs H Q _ => ∃ (a : Addr) (ns : List Int), vs = [.ref a] ∧ SqL K H a (ns.map V.int) ∧ ns.length ≤ 63 ∧ ∀ H', Q (.bl true) H'
section
variable {P : Program} {w : World} {K : PySem.W.Frag} {mg : Str → Option Value} {base : Heap} {f g g1 g2 g3 g4 g5 g6 : Addr} {fd gd gd1 gd2 gd3 gd4 gd5 gd6 : FuncData}
theorem sc_law : FnScope ["_law_script", "_law_many", "_law_change_here", "_law_handed", "_law_powers", "_law_great", "_law_k", "_law_odd", "_law_thing"] ["_law_script"] (defScope s_law) := ⟨rfl, rfl, rfl, by decide +kernel, rfl, by decide +kernel, by decide +kernel⟩
theorem ok_law (F : Fn K mg "law" s_law ["_law_script"] f fd) (T__law_cell : Fn K mg "_law_cell" s__law_cell ["_law_script", "_law_k"] g1 gd1) (T__law_change : Fn K mg "_law_change" s__law_change ["_law_script", "_law_start", "_law_many", "_law_most"] g2 gd2) (T__law_spoiled : Fn K mg "_law_spoiled" s__law_spoiled ["_law_change_here", "_law_number"] g3 gd3) (T_is_change : Fn K mg "is_change" s_is_change ["thing"] g4 gd4)
    (G__law_cell : FnOk P w K mg base CX0 5 g1 gd1 ["_law_script", "_law_k"] (spCellP K)) (G__law_change : FnOk P w K mg base CX0 5 g2 gd2 ["_law_script", "_law_start", "_law_many", "_law_most"] (spChange K)) (G__law_spoiled : FnOk P w K mg base CX0 5 g3 gd3 ["_law_change_here", "_law_number"] spSpoiled) (G_is_change : FnOk P w K mg base CX0 5 g4 gd4 ["thing"] spChg)
    (z_list : mg "list" = none) (z_range : mg "range" = none) (z_tuple : mg "tuple" = none) : FnOk P w K mg base CX0 6 f fd ["_law_script"] (spLaw K) := by
  have sc := sc_law
  refine F.F.ok (k := 5) sc (fun vs H Q E h => ?_) (fun cdv A outer s H vs Q E hr h => ?_)
  · obtain ⟨a, ns, rfl, _⟩ := h
    rfl
  obtain ⟨a, ns, rfl, hS, h63, q⟩ := h
  refine ⟨_, (by refine' pss_cons ?s0 ?r0; (case s0 => exact (ps_set (i := 1) sc.nd rfl (Or.inl rfl) (pe_op op_add pe_int (pe_op op_mod (pe_fn T__law_cell G__law_cell hr rfl (pa_cons (pv 0) (pa_cons pe_int pa_nil))) pe_int)))); (case r0 => refine' pss_cons ?s1 ?r1; (case s1 => exact (ps_set (i := 2) sc.nd rfl (Or.inl rfl) (pe_fn T__law_change G__law_change hr rfl (pa_cons (pv 0) (pa_cons pe_int (pa_cons (pv 1) (pa_cons pe_int pa_nil))))))); (case r1 => refine' pss_cons ?s2 ?r2; (case s2 => exact (ps_setCompr (i := 3) [".0", "_law_some"] 1 [none, none] sc.nd rfl rfl (pi_list (pv 2)) (fun _ _ _ _ _ => pif_nil) (fun _ _ _ _ _ => (pe_callTy call_list_ofC rfl z_list PyProof.Rows.boot_list (pa_cons (pv 1) pa_nil))))); (case r2 => refine' pss_cons ?s3 ?r3; (case s3 => exact (ps_if (PW.pt (pw_or (pt_cmpR op_notB (pe_fn T_is_change G_is_change hr rfl (pa_cons (pv 3) pa_nil)) pe_bl (nomark _)) (pw_or1 (pt_cmpR (op_neD (by have := hr.units; exact this)) (pv 3) (pv 2) (nomark _))))) (pss_one (ps_ret pe_bl)) pss_nil)); (case r3 => refine' pss_cons ?s4 ?r4; (case s4 => exact (ps_set (i := 4) sc.nd rfl (Or.inl rfl) (pe_callTy call_tuple_of rfl z_tuple PyProof.Rows.boot_tuple (pa_cons (pe_compr [".0", "_law_k"] 1 [none, none] (pi_range1 rfl z_range (pa_cons (pv 1) pa_nil)) (fun _ _ _ _ _ => pif_nil) (fun _ _ _ _ _ => (pe_op op_sub pe_int (pv 1)))) pa_nil)))); (case r4 => refine' pss_cons ?s5 ?r5; (case s5 => exact (ps_set (i := 5) sc.nd rfl (Or.inl rfl) (pe_op op_cat (pe_lst (pa_cons (pe_lst (pa_cons (pe_tup (pa_cons (pv 4) (pa_cons (pe_tup (pa_cons (pe_op op_add (pe_op op_pow pe_int pe_int) pe_int) (pa_cons (pe_op op_pow pe_int pe_int) pa_nil))) pa_nil))) pa_nil)) pa_nil)) (pe_slice sl_list (pv 3) (po_some pe_int) po_none)))); (case r5 => refine' pss_cons ?s6 ?r6; (case s6 => exact (ps_if (PW.pt (pw_or (pt_cmpR op_notB (pe_fn T_is_change G_is_change hr rfl (pa_cons (pv 5) pa_nil)) pe_bl (nomark _)) (pw_or1 (pt_cmpR op_notB (pe_fn T_is_change G_is_change hr rfl (pa_cons (pe_compr [".0", "_law_k"] 1 [none, none] (pi_range1 rfl z_range (pa_cons (pv 1) pa_nil)) (fun _ _ _ _ _ => pif_nil) (fun _ _ _ _ _ => (pe_lst pa_nil))) pa_nil)) pe_bl (nomark _))))) (pss_one (ps_ret pe_bl)) pss_nil)); (case r6 => refine' pss_cons ?s7 ?r7; (case s7 => exact (ps_for PassesOwn.never rfl (pi_range1 rfl z_range (pa_cons pe_int pa_nil)) (pg_name (i := 6) sc.nd rfl (Or.inl rfl)) (pss_one (ps_if (pt_cmpR op_notB (pe_fn T_is_change G_is_change hr rfl (pa_cons (pe_fn T__law_spoiled G__law_spoiled hr rfl (pa_cons (pv 2) (pa_cons (pe_fn T__law_cell G__law_cell hr rfl (pa_cons (pv 0) (pa_cons (pe_op op_add pe_int (pv 6)) pa_nil))) pa_nil))) pa_nil)) pe_bl (nomark _)) (pss_one (ps_ret pe_bl)) pss_nil)))); (case r7 => refine' pss_cons ?s8 ?r8; (case s8 => exact (by refine' ps_set (i := 7) ?hN ?hi ?hx ?he ?hs ?hf; (case hN => exact sc.nd); (case hi => rfl); (case hx => exact (Or.inl rfl)); (case he => refine' pe_lst ?q; (case q => refine' pa_lits (n := 8) (ds := [.none, .bool true, .bool false, .int 0, .int 7, .str "", .str "change", .tuple [], .list [], .list [.int 0], .list [.none], .list [.list [.int 0]], .list [.list [.list []]], .list [.tuple []]]) ?z; (case z => rfl))); (case hs => rfl); (case hf => first | exact .inl rfl | exact .inr rfl))); (case r8 => refine' pss_cons ?s9 ?r9; (case s9 => exact (by refine' ps_set (i := 7) ?hN ?hi ?hx ?he ?hs ?hf; (case hN => exact sc.nd); (case hi => rfl); (case hx => exact (Or.inl rfl)); (case he => refine' pe_op op_cat ?b ?c; (case b => exact (pv 7)); (case c => refine' pe_lst ?q; (case q => refine' pa_lits (n := 8) (ds := [.list [.list [.tuple [.tuple [.int 0], .tuple [.int 1, .int 1], .int 0]]]]) ?z; (case z => rfl)))); (case hs => rfl); (case hf => first | exact .inl rfl | exact .inr rfl))); (case r9 => refine' pss_cons ?s10 ?r10; (case s10 => exact (by refine' ps_set (i := 7) ?hN ?hi ?hx ?he ?hs ?hf; (case hN => exact sc.nd); (case hi => rfl); (case hx => exact (Or.inl rfl)); (case he => refine' pe_op op_cat ?b ?c; (case b => exact (pv 7)); (case c => refine' pe_lst ?q; (case q => refine' pa_lits (n := 8) (ds := [.list [.list [.tuple [.tuple [.int 0], .tuple [.int 1, .int 1]]], .int 0], .list [.list [.tuple [.tuple [.int 0], .str "1"]]], .list [.list [.tuple [.int 0, .tuple [.int 1, .int 1]]]]]) ?z; (case z => rfl)))); (case hs => rfl); (case hf => first | exact .inl rfl | exact .inr rfl))); (case r10 => refine' pss_cons ?s11 ?r11; (case s11 => exact (by refine' ps_for PassesOwn.never rfl ?it ?tg ?bd; (case it => refine' pi_list ?ia; (case ia => refine' pe_op op_cat ?b ?c; (case b => exact (pv 7)); (case c => refine' pe_lst ?q; (case q => refine' pa_lits (n := 8) (ds := [.list [.list [.tuple [.tuple [.int 0, .int 0], .tuple [.int 1, .int 1]]]], .tuple [.list []]]) ?z; (case z => rfl))))); (case tg => exact (pg_name (i := 8) sc.nd rfl (Or.inl rfl))); (case bd => exact (pss_one (ps_if (pt_cmpR op_notB (pe_fn T_is_change G_is_change hr rfl (pa_cons (pv 8) pa_nil)) pe_bl (nomark _)) (pss_one (ps_ret pe_bl)) pss_nil))))); (case r11 => exact (pss_one (ps_ret pe_bl))))))))))))))), ?_⟩
  refine ⟨_, rfl, a, ns, 0, rfl, hS, by decide, by decide, fun x0 => ⟨_, _, rfl, rfl, (by show (0 : Int) < 4; decide), _, _, rfl, rfl, ?_⟩⟩
  obtain ⟨many, hm1, hm4, em⟩ : ∃ many : Nat, 1 ≤ many ∧ many ≤ 4 ∧ 1 + x0 % 4 = (many : Int) := ⟨(1 + x0 % 4).toNat, by omega, by omega, by omega⟩
  rw [show ((fun i j : Int => V.int (i + j)) 1 (x0 % 4)) = V.int (many : Int) from congrArg V.int em]
  refine ⟨_, rfl, _, rfl, a, ns, many, rfl, hS, hm1, hm4, fun v H1 uss e1 hul huo dv => ?_⟩
  obtain ⟨A, xs, rfl, hA, dx⟩ := dv.unL
  have hxl : xs.length = many := by rw [dx.len, List.length_map, hul]
  have smx := sm_chg hm4 (by omega) huo
  have okx := chg_ok hul hm1 huo
  clear dv
  refine ⟨_, rfl, A, rfl, ⟨_, SqL.of hA⟩, fun D hD => comp_by (n := xs.length) (fun i ys H' => Same H1 H' ∧ DtAll D H' ((uss.map polyDt).take i) ys) ?_ ?_ ?_⟩
  · exact ⟨same_new hD _, .nil⟩
  · rintro i ys H0 hi ⟨e0, d0⟩ hD0
    refine ⟨⟨xs, xs[i], SqL.of (e0 _ _ hA), by simp [hi]⟩, ?_, fun x H' y => ?_⟩
    · rw [d0.len, List.length_take]
      exact sz60 (n := 60) (by omega) (by decide)
    · obtain ⟨rfl, y⟩ := y
      have hx := y xs (SqL.of (e0 _ _ hA))
      obtain ⟨us, hus⟩ : ∃ us, uss[i]? = some us := ⟨uss[i]'(by omega), by simp [show i < uss.length by omega]⟩
      have hc : (uss.map polyDt)[i]? = some (polyDt us) := by rw [List.getElem?_map, hus]; rfl
      obtain ⟨u, hu1, hu2⟩ := dx.get hc
      rw [hx] at hu1
      cases hu1
      obtain ⟨b, zs, rfl, hb, dz⟩ := DU.unL (ds := us.map tmD) hu2
      obtain ⟨N, dz⟩ := dz
      have dz := dtAll_fresh hD (dz N (Nat.le_refl _))
      unfold tNoIf
      refine iteT ⟨_, rfl, b, zs, rfl, .inl (SqL.of (e0 _ _ hb)), fun p hp => ?_⟩
      have es := same_new hp (.lst zs)
      have hp2 : upd H' p (.lst zs) p = some (.lst zs) := upd_same
      have npD : p ≠ D := (ne_of_none hD0 hp).symm
      generalize upd H' p (.lst zs) = H2 at es hp2
      have E2 := e0.trans es
      have k1 : DtAll D H2 ((uss.map polyDt).take (i + 1)) (ys ++ [.ref p]) := (d0.same es).take hc (.lst npD hp2 (dz.same E2))
      refine ⟨es _ _ hD0, cw_next hi ⟨fun c o z => ?_, .but .upd k1⟩⟩
      rw [upd_ne (ne_of_none z hD)]
      exact E2 _ _ z
  rintro ys H2 ⟨e2, d2⟩ hD2
  refine ⟨⟨xs, SqL.of (e2 _ _ hA), Nat.le_refl _⟩, ?_⟩
  have d2 : DUs H2 (uss.map polyDt) ys := by
    rw [show xs.length = (uss.map polyDt).length from dx.len, List.take_length] at d2
    exact dtAll_du d2
  have hA := e2 _ _ hA
  have dx := dx.same e2
  have tr := e1.trans e2
  clear e1 e2
  obtain ⟨l, hl⟩ := (DU.lst hD2 d2).call
  refine ⟨_, rfl, l, _, _, rfl, hl, fun H3 e3 => ⟨_, _, rfl, rfl, _, rfl, ?_⟩⟩
  rw [okx]
  have tr := tr.trans e3
  have hA := e3 _ _ hA
  have dx := dx.same e3
  have hD3 := e3 _ _ hD2
  have d3 := d2.same e3
  clear e3 hl d2 hD2
  refine iteF ⟨_, rfl, _, rfl, _, _, (DU.lst hD3 d3).br, (DU.lst hA dx).br, smx.ok.shaped (by decide), smx.ok.shaped (by decide), _, rfl, ?_⟩
  have z := eqv_self _ smx.ok.1
  have z' : (if true = true then !PyData.eqv (.list (uss.map polyDt)) (.list (uss.map polyDt)) else PyData.eqv (.list (uss.map polyDt)) (.list (uss.map polyDt))) = false := by rw [z]; rfl
  first
    | rw [z']
    | rw [z]
    | skip
  refine iteF ?_
  clear z z'
  refine ⟨_, rfl, (many : Int), rfl, by omega, by omega, fun D1 hD1 => comp_by (n := (many : Int).toNat) (fun i zs H' => Same H3 H' ∧ zs = ((List.range i).map fun k : Nat => (30 : Int) - (0 + (k : Int))).map V.int) ?_ ?_ ?_⟩
  · exact ⟨same_new hD1 _, rfl⟩
  · rintro i zs H0 hi ⟨e0, rfl⟩ hD0
    refine ⟨hi, sz60 (n := 60) (by rw [List.length_map, List.length_map, List.length_range]; omega) (by decide), fun x H' y => ?_⟩
    obtain ⟨rfl, rfl⟩ := y
    unfold tNoIf
    refine iteT ⟨_, rfl, _, _, rfl, rfl, hD0, cw_next hi ⟨fun b o z => ?_, ?_⟩⟩
    · rw [upd_ne (ne_of_none z hD1)]; exact e0 _ _ z
    · rw [great_take (many := many), List.map_append]; rfl
  rintro zs H4 ⟨es, rfl⟩ hD4
  refine ⟨Nat.le_refl _, ?_⟩
  rw [Int.toNat_natCast] at hD4
  have tr := tr.trans es
  have hA := es _ _ hA
  have dx := dx.same es
  have hD3 := es _ _ hD3
  have d3 := d3.same es
  clear es
  refine ⟨D1, _, rfl, .inl ⟨SqL.of hD4, fun p1 hp => ?_⟩⟩
  generalize hH : upd _ p1 _ = H5
  obtain ⟨es, u1, hu1⟩ := du_t hH hp (dtAll_du (dt_ints (c := 0) (greatP many)))
  clear hH hp
  have tr := tr.trans es
  have hA := es _ _ hA
  have dx := dx.same es
  have hD3 := es _ _ hD3
  have d3 := d3.same es
  clear es hD4
  refine ⟨_, rfl, _, _, rfl, rfl, ⟨by decide, by decide, by decide⟩, _, _, rfl, rfl, _, _, rfl, rfl, ⟨by decide, by decide, by decide⟩, (by show 2 ≤ sizeLine; decide), fun p2 hp => ?_⟩
  generalize hH : upd _ p2 _ = H6
  obtain ⟨es, u2, hu2⟩ := du_t (ds := [10 ^ 39 + 1, 10 ^ 39].map PyData.int) hH hp (.cons .int (.cons .int .nil))
  clear hH hp
  have tr := tr.trans es
  have hA := es _ _ hA
  have dx := dx.same es
  have hD3 := es _ _ hD3
  have d3 := d3.same es
  have u1 := u1.same es
  clear es
  refine ⟨(by show 2 ≤ sizeLine; decide), fun p3 hp => ?_⟩
  generalize hH : upd _ p3 _ = H7
  obtain ⟨es, u3, hu3⟩ := du_t hH hp (.cons u1 (.cons u2 .nil))
  clear hH hp
  have tr := tr.trans es
  have hA := es _ _ hA
  have dx := dx.same es
  have hD3 := es _ _ hD3
  have d3 := d3.same es
  clear es
  refine ⟨(by show 1 ≤ sizeLine; decide), fun p4 hp => ?_⟩
  generalize hH : upd _ p4 _ = H8
  obtain ⟨es, u4, hu4⟩ := du_l hH hp (.cons u3 .nil)
  clear hH hp
  have tr := tr.trans es
  have hA := es _ _ hA
  have dx := dx.same es
  have hD3 := es _ _ hD3
  have d3 := d3.same es
  clear es
  refine ⟨(by show 1 ≤ sizeLine; decide), fun p5 hp => ?_⟩
  generalize hH : upd _ p5 _ = H9
  obtain ⟨es, u5, hu5⟩ := du_l hH hp (.cons u4 .nil)
  clear hH hp
  have tr := tr.trans es
  have hA := es _ _ hA
  have dx := dx.same es
  have hD3 := es _ _ hD3
  have d3 := d3.same es
  clear es
  refine ⟨_, rfl, _, rfl, D, ys, rfl, SqL.of hD3, fun p6 hp => ?_⟩
  generalize hH : upd _ p6 _ = H10
  obtain ⟨es, u6, hu6⟩ := du_l hH hp (d3.cut (some 1) none)
  clear hH hp
  have tr := tr.trans es
  have hA := es _ _ hA
  have dx := dx.same es
  have u5 := u5.same es
  have hu5 := es _ _ hu5
  have hyl : ys.length = many := by rw [d3.len, List.length_map, hul]
  clear es hD3
  refine ⟨p5, p6, _, _, rfl, rfl, hu5, hu6, ?_, fun p7 hp => ?_⟩
  · have := cutV_length ys (some 1) none
    exact sz60' (by rw [List.length_singleton]; omega)
  generalize hH : upd _ p7 _ = H11
  obtain ⟨es, u7, hu7⟩ := du_l hH hp ((u5.itemsL hu5).app (u6.itemsL hu6))
  clear hH hp
  have tr := tr.trans es
  have hA := es _ _ hA
  have dx := dx.same es
  clear es u5 u6 hu5 hu6 d3
  have eg : cutD (uss.map polyDt) (some 1) none = (uss.drop 1).map polyDt := by
    unfold cutD
    rw [HT.sIx_none, List.length_map, hul, show (some (1 : Int)) = some ((1 : Nat) : Int) from rfl, HT.sIx_nat, Nat.min_eq_left hm1, List.map_drop, List.take_of_length_le (by rw [List.length_drop, List.length_map, hul]; omega)]
  rw [eg] at u7
  have okg : chgD (.list (([(greatP many, [10 ^ 39 + 1, 10 ^ 39])] :: uss.drop 1).map polyDt)) = true := chg_ok (by rw [List.length_cons, List.length_drop, hul]; omega) hm1 fun us hu => by
    rcases List.mem_cons.mp hu with rfl | hu
    · exact great_ok hm4
    · exact huo us (List.mem_of_mem_drop hu)
  replace u7 : DU H11 (.list (([(greatP many, [10 ^ 39 + 1, 10 ^ 39])] :: uss.drop 1).map polyDt)) (.ref p7) := u7
  obtain ⟨l, hl⟩ := u7.call
  refine ⟨_, rfl, l, _, _, rfl, hl, fun H12 e12 => ⟨_, _, rfl, rfl, _, rfl, ?_⟩⟩
  rw [okg]
  have tr := tr.trans e12
  have hA := e12 _ _ hA
  have dx := dx.same e12
  clear e12 hl u7
  refine iteF ⟨_, rfl, (many : Int), rfl, by omega, by omega, fun D2 hD2 => comp_by (n := (many : Int).toNat) (fun i zs H' => Same H12 H' ∧ DtAll D2 H' (List.replicate i (.list [])) zs) ?_ ?_ ?_⟩
  · exact ⟨same_new hD2 _, .nil⟩
  · rintro i zs H0 hi ⟨e0, d0⟩ hD0
    refine ⟨hi, sz60 (n := 60) (by rw [d0.len, List.length_replicate]; omega) (by decide), fun x H' y => ?_⟩
    obtain ⟨rfl, rfl⟩ := y
    unfold tNoIf
    refine iteT ⟨sz60' (by decide), fun p hp => ?_⟩
    obtain ⟨k1, k2, k3⟩ := nils_step hD2 e0 d0 hD0 hp
    exact ⟨k1, cw_next hi ⟨k2, k3⟩⟩
  rintro zs H13 ⟨e13, d13⟩ hD13
  refine ⟨Nat.le_refl _, ?_⟩
  rw [Int.toNat_natCast] at d13
  have tr := tr.trans e13
  have hA := e13 _ _ hA
  have dx := dx.same e13
  clear e13
  have okn : chgD (.list (List.replicate many (.list []))) = true := by
    have := chg_ok (many := many) (uss := List.replicate many []) (List.length_replicate ..) hm1 fun us hu => by
      rw [List.eq_of_mem_replicate hu]; exact nil_ok
    rw [List.map_replicate] at this
    exact this
  obtain ⟨l, hl⟩ := (DU.lst hD13 (dtAll_du d13)).call
  refine ⟨l, _, _, rfl, hl, fun H14 e14 => ⟨_, _, rfl, rfl, _, rfl, ?_⟩⟩
  rw [okn]
  have tr := tr.trans e14
  have hA := e14 _ _ hA
  have dx := dx.same e14
  clear e14 hl hD13 d13
  refine iteF ⟨4, rfl, by decide, by decide, for_range (n := 4) (fun _ σ H' => ∃ r6, σ = [some (.ref a), some (.int many), some (.ref A), some (.ref D), some (.ref p1), some (.ref p7), r6, none, none] ∧ Same H14 H') ?_ ?_ ?_⟩
  · exact ⟨_, rfl, .refl _⟩
  · rintro i σ H0 hi ⟨r6, rfl, e0⟩
    refine ⟨_, rfl, _, rfl, _, rfl, _, _, rfl, rfl, a, ns, _, rfl, (tr.trans e0).seq hS, by omega, by omega, fun x => ?_⟩
    refine ⟨_, uss, x, many, rfl, hm1, hm4, hul, huo, (DU.lst hA dx).same e0, fun v' H' d' e' dd bad => ?_⟩
    obtain ⟨l, hl⟩ := dd.call
    refine ⟨l, _, _, rfl, hl, fun H'' e'' => ⟨_, _, rfl, rfl, _, rfl, ?_⟩⟩
    rw [bad]
    exact iteF ⟨_, rfl, e0.trans (e'.trans e'')⟩
  rintro σ H15 ⟨r6, rfl, _⟩
  clear tr hA dx
  refine fun vs1 H16 e16 u1 hl1 => ⟨sz60' (by rw [hl1]; decide), fun B1 hB => ?_⟩
  have k1 := dtAll_du (u1 B1 (.inl hB))
  have es := same_new hB (.lst vs1)
  have hB1 : upd H16 B1 (.lst vs1) B1 = some (.lst vs1) := upd_same
  generalize upd H16 B1 (.lst vs1) = H17 at es hB1
  have k1 := k1.same es
  clear e16 u1 hB es
  refine ⟨_, rfl, fun vs2 G2 e u hl2 => ⟨sz60' (by rw [hl2]; decide), fun E2 hB => ?_⟩⟩
  have k2 := dtAll_du (u E2 (.inl hB))
  have es := same_new hB (.lst vs2)
  have hE2 : upd G2 E2 (.lst vs2) E2 = some (.lst vs2) := upd_same
  generalize upd G2 E2 (.lst vs2) = F2 at es hE2
  have k2 := k2.same es
  have kk := (k1.same e).same es
  have hh := es _ _ (e _ _ hB1)
  clear e u hB es
  refine ⟨B1, E2, _, _, rfl, rfl, hh, hE2, sz60' (by simp only [List.length_append, hl1, hl2]; decide), fun B2 hB => ?_⟩
  have es := same_new hB (.lst (vs1 ++ vs2))
  have hB2 : upd F2 B2 (.lst (vs1 ++ vs2)) B2 = some (.lst (vs1 ++ vs2)) := upd_same
  generalize upd F2 B2 (.lst (vs1 ++ vs2)) = J2 at es hB2
  have kB2 := (kk.app k2).same es
  clear hB es kk hh k2 hE2
  refine ⟨_, rfl, fun vs3 G3 e u hl3 => ⟨sz60' (by rw [hl3]; decide), fun E3 hB => ?_⟩⟩
  have k3 := dtAll_du (u E3 (.inl hB))
  have es := same_new hB (.lst vs3)
  have hE3 : upd G3 E3 (.lst vs3) E3 = some (.lst vs3) := upd_same
  generalize upd G3 E3 (.lst vs3) = F3 at es hE3
  have k3 := k3.same es
  have kk := (kB2.same e).same es
  have hh := es _ _ (e _ _ hB2)
  clear e u hB es
  refine ⟨B2, E3, _, _, rfl, rfl, hh, hE3, sz60' (by simp only [List.length_append, hl1, hl2, hl3]; decide), fun B3 hB => ?_⟩
  have es := same_new hB (.lst ((vs1 ++ vs2) ++ vs3))
  have hB3 : upd F3 B3 (.lst ((vs1 ++ vs2) ++ vs3)) B3 = some (.lst ((vs1 ++ vs2) ++ vs3)) := upd_same
  generalize upd F3 B3 (.lst ((vs1 ++ vs2) ++ vs3)) = J3 at es hB3
  have kB3 := (kk.app k3).same es
  clear hB es kk hh k3 hE3
  refine ⟨_, rfl, fun vs4 G4 e u hl4 => ⟨sz60' (by rw [hl4]; decide), fun E4 hB => ?_⟩⟩
  have k4 := dtAll_du (u E4 (.inl hB))
  have es := same_new hB (.lst vs4)
  have hE4 : upd G4 E4 (.lst vs4) E4 = some (.lst vs4) := upd_same
  generalize upd G4 E4 (.lst vs4) = F4 at es hE4
  have k4 := k4.same es
  have kk := (kB3.same e).same es
  have hh := es _ _ (e _ _ hB3)
  clear e u hB es
  refine ⟨B3, E4, _, _, rfl, rfl, hh, hE4, sz60' (by simp only [List.length_append, hl1, hl2, hl3, hl4]; decide), fun B4 hB => ?_⟩
  have es := same_new hB (.lst ((vs1 ++ vs2 ++ vs3) ++ vs4))
  have hB4 : upd F4 B4 (.lst ((vs1 ++ vs2 ++ vs3) ++ vs4)) B4 = some (.lst ((vs1 ++ vs2 ++ vs3) ++ vs4)) := upd_same
  generalize upd F4 B4 (.lst ((vs1 ++ vs2 ++ vs3) ++ vs4)) = J4 at es hB4
  have kB4 := (kk.app k4).same es
  clear hB es kk hh k4 hE4
  have bad : ∀ d ∈ ([.none, .bool true, .bool false, .int 0, .int 7, .str "", .str "change", .tuple [], .list [], .list [.int 0], .list [.none], .list [.list [.int 0]], .list [.list [.list []]], .list [.tuple []]] ++ [.list [.list [.tuple [.tuple [.int 0], .tuple [.int 1, .int 1], .int 0]]]] ++ [.list [.list [.tuple [.tuple [.int 0], .tuple [.int 1, .int 1]]], .int 0], .list [.list [.tuple [.tuple [.int 0], .str "1"]]], .list [.list [.tuple [.int 0, .tuple [.int 1, .int 1]]]]] ++ [.list [.list [.tuple [.tuple [.int 0, .int 0], .tuple [.int 1, .int 1]]]], .tuple [.list []]]), chgD d = false := fun d hd => by
    have := List.all_eq_true.mp (show List.all (([.none, .bool true, .bool false, .int 0, .int 7, .str "", .str "change", .tuple [], .list [], .list [.int 0], .list [.none], .list [.list [.int 0]], .list [.list [.list []]], .list [.tuple []]] ++ [.list [.list [.tuple [.tuple [.int 0], .tuple [.int 1, .int 1], .int 0]]]] ++ [.list [.list [.tuple [.tuple [.int 0], .tuple [.int 1, .int 1]]], .int 0], .list [.list [.tuple [.tuple [.int 0], .str "1"]]], .list [.list [.tuple [.int 0, .tuple [.int 1, .int 1]]]]] ++ [.list [.list [.tuple [.tuple [.int 0, .int 0], .tuple [.int 1, .int 1]]]], .tuple [.list []]])) (fun d => !chgD d) = true by decide +kernel) d hd
    simpa using this
  refine ⟨B4, rfl, ⟨_, SqL.of hB4⟩, for_list (xs := vs1 ++ vs2 ++ vs3 ++ vs4) (fun _ σ H' => ∃ r0 r1 r2 r3 r4 r5 r6 r7 r8, σ = [r0, r1, r2, r3, r4, r5, r6, r7, r8] ∧ Same J4 H') ?_ ?_ ?_ ?_⟩
  · exact ⟨_, _, _, _, _, _, _, _, _, rfl, .refl _⟩
  · rintro j σ H' _ ⟨r0, r1, r2, r3, r4, r5, r6, r7, r8, rfl, e⟩
    exact SqL.of (e _ _ hB4)
  · rintro j v σ H' hv ⟨r0, r1, r2, r3, r4, r5, r6, r7, r8, rfl, e⟩
    obtain ⟨N, kB⟩ := kB4
    obtain ⟨d, hd1, hd2⟩ := (kB N (Nat.le_refl _)).get hv
    refine ⟨_, rfl, N, d, v, rfl, hd2.same e, fun H8 e8 => ⟨_, _, rfl, rfl, _, rfl, ?_⟩⟩
    rw [bad d (List.mem_of_getElem? hd1)]
    exact iteF ⟨_, _, _, _, _, _, _, _, _, rfl, e.trans e8⟩
  · rintro σ H' _
    exact q _
end
set_option maxHeartbeats 4000000 in
theorem all_mk {l : PySem.W.OpenLaw} {w : World} {K : PySem.W.Frag} {h : Heap} {mg : Str → Option Value} {fa f_is_fraction f_is_whole f_greatest_divisor f_is_poly f_is_term f_are_powers f_is_change f__law_cell f__law_take f__law_shared f__law_frac f__law_part f__law_poly f__law_change f__law_bad_term f__law_spoiled f_law : Addr} (X : K.In h) (G : h.Ns mainGlobals mg) (hfa : mg "law" = some (.ref fa))
    {od_is_fraction an_is_fraction : Option Addr} {sl_is_fraction : Array (Option Value)} {oc_is_fraction kV_is_fraction dc_is_fraction pm_is_fraction cd_is_fraction ct_is_fraction : Value}
    (a_is_fraction : PySem.W.nsIn K mainGlobals "is_fraction" = some (some (.ref f_is_fraction))) (l_is_fraction : K.lookup f_is_fraction = some ⟨oc_is_fraction, od_is_fraction, .func (PySem.W.fnOf "is_fraction" "is_fraction" (defArgs s_is_fraction) (defBody s_is_fraction) (defScope s_is_fraction) .none kV_is_fraction dc_is_fraction pm_is_fraction an_is_fraction cd_is_fraction ct_is_fraction), sl_is_fraction⟩) (c_is_fraction : PySem.W.codeIn K cd_is_fraction "is_fraction" = true) (k_is_fraction : PySem.W.keepIn K (.ref f_is_fraction) = true)
    {od_is_whole an_is_whole : Option Addr} {sl_is_whole : Array (Option Value)} {oc_is_whole kV_is_whole dc_is_whole pm_is_whole cd_is_whole ct_is_whole : Value}
    (a_is_whole : PySem.W.nsIn K mainGlobals "is_whole" = some (some (.ref f_is_whole))) (l_is_whole : K.lookup f_is_whole = some ⟨oc_is_whole, od_is_whole, .func (PySem.W.fnOf "is_whole" "is_whole" (defArgs s_is_whole) (defBody s_is_whole) (defScope s_is_whole) .none kV_is_whole dc_is_whole pm_is_whole an_is_whole cd_is_whole ct_is_whole), sl_is_whole⟩) (c_is_whole : PySem.W.codeIn K cd_is_whole "is_whole" = true) (k_is_whole : PySem.W.keepIn K (.ref f_is_whole) = true)
    {od_greatest_divisor an_greatest_divisor : Option Addr} {sl_greatest_divisor : Array (Option Value)} {oc_greatest_divisor kV_greatest_divisor dc_greatest_divisor pm_greatest_divisor cd_greatest_divisor ct_greatest_divisor : Value}
    (a_greatest_divisor : PySem.W.nsIn K mainGlobals "greatest_divisor" = some (some (.ref f_greatest_divisor))) (l_greatest_divisor : K.lookup f_greatest_divisor = some ⟨oc_greatest_divisor, od_greatest_divisor, .func (PySem.W.fnOf "greatest_divisor" "greatest_divisor" (defArgs s_greatest_divisor) (defBody s_greatest_divisor) (defScope s_greatest_divisor) .none kV_greatest_divisor dc_greatest_divisor pm_greatest_divisor an_greatest_divisor cd_greatest_divisor ct_greatest_divisor), sl_greatest_divisor⟩) (c_greatest_divisor : PySem.W.codeIn K cd_greatest_divisor "greatest_divisor" = true) (k_greatest_divisor : PySem.W.keepIn K (.ref f_greatest_divisor) = true)
    {od_is_poly an_is_poly : Option Addr} {sl_is_poly : Array (Option Value)} {oc_is_poly kV_is_poly dc_is_poly pm_is_poly cd_is_poly ct_is_poly : Value}
    (a_is_poly : PySem.W.nsIn K mainGlobals "is_poly" = some (some (.ref f_is_poly))) (l_is_poly : K.lookup f_is_poly = some ⟨oc_is_poly, od_is_poly, .func (PySem.W.fnOf "is_poly" "is_poly" (defArgs s_is_poly) (defBody s_is_poly) (defScope s_is_poly) .none kV_is_poly dc_is_poly pm_is_poly an_is_poly cd_is_poly ct_is_poly), sl_is_poly⟩) (c_is_poly : PySem.W.codeIn K cd_is_poly "is_poly" = true) (k_is_poly : PySem.W.keepIn K (.ref f_is_poly) = true)
    {od_is_term an_is_term : Option Addr} {sl_is_term : Array (Option Value)} {oc_is_term kV_is_term dc_is_term pm_is_term cd_is_term ct_is_term : Value}
    (a_is_term : PySem.W.nsIn K mainGlobals "is_term" = some (some (.ref f_is_term))) (l_is_term : K.lookup f_is_term = some ⟨oc_is_term, od_is_term, .func (PySem.W.fnOf "is_term" "is_term" (defArgs s_is_term) (defBody s_is_term) (defScope s_is_term) .none kV_is_term dc_is_term pm_is_term an_is_term cd_is_term ct_is_term), sl_is_term⟩) (c_is_term : PySem.W.codeIn K cd_is_term "is_term" = true) (k_is_term : PySem.W.keepIn K (.ref f_is_term) = true)
    {od_are_powers an_are_powers : Option Addr} {sl_are_powers : Array (Option Value)} {oc_are_powers kV_are_powers dc_are_powers pm_are_powers cd_are_powers ct_are_powers : Value}
    (a_are_powers : PySem.W.nsIn K mainGlobals "are_powers" = some (some (.ref f_are_powers))) (l_are_powers : K.lookup f_are_powers = some ⟨oc_are_powers, od_are_powers, .func (PySem.W.fnOf "are_powers" "are_powers" (defArgs s_are_powers) (defBody s_are_powers) (defScope s_are_powers) .none kV_are_powers dc_are_powers pm_are_powers an_are_powers cd_are_powers ct_are_powers), sl_are_powers⟩) (c_are_powers : PySem.W.codeIn K cd_are_powers "are_powers" = true) (k_are_powers : PySem.W.keepIn K (.ref f_are_powers) = true)
    {od_is_change an_is_change : Option Addr} {sl_is_change : Array (Option Value)} {oc_is_change kV_is_change dc_is_change pm_is_change cd_is_change ct_is_change : Value}
    (a_is_change : PySem.W.nsIn K mainGlobals "is_change" = some (some (.ref f_is_change))) (l_is_change : K.lookup f_is_change = some ⟨oc_is_change, od_is_change, .func (PySem.W.fnOf "is_change" "is_change" (defArgs s_is_change) (defBody s_is_change) (defScope s_is_change) .none kV_is_change dc_is_change pm_is_change an_is_change cd_is_change ct_is_change), sl_is_change⟩) (c_is_change : PySem.W.codeIn K cd_is_change "is_change" = true) (k_is_change : PySem.W.keepIn K (.ref f_is_change) = true)
    {od__law_cell an__law_cell : Option Addr} {sl__law_cell : Array (Option Value)} {oc__law_cell kV__law_cell dc__law_cell pm__law_cell cd__law_cell ct__law_cell : Value}
    (a__law_cell : PySem.W.nsIn K mainGlobals "_law_cell" = some (some (.ref f__law_cell))) (l__law_cell : K.lookup f__law_cell = some ⟨oc__law_cell, od__law_cell, .func (PySem.W.fnOf "_law_cell" "_law_cell" (defArgs s__law_cell) (defBody s__law_cell) (defScope s__law_cell) .none kV__law_cell dc__law_cell pm__law_cell an__law_cell cd__law_cell ct__law_cell), sl__law_cell⟩) (c__law_cell : PySem.W.codeIn K cd__law_cell "_law_cell" = true) (k__law_cell : PySem.W.keepIn K (.ref f__law_cell) = true)
    {od__law_take an__law_take : Option Addr} {sl__law_take : Array (Option Value)} {oc__law_take kV__law_take dc__law_take pm__law_take cd__law_take ct__law_take : Value}
    (a__law_take : PySem.W.nsIn K mainGlobals "_law_take" = some (some (.ref f__law_take))) (l__law_take : K.lookup f__law_take = some ⟨oc__law_take, od__law_take, .func (PySem.W.fnOf "_law_take" "_law_take" (defArgs s__law_take) (defBody s__law_take) (defScope s__law_take) .none kV__law_take dc__law_take pm__law_take an__law_take cd__law_take ct__law_take), sl__law_take⟩) (c__law_take : PySem.W.codeIn K cd__law_take "_law_take" = true) (k__law_take : PySem.W.keepIn K (.ref f__law_take) = true)
    {od__law_shared an__law_shared : Option Addr} {sl__law_shared : Array (Option Value)} {oc__law_shared kV__law_shared dc__law_shared pm__law_shared cd__law_shared ct__law_shared : Value}
    (a__law_shared : PySem.W.nsIn K mainGlobals "_law_shared" = some (some (.ref f__law_shared))) (l__law_shared : K.lookup f__law_shared = some ⟨oc__law_shared, od__law_shared, .func (PySem.W.fnOf "_law_shared" "_law_shared" (defArgs s__law_shared) (defBody s__law_shared) (defScope s__law_shared) .none kV__law_shared dc__law_shared pm__law_shared an__law_shared cd__law_shared ct__law_shared), sl__law_shared⟩) (c__law_shared : PySem.W.codeIn K cd__law_shared "_law_shared" = true) (k__law_shared : PySem.W.keepIn K (.ref f__law_shared) = true)
    {od__law_frac an__law_frac : Option Addr} {sl__law_frac : Array (Option Value)} {oc__law_frac kV__law_frac dc__law_frac pm__law_frac cd__law_frac ct__law_frac : Value}
    (a__law_frac : PySem.W.nsIn K mainGlobals "_law_frac" = some (some (.ref f__law_frac))) (l__law_frac : K.lookup f__law_frac = some ⟨oc__law_frac, od__law_frac, .func (PySem.W.fnOf "_law_frac" "_law_frac" (defArgs s__law_frac) (defBody s__law_frac) (defScope s__law_frac) .none kV__law_frac dc__law_frac pm__law_frac an__law_frac cd__law_frac ct__law_frac), sl__law_frac⟩) (c__law_frac : PySem.W.codeIn K cd__law_frac "_law_frac" = true) (k__law_frac : PySem.W.keepIn K (.ref f__law_frac) = true)
    {od__law_part an__law_part : Option Addr} {sl__law_part : Array (Option Value)} {oc__law_part kV__law_part dc__law_part pm__law_part cd__law_part ct__law_part : Value}
    (a__law_part : PySem.W.nsIn K mainGlobals "_law_part" = some (some (.ref f__law_part))) (l__law_part : K.lookup f__law_part = some ⟨oc__law_part, od__law_part, .func (PySem.W.fnOf "_law_part" "_law_part" (defArgs s__law_part) (defBody s__law_part) (defScope s__law_part) .none kV__law_part dc__law_part pm__law_part an__law_part cd__law_part ct__law_part), sl__law_part⟩) (c__law_part : PySem.W.codeIn K cd__law_part "_law_part" = true) (k__law_part : PySem.W.keepIn K (.ref f__law_part) = true)
    {od__law_poly an__law_poly : Option Addr} {sl__law_poly : Array (Option Value)} {oc__law_poly kV__law_poly dc__law_poly pm__law_poly cd__law_poly ct__law_poly : Value}
    (a__law_poly : PySem.W.nsIn K mainGlobals "_law_poly" = some (some (.ref f__law_poly))) (l__law_poly : K.lookup f__law_poly = some ⟨oc__law_poly, od__law_poly, .func (PySem.W.fnOf "_law_poly" "_law_poly" (defArgs s__law_poly) (defBody s__law_poly) (defScope s__law_poly) .none kV__law_poly dc__law_poly pm__law_poly an__law_poly cd__law_poly ct__law_poly), sl__law_poly⟩) (c__law_poly : PySem.W.codeIn K cd__law_poly "_law_poly" = true) (k__law_poly : PySem.W.keepIn K (.ref f__law_poly) = true)
    {od__law_change an__law_change : Option Addr} {sl__law_change : Array (Option Value)} {oc__law_change kV__law_change dc__law_change pm__law_change cd__law_change ct__law_change : Value}
    (a__law_change : PySem.W.nsIn K mainGlobals "_law_change" = some (some (.ref f__law_change))) (l__law_change : K.lookup f__law_change = some ⟨oc__law_change, od__law_change, .func (PySem.W.fnOf "_law_change" "_law_change" (defArgs s__law_change) (defBody s__law_change) (defScope s__law_change) .none kV__law_change dc__law_change pm__law_change an__law_change cd__law_change ct__law_change), sl__law_change⟩) (c__law_change : PySem.W.codeIn K cd__law_change "_law_change" = true) (k__law_change : PySem.W.keepIn K (.ref f__law_change) = true)
    {od__law_bad_term an__law_bad_term : Option Addr} {sl__law_bad_term : Array (Option Value)} {oc__law_bad_term kV__law_bad_term dc__law_bad_term pm__law_bad_term cd__law_bad_term ct__law_bad_term : Value}
    (a__law_bad_term : PySem.W.nsIn K mainGlobals "_law_bad_term" = some (some (.ref f__law_bad_term))) (l__law_bad_term : K.lookup f__law_bad_term = some ⟨oc__law_bad_term, od__law_bad_term, .func (PySem.W.fnOf "_law_bad_term" "_law_bad_term" (defArgs s__law_bad_term) (defBody s__law_bad_term) (defScope s__law_bad_term) .none kV__law_bad_term dc__law_bad_term pm__law_bad_term an__law_bad_term cd__law_bad_term ct__law_bad_term), sl__law_bad_term⟩) (c__law_bad_term : PySem.W.codeIn K cd__law_bad_term "_law_bad_term" = true) (k__law_bad_term : PySem.W.keepIn K (.ref f__law_bad_term) = true)
    {od__law_spoiled an__law_spoiled : Option Addr} {sl__law_spoiled : Array (Option Value)} {oc__law_spoiled kV__law_spoiled dc__law_spoiled pm__law_spoiled cd__law_spoiled ct__law_spoiled : Value}
    (a__law_spoiled : PySem.W.nsIn K mainGlobals "_law_spoiled" = some (some (.ref f__law_spoiled))) (l__law_spoiled : K.lookup f__law_spoiled = some ⟨oc__law_spoiled, od__law_spoiled, .func (PySem.W.fnOf "_law_spoiled" "_law_spoiled" (defArgs s__law_spoiled) (defBody s__law_spoiled) (defScope s__law_spoiled) .none kV__law_spoiled dc__law_spoiled pm__law_spoiled an__law_spoiled cd__law_spoiled ct__law_spoiled), sl__law_spoiled⟩) (c__law_spoiled : PySem.W.codeIn K cd__law_spoiled "_law_spoiled" = true) (k__law_spoiled : PySem.W.keepIn K (.ref f__law_spoiled) = true)
    {od_law an_law : Option Addr} {sl_law : Array (Option Value)} {oc_law kV_law dc_law pm_law cd_law ct_law : Value}
    (a_law : PySem.W.nsIn K mainGlobals "law" = some (some (.ref f_law))) (l_law : K.lookup f_law = some ⟨oc_law, od_law, .func (PySem.W.fnOf "law" "law" (defArgs s_law) (defBody s_law) (defScope s_law) .none kV_law dc_law pm_law an_law cd_law ct_law), sl_law⟩) (c_law : PySem.W.codeIn K cd_law "law" = true) (k_law : PySem.W.keepIn K (.ref f_law) = true)
    (y_len : PySem.W.nsIn K mainGlobals "len" = some none)
    (y_range : PySem.W.nsIn K mainGlobals "range" = some none)
    (y_abs : PySem.W.nsIn K mainGlobals "abs" = some none)
    (y_isinstance : PySem.W.nsIn K mainGlobals "isinstance" = some none)
    (y_int : PySem.W.nsIn K mainGlobals "int" = some none)
    (y_bool : PySem.W.nsIn K mainGlobals "bool" = some none)
    (y_tuple : PySem.W.nsIn K mainGlobals "tuple" = some none)
    (y_list : PySem.W.nsIn K mainGlobals "list" = some none)
    (y_sorted : PySem.W.nsIn K mainGlobals "sorted" = some none)
    (y_enumerate : PySem.W.nsIn K mainGlobals "enumerate" = some none)
    : ∃ fd : FuncData, (∀ (s : Shared) (v : Value), BindsTo s fd ⟨[v], []⟩ [("_law_script", v)]) ∧ ∀ base : Heap, K.In base → base.Ns mainGlobals mg → FnOk l.prog w K mg base CX0 6 fa fd ["_law_script"] (spLaw K) := by
  have e := hfa.symm.trans (PySem.W.mg_of X G a_law)
  cases e
  have T_is_fraction : Fn K mg "is_fraction" s_is_fraction ["thing"] _ _ := ⟨fun_mk (st := s_is_fraction) l_is_fraction c_is_fraction k_is_fraction, (fun_mk (st := s_is_fraction) l_is_fraction c_is_fraction k_is_fraction).binds (ps := ["thing"]) (fun _ _ _ _ _ _ us hl => match us, hl with | [_], _ => rfl), PySem.W.mg_of X G a_is_fraction⟩
  have T_is_whole : Fn K mg "is_whole" s_is_whole ["thing"] _ _ := ⟨fun_mk (st := s_is_whole) l_is_whole c_is_whole k_is_whole, (fun_mk (st := s_is_whole) l_is_whole c_is_whole k_is_whole).binds (ps := ["thing"]) (fun _ _ _ _ _ _ us hl => match us, hl with | [_], _ => rfl), PySem.W.mg_of X G a_is_whole⟩
  have T_greatest_divisor : Fn K mg "greatest_divisor" s_greatest_divisor ["one", "other"] _ _ := ⟨fun_mk (st := s_greatest_divisor) l_greatest_divisor c_greatest_divisor k_greatest_divisor, (fun_mk (st := s_greatest_divisor) l_greatest_divisor c_greatest_divisor k_greatest_divisor).binds (ps := ["one", "other"]) (fun _ _ _ _ _ _ us hl => match us, hl with | [_, _], _ => rfl), PySem.W.mg_of X G a_greatest_divisor⟩
  have T_is_poly : Fn K mg "is_poly" s_is_poly ["thing", "unknowns"] _ _ := ⟨fun_mk (st := s_is_poly) l_is_poly c_is_poly k_is_poly, (fun_mk (st := s_is_poly) l_is_poly c_is_poly k_is_poly).binds (ps := ["thing", "unknowns"]) (fun _ _ _ _ _ _ us hl => match us, hl with | [_, _], _ => rfl), PySem.W.mg_of X G a_is_poly⟩
  have T_is_term : Fn K mg "is_term" s_is_term ["thing", "unknowns"] _ _ := ⟨fun_mk (st := s_is_term) l_is_term c_is_term k_is_term, (fun_mk (st := s_is_term) l_is_term c_is_term k_is_term).binds (ps := ["thing", "unknowns"]) (fun _ _ _ _ _ _ us hl => match us, hl with | [_, _], _ => rfl), PySem.W.mg_of X G a_is_term⟩
  have T_are_powers : Fn K mg "are_powers" s_are_powers ["thing", "unknowns"] _ _ := ⟨fun_mk (st := s_are_powers) l_are_powers c_are_powers k_are_powers, (fun_mk (st := s_are_powers) l_are_powers c_are_powers k_are_powers).binds (ps := ["thing", "unknowns"]) (fun _ _ _ _ _ _ us hl => match us, hl with | [_, _], _ => rfl), PySem.W.mg_of X G a_are_powers⟩
  have T_is_change : Fn K mg "is_change" s_is_change ["thing"] _ _ := ⟨fun_mk (st := s_is_change) l_is_change c_is_change k_is_change, (fun_mk (st := s_is_change) l_is_change c_is_change k_is_change).binds (ps := ["thing"]) (fun _ _ _ _ _ _ us hl => match us, hl with | [_], _ => rfl), PySem.W.mg_of X G a_is_change⟩
  have T__law_cell : Fn K mg "_law_cell" s__law_cell ["_law_script", "_law_k"] _ _ := ⟨fun_mk (st := s__law_cell) l__law_cell c__law_cell k__law_cell, (fun_mk (st := s__law_cell) l__law_cell c__law_cell k__law_cell).binds (ps := ["_law_script", "_law_k"]) (fun _ _ _ _ _ _ us hl => match us, hl with | [_, _], _ => rfl), PySem.W.mg_of X G a__law_cell⟩
  have T__law_take : Fn K mg "_law_take" s__law_take ["_law_pile", "_law_size"] _ _ := ⟨fun_mk (st := s__law_take) l__law_take c__law_take k__law_take, (fun_mk (st := s__law_take) l__law_take c__law_take k__law_take).binds (ps := ["_law_pile", "_law_size"]) (fun _ _ _ _ _ _ us hl => match us, hl with | [_, _], _ => rfl), PySem.W.mg_of X G a__law_take⟩
  have T__law_shared : Fn K mg "_law_shared" s__law_shared ["_law_one", "_law_other"] _ _ := ⟨fun_mk (st := s__law_shared) l__law_shared c__law_shared k__law_shared, (fun_mk (st := s__law_shared) l__law_shared c__law_shared k__law_shared).binds (ps := ["_law_one", "_law_other"]) (fun _ _ _ _ _ _ us hl => match us, hl with | [_, _], _ => rfl), PySem.W.mg_of X G a__law_shared⟩
  have T__law_frac : Fn K mg "_law_frac" s__law_frac ["_law_top", "_law_bottom"] _ _ := ⟨fun_mk (st := s__law_frac) l__law_frac c__law_frac k__law_frac, (fun_mk (st := s__law_frac) l__law_frac c__law_frac k__law_frac).binds (ps := ["_law_top", "_law_bottom"]) (fun _ _ _ _ _ _ us hl => match us, hl with | [_, _], _ => rfl), PySem.W.mg_of X G a__law_frac⟩
  have T__law_part : Fn K mg "_law_part" s__law_part ["_law_pile"] _ _ := ⟨fun_mk (st := s__law_part) l__law_part c__law_part k__law_part, (fun_mk (st := s__law_part) l__law_part c__law_part k__law_part).binds (ps := ["_law_pile"]) (fun _ _ _ _ _ _ us hl => match us, hl with | [_], _ => rfl), PySem.W.mg_of X G a__law_part⟩
  have T__law_poly : Fn K mg "_law_poly" s__law_poly ["_law_pile", "_law_many", "_law_most"] _ _ := ⟨fun_mk (st := s__law_poly) l__law_poly c__law_poly k__law_poly, (fun_mk (st := s__law_poly) l__law_poly c__law_poly k__law_poly).binds (ps := ["_law_pile", "_law_many", "_law_most"]) (fun _ _ _ _ _ _ us hl => match us, hl with | [_, _, _], _ => rfl), PySem.W.mg_of X G a__law_poly⟩
  have T__law_change : Fn K mg "_law_change" s__law_change ["_law_script", "_law_start", "_law_many", "_law_most"] _ _ := ⟨fun_mk (st := s__law_change) l__law_change c__law_change k__law_change, (fun_mk (st := s__law_change) l__law_change c__law_change k__law_change).binds (ps := ["_law_script", "_law_start", "_law_many", "_law_most"]) (fun _ _ _ _ _ _ us hl => match us, hl with | [_, _, _, _], _ => rfl), PySem.W.mg_of X G a__law_change⟩
  have T__law_bad_term : Fn K mg "_law_bad_term" s__law_bad_term ["_law_term", "_law_number", "_law_many"] _ _ := ⟨fun_mk (st := s__law_bad_term) l__law_bad_term c__law_bad_term k__law_bad_term, (fun_mk (st := s__law_bad_term) l__law_bad_term c__law_bad_term k__law_bad_term).binds (ps := ["_law_term", "_law_number", "_law_many"]) (fun _ _ _ _ _ _ us hl => match us, hl with | [_, _, _], _ => rfl), PySem.W.mg_of X G a__law_bad_term⟩
  have T__law_spoiled : Fn K mg "_law_spoiled" s__law_spoiled ["_law_change_here", "_law_number"] _ _ := ⟨fun_mk (st := s__law_spoiled) l__law_spoiled c__law_spoiled k__law_spoiled, (fun_mk (st := s__law_spoiled) l__law_spoiled c__law_spoiled k__law_spoiled).binds (ps := ["_law_change_here", "_law_number"]) (fun _ _ _ _ _ _ us hl => match us, hl with | [_, _], _ => rfl), PySem.W.mg_of X G a__law_spoiled⟩
  have T_law : Fn K mg "law" s_law ["_law_script"] _ _ := ⟨fun_mk (st := s_law) l_law c_law k_law, (fun_mk (st := s_law) l_law c_law k_law).binds (ps := ["_law_script"]) (fun _ _ _ _ _ _ us hl => match us, hl with | [_], _ => rfl), PySem.W.mg_of X G a_law⟩
  have z_len := PySem.W.mg_none_of X G y_len
  have z_range := PySem.W.mg_none_of X G y_range
  have z_abs := PySem.W.mg_none_of X G y_abs
  have z_isinstance := PySem.W.mg_none_of X G y_isinstance
  have z_int := PySem.W.mg_none_of X G y_int
  have z_bool := PySem.W.mg_none_of X G y_bool
  have z_tuple := PySem.W.mg_none_of X G y_tuple
  have z_list := PySem.W.mg_none_of X G y_list
  have z_sorted := PySem.W.mg_none_of X G y_sorted
  have z_enumerate := PySem.W.mg_none_of X G y_enumerate
  refine ⟨PySem.W.fnOf "law" "law" (defArgs s_law) (defBody s_law) (defScope s_law) .none kV_law dc_law pm_law an_law cd_law ct_law, fun s v => .of_eq rfl, fun base _ _ => ?_⟩
  have g_gd := ok_greatest_divisor (P := l.prog) (w := w) (base := base) T_greatest_divisor z_abs
  have g_take := ok__law_take (P := l.prog) (w := w) (base := base) T__law_take
  have g_shared := ok__law_shared (P := l.prog) (w := w) (base := base) T__law_shared z_abs
  have g_frac := ok__law_frac T__law_frac T__law_shared g_shared
  have g_cell := ok__law_cell (P := l.prog) (w := w) (base := base) T__law_cell z_len z_range
  have g_wh := ok_is_whole (P := l.prog) (w := w) (base := base) T_is_whole z_isinstance z_int z_bool
  have g_isfr := ok_is_fraction T_is_fraction T_is_whole T_greatest_divisor g_wh g_gd z_isinstance z_tuple z_len
  have g_pw := ok_are_powers T_are_powers T_is_whole g_wh z_isinstance z_tuple z_len
  have g_tm := ok_is_term T_is_term T_are_powers T_is_fraction g_pw g_isfr z_isinstance z_tuple z_len
  have g_po := ok_is_poly T_is_poly T_is_term g_tm z_isinstance z_list z_enumerate
  have g_ch := ok_is_change T_is_change T_is_poly g_po z_isinstance z_list z_len
  have g_part := ok__law_part T__law_part T__law_take T__law_frac (g_take.mono (by decide)) g_frac
  have g_lp := ok__law_poly T__law_poly T__law_take T__law_part (g_take.mono (by decide)) g_part z_range z_sorted z_tuple
  have g_lc := ok__law_change T__law_change T__law_cell T__law_poly (g_cell.mono (by decide)) g_lp z_range
  have g_bt := ok__law_bad_term (P := l.prog) (w := w) (base := base) T__law_bad_term z_list
  have g_sp := ok__law_spoiled T__law_spoiled T__law_bad_term g_bt z_len z_range z_tuple
  exact ok_law T_law T__law_cell T__law_change T__law_spoiled T_is_change (g_cell.mono (by decide)) g_lc (g_sp.mono (by decide)) g_ch z_list z_range z_tuple
theorem walk {l : PySem.W.OpenLaw} {q : Program} {loose : List Str} {XP : (Str → Option Value) → Heap → Prop} {YP : World → Heap → Prop} {d : DefRec} {K : Params → PySem.W.Frag} (hn : l.most = some 63) (hdf : d.params.defaults = [])
    (hY : ∀ (w : World) (h : Heap), YP w h → (K w.params).In h)
    (F : ∀ (w : World) (mg : Str → Option Value) (fa : Addr) (h : Heap), (K w.params).In h → h.Ns mainGlobals mg → mg d.name = some (.ref fa) →
      ∃ fd : FuncData, (∀ (s : Shared) (u : Value), BindsTo s fd ⟨[u], []⟩ [("_law_script", u)]) ∧ ∀ base : Heap, (K w.params).In base → base.Ns mainGlobals mg → FnOk l.prog w (K w.params) mg base CX0 6 fa fd ["_law_script"] (spLaw (K w.params))) :
    PySem.W.WalkO q loose XP YP l.row.toRowW d [] (fun f vs => PySem.call f vs) :=
  L2.walk_of (n := 63) (k := 6) (x := "_law_script") (CX := fun _ => CX0) (sp := fun w => spLaw (K w.params)) hn (by decide) hdf ⟨rfl, by decide, by decide⟩ hY F (fun _ _ a ns hl _ hS => ⟨a, ns, rfl, hS, hl, fun _ => rfl⟩) fun _ _ _ _ _ z => z
end Q19
open PySem PySem.W PyProof.Rows
set_option maxRecDepth 100000 in
set_option maxHeartbeats 0 in
theorem PySem.Challenge.cw_stepgrove_k19_what_is_a_change_holds : PySem.Challenge.rw_stepgrove_k19_what_is_a_change.Holds := by
  w_on; o_law; k_head; (case hw => w_witness2)
  k_fill
  refine Q19.walk (l := PySem.Challenge.rw_stepgrove_k19_what_is_a_change) rfl rfl (fun w h Y => PySem.W.kIn_of Y) ?F
  case F =>
    intro w mg fa h KX G hmg
    refine' Q19.all_mk KX G hmg ?a_is_fraction ?l_is_fraction ?c_is_fraction ?k_is_fraction ?a_is_whole ?l_is_whole ?c_is_whole ?k_is_whole ?a_greatest_divisor ?l_greatest_divisor ?c_greatest_divisor ?k_greatest_divisor ?a_is_poly ?l_is_poly ?c_is_poly ?k_is_poly ?a_is_term ?l_is_term ?c_is_term ?k_is_term ?a_are_powers ?l_are_powers ?c_are_powers ?k_are_powers ?a_is_change ?l_is_change ?c_is_change ?k_is_change ?a__law_cell ?l__law_cell ?c__law_cell ?k__law_cell ?a__law_take ?l__law_take ?c__law_take ?k__law_take ?a__law_shared ?l__law_shared ?c__law_shared ?k__law_shared ?a__law_frac ?l__law_frac ?c__law_frac ?k__law_frac ?a__law_part ?l__law_part ?c__law_part ?k__law_part ?a__law_poly ?l__law_poly ?c__law_poly ?k__law_poly ?a__law_change ?l__law_change ?c__law_change ?k__law_change ?a__law_bad_term ?l__law_bad_term ?c__law_bad_term ?k__law_bad_term ?a__law_spoiled ?l__law_spoiled ?c__law_spoiled ?k__law_spoiled ?a_law ?l_law ?c_law ?k_law ?y_len ?y_range ?y_abs ?y_isinstance ?y_int ?y_bool ?y_tuple ?y_list ?y_sorted ?y_enumerate
    (case a_is_fraction => k_is); (case l_is_fraction => k_is); (case c_is_fraction => k_is); (case k_is_fraction => k_is)
    (case a_is_whole => k_is); (case l_is_whole => k_is); (case c_is_whole => k_is); (case k_is_whole => k_is)
    (case a_greatest_divisor => k_is); (case l_greatest_divisor => k_is); (case c_greatest_divisor => k_is); (case k_greatest_divisor => k_is)
    (case a_is_poly => k_is); (case l_is_poly => k_is); (case c_is_poly => k_is); (case k_is_poly => k_is)
    (case a_is_term => k_is); (case l_is_term => k_is); (case c_is_term => k_is); (case k_is_term => k_is)
    (case a_are_powers => k_is); (case l_are_powers => k_is); (case c_are_powers => k_is); (case k_are_powers => k_is)
    (case a_is_change => k_is); (case l_is_change => k_is); (case c_is_change => k_is); (case k_is_change => k_is)
    (case a__law_cell => k_is); (case l__law_cell => k_is); (case c__law_cell => k_is); (case k__law_cell => k_is)
    (case a__law_take => k_is); (case l__law_take => k_is); (case c__law_take => k_is); (case k__law_take => k_is)
    (case a__law_shared => k_is); (case l__law_shared => k_is); (case c__law_shared => k_is); (case k__law_shared => k_is)
    (case a__law_frac => k_is); (case l__law_frac => k_is); (case c__law_frac => k_is); (case k__law_frac => k_is)
    (case a__law_part => k_is); (case l__law_part => k_is); (case c__law_part => k_is); (case k__law_part => k_is)
    (case a__law_poly => k_is); (case l__law_poly => k_is); (case c__law_poly => k_is); (case k__law_poly => k_is)
    (case a__law_change => k_is); (case l__law_change => k_is); (case c__law_change => k_is); (case k__law_change => k_is)
    (case a__law_bad_term => k_is); (case l__law_bad_term => k_is); (case c__law_bad_term => k_is); (case k__law_bad_term => k_is)
    (case a__law_spoiled => k_is); (case l__law_spoiled => k_is); (case c__law_spoiled => k_is); (case k__law_spoiled => k_is)
    (case a_law => k_is); (case l_law => k_is); (case c_law => k_is); (case k_law => k_is)
    (case y_len => k_is)
    (case y_range => k_is)
    (case y_abs => k_is)
    (case y_isinstance => k_is)
    (case y_int => k_is)
    (case y_bool => k_is)
    (case y_tuple => k_is)
    (case y_list => k_is)
    (case y_sorted => k_is)
    (case y_enumerate => k_is)
#print axioms PySem.Challenge.cw_stepgrove_k19_what_is_a_change_holds
