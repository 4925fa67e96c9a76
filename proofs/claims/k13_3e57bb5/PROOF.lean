import PyProof.Rows.All
import Wide.All
import OpenK.AllK
import Wide.FinOn
import Lean
import PyProof.EqAt
import PyProof.EqKinds
import PyProof.TupleCall
import PySem.Challenge.RW_stepgrove_k13_cuts
set_option Elab.async false
set_option linter.all false
set_option maxRecDepth 100000
namespace L2
open PySem PySem.Spec PyProof.Rows
abbrev Key := Sum Int Str
def keyIs : Key → Value → Bool
  | .inl k, v => Value.isInt k v
  | .inr x, v => Value.isStrOf x v
def keyH (w : World) : Key → Int
  | .inl k => hashInt k
  | .inr x => hashStr w x
theorem keyIs_shape : ∀ {k : Key} {v : Value}, keyIs k v = true → (∃ i t, k = Sum.inl i ∧ v = Value.int i t) ∨ (∃ x t, k = Sum.inr x ∧ v = Value.str x t)
  | .inl i, v, h => by
    obtain ⟨t, e⟩ := Value.isInt_shape (k := i) (v := v) h
    exact .inl ⟨i, t, rfl, e⟩
  | .inr x, v, h => by
    obtain ⟨t, e⟩ := Value.isStrOf_shape (x := x) (v := v) h
    exact .inr ⟨x, t, rfl, e⟩
theorem key_ll (a b : Int) : decide ((Sum.inl a : Key) = Sum.inl b) = (a == b) := by
  by_cases e : a = b
  · subst e; simp
  · have h : ¬ (Sum.inl a : Key) = Sum.inl b := fun q => e (Sum.inl.inj q)
    rw [decide_eq_false h]
    exact (beq_eq_false_iff_ne.mpr e).symm
theorem key_rr (a b : Str) : decide ((Sum.inr a : Key) = Sum.inr b) = decide (a = b) := by
  by_cases e : a = b
  · subst e; simp
  · have h : ¬ (Sum.inr a : Key) = Sum.inr b := fun q => e (Sum.inr.inj q)
    rw [decide_eq_false h, decide_eq_false e]
theorem key_lr (a : Int) (b : Str) : decide ((Sum.inl a : Key) = Sum.inr b) = false := decide_eq_false (fun q => nomatch q)
theorem key_rl (a : Str) (b : Int) : decide ((Sum.inr a : Key) = Sum.inl b) = false := decide_eq_false (fun q => nomatch q)
def mixKind (prog : Program) (w : World) : PySem.KeyKind prog w Key where
  is := keyIs
  hash := keyH w
  inj := fun v a b ha hb => by
    rcases keyIs_shape ha with ⟨i, t, rfl, rfl⟩ | ⟨x, t, rfl, rfl⟩
    · rcases keyIs_shape hb with ⟨j, u, rfl, e⟩ | ⟨y, u, rfl, e⟩
      · injection e with e1 _; rw [e1]
      · exact nomatch e
    · rcases keyIs_shape hb with ⟨j, u, rfl, e⟩ | ⟨y, u, rfl, e⟩
      · exact nomatch e
      · injection e with e1 _; rw [e1]
  byValue := fun k v h => by
    rcases keyIs_shape h with ⟨i, t, rfl, rfl⟩ | ⟨x, t, rfl, rfl⟩ <;> rfl
  pyHash := fun hv h => by
    rcases keyIs_shape hv with ⟨i, t, rfl, rfl⟩ | ⟨x, t, rfl, rfl⟩
    · exact wpAny_pyHash_int h
    · exact wpAny_pyHash_str h
  eqBool := fun hu hv h => by
    rcases keyIs_shape hu with ⟨i, t, rfl, rfl⟩ | ⟨x, t, rfl, rfl⟩
    · rcases keyIs_shape hv with ⟨j, u, rfl, rfl⟩ | ⟨y, u, rfl, rfl⟩
      · rw [key_ll] at h; exact wpAny_eqBool_int h
      · rw [key_lr] at h; exact SeqAt.EqAt.int_str i t y u _ _ _ _ h
    · rcases keyIs_shape hv with ⟨j, u, rfl, rfl⟩ | ⟨y, u, rfl, rfl⟩
      · rw [key_rl] at h; exact SeqAt.EqAt.str_int x t j u _ _ _ _ h
      · rw [key_rr] at h; exact wpAny_eqBool_str h
  «strs» := fun k x t v h => by
    rcases keyIs_shape h with ⟨i, u, rfl, e⟩ | ⟨y, u, rfl, e⟩
    · exact nomatch e
    · injection e with e1 _
      subst e1
      cases v <;> rfl
end L2
namespace L2
open PySem PySem.Spec PyProof.Rows
inductive V where
  | non | bl (b : Bool) | int (i : Int) | str (x : Str) | byt (b : Array UInt8) | flt (b : UInt64) | ref (a : Addr) | ty (n : String)
  deriving DecidableEq
def RelV : V → Value → Prop
  | .non, u => u = Value.none
  | .bl b, u => u = Value.bool b
  | .int i, u => ∃ t, u = Value.int i t
  | .str x, u => ∃ t, u = Value.str x t
  | .byt b, u => ∃ t, u = Value.bytes b t
  | .flt b, u => ∃ t, u = Value.float b t
  | .ref a, u => u = Value.ref a
  | .ty n, u => u = Value.type n
abbrev Vals : List V → List Value → Prop := Paired RelV
theorem Vals.length {xs : List V} {us : List Value} (r : Vals xs us) : xs.length = us.length := Paired.length r
theorem Vals.get : ∀ {xs : List V} {us : List Value} {i : Nat} {x : V}, Vals xs us → xs[i]? = some x → ∃ u, us[i]? = some u ∧ RelV x u
  | _, _, _, _, .nil, e => by simp at e
  | _, _, 0, _, .cons r _, e => by simp at e; subst e; exact ⟨_, rfl, r⟩
  | _, _, i + 1, x, .cons _ t, e => by
    obtain ⟨u, h1, h2⟩ := Vals.get (i := i) (x := x) t (by simpa using e)
    exact ⟨u, by simpa using h1, h2⟩
theorem Vals.append : ∀ {xs ys : List V} {us ws : List Value}, Vals xs us → Vals ys ws → Vals (xs ++ ys) (us ++ ws)
  | _, _, _, _, .nil, s => s
  | _, _, _, _, .cons r t, s => .cons r (Vals.append t s)
theorem Vals.take : ∀ {xs : List V} {us : List Value} (n : Nat), Vals xs us → Vals (xs.take n) (us.take n)
  | _, _, 0, _ => .nil
  | _, _, _ + 1, .nil => .nil
  | _, _, n + 1, .cons r t => .cons r (Vals.take n t)
theorem Vals.drop : ∀ {xs : List V} {us : List Value} (n : Nat), Vals xs us → Vals (xs.drop n) (us.drop n)
  | _, _, 0, r => r
  | _, _, _ + 1, .nil => .nil
  | _, _, n + 1, .cons _ t => Vals.drop n t
def RelO : Option V → Option Value → Prop
  | some v, some u => RelV v u
  | none, none => True
  | _, _ => False
def KV {κ : Type} : List (κ × V) → List (κ × Value) → Prop := Paired fun (p : κ × V) (q : κ × Value) => p.1 = q.1 ∧ RelV p.2 q.2
def kV : Key → V
  | .inl i => .int i
  | .inr x => .str x
inductive HO where
  | lst (xs : List V)
  | tup (xs : List V)
  | dK (kvs : List (Key × V)) | dT (kvs : List (List Key × V))
  | set (S : Int → Bool) (n : Nat)
  | ins (C dx : Addr) (fs : List (Str × V))
  | own (x : Addr)
  | xd (fs : List (Str × V))
  | met (f x : Addr)
  | rng (lo hi : Int)
  | frz (o : Obj) (u : HO)
  | tbl (ps : Array Value)
  | ext (φ : Heap → Prop)
abbrev Hp := Addr → Option HO
def upd (H : Hp) (a : Addr) (o : HO) : Hp := fun b => if b = a then some o else H b
theorem upd_same {H : Hp} {a : Addr} {o : HO} : upd H a o a = some o := by unfold upd; rw [if_pos rfl]
theorem upd_ne {H : Hp} {a b : Addr} {o : HO} (h : b ≠ a) : upd H a o b = H b := by unfold upd; rw [if_neg h]
theorem ne_of {H : Hp} {a b : Addr} {o u : HO} (h : H a = some o) (h' : H b = some u) (d : o ≠ u) : a ≠ b := by
  intro e; subst e; rw [h] at h'; exact d (Option.some.inj h')
theorem ne_of_none {H : Hp} {a b : Addr} {o : HO} (h : H a = some o) (h' : H b = none) : a ≠ b := by
  intro e; subst e; rw [h] at h'; cases h'
section
variable (P : Program) (w : World)
def ObjOk (H : Hp) (h : Heap) (a : Addr) : HO → Prop
  | .lst xs => xs.length ≤ sizeLine ∧ ∃ (its : List Value) (n : Nat), Vals xs its ∧ h.get? a = some { cls := .type "list", data := .seq its.toArray n }
  | .tup xs => xs.length ≤ sizeLine ∧ ∃ its : List Value, Vals xs its ∧ IsTup h a its.toArray
  | .dK kvs => kvs.length ≤ sizeLine ∧ (a == sysModules) = false ∧ ∃ vs, KV kvs vs ∧ h.DictOf (mixKind P w) a vs
  | .dT kvs => kvs.length ≤ sizeLine ∧ (a == sysModules) = false ∧ ∃ xs : List (List Key × Addr × Value),
      Paired (fun (p : List Key × V) (q : List Key × Addr × Value) => p.1 = q.1 ∧ H q.2.1 = some (.tup (p.1.map kV)) ∧ RelV p.2 q.2.2) kvs xs ∧
      ∃ o es ep, h.get? a = some o ∧ o.ExactDict ∧ o.data = .dict es ep ∧ es.toList = xs.map (entryOfKey (tupleKind (mixKind P w))) ∧ (xs.map (·.1)).Nodup
  | .set S n => h.SetOf (intKind P w) a S n
  | .ins C dx fs => H dx = some (.own a) ∧ fs.length ≤ 1000 ∧ dx ≠ a ∧ h.get? a = some (PySem.W.instObj C dx) ∧
      ∃ mA, h.Ns1 dx mA ∧ (∀ f, RelO (fs.lookup f) (mA f)) ∧ PySem.Within mA (fs.map (·.1))
  | .own _ => ∃ o, h.get? a = some o
  | .xd fs => ∃ mA, h.Ns1 a mA ∧ ∀ f, RelO (fs.lookup f) (mA f)
  | .rng lo hi => ∃ t u v, h.get? a = some { cls := .type "range", data := .fields #[.int lo t, .int hi u, .int 1 v] }
  | .frz o u => h.get? a = some o ∧ ObjOk H h a u
  | .tbl ps => h.get? a = some { cls := .none, data := .fields ps }
  | .met f x => h.get? a = some (PySem.W.methodObj (.ref f) (.ref x))
  | .ext φ => φ h ∧ (∃ o, h.get? a = some o) ∧ ∀ h1 h2 : Heap, φ h1 → (∀ o, h1.get? a = some o → h2.get? a = some o) → φ h2
def HOk (H : Hp) (h : Heap) : Prop := ∀ a o, H a = some o → ObjOk P w H h a o
end
section
variable {P : Program} {w : World} {H H' : Hp} {h h' : Heap} {a : Addr} {o : HO}
theorem ObjOk.lt (x : ObjOk P w H h a o) : a < h.objs.size := by
  cases o with
  | lst xs => obtain ⟨_, _, _, _, e⟩ := x; exact Heap.lt_size e
  | tup xs => obtain ⟨_, _, _, p⟩ := x; exact p.lt
  | dK kvs => obtain ⟨_, _, _, _, o, _, _, e, _⟩ := x; exact Heap.lt_size e
  | dT kvs => obtain ⟨_, _, _, _, o, _, _, e, _⟩ := x; exact Heap.lt_size e
  | set S n => obtain ⟨o, _, _, _, e, _⟩ := x; exact Heap.lt_size e
  | ins C dx fs => obtain ⟨_, _, _, e, _⟩ := x; exact Heap.lt_size e
  | own y => obtain ⟨_, e⟩ := x; exact Heap.lt_size e
  | xd fs => obtain ⟨_, ⟨_, _, _, e, _⟩, _⟩ := x; exact Heap.lt_size e
  | rng lo hi => obtain ⟨_, _, _, e⟩ := x; exact Heap.lt_size e
  | frz ob u => obtain ⟨e, _⟩ := x; exact Heap.lt_size e
  | tbl ps => exact Heap.lt_size (show h.get? a = some _ from x)
  | met f y => exact Heap.lt_size (show h.get? a = some _ from x)
  | ext φ => obtain ⟨_, ⟨_, e⟩, _⟩ := x; exact Heap.lt_size e
theorem Paired.mapP {α β : Type} {F G : α → β → Prop} : ∀ {l₁ : List α} {l₂ : List β}, Paired F l₁ l₂ → (∀ a b, F a b → G a b) → Paired G l₁ l₂
  | _, _, .nil, _ => .nil
  | _, _, .cons r t, f => .cons (f _ _ r) (Paired.mapP t f)
theorem ObjOk.stay (x : ObjOk P w H h a o) (k : ∀ b u, (b = a ∨ H b = some (.own a)) → h.get? b = some u → h'.get? b = some u)
    (ho : ∀ b, H b = some (.own a) → H' b = some (.own a)) (ht : ∀ b xs, H b = some (.tup xs) → H' b = some (.tup xs)) : ObjOk P w H' h' a o := by
  induction o with
  | lst xs => obtain ⟨z, its, n, r, e⟩ := x; exact ⟨z, its, n, r, k _ _ (.inl rfl) e⟩
  | tup xs => obtain ⟨z, its, r, ob, e, c⟩ := x; exact ⟨z, its, r, ob, k _ _ (.inl rfl) e, c⟩
  | dK kvs => obtain ⟨z, y, vs, r, ob, es, ep, e, c⟩ := x; exact ⟨z, y, vs, r, ob, es, ep, k _ _ (.inl rfl) e, c⟩
  | dT kvs =>
    obtain ⟨z, y, xs, r, ob, es, ep, e, c⟩ := x
    exact ⟨z, y, xs, Paired.mapP r fun p q z => ⟨z.1, ht _ _ z.2.1, z.2.2⟩, ob, es, ep, k _ _ (.inl rfl) e, c⟩
  | set S n => obtain ⟨ob, es, ep, t, e, c⟩ := x; exact ⟨ob, es, ep, t, k _ _ (.inl rfl) e, c⟩
  | ins C dx fs =>
    obtain ⟨d, z, ne, e, mA, ⟨od, es, ep, e2, c⟩, r⟩ := x
    exact ⟨ho _ d, z, ne, k _ _ (.inl rfl) e, mA, ⟨od, es, ep, k _ _ (.inr d) e2, c⟩, r⟩
  | own y => obtain ⟨ob, e⟩ := x; exact ⟨ob, k _ _ (.inl rfl) e⟩
  | xd fs => obtain ⟨mA, ⟨od, es, ep, e, c⟩, r⟩ := x; exact ⟨mA, ⟨od, es, ep, k _ _ (.inl rfl) e, c⟩, r⟩
  | rng lo hi => obtain ⟨t, u, v, e⟩ := x; exact ⟨t, u, v, k _ _ (.inl rfl) e⟩
  | frz ob u ih => obtain ⟨e, q⟩ := x; exact ⟨k _ _ (.inl rfl) e, ih q⟩
  | tbl ps =>
    have e : h.get? a = some { cls := .none, data := .fields ps } := x
    show h'.get? a = some { cls := .none, data := .fields ps }
    exact k a _ (.inl rfl) e
  | met f y =>
    have e : h.get? a = some (PySem.W.methodObj (.ref f) (.ref y)) := x
    show h'.get? a = some (PySem.W.methodObj (.ref f) (.ref y))
    exact k a _ (.inl rfl) e
  | ext φ => obtain ⟨p, ⟨o, e⟩, st⟩ := x; exact ⟨st _ _ p fun o q => k _ _ (.inl rfl) q, ⟨o, k _ _ (.inl rfl) e⟩, st⟩
theorem HOk.lt (x : HOk P w H h) (e : H a = some o) : a < h.objs.size := (x a o e).lt
theorem HOk.fresh (x : HOk P w H h) (e : h.objs.size ≤ a) : H a = none := by
  cases q : H a with
  | none => rfl
  | some u => exact absurd (Nat.lt_of_lt_of_le (x.lt q) e) (Nat.lt_irrefl _)
theorem HOk.kept (x : HOk P w H h) (k : ∀ b u, h.get? b = some u → h'.get? b = some u) : HOk P w H h' := fun a o e =>
  (x a o e).stay (fun b u _ q => k b u q) (fun _ q => q) fun _ _ q => q
theorem HOk.laid (x : HOk P w H h) (k : ∀ b u, h.get? b = some u → h'.get? b = some u) (hp : h.objs.size ≤ a) (new : ObjOk P w (upd H a o) h' a o) : HOk P w (upd H a o) h' := fun b u e => by
  have hn := x.fresh hp
  by_cases hb : b = a
  · subst hb; rw [upd_same] at e; cases e; exact new
  · rw [upd_ne hb] at e
    exact (x b u e).stay (fun c v _ q => k c v q) (fun c q => by rw [upd_ne (ne_of_none q hn)]; exact q) fun c xs q => by rw [upd_ne (ne_of_none q hn)]; exact q
end
def Rd (H : Hp) (a : Addr) (u : HO) : Prop := H a = some u ∨ ∃ o, H a = some (.frz o u)
theorem Rd.ok {P : Program} {w : World} {H : Hp} {h : Heap} {a : Addr} {u : HO} (r : Rd H a u) (x : HOk P w H h) : ObjOk P w H h a u := by
  rcases r with r | ⟨o, r⟩
  · exact x a u r
  · obtain ⟨_, q⟩ := x a _ r
    exact q
def Mut : Option HO → Prop
  | some (.lst _) => True
  | some (.dK _) => True
  | some (.dT _) => True
  | some (.set _ _) => True
  | some (.ins _ _ _) => True
  | some (.ext _) => True
  | _ => False
section
variable {P : Program} {w : World} {H : Hp} {h h' : Heap} {x e : Addr} {o' : HO}
theorem HOk.write (ok : HOk P w H h) (mu : Mut (H x)) (he : e = x ∨ H e = some (.own x)) (k : ∀ b u, b ≠ e → h.get? b = some u → h'.get? b = some u) (heo : ∃ u, h'.get? e = some u)
    (new : ObjOk P w (upd H x o') h' x o') : HOk P w (upd H x o') h' := fun b u q => by
  have nown : ∀ c y, H c = some (.own y) → c ≠ x := fun c y r z => by subst z; rw [r] at mu; exact mu
  have ntup : ∀ c xs, H c = some (.tup xs) → c ≠ x := fun c xs r z => by subst z; rw [r] at mu; exact mu
  by_cases hb : b = x
  · subst hb; rw [upd_same] at q; cases q; exact new
  · rw [upd_ne hb] at q
    by_cases hbe : b = e
    · have q' : H b = some (.own x) := by
        rcases he with z | z
        · exact absurd (hbe.trans z) hb
        · rw [hbe]; exact z
      rw [q] at q'; cases q'
      obtain ⟨v, hv⟩ := heo
      exact ⟨v, by rw [hbe]; exact hv⟩
    · refine (ok b u q).stay (fun c v hc r => k c v ?_ r) (fun c r => by rw [upd_ne (nown c b r)]; exact r) fun c xs r => by rw [upd_ne (ntup c xs r)]; exact r
      rcases hc with rfl | hc
      · exact hbe
      · rintro rfl
        rcases he with z | z
        · exact nown c b hc z
        · rw [hc] at z; cases z; exact hb rfl
end
structure Un (fs ex : List Addr) (H H' : Hp) (h h' : Heap) : Prop where
  keep : ∀ b o, h.get? b = some o → H b = none → b ∉ fs → b ∉ ex → h'.get? b = some o
  slot : ∀ b o, h.get? b = some o → H b = none → b ∈ fs → b ∉ ex → ∃ sl, h'.get? b = some { o with slots := sl }
  free : ∀ b o, h.get? b = some o → H b = none → b ∉ ex → H' b = none
  there : ∀ b o, h.get? b = some o → b ∉ ex → ∃ o', h'.get? b = some o'
  tups : ∀ b xs, H b = some (.tup xs) → H' b = some (.tup xs)
  frzs : ∀ b o u, H b = some (.frz o u) → H' b = some (.frz o u)
  tbls : ∀ b ps, H b = some (.tbl ps) → ∃ more, H' b = some (.tbl (ps ++ more))
section
variable {fs fs' ex ex' : List Addr} {H H1 H2 : Hp} {h h1 h2 h' : Heap} {a x e : Addr} {o : HO}
theorem Un.any (u : Un fs ex H H1 h h1) {b : Addr} {ob : Obj} (q : h.get? b = some ob) (n : H b = none) (hx : b ∉ ex) : ∃ sl, h1.get? b = some { ob with slots := sl } := by
  by_cases hb : b ∈ fs
  · exact u.slot b ob q n hb hx
  · exact ⟨ob.slots, u.keep b ob q n hb hx⟩
theorem Un.kept (k : ∀ b u, h.get? b = some u → h'.get? b = some u) : Un fs ex H H h h' :=
  ⟨fun b ob q _ _ _ => k b ob q, fun b ob q _ _ _ => ⟨ob.slots, k b ob q⟩, fun _ _ _ n _ => n, fun b ob q _ => ⟨ob, k b ob q⟩, fun _ _ q => q, fun _ _ _ q => q, fun _ ps q => ⟨#[], by rw [q]; simp⟩⟩
theorem Un.refl : Un fs ex H H h h := Un.kept fun _ _ q => q
theorem Un.laid (k : ∀ b u, h.get? b = some u → h'.get? b = some u) (hp : h.objs.size ≤ a) (hn : H a = none) : Un fs ex H (upd H a o) h h' where
  keep := fun b u q _ _ _ => k b u q
  slot := fun b u q _ _ _ => ⟨u.slots, k b u q⟩
  free := fun b u q n _ => by rw [upd_ne (Nat.ne_of_lt (Nat.lt_of_lt_of_le (Heap.lt_size q) hp))]; exact n
  there := fun b u q _ => ⟨u, k b u q⟩
  tups := fun b xs q => by rw [upd_ne (ne_of_none q hn)]; exact q
  frzs := fun b u xs q => by rw [upd_ne (ne_of_none q hn)]; exact q
  tbls := fun b ps q => ⟨#[], by rw [upd_ne (ne_of_none q hn), q]; simp⟩
theorem Un.write (mu : Mut (H x)) (he : e = x ∨ H e = some (.own x)) (k : ∀ b u, b ≠ e → h.get? b = some u → h'.get? b = some u) (heo : ∃ u, h'.get? e = some u) : Un fs ex H (upd H x o) h h' := by
  have hx : ∀ b, H b = none → b ≠ x := fun b n z => by subst z; rw [n] at mu; exact mu
  have hb : ∀ b, H b = none → b ≠ e := fun b n z => by
    subst z
    rcases he with r | r
    · exact hx b n r
    · rw [n] at r; cases r
  have hm : ∀ b u, H b = some u → ¬ Mut (some u) → b ≠ x := fun b u q nm z => by subst z; rw [q] at mu; exact nm mu
  refine ⟨fun b u q n _ _ => k b u (hb b n) q, fun b u q n _ _ => ⟨u.slots, k b u (hb b n) q⟩, fun b u q n _ => by rw [upd_ne (hx b n)]; exact n, fun b u q _ => ?_,
    fun b xs q => by rw [upd_ne (hm b _ q fun z => z)]; exact q, fun b u xs q => by rw [upd_ne (hm b _ q fun z => z)]; exact q, fun b ps q => ⟨#[], by rw [upd_ne (hm b _ q fun z => z), q]; simp⟩⟩
  by_cases hbe : b = e
  · subst hbe; exact heo
  · exact ⟨u, k b u hbe q⟩
end
def trk (h : Heap) (H : Hp) : List Addr := (List.range h.objs.size).filter fun a => (H a).isSome
def hidT (h : Heap) (H : Hp) : Heap := PySem.W.hideAll h (trk h H)
theorem hidT_size (h : Heap) (H : Hp) : (hidT h H).objs.size = h.objs.size := PySem.W.hideAll_size _ _
theorem hidT_get {h : Heap} {H : Hp} {b : Addr} {o : Obj} (e : h.get? b = some o) (n : H b = none) : (hidT h H).get? b = some o :=
  PySem.W.hideAll_get _ e fun hm => by
    have q : (H b).isSome = true := (List.mem_filter.mp hm).2
    rw [n] at q; simp at q
theorem of_hidT {h : Heap} {H : Hp} {b : Addr} {o : Obj} (e : (hidT h H).get? b = some o) : h.get? b = some o ∧ H b = none := by
  have e' : h.get? b = some o := PySem.W.of_hideAll (trk h H) e
  refine ⟨e', ?_⟩
  cases q : H b with
  | none => rfl
  | some x =>
    have hm : b ∈ trk h H := List.mem_filter.mpr ⟨List.mem_range.mpr (Heap.lt_size e'), by simp [q]⟩
    have z : (hidT h H).get? b = none := PySem.W.hideAll_none (trk h H) hm
    rw [z] at e; cases e
end L2
namespace L2
open PySem PySem.Spec PyProof.Rows
structure Mod (K : PySem.W.Frag) (mg : Str → Option Value) (base : Heap) : Prop where
  kin : K.In base
  glob : base.Ns mainGlobals mg
  blt : ∃ mb, base.Ns builtinsNs mb ∧ ∀ x : Str, x ≠ "__name__" → mb x = bootBuiltins x
  nolimit : base.NoLimit
structure Cx where
  prog : Program
  w : World
  K : PySem.W.Frag
  mg : Str → Option Value
  base : Heap
  A : Around
  N : List Str
  s₀ : Shared
  H₀ : Hp
  env : Env
  outer : List Env
  stack : List Env
  ex : List Addr
  fn : Str → Bool
  calm : Bool
  pn : List (Addr × Obj)
  xe : Value → Shared → Prop
def frs (l : List Env) : List Addr := l.filterMap (·.frame)
abbrev Cx.fs (X : Cx) : List Addr := frs X.outer
def Vis (sc : Scope) (x : Str) : Prop := sc.names.lookup x = some .local ∨ sc.names.lookup x = some .cell ∨ sc.names.lookup x = some .free
def Loc (sc : Scope) (x : Str) : Prop := sc.names.lookup x = some .local ∨ sc.names.lookup x = some .cell
def Look (env : Env) (h : Heap) (m : Str → Option Value) (x : Str) (u : Value) : Prop :=
  (env.kindOf x = some .local ∧ m x = some u) ∨ ((env.kindOf x = some .cell ∨ env.kindOf x = some .free) ∧ ∃ c, env.cells.lookup x = some c ∧ h.IsCell c (some u))
structure Cx.Ok (X : Cx) : Prop where
  mod : Mod X.K X.mg X.base
  kind : X.env.scope.kind = .function
  glob : X.env.globals = mainGlobals
  blt : X.env.builtins = builtinsNs
  above : X.s₀.heap.objs.size ≤ X.env.locals
  inj : ∀ x y c, X.env.cells.lookup x = some c → X.env.cells.lookup y = some c → x = y
  has : ∀ x, (X.env.kindOf x = some .cell ∨ X.env.kindOf x = some .free) → ∃ c, X.env.cells.lookup x = some c
  cab : ∀ x c, X.fn x = true → X.env.cells.lookup x = some c → X.s₀.heap.objs.size ≤ c
  hd : X.calm = true → X.A.handled = none
  frames : X.A.frames = some X.stack
  stk : X.stack = X.outer ∨ (X.stack = X.env :: X.outer ∧ X.env.frame = some X.env.locals)
  exf : ∀ b ∈ X.ex, b ≠ X.env.locals ∧ ∀ x c, X.env.cells.lookup x = some c → c ≠ b
  bs : ∀ b o, X.base.get? b = some o → X.s₀.heap.get? b = some o ∧ X.H₀ b = none
  bsz : X.base.objs.size ≤ X.s₀.heap.objs.size
  noex : ∀ b o, X.base.get? b = some o → b ∉ X.ex
  exfs : ∀ b ∈ X.ex, b ∉ X.fs
  funs : X.s₀.heap.FunFrames X.base X.outer
  frf : ∀ b ∈ X.fs, X.H₀ b = none
structure Inv (X : Cx) (pins : List (Addr × Obj)) (σ : List (Option V)) (H : Hp) (s : Shared) : Prop where
  ok : X.Ok
  os : s.os = X.s₀.os
  bare : AllBare s.gens
  base : Un X.fs X.ex X.H₀ H X.s₀.heap s.heap
  loc : ∃ m, s.heap.Ns X.env.locals m ∧ ∀ (i : Nat) (x : Str) (v : V), X.N[i]? = some x → σ[i]? = some (some v) → Vis X.env.scope x → ∃ u, RelV v u ∧ Look X.env s.heap m x u
  cell : ∀ x c, X.env.cells.lookup x = some c → ∃ v, s.heap.IsCell c v
  free : H X.env.locals = none
  freeC : ∀ x c, X.env.cells.lookup x = some c → H c = none
  pin : ∀ p ∈ X.pn ++ pins, s.heap.get? p.1 = some p.2 ∧ H p.1 = none ∧ p.1 ≠ X.env.locals ∧ p.1 ∉ X.fs ∧ ∀ v, p.2.data ≠ .cell v
  hok : HOk X.prog X.w H s.heap
  len : σ.length = X.N.length
section
variable {X : Cx} {pins : List (Addr × Obj)} {σ : List (Option V)} {H H' : Hp} {s : Shared} {h' : Heap}
theorem Cx.Ok.nofr (ok : X.Ok) {b : Addr} {o : Obj} (e : X.base.get? b = some o) : b ∉ X.fs := fun hb => by
  have := (ok.funs.mem hb).1
  rw [e] at this; cases this
theorem Inv.bs (I : Inv X pins σ H s) : ∀ b o, X.base.get? b = some o → s.heap.get? b = some o ∧ H b = none := fun b o e =>
  ⟨I.base.keep b o (I.ok.bs b o e).1 (I.ok.bs b o e).2 (I.ok.nofr e) (I.ok.noex b o e), I.base.free b o (I.ok.bs b o e).1 (I.ok.bs b o e).2 (I.ok.noex b o e)⟩
theorem Inv.bk (I : Inv X pins σ H s) : ∀ b o, X.base.get? b = some o → s.heap.get? b = some o := fun b o e => (I.bs b o e).1
theorem Inv.mod (I : Inv X pins σ H s) : Mod X.K X.mg X.base := I.ok.mod
theorem Inv.kIn (I : Inv X pins σ H s) : X.K.In s.heap := I.ok.mod.kin.keeps I.bk
theorem Inv.lt (I : Inv X pins σ H s) : X.env.locals < s.heap.objs.size := let ⟨_, hn, _⟩ := I.loc; hn.lt
theorem Inv.sz (I : Inv X pins σ H s) : X.s₀.heap.objs.size ≤ s.heap.objs.size := Nat.le_trans I.ok.above (Nat.le_of_lt I.lt)
theorem Inv.nofs (I : Inv X pins σ H s) {a : Addr} (h : s.heap.objs.size ≤ a) : a ∉ X.fs := fun hb => by
  obtain ⟨_, o, ho, _⟩ := I.ok.funs.mem hb
  exact absurd (Nat.lt_of_lt_of_le (Heap.lt_size ho) (Nat.le_trans I.sz h)) (Nat.lt_irrefl _)
theorem Inv.cne (I : Inv X pins σ H s) : ∀ x c, X.env.cells.lookup x = some c → c ≠ X.env.locals := fun x c e z => by
  obtain ⟨v, o, ho, hd⟩ := I.cell x c e
  obtain ⟨m, ⟨o', es, ep, ho', hd', _⟩, _⟩ := I.loc
  rw [z, ho'] at ho; cases ho; rw [hd'] at hd; cases hd
theorem Inv.funs (I : Inv X pins σ H s) : s.heap.FunFrames X.base X.outer := by
  have all : ∀ (l : List Env), (∀ b ∈ frs l, b ∈ X.fs) → X.s₀.heap.FunFrames X.base l → s.heap.FunFrames X.base l := by
    intro l
    induction l with
    | nil => intro _ _; trivial
    | cons env r ih =>
      intro hs hl
      obtain ⟨hk, ⟨L, o, hf, hn, ho, hd⟩, hr⟩ := hl
      have hL : L ∈ X.fs := hs L (by unfold frs; rw [List.filterMap_cons, hf]; exact List.mem_cons_self)
      obtain ⟨sl, e⟩ := I.base.slot L o ho (I.ok.frf L hL) hL fun z => I.ok.exfs L z hL
      exact ⟨hk, ⟨L, _, hf, hn, e, hd⟩, ih (fun b hb => hs b (by unfold frs; rw [List.filterMap_cons, hf]; exact List.mem_cons_of_mem _ hb)) hr⟩
  exact all X.outer (fun _ hb => hb) I.ok.funs
theorem Inv.stack (I : Inv X pins σ H s) : s.heap.FunFrames X.base X.stack := by
  rcases I.ok.stk with e | ⟨e, hf⟩
  · rw [e]; exact I.funs
  · rw [e]
    obtain ⟨m, hn, _⟩ := I.loc
    refine .cons (by rw [I.ok.kind]; decide) hf hn ?_ I.funs
    exact Heap.get?_none_of_le (Nat.le_trans I.ok.bsz I.ok.above)
theorem Inv.stkSub (I : Inv X pins σ H s) : ∀ b ∈ frs X.stack, b ∈ X.env.locals :: X.fs := fun b hb => by
  rcases I.ok.stk with e | ⟨e, hf⟩
  · rw [e] at hb; exact List.mem_cons_of_mem _ hb
  · rw [e] at hb
    unfold frs at hb
    rw [List.filterMap_cons, hf] at hb
    exact hb
theorem Inv.stkFree (I : Inv X pins σ H s) : ∀ b ∈ frs X.stack, H b = none := fun b hb => by
  rcases List.mem_cons.mp (I.stkSub b hb) with e | hb
  · rw [e]; exact I.free
  · obtain ⟨_, o, ho, _⟩ := I.ok.funs.mem hb
    exact I.base.free b o ho (I.ok.frf b hb) fun z => I.ok.exfs b z hb
theorem Inv.step {g' : Array GenState} {t' : Nat} {d' : Drawn} {ch : List Addr} (I : Inv X pins σ H s)
    (hch : ∀ b ∈ ch, (b ∈ X.ex ∨ X.s₀.heap.objs.size ≤ b) ∧ b ≠ X.env.locals ∧ (∀ x c, X.env.cells.lookup x = some c → c ≠ b) ∧ ∀ p ∈ X.pn ++ pins, p.1 ≠ b)
    (keep : ∀ b o, b ≠ X.env.locals → b ∉ X.fs → b ∉ ch → s.heap.get? b = some o → H b = none → h'.get? b = some o)
    (slot : ∀ b o, b ≠ X.env.locals → b ∈ X.fs → b ∉ ch → s.heap.get? b = some o → H b = none → ∃ sl, h'.get? b = some { o with slots := sl }) (free : ∀ b o, b ∉ ch → s.heap.get? b = some o → H b = none → H' b = none)
    (there : ∀ b o, b ∉ ch → s.heap.get? b = some o → ∃ o', h'.get? b = some o')
    (tups : ∀ b xs, H b = some (.tup xs) → H' b = some (.tup xs)) (frzs : ∀ b o u, H b = some (.frz o u) → H' b = some (.frz o u)) (tbls : ∀ b ps, H b = some (.tbl ps) → ∃ more, H' b = some (.tbl (ps ++ more)))
    (ns : ∀ m, s.heap.Ns X.env.locals m → h'.Ns X.env.locals m) (hok : HOk X.prog X.w H' h') (hg : AllBare g') :
    Inv X pins σ H' { s with heap := h', gens := g', drawn := d', toks := t' } := by
  have neL : ∀ b o, X.s₀.heap.get? b = some o → b ≠ X.env.locals := fun b o e => Nat.ne_of_lt (Nat.lt_of_lt_of_le (Heap.lt_size e) I.ok.above)
  have neC : ∀ b o, X.s₀.heap.get? b = some o → b ∉ X.ex → b ∉ ch := fun b o e hx hb => by
    rcases (hch b hb).1 with z | z
    · exact hx z
    · exact absurd (Nat.lt_of_lt_of_le (Heap.lt_size e) z) (Nat.lt_irrefl _)
  have cellK : ∀ x c, X.env.cells.lookup x = some c → ∀ v, s.heap.IsCell c v → h'.IsCell c v := fun x c e v ⟨o, ho, hd⟩ => by
    have nch : c ∉ ch := fun z => (hch c z).2.2.1 x c e rfl
    by_cases hc : c ∈ X.fs
    · obtain ⟨sl, q⟩ := slot c o (I.cne x c e) hc nch ho (I.freeC x c e)
      exact ⟨_, q, hd⟩
    · exact ⟨o, keep c o (I.cne x c e) hc nch ho (I.freeC x c e), hd⟩
  refine ⟨I.ok, I.os, hg, ⟨fun b o e n hb hx => ?_, fun b o e n hb hx => ?_, fun b o e n hx => ?_, fun b o e hx => ?_, fun b xs e => tups b xs (I.base.tups b xs e), fun b o xs e => frzs b o xs (I.base.frzs b o xs e), fun b ps e => ?_⟩, ?_, fun x c e => ?_, ?_, fun x c e => ?_, fun p hp => ?_, hok, I.len⟩
  · exact keep b o (neL b o e) hb (neC b o e hx) (I.base.keep b o e n hb hx) (I.base.free b o e n hx)
  · obtain ⟨sl, e1⟩ := I.base.slot b o e n hb hx
    obtain ⟨sl', e2⟩ := slot b _ (neL b o e) hb (neC b o e hx) e1 (I.base.free b o e n hx)
    exact ⟨sl', e2⟩
  · obtain ⟨o', e1⟩ := I.base.there b o e hx
    exact free b o' (neC b o e hx) e1 (I.base.free b o e n hx)
  · obtain ⟨o', e1⟩ := I.base.there b o e hx
    exact there b o' (neC b o e hx) e1
  · obtain ⟨m1, e1⟩ := I.base.tbls b ps e
    obtain ⟨m2, e2⟩ := tbls b _ e1
    exact ⟨m1 ++ m2, by rw [e2, Array.append_assoc]⟩
  · obtain ⟨m, hn, hl⟩ := I.loc
    refine ⟨m, ns m hn, fun i x v e1 e2 e3 => ?_⟩
    obtain ⟨u, r, l⟩ := hl i x v e1 e2 e3
    refine ⟨u, r, ?_⟩
    rcases l with l | ⟨k, c, e, z⟩
    · exact .inl l
    · exact .inr ⟨k, c, e, cellK x c e _ z⟩
  · obtain ⟨v, z⟩ := I.cell x c e
    exact ⟨v, cellK x c e v z⟩
  · obtain ⟨m, ⟨o, _, _, ho, _⟩, _⟩ := I.loc
    exact free _ o (fun z => (hch _ z).2.1 rfl) ho I.free
  · obtain ⟨v, o, ho, hd⟩ := I.cell x c e
    exact free c o (fun z => (hch c z).2.2.1 x c e rfl) ho (I.freeC x c e)
  · obtain ⟨e, n, ne, nf, d⟩ := I.pin p hp
    have nch : p.1 ∉ ch := fun z => (hch p.1 z).2.2.2 p hp rfl
    exact ⟨keep p.1 p.2 ne nf nch e n, free p.1 p.2 nch e n, ne, nf, d⟩
theorem Inv.un {t' : Nat} (I : Inv X pins σ H s) (u : Un X.fs [] H H' s.heap h') (hok : HOk X.prog X.w H' h') : Inv X pins σ H' { s with heap := h', toks := t' } := by
  obtain ⟨m, ⟨o, es, ep, ho, r⟩, _⟩ := id I.loc
  obtain ⟨sl, hL⟩ := u.any ho I.free (by simp)
  exact I.step (g' := s.gens) (d' := s.drawn) (ch := []) (fun _ z => nomatch z) (fun b o _ hb _ e n => u.keep b o e n hb (by simp)) (fun b o _ hb _ e n => u.slot b o e n hb (by simp)) (fun b o _ e n => u.free b o e n (by simp)) (fun b o _ e => u.there b o e (by simp)) u.tups u.frzs u.tbls (fun m' hm => by
    obtain ⟨o', es', ep', ho', r'⟩ := hm
    rw [ho] at ho'; cases ho'
    exact ⟨_, es', ep', hL, r'⟩) hok I.bare
theorem Inv.call {g' : Array GenState} {t' : Nat} {d' : Drawn} {ch : List Addr} (I : Inv X pins σ H s) (u : Un (frs X.stack) ch H H' s.heap h') (hok : HOk X.prog X.w H' h') (hg : AllBare g')
    (hch : ∀ b ∈ ch, (b ∈ X.ex ∨ X.s₀.heap.objs.size ≤ b) ∧ b ≠ X.env.locals ∧ (∀ x c, X.env.cells.lookup x = some c → c ≠ b) ∧ ∀ p ∈ X.pn ++ pins, p.1 ≠ b) :
    Inv X pins σ H' { s with heap := h', gens := g', drawn := d', toks := t' } := by
  obtain ⟨m, ⟨o, es, ep, ho, r⟩, _⟩ := id I.loc
  obtain ⟨sl, hL⟩ := u.any ho I.free fun z => (hch _ z).2.1 rfl
  exact I.step (ch := ch) hch (fun b o hL hb hc e n => u.keep b o e n (fun z => (List.mem_cons.mp (I.stkSub b z)).elim hL hb) hc) (fun b o _ _ hc e n => u.any e n hc) (fun b o hc e n => u.free b o e n hc) (fun b o hc e => u.there b o e hc) u.tups u.frzs u.tbls (fun m' hm => by
    obtain ⟨o', es', ep', ho', r'⟩ := hm
    rw [ho] at ho'; cases ho'
    exact ⟨_, es', ep', hL, r'⟩) hok hg
theorem Inv.turned {t' : Nat} {it : Addr} (I : Inv X pins σ H s) (k : ∀ b o, b ≠ it → s.heap.get? b = some o → h'.get? b = some o) (hn : H it = none) (hL : it ≠ X.env.locals)
    (h1 : it ∈ X.ex ∨ X.s₀.heap.objs.size ≤ it) (h2 : ∀ x c, X.env.cells.lookup x = some c → c ≠ it) (h3 : ∀ p ∈ X.pn ++ pins, p.1 ≠ it) : Inv X pins σ H { s with heap := h', toks := t' } := by
  have nit : ∀ b u, H b = some u → b ≠ it := fun b u e z => by rw [z, hn] at e; cases e
  refine I.step (g' := s.gens) (d' := s.drawn) (ch := [it]) (fun b hb => ?_) (fun b o _ _ hc e _ => k b o (fun z => hc (by simp [z])) e) (fun b o _ _ hc e _ => ⟨o.slots, k b o (fun z => hc (by simp [z])) e⟩) (fun _ _ _ _ n => n)
    (fun b o hc e => ⟨o, k b o (fun z => hc (by simp [z])) e⟩) (fun _ _ e => e) (fun _ _ _ e => e) (fun b ps e => ⟨#[], by rw [e]; simp⟩) (fun m hm => ?_) (fun b u e => ?_) I.bare
  · have e : b = it := by simpa using hb
    subst e
    exact ⟨h1, hL, h2, h3⟩
  · obtain ⟨o, es, ep, ho, r⟩ := hm
    exact ⟨o, es, ep, k _ o (Ne.symm hL) ho, r⟩
  · refine (I.hok b u e).stay (fun c v hc q => k c v ?_ q) (fun _ q => q) fun _ _ q => q
    rcases hc with z | z
    · rw [z]; exact nit b u e
    · exact nit c _ z
theorem Inv.tok (I : Inv X pins σ H s) (t : Nat) : Inv X pins σ H { s with toks := t } := I.un (h' := s.heap) (t' := t) Un.refl I.hok
theorem Inv.kept {t' : Nat} (I : Inv X pins σ H s) (k : ∀ b u, s.heap.get? b = some u → h'.get? b = some u) : Inv X pins σ H { s with heap := h', toks := t' } := I.un (Un.kept k) (I.hok.kept k)
theorem Inv.laid {a : Addr} {o : HO} {t' : Nat} (I : Inv X pins σ H s) (k : ∀ b u, s.heap.get? b = some u → h'.get? b = some u) (hp : s.heap.objs.size ≤ a) (new : ObjOk X.prog X.w (upd H a o) h' a o) :
    Inv X pins σ (upd H a o) { s with heap := h', toks := t' } := I.un (Un.laid k hp (I.hok.fresh hp)) (I.hok.laid k hp new)
theorem Inv.write {x e : Addr} {o : HO} {t' : Nat} (I : Inv X pins σ H s) (mu : Mut (H x)) (he : e = x ∨ H e = some (.own x)) (k : ∀ b u, b ≠ e → s.heap.get? b = some u → h'.get? b = some u) (heo : ∃ u, h'.get? e = some u)
    (new : ObjOk X.prog X.w (upd H x o) h' x o) : Inv X pins σ (upd H x o) { s with heap := h', toks := t' } := I.un (Un.write mu he k heo) (I.hok.write mu he k heo new)
theorem Inv.pins_of {pins' : List (Addr × Obj)} (I : Inv X pins σ H s) (h : ∀ p ∈ pins', s.heap.get? p.1 = some p.2 ∧ H p.1 = none ∧ p.1 ≠ X.env.locals ∧ p.1 ∉ X.fs ∧ ∀ v, p.2.data ≠ .cell v) : Inv X pins' σ H s :=
  ⟨I.ok, I.os, I.bare, I.base, I.loc, I.cell, I.free, I.freeC, fun p hp => (List.mem_append.mp hp).elim (fun z => I.pin p (List.mem_append_left _ z)) (h p), I.hok, I.len⟩
theorem nodup_ix {N : List Str} (hN : N.Nodup) {i j : Nat} {x : Str} (a : N[i]? = some x) (b : N[j]? = some x) : i = j := by
  obtain ⟨h1, e1⟩ := List.getElem?_eq_some_iff.mp a
  obtain ⟨h2, e2⟩ := List.getElem?_eq_some_iff.mp b
  exact (List.getElem_inj hN).mp (e1.trans e2.symm)
theorem store_ok2 {M : Model} {A : Around} {E : Value → Shared → Prop} {i : Nat} {x : Str} {v : V} {u : Value} {Q : Unit → Shared → Prop} (I : Inv X pins σ H s) (hN : X.N.Nodup) (hi : X.N[i]? = some x) (hx : Loc X.env.scope x) (r : RelV v u)
    (h : ∀ s', Inv X pins (σ.set i (some v)) H s' → (∃ a, Heap.SameBut a s.heap s'.heap ∧ (a = X.env.locals ∨ X.env.cells.lookup x = some a)) → Q () s') (hf : X.fn x = true ∨ X.env.scope.names.lookup x = some .local := by first | exact .inl rfl | exact .inr rfl | assumption) : wpAny M A (storeName X.env x u) Q E s := by
  obtain ⟨m, hn, hl⟩ := id I.loc
  have hcls : (X.env.scope.kind == .class || (X.env.scope.kind == .module && X.env.locals != X.env.globals)) = false := by rw [I.ok.kind]; rfl
  have hiσ : i < σ.length := by rw [I.len]; exact (List.getElem?_eq_some_iff.mp hi).1
  have cne := I.cne
  have tracked : ∀ {a : Addr} {h' : Heap}, (∃ o, s.heap.get? a = some o ∧ H a = none) → Heap.SameBut a s.heap h' → HOk X.prog X.w H h' := fun {a h'} ha hs b ob e => by
    obtain ⟨_, _, hfree⟩ := ha
    refine (I.hok b ob e).stay (fun c w' hc q => (hs.2 c ?_).trans q) (fun _ q => q) fun _ _ q => q
    rintro rfl
    rcases hc with rfl | hc
    · rw [hfree] at e; cases e
    · rw [hfree] at hc; cases hc
  rcases hx with hk | hk
  · refine wpAny_storeName_local hk hn (fun h' hn' hs => ?_) hcls
    obtain ⟨oL, _, _, hoL, _⟩ := id hn
    refine h _ ⟨I.ok, I.os, I.bare, ⟨fun b o e n hb hx => ?_, fun b o e n hb hx => ?_, I.base.free, fun b o e hx => ?_, I.base.tups, I.base.frzs, I.base.tbls⟩, ⟨_, hn', fun j y v' e1 e2 e3 => ?_⟩, fun y c e => ?_, I.free, I.freeC, fun p hp => ?_, tracked ⟨oL, hoL, I.free⟩ hs, by simpa using I.len⟩ ⟨_, hs, .inl rfl⟩
    · exact (hs.2 b (Nat.ne_of_lt (Nat.lt_of_lt_of_le (Heap.lt_size e) I.ok.above))).trans (I.base.keep b o e n hb hx)
    · obtain ⟨sl, e1⟩ := I.base.slot b o e n hb hx
      exact ⟨sl, (hs.2 b (Nat.ne_of_lt (Nat.lt_of_lt_of_le (Heap.lt_size e) I.ok.above))).trans e1⟩
    · obtain ⟨o', e1⟩ := I.base.there b o e hx
      exact ⟨o', (hs.2 b (Nat.ne_of_lt (Nat.lt_of_lt_of_le (Heap.lt_size e) I.ok.above))).trans e1⟩
    · by_cases hj : j = i
      · subst hj
        rw [hi] at e1; cases e1
        rw [List.getElem?_set_self hiσ] at e2
        cases e2
        exact ⟨u, r, .inl ⟨hk, by simp⟩⟩
      · rw [List.getElem?_set_ne (Ne.symm hj)] at e2
        obtain ⟨u', r', q⟩ := hl j y v' e1 e2 e3
        refine ⟨u', r', ?_⟩
        rcases q with ⟨k, e⟩ | ⟨k, c, e, z⟩
        · refine .inl ⟨k, ?_⟩
          have : y ≠ x := fun e => hj (nodup_ix hN e1 (e ▸ hi))
          simp [this, e]
        · exact .inr ⟨k, c, e, z.sameBut hs (cne y c e)⟩
    · obtain ⟨w', z⟩ := I.cell y c e
      exact ⟨w', z.sameBut hs (cne y c e)⟩
    · obtain ⟨e, n, ne, nf, d⟩ := I.pin p hp
      exact ⟨(hs.2 p.1 ne).trans e, n, ne, nf, d⟩
  · have hfn : X.fn x = true := by
      rcases hf with z | z
      · exact z
      · rw [z] at hk; cases hk
    obtain ⟨c, hc⟩ := I.ok.has x (.inl hk)
    obtain ⟨w', z⟩ := I.cell x c hc
    refine wpAny_storeName_cell I.ok.kind hk hc z (fun h' hc' hs => ?_)
    obtain ⟨oc, hoc, hocd⟩ := id z
    refine h { s with heap := h' } ⟨I.ok, I.os, I.bare, ⟨fun b o e n hb hx => ?_, fun b o e n hb hx => ?_, I.base.free, fun b o e hx => ?_, I.base.tups, I.base.frzs, I.base.tbls⟩, ⟨m, hn.sameBut hs (Ne.symm (cne x c hc)), fun j y v' e1 e2 e3 => ?_⟩, fun y c' e => ?_, I.free, I.freeC, fun p hp => ?_, tracked ⟨oc, hoc, I.freeC x c hc⟩ hs, by simpa using I.len⟩ ⟨c, hs, .inr hc⟩
    · exact (hs.2 b (Nat.ne_of_lt (Nat.lt_of_lt_of_le (Heap.lt_size e) (I.ok.cab x c hfn hc)))).trans (I.base.keep b o e n hb hx)
    · obtain ⟨sl, e1⟩ := I.base.slot b o e n hb hx
      exact ⟨sl, (hs.2 b (Nat.ne_of_lt (Nat.lt_of_lt_of_le (Heap.lt_size e) (I.ok.cab x c hfn hc)))).trans e1⟩
    · obtain ⟨o', e1⟩ := I.base.there b o e hx
      exact ⟨o', (hs.2 b (Nat.ne_of_lt (Nat.lt_of_lt_of_le (Heap.lt_size e) (I.ok.cab x c hfn hc)))).trans e1⟩
    · by_cases hj : j = i
      · subst hj
        rw [hi] at e1; cases e1
        rw [List.getElem?_set_self hiσ] at e2
        cases e2
        exact ⟨u, r, .inr ⟨.inl hk, c, hc, hc'⟩⟩
      · rw [List.getElem?_set_ne (Ne.symm hj)] at e2
        obtain ⟨u', r', q⟩ := hl j y v' e1 e2 e3
        refine ⟨u', r', ?_⟩
        rcases q with q | ⟨k, c', e, z'⟩
        · exact .inl q
        · refine .inr ⟨k, c', e, z'.sameBut hs ?_⟩
          rintro rfl
          exact hj (nodup_ix hN e1 (I.ok.inj _ _ _ e hc ▸ hi))
    · by_cases hcc : c' = c
      · subst hcc; exact ⟨_, hc'⟩
      · obtain ⟨w2, z2⟩ := I.cell y c' e
        exact ⟨w2, z2.sameBut hs hcc⟩
    · obtain ⟨e, n, ne, nf, d⟩ := I.pin p hp
      refine ⟨(hs.2 p.1 ?_).trans e, n, ne, nf, d⟩
      intro q
      rw [q, hoc] at e
      have q' : oc = p.2 := Option.some.inj e
      exact d w' (by rw [← q']; exact hocd)
theorem store_ok {M : Model} {A : Around} {E : Value → Shared → Prop} {i : Nat} {x : Str} {v : V} {u : Value} {Q : Unit → Shared → Prop} (I : Inv X pins σ H s) (hN : X.N.Nodup) (hi : X.N[i]? = some x) (hx : Loc X.env.scope x) (r : RelV v u)
    (h : ∀ s', Inv X pins (σ.set i (some v)) H s' → Q () s') (hf : X.fn x = true ∨ X.env.scope.names.lookup x = some .local := by first | exact .inl rfl | exact .inr rfl | assumption) : wpAny M A (storeName X.env x u) Q E s :=
  store_ok2 I hN hi hx r (fun s' I' _ => h s' I') hf
theorem Inv.call' {s' : Shared} {ch : List Addr} (I : Inv X pins σ H s) (ho : s'.os = s.os) (u : Un (frs X.stack) ch H H' s.heap s'.heap) (hok : HOk X.prog X.w H' s'.heap) (hg : AllBare s'.gens)
    (hch : ∀ b ∈ ch, (b ∈ X.ex ∨ X.s₀.heap.objs.size ≤ b) ∧ b ≠ X.env.locals ∧ (∀ x c, X.env.cells.lookup x = some c → c ≠ b) ∧ ∀ p ∈ X.pn ++ pins, p.1 ≠ b) : Inv X pins σ H' s' := by
  obtain ⟨h', g', d', t', o'⟩ := s'
  have e : o' = s.os := ho
  subst e
  exact I.call (g' := g') (t' := t') (d' := d') u hok hg hch
end
abbrev XK := Value → Option Addr → Hp → Prop
abbrev St := List (Option V)
abbrev VK := V → Hp → Prop
abbrev TE := St → Hp → VK → Prop
abbrev TT := St → Hp → (Bool → Hp → Prop) → Prop
abbrev TA := St → Hp → (List V → Hp → Prop) → Prop
structure Ends where
  nx : St → Hp → Prop
  rt : VK
  bk : St → Hp → Prop := fun _ _ => False
  ct : St → Hp → Prop := fun _ _ => False
abbrev TS := Ends → St → Hp → Prop
def EP (X : Cx) (pins : List (Addr × Obj)) (σ : St) (Q : VK) (u : Value) (s' : Shared) : Prop := ∃ v H', Inv X pins σ H' s' ∧ RelV v u ∧ Q v H'
def TP (X : Cx) (pins : List (Addr × Obj)) (σ : St) (Q : Bool → Hp → Prop) (b : Bool) (s' : Shared) : Prop := ∃ H', Inv X pins σ H' s' ∧ Q b H'
def AP (X : Cx) (pins : List (Addr × Obj)) (σ : St) (Q : List V → Hp → Prop) (us : List Value) (s' : Shared) : Prop := ∃ vs H', Inv X pins σ H' s' ∧ Vals vs us ∧ Q vs H'
def SP (X : Cx) (pins : List (Addr × Obj)) (D : Ends) (f : Flow) (s' : Shared) : Prop :=
  match f with
  | .next => ∃ σ' H', Inv X pins σ' H' s' ∧ D.nx σ' H'
  | .brk => ∃ σ' H', Inv X pins σ' H' s' ∧ D.bk σ' H'
  | .cont => ∃ σ' H', Inv X pins σ' H' s' ∧ D.ct σ' H'
  | .ret u => ∃ v σ' H', Inv X pins σ' H' s' ∧ RelV v u ∧ D.rt v H'
def PE (X : Cx) (e : Expr) (t : TE) : Prop :=
  ∀ (pins : List (Addr × Obj)) (s : Shared) (σ : St) (H : Hp) (Q : VK), Inv X pins σ H s → t σ H Q → wpAny (model X.prog X.w) X.A (eval e X.env) (EP X pins σ Q) X.xe s
def PT (X : Cx) (e : Expr) (t : TT) : Prop :=
  ∀ (pins : List (Addr × Obj)) (s : Shared) (σ : St) (H : Hp) (Q : Bool → Hp → Prop), Inv X pins σ H s → t σ H Q → wpAny (model X.prog X.w) X.A (isTrue e X.env (eval e X.env)) (TP X pins σ Q) X.xe s
def PW (X : Cx) (e : Expr) (t : TT) : Prop :=
  ∀ (whole : Sem Value) (pins : List (Addr × Obj)) (s : Shared) (σ : St) (H : Hp) (Q : Bool → Hp → Prop), Inv X pins σ H s → t σ H Q → wpAny (model X.prog X.w) X.A (isTrue e X.env whole) (TP X pins σ Q) X.xe s
theorem PW.pt {X : Cx} {e : Expr} {t : TT} (h : PW X e t) : PT X e t := h _
def PA (X : Cx) (es : List Expr) (t : TA) : Prop :=
  ∀ (pos : Pos) (pins : List (Addr × Obj)) (s : Shared) (σ : St) (H : Hp) (Q : List V → Hp → Prop), Inv X pins σ H s → t σ H Q → wpAny (model X.prog X.w) X.A (spliced (backTo pos (starEach es X.env))) (AP X pins σ Q) X.xe s
def PS (X : Cx) (st : Stmt) (t : TS) : Prop :=
  ∀ (pins : List (Addr × Obj)) (s : Shared) (σ : St) (H : Hp) (D : Ends), Inv X pins σ H s → t D σ H → wpAny (model X.prog X.w) X.A (exec st X.env) (SP X pins D) X.xe s
def PSs (X : Cx) (st : List Stmt) (t : TS) : Prop :=
  ∀ (pins : List (Addr × Obj)) (s : Shared) (σ : St) (H : Hp) (D : Ends), Inv X pins σ H s → t D σ H → wpAny (model X.prog X.w) X.A (execs st X.env) (SP X pins D) X.xe s
theorem thn {α : Type} {t : Sem α} {Q Q' : α → Shared → Prop} {M : Model} {A : Around} {E : Value → Shared → Prop} {s : Shared} (h : wpAny M A t Q E s) (hQ : ∀ a s, Q a s → Q' a s) : wpAny M A t Q' E s := wpAny_mono h hQ fun _ _ x => x
end L2
namespace L2
open PySem PySem.Spec PyProof.Rows
section
variable {X : Cx}
def tVar (i : Nat) : TE := fun σ H Q => ∃ v, σ[i]? = some (some v) ∧ Q v H
def tC (v : V) : TE := fun _ H Q => Q v H
theorem pe_var {i : Nat} {x : Str} {pos : Pos} (hN : X.N[i]? = some x) (hv : Vis X.env.scope x) (hd : (x == ("__debug__" : Str)) = false := by decide) (hcd : (x == ("__classdict__" : Str)) = false := by decide) : PE X (.Name x pos) (tVar i) := by
  intro pins s σ H Q I h
  obtain ⟨v, e, h⟩ := h
  obtain ⟨m, hn, hl⟩ := I.loc
  obtain ⟨u, r, l⟩ := hl i x v hN e hv
  have fin : EP X pins σ Q u s := ⟨v, H, I, r, h⟩
  rcases l with ⟨hk, hm⟩ | ⟨hk, c, hc, hcell⟩
  · exact wpAny_Name (wpAny_loadName_local I.ok.kind hk hn hm fin) hd
  · rcases hk with hk | hk
    · exact wpAny_Name (wpAny_loadName_cell I.ok.kind hk hc hcell fin) hd
    · exact wpAny_Name (wpAny_loadName_free I.ok.kind hk hc hcell fin hcd) hd
theorem pe_int {i j pos} : PE X (.Constant (.int i) j pos) (tC (.int i)) := fun _ _ _ H _ I h => wpAny_Constant_int ⟨.int i, H, I.tok _, ⟨_, rfl⟩, h⟩
theorem pe_bl {b j pos} : PE X (.Constant (.bool b) j pos) (tC (.bl b)) := fun _ _ _ H _ I h => Constant_bool ⟨.bl b, H, I, rfl, h⟩
theorem pe_non {j pos} : PE X (.Constant .none j pos) (tC .non) := fun _ _ _ H _ I h => Constant_none ⟨.non, H, I, rfl, h⟩
def Gl (X : Cx) (x : Str) : Prop := X.env.kindOf x = some .globalImplicit
theorem ld_glob {E : Value → Shared → Prop} {pins : List (Addr × Obj)} {s : Shared} {σ : St} {H : Hp} {x : Str} {u : Value} {pos : Pos} {Q : Value → Shared → Prop} (I : Inv X pins σ H s) (hg : Gl X x) (hm : X.mg x = some u) (h : Q u s)
    (hd : (x == ("__debug__" : Str)) = false := by decide) : wpAny (model X.prog X.w) X.A (eval (.Name x pos) X.env) Q E s :=
  Calls.Name_function_global I.ok.kind hg (Calls.loadGlobal_global (by rw [I.ok.glob]; exact I.mod.glob.keeps I.bk) hm h) hd
theorem ld_blt {E : Value → Shared → Prop} {pins : List (Addr × Obj)} {s : Shared} {σ : St} {H : Hp} {x : Str} {u : Value} {pos : Pos} {Q : Value → Shared → Prop} (I : Inv X pins σ H s) (hg : Gl X x) (hm : X.mg x = none) (hv : bootBuiltins x = some u) (h : Q u s)
    (hn : x ≠ "__name__" := by decide) (hd : (x == ("__debug__" : Str)) = false := by decide) : wpAny (model X.prog X.w) X.A (eval (.Name x pos) X.env) Q E s := by
  obtain ⟨mb, h1, h2⟩ := I.mod.blt
  exact Calls.Name_function_global I.ok.kind hg (Calls.loadGlobal_builtin (by rw [I.ok.glob]; exact I.mod.glob.keeps I.bk) hm (by rw [I.ok.blt]; exact h1.keeps I.bk) ((h2 x hn).trans hv) h) hd
theorem pe_bltn {x : Str} {v : V} {u : Value} {pos : Pos} (hg : Gl X x) (hm : X.mg x = none) (hv : bootBuiltins x = some u) (r : RelV v u) (hn : x ≠ "__name__" := by decide) (hd : (x == ("__debug__" : Str)) = false := by decide) : PE X (.Name x pos) (tC v) :=
  fun _ _ _ H _ I h => ld_blt I hg hm hv ⟨v, H, I, r, h⟩ hn hd
variable {a b : Expr} {ta tb : TE} {pos : Pos}
def tB (t : TE) : TT := fun σ H Q => t σ H fun x H1 => ∃ c, x = .bl c ∧ Q c H1
theorem pt_val {e : Expr} {t : TE} (h : PE X e t) (he : ∀ whole, isTrue e X.env whole = (do let v ← whole; standAt e.pos; holding [v] (truthy v)) := by intro _; rfl) : PT X e (tB t) := by
  intro pins s σ H Q I hw
  refine isTrue_plain (thn (h pins s σ H _ I hw) fun v s1 ⟨x, H1, I1, r1, q1⟩ => ?_) (he _)
  obtain ⟨d, rfl, q⟩ := q1
  cases r1
  exact wpAny_truthy_bool ⟨H1, I1, q⟩
variable {tA tB' : TT} {rest : List Expr}
def tAnd (t u : TT) : TT := fun σ H Q => t σ H fun c H1 => if c = true then u σ H1 Q else Q false H1
def tOr (t u : TT) : TT := fun σ H Q => t σ H fun c H1 => if c = true then Q true H1 else u σ H1 Q
def tNot (t : TT) : TT := fun σ H Q => t σ H fun c H1 => Q (!c) H1
theorem pw_and1 (ha : PT X a tA) : PW X (.BoolOp .And [a] pos) tA := by
  intro wh pins s σ H Q I h
  refine isTrue_and (thn (ha pins s σ H Q I h) fun c s1 e => ?_)
  cases c with
  | true => exact isTrue_and_nil e
  | false => exact e
theorem pw_or1 (ha : PT X a tA) : PW X (.BoolOp .Or [a] pos) tA := by
  intro wh pins s σ H Q I h
  refine isTrue_or (thn (ha pins s σ H Q I h) fun c s1 e => ?_)
  cases c with
  | false => exact isTrue_or_nil e
  | true => exact e
theorem pw_and (ha : PT X a tA) (hb : PW X (.BoolOp .And (b :: rest) pos) tB') : PW X (.BoolOp .And (a :: b :: rest) pos) (tAnd tA tB') := by
  intro wh pins s σ H Q I h
  refine isTrue_and (thn (ha pins s σ H _ I h) fun c s1 ⟨H1, I1, q1⟩ => ?_)
  cases c with
  | true => exact hb wh pins s1 σ H1 Q I1 q1
  | false => exact ⟨H1, I1, q1⟩
theorem pw_or (ha : PT X a tA) (hb : PW X (.BoolOp .Or (b :: rest) pos) tB') : PW X (.BoolOp .Or (a :: b :: rest) pos) (tOr tA tB') := by
  intro wh pins s σ H Q I h
  refine isTrue_or (thn (ha pins s σ H _ I h) fun c s1 ⟨H1, I1, q1⟩ => ?_)
  cases c with
  | true => exact ⟨H1, I1, q1⟩
  | false => exact hb wh pins s1 σ H1 Q I1 q1
theorem pt_not (ha : PT X a tA) : PT X (.UnaryOp .Not a pos) (tNot tA) := by
  intro pins s σ H Q I h
  exact isTrue_not (ha pins s σ H (fun c H1 => Q (!c) H1) I h)
end
end L2
namespace L2
open PySem PySem.Spec PyProof.Rows
def SqL (K : PySem.W.Frag) (H : Hp) (a : Addr) (xs : List V) : Prop :=
  Rd H a (.lst xs) ∨
    ∃ (o : Obj) (its : Array Value) (n : Nat), K.lookup a = some o ∧ o.cls = .type "list" ∧ o.dict = none ∧ o.data = .seq its n ∧ its.size ≤ sizeLine ∧ Vals xs its.toList
def SqT (K : PySem.W.Frag) (H : Hp) (a : Addr) (xs : List V) : Prop :=
  Rd H a (.tup xs) ∨
    ∃ (o : Obj) (its : Array Value) (n : Nat), K.lookup a = some o ∧ o.cls = .type "tuple" ∧ o.data = .seq its n ∧ its.size ≤ sizeLine ∧ Vals xs its.toList
def absV : Value → Option V
  | .none => some .non
  | .bool b => some (.bl b)
  | .int i _ => some (.int i)
  | .str x _ => some (.str x)
  | .bytes b _ => some (.byt b)
  | .float b _ => some (.flt b)
  | .ref a => some (.ref a)
  | .type n => some (.ty n)
  | _ => none
theorem RelV.abs {x : V} {u : Value} (r : RelV x u) : absV u = some x := by
  cases x with
  | non => cases r; rfl
  | bl _ => cases r; rfl
  | int _ => obtain ⟨t, rfl⟩ := r; rfl
  | str _ => obtain ⟨t, rfl⟩ := r; rfl
  | byt _ => obtain ⟨t, rfl⟩ := r; rfl
  | flt _ => obtain ⟨t, rfl⟩ := r; rfl
  | ref _ => cases r; rfl
  | ty _ => cases r; rfl
theorem RelV.inj {x y : V} {u : Value} (r : RelV x u) (q : RelV y u) : x = y := Option.some.inj (r.abs.symm.trans q.abs)
theorem Vals.inj : ∀ {xs ys : List V} {us : List Value}, Vals xs us → Vals ys us → xs = ys
  | _, _, _, .nil, .nil => rfl
  | _, _, _, .cons r t, .cons r' t' => by rw [r.inj r', Vals.inj t t']
section
variable {X : Cx} {pins : List (Addr × Obj)} {σ : St} {H : Hp} {s : Shared} {a : Addr} {xs ys : List V}
theorem SqL.of {K : PySem.W.Frag} (h : H a = some (.lst xs)) : SqL K H a xs := .inl (.inl h)
theorem SqT.of {K : PySem.W.Frag} (h : H a = some (.tup xs)) : SqT K H a xs := .inl (.inl h)
theorem Inv.list (I : Inv X pins σ H s) (h : SqL X.K H a xs) : ∃ its : List Value, Vals xs its ∧ PlainL s.heap a its.toArray ∧ xs.length ≤ sizeLine := by
  rcases h with h | ⟨o, its, n, hk, hc, hd, hs, hz, r⟩
  · obtain ⟨z, its, n, r, e⟩ := h.ok I.hok
    exact ⟨its, r, ⟨_, n, e, rfl, rfl, rfl⟩, z⟩
  · refine ⟨its.toList, r, ⟨o, n, I.kIn a o hk, hc, hd, by simpa using hs⟩, ?_⟩
    have e := r.length
    simp only [Array.length_toList] at e
    omega
theorem Inv.tuple (I : Inv X pins σ H s) (h : SqT X.K H a xs) : ∃ its : List Value, Vals xs its ∧ IsTup s.heap a its.toArray ∧ xs.length ≤ sizeLine := by
  rcases h with h | ⟨o, its, n, hk, hc, hs, hz, r⟩
  · obtain ⟨z, its, r, p⟩ := h.ok I.hok
    exact ⟨its, r, p, z⟩
  · refine ⟨its.toList, r, ⟨o, I.kIn a o hk, hc, n, by simpa using hs⟩, ?_⟩
    have e := r.length
    simp only [Array.length_toList] at e
    omega
theorem Inv.list_inj (I : Inv X pins σ H s) (h : SqL X.K H a xs) (h' : SqL X.K H a ys) : xs = ys := by
  obtain ⟨its, r, ⟨o, n, e, _, _, d⟩, _⟩ := I.list h
  obtain ⟨its', r', ⟨o', n', e', _, _, d'⟩, _⟩ := I.list h'
  rw [e] at e'; cases e'
  rw [d] at d'
  injection d' with d1 _
  have : its = its' := by simpa using congrArg Array.toList d1
  subst this
  exact r.inj r'
theorem Inv.tuple_inj (I : Inv X pins σ H s) (h : SqT X.K H a xs) (h' : SqT X.K H a ys) : xs = ys := by
  obtain ⟨its, r, ⟨o, e, _, n, d⟩, _⟩ := I.tuple h
  obtain ⟨its', r', ⟨o', e', _, n', d'⟩, _⟩ := I.tuple h'
  rw [e] at e'; cases e'
  rw [d] at d'
  injection d' with d1 _
  have : its = its' := by simpa using congrArg Array.toList d1
  subst this
  exact r.inj r'
end
abbrev Cx.wish (X : Cx) (E : Value → Shared → Prop) : Cx := { X with xe := E }
abbrev Cx.nox (X : Cx) : Cx := X.wish fun _ _ => False
theorem Cx.Ok.wish {X : Cx} (ok : X.Ok) (E : Value → Shared → Prop) : (X.wish E).Ok :=
  ⟨ok.mod, ok.kind, ok.glob, ok.blt, ok.above, ok.inj, ok.has, ok.cab, ok.hd, ok.frames, ok.stk, ok.exf, ok.bs, ok.bsz, ok.noex, ok.exfs, ok.funs, ok.frf⟩
theorem Cx.Ok.unwish {X : Cx} {E : Value → Shared → Prop} (ok : (X.wish E).Ok) : X.Ok :=
  ⟨ok.mod, ok.kind, ok.glob, ok.blt, ok.above, ok.inj, ok.has, ok.cab, ok.hd, ok.frames, ok.stk, ok.exf, ok.bs, ok.bsz, ok.noex, ok.exfs, ok.funs, ok.frf⟩
section
variable {X : Cx} {pins : List (Addr × Obj)} {σ : St} {H : Hp} {s : Shared} {E : Value → Shared → Prop}
theorem Inv.wish (I : Inv X pins σ H s) (E : Value → Shared → Prop) : Inv (X.wish E) pins σ H s := ⟨I.ok.wish E, I.os, I.bare, I.base, I.loc, I.cell, I.free, I.freeC, I.pin, I.hok, I.len⟩
theorem Inv.unwish (I : Inv (X.wish E) pins σ H s) : Inv X pins σ H s := ⟨I.ok.unwish, I.os, I.bare, I.base, I.loc, I.cell, I.free, I.freeC, I.pin, I.hok, I.len⟩
theorem SP.unwish {D : Ends} {f : Flow} {s' : Shared} (h : SP (X.wish E) pins D f s') : SP X pins D f s' := by
  cases f with
  | next => obtain ⟨σ', H', I, q⟩ := h; exact ⟨σ', H', I.unwish, q⟩
  | brk => obtain ⟨σ', H', I, q⟩ := h; exact ⟨σ', H', I.unwish, q⟩
  | cont => obtain ⟨σ', H', I, q⟩ := h; exact ⟨σ', H', I.unwish, q⟩
  | ret u => obtain ⟨v, σ', H', I, r, q⟩ := h; exact ⟨v, σ', H', I.unwish, r, q⟩
theorem PSs.nox {st : List Stmt} {t : TS} (h : PSs X.nox st t) : PSs X st t := fun pins s σ H D I hw =>
  wpAny_mono (h pins s σ H D (I.wish _) hw) (fun _ _ q => q.unwish) fun _ _ z => False.elim z
end
section
variable {X : Cx} {st : Stmt} {rest : List Stmt} {t u : TS} {e : Expr} {te : TE} {pos : Pos}
def tNext : TS := fun D σ H => D.nx σ H
def tSeq (t u : TS) : TS := fun D σ H => t { D with nx := u D } σ H
theorem pss_nil : PSs X [] tNext := fun _ _ σ H _ I h => wpAny_execs_nil ⟨σ, H, I, h⟩
theorem pss_cons (h1 : PS X st t) (h2 : PSs X rest u) : PSs X (st :: rest) (tSeq t u) := by
  intro pins s σ H D I h
  refine wpAny_execs_cons (thn (h1 pins s σ H { D with nx := u D } I h) fun f s1 q => ?_)
  cases f with
  | next =>
    obtain ⟨σ', H', I', q⟩ := q
    exact h2 pins s1 σ' H' D I' q
  | ret v => exact q
  | brk => exact q
  | cont => exact q
theorem pss_one (h1 : PS X st t) : PSs X [st] t := by
  intro pins s σ H D I h
  refine wpAny_execs_cons (thn (h1 pins s σ H D I h) fun f s1 q => ?_)
  cases f with
  | next => exact wpAny_execs_nil q
  | ret v => exact q
  | brk => exact q
  | cont => exact q
def tCont : TS := fun D σ H => D.ct σ H
theorem ps_continue : PS X (.Continue pos) tCont := fun _ _ σ H _ I h => wpAny_Continue ⟨σ, H, I, h⟩
theorem Inv.quiet {pins : List (Addr × Obj)} {σ : St} {H : Hp} {s : Shared} (I : Inv X pins σ H s) : interactive X.env = false := by simp [interactive, I.ok.kind]
def tDrop (te : TE) : TS := fun D σ H => te σ H fun _ H1 => D.nx σ H1
theorem ps_expr (he : PE X e te) (hs : swapsWith e none pos.line X.env = pure false := by rfl) : PS X (.Expr e pos) (tDrop te) := by
  intro pins s σ H D I h
  exact wpAny_Expr_any (thn (he pins s σ H _ I h) fun v s1 ⟨x, H1, I1, r1, q1⟩ => ⟨σ, H1, I1, q1⟩) I.quiet hs
def tRet (te : TE) : TS := fun D σ H => te σ H D.rt
theorem ps_ret (he : PE X e te) : PS X (.Return (some e) pos) (tRet te) := by
  intro pins s σ H D I h
  exact wpAny_Return_some (thn (he pins s σ H _ I h) fun v s1 ⟨x, H1, I1, r1, q1⟩ => ⟨x, σ, H1, I1, r1, q1⟩)
def tIfS (c : TT) (t u : TS) : TS := fun D σ H => c σ H fun b H1 => if b = true then t D σ H1 else u D σ H1
theorem ps_if {c : Expr} {a b : List Stmt} {tc : TT} (hc : PT X c tc) (ha : PSs X a t) (hb : PSs X b u) : PS X (.If c a b pos) (tIfS tc t u) := by
  intro pins s σ H D I h
  refine wpAny_If (thn (hc pins s σ H _ I h) fun d s1 ⟨H1, I1, q1⟩ => ?_)
  cases d with
  | true => exact ha pins s1 σ H1 D I1 q1
  | false => exact hb pins s1 σ H1 D I1 q1
def tNever : TS := fun _ _ _ => False
theorem ps_never : PS X st tNever := fun _ _ _ _ _ _ h => h.elim
end
abbrev TG := V → St → Hp → (St → Hp → Prop) → Prop
abbrev TGs := List V → St → Hp → (St → Hp → Prop) → Prop
def PG (X : Cx) (target : Expr) (t : TG) : Prop :=
  ∀ (pins : List (Addr × Obj)) (s : Shared) (σ : St) (H : Hp) (v : V) (u : Value) (Q : St → Hp → Prop), Inv X pins σ H s → RelV v u → t v σ H Q →
    wpAny (model X.prog X.w) X.A (assign target X.env u) (fun _ s' => ∃ σ' H', Inv X pins σ' H' s' ∧ Q σ' H') X.xe s
def PGs (X : Cx) (ts : List Expr) (t : TGs) : Prop :=
  ∀ (pins : List (Addr × Obj)) (s : Shared) (σ : St) (H : Hp) (vs : List V) (us : List Value) (Q : St → Hp → Prop), Inv X pins σ H s → Vals vs us → t vs σ H Q →
    wpAny (model X.prog X.w) X.A (assignInOrder ((assignEach ts X.env).map (·.2)) us) (fun _ s' => ∃ σ' H', Inv X pins σ' H' s' ∧ Q σ' H') X.xe s
section
variable {X : Cx} {pos : Pos}
def gName (i : Nat) : TG := fun v σ H Q => Q (σ.set i (some v)) H
theorem pg_name {i : Nat} {x : Str} (hN : X.N.Nodup) (hi : X.N[i]? = some x) (hx : Loc X.env.scope x) (hf : X.fn x = true ∨ X.env.scope.names.lookup x = some .local := by first | exact .inl rfl | exact .inr rfl | assumption) : PG X (.Name x pos) (gName i) := by
  intro pins s σ H v u Q I r h
  exact wpAny_assign_Name (store_ok I hN hi hx r (fun s' I' => ⟨_, H, I', h⟩) hf)
def gNil : TGs := fun vs σ H Q => vs = [] ∧ Q σ H
def gCons (t : TG) (u : TGs) : TGs := fun vs σ H Q => ∃ v r, vs = v :: r ∧ t v σ H fun σ' H' => u r σ' H' Q
theorem pgs_nil : PGs X [] gNil := by
  intro pins s σ H vs us Q I r h
  obtain ⟨e, h⟩ := h
  subst e
  cases r
  exact assignInOrder_nil ⟨σ, H, I, h⟩
theorem pgs_cons {e : Expr} {es : List Expr} {t : TG} {u : TGs} (h1 : PG X e t) (h2 : PGs X es u)
    (hs : (assignEach (e :: es) X.env).map (·.2) = assign e X.env :: (assignEach es X.env).map (·.2) := by rfl) : PGs X (e :: es) (gCons t u) := by
  intro pins s σ H vs us Q I r h
  obtain ⟨v, vr, e1, h⟩ := h
  subst e1
  cases r with
  | cons r rr =>
    rw [hs]
    refine assignInOrder_cons (thn (h1 pins s σ H _ _ _ I r h) fun _ s1 ⟨σ1, H1, I1, q1⟩ => ?_)
    exact h2 pins s1 σ1 H1 _ _ Q I1 rr q1
def gTup (K : PySem.W.Frag) (n : Nat) (t : TGs) : TG := fun v σ H Q => ∃ a xs, v = .ref a ∧ SqT K H a xs ∧ xs.length = n ∧ t xs σ H Q
theorem pg_tup {es : List Expr} {k : Nat} {t : TGs} {n : Nat} (hc : X.calm = true) (h : PGs X es t)
    (hn : (assignEach es X.env).length = n := by rfl) (hst : (assignEach es X.env).findIdx? (·.1) = none := by rfl) : PG X (.Tuple es k pos) (gTup X.K n t) := by
  intro pins s σ H v u Q I r hw
  obtain ⟨a, xs, e1, hq, hl, hw⟩ := hw
  subst e1
  cases r
  obtain ⟨its, rv, ht, hz⟩ := I.tuple hq
  refine assign_Tuple_tuple (I.ok.hd hc) ht (by simp [hn, ← hl, rv.length]) hst fun h' hx => ?_
  have I1 : Inv X pins σ H { s with heap := h' } := I.kept (t' := s.toks) fun b o e => hx b o (Nat.ne_of_lt (Heap.lt_size e)) e
  exact h pins _ σ H xs _ Q I1 (by simpa using rv) hw
def tAsg (te : TE) (g : TG) : TS := fun D σ H => te σ H fun x H1 => g x σ H1 D.nx
theorem ps_set {i : Nat} {x : Str} {e : Expr} {te : TE} {pos' : Pos} (hN : X.N.Nodup) (hi : X.N[i]? = some x) (hx : Loc X.env.scope x) (he : PE X e te) (hs : swapsWith e (some (.Name x pos')) pos.line X.env = pure false := by rfl) (hf : X.fn x = true ∨ X.env.scope.names.lookup x = some .local := by first | exact .inl rfl | exact .inr rfl | assumption) :
    PS X (.Assign [.Name x pos'] e pos) (tAsg te (gName i)) := by
  intro pins s σ H D I h
  refine wpAny_Assign_Name (thn (he pins s σ H _ I h) fun v s1 ⟨y, H1, I1, r1, q1⟩ => ?_) hs
  exact store_ok I1 hN hi hx r1 (fun s2 I2 => ⟨_, H1, I2, q1⟩) hf
end
section
variable {X : Cx} {pos : Pos}
def tWhile (c : TT) (tb : TS) : TS := fun D σ H => ∃ W : Nat → St → Hp → Prop, (∃ m, W m σ H) ∧ ∀ m σ H, W m σ H →
  c σ H fun b H1 => if b = true then ∃ N : St → Hp → Prop, (∀ σ' H', N σ' H' → ∃ m', m' < m ∧ W m' σ' H') ∧ tb { D with nx := N, ct := N, bk := D.nx } σ H1 else D.nx σ H1
theorem ps_while {c : Expr} {body : List Stmt} {tc : TT} {tb : TS} (hp : PassesOwn (model X.prog X.w) X.A X.env X.xe) (hc : PT X c tc) (hb : PSs X body tb) : PS X (.While c body [] pos) (tWhile tc tb) := by
  intro pins s σ H D I h
  obtain ⟨W, ⟨m0, w0⟩, turn⟩ := h
  refine wpAny_While (codeAny_whileLoop (fun n s' => ∃ σ' H', Inv X pins σ' H' s' ∧ W n σ' H') ?_ m0 ⟨σ, H, I, w0⟩)
  rintro n s1 ⟨σ1, H1, I1, w1⟩
  refine wpAny_passesOwn hp (thn (hc pins s1 σ1 H1 _ I1 (turn n σ1 H1 w1)) fun b s2 ⟨H2, I2, q2⟩ => ?_)
  cases b with
  | true =>
    obtain ⟨N, hN, q2⟩ := q2
    rw [if_pos rfl]
    refine wpAny_passesOwn hp (thn (hb pins s2 σ1 H2 _ I2 q2) fun f s3 q3 => ?_)
    cases f with
    | next =>
      obtain ⟨σ3, H3, I3, n3⟩ := q3
      obtain ⟨m', hm, w3⟩ := hN σ3 H3 n3
      exact ⟨m', hm, σ3, H3, I3, w3⟩
    | cont =>
      obtain ⟨σ3, H3, I3, n3⟩ := q3
      obtain ⟨m', hm, w3⟩ := hN σ3 H3 n3
      exact ⟨m', hm, σ3, H3, I3, w3⟩
    | brk => exact q3
    | ret v => exact q3
  | false =>
    rw [if_neg Bool.false_ne_true]
    exact wpAny_execs_nil ⟨σ1, H2, I2, q2⟩
end
structure It where
  go : Nat → Hp → Prop
  yld : Nat → Hp → V → Hp → Prop
  stop : Nat → Hp → Prop
def FpOk (X : Cx) (pins : List (Addr × Obj)) (H : Hp) (b : Addr) : Prop :=
  H b = none ∧ b ≠ X.env.locals ∧ b ∉ X.fs ∧ (b ∈ X.ex ∨ X.s₀.heap.objs.size ≤ b) ∧ (∀ x c, X.env.cells.lookup x = some c → c ≠ b) ∧ ∀ p ∈ X.pn ++ pins, p.1 ≠ b
theorem Inv.fpOk {X : Cx} {pins : List (Addr × Obj)} {σ : St} {H H' : Hp} {s : Shared} {b : Addr} (I : Inv X pins σ H s) (hb : s.heap.objs.size ≤ b) (hn : H' b = none) : FpOk X pins H' b := by
  refine ⟨hn, Nat.ne_of_gt (Nat.lt_of_lt_of_le I.lt hb), I.nofs hb, .inr (Nat.le_trans I.sz hb), fun x c e z => ?_, fun p hp z => ?_⟩
  · obtain ⟨v, q⟩ := I.cell x c e
    exact absurd (Nat.lt_of_lt_of_le q.lt (by rw [z]; exact hb)) (Nat.lt_irrefl _)
  · exact absurd (Nat.lt_of_lt_of_le (Heap.lt_size (I.pin p hp).1) (by rw [z]; exact hb)) (Nat.lt_irrefl _)
structure Turn (P : Program) (w : World) (K : PySem.W.Frag) (tg : Expr) (J : It) (fp : List Addr) (it : Addr) (tn : Nat → Heap → Prop) : Prop where
  mem : it ∈ fp
  obj : ∀ i h, tn i h → ∀ b ∈ fp, ∃ o, h.get? b = some o ∧ ∀ v, o.data ≠ .cell v
  keep : ∀ i h h', tn i h → (∀ b ∈ fp, ∀ o, h.get? b = some o → h'.get? b = some o) → tn i h'
  item : ∀ (X : Cx), X.prog = P → X.w = w → X.K = K → X.calm = true → ∀ (i : Nat) (pins : List (Addr × Obj)) (s : Shared) (σ : St) (H : Hp) (E : Value → Shared → Prop), Inv X pins σ H s → (∀ b ∈ fp, FpOk X pins H b) → tn i s.heap → J.go i H →
    wpAny (model P w) X.A (pyNext (.ref it)) (fun r s1 => ∃ u, r = some u ∧
      wpAny (model P w) X.A (letOwnedTupleGo tg (.ref it) u) (fun _ s2 => ∃ x H', Inv X pins σ H' s2 ∧ RelV x u ∧ J.yld i H x H' ∧ tn (i + 1) s2.heap ∧ ∀ b ∈ fp, H' b = none) E s1) E s
  done : ∀ (X : Cx), X.prog = P → X.w = w → X.K = K → X.calm = true → ∀ (i : Nat) (pins : List (Addr × Obj)) (s : Shared) (σ : St) (H : Hp) (E : Value → Shared → Prop), Inv X pins σ H s → (∀ b ∈ fp, FpOk X pins H b) → tn i s.heap → J.stop i H →
    wpAny (model P w) X.A (pyNext (.ref it)) (fun r s1 => r = none ∧ Inv X pins σ H s1) E s
  self : ∀ (A : Around) (i : Nat) (s : Shared) (Q : Value → Shared → Prop) (E : Value → Shared → Prop), tn i s.heap → Q (.ref it) s → wpAny (model P w) A (pyIter (.ref it)) Q E s
abbrev TI := St → Hp → (It → Hp → Prop) → Prop
def PIE (X : Cx) (pins : List (Addr × Obj)) (σ : St) (tg : Expr) (R : It → Hp → Prop) (itv : Value) (s2 : Shared) : Prop :=
  ∃ (it : Addr) (fp : List Addr) (tn : Nat → Heap → Prop) (J : It) (H' : Hp), itv = .ref it ∧ Inv X pins σ H' s2 ∧ Turn X.prog X.w X.K tg J fp it tn ∧ tn 0 s2.heap ∧ (∀ b ∈ fp, FpOk X pins H' b) ∧ R J H'
def PI (X : Cx) (tg iter : Expr) (wi : TI) : Prop :=
  ∀ (pins : List (Addr × Obj)) (s : Shared) (σ : St) (H : Hp) (R : It → Hp → Prop), Inv X pins σ H s → wi σ H R →
    wpAny (model X.prog X.w) X.A (eval iter X.env) (fun v s1 => wpAny (model X.prog X.w) X.A (pyIter v) (PIE X pins σ tg R) X.xe s1) X.xe s
theorem go_of {M : Model} {A : Around} {E : Value → Shared → Prop} {s : Shared} {tg : Expr} {it : Addr} {u : Value} {o : Obj} {n : String} {vs : Array Value} {Q : Unit → Shared → Prop} (ho : s.heap.get? it = some o) (hc : o.cls = .type n) (hd : o.data = .fields vs)
    (hn : ["enumerate", "zip", "dict_itemiterator", "dict_reverseitemiterator", "odict_iterator", "itertools.zip_longest", "itertools.pairwise"].contains n = false) (hQ : Q () s) : wpAny M A (letOwnedTupleGo tg (.ref it) u) Q E s := by
  unfold letOwnedTupleGo
  cases tg <;> first
    | exact wpAny_pure hQ
    | (cases u <;> first
        | exact wpAny_pure hQ
        | (refine wpAny_bind (wpAny_load ho ?_)
           rw [hc, hd]
           show wpAny M A (if (["enumerate", "zip", "dict_itemiterator", "dict_reverseitemiterator", "odict_iterator", "itertools.zip_longest", "itertools.pairwise"].contains n && vs[0]? == some (rawInt _)) = true then _ else _) Q E s
           rw [if_neg (by intro h; rw [hn, Bool.false_and] at h; cases h)]
           exact wpAny_pure hQ))
def Itl (K : PySem.W.Frag) (a : Addr) : It :=
  ⟨fun i H => ∃ xs x, SqL K H a xs ∧ xs[i]? = some x, fun i H x H' => H' = H ∧ ∀ xs, SqL K H a xs → xs[i]? = some x, fun i H => ∃ xs, SqL K H a xs ∧ xs.length ≤ i⟩
def Itt (K : PySem.W.Frag) (a : Addr) : It :=
  ⟨fun i H => ∃ xs x, SqT K H a xs ∧ xs[i]? = some x, fun i H x H' => H' = H ∧ ∀ xs, SqT K H a xs → xs[i]? = some x, fun i H => ∃ xs, SqT K H a xs ∧ xs.length ≤ i⟩
def Itr (lo : Int) (n : Nat) : It := ⟨fun i _ => i < n, fun i H x H' => H' = H ∧ x = .int (lo + i), fun i _ => n ≤ i⟩
theorem turn_list {P : Program} {w : World} {K : PySem.W.Frag} {tg : Expr} (a it : Addr) : Turn P w K tg (Itl K a) [it] it (fun i h => h.IsListIter it a i) where
  mem := by simp
  obj := fun i h st b hb => by
    have e : b = it := by simpa using hb
    subst e
    obtain ⟨o, e, c, d⟩ := st
    exact ⟨o, e, fun v z => by rw [d] at z; cases z⟩
  keep := fun i h h' st k => st.at fun o e => k it (by simp) o e
  item := by
    intro X hP hw hK hc i pins s σ H E I hf st hg
    subst hP hw hK
    obtain ⟨xs, x, hq, hx⟩ := hg
    obtain ⟨its, rv, p, hz⟩ := I.list hq
    obtain ⟨u, hu, ru⟩ := rv.get hx
    obtain ⟨f0, f1, f2, f3, f4, f5⟩ := hf it (by simp)
    refine wpAny_pyNext_list_item st p.isList (x := u) (by simpa using hu) fun h' st' sb => ?_
    have I1 : Inv X pins σ H { s with heap := h' } := I.turned (t' := s.toks) (fun b o hb e => (sb.2 b hb).trans e) f0 f1 f3 f4 f5
    obtain ⟨o, e, c, d⟩ := id st'
    exact ⟨u, rfl, go_of (s := { s with heap := h' }) e c d (by decide) ⟨x, H, I1, ru, ⟨rfl, fun ys hy => by rw [I.list_inj hy hq]; exact hx⟩, st', fun b hb => (hf b hb).1⟩⟩
  done := by
    intro X hP hw hK hc i pins s σ H E I hf st hg
    subst hP hw hK
    obtain ⟨xs, hq, hx⟩ := hg
    obtain ⟨its, rv, p, hz⟩ := I.list hq
    obtain ⟨f0, f1, f2, f3, f4, f5⟩ := hf it (by simp)
    have hl := rv.length
    exact wpAny_pyNext_list_end (I.ok.hd hc) st p.isList (by simp; omega) fun h' eb => ⟨rfl, I.turned (t' := s.toks) (fun b o hb e => eb b o hb e) f0 f1 f3 f4 f5⟩
  self := fun _ _ _ _ _ st h => wpAny_pyIter_listiter st h
theorem turn_tuple {P : Program} {w : World} {K : PySem.W.Frag} {tg : Expr} (a it : Addr) : Turn P w K tg (Itt K a) [it] it (fun i h => h.IsTupleIter it a i) where
  mem := by simp
  obj := fun i h st b hb => by
    have e : b = it := by simpa using hb
    subst e
    obtain ⟨o, e, c, d⟩ := st
    exact ⟨o, e, fun v z => by rw [d] at z; cases z⟩
  keep := fun i h h' st k => st.at fun o e => k it (by simp) o e
  item := by
    intro X hP hw hK hc i pins s σ H E I hf st hg
    subst hP hw hK
    obtain ⟨xs, x, hq, hx⟩ := hg
    obtain ⟨its, rv, p, hz⟩ := I.tuple hq
    obtain ⟨u, hu, ru⟩ := rv.get hx
    obtain ⟨f0, f1, f2, f3, f4, f5⟩ := hf it (by simp)
    refine wpAny_pyNext_tuple_item st (show s.heap.IsTuple a its.toArray from p) (x := u) (by simpa using hu) fun h' st' sb => ?_
    have I1 : Inv X pins σ H { s with heap := h' } := I.turned (t' := s.toks) (fun b o hb e => (sb.2 b hb).trans e) f0 f1 f3 f4 f5
    obtain ⟨o, e, c, d⟩ := id st'
    exact ⟨u, rfl, go_of (s := { s with heap := h' }) e c d (by decide) ⟨x, H, I1, ru, ⟨rfl, fun ys hy => by rw [I.tuple_inj hy hq]; exact hx⟩, st', fun b hb => (hf b hb).1⟩⟩
  done := by
    intro X hP hw hK hc i pins s σ H E I hf st hg
    subst hP hw hK
    obtain ⟨xs, hq, hx⟩ := hg
    obtain ⟨its, rv, p, hz⟩ := I.tuple hq
    obtain ⟨f0, f1, f2, f3, f4, f5⟩ := hf it (by simp)
    have hl := rv.length
    exact wpAny_pyNext_tuple_end (I.ok.hd hc) st (show s.heap.IsTuple a its.toArray from p) (by simp; omega) fun h' eb => ⟨rfl, I.turned (t' := s.toks) (fun b o hb e => eb b o hb e) f0 f1 f3 f4 f5⟩
  self := fun _ _ _ _ _ st h => wpAny_pyIter_tupleiter st h
theorem turn_range {P : Program} {w : World} {K : PySem.W.Frag} {tg : Expr} (it : Addr) (lo : Int) (n : Nat) : Turn P w K tg (Itr lo n) [it] it (fun i h => IsRangeIter h it (lo + (i : Nat) * 1) ((n : Int) - (i : Nat)) 1) where
  mem := by simp
  obj := fun i h st b hb => by
    have e : b = it := by simpa using hb
    subst e
    exact ⟨_, st, fun v z => by
      have z' : Data.fields _ = Data.cell v := z
      cases z'⟩
  keep := fun i h h' st k => k it (by simp) _ st
  item := by
    intro X hP hw hK hc i pins s σ H E I hf st hg
    subst hP hw hK
    obtain ⟨f0, f1, f2, f3, f4, f5⟩ := hf it (by simp)
    have W := Walks.range (prog := X.prog) (w := X.w) (I.ok.hd hc) it lo 1 n
    refine W.item i s _ _ hg st fun v h' tk hv st' kk => ?_
    obtain ⟨t, rfl⟩ := hv
    have I1 : Inv X pins σ H { s with heap := h', toks := tk } := I.turned (fun b o hb e => kk b o (by simpa using hb) e) f0 f1 f3 f4 f5
    refine ⟨_, rfl, go_of (s := { s with heap := h', toks := tk }) (n := "range_iterator") st' rfl rfl (by decide) ⟨.int (lo + i), H, I1, ⟨t, ?_⟩, ⟨rfl, rfl⟩, st', fun b hb => (hf b hb).1⟩⟩
    rw [Int.mul_one]
  done := by
    intro X hP hw hK hc i pins s σ H E I hf st hg
    subst hP hw hK
    obtain ⟨f0, f1, f2, f3, f4, f5⟩ := hf it (by simp)
    exact wpAny_pyNext_range_end (I.ok.hd hc) st (by have : n ≤ i := hg; omega) fun h' eb => ⟨rfl, I.turned (t' := s.toks) (fun b o hb e => eb b o hb e) f0 f1 f3 f4 f5⟩
  self := fun _ _ _ _ _ st h => wpAny_pyIter_rangeiter st h
end L2
namespace L2
open PySem PySem.Spec PyProof.Rows
section
variable {X : Cx} {tg : Expr}
def iList (K : PySem.W.Frag) (tl : TE) : TI := fun σ H R => tl σ H fun x H1 => ∃ a, x = .ref a ∧ (∃ xs, SqL K H1 a xs) ∧ R (Itl K a) H1
def iTup (K : PySem.W.Frag) (tl : TE) : TI := fun σ H R => tl σ H fun x H1 => ∃ a, x = .ref a ∧ (∃ xs, SqT K H1 a xs) ∧ R (Itt K a) H1
theorem pi_list {l : Expr} {tl : TE} (hl : PE X l tl) : PI X tg l (iList X.K tl) := by
  intro pins s σ H R I h
  refine thn (hl pins s σ H _ I h) fun v s1 ⟨x, H1, I1, r1, q1⟩ => ?_
  obtain ⟨a, e, ⟨xs, hq⟩, q⟩ := q1
  subst e
  cases r1
  obtain ⟨its, rv, p, hz⟩ := I1.list hq
  refine wpAny_pyIter_list p.isList ?_
  refine ⟨s1.heap.objs.size, [s1.heap.objs.size], _, _, H1, rfl, I1.kept (t' := s1.toks) fun b o e => Heap.get?_push_of_some _ e, turn_list a _, ⟨_, Heap.get?_push_size _ rfl, rfl, rfl⟩, fun b hb => ?_, q⟩
  have e : b = s1.heap.objs.size := by simpa using hb
  subst e
  exact I1.fpOk (Nat.le_refl _) (I1.hok.fresh (Nat.le_refl _))
theorem pi_tup {l : Expr} {tl : TE} (hl : PE X l tl) : PI X tg l (iTup X.K tl) := by
  intro pins s σ H R I h
  refine thn (hl pins s σ H _ I h) fun v s1 ⟨x, H1, I1, r1, q1⟩ => ?_
  obtain ⟨a, e, ⟨xs, hq⟩, q⟩ := q1
  subst e
  cases r1
  obtain ⟨its, rv, p, hz⟩ := I1.tuple hq
  refine wpAny_pyIter_tuple (show s1.heap.IsTuple a its.toArray from p) ?_
  refine ⟨s1.heap.objs.size, [s1.heap.objs.size], _, _, H1, rfl, I1.kept (t' := s1.toks) fun b o e => Heap.get?_push_of_some _ e, turn_tuple a _, ⟨_, Heap.get?_push_size _ rfl, rfl, rfl⟩, fun b hb => ?_, q⟩
  have e : b = s1.heap.objs.size := by simpa using hb
  subst e
  exact I1.fpOk (Nat.le_refl _) (I1.hok.fresh (Nat.le_refl _))
theorem range_it {pins : List (Addr × Obj)} {σ : St} {H : Hp} {s : Shared} {R : It → Hp → Prop} {E : Value → Shared → Prop} {lo hi : Int} {t u v : Tok} {tk : Nat} (I : Inv X pins σ H s) (h1 : -(2 ^ 62) ≤ lo) (h2 : lo < 2 ^ 62) (h3 : -(2 ^ 62) ≤ hi) (h4 : hi < 2 ^ 62)
    (q : R (Itr lo (hi - lo).toNat) H) : wpAny (model X.prog X.w) X.A (pyIter (.ref s.heap.objs.size)) (PIE X pins σ tg R) E { s with heap := s.heap.push { cls := .type "range", data := .fields #[.int lo t, .int hi u, .int 1 v] }, toks := tk } := by
  refine wpAny_pyIter_range (IsRange.new ..) (small_one h1 h2 h3 h4) ?_
  have I1 : Inv X pins σ H { s with heap := s.heap.push { cls := .type "range", data := .fields #[.int lo t, .int hi u, .int 1 v] }, toks := tk } := I.kept fun b o e => Heap.get?_push_of_some _ e
  refine ⟨(s.heap.push { cls := .type "range", data := .fields #[.int lo t, .int hi u, .int 1 v] }).objs.size, [(s.heap.push { cls := .type "range", data := .fields #[.int lo t, .int hi u, .int 1 v] }).objs.size], _, _, H, rfl,
    I1.kept (t' := tk) fun b o e => Heap.get?_push_of_some _ e, turn_range _ lo (hi - lo).toNat, ?_, fun b hb => ?_, q⟩
  · have e1 : lo + ((0 : Nat) : Int) * 1 = lo := by simp
    have e2 : (((hi - lo).toNat : Nat) : Int) - ((0 : Nat) : Int) = Builtin.Range.rangeSize lo hi 1 := by rw [rangeSize_one]; split <;> omega
    show IsRangeIter _ _ (lo + ((0 : Nat) : Int) * 1) ((((hi - lo).toNat : Nat) : Int) - ((0 : Nat) : Int)) 1
    rw [e1, e2]
    exact Heap.get?_push_size _ rfl
  · have e : b = (s.heap.push { cls := .type "range", data := .fields #[.int lo t, .int hi u, .int 1 v] }).objs.size := by simpa using hb
    subst e
    exact I1.fpOk (Nat.le_refl _) (I1.hok.fresh (Nat.le_refl _))
def iRng1 (ta : TA) : TI := fun σ H R => ta σ H fun vs H1 => ∃ j : Int, vs = [.int j] ∧ -(2 ^ 62) ≤ j ∧ j < 2 ^ 62 ∧ R (Itr 0 j.toNat) H1
def iRng2 (ta : TA) : TI := fun σ H R => ta σ H fun vs H1 => ∃ i j : Int, vs = [.int i, .int j] ∧ (-(2 ^ 62) ≤ i ∧ i < 2 ^ 62 ∧ -(2 ^ 62) ≤ j ∧ j < 2 ^ 62) ∧ R (Itr i (j - i).toNat) H1
theorem pi_range1 {a : Expr} {ta : TA} {p pos : Pos} (hg : Gl X "range") (hm : X.mg "range" = none) (ha : PA X [a] ta) (hs : starEach [a] X.env = [(false, eval a X.env)] := by rfl) : PI X tg (.Call (.Name "range" p) [a] [] pos) (iRng1 ta) := by
  intro pins s σ H R I h
  refine Call_ (ld_blt I hg hm boot_range (PyProof.Rows.callWith_type1 (thn (ha pos pins s σ H _ I h) fun us s1 ⟨vs, H1, I1, r1, q1⟩ => ?_) hs rfl))
  obtain ⟨j, e, q1, q2, q⟩ := q1
  subst e
  cases r1 with
  | cons r rr =>
    cases rr
    obtain ⟨t, rfl⟩ := r
    exact call_range_1 (range_it I1 (by omega) (by omega) q1 q2 (by simpa using q))
theorem pi_range2 {a b : Expr} {ta : TA} {p pos : Pos} (hg : Gl X "range") (hm : X.mg "range" = none) (ha : PA X [a, b] ta) (hs : starEach [a, b] X.env = [(false, eval a X.env), (false, eval b X.env)] := by rfl) (hs2 : starEach [b] X.env = [(false, eval b X.env)] := by rfl) :
    PI X tg (.Call (.Name "range" p) [a, b] [] pos) (iRng2 ta) := by
  intro pins s σ H R I h
  refine Call_ (ld_blt I hg hm boot_range (PyProof.Rows.callWith_type1 (thn (ha pos pins s σ H _ I h) fun us s1 ⟨vs, H1, I1, r1, q1⟩ => ?_) (by rw [hs, hs2]) (by rw [hs2]; rfl)))
  obtain ⟨i, j, e, ⟨q1, q2, q3, q4⟩, q⟩ := q1
  subst e
  cases r1 with
  | cons r rr =>
    cases rr with
    | cons r' rr =>
      cases rr
      obtain ⟨t, rfl⟩ := r
      obtain ⟨t', rfl⟩ := r'
      exact call_range_2 (range_it I1 q1 q2 q3 q4 q)
def tFor (wi : TI) (g : TG) (tb : TS) : TS := fun D σ H => wi σ H fun J H1 => ∃ W : Nat → Nat → St → Hp → Prop, (∃ m, W 0 m σ H1) ∧ ∀ i m σ H, W i m σ H →
  (J.stop i H ∧ D.nx σ H) ∨ (J.go i H ∧ ∃ N : St → Hp → Prop, (∀ σ' H', N σ' H' → ∃ m', m' < m ∧ W (i + 1) m' σ' H') ∧ ∀ x H', J.yld i H x H' → g x σ H' fun σ2 H2 => tb { D with nx := N, ct := N, bk := D.nx } σ2 H2)
def pinsAt (fp : List Addr) (h : Heap) : List (Addr × Obj) := fp.filterMap fun b => (h.get? b).map fun o => (b, o)
theorem mem_pinsAt {fp : List Addr} {h : Heap} {b : Addr} {o : Obj} (hb : b ∈ fp) (e : h.get? b = some o) : (b, o) ∈ pinsAt fp h := List.mem_filterMap.mpr ⟨b, hb, by rw [e]; rfl⟩
theorem of_pinsAt {fp : List Addr} {h : Heap} {p : Addr × Obj} (hp : p ∈ pinsAt fp h) : p.1 ∈ fp ∧ h.get? p.1 = some p.2 := by
  obtain ⟨b, hb, e⟩ := List.mem_filterMap.mp hp
  cases q : h.get? b with
  | none => rw [q] at e; cases e
  | some o =>
    rw [q] at e
    have e' : (b, o) = p := Option.some.inj e
    subst e'
    exact ⟨hb, q⟩
theorem Inv.pinned {pins : List (Addr × Obj)} {σ : St} {H : Hp} {s : Shared} {fp : List Addr} (I : Inv X pins σ H s) (hf : ∀ b ∈ fp, FpOk X pins H b) (ho : ∀ b ∈ fp, ∃ o, s.heap.get? b = some o ∧ ∀ v, o.data ≠ .cell v) : Inv X (pins ++ pinsAt fp s.heap) σ H s :=
  I.pins_of fun p hp => (List.mem_append.mp hp).elim (fun z => I.pin p (List.mem_append_right _ z)) fun z => by
    obtain ⟨hb, e⟩ := of_pinsAt z
    obtain ⟨f0, f1, f2, _⟩ := hf p.1 hb
    obtain ⟨o, e', d⟩ := ho p.1 hb
    rw [e] at e'; cases e'
    exact ⟨e, f0, f1, f2, d⟩
theorem Inv.unpinned {pins pl : List (Addr × Obj)} {σ : St} {H : Hp} {s : Shared} (I : Inv X (pins ++ pl) σ H s) : Inv X pins σ H s := I.pins_of fun p hp => I.pin p (List.mem_append_right _ (List.mem_append_left _ hp))
theorem ps_for {iter : Expr} {body : List Stmt} {wi : TI} {g : TG} {tb : TS} {pos : Pos} (hp : PassesOwn (model X.prog X.w) X.A X.env X.xe) (hc : X.calm = true) (hi : PI X tg iter wi) (hg : PG X tg g) (hb : PSs X body tb)
    (hs : ∀ x, foldedSetIterable iter X.env x = pure x := by intro _; rfl) : PS X (.For tg iter body [] pos) (tFor wi g tb) := by
  intro pins s σ H D I h
  refine wpAny_For (thn (hi pins s σ H _ I h) fun v s1 h1 => thn h1 fun itv s2 h2 => ?_) hs
  obtain ⟨it, fp, tn, J, H2, e, I2, T, st2, f2, W, ⟨m0, w0⟩, turn⟩ := h2
  subst e
  have stat : ∀ {H' : Hp}, (∀ b ∈ fp, H' b = none) → ∀ b ∈ fp, FpOk X pins H' b := fun hn b hb => ⟨hn b hb, (f2 b hb).2⟩
  refine codeAny_forLoop_any (fun n s' => ∃ i σ' H', Inv X pins σ' H' s' ∧ tn i s'.heap ∧ (∀ b ∈ fp, H' b = none) ∧ W i n σ' H') ?_ m0 ⟨0, σ, H2, I2, st2, fun b hb => (f2 b hb).1, w0⟩
  rintro n s3 ⟨i, σ3, H3, I3, st3, fr3, w3⟩
  rcases turn i n σ3 H3 w3 with ⟨stop, qn⟩ | ⟨go, N, hN, step⟩
  · refine wpAny_passesOwn hp (thn (T.done X rfl rfl rfl hc i pins s3 σ3 H3 X.xe I3 (stat fr3) st3 stop) fun r s4 ⟨hr, I4⟩ => ?_)
    subst hr
    exact wpAny_execs_nil ⟨σ3, H3, I4, qn⟩
  · refine wpAny_passesOwn hp (thn (T.item X rfl rfl rfl hc i pins s3 σ3 H3 X.xe I3 (stat fr3) st3 go) fun r s4 ⟨u, hr, h4⟩ => ?_)
    subst hr
    refine wpAny_passesOwn hp (thn h4 fun _ s5 ⟨x, H5, I5, r5, y5, st5, fr5⟩ => ?_)
    have I5' := I5.pinned (stat fr5) (T.obj _ _ st5)
    refine wpAny_passesOwn hp (thn (hg _ s5 σ3 H5 x u _ I5' r5 (step x H5 y5)) fun _ s6 ⟨σ6, H6, I6, q6⟩ => ?_)
    refine wpAny_passesOwn hp (thn (hb _ s6 σ6 H6 _ I6 q6) fun f s7 q7 => ?_)
    have again : ∀ {σ7 : St} {H7 : Hp}, Inv X (pins ++ pinsAt fp s5.heap) σ7 H7 s7 → N σ7 H7 → ∃ m, m < n ∧ ∃ i σ' H', Inv X pins σ' H' s7 ∧ tn i s7.heap ∧ (∀ b ∈ fp, H' b = none) ∧ W i m σ' H' := fun {σ7 H7} I7 n7 => by
      obtain ⟨m', hm, w7⟩ := hN σ7 H7 n7
      refine ⟨m', hm, i + 1, σ7, H7, I7.unpinned, T.keep _ _ _ st5 fun b hb o e => (I7.pin (b, o) (List.mem_append_right _ (List.mem_append_right _ (mem_pinsAt hb e)))).1, fun b hb => ?_, w7⟩
      obtain ⟨o, e, d⟩ := T.obj _ _ st5 b hb
      exact (I7.pin (b, o) (List.mem_append_right _ (List.mem_append_right _ (mem_pinsAt hb e)))).2.1
    cases f with
    | next => obtain ⟨σ7, H7, I7, n7⟩ := q7; exact again I7 n7
    | cont => obtain ⟨σ7, H7, I7, n7⟩ := q7; exact again I7 n7
    | brk => obtain ⟨σ7, H7, I7, q7⟩ := q7; exact ⟨σ7, H7, I7.unpinned, q7⟩
    | ret v => obtain ⟨x7, σ7, H7, I7, r7, q7⟩ := q7; exact ⟨x7, σ7, H7, I7.unpinned, r7, q7⟩
end
theorem for_list {K : PySem.W.Frag} {a : Addr} {xs : List V} {g : TG} {tb : TS} {D : Ends} {σ : St} {H : Hp} (Pv : Nat → St → Hp → Prop) (h0 : Pv 0 σ H) (hl : ∀ i σ H, i ≤ xs.length → Pv i σ H → SqL K H a xs)
    (hs : ∀ i x σ H, xs[i]? = some x → Pv i σ H → g x σ H fun σ2 H2 => tb { D with nx := Pv (i + 1), ct := Pv (i + 1), bk := D.nx } σ2 H2) (hd : ∀ σ H, Pv xs.length σ H → D.nx σ H) :
    ∃ W : Nat → Nat → St → Hp → Prop, (∃ m, W 0 m σ H) ∧ ∀ i m σ H, W i m σ H →
      ((Itl K a).stop i H ∧ D.nx σ H) ∨ ((Itl K a).go i H ∧ ∃ N : St → Hp → Prop, (∀ σ' H', N σ' H' → ∃ m', m' < m ∧ W (i + 1) m' σ' H') ∧ ∀ x H', (Itl K a).yld i H x H' → g x σ H' fun σ2 H2 => tb { D with nx := N, ct := N, bk := D.nx } σ2 H2) := by
  refine ⟨fun i m σ H => m = xs.length - i ∧ i ≤ xs.length ∧ Pv i σ H, ⟨xs.length, by simp, Nat.zero_le _, h0⟩, ?_⟩
  rintro i m σ H ⟨rfl, hi, p⟩
  have q := hl i σ H hi p
  by_cases hlt : i < xs.length
  · refine .inr ⟨⟨xs, xs[i], q, by simp [hlt]⟩, Pv (i + 1), fun σ' H' p' => ⟨xs.length - (i + 1), by omega, rfl, hlt, p'⟩, fun x H' y => ?_⟩
    obtain ⟨e, y⟩ := y
    subst e
    exact hs i x σ _ (y xs q) p
  · have e : i = xs.length := by omega
    subst e
    exact .inl ⟨⟨xs, q, Nat.le_refl _⟩, hd σ H p⟩
theorem for_tup {K : PySem.W.Frag} {a : Addr} {xs : List V} {g : TG} {tb : TS} {D : Ends} {σ : St} {H : Hp} (Pv : Nat → St → Hp → Prop) (h0 : Pv 0 σ H) (hl : ∀ i σ H, i ≤ xs.length → Pv i σ H → SqT K H a xs)
    (hs : ∀ i x σ H, xs[i]? = some x → Pv i σ H → g x σ H fun σ2 H2 => tb { D with nx := Pv (i + 1), ct := Pv (i + 1), bk := D.nx } σ2 H2) (hd : ∀ σ H, Pv xs.length σ H → D.nx σ H) :
    ∃ W : Nat → Nat → St → Hp → Prop, (∃ m, W 0 m σ H) ∧ ∀ i m σ H, W i m σ H →
      ((Itt K a).stop i H ∧ D.nx σ H) ∨ ((Itt K a).go i H ∧ ∃ N : St → Hp → Prop, (∀ σ' H', N σ' H' → ∃ m', m' < m ∧ W (i + 1) m' σ' H') ∧ ∀ x H', (Itt K a).yld i H x H' → g x σ H' fun σ2 H2 => tb { D with nx := N, ct := N, bk := D.nx } σ2 H2) := by
  refine ⟨fun i m σ H => m = xs.length - i ∧ i ≤ xs.length ∧ Pv i σ H, ⟨xs.length, by simp, Nat.zero_le _, h0⟩, ?_⟩
  rintro i m σ H ⟨rfl, hi, p⟩
  have q := hl i σ H hi p
  by_cases hlt : i < xs.length
  · refine .inr ⟨⟨xs, xs[i], q, by simp [hlt]⟩, Pv (i + 1), fun σ' H' p' => ⟨xs.length - (i + 1), by omega, rfl, hlt, p'⟩, fun x H' y => ?_⟩
    obtain ⟨e, y⟩ := y
    subst e
    exact hs i x σ _ (y xs q) p
  · have e : i = xs.length := by omega
    subst e
    exact .inl ⟨⟨xs, q, Nat.le_refl _⟩, hd σ H p⟩
theorem for_range {lo : Int} {n : Nat} {g : TG} {tb : TS} {D : Ends} {σ : St} {H : Hp} (Pv : Nat → St → Hp → Prop) (h0 : Pv 0 σ H)
    (hs : ∀ i σ H, i < n → Pv i σ H → g (.int (lo + i)) σ H fun σ2 H2 => tb { D with nx := Pv (i + 1), ct := Pv (i + 1), bk := D.nx } σ2 H2) (hd : ∀ σ H, Pv n σ H → D.nx σ H) :
    ∃ W : Nat → Nat → St → Hp → Prop, (∃ m, W 0 m σ H) ∧ ∀ i m σ H, W i m σ H →
      ((Itr lo n).stop i H ∧ D.nx σ H) ∨ ((Itr lo n).go i H ∧ ∃ N : St → Hp → Prop, (∀ σ' H', N σ' H' → ∃ m', m' < m ∧ W (i + 1) m' σ' H') ∧ ∀ x H', (Itr lo n).yld i H x H' → g x σ H' fun σ2 H2 => tb { D with nx := N, ct := N, bk := D.nx } σ2 H2) := by
  refine ⟨fun i m σ H => m = n - i ∧ i ≤ n ∧ Pv i σ H, ⟨n, by simp, Nat.zero_le _, h0⟩, ?_⟩
  rintro i m σ H ⟨rfl, hi, p⟩
  by_cases hlt : i < n
  · refine .inr ⟨hlt, Pv (i + 1), fun σ' H' p' => ⟨n - (i + 1), by omega, rfl, hlt, p'⟩, fun x H' y => ?_⟩
    obtain ⟨e, y⟩ := y
    subst e y
    exact hs i σ _ hlt p
  · have e : i = n := by omega
    subst e
    exact .inl ⟨Nat.le_refl _, hd σ H p⟩
theorem while_by {c : TT} {tb : TS} {D : Ends} {σ : St} {H : Hp} (Pv : St → Hp → Prop) (μ : St → Hp → Nat) (h0 : Pv σ H)
    (hs : ∀ σ H, Pv σ H → c σ H fun b H1 => if b = true then tb { D with nx := fun σ' H' => Pv σ' H' ∧ μ σ' H' < μ σ H, ct := fun σ' H' => Pv σ' H' ∧ μ σ' H' < μ σ H, bk := D.nx } σ H1 else D.nx σ H1)
    (mono : ∀ σ H Q Q', (∀ b H1, Q b H1 → Q' b H1) → c σ H Q → c σ H Q') : tWhile c tb D σ H := by
  refine ⟨fun m σ H => m = μ σ H ∧ Pv σ H, ⟨_, rfl, h0⟩, ?_⟩
  rintro m σ H ⟨rfl, p⟩
  refine mono σ H _ _ (fun b H1 q => ?_) (hs σ H p)
  cases b with
  | true => exact ⟨_, fun σ' H' ⟨p', l⟩ => ⟨_, l, rfl, p'⟩, q⟩
  | false => exact q
end L2
namespace L2
open PySem PySem.Spec PyProof.Rows
abbrev R2 := V → V → Hp → VK → Prop
def OpR (X : Cx) (f : Value → Value → Sem Value) (r : R2) : Prop :=
  ∀ (pins : List (Addr × Obj)) (s : Shared) (σ : St) (H : Hp) (x y : V) (v u : Value) (Q : VK), Inv X pins σ H s → RelV x v → RelV y u → r x y H Q →
    wpAny (model X.prog X.w) X.A (f v u) (EP X pins σ Q) X.xe s
def UnR (X : Cx) (f : Value → Sem Value) (r : V → Hp → VK → Prop) : Prop :=
  ∀ (pins : List (Addr × Obj)) (s : Shared) (σ : St) (H : Hp) (x : V) (v : Value) (Q : VK), Inv X pins σ H s → RelV x v → r x H Q →
    wpAny (model X.prog X.w) X.A (f v) (EP X pins σ Q) X.xe s
def CallR (X : Cx) (f : Value) (r : List V → Hp → VK → Prop) : Prop :=
  ∀ (pins : List (Addr × Obj)) (s : Shared) (σ : St) (H : Hp) (xs : List V) (us : List Value) (Q : VK), Inv X pins σ H s → Vals xs us → r xs H Q →
    wpAny (model X.prog X.w) X.A (call f us) (EP X pins σ Q) X.xe s
def tOp (r : R2) (ta tb : TE) : TE := fun σ H Q => ta σ H fun x H1 => tb σ H1 fun y H2 => r x y H2 Q
def tUn (r : V → Hp → VK → Prop) (ta : TE) : TE := fun σ H Q => ta σ H fun x H1 => r x H1 Q
def rI (C : Int → Int → Prop) (g : Int → Int → V) : R2 := fun x y H Q => ∃ i j, x = .int i ∧ y = .int j ∧ C i j ∧ Q (g i j) H
def rI0 (g : Int → Int → V) : R2 := fun x y H Q => ∃ i j, x = .int i ∧ y = .int j ∧ Q (g i j) H
def rU (g : Int → V) : V → Hp → VK → Prop := fun x H Q => ∃ i, x = .int i ∧ Q (g i) H
section
variable {X : Cx} {a b c : Expr} {ta tb tc : TE} {pos : Pos}
theorem binT (ha : PE X a ta) (hb : PE X b tb) {pins : List (Addr × Obj)} {s : Shared} {σ : St} {H : Hp} {R : V → V → Hp → Prop} (I : Inv X pins σ H s)
    (h : ta σ H fun x H1 => tb σ H1 fun y H2 => R x y H2) {Q : Value → Shared → Prop} {f : Value → Value → Sem Value}
    (hf : ∀ v u s2 x y H2, Inv X pins σ H2 s2 → RelV x v → RelV y u → R x y H2 → wpAny (model X.prog X.w) X.A (f v u) Q X.xe s2) :
    wpAny (model X.prog X.w) X.A (eval a X.env) (fun v s₁ => wpAny (model X.prog X.w) X.A (eval b X.env) (fun u s₂ => wpAny (model X.prog X.w) X.A (f v u) Q X.xe s₂) X.xe s₁) X.xe s := by
  refine thn (ha pins s σ H _ I h) fun v s1 ⟨x, H1, I1, r1, q1⟩ => ?_
  refine thn (hb pins s1 σ H1 _ I1 q1) fun u s2 ⟨y, H2, I2, r2, q2⟩ => ?_
  exact hf v u s2 x y H2 I2 r1 r2 q2
theorem pe_op {op : Operator} {r : R2} (ho : OpR X (binaryOp op) r) (ha : PE X a ta) (hb : PE X b tb) : PE X (.BinOp a op b pos) (tOp r ta tb) := by
  intro pins s σ H Q I h
  exact wpAny_BinOp (binT ha hb I h fun v u s2 x y H2 I2 rx ry q => ho pins s2 σ H2 x y v u Q I2 rx ry q)
theorem pe_un {op : UnaryOp} {r : V → Hp → VK → Prop} (ho : UnR X (unaryOp op) r) (ha : PE X a ta) : PE X (.UnaryOp op a pos) (tUn r ta) := by
  intro pins s σ H Q I h
  exact UnaryOp_ (thn (ha pins s σ H _ I h) fun v s1 ⟨x, H1, I1, r1, q1⟩ => ho pins s1 σ H1 x v Q I1 r1 q1)
theorem opI {f : Value → Value → Sem Value} {C : Int → Int → Prop} {g : Int → Int → Int}
    (rule : ∀ (i j : Int) (t u : Tok) (s : Shared) (Q : Value → Shared → Prop) (E : Value → Shared → Prop), C i j → Q (.int (g i j) s.toks) { s with toks := s.toks + 1 } → wpAny (model X.prog X.w) X.A (f (.int i t) (.int j u)) Q E s) :
    OpR X f (rI C fun i j => .int (g i j)) := by
  intro pins s σ H x y v u Q I rx ry h
  obtain ⟨i, j, rfl, rfl, hc, q⟩ := h
  obtain ⟨t, rfl⟩ := rx
  obtain ⟨t', rfl⟩ := ry
  exact rule i j t t' s _ _ hc ⟨.int (g i j), H, I.tok _, ⟨_, rfl⟩, q⟩
theorem opI0 {f : Value → Value → Sem Value} {g : Int → Int → Int}
    (rule : ∀ (i j : Int) (t u : Tok) (s : Shared) (Q : Value → Shared → Prop) (E : Value → Shared → Prop), Q (.int (g i j) s.toks) { s with toks := s.toks + 1 } → wpAny (model X.prog X.w) X.A (f (.int i t) (.int j u)) Q E s) :
    OpR X f (rI0 fun i j => .int (g i j)) := by
  intro pins s σ H x y v u Q I rx ry h
  obtain ⟨i, j, rfl, rfl, q⟩ := h
  obtain ⟨t, rfl⟩ := rx
  obtain ⟨t', rfl⟩ := ry
  exact rule i j t t' s _ _ ⟨.int (g i j), H, I.tok _, ⟨_, rfl⟩, q⟩
theorem opB0 {f : Value → Value → Sem Value} {g : Int → Int → Bool}
    (rule : ∀ (i j : Int) (t u : Tok) (s : Shared) (Q : Value → Shared → Prop) (E : Value → Shared → Prop), Q (.bool (g i j)) s → wpAny (model X.prog X.w) X.A (f (.int i t) (.int j u)) Q E s) :
    OpR X f (rI0 fun i j => .bl (g i j)) := by
  intro pins s σ H x y v u Q I rx ry h
  obtain ⟨i, j, rfl, rfl, q⟩ := h
  obtain ⟨t, rfl⟩ := rx
  obtain ⟨t', rfl⟩ := ry
  exact rule i j t t' s _ _ ⟨.bl (g i j), H, I, rfl, q⟩
def CPow (i j : Int) : Prop := 0 ≤ j ∧ j ≤ 1000000 ∧ i.natAbs < 2 ^ 64
def CMul (i j : Int) : Prop := (-(2 ^ 64) < i ∧ i < 2 ^ 64) ∨ (-(2 ^ 64) < j ∧ j < 2 ^ 64)
theorem CMul.ok {i j : Int} (h : CMul i j) : IntMulOk i j := by
  rcases h with ⟨h1, h2⟩ | ⟨h1, h2⟩
  · exact .of_left (intBits_le_64 h1 h2)
  · exact .of_right (intBits_le_64 h1 h2)
theorem two_pow_nn (k : Nat) : (0 : Int) ≤ 2 ^ k := by
  rw [two_pow_cast]
  exact Int.natCast_nonneg _
theorem op_add : OpR X (binaryOp .Add) (rI0 fun i j => .int (i + j)) := opI0 fun _ _ _ _ _ _ _ q => add_int q
theorem op_sub : OpR X (binaryOp .Sub) (rI0 fun i j => .int (i - j)) := opI0 fun _ _ _ _ _ _ _ q => sub_int q
theorem op_mod : OpR X (binaryOp .Mod) (rI (fun _ j => 0 < j) fun i j => .int (i % j)) := opI fun i j _ _ _ _ _ hc q => by
  have h1 : (0 : Int) < j := hc
  exact mod_int' (by omega) (by rw [Int.fmod_eq_emod_of_nonneg i (by omega)]; exact q)
theorem op_modN : OpR X (binaryOp .Mod) (rI (fun _ j => j ≠ 0) fun i j => .int (i.fmod j)) := opI fun _ _ _ _ _ _ _ hc q => mod_int' hc q
theorem op_pow : OpR X (binaryOp .Pow) (rI CPow fun i j => .int (i ^ j.toNat)) := opI fun _ _ _ _ _ _ _ hc q => pow_int_small hc.1 hc.2.1 hc.2.2 q
theorem op_shl : OpR X (binaryOp .LShift) (rI CPow fun i j => .int (i * 2 ^ j.toNat)) := opI fun _ _ _ _ _ _ _ hc q => lshift_int_small hc.1 hc.2.1 hc.2.2 q
theorem op_shr : OpR X (binaryOp .RShift) (rI (fun _ j => 0 ≤ j) fun i j => .int (i / 2 ^ j.toNat)) := opI fun i j _ _ _ _ _ hc q =>
  rshift_int hc (by rw [Int.fdiv_eq_ediv_of_nonneg i (two_pow_nn _)]; exact q)
theorem op_and : OpR X (binaryOp .BitAnd) (rI0 fun i j => .int (Builtin.bitAnd i j)) := opI0 fun _ _ _ _ _ _ _ q => and_int q
theorem unI {f : Value → Sem Value} {g : Int → Int}
    (rule : ∀ (i : Int) (t : Tok) (s : Shared) (Q : Value → Shared → Prop) (E : Value → Shared → Prop), Q (.int (g i) s.toks) { s with toks := s.toks + 1 } → wpAny (model X.prog X.w) X.A (f (.int i t)) Q E s) :
    UnR X f (rU fun i => .int (g i)) := by
  intro pins s σ H x v Q I rx h
  obtain ⟨i, rfl, q⟩ := h
  obtain ⟨t, rfl⟩ := rx
  exact rule i t s _ _ ⟨.int (g i), H, I.tok _, ⟨_, rfl⟩, q⟩
theorem un_neg : UnR X (unaryOp .USub) (rU fun i => .int (-i)) := unI fun _ _ _ _ _ q => neg_int q
end
def scal : V → V → Bool
  | .non, .non => true | .non, .int _ => true | .int _, .non => true | .non, .bl _ => true | .bl _, .non => true | .non, .str _ => true | .str _, .non => true
  | .int _, .int _ => true | .bl _, .bl _ => true | .str _, .str _ => true | .byt _, .byt _ => true
  | .int _, .str _ => true | .str _, .int _ => true | .bl _, .str _ => true | .str _, .bl _ => true
  | _, _ => false
def rEq : R2 := fun x y H Q => scal x y = true ∧ Q (.bl (decide (x = y))) H
def rNe : R2 := fun x y H Q => scal x y = true ∧ Q (.bl (!decide (x = y))) H
theorem dec_int {i j : Int} : decide (V.int i = V.int j) = (i == j) := by
  rw [Bool.eq_iff_iff]
  simp
theorem dec_bl {i j : Bool} : decide (V.bl i = V.bl j) = (i == j) := by
  rw [Bool.eq_iff_iff]
  simp
theorem dec_str {i j : Str} : decide (V.str i = V.str j) = (i == j) := by
  rw [Bool.eq_iff_iff]
  simp
theorem dec_byt {i j : Array UInt8} : decide (V.byt i = V.byt j) = (i.toList == j.toList) := by
  rw [Bool.eq_iff_iff]
  cases i
  cases j
  simp
section
variable {X : Cx} {a b c : Expr} {ta tb tc : TE} {pos : Pos}
theorem fin_bl {pins : List (Addr × Obj)} {σ : St} {H : Hp} {s : Shared} {Q : VK} {k k' : Bool} (I : Inv X pins σ H s) (q : Q (.bl k) H) (e : k = k') : EP X pins σ Q (.bool k') s := by
  subst e
  exact ⟨.bl k, H, I, rfl, q⟩
theorem op_eq : OpR X (compareOp .Eq) rEq := by
  intro pins s σ H x y v u Q I rx ry h
  obtain ⟨hs, q⟩ := h
  cases x with
  | non =>
    cases rx
    cases y with
    | non => cases ry; exact PySem.EqNone.eq_none_none (fin_bl I q (by simp))
    | bl j => cases ry; exact PySem.EqNone.eq_none_bool (fin_bl I q (by simp))
    | int j => obtain ⟨t', rfl⟩ := ry; exact PySem.EqNone.eq_none_int (fin_bl I q (by simp))
    | str j => obtain ⟨t', rfl⟩ := ry; exact PySem.EqNone.eq_none_str (fin_bl I q (by simp))
    | _ => exact absurd (show false = true from hs) Bool.false_ne_true
  | bl i =>
    cases rx
    cases y with
    | non => cases ry; exact PySem.EqNone.eq_bool_none (fin_bl I q (by simp))
    | bl j => cases ry; exact eq_bool (fin_bl I q dec_bl)
    | str j => obtain ⟨t', rfl⟩ := ry; exact PySem.EqMixed.eq_bool_str (fin_bl I q (by simp))
    | _ => exact absurd (show false = true from hs) Bool.false_ne_true
  | int i =>
    obtain ⟨t, rfl⟩ := rx
    cases y with
    | non => cases ry; exact PySem.EqNone.eq_int_none (fin_bl I q (by simp))
    | int j => obtain ⟨t', rfl⟩ := ry; exact eq_int (fin_bl I q dec_int)
    | str j => obtain ⟨t', rfl⟩ := ry; exact PySem.EqMixed.eq_int_str (fin_bl I q (by simp))
    | _ => exact absurd (show false = true from hs) Bool.false_ne_true
  | str i =>
    obtain ⟨t, rfl⟩ := rx
    cases y with
    | non => cases ry; exact PySem.EqNone.eq_str_none (fin_bl I q (by simp))
    | bl j => cases ry; exact PySem.EqMixed.eq_str_bool (fin_bl I q (by simp))
    | int j => obtain ⟨t', rfl⟩ := ry; exact PySem.EqMixed.eq_str_int (fin_bl I q (by simp))
    | str j => obtain ⟨t', rfl⟩ := ry; exact eq_str (fin_bl I q dec_str)
    | _ => exact absurd (show false = true from hs) Bool.false_ne_true
  | byt i =>
    obtain ⟨t, rfl⟩ := rx
    cases y with
    | byt j => obtain ⟨t', rfl⟩ := ry; exact PySem.W.eq_bytes (fin_bl I q dec_byt)
    | _ => exact absurd (show false = true from hs) Bool.false_ne_true
  | _ => cases y <;> exact absurd (show false = true from hs) Bool.false_ne_true
theorem op_ne : OpR X (compareOp .NotEq) rNe := by
  intro pins s σ H x y v u Q I rx ry h
  obtain ⟨hs, q⟩ := h
  cases x with
  | non =>
    cases rx
    cases y with
    | non => cases ry; exact PySem.EqNone.ne_none_none (fin_bl I q (by simp))
    | bl j => cases ry; exact PySem.EqNone.ne_none_bool (fin_bl I q (by simp))
    | int j => obtain ⟨t', rfl⟩ := ry; exact PySem.EqNone.ne_none_int (fin_bl I q (by simp))
    | str j => obtain ⟨t', rfl⟩ := ry; exact PySem.EqNone.ne_none_str (fin_bl I q (by simp))
    | _ => exact absurd (show false = true from hs) Bool.false_ne_true
  | bl i =>
    cases rx
    cases y with
    | non => cases ry; exact PySem.EqNone.ne_bool_none (fin_bl I q (by simp))
    | bl j => cases ry; exact ne_bool (fin_bl I q (congrArg not dec_bl))
    | str j => obtain ⟨t', rfl⟩ := ry; exact PySem.EqMixed.ne_bool_str (fin_bl I q (by simp))
    | _ => exact absurd (show false = true from hs) Bool.false_ne_true
  | int i =>
    obtain ⟨t, rfl⟩ := rx
    cases y with
    | non => cases ry; exact PySem.EqNone.ne_int_none (fin_bl I q (by simp))
    | int j => obtain ⟨t', rfl⟩ := ry; exact ne_int (fin_bl I q (congrArg not dec_int))
    | str j => obtain ⟨t', rfl⟩ := ry; exact PySem.EqMixed.ne_int_str (fin_bl I q (by simp))
    | _ => exact absurd (show false = true from hs) Bool.false_ne_true
  | str i =>
    obtain ⟨t, rfl⟩ := rx
    cases y with
    | non => cases ry; exact PySem.EqNone.ne_str_none (fin_bl I q (by simp))
    | bl j => cases ry; exact PySem.EqMixed.ne_str_bool (fin_bl I q (by simp))
    | int j => obtain ⟨t', rfl⟩ := ry; exact PySem.EqMixed.ne_str_int (fin_bl I q (by simp))
    | str j => obtain ⟨t', rfl⟩ := ry; exact ne_str (fin_bl I q (congrArg not dec_str))
    | _ => exact absurd (show false = true from hs) Bool.false_ne_true
  | byt i =>
    obtain ⟨t, rfl⟩ := rx
    cases y with
    | byt j => obtain ⟨t', rfl⟩ := ry; exact PySem.W.ne_bytes (fin_bl I q (congrArg not dec_byt))
    | _ => exact absurd (show false = true from hs) Bool.false_ne_true
  | _ => cases y <;> exact absurd (show false = true from hs) Bool.false_ne_true
theorem op_lt : OpR X (compareOp .Lt) (rI0 fun i j => .bl (decide (i < j))) := opB0 fun _ _ _ _ _ _ _ q => lt_int q
theorem op_gt : OpR X (compareOp .Gt) (rI0 fun i j => .bl (decide (j < i))) := opB0 fun _ _ _ _ _ _ _ q => gt_int q
theorem op_ge : OpR X (compareOp .GtE) (rI0 fun i j => .bl (decide (j ≤ i))) := opB0 fun _ _ _ _ _ _ _ q => ge_int q
theorem nomark (b : Expr) {op : CmpOp} (h : op ≠ .In := by decide) (h2 : op ≠ .NotIn := by decide) : behindInMarks op b = false := by
  have e1 : (op == CmpOp.In) = false := by cases op <;> first | rfl | exact absurd rfl h
  have e2 : (op == CmpOp.NotIn) = false := by cases op <;> first | rfl | exact absurd rfl h2
  cases b <;> simp [behindInMarks, e1, e2]
theorem pe_cmpR {op : CmpOp} {r : R2} (ho : OpR X (compareOp op) r) (ha : PE X a ta) (hb : PE X b tb) (hm : behindInMarks op b = false) : PE X (.Compare a [op] [b] pos) (tOp r ta tb) := by
  intro pins s σ H Q I h
  exact wpAny_Compare1 (binT ha hb I h fun v u s2 x y H2 I2 rx ry q => ho pins s2 σ H2 x y v u Q I2 rx ry q) hm
def tTest (t : TE) : TT := fun σ H Q => t σ H fun x H' => ∃ k, x = .bl k ∧ Q k H'
theorem pt_cmpR {op : CmpOp} {r : R2} (ho : OpR X (compareOp op) r) (ha : PE X a ta) (hb : PE X b tb) (hm : behindInMarks op b = false) : PT X (.Compare a [op] [b] pos) (tTest (tOp r ta tb)) := by
  intro pins s σ H Q I h
  refine wpAny_isTrue_Compare1 (thn (ha pins s σ H _ I h) fun v s1 ⟨x, H1, I1, r1, q1⟩ => thn (hb pins s1 σ H1 _ I1 q1) fun u s2 ⟨y, H2, I2, r2, q2⟩ =>
    thn (ho pins s2 σ H2 x y v u _ I2 r1 r2 q2) fun c s3 ⟨z, H3, I3, r3, k, e, q3⟩ => ?_) hm
  subst e
  cases r3
  exact wpAny_truthy_bool ⟨H3, I3, q3⟩
theorem line63 : (sizeLine : Nat) < 2 ^ 63 := by rw [sizeLine_eq]; decide
theorem vals1 {x : V} {us : List Value} (r : Vals [x] us) : ∃ u, us = [u] ∧ RelV x u := by
  cases r with
  | cons r1 r2 => cases r2; exact ⟨_, rfl, r1⟩
theorem call_abs : CallR X (.builtin "abs") (fun xs H Q => ∃ i, xs = [.int i] ∧ Q (.int (if i < 0 then -i else i)) H) := by
  intro pins s σ H xs us Q I r h
  obtain ⟨i, rfl, q⟩ := h
  obtain ⟨u, rfl, t, rfl⟩ := vals1 r
  exact call_abs_int fun u tk => ⟨.int (if i < 0 then -i else i), H, I.tok _, ⟨_, rfl⟩, q⟩
end
end L2
namespace L2
open PySem PySem.Spec PyProof.Rows
structure ObjM (h : Heap) (x dx C : Addr) (mA : Str → Option Value) : Prop where
  obj : h.get? x = some (PySem.W.instObj C dx)
  ns : h.Ns1 dx mA
  ne : dx ≠ x
theorem lookIn_ns {h : Heap} {dx : Addr} {mA : Str → Option Value} (n : h.Ns1 dx mA) : ∃ od, h.get? dx = some od ∧ ∀ name, PySem.W.lookIn name od = some (mA name) := by
  obtain ⟨o, es, ep, ho, hd, hk, _, hm⟩ := n
  refine ⟨o, ho, fun name => ?_⟩
  have e := hm name
  unfold nsFind findBy at e
  rw [← Array.find?_toList] at e
  unfold PySem.W.lookIn
  rw [hd]
  dsimp only
  split
  · rename_i y q
    rw [q] at e
    exact congrArg some e
  · rename_i q
    rw [q] at e
    have a : es.toList.any (·.refKey) = false := by
      rw [List.any_eq_false]
      intro y hy
      obtain ⟨z, t, hkey⟩ := hk y (Array.mem_toList_iff.mp hy)
      simp [DictEntry.refKey, hkey]
    have a' : ¬ es.toList.any (·.refKey) = true := by rw [a]; exact Bool.false_ne_true
    rw [if_neg a']
    exact congrArg some e
theorem ObjM.look {h : Heap} {x dx C : Addr} {mA : Str → Option Value} (I : ObjM h x dx C mA) : ∃ od, PySem.W.InstAt h x (PySem.W.instObj C dx) C (some od) ∧ ∀ name, PySem.W.lookIn name od = some (mA name) :=
  let ⟨od, ho, hl⟩ := lookIn_ns I.ns
  ⟨od, ⟨I.obj, rfl, rfl, ho⟩, hl⟩
section
variable {prog : Program} {w : World} {A : Around} {E : Value → Shared → Prop} {s : Shared} {K : PySem.W.Frag} {x dx C f : Addr} {mA : Str → Option Value} {name : Str} {v : Value}
end
section
variable {P : Program} {w : World} {H H' : Hp} {h h' : Heap} {a C dx : Addr} {fs fs' : List (Str × V)}
theorem ins_get (hok : HOk P w H h) (e : H a = some (.ins C dx fs)) : ∃ mA, ObjM h a dx C mA ∧ (∀ f, RelO (fs.lookup f) (mA f)) ∧ PySem.Within mA (fs.map (·.1)) ∧ fs.length ≤ 1000 ∧ H dx = some (.own a) := by
  obtain ⟨d, z, ne, ob, mA, n, r, q⟩ := (show ObjOk P w H h a (.ins C dx fs) from hok a _ e)
  exact ⟨mA, ⟨ob, n, ne⟩, r, q, z, d⟩
end
structure Cls (K : PySem.W.Frag) (C : Addr) : Prop where
  pg : PySem.W.plainGet K C Str.empty = true
  hd : PySem.W.hasDictIn K C = true
  po : PySem.W.plainOver K C = true
  sa : PySem.W.findIn K (.ref C) "__setattr__" = some (some (.builtin "object.__setattr__"))
theorem Cls.get {K : PySem.W.Frag} {C : Addr} (c : Cls K C) (f : Str) : PySem.W.plainGet K C f = true := c.pg
section
variable {X : Cx} {pins : List (Addr × Obj)} {σ : St} {H : Hp} {s : Shared} {a C dx : Addr} {fs : List (Str × V)} {f : Str} {v : V} {A : Around} {E : Value → Shared → Prop}
end
section
variable {X : Cx} {o e value : Expr} {f : Str} {pos pos' tpos : Pos} {ta tv : TE}
end
section
variable {X : Cx} {pins : List (Addr × Obj)} {σ : St} {H : Hp} {s : Shared} {A : Around} {E : Value → Shared → Prop} {Q : Value → Shared → Prop} {c : Value} {b : Bool}
inductive TyOf (K : PySem.W.Frag) (H : Hp) : V → Value → Prop where
  | non : TyOf K H .non (.type "NoneType")
  | bl (x : Bool) : TyOf K H (.bl x) (.type "bool")
  | int (i : Int) : TyOf K H (.int i) (.type "int")
  | str (x : Str) : TyOf K H (.str x) (.type "str")
  | flt (x : UInt64) : TyOf K H (.flt x) (.type "float")
  | lst {a : Addr} {xs : List V} (e : H a = some (.lst xs)) : TyOf K H (.ref a) (.type "list")
  | frz {a : Addr} {o : Obj} {xs : List V} (e : H a = some (.frz o (.lst xs))) : TyOf K H (.ref a) (.type "list")
  | tup {a : Addr} {xs : List V} (e : H a = some (.tup xs)) : TyOf K H (.ref a) (.type "tuple")
  | dK {a : Addr} {kvs : List (Key × V)} (e : H a = some (.dK kvs)) : TyOf K H (.ref a) (.type "dict")
  | dT {a : Addr} {kvs : List (List Key × V)} (e : H a = some (.dT kvs)) : TyOf K H (.ref a) (.type "dict")
  | ins {a C dx : Addr} {fs : List (Str × V)} (e : H a = some (.ins C dx fs)) (cl : Cls K C) (ha : PySem.W.findIn K (.ref C) "__class__" = some (some (.builtin "object.__class__")))
      (hn : PySem.W.specialIn K (.builtin "object.__class__") "__get__" = some (some (.builtin "getset_descriptor.__get__"))) (htk : PySem.W.takesIn K (.builtin "object.__class__") = some true)
      (hm : PySem.W.mroIn K C (.type "object") = some true) : TyOf K H (.ref a) (.ref C)
theorem isinst_ok {x : V} {u t : Value} (I : Inv X pins σ H s) (rx : RelV x u) (ty : TyOf X.K H x t) (e : PySem.W.kitOne X.K t c = some b) (h : ∀ tk, Q (.bool b) { s with toks := tk }) :
    wpAny (model X.prog X.w) A (call (.builtin "isinstance") [u, c]) Q E s := by
  cases ty with
  | non => cases (show u = Value.none from rx); exact PySem.W.kia_one PySem.W.kitx_none I.kIn True.intro e (fun z => nomatch z) h
  | bl y => cases (show u = Value.bool y from rx); exact PySem.W.kia_one PySem.W.kitx_bool I.kIn True.intro e (fun z => nomatch z) h
  | int i => obtain ⟨t, q⟩ := (show ∃ t, u = Value.int i t from rx); cases q; exact PySem.W.kia_one PySem.W.kitx_int I.kIn True.intro e (fun z => nomatch z) h
  | str y => obtain ⟨t, q⟩ := (show ∃ t, u = Value.str y t from rx); cases q; exact PySem.W.kia_one PySem.W.kitx_str I.kIn True.intro e (fun z => nomatch z) h
  | flt y => obtain ⟨t, q⟩ := (show ∃ t, u = Value.float y t from rx); cases q; exact PySem.W.kia_one PySem.W.kitx_float I.kIn True.intro e (fun z => nomatch z) h
  | @lst a xs ea =>
    cases (show u = Value.ref a from rx)
    obtain ⟨_, _, n, _, h1⟩ := (show ObjOk X.prog X.w H s.heap a (.lst xs) from I.hok a _ ea)
    exact PySem.W.kia_one PySem.W.kitx_list I.kIn ⟨_, h1, rfl⟩ e (fun z => nomatch z) h
  | @frz a ob xs ea =>
    cases (show u = Value.ref a from rx)
    obtain ⟨_, _, _, n, _, h1⟩ := (show ObjOk X.prog X.w H s.heap a (.frz ob (.lst xs)) from I.hok a _ ea)
    exact PySem.W.kia_one PySem.W.kitx_list I.kIn ⟨_, h1, rfl⟩ e (fun z => nomatch z) h
  | @tup a xs ea =>
    cases (show u = Value.ref a from rx)
    obtain ⟨_, _, _, p⟩ := (show ObjOk X.prog X.w H s.heap a (.tup xs) from I.hok a _ ea)
    obtain ⟨o, h1, h2, _⟩ := p
    exact PySem.W.kia_one PySem.W.kitx_tuple I.kIn ⟨o, h1, h2⟩ e (fun z => nomatch z) h
  | @dK a kvs ea =>
    cases (show u = Value.ref a from rx)
    obtain ⟨_, _, vs, _, p⟩ := (show ObjOk X.prog X.w H s.heap a (.dK kvs) from I.hok a _ ea)
    obtain ⟨o, es, ep, h1, h2, _⟩ := p
    exact PySem.W.kia_one PySem.W.kitx_dict I.kIn ⟨o, h1, h2.1⟩ e (fun z => nomatch z) h
  | @dT a kvs ea =>
    cases (show u = Value.ref a from rx)
    obtain ⟨_, _, xs, _, o, es, ep, h1, h2, _⟩ := (show ObjOk X.prog X.w H s.heap a (.dT kvs) from I.hok a _ ea)
    exact PySem.W.kia_one PySem.W.kitx_dict I.kIn ⟨o, h1, h2.1⟩ e (fun z => nomatch z) h
  | @ins a C dx fs ea cl ha hn htk hm =>
    cases (show u = Value.ref a from rx)
    obtain ⟨mA, O, _⟩ := ins_get I.hok ea
    obtain ⟨od, J, _⟩ := O.look
    exact PySem.W.kia_one (PySem.W.kitx_own (cl.get _) cl.hd ha hn htk hm) I.kIn J e (fun z => nomatch z) h
end
end L2
namespace L2
open PySem PySem.Spec PyProof.Rows
structure Room (k : Nat) (A : Around) : Prop where
  hd : A.handled = none
  dp : A.depth + 3 * k + 5 < recursionLimit
  un : A.units + 16 * k + 200 < cLine
theorem Room.mono {j k : Nat} {A : Around} (r : Room k A) (h : j ≤ k) : Room j A := ⟨r.hd, by have := r.dp; omega, by have := r.un; omega⟩
theorem Room.deeper {k : Nat} {A : Around} (r : Room (k + 1) A) (env : Env) : Room k (A.deeper env) :=
  ⟨r.hd, by have := r.dp; show A.depth + 1 + 3 * k + 5 < _; omega, by have := r.un; show A.units + 3 + 16 * k + 200 < _; omega⟩
theorem Room.depth {k : Nat} {A : Around} (r : Room k A) : A.depth < recursionLimit := by have := r.dp; omega
theorem Room.units {k : Nat} {A : Around} (r : Room k A) : A.units + 64 < cLine := by have := r.un; omega
def tNil : TA := fun _ H Q => Q [] H
def tCons (ta : TE) (tr : TA) : TA := fun σ H Q => ta σ H fun x H1 => tr σ H1 fun xs H2 => Q (x :: xs) H2
section
variable {X : Cx} {e : Expr} {es : List Expr} {te : TE} {t : TA} {pos : Pos}
theorem pa_nil : PA X [] tNil := fun _ _ _ _ H Q I h => Calls.spliced_nil ⟨[], H, I, .nil, h⟩
theorem pa_cons (ha : PE X e te) (hr : PA X es t) (hs : starEach (e :: es) X.env = (false, eval e X.env) :: starEach es X.env := by rfl) : PA X (e :: es) (tCons te t) := by
  intro pos pins s σ H Q I h
  rw [hs]
  show wpAny _ _ (spliced ((false, eval e X.env) :: backTo pos (starEach es X.env))) _ _ s
  refine Calls.spliced_cons (thn (ha pins s σ H _ I h) fun u s1 ⟨x, H1, I1, r1, q1⟩ => ?_)
  exact thn (hr pos pins s1 σ H1 _ I1 q1) fun us s2 ⟨xs, H2, I2, r2, q2⟩ => ⟨x :: xs, H2, I2, .cons r1 r2, q2⟩
def tTup (t : TA) : TE := fun σ H Q => t σ H fun xs H1 => xs.length ≤ sizeLine ∧ ∀ p, H1 p = none → Q (.ref p) (upd H1 p (.tup xs))
def tLst (t : TA) : TE := fun σ H Q => t σ H fun xs H1 => xs.length ≤ sizeLine ∧ ∀ p, H1 p = none → Q (.ref p) (upd H1 p (.lst xs))
theorem pe_tup {x1} (h : PA X es t) : PE X (.Tuple es x1 pos) (tTup t) := by
  intro pins s σ H Q I hq
  refine wpAny_Tuple_spliced (thn (h pos pins s σ H _ I hq) fun us s1 ⟨xs, H1, I1, r, z, q⟩ => ⟨by rw [← r.length]; exact z, ?_⟩)
  have hf : H1 s1.heap.objs.size = none := I1.hok.fresh (Nat.le_refl _)
  refine ⟨.ref s1.heap.objs.size, upd H1 s1.heap.objs.size (.tup xs), I1.laid (t' := s1.toks) (fun b u e => Heap.get?_push_of_some _ e) (Nat.le_refl _) ?_, rfl, q _ hf⟩
  exact ⟨z, us, r, ⟨_, Heap.get?_push_size _ rfl, rfl, _, rfl⟩⟩
theorem pe_lst (h : PA X es t) : PE X (.List es pos) (tLst t) := by
  intro pins s σ H Q I hq
  refine wpAny_List_spliced (thn (h pos pins s σ H _ I hq) fun us s1 ⟨xs, H1, I1, r, z, q⟩ => ⟨by rw [← r.length]; exact z, ?_⟩)
  have hf : H1 s1.heap.objs.size = none := I1.hok.fresh (Nat.le_refl _)
  refine ⟨.ref s1.heap.objs.size, upd H1 s1.heap.objs.size (.lst xs), I1.laid (t' := s1.toks) (fun b u e => Heap.get?_push_of_some _ e) (Nat.le_refl _) ?_, rfl, q _ hf⟩
  exact ⟨z, us, 0, r, Heap.get?_push_size _ rfl⟩
end
abbrev Sp := List V → Hp → VK → XK → Prop
abbrev CXT := List Env → Hp → Shared → XK → Value → Shared → Prop
structure Env0 (P : Program) (w : World) (K : PySem.W.Frag) (mg : Str → Option Value) (base : Heap) (A : Around) (outer : List Env) (s : Shared) (H : Hp) : Prop where
  frames : A.frames = some outer
  mod : Mod K mg base
  bs : ∀ b o, base.get? b = some o → s.heap.get? b = some o ∧ H b = none
  bsz : base.objs.size ≤ s.heap.objs.size
  funs : s.heap.FunFrames base outer
  frf : ∀ b ∈ frs outer, H b = none
  hok : HOk P w H s.heap
  bare : AllBare s.gens
def CE (outer : List Env) (P : Program) (w : World) (H : Hp) (s : Shared) (Q : VK) (u : Value) (s' : Shared) : Prop :=
  ∃ v H', s'.os = s.os ∧ AllBare s'.gens ∧ Un (frs outer) [] H H' s.heap s'.heap ∧ HOk P w H' s'.heap ∧ RelV v u ∧ Q v H'
def CR (CX : CXT) (outer : List Env) (P : Program) (w : World) (H : Hp) (s : Shared) (Q : VK) (E : XK) (r : Result) (s' : Shared) : Prop :=
  match r with
  | .ok (.ret u) => CE outer P w H s Q u s'
  | .ok _ => False
  | .error e => CX outer H s E e s'
structure FnOk (P : Program) (w : World) (K : PySem.W.Frag) (mg : Str → Option Value) (base : Heap) (CX : CXT) (k : Nat) (f : Addr) (fd : FuncData) (ps : List Str) (sp : Sp) : Prop where
  len : ∀ vs H Q E, sp vs H Q E → vs.length = ps.length
  run : ∀ (A : Around) (outer : List Env) (s : Shared) (H : Hp) (args : Args) (us : List Value) (vs : List V) (Q : VK) (E : XK), Room k A → Env0 P w K mg base A outer s H → BindsTo s fd args (ps.zip us) → Vals vs us → sp vs H Q E →
    codeAny (model P w) A (.call (.ref f) args) (CR CX outer P w H s Q E) s
theorem FnOk.mono {P : Program} {w : World} {K : PySem.W.Frag} {mg : Str → Option Value} {base : Heap} {CX : CXT} {j k : Nat} {f : Addr} {fd : FuncData} {ps : List Str} {sp : Sp} (F : FnOk P w K mg base CX j f fd ps sp) (h : j ≤ k) :
    FnOk P w K mg base CX k f fd ps sp := ⟨F.len, fun A outer s H args us vs Q E hr => F.run A outer s H args us vs Q E (hr.mono h)⟩
section
variable {X : Cx} {pins : List (Addr × Obj)} {σ : St} {H : Hp} {s s' : Shared}
theorem Inv.env0 (I : Inv X pins σ H s) : Env0 X.prog X.w X.K X.mg X.base X.A X.stack s H :=
  ⟨I.ok.frames, I.ok.mod, I.bs, Nat.le_trans I.ok.bsz I.sz, I.stack, I.stkFree, I.hok, I.bare⟩
theorem Inv.after {Q : VK} {u : Value} (I : Inv X pins σ H s) (h : CE X.stack X.prog X.w H s Q u s') : EP X pins σ Q u s' := by
  obtain ⟨v, H', os, bare, un, hok, r, q⟩ := h
  obtain ⟨hh, g, d, t, os'⟩ := s'
  obtain rfl : os' = s.os := os
  exact ⟨v, H', I.call (h' := hh) (g' := g) (d' := d) (t' := t) (ch := []) un hok bare (fun b z => absurd z (by simp)), r, q⟩
end
def tCall (sp : Sp) (dvs : List V) (E : XK) (t : TA) : TE := fun σ H Q => t σ H fun vs H1 => sp (vs ++ dvs) H1 Q E
def Binds (K : PySem.W.Frag) (fd : FuncData) (ps : List Str) (ds : List Value) : Prop :=
  ∀ (s : Shared) (us : List Value), K.In s.heap → (us ++ ds).length = ps.length → BindsTo s fd ⟨us, []⟩ (ps.zip (us ++ ds))
theorem Binds.all {K : PySem.W.Frag} {fd : FuncData} {ps : List Str} (h : ∀ us : List Value, us.length = ps.length → bindArgs fd ⟨us, []⟩ = pure (ps.zip us)) : Binds K fd ps [] := fun s us _ hl => by
  rw [List.append_nil] at hl ⊢
  exact .of_eq (h us hl)
def Passes (CX : CXT) (X : Cx) (E : XK) : Prop := ∀ (pins : List (Addr × Obj)) (σ : St) (H : Hp) (s : Shared) (e : Value) (s' : Shared), Inv X pins σ H s → CX X.stack H s E e s' → X.xe e s'
section
variable {X : Cx} {CX : CXT} {k : Nat} {f C : Addr} {fd : FuncData} {ps : List Str} {sp : Sp} {dvs : List V} {ds : List Value} {E : XK} {x m : Str} {p pos apos : Pos} {e o : Expr} {es : List Expr} {ta : TE} {t : TA}
theorem run_fn {pins : List (Addr × Obj)} {σ : St} {H : Hp} {s : Shared} {Q : VK} {us : List Value} {vs : List V} (F : FnOk X.prog X.w X.K X.mg X.base CX k f fd ps sp) (hr : Room k X.A) (hb : Binds X.K fd ps ds) (hd : Vals dvs ds) (hx : Passes CX X E)
    (I : Inv X pins σ H s) (r : Vals vs us) (h : sp (vs ++ dvs) H Q E) : wpAny (model X.prog X.w) X.A (call (.ref f) us) (EP X pins σ Q) X.xe s := by
  have r2 : Vals (vs ++ dvs) (us ++ ds) := r.append hd
  have hl : (us ++ ds).length = ps.length := by rw [← r2.length]; exact F.len _ _ _ _ h
  refine wpAny_call (codeAny_mono (F.run X.A X.stack s H ⟨us, []⟩ (us ++ ds) (vs ++ dvs) Q E hr I.env0 (hb s us I.kIn hl) r2 h) fun r s' hq => ?_)
  cases r with
  | error e => exact hx pins σ H s e s' I hq
  | ok fl =>
    cases fl with
    | ret u => exact I.after hq
    | next => exact False.elim hq
    | brk => exact False.elim hq
    | cont => exact False.elim hq
theorem pe_call (F : FnOk X.prog X.w X.K X.mg X.base CX k f fd ps sp) (hr : Room k X.A) (hg : Gl X x) (hm : X.mg x = some (.ref f)) (hk : PySem.W.keepIn X.K (.ref f) = true) (hb : Binds X.K fd ps ds) (hd : Vals dvs ds) (hx : Passes CX X E)
    (ha : PA X (e :: es) t) (hdb : (x == ("__debug__" : Str)) = false := by decide) (he : starEach (e :: es) X.env = (false, eval e X.env) :: starEach es X.env := by rfl) (hpl : (backTo pos (starEach es X.env)).any (·.1) = false := by rfl) :
    PE X (.Call (.Name x p) (e :: es) [] pos) (tCall sp dvs E t) := by
  intro pins s σ H Q I h
  refine wpAny_Call_Name_kw (ld_glob I hg hm ?_ hdb)
  refine PySem.W.callWith_K (h₀ := X.base) I.ok.mod.kin hk (thn (ha pos pins s σ H _ I h) fun us s1 ⟨vs, H1, I1, r, q⟩ => ⟨I1.kIn, ?_⟩) he hpl
  exact run_fn F hr hb hd hx I1 r q
end
section
variable {X : Cx} {CX : CXT} {k : Nat} {f C : Addr} {fd : FuncData} {ps ks : List Str} {sp : Sp} {E : XK} {x m : Str} {p pos apos kpos : Pos} {e o : Expr} {es : List Expr} {kws : List Keyword} {te ta : TE} {t tk : TA} {nm : Option Str}
variable {g : List Value → List Value → List Value} {gV : List V → List V → List V}
end
structure FnScope (N P : List Str) (sc : Scope) : Prop where
  kind : sc.kind = .function
  co : sc.isCoroutine = false
  gen : sc.isGenerator = false
  nd : N.Nodup
  pre : N.take P.length = P
  par : ∀ x ∈ P, sc.names.lookup x = some .local ∨ sc.names.lookup x = some .cell
  nofree : ∀ y ∈ sc.names, y.2 ≠ .free
theorem bindL_out {kindOf : Str → Option NameKind} {x : Str} : ∀ {binds : List (Str × Value)} {m : Str → Option Value}, (∀ v, (x, v) ∉ binds) → bindL kindOf binds m x = m x
  | [], _, _ => rfl
  | (n, v) :: r, m, h => by
    unfold bindL
    rw [bindL_out fun w hw => h w (List.mem_cons_of_mem _ hw)]
    split
    · have : x ≠ n := by rintro rfl; exact h v List.mem_cons_self
      simp [this]
    · rfl
theorem bindC_out {kindOf : Str → Option NameKind} {x : Str} : ∀ {binds : List (Str × Value)} {m : Str → Option Value}, (∀ v, (x, v) ∉ binds) → bindC kindOf binds m x = m x
  | [], _, _ => rfl
  | (n, v) :: r, m, h => by
    unfold bindC
    rw [bindC_out fun w hw => h w (List.mem_cons_of_mem _ hw)]
    split
    · rfl
    · have : x ≠ n := by rintro rfl; exact h v List.mem_cons_self
      simp [this]
theorem bindL_get {kindOf : Str → Option NameKind} {x : Str} {v : Value} : ∀ {P : List Str} {vs : List Value} {i : Nat} {m : Str → Option Value}, P.Nodup → P[i]? = some x → vs[i]? = some v → kindOf x = some .local →
    bindL kindOf (P.zip vs) m x = some v
  | [], _, _, _, _, h, _, _ => by simp at h
  | _ :: _, [], _, _, _, _, h, _ => by simp at h
  | p :: P, w :: vs, 0, m, nd, h1, h2, hk => by
    simp at h1 h2; subst h1; subst h2
    show bindL kindOf ((p, w) :: P.zip vs) m p = _
    unfold bindL
    rw [bindL_out fun v hv => (List.nodup_cons.mp nd).1 (List.of_mem_zip hv).1, if_pos hk]
    simp
  | p :: P, w :: vs, i + 1, m, nd, h1, h2, hk => by
    show bindL kindOf ((p, w) :: P.zip vs) m x = _
    unfold bindL
    exact bindL_get (i := i) (List.nodup_cons.mp nd).2 (by simpa using h1) (by simpa using h2) hk
theorem bindC_get {kindOf : Str → Option NameKind} {x : Str} {v : Value} : ∀ {P : List Str} {vs : List Value} {i : Nat} {m : Str → Option Value}, P.Nodup → P[i]? = some x → vs[i]? = some v → kindOf x ≠ some .local →
    bindC kindOf (P.zip vs) m x = some v
  | [], _, _, _, _, h, _, _ => by simp at h
  | _ :: _, [], _, _, _, _, h, _ => by simp at h
  | p :: P, w :: vs, 0, m, nd, h1, h2, hk => by
    simp at h1 h2; subst h1; subst h2
    show bindC kindOf ((p, w) :: P.zip vs) m p = _
    unfold bindC
    rw [bindC_out fun v hv => (List.nodup_cons.mp nd).1 (List.of_mem_zip hv).1, if_neg hk]
    simp
  | p :: P, w :: vs, i + 1, m, nd, h1, h2, hk => by
    show bindC kindOf ((p, w) :: P.zip vs) m x = _
    unfold bindC
    exact bindC_get (i := i) (List.nodup_cons.mp nd).2 (by simpa using h1) (by simpa using h2) hk
def start (N : List Str) (vs : List V) : St := vs.map some ++ List.replicate (N.length - vs.length) none
def cxOf (CX : CXT) (P : Program) (w : World) (K : PySem.W.Frag) (mg : Str → Option Value) (base : Heap) (N : List Str) (qual : Str) (scope : Scope) (f : Addr) (cd : Value) (A : Around) (outer : List Env) (s : Shared) (H : Hp) (E : XK) : Cx where
  prog := P
  w := w
  K := K
  mg := mg
  base := base
  A := A.deeper (envOfC qual scope s.heap.objs.size f cd)
  N := N
  s₀ := s
  H₀ := H
  env := envOfC qual scope s.heap.objs.size f cd
  outer := outer
  stack := envOfC qual scope s.heap.objs.size f cd :: outer
  ex := []
  calm := true
  fn := fun _ => true
  pn := []
  xe := fun e s' => wpAny (model P w) (A.deeper (envOfC qual scope s.heap.objs.size f cd)) (leaving (envOfC qual scope s.heap.objs.size f cd) e) (fun _ s'' => CX outer H s E e s'') (fun e' s'' => CX outer H s E e' s'') s'
theorem cell_has {sc : Scope} {n : Nat} {x : Str} (h : sc.names.lookup x = some .cell) : ∃ c, (cellsFrom n sc.names []).lookup x = some c := by
  have q := PySem.W.cellsFrom_some sc.names n [] (.inl h)
  exact Option.isSome_iff_exists.mp q
theorem inv_start {CX : CXT} {P : Program} {w : World} {K : PySem.W.Frag} {mg : Str → Option Value} {base : Heap} {N ps : List Str} {qual : Str} {scope : Scope} {f : Addr} {cd : Value} {A : Around} {outer : List Env} {s s1 : Shared} {H : Hp} {E : XK} {us : List Value} {vs : List V}
    (S : FnScope N ps scope) (hd : A.handled = none) (e0 : Env0 P w K mg base A outer s H) (hl : vs.length = ps.length) (r : Vals vs us)
    (x : InCallC s s.heap.objs.size (bindL (envOfC qual scope s.heap.objs.size f cd).kindOf (ps.zip us) fun _ => none) (cellsFrom (s.heap.objs.size + 1) scope.names []) (bindC (envOfC qual scope s.heap.objs.size f cd).kindOf (ps.zip us) fun _ => none) s1) :
    Inv (cxOf CX P w K mg base N qual scope f cd A outer s H E) [] (start N vs) H s1 := by
  have hpl : ps.length ≤ N.length := by have := congrArg List.length S.pre; rw [List.length_take] at this; omega
  obtain ⟨h1, tk, rfl, hk⟩ := x.done
  have noA : ∀ b : Addr, b ∉ (cxOf CX P w K mg base N qual scope f cd A outer s H E).ex := fun b z => absurd (show b ∈ ([] : List Addr) from z) (by simp)
  refine ⟨⟨e0.mod, S.kind, rfl, rfl, Nat.le_refl _, fun y z c h1 h2 => ?_, fun y hy => ?_, fun y c _ h => ?_, fun _ => hd, Around.frames_deeper e0.frames, .inr ⟨rfl, rfl⟩, fun b z => absurd z (noA b), e0.bs, e0.bsz, fun b _ _ => noA b, fun b z => absurd z (noA b), e0.funs, e0.frf⟩,
    rfl, e0.bare, Un.kept hk, ⟨_, x.toInCall.ns, fun i y v h1 h2 h3 => ?_⟩, fun y c h => ⟨_, x.cell y c h⟩, e0.hok.fresh (Nat.le_refl _), fun y c h => ?_, fun p hp => absurd (show p ∈ ([] : List (Addr × Obj)) from hp) (by simp), e0.hok.kept hk, ?_⟩
  · exact name_of_addr x.apart (PySem.mem_of_lookup h1) (PySem.mem_of_lookup h2)
  · have hy : scope.names.lookup y = some .cell ∨ scope.names.lookup y = some .free := hy
    rcases hy with hy | hy
    · exact cell_has hy
    · exact absurd rfl (S.nofree _ (PySem.mem_of_lookup hy))
  · exact Nat.le_of_lt (x.above y c (PySem.mem_of_lookup h))
  · have hi : i < vs.length := by
      unfold start at h2
      by_cases hi : i < vs.length
      · exact hi
      · rw [List.getElem?_append_right (by simpa using hi)] at h2
        rw [List.getElem?_replicate] at h2
        split at h2 <;> cases h2
    have ha : vs[i]? = some v := by
      unfold start at h2
      rw [List.getElem?_append_left (by simpa using hi), List.getElem?_map] at h2
      cases e : vs[i]? with
      | none => rw [e] at h2; cases h2
      | some a => rw [e] at h2; cases h2; rfl
    obtain ⟨u, hu, rv⟩ := r.get ha
    have hp : ps[i]? = some y := by
      rw [← S.pre, List.getElem?_take_of_lt (by omega)]; exact h1
    have ndP : ps.Nodup := by rw [← S.pre]; exact S.nd.sublist (List.take_sublist _ _)
    refine ⟨u, rv, ?_⟩
    rcases S.par y (List.mem_of_getElem? hp) with k | k
    · exact .inl ⟨k, bindL_get ndP hp hu k⟩
    · obtain ⟨c, e⟩ := cell_has (n := s.heap.objs.size + 1) k
      refine .inr ⟨.inl k, c, e, ?_⟩
      have q := x.cell y c e
      rw [bindC_get ndP hp hu (by show scope.names.lookup y ≠ _; rw [k]; decide)] at q
      exact q
  · exact e0.hok.fresh (Nat.le_of_lt (x.above y c (PySem.mem_of_lookup h)))
  · unfold start
    show _ = N.length
    rw [List.length_append, List.length_map, List.length_replicate]
    omega
theorem fn_of {CX : CXT} {P : Program} {w : World} {K : PySem.W.Frag} {mg : Str → Option Value} {base : Heap} {k : Nat} {f : Addr} {name qual : Str} {params : Arguments} {body : List Stmt} {scope : Scope} {dV kV doc pm cdv ct oc : Value} {an od : Option Addr}
    {osl : Array (Option Value)} {N ps : List Str} {sp : Sp} (lk : K.lookup f = some ⟨oc, od, .func (PySem.W.fnOf name qual params body scope dV kV doc pm an cdv ct), osl⟩) (hcd : PySem.W.codeIn K cdv qual = true) (S : FnScope N ps scope)
    (len : ∀ vs H Q E, sp vs H Q E → vs.length = ps.length)
    (hbody : ∀ (A : Around) (outer : List Env) (s : Shared) (H : Hp) (vs : List V) (Q : VK) (E : XK), Room k (A.deeper (envOfC qual scope s.heap.objs.size f cdv)) → sp vs H Q E →
      ∃ t, PSs (cxOf CX P w K mg base N qual scope f cdv A outer s H E) body t ∧ t { nx := fun _ H' => Q .non H', rt := Q } (start N vs) H) :
    FnOk P w K mg base CX (k + 1) f (PySem.W.fnOf name qual params body scope dV kV doc pm an cdv ct) ps sp := by
  refine ⟨len, fun A outer s H args us vs Q E hr e0 hb r hsp => ?_⟩
  have hl := len _ _ _ _ hsp
  have KX : K.In s.heap := e0.mod.kin.keeps fun b o e => (e0.bs b o e).1
  have lim : s.heap.NoLimit := e0.mod.nolimit.keeps fun b o e => (e0.bs b o e).1
  have hkind : ∀ y ∈ ps.zip us, scope.names.lookup y.1 = some .local ∨ (scope.names.lookup y.1 = some .cell ∧ ((cellsFrom (s.heap.objs.size + 1) scope.names []).lookup y.1).isSome = true) := fun ⟨n, v⟩ hy => by
    rcases S.par n (List.of_mem_zip hy).1 with q | q
    · exact .inl q
    · exact .inr ⟨q, PySem.W.cellsFrom_some _ _ _ (.inl q)⟩
  refine codeAny_call_function hr.depth (KX _ _ lk) rfl S.co S.gen rfl (PySem.W.codeRec_of KX hcd) (hb _ _ _ _ ?_)
  refine wpAny_newFunctionEnv_cells S.kind hkind fun env he s1 x => ?_
  subst he
  refine ⟨lim.keeps x.toInCall.keep, codeAny_func ?_⟩
  obtain ⟨t, ht, hq⟩ := hbody A outer s H vs Q E (hr.deeper _) hsp
  have I : Inv (cxOf CX P w K mg base N qual scope f cdv A outer s H E) [] (start N vs) H s1 := inv_start S hr.hd e0 hl r x
  refine wpAny_mono (ht [] s1 (start N vs) H _ I hq) (fun fl s' hs => ?_) fun e s' hs => hs
  have fin : ∀ {σ' : St} {H' : Hp} {v : V} {u : Value}, Inv (cxOf CX P w K mg base N qual scope f cdv A outer s H E) [] σ' H' s' → RelV v u → Q v H' → CE outer P w H s Q u s' :=
    fun {σ' H' v u} J rv q => ⟨v, H', J.os, J.bare, J.base, J.hok, rv, q⟩
  cases fl with
  | ret u =>
    obtain ⟨v, σ', H', J, rv, q⟩ := hs
    exact fin J rv q
  | next =>
    obtain ⟨σ', H', J, q⟩ := hs
    exact fin (v := V.non) (u := Value.none) J rfl q
  | brk =>
    obtain ⟨_, _, _, q⟩ := hs
    exact False.elim q
  | cont =>
    obtain ⟨_, _, _, q⟩ := hs
    exact False.elim q
end L2
namespace L2
open PySem PySem.Spec PyProof.Rows
section
variable {X : Cx} {x : Str} {p pos : Pos} {e : Expr} {es : List Expr} {t : TA} {id T : String} {r : List V → Hp → VK → Prop}
def tCB (r : List V → Hp → VK → Prop) (t : TA) : TE := fun σ H Q => t σ H fun vs H1 => r vs H1 Q
theorem pe_callB (hc : CallR X (.builtin id) r) (hg : Gl X x) (hm : X.mg x = none) (hv : bootBuiltins x = some (.builtin id)) (ha : PA X (e :: es) t) (hn : x ≠ "__name__" := by decide) (hdb : (x == ("__debug__" : Str)) = false := by decide)
    (he : starEach (e :: es) X.env = (false, eval e X.env) :: starEach es X.env := by rfl) (hpl : (backTo pos (starEach es X.env)).any (·.1) = false := by rfl) : PE X (.Call (.Name x p) (e :: es) [] pos) (tCB r t) := by
  intro pins s σ H Q I h
  refine wpAny_Call_Name_kw (ld_blt I hg hm hv ?_ hn hdb)
  exact PyProof.Rows.callWith_builtin1 (thn (ha pos pins s σ H _ I h) fun us s1 ⟨vs, H1, I1, r1, q1⟩ => hc pins s1 σ H1 vs us Q I1 r1 q1) he hpl
theorem pe_callTy (hc : CallR X (.type T) r) (hg : Gl X x) (hm : X.mg x = none) (hv : bootBuiltins x = some (.type T)) (ha : PA X (e :: es) t) (hn : x ≠ "__name__" := by decide) (hdb : (x == ("__debug__" : Str)) = false := by decide)
    (he : starEach (e :: es) X.env = (false, eval e X.env) :: starEach es X.env := by rfl) (hpl : (backTo pos (starEach es X.env)).any (·.1) = false := by rfl) : PE X (.Call (.Name x p) (e :: es) [] pos) (tCB r t) := by
  intro pins s σ H Q I h
  refine wpAny_Call_Name_kw (ld_blt I hg hm hv ?_ hn hdb)
  exact PyProof.Rows.callWith_type1 (thn (ha pos pins s σ H _ I h) fun us s1 ⟨vs, H1, I1, r1, q1⟩ => hc pins s1 σ H1 vs us Q I1 r1 q1) he hpl
end
end L2
namespace HT
open PySem PyProof.Rows
section
open PySem.SeqAt
open PySem.AutoSeq1 (wpAny_loadPart')
open PySem.MeetsSeq PySem.MeetsSeq2 PySem.MeetsSeq3
end
section
variable {prog : Program} {w : World} {A : Around} {E : Value → Shared → Prop} {s : Shared}
theorem cat_tup {t b : Addr} {vs ws : List Value} {Q : Value → Shared → Prop} (ht : IsTup s.heap t vs.toArray) (hb : IsTup s.heap b ws.toArray) (hv : vs ≠ [])
    (h1 : ws = [] → Q (.ref t) s) (h2 : ws ≠ [] → Q (.ref s.heap.objs.size) { s with heap := s.heap.push { cls := .type "tuple", data := .seq (vs ++ ws).toArray } })
    (hsz : vs.length + ws.length ≤ sizeLine) : wpAny (model prog w) A (binaryOp .Add (.ref t) (.ref b)) Q E s := by
  obtain ⟨⟨cls, dd, data, sl⟩, ho, hc, n, hd⟩ := id ht
  obtain ⟨⟨cls2, dd2, data2, sl2⟩, ho2, hc2, n2, hd2⟩ := id hb
  simp only at hc hd hc2 hd2
  subst hc hd hc2 hd2
  have e : vs.toArray ++ ws.toArray = (vs ++ ws).toArray := by simp
  by_cases hw : ws = []
  · exact concat_meets ⟨_, ho, rfl⟩ ⟨_, ho2, rfl⟩ noFill_tuple_add seq_tuple_add PySem.F.slot_tuple_add PySem.F.entry_tuple_add (PySem.F.args_tuple_add_2 _ _)
      (tuple_addW1 t b vs.toArray ws.toArray n n2 dd dd2 sl sl2 (by simpa using hv) (by simp [hw])) ⟨ho, ho2, h1 hw⟩
  · refine concat_meets ⟨_, ho, rfl⟩ ⟨_, ho2, rfl⟩ noFill_tuple_add seq_tuple_add PySem.F.slot_tuple_add PySem.F.entry_tuple_add (PySem.F.args_tuple_add_2 _ _)
      (tuple_addW2 t b vs.toArray ws.toArray n n2 dd dd2 sl sl2 (by simpa using hv) (by simpa using hw) (by rw [List.size_toArray, List.size_toArray]; exact hsz)) ⟨ho, ho2, ?_⟩
    rw [e]
    exact h2 hw
def sIx (n d : Nat) : Option Int → Nat
  | none => d
  | some v => if v < 0 then (v + (n : Int)).toNat else min v.toNat n
theorem sIx_none (n d : Nat) : sIx n d none = d := rfl
theorem sIx_nat (n d k : Nat) : sIx n d (some (k : Int)) = min k n := by
  show (if (k : Int) < 0 then ((k : Int) + (n : Int)).toNat else min (k : Int).toNat n) = min k n
  rw [if_neg (by omega), Int.toNat_natCast]
end
end HT
namespace L2
open PySem PySem.Spec PyProof.Rows
abbrev TO := St → Hp → (Option Int → Hp → Prop) → Prop
def PO (X : Cx) (e : Option Expr) (t : TO) : Prop :=
  ∀ (pins : List (Addr × Obj)) (s : Shared) (σ : St) (H : Hp) (Q : Option Int → Hp → Prop), Inv X pins σ H s → t σ H Q →
    wpAny (model X.prog X.w) X.A (evalPart e X.env) (fun u s' => ∃ o H', Inv X pins σ H' s' ∧ IsPart u o ∧ Q o H') X.xe s
def tNoPart : TO := fun _ H Q => Q none H
def tPart (t : TE) : TO := fun σ H Q => t σ H fun x H1 => ∃ i, x = .int i ∧ Q (some i) H1
section
variable {X : Cx} {e : Expr} {te : TE} {lo hi : Option Expr} {tl th : TO} {pos p2 : Pos}
theorem po_none : PO X none tNoPart := by
  intro pins s σ H Q I h
  rw [evalPart_none]
  exact wpAny_pure ⟨none, H, I, .none, h⟩
theorem po_some (h : PE X e te) : PO X (some e) (tPart te) := by
  intro pins s σ H Q I hw
  rw [evalPart_some]
  refine thn (h pins s σ H _ I hw) fun u s1 ⟨x, H1, I1, r1, q1⟩ => ?_
  obtain ⟨i, rfl, q⟩ := q1
  obtain ⟨t, rfl⟩ := r1
  exact ⟨some i, H1, I1, .int i t, q⟩
def SlR (X : Cx) (r : V → Option Int → Option Int → Hp → VK → Prop) : Prop :=
  ∀ (pins : List (Addr × Obj)) (s : Shared) (σ : St) (H : Hp) (x : V) (v vl vu : Value) (lo hi : Option Int) (sl : Addr) (Q : VK), Inv X pins σ H s → RelV x v → s.heap.IsSliceOf sl vl vu .none → IsPart vl lo → IsPart vu hi → r x lo hi H Q →
    ∃ T id, typeLookup (.type T) "__getitem__" = pure (some (.builtin id)) ∧ s.TypeIs v T ∧ wpAny (model X.prog X.w) X.A (getItem v (.ref sl)) (EP X pins σ Q) X.xe s
def tSl (r : V → Option Int → Option Int → Hp → VK → Prop) (te : TE) (tl th : TO) : TE := fun σ H Q => te σ H fun x H1 => tl σ H1 fun l H2 => th σ H2 fun u H3 => r x l u H3 Q
theorem pe_slice {r : V → Option Int → Option Int → Hp → VK → Prop} (hr : SlR X r) (he : PE X e te) (hl : PO X lo tl) (hu : PO X hi th) : PE X (.Subscript e (.Slice lo hi none p2) pos) (tSl r te tl th) := by
  intro pins s σ H Q I h
  refine Subscript_ (thn (he pins s σ H _ I h) fun v s1 ⟨x, H1, I1, r1, q1⟩ => ?_)
  refine wpAny_Slice (thn (hl pins s1 σ H1 _ I1 q1) fun vl s2 ⟨l, H2, I2, pl, q2⟩ => thn (hu pins s2 σ H2 _ I2 q2) fun vu s3 ⟨u, H3, I3, pu, q3⟩ => ?_)
  rw [evalPart_none]
  refine wpAny_pure ?_
  have I4 : Inv X pins σ H3 { s3 with heap := s3.heap.push { cls := .type "slice", data := .fields #[vl, vu, .none] } } := I3.kept (t' := s3.toks) fun b ob q => Heap.get?_push_of_some _ q
  obtain ⟨T, id, hT, ht, hg⟩ := hr pins { s3 with heap := s3.heap.push { cls := .type "slice", data := .fields #[vl, vu, .none] } } σ H3 x v vl vu l u s3.heap.objs.size Q I4 r1 (Heap.IsSliceOf.new ..) pl pu q3
  show wpAny (model X.prog X.w) X.A (subscriptTail e (.Slice lo hi none p2) v (.ref s3.heap.objs.size)) (EP X pins σ Q) X.xe { s3 with heap := s3.heap.push { cls := .type "slice", data := .fields #[vl, vu, .none] } }
  exact tail_any (ops := [.ref s3.heap.objs.size, v]) ht hT hg (by with_unfolding_all rfl)
def cutV (xs : List V) (lo hi : Option Int) : List V := (xs.drop (HT.sIx xs.length 0 lo)).take (HT.sIx xs.length xs.length hi - HT.sIx xs.length 0 lo)
theorem cutV_length (xs : List V) (lo hi : Option Int) : (cutV xs lo hi).length ≤ xs.length := by
  unfold cutV
  rw [List.length_take, List.length_drop]
  omega
theorem Vals.nil_iff {xs : List V} {us : List Value} (r : Vals xs us) : us = [] ↔ xs = [] := by
  cases r with
  | nil => simp
  | cons _ _ => simp
end
end L2
namespace L2
open PySem PySem.Spec PyProof.Rows
def ixN (n : Nat) (i : Int) : Option Nat := if 0 ≤ i then (if i < n then some i.toNat else none) else if -(n : Int) ≤ i then some (i + n).toNat else none
def atI {α : Type} (xs : List α) (i : Int) : Option α := (ixN xs.length i).bind fun j => xs[j]?
theorem ixN_seq {n : Nat} {i : Int} {j : Nat} (h : ixN n i = some j) : seqIndex? i n = some j ∧ j < n ∧ -(n : Int) ≤ i ∧ i < n := by
  unfold ixN at h
  by_cases h0 : 0 ≤ i
  · rw [if_pos h0] at h
    by_cases h1 : i < n
    · rw [if_pos h1] at h
      have e : i.toNat = j := Option.some.inj h
      exact ⟨by rw [seqIndex_of h0 h1, e], by omega, by omega, h1⟩
    · rw [if_neg h1] at h; cases h
  · rw [if_neg h0] at h
    by_cases h1 : -(n : Int) ≤ i
    · rw [if_pos h1] at h
      have e : (i + n).toNat = j := Option.some.inj h
      exact ⟨by rw [seqIndex_neg (by omega) h1, e], by omega, h1, by omega⟩
    · rw [if_neg h1] at h; cases h
theorem atI_get {α : Type} {xs : List α} {i : Int} {v : α} (h : atI xs i = some v) : ∃ j, seqIndex? i xs.length = some j ∧ xs[j]? = some v ∧ j < xs.length ∧ -(xs.length : Int) ≤ i ∧ i < xs.length := by
  unfold atI at h
  cases e : ixN xs.length i with
  | none => rw [e] at h; cases h
  | some j =>
    rw [e] at h
    obtain ⟨h1, h2, h3, h4⟩ := ixN_seq e
    exact ⟨j, h1, h, h2, h3, h4⟩
theorem atI_nat {α : Type} {xs : List α} {j : Nat} {v : α} (h : xs[j]? = some v) : atI xs (j : Int) = some v := by
  have hj : j < xs.length := (List.getElem?_eq_some_iff.mp h).1
  have e : ixN xs.length (j : Int) = some j := by
    unfold ixN
    rw [if_pos (by omega), if_pos (by omega)]; simp
  unfold atI; rw [e]; exact h
def PlainIx (b : Expr) : Prop := ∀ o i, subscripted b false o i = operate [o, i] (getItem o i)
def IxR (X : Cx) (r : R2) : Prop :=
  ∀ (value slice : Expr) (pins : List (Addr × Obj)) (s : Shared) (σ : St) (H : Hp) (x y : V) (v u : Value) (Q : VK), Inv X pins σ H s → RelV x v → RelV y u → r x y H Q →
    subscripted slice false v u = operate [v, u] (getItem v u) → wpAny (model X.prog X.w) X.A (subscriptTail value slice v u) (EP X pins σ Q) X.xe s
def MtR (X : Cx) (id : String) (r : V → List V → Hp → VK → Prop) : Prop :=
  ∀ (pins : List (Addr × Obj)) (s : Shared) (σ : St) (H : Hp) (x : V) (xs : List V) (v : Value) (us : List Value) (Q : VK), Inv X pins σ H s → RelV x v → Vals xs us → r x xs H Q →
    wpAny (model X.prog X.w) X.A (call (.builtin id) (v :: us)) (EP X pins σ Q) X.xe s
section
variable {X : Cx} {a b : Expr} {ta tb : TE} {pos : Pos}
theorem pe_ix {r : R2} (hr : IxR X r) (ha : PE X a ta) (hb : PE X b tb) (hs : PlainIx b) : PE X (.Subscript a b pos) (tOp r ta tb) := by
  intro pins s σ H Q I h
  exact Subscript_ (binT ha hb I h fun v u s2 x y H2 I2 rx ry q => hr a b pins s2 σ H2 x y v u Q I2 rx ry q (hs _ _))
def rIxL (K : PySem.W.Frag) : R2 := fun x y H Q => ∃ p xs i v, x = .ref p ∧ y = .int i ∧ SqL K H p xs ∧ atI xs i = some v ∧ Q v H
def rIxT (K : PySem.W.Frag) : R2 := fun x y H Q => ∃ p xs i v, x = .ref p ∧ y = .int i ∧ SqT K H p xs ∧ atI xs i = some v ∧ Q v H
theorem ix_list : IxR X (rIxL X.K) := by
  intro value slice pins s σ H x y v u Q I rx ry h hs
  obtain ⟨p, xs, i, z, rfl, rfl, hq, he, q⟩ := h
  cases rx
  obtain ⟨t, rfl⟩ := ry
  obtain ⟨its, r, pl, hz⟩ := I.list hq
  obtain ⟨j, h1, h2, h3, h4, h5⟩ := atI_get he
  obtain ⟨w, ew, rw'⟩ := r.get h2
  have hl := r.length
  have hn := line63
  have fin : EP X pins σ Q w s := ⟨z, H, I, rw', q⟩
  by_cases h0 : 0 ≤ i
  · have hj : i.toNat = j := by
      rw [seqIndex_of h0 h5] at h1
      exact Option.some.inj h1
    exact item_listR pl.isList h0 (by omega) (by rw [hj]; simpa using ew) fin hs
  · have hj : (i + (its.toArray.size : Int)).toNat = j := by
      rw [seqIndex_neg (by omega) h4] at h1
      rw [List.size_toArray, ← hl]
      exact Option.some.inj h1
    exact subscriptTail_builtinR (x := w) pl.isList.typeIs slot_list_getitem.lookup
      (wpAny_getItem_list_neg (Q := fun r s' => r = w ∧ EP X pins σ Q r s') pl.isList (by omega) (by rw [List.size_toArray] <;> omega) (by omega) (by rw [hj]; simpa using ew) ⟨rfl, fin⟩) hs
theorem ix_tup : IxR X (rIxT X.K) := by
  intro value slice pins s σ H x y v u Q I rx ry h hs
  obtain ⟨p, xs, i, z, rfl, rfl, hq, he, q⟩ := h
  cases rx
  obtain ⟨t, rfl⟩ := ry
  obtain ⟨its, r, pl, hz⟩ := I.tuple hq
  obtain ⟨j, h1, h2, h3, h4, h5⟩ := atI_get he
  obtain ⟨w, ew, rw'⟩ := r.get h2
  have hl := r.length
  have hn := line63
  have fin : EP X pins σ Q w s := ⟨z, H, I, rw', q⟩
  exact subscriptTail_builtinR (x := w) pl.typeIs slot_tuple_getitem.lookup
    (getItem_tuple (j := j) (Q := fun r s' => r = w ∧ EP X pins σ Q r s') pl (by omega) (by omega) (by rw [List.size_toArray, ← hl]; exact h1) (by simpa using ew) ⟨rfl, fin⟩) hs
theorem slice_bounds (lo hi : Option Int) (n : Nat) : (sliceBounds lo hi none n).1 = ((HT.sIx n 0 lo : Nat) : Int) ∧ (sliceBounds lo hi none n).2.1 = ((HT.sIx n n hi : Nat) : Int) ∧ (sliceBounds lo hi none n).2.2 = 1 := by
  refine ⟨?_, ?_, rfl⟩
  · cases lo with
    | none => simp [sliceBounds, HT.sIx]
    | some i =>
      simp only [sliceBounds, HT.sIx, Option.getD_none, show (1 : Int) > 0 by decide, if_true]
      by_cases h : i < 0
      · simp only [h, if_true] <;> omega
      · simp only [h, if_false] <;> omega
  · cases hi with
    | none => simp [sliceBounds, HT.sIx]
    | some i =>
      simp only [sliceBounds, HT.sIx, Option.getD_none, show (1 : Int) > 0 by decide, if_true]
      by_cases h : i < 0
      · simp only [h, if_true] <;> omega
      · simp only [h, if_false] <;> omega
theorem slicePick_cut (its : List Value) (lo hi : Option Int) : slicePick its.toArray lo hi none = ((its.drop (HT.sIx its.length 0 lo)).take (HT.sIx its.length its.length hi - HT.sIx its.length 0 lo)).toArray := by
  obtain ⟨h1, h2, h3⟩ := slice_bounds lo hi its.toArray.size
  unfold slicePick
  rw [h1, h2, h3]
  simp only [sliceRange_one, pick_run, List.size_toArray] <;> rfl
def rSlL (K : PySem.W.Frag) : V → Option Int → Option Int → Hp → VK → Prop := fun x lo hi H Q => ∃ a xs, x = .ref a ∧ SqL K H a xs ∧ ∀ p, H p = none → Q (.ref p) (upd H p (.lst (cutV xs lo hi)))
theorem sl_list : SlR X (rSlL X.K) := by
  intro pins s σ H x v vl vu lo hi sl Q I rx hs pl pu h
  obtain ⟨a, xs, rfl, hx, q⟩ := h
  cases rx
  obtain ⟨its, r, ht, hz⟩ := I.list hx
  have hlen := r.length
  refine ⟨"list", _, slot_list_getitem.lookup, ht.isList.typeIs, ?_⟩
  refine wpAny_getItem_list_slice ht.isList hs pl pu .none (by simp) ?_ (by rw [List.size_toArray] <;> omega)
  rw [slicePick_cut, ← hlen]
  refine ⟨.ref s.heap.objs.size, _, I.laid (t' := s.toks) (o := .lst (cutV xs lo hi)) (fun b ob q => Heap.get?_push_of_some _ q) (Nat.le_refl _) ?_, rfl, q _ (I.hok.fresh (Nat.le_refl _))⟩
  exact ⟨Nat.le_trans (cutV_length xs lo hi) hz, _, 0, (r.drop (HT.sIx xs.length 0 lo)).take (HT.sIx xs.length xs.length hi - HT.sIx xs.length 0 lo), Heap.get?_push_size _ rfl⟩
def flatV : V → Bool
  | .non => true
  | .bl _ => true
  | .int _ => true
  | .str _ => true
  | _ => false
def eqV : V → V → Bool
  | .non, .non => true
  | .bl a, .bl b => a == b
  | .bl a, .int b => (if a then 1 else 0) == b
  | .int a, .bl b => a == (if b then 1 else 0)
  | .int a, .int b => a == b
  | .str a, .str b => a == b
  | _, _ => false
theorem eqAt_V {A : Around} {s : Shared} {y x : V} {u v : Value} (ry : RelV y u) (rx : RelV x v) (fy : flatV y = true) (fx : flatV x = true) : SeqAt.EqAt A s u v (eqV y x) := by
  cases y with
  | non =>
    cases ry
    cases x with
    | non => cases rx; exact SeqAt.EqAt.same _
    | bl b => cases rx; exact SeqAt.EqAt.none_bool b
    | int b => obtain ⟨t, rfl⟩ := rx; exact SeqAt.EqAt.none_int b t
    | str b => obtain ⟨t, rfl⟩ := rx; exact SeqAt.EqAt.none_str b t
    | _ => exact absurd (show false = true from fx) Bool.false_ne_true
  | bl a =>
    cases ry
    cases x with
    | non => cases rx; exact SeqAt.EqAt.bool_none a
    | bl b => cases rx; exact SeqAt.EqAt.bool_bool a b
    | int b => obtain ⟨t, rfl⟩ := rx; exact SeqAt.EqAt.bool_int a b t
    | str b => obtain ⟨t, rfl⟩ := rx; exact SeqAt.EqAt.bool_str a b t
    | _ => exact absurd (show false = true from fx) Bool.false_ne_true
  | int a =>
    obtain ⟨t', rfl⟩ := ry
    cases x with
    | non => cases rx; exact SeqAt.EqAt.int_none a t'
    | bl b => cases rx; exact SeqAt.EqAt.int_bool a t' b
    | int b => obtain ⟨t, rfl⟩ := rx; exact SeqAt.EqAt.int_int a t' b t
    | str b => obtain ⟨t, rfl⟩ := rx; exact SeqAt.EqAt.int_str a t' b t
    | _ => exact absurd (show false = true from fx) Bool.false_ne_true
  | str a =>
    obtain ⟨t', rfl⟩ := ry
    cases x with
    | non => cases rx; exact SeqAt.EqAt.str_none a t'
    | bl b => cases rx; exact SeqAt.EqAt.str_bool a t' b
    | int b => obtain ⟨t, rfl⟩ := rx; exact SeqAt.EqAt.str_int a t' b t
    | str b => obtain ⟨t, rfl⟩ := rx; exact SeqAt.EqAt.str_str a t' b t
    | _ => exact absurd (show false = true from fx) Bool.false_ne_true
  | _ => exact absurd (show false = true from fy) Bool.false_ne_true
def eqU (x : V) (u : Value) : Bool := match u with
  | .none => eqV .non x
  | .bool b => eqV (.bl b) x
  | .int i _ => eqV (.int i) x
  | .str z _ => eqV (.str z) x
  | _ => false
theorem eqU_of {x y : V} {u : Value} (r : RelV y u) (f : flatV y = true) : eqU x u = eqV y x := by
  cases y with
  | non => cases r; rfl
  | bl b => cases r; rfl
  | int i => obtain ⟨t, rfl⟩ := r; rfl
  | str z => obtain ⟨t, rfl⟩ := r; rfl
  | _ => exact absurd (show false = true from f) Bool.false_ne_true
theorem any_eqU {x : V} : ∀ {xs : List V} {us : List Value}, Vals xs us → xs.all flatV = true → us.any (eqU x) = xs.any fun y => eqV y x
  | _, _, .nil, _ => rfl
  | y :: xs, u :: us, .cons r t, f => by
    rw [List.all_cons, Bool.and_eq_true] at f
    rw [List.any_cons, List.any_cons, eqU_of r f.1, any_eqU t f.2]
theorem mem_eqAt {A : Around} {s : Shared} {x : V} {v : Value} (rx : RelV x v) (fx : flatV x = true) : ∀ {xs : List V} {us : List Value}, Vals xs us → xs.all flatV = true → ∀ u ∈ us, SeqAt.EqAt A s u v (eqU x u)
  | _, _, .nil, _ => fun u hu => by cases hu
  | y :: xs, u :: us, .cons r t, f => fun u' hu => by
    rw [List.all_cons, Bool.and_eq_true] at f
    rcases List.mem_cons.mp hu with rfl | hu
    · rw [eqU_of r f.1]; exact eqAt_V r rx f.1 fx
    · exact mem_eqAt rx fx t f.2 u' hu
def inV (x : V) (xs : List V) : Bool := xs.any fun y => eqV y x
def rIn (K : PySem.W.Frag) (neg : Bool) : R2 := fun x y H Q => ∃ p xs, y = .ref p ∧ (SqL K H p xs ∨ SqT K H p xs) ∧ flatV x = true ∧ xs.all flatV = true ∧ Q (.bl (if neg then !inV x xs else inV x xs)) H
theorem op_in_seq : OpR X (compareOp .In) (rIn X.K false) := by
  intro pins s σ H x y v u Q I rx ry h
  obtain ⟨p, xs, rfl, hq, fx, fs, q⟩ := h
  cases ry
  rcases hq with hq | hq
  · obtain ⟨its, r, pl, hz⟩ := I.list hq
    refine SeqAt.in_listAt (eqU x) pl.isList (fun w hw => mem_eqAt rx fx r fs w (by simpa using hw)) ⟨.bl _, H, I, rfl, ?_⟩
    rw [show its.toArray.any (eqU x) = its.any (eqU x) by simp, any_eqU r fs]
    exact q
  · obtain ⟨its, r, pl, hz⟩ := I.tuple hq
    refine SeqAt.in_tupleAt (eqU x) pl (fun w hw => mem_eqAt rx fx r fs w (by simpa using hw)) ⟨.bl _, H, I, rfl, ?_⟩
    rw [show its.toArray.any (eqU x) = its.any (eqU x) by simp, any_eqU r fs]
    exact q
theorem op_notIn_seq : OpR X (compareOp .NotIn) (rIn X.K true) := by
  intro pins s σ H x y v u Q I rx ry h
  obtain ⟨p, xs, rfl, hq, fx, fs, q⟩ := h
  cases ry
  rcases hq with hq | hq
  · obtain ⟨its, r, pl, hz⟩ := I.list hq
    refine SeqAt.notIn_listAt (eqU x) pl.isList (fun w hw => mem_eqAt rx fx r fs w (by simpa using hw)) ⟨.bl _, H, I, rfl, ?_⟩
    rw [show its.toArray.any (eqU x) = its.any (eqU x) by simp, any_eqU r fs]
    exact q
  · obtain ⟨its, r, pl, hz⟩ := I.tuple hq
    refine SeqAt.notIn_tupleAt (eqU x) pl (fun w hw => mem_eqAt rx fx r fs w (by simpa using hw)) ⟨.bl _, H, I, rfl, ?_⟩
    rw [show its.toArray.any (eqU x) = its.any (eqU x) by simp, any_eqU r fs]
    exact q
theorem call_len_seq : CallR X (.builtin "len") (fun xs H Q => ∃ p ys, xs = [.ref p] ∧ (SqL X.K H p ys ∨ SqT X.K H p ys) ∧ Q (.int ys.length) H) := by
  intro pins s σ H xs us Q I r h
  obtain ⟨p, ys, rfl, hq, q⟩ := h
  obtain ⟨u, rfl, rx⟩ := vals1 r
  cases rx
  have hn := line63
  rcases hq with hq | hq
  · obtain ⟨its, r', pl, hz⟩ := I.list hq
    have hlen := r'.length
    exact Calls.call_len_list pl.isList (by simp only [List.size_toArray] <;> omega) ⟨.int ys.length, H, I.tok _, ⟨s.toks + 1, by rw [List.size_toArray, hlen]⟩, q⟩
  · obtain ⟨its, r', pl, hz⟩ := I.tuple hq
    have hlen := r'.length
    exact len_tuple pl (by simp only [List.size_toArray] <;> omega) ⟨.int ys.length, H, I.tok _, ⟨s.toks + 1, by rw [List.size_toArray, hlen]⟩, q⟩
theorem call_tuple_of : CallR X (.type "tuple") (fun xs H Q => ∃ p ys, xs = [.ref p] ∧ ((SqL X.K H p ys ∧ ∀ l, H l = none → Q (.ref l) (upd H l (.tup ys))) ∨ (SqT X.K H p ys ∧ Q (.ref p) H))) := by
  intro pins s σ H xs us Q I r h
  obtain ⟨p, ys, rfl, h⟩ := h
  obtain ⟨u, rfl, rx⟩ := vals1 r
  cases rx
  rcases h with ⟨hq, q⟩ | ⟨hq, q⟩
  · obtain ⟨its, r', pl, hz⟩ := I.list hq
    have hlen := r'.length
    refine call_tuple_list pl.isList (fun h' kp => ?_) (by simp only [List.size_toArray] <;> omega)
    have I1 : Inv X pins σ H { s with heap := h' } := I.kept (t' := s.toks) kp
    have I2 : Inv X pins σ (upd H h'.objs.size (.tup ys)) { s with heap := h'.push { cls := .type "tuple", data := .seq its.toArray } } :=
      I1.laid (t' := s.toks) (fun b o e => Heap.get?_push_of_some _ e) (Nat.le_refl _) (show ObjOk X.prog X.w _ _ _ (.tup ys) from ⟨hz, its, r', IsTup.new _ _⟩)
    exact ⟨.ref h'.objs.size, _, I2, rfl, q _ (I1.hok.fresh (Nat.le_refl _))⟩
  · obtain ⟨its, r', pl, hz⟩ := I.tuple hq
    exact call_tuple_same pl ⟨.ref p, H, I, rfl, q⟩
def tyV (K : PySem.W.Frag) (T : String) (x : V) (H : Hp) : Prop := match x with
  | .str _ => T = "str"
  | .int _ => T = "int"
  | .ref p => (T = "list" ∧ ∃ xs, SqL K H p xs) ∨ (T = "tuple" ∧ ∃ o, K.lookup p = some o ∧ o.cls = .type "tuple" ∧ o.dict = none) ∨
      (T = "dict" ∧ ((∃ kvs, H p = some (.dK kvs)) ∨ ∃ kvs, H p = some (.dT kvs))) ∨ (T = "set" ∧ ∃ S n, H p = some (.set S n))
  | _ => False
theorem tyV_is {pins : List (Addr × Obj)} {σ : St} {H : Hp} {s : Shared} {T : String} {x : V} {v : Value} (I : Inv X pins σ H s) (r : RelV x v) (ty : tyV X.K T x H) :
    s.TypeIs v T ∧ ∀ a, v = .ref a → ∃ ob, s.heap.get? a = some ob ∧ ob.dict = none := by
  cases x with
  | str z =>
    obtain ⟨t, rfl⟩ := r
    cases (show T = "str" from ty)
    exact ⟨typeIs_str s z t, fun _ e => nomatch e⟩
  | int i =>
    obtain ⟨t, rfl⟩ := r
    cases (show T = "int" from ty)
    exact ⟨typeIs_int s i t, fun _ e => nomatch e⟩
  | ref p =>
    cases r
    rcases ty with ⟨rfl, xs, hq⟩ | ⟨rfl, o, hk, hc, hd⟩ | ⟨rfl, hk⟩ | ⟨rfl, S, n, hk⟩
    · obtain ⟨its, _, pl, _⟩ := I.list hq
      refine ⟨pl.isList.typeIs, fun a e => ?_⟩
      cases e
      obtain ⟨o, n, e, c, hd, _⟩ := pl
      exact ⟨o, e, hd⟩
    · refine ⟨⟨o, I.kIn p o hk, hc⟩, fun a e => ?_⟩
      cases e
      exact ⟨o, I.kIn _ o hk, hd⟩
    · have z : ∃ o, s.heap.get? p = some o ∧ o.ExactDict := by
        rcases hk with ⟨kvs, hk⟩ | ⟨kvs, hk⟩
        · obtain ⟨_, _, _, _, o, _, _, e, ex, _⟩ := I.hok p _ hk
          exact ⟨o, e, ex⟩
        · obtain ⟨_, _, _, _, o, _, _, e, ex, _⟩ := I.hok p _ hk
          exact ⟨o, e, ex⟩
      obtain ⟨o, e, ex⟩ := z
      refine ⟨⟨o, e, ex.1⟩, fun a e2 => ?_⟩
      cases e2
      exact ⟨o, e, ex.2.1⟩
    · obtain ⟨o, _, _, _, e, ex, _⟩ := I.hok p _ hk
      refine ⟨⟨o, e, ex.1⟩, fun a e2 => ?_⟩
      cases e2
      exact ⟨o, e, ex.2.1⟩
  | _ => exact False.elim ty
def tBM0 (K : PySem.W.Frag) (T : String) (r : V → List V → Hp → VK → Prop) (to : TE) : TE := fun σ H Q => to σ H fun x H1 => tyV K T x H1 ∧ r x [] H1 Q
def tBM (K : PySem.W.Frag) (T : String) (r : V → List V → Hp → VK → Prop) (to : TE) (t : TA) : TE := fun σ H Q => to σ H fun x H1 => tyV K T x H1 ∧ t σ H1 fun xs H2 => r x xs H2 Q
variable {o e : Expr} {es : List Expr} {to : TE} {t : TA} {name : Str} {apos cpos : Pos} {T id : String} {r : V → List V → Hp → VK → Prop}
theorem pe_bm0 (pa : PlainAttrs T) (slot : Slot T name id) (hty : typeOf (.builtin id) = pure (.type "method_descriptor")) (hm : MtR X id r) (ho : PE X o to)
    (hbase : attributeBase o name X.env (eval o X.env) = eval o X.env := by rfl) (hline : (apos.endLine == cpos.line) = true := by rfl) : PE X (.Call (.Attribute o name apos) [] [] cpos) (tBM0 X.K T r to) := by
  intro pins s σ H Q I h
  refine wpAny_Call_method0_late hbase hline (thn (ho pins s σ H _ I h) fun v s1 ⟨x, H1, I1, r1, ty, q1⟩ => ?_)
  obtain ⟨h1, h2⟩ := tyV_is I1 r1 ty
  exact ⟨T, id, pa, slot, hty, h1, h2, Calls.callWith_builtin rfl (PySem.evalArgs_none (hm pins s1 σ H1 x [] v [] Q I1 r1 .nil q1))⟩
theorem pe_bm (pa : PlainAttrs T) (slot : Slot T name id) (hty : typeOf (.builtin id) = pure (.type "method_descriptor")) (hm : MtR X id r) (ho : PE X o to) (ha : PA X (e :: es) t)
    (hbase : attributeBase o name X.env (eval o X.env) = eval o X.env := by rfl)
    (hfew : ((backTo cpos (starEach (e :: es) X.env)).all (fun x => !x.1) && (backToKw cpos (keywordEach [] X.env)).all (fun x => x.1.isSome)
      && decide ((e :: es).length + ([] : List Keyword).length + (if ([] : List Keyword).isEmpty then 0 else 1) < 30)) = true := by rfl)
    (hline : (apos.endLine == cpos.line) = true := by rfl) (hs : starEach (e :: es) X.env = (false, eval e X.env) :: starEach es X.env := by rfl) (hplain : (backTo cpos (starEach es X.env)).any (·.1) = false := by rfl) :
    PE X (.Call (.Attribute o name apos) (e :: es) [] cpos) (tBM X.K T r to t) := by
  intro pins s σ H Q I h
  refine wpAny_Call_method_late hbase hfew hline rfl (thn (ho pins s σ H _ I h) fun v s1 ⟨x, H1, I1, r1, ty, q1⟩ => ?_)
  obtain ⟨h1, h2⟩ := tyV_is I1 r1 ty
  refine ⟨T, id, pa, slot, hty, h1, h2, ?_⟩
  have hA := ha cpos pins s1 σ H1 _ I1 q1
  rw [hs] at hA ⊢
  refine Calls.callWith_builtin (by show (false || (backTo cpos (starEach es X.env)).any (·.1)) = false; rw [hplain] <;> rfl) (Calls.evalArgs_plain ?_)
  exact thn hA fun us s2 ⟨vs, H2, I2, r2, q2⟩ => hm pins s2 σ H2 x vs v us Q I2 r1 r2 q2
end
end L2
namespace L2
open PySem PySem.Spec PyProof.Rows
def MtM (X : Cx) (id : String) (r : V → List V → Hp → VK → Prop) : Prop :=
  ∀ (pins : List (Addr × Obj)) (s : Shared) (σ : St) (H : Hp) (x : V) (xs : List V) (v : Value) (us : List Value) (Q : VK), Inv X pins σ H s → RelV x v → Vals xs us → r x xs H Q →
    wpAny (model X.prog X.w) X.A (call (.builtin id) (v :: us)) (EP X pins σ Q) X.xe s
theorem Vals.one : ∀ {x : V} {us : List Value}, Vals [x] us → ∃ u, us = [u] ∧ RelV x u
  | _, _, .cons r .nil => ⟨_, rfl, r⟩
theorem Vals.two : ∀ {x y : V} {us : List Value}, Vals [x, y] us → ∃ u v, us = [u, v] ∧ RelV x u ∧ RelV y v
  | _, _, _, .cons r (.cons q .nil) => ⟨_, _, rfl, r, q⟩
theorem Vals.zero : ∀ {us : List Value}, Vals [] us → us = []
  | _, .nil => rfl
theorem Vals.reverse {xs : List V} {us : List Value} (h : Vals xs us) : Vals xs.reverse us.reverse := by
  induction h with
  | nil => exact .nil
  | cons r t ih => rw [List.reverse_cons, List.reverse_cons]; exact Vals.append ih (.cons r .nil)
section
variable {X : Cx} {pins : List (Addr × Obj)} {σ : St} {H : Hp} {s : Shared} {l b : Addr} {xs ys zs : List V}
theorem Inv.lset {its its' : List Value} {n : Nat} {f : Array Value → Array Value} {t' : Nat} (I : Inv X pins σ H s) (hH : H l = some (.lst xs))
    (e : s.heap.get? l = some { cls := .type "list", data := .seq its.toArray n }) (hf : f its.toArray = its'.toArray) (hv : Vals ys its') (hz : ys.length ≤ sizeLine) :
    Inv X pins σ (upd H l (.lst ys)) { s with heap := s.heap.update l (Obj.mapSeq f), toks := t' } := by
  have q := PySem.IsL.update e f
  rw [hf] at q
  refine I.write (x := l) (e := l) (by rw [hH]; exact trivial) (.inl rfl) (fun b' u hb hu => (Heap.get?_update_other s.heap (Obj.mapSeq f) (Ne.symm hb)).trans hu) ⟨_, q⟩ ?_
  exact ⟨hz, its', _, hv, q⟩
theorem Inv.lnew {its : List Value} {t' : Nat} (I : Inv X pins σ H s) (hv : Vals ys its) (hz : ys.length ≤ sizeLine) :
    Inv X pins σ (upd H s.heap.objs.size (.lst ys)) { s with heap := s.heap.push { cls := .type "list", data := .seq its.toArray }, toks := t' } :=
  I.laid (fun _ _ q => Heap.get?_push_of_some _ q) (Nat.le_refl _) ⟨hz, its, 0, hv, Heap.get?_push_size _ rfl⟩
theorem Inv.fresh (I : Inv X pins σ H s) : H s.heap.objs.size = none := I.hok.fresh (Nat.le_refl _)
theorem Inv.lstM (I : Inv X pins σ H s) (hH : H l = some (.lst xs)) : xs.length ≤ sizeLine ∧ ∃ (its : List Value) (n : Nat), Vals xs its ∧ xs.length = its.length ∧ s.heap.get? l = some { cls := .type "list", data := .seq its.toArray n } := by
  obtain ⟨z, its, n, r, e⟩ := I.hok l _ hH
  exact ⟨z, its, n, r, r.length, e⟩
end
section
variable {X : Cx}
def rAppend : V → List V → Hp → VK → Prop := fun x vs H Q => ∃ l xs y, x = .ref l ∧ vs = [y] ∧ H l = some (.lst xs) ∧ xs.length < sizeLine ∧ Q .non (upd H l (.lst (xs ++ [y])))
theorem mt_append : MtM X "list.append" rAppend := by
  intro pins s σ H x vs v us Q I rx rv h
  obtain ⟨l, xs, y, rfl, rfl, hH, hz, q⟩ := h
  cases rx
  obtain ⟨u, rfl, ru⟩ := rv.one
  obtain ⟨z, its, n, r, hl, e⟩ := I.lstM hH
  refine call_meets F.slot_list_append ⟨_, e, rfl⟩ F.entry_list_append (F.args_list_append_2 _ _) (PySem.list_append l its.toArray n u (by rw [List.size_toArray]; omega)) ⟨e, ?_⟩
  refine ⟨.non, _, I.lset (its' := its ++ [u]) hH e (by simp) (r.append (.cons ru .nil)) ?_, rfl, q⟩
  rw [List.length_append, List.length_singleton]
  omega
def rClear : V → List V → Hp → VK → Prop := fun x vs H Q => ∃ l xs, x = .ref l ∧ vs = [] ∧ H l = some (.lst xs) ∧ Q .non (upd H l (.lst []))
theorem mt_clear : MtM X "list.clear" rClear := by
  intro pins s σ H x vs v us Q I rx rv h
  obtain ⟨l, xs, rfl, rfl, hH, q⟩ := h
  cases rx
  have hus := rv.zero
  subst hus
  obtain ⟨z, its, n, r, hl, e⟩ := I.lstM hH
  refine call_meets F.slot_list_clear ⟨_, e, rfl⟩ F.entry_list_clear (F.args_list_clear_1 _) (AutoSeq1.list_clear_list_0 l its.toArray n (by rw [List.size_toArray]; omega)) ⟨e, ?_⟩
  exact ⟨.non, _, I.lset (its' := []) (ys := []) hH e rfl .nil (Nat.zero_le _), rfl, q⟩
def rCat : R2 := fun x y H Q => ∃ l b xs zs, x = .ref l ∧ y = .ref b ∧ H l = some (.lst xs) ∧ H b = some (.lst zs) ∧ xs.length + zs.length ≤ sizeLine ∧ ∀ p, H p = none → Q (.ref p) (upd H p (.lst (xs ++ zs)))
theorem op_cat : OpR X (binaryOp .Add) rCat := by
  intro pins s σ H x y v u Q I rx ry h
  obtain ⟨l, b, xs, zs, rfl, rfl, hH, hB, hz, q⟩ := h
  cases rx
  cases ry
  obtain ⟨z, its, n, r, hl, e⟩ := I.lstM hH
  obtain ⟨z2, its2, n2, r2, hl2, e2⟩ := I.lstM hB
  refine PySem.P.add_list e e2 ?_ (by rw [List.size_toArray, List.size_toArray]; omega)
  have ea : its.toArray ++ its2.toArray = (its ++ its2).toArray := by simp
  rw [ea]
  exact ⟨.ref _, _, I.lnew (t' := s.toks) (r.append r2) (by rw [List.length_append]; omega), rfl, q _ I.fresh⟩
end
section
variable {prog : Program} {w : World} {A : Around} {E : Value → Shared → Prop} {s : Shared}
end
section
variable {X : Cx}
end
end L2
namespace Att
open PySem PySem.W PySem.Calls PyProof.Rows
theorem ints_of_wellAll {P : Params} {h : Heap} : ∀ (ns : List Int) (vs : List Value), WellAll P h vs (ns.map WData.int) → IntsAre vs ns := by
  intro ns
  induction ns with
  | nil =>
    intro vs w
    rw [List.map_nil] at w
    cases w
    exact .nil
  | cons n ns ih =>
    intro vs w
    rw [List.map_cons] at w
    cases w with
    | cons a b =>
      cases a
      exact .cons _ _ (ih _ b)
theorem script_of {l : OpenLaw} {n : Nat} (hn : l.most = some n) {P : Params} {h : Heap} {args : List WData} {vals : List Value}
    (hpre : l.row.toRowW.claim.pre args = true) (hwl : WellAll P h vals args) :
    ∃ a vs ns, vals = [Value.ref a] ∧ args = [WData.list (ns.map WData.int)] ∧ h.get? a = some { cls := .type "list", data := .seq vs.toArray } ∧ IntsAre vs ns ∧ ns.length ≤ n := by
  have hsh : WShape.hasAll [] args [.list .int] = true := (pre_splitW hpre).1
  have hc : l.pre.holds [] { args := args } = true := (pre_splitW hpre).2
  obtain ⟨d, r, rfl, h1, h2⟩ := hasAllW_cons hsh
  obtain rfl := hasAllW_nil h2
  obtain ⟨xs, rfl, h3⟩ := hasW_list h1
  obtain ⟨ns, rfl⟩ := items_int h3
  have hlen : ns.length ≤ n := by
    unfold OpenLaw.pre at hc
    have h4 : (WTm.not (.lt (.lit (.int (n : Int))) (.len (.arg 0)))).holds [] { args := [.list (ns.map .int)] } = true := by
      have h4 := (holds_andW hc).1
      rw [hn] at h4
      exact h4
    have h5 := condW_of h4 (w_not (w_lt w_lit (w_len_list (w_arg rfl))))
    rw [List.length_map] at h5
    refine Nat.le_of_not_lt fun q => ?_
    have q' : (n : Int) < ((ns.length : Nat) : Int) := by omega
    first
      | (rw [decide_eq_true q'] at h5; exact absurd h5 (by decide))
      | (simp at h5; omega)
  cases hwl with
  | cons w1 w2 =>
    cases w2
    cases w1 with
    | list ho hall => exact ⟨_, _, ns, rfl, rfl, ho, ints_of_wellAll ns _ hall, hlen⟩
theorem post_true (l : OpenLaw) (args : List WData) : l.row.toRowW.claim.post args (.bool true) args = true :=
  postW_of (r := l.row.toRowW) (X := (true == true))
    (show WShape.has [] (.bool true) .bool = true by first | rfl | decide | simp [WShape.has, WShape.arms, WShape.armsAll])
    (show (WTm.eq .res (.lit (.bool true))).value [] { args := args, res := some (.bool true), after := args } = some (.bool (true == true)) from w_eq_bool (w_res rfl) w_lit) rfl
theorem attach_call {l : OpenLaw} {n : Nat} {q : Program} {loose : List Str} {XP : (Str → Option Value) → Heap → Prop} {YP : World → Heap → Prop} {d : DefRec}
    (hn : l.most = some n) (hdf : d.params.defaults = [])
    (call : ∀ (w : World) (s₀ s₁ : Shared) (mg mb : Str → Option Value) (fa : Addr) (o : Obj) (pm cd doc : Value) (a : Addr) (vs : List Value) (ns : List Int),
      Ground q loose [] XP w s₀ mg mb s₁.heap → YP w s₁.heap →
      s₁.heap.get? fa = some o → o.data = .func (docDef d.name d.params d.body d.scope pm cd doc) → s₁.heap.CodeRec cd d.name → mg d.name = some (.ref fa) →
      s₁.heap.get? a = some { cls := .type "list", data := .seq vs.toArray } → IntsAre vs ns → ns.length ≤ n → s₁.gens = #[] →
      codeAny (model l.prog w) callerA (.call (.ref fa) ⟨[.ref a], []⟩) (fun r s' => r = .ok (.ret (.bool true)) ∧ OldK s₁.heap s'.heap ∧ s'.os = s₁.os ∧ AllBare s'.gens) s₁) :
    WalkO q loose XP YP l.row.toRowW d [] (fun f vs => PySem.call f vs) := by
  intro w s₀ s₁ mg mb G Y fa o pm cd doc dV kV ho hd hcd hD hmg hg args vals as hpre hlay hrd hwl hlo
  obtain rfl : dV = .none := Dflts.none hD hdf
  obtain rfl : kV = .none := Dflts.noKw hD
  obtain ⟨a, vs, ns, rfl, rfl, hobj, hints, hlen⟩ := script_of hn hpre hwl
  refine enter_call (codeAny_mono (call w s₀ s₁ mg mb fa o pm cd doc a vs ns G Y ho (fd_plain hd) hcd hmg hobj hints hlen hg) fun r s' hq => ?_)
  obtain ⟨rfl, h2, h3, h4⟩ := hq
  exact ⟨.inl ⟨.bool true, .bool true, [], rfl, fun _ => rfl, .bool true, post_true l _, fun _ => ⟨List.Pairwise.nil, fun _ hm => (nomatch hm)⟩⟩, h2, h3, h4⟩
section
variable {prog : Program} {w : World} {A : Around} {E : Value → Shared → Prop} {s : Shared} {K : Frag}
end
end Att
namespace L2
open PySem PySem.Spec PyProof.Rows
theorem vals_ints : ∀ {vs : List Value} {ns : List Int}, IntsAre vs ns → Vals (ns.map V.int) vs
  | _, _, .nil => .nil
  | _, _, .cons n t h => .cons ⟨t, rfl⟩ (vals_ints h)
def Only (H : Hp) : Prop := ∀ b, H b = none ∨ ∃ o xs, H b = some (.frz o (.lst xs))
theorem law_call {P : Program} {w : World} {K : PySem.W.Frag} {mg mb : Str → Option Value} {CX : CXT} {k : Nat} {fa a : Addr} {fd : FuncData} {x : Str} {sp : Sp} {s₁ : Shared} {vs : List Value} {ns : List Int}
    (KX : K.In s₁.heap) (hns : s₁.heap.Ns mainGlobals mg) (hb : s₁.heap.Ns builtinsNs mb) (hbb : ∀ x : Str, x ≠ "__name__" → mb x = bootBuiltins x) (hlim : s₁.heap.NoLimit) (hg : s₁.gens = #[])
    (ha : s₁.heap.get? a = some { cls := .type "list", data := .seq vs.toArray }) (hi : IntsAre vs ns) (hl : ns.length ≤ sizeLine) (hr : Room k callerA)
    (F : ∀ base : Heap, K.In base → base.Ns mainGlobals mg → FnOk P w K mg base CX k fa fd [x] sp) (hbind : ∀ (s : Shared) (u : Value), BindsTo s fd ⟨[u], []⟩ [(x, u)])
    (hsp : ∀ H : Hp, Only H → SqL K H a (ns.map V.int) → sp [.ref a] H (fun v _ => v = .bl true) fun _ _ _ => False)
    (hCX : ∀ H e s', CX [] H s₁ (fun _ _ _ => False) e s' → False) :
    codeAny (model P w) callerA (.call (.ref fa) ⟨[.ref a], []⟩) (fun r s' => r = .ok (.ret (.bool true)) ∧ OldK s₁.heap s'.heap ∧ s'.os = s₁.os ∧ AllBare s'.gens) s₁ := by
  have rv := vals_ints hi
  have lenV := hi.length
  have core : ∀ H : Hp, Only H → SqL K H a (ns.map V.int) → HOk P w H s₁.heap → (∀ b, H b ≠ none → b = a) → (H a ≠ none → K.lookup a = none) →
      codeAny (model P w) callerA (.call (.ref fa) ⟨[.ref a], []⟩) (fun r s' => r = .ok (.ret (.bool true)) ∧ OldK s₁.heap s'.heap ∧ s'.os = s₁.os ∧ AllBare s'.gens) s₁ := by
    intro H hO hS hok hA hK
    have base_of : ∀ {b : Addr} {o : Obj}, s₁.heap.get? b = some o → H b = none → (hidT s₁.heap H).get? b = some o := fun e n => hidT_get e n
    have noA : ∀ {b : Addr} {o : Obj} {es : Array DictEntry} {ep : Nat}, s₁.heap.get? b = some o → o.data = .dict es ep → H b = none := fun {b o es ep} e d => by
      cases q : H b with
      | none => rfl
      | some u =>
        have e' : b = a := hA b (by rw [q]; simp)
        subst e'
        rw [ha] at e; cases e
        have d' : Data.seq vs.toArray _ = Data.dict es ep := d
        cases d'
    have nsK : ∀ {b : Addr} {m : Str → Option Value}, s₁.heap.Ns b m → (hidT s₁.heap H).Ns b m := fun {b m} ⟨o, es, ep, e, d, r⟩ => ⟨o, es, ep, base_of e (noA e d), d, r⟩
    have hKb : K.In (hidT s₁.heap H) := fun b o e => base_of (KX b o e) (by
      cases q : H b with
      | none => rfl
      | some u =>
        have e' : b = a := hA b (by rw [q]; simp)
        subst e'
        rw [hK (by rw [q]; simp)] at e; cases e)
    have hM : Mod K mg (hidT s₁.heap H) := ⟨hKb, nsK hns, ⟨mb, nsK hb, hbb⟩, let ⟨mc, h1, h2⟩ := hlim; ⟨mc, nsK h1, h2⟩⟩
    have e0 : Env0 P w K mg (hidT s₁.heap H) callerA [] s₁ H := ⟨rfl, hM, fun b o e => of_hidT e, Nat.le_of_eq (hidT_size _ _), trivial, fun b hb => absurd (show b ∈ ([] : List Addr) from hb) (by simp), hok, .of_eq hg⟩
    refine codeAny_mono ((F _ hKb (nsK hns)).run callerA [] s₁ H ⟨[.ref a], []⟩ [.ref a] [.ref a] _ _ hr e0 (hbind s₁ (.ref a)) (.cons rfl .nil) (hsp H hO hS)) fun r s' h => ?_
    cases r with
    | error e => exact (hCX H e s' h).elim
    | ok fl =>
      cases fl with
      | next => exact False.elim h
      | brk => exact False.elim h
      | cont => exact False.elim h
      | ret u =>
        obtain ⟨v, H', os, bare, un, hok', r', q⟩ := h
        have q' : v = .bl true := q
        subst q'
        obtain rfl : u = Value.bool true := r'
        refine ⟨rfl, OldK.of_keep fun b o e => ?_, os, bare⟩
        cases q : H b with
        | none => exact un.keep b o e q (by intro z; exact absurd (show b ∈ ([] : List Addr) from z) (by simp)) (by simp)
        | some u =>
          rcases hO b with z | ⟨ob, xs, z⟩
          · rw [q] at z; cases z
          · have z2 := un.frzs b ob _ z
            obtain ⟨e1, _⟩ := hok b _ z
            obtain ⟨e2, _⟩ := hok' b _ z2
            rw [e] at e1; cases e1
            exact e2
  cases hk : K.lookup a with
  | some o =>
    have e := KX a o hk
    rw [ha] at e
    cases e
    refine core (fun _ => none) (fun _ => .inl rfl) (.inr ⟨_, vs.toArray, _, hk, rfl, rfl, rfl, by rw [List.size_toArray, lenV]; exact hl, by simpa using rv⟩) (fun b u z => by have z' : (none : Option HO) = some u := z; cases z') (fun b z => absurd rfl z) fun z => absurd rfl z
  | none =>
    refine core (fun b => if b = a then some (.frz { cls := .type "list", data := .seq vs.toArray } (.lst (ns.map V.int))) else none) (fun b => ?_) (.inl (.inr ⟨{ cls := .type "list", data := .seq vs.toArray }, if_pos rfl⟩)) (fun b u z => ?_) (fun b z => ?_) fun _ => hk
    · by_cases hb : b = a
      · exact .inr ⟨_, _, if_pos hb⟩
      · exact .inl (if_neg hb)
    · by_cases hb : b = a
      · have z' := (if_pos hb).symm.trans z
        cases z'
        subst hb
        exact ⟨ha, by rw [List.length_map]; exact hl, vs, _, rv, ha⟩
      · have z' := (if_neg hb).symm.trans z
        cases z'
    · by_cases hb : b = a
      · exact hb
      · exact absurd (if_neg hb) z
end L2
namespace L2
open PySem PySem.Spec PyProof.Rows
theorem walk_of {l : PySem.W.OpenLaw} {n k : Nat} {q : Program} {loose : List Str} {XP : (Str → Option Value) → Heap → Prop} {YP : World → Heap → Prop} {d : DefRec} {K : Params → PySem.W.Frag} {CX : World → CXT} {sp : World → Sp} {x : Str}
    (hn : l.most = some n) (hn2 : n ≤ sizeLine) (hdf : d.params.defaults = []) (hr : Room k callerA)
    (hY : ∀ (w : World) (h : Heap), YP w h → (K w.params).In h)
    (F : ∀ (w : World) (mg : Str → Option Value) (fa : Addr) (h : Heap), (K w.params).In h → h.Ns mainGlobals mg → mg d.name = some (.ref fa) →
      ∃ fd : FuncData, (∀ (s : Shared) (u : Value), BindsTo s fd ⟨[u], []⟩ [(x, u)]) ∧
        ∀ base : Heap, (K w.params).In base → base.Ns mainGlobals mg → FnOk l.prog w (K w.params) mg base (CX w) k fa fd [x] (sp w))
    (hsp : ∀ (w : World) (H : Hp) (a : Addr) (ns : List Int), ns.length ≤ n → Only H → SqL (K w.params) H a (ns.map V.int) → sp w [.ref a] H (fun v _ => v = .bl true) fun _ _ _ => False)
    (hCX : ∀ (w : World) (H : Hp) (s : Shared) (e : Value) (s' : Shared), CX w [] H s (fun _ _ _ => False) e s' → False) :
    PySem.W.WalkO q loose XP YP l.row.toRowW d [] (fun f vs => PySem.call f vs) := by
  refine Att.attach_call hn hdf fun w s₀ s₁ mg mb fa o pm cd doc a vs ns G Y ho hd hcd hmg hobj hints hlen hg => ?_
  have KX := hY w _ Y
  obtain ⟨fd, hb, hF⟩ := F w mg fa _ KX G.T.g hmg
  exact law_call KX G.T.g G.T.b G.T.builtins G.T.nolimit hg hobj hints (Nat.le_trans hlen hn2) hr hF hb (fun H hO hS => hsp w H a ns hlen hO hS) fun H e s' => hCX w H s₁ e s'
end L2
namespace L2
open PySem PySem.Spec PyProof.Rows
def defArgs (s : Stmt) : Arguments := match s with
  | .FunctionDef _ a _ _ _ _ _ _ _ _ => a
  | _ => { posonlyargs := [], args := [], vararg := none, kwonlyargs := [], kw_defaults := [], kwarg := none, defaults := [] }
def defBody (s : Stmt) : List Stmt := match s with
  | .FunctionDef _ _ b _ _ _ _ _ _ _ => b
  | _ => []
def defScope (s : Stmt) : Scope := match s with
  | .FunctionDef _ _ _ _ _ _ sc _ _ _ => sc
  | _ => { kind := .function, names := [], isGenerator := false, isCoroutine := false }
abbrev CX0 : CXT := fun _ _ _ _ _ _ => False
abbrev E0 : XK := fun _ _ _ => False
theorem pass0 {X : Cx} : Passes CX0 X E0 := fun _ _ _ _ _ _ _ h => h.elim
structure Fun (K : PySem.W.Frag) (x qual : Str) (st : Stmt) (f : Addr) (fd : FuncData) : Prop where
  ex : ∃ (oc : Value) (od : Option Addr) (kV doc pm : Value) (an : Option Addr) (cdv ct : Value) (osl : Array (Option Value)),
    fd = PySem.W.fnOf x qual (defArgs st) (defBody st) (defScope st) .none kV doc pm an cdv ct ∧ K.lookup f = some ⟨oc, od, .func fd, osl⟩ ∧ PySem.W.codeIn K cdv qual = true
  kp : PySem.W.keepIn K (.ref f) = true
section
variable {P : Program} {w : World} {K : PySem.W.Frag} {mg : Str → Option Value} {base : Heap}
theorem Fun.ok {x qual : Str} {st : Stmt} {f : Addr} {fd : FuncData} {N ps : List Str} {k : Nat} {sp : Sp} (F : Fun K x qual st f fd) (S : FnScope N ps (defScope st)) (len : ∀ vs H Q E, sp vs H Q E → vs.length = ps.length)
    (hbody : ∀ (cdv : Value) (A : Around) (outer : List Env) (s : Shared) (H : Hp) (vs : List V) (Q : VK) (E : XK), Room k (A.deeper (envOfC qual (defScope st) s.heap.objs.size f cdv)) → sp vs H Q E →
      ∃ t, PSs (cxOf CX0 P w K mg base N qual (defScope st) f cdv A outer s H E).nox (defBody st) t ∧ t { nx := fun _ H' => Q .non H', rt := Q } (start N vs) H) : FnOk P w K mg base CX0 (k + 1) f fd ps sp := by
  obtain ⟨oc, od, kV, doc, pm, an, cdv, ct, osl, rfl, lk, hcd⟩ := F.ex
  refine fn_of lk hcd S len fun A outer s H vs Q E hr hsp => ?_
  obtain ⟨t, h, q⟩ := hbody cdv A outer s H vs Q E hr hsp
  exact ⟨t, h.nox, q⟩
theorem Fun.binds {x qual : Str} {st : Stmt} {f : Addr} {fd : FuncData} {ps : List Str} (F : Fun K x qual st f fd)
    (h : ∀ (kV doc pm : Value) (an : Option Addr) (cdv ct : Value) (us : List Value), us.length = ps.length → bindArgs (PySem.W.fnOf x qual (defArgs st) (defBody st) (defScope st) .none kV doc pm an cdv ct) ⟨us, []⟩ = pure (ps.zip us)) : Binds K fd ps [] := by
  obtain ⟨oc, od, kV, doc, pm, an, cdv, ct, osl, rfl, lk, hcd⟩ := F.ex
  exact .all (h kV doc pm an cdv ct)
theorem fun_mk {x qual : Str} {st : Stmt} {f : Addr} {oc : Value} {od an : Option Addr} {osl : Array (Option Value)} {kV doc pm cdv ct : Value} (l : K.lookup f = some ⟨oc, od, .func (PySem.W.fnOf x qual (defArgs st) (defBody st) (defScope st) .none kV doc pm an cdv ct), osl⟩)
    (c : PySem.W.codeIn K cdv qual = true) (k : PySem.W.keepIn K (.ref f) = true) : Fun K x qual st f (PySem.W.fnOf x qual (defArgs st) (defBody st) (defScope st) .none kV doc pm an cdv ct) := ⟨⟨oc, od, kV, doc, pm, an, cdv, ct, osl, rfl, l, c⟩, k⟩
end
section
variable {X : Cx}
theorem pv (i : Nat) {x : Str} {pos : Pos} (hN : X.N[i]? = some x := by rfl) (hv : Vis X.env.scope x := by first | exact Or.inl rfl | exact Or.inr (Or.inl rfl) | exact Or.inr (Or.inr rfl)) (hd : (x == ("__debug__" : Str)) = false := by decide)
    (hcd : (x == ("__classdict__" : Str)) = false := by decide) : PE X (.Name x pos) (tVar i) := pe_var hN hv hd hcd
end
theorem iteF {A B : Prop} (h : B) : if false = true then A else B := by
  rw [if_neg Bool.false_ne_true]
  exact h
theorem iteT {A B : Prop} (h : A) : if true = true then A else B := by
  rw [if_pos rfl]
  exact h
theorem ite2 {c A B : Prop} [Decidable c] (h1 : c → A) (h2 : ¬ c → B) : if c then A else B := by
  by_cases h : c
  · rw [if_pos h]
    exact h1 h
  · rw [if_neg h]
    exact h2 h
def Same (H H' : Hp) : Prop := ∀ b o, H b = some o → H' b = some o
theorem Same.refl (H : Hp) : Same H H := fun _ _ h => h
theorem Same.trans {H H1 H2 : Hp} (a : Same H H1) (b : Same H1 H2) : Same H H2 := fun c o h => b c o (a c o h)
theorem Same.seq {K : PySem.W.Frag} {H H' : Hp} {a : Addr} {xs : List V} (e : Same H H') (h : SqL K H a xs) : SqL K H' a xs := by
  rcases h with (h | ⟨o, h⟩) | h
  · exact .inl (.inl (e _ _ h))
  · exact .inl (.inr ⟨o, e _ _ h⟩)
  · exact .inr h
end L2
set_option Elab.async false
namespace FM
end FM
namespace FM
end FM
set_option Elab.async false
set_option linter.all false
set_option maxRecDepth 100000
namespace L2
open PySem PySem.Spec PyProof.Rows
section
variable {X : Cx}
def CMulW (i j : Int) : Prop := ∃ m : Nat, m ≤ 1000000 ∧ i.natAbs < 2 ^ m ∧ j.natAbs < 2 ^ m
theorem CMulW.ok {i j : Int} (h : CMulW i j) : IntMulOk i j := by
  obtain ⟨m, hm, h1, h2⟩ := h
  exact IntMulOk.of_le (intBits_le_iff.mpr h1) (intBits_le_iff.mpr h2) (by omega)
theorem op_mulW : OpR X (binaryOp .Mult) (rI (fun i j => CMul i j ∨ CMulW i j) fun i j => .int (i * j)) :=
  opI fun _ _ _ _ _ _ _ hc q => mul_int q (hc.elim (fun z => z.ok) fun z => z.ok)
def CDivW (_i j : Int) : Prop := j ≠ 0 ∧ ∃ m : Nat, m ≤ 9000 ∧ j.natAbs < 2 ^ m
theorem op_fdivW : OpR X (binaryOp .FloorDiv) (rI CDivW fun i j => .int (i.fdiv j)) := opI fun i j _ _ _ _ _ hc q => by
  obtain ⟨h0, m, hm, h1⟩ := hc
  refine floordiv_int h0 q (.inl (PyProof.noPylong_of_log2 ?_))
  have hne : j.natAbs ≠ 0 := by omega
  have : j.natAbs.log2 < m := (Nat.log2_lt hne).mpr h1
  omega
mutual
def Br (K : PySem.W.Frag) (H : Hp) : PyData → V → Prop
  | .none, v => v = .non
  | .bool b, v => v = .bl b
  | .int i, v => v = .int i
  | .str x, v => v = .str x
  | .tuple ds, v => ∃ a xs, v = .ref a ∧ SqT K H a xs ∧ BrAll K H ds xs
  | .list ds, v => ∃ a xs, v = .ref a ∧ SqL K H a xs ∧ BrAll K H ds xs
  | .dict _, _ => False
def BrAll (K : PySem.W.Frag) (H : Hp) : List PyData → List V → Prop
  | [], xs => xs = []
  | d :: ds, xs => ∃ x r, xs = x :: r ∧ Br K H d x ∧ BrAll K H ds r
end
theorem Same.tup {K : PySem.W.Frag} {H H' : Hp} {a : Addr} {xs : List V} (e : Same H H') (h : SqT K H a xs) : SqT K H' a xs := by
  rcases h with (h | ⟨o, h⟩) | h
  · exact .inl (.inl (e _ _ h))
  · exact .inl (.inr ⟨o, e _ _ h⟩)
  · exact .inr h
mutual
theorem Br.reads {pins : List (Addr × Obj)} {σ : St} {H : Hp} {s : Shared} (I : Inv X pins σ H s) : ∀ {d : PyData} {v : V} {u : Value}, Br X.K H d v → RelV v u → ∃ as, Reads s.heap u d as
  | .none, _, u, h, r => by rw [Br] at h; subst h; cases r; exact ⟨_, .none⟩
  | .bool b, _, u, h, r => by rw [Br] at h; subst h; cases r; exact ⟨_, .bool b⟩
  | .int i, _, u, h, r => by rw [Br] at h; subst h; obtain ⟨t, rfl⟩ := r; exact ⟨_, .int i t⟩
  | .str x, _, u, h, r => by rw [Br] at h; subst h; obtain ⟨t, rfl⟩ := r; exact ⟨_, .str x t⟩
  | .tuple ds, _, u, h, r => by
    rw [Br] at h
    obtain ⟨a, xs, e1, h1, h2⟩ := h
    subst e1
    cases r
    obtain ⟨its, rv, ⟨o, e, c, n, hd⟩, _⟩ := I.tuple h1
    obtain ⟨as, ra⟩ := BrAll.reads I h2 rv
    exact ⟨_, .tuple e c hd (by simpa using ra)⟩
  | .list ds, _, u, h, r => by
    rw [Br] at h
    obtain ⟨a, xs, e1, h1, h2⟩ := h
    subst e1
    cases r
    obtain ⟨its, rv, ⟨o, n, e, c, _, hd⟩, _⟩ := I.list h1
    obtain ⟨as, ra⟩ := BrAll.reads I h2 rv
    exact ⟨_, .list e c hd (by simpa using ra)⟩
  | .dict _, _, _, h, _ => by rw [Br] at h; exact h.elim
theorem BrAll.reads {pins : List (Addr × Obj)} {σ : St} {H : Hp} {s : Shared} (I : Inv X pins σ H s) : ∀ {ds : List PyData} {xs : List V} {us : List Value}, BrAll X.K H ds xs → Vals xs us → ∃ as, ReadsAll s.heap us ds as
  | [], _, us, h, r => by rw [BrAll] at h; subst h; cases r; exact ⟨_, .nil⟩
  | _ :: _, _, us, h, r => by
    rw [BrAll] at h
    obtain ⟨x, q, e1, h1, h2⟩ := h
    subst e1
    cases r with
    | cons r1 r2 =>
      obtain ⟨as, ra⟩ := Br.reads I h1 r1
      obtain ⟨bs, rb⟩ := BrAll.reads I h2 r2
      exact ⟨_, .cons ra rb⟩
end
def rEqD (K : PySem.W.Frag) (neg : Bool) : R2 := fun x y H Q => ∃ d e, Br K H d x ∧ Br K H e y ∧ SeqAt.shaped d = true ∧ SeqAt.shaped e = true ∧ Q (.bl (if neg then !PyData.eqv d e else PyData.eqv d e)) H
theorem op_eqD (hu : X.A.units + 64 < cLine) : OpR X (compareOp .Eq) (rEqD X.K false) := by
  intro pins s σ H x y v u Q I rx ry h
  obtain ⟨d, e, h1, h2, s1, s2, q⟩ := h
  obtain ⟨as, ra⟩ := Br.reads I h1 rx
  obtain ⟨bs, rb⟩ := Br.reads I h2 ry
  exact eq_dataH ra rb s1 s2 hu ⟨.bl _, H, I, rfl, q⟩
end
end L2
set_option Elab.async false
namespace L2
open PySem PySem.Spec PyProof.Rows
structure Fn (K : PySem.W.Frag) (mg : Str → Option Value) (x : Str) (st : Stmt) (ps : List Str) (f : Addr) (fd : FuncData) : Prop where
  F : Fun K x x st f fd
  b : Binds K fd ps []
  m : mg x = some (.ref f)
section
variable {X : Cx} {k : Nat} {f : Addr} {fd : FuncData} {ps : List Str} {sp : Sp} {x : Str} {st : Stmt} {p pos : Pos} {e : Expr} {es : List Expr} {t : TA}
theorem pe_fn (T : Fn X.K X.mg x st ps f fd) (G : FnOk X.prog X.w X.K X.mg X.base CX0 k f fd ps sp) (hr : Room k X.A) (hg : Gl X x) (ha : PA X (e :: es) t)
    (hdb : (x == ("__debug__" : Str)) = false := by decide) (he : starEach (e :: es) X.env = (false, eval e X.env) :: starEach es X.env := by rfl) (hpl : (backTo pos (starEach es X.env)).any (·.1) = false := by rfl) :
    PE X (.Call (.Name x p) (e :: es) [] pos) (tCall sp [] E0 t) := pe_call G hr hg T.m T.F.kp T.b .nil pass0 ha hdb he hpl
end
theorem sz2 : 2 ≤ sizeLine := by decide
theorem sz1 : 1 ≤ sizeLine := by decide
theorem same_new {H : Hp} {p : Addr} (h : H p = none) (o : HO) : Same H (upd H p o) := fun b u q => by rw [upd_ne (ne_of_none q h)]; exact q
end L2
set_option Elab.async false
set_option linter.all false
set_option maxRecDepth 100000
set_option maxHeartbeats 4000000
namespace L2
open PySem PySem.Spec PyProof.Rows
def PIf (X : Cx) (ifs : List Expr) (t : TT) : Prop :=
  ∀ (pins : List (Addr × Obj)) (s : Shared) (σ : St) (H : Hp) (Q : Bool → Hp → Prop), Inv X pins σ H s → t σ H Q →
    wpAny (model X.prog X.w) X.A (forIn ifs true fun c r => if r = true then do let ok ← isTrue c X.env (eval c X.env); pure (ForInStep.yield ok) else pure (ForInStep.yield r)) (TP X pins σ Q) X.xe s
def tNoIf : TT := fun _ H Q => Q true H
theorem pif_nil {X : Cx} : PIf X [] tNoIf := fun _ _ σ H _ I h => wpAny_tests_nil ⟨H, I, h⟩
theorem pif_one {X : Cx} {c : Expr} {t : TT} (h : PT X c t) : PIf X [c] t := by
  intro pins s σ H Q I hw
  simp only [List.forIn_cons, List.forIn_nil, if_true]
  refine wpAny_bind (wpAny_bind (thn (h pins s σ H Q I hw) fun b s1 q => ?_))
  exact wpAny_pure (wpAny_pure q)
def frOk (N XN : List Str) (sc xsc : Scope) : List (Option Nat) → Nat → Bool
  | [], _ => true
  | none :: r, i => frOk N XN sc xsc r (i + 1)
  | some j :: r, i => (match N[i]?, XN[j]? with
      | some n, some m => n == m && sc.names.lookup n == some .free && xsc.names.lookup n == some .cell
      | _, _ => false) && frOk N XN sc xsc r (i + 1)
theorem frOk_get {N XN : List Str} {sc xsc : Scope} : ∀ {fr : List (Option Nat)} {k : Nat}, frOk N XN sc xsc fr k = true → ∀ {i j : Nat}, fr[i]? = some (some j) →
    ∃ n, N[k + i]? = some n ∧ XN[j]? = some n ∧ sc.names.lookup n = some .free ∧ xsc.names.lookup n = some .cell
  | [], _, _, i, j, e => by simp at e
  | none :: r, k, h, 0, j, e => by simp at e
  | none :: r, k, h, i + 1, j, e => by
    have q := frOk_get (fr := r) (k := k + 1) h (i := i) (j := j) (by simpa using e)
    have z : k + (i + 1) = k + 1 + i := by omega
    rw [z]; exact q
  | some j' :: r, k, h, 0, j, e => by
    have e' : j' = j := by simpa using e
    subst e'
    rw [frOk, Bool.and_eq_true] at h
    have h1 := h.1
    split at h1
    · rename_i n m hn hm
      simp only [Bool.and_eq_true, beq_iff_eq] at h1
      obtain ⟨⟨rfl, h2⟩, h3⟩ := h1
      exact ⟨n, by simpa using hn, hm, h2, h3⟩
    · cases h1
  | some j' :: r, k, h, i + 1, j, e => by
    rw [frOk, Bool.and_eq_true] at h
    have q := frOk_get (fr := r) (k := k + 1) h.2 (i := i) (j := j) (by simpa using e)
    have z : k + (i + 1) = k + 1 + i := by omega
    rw [z]; exact q
def carry (fr : List (Option Nat)) (σ : St) : St := fr.map fun o => match o with
  | some j => (σ[j]?).join
  | none => none
theorem carry_get {fr : List (Option Nat)} {σ : St} {i : Nat} {v : V} (h : (carry fr σ)[i]? = some (some v)) : ∃ j, fr[i]? = some (some j) ∧ σ[j]? = some (some v) := by
  unfold carry at h
  rw [List.getElem?_map] at h
  cases e : fr[i]? with
  | none => rw [e] at h; cases h
  | some o =>
    rw [e] at h
    cases o with
    | none => simp at h
    | some j =>
      refine ⟨j, rfl, ?_⟩
      simp only [Option.map_some, Option.some.injEq] at h
      cases q : σ[j]? with
      | none => rw [q] at h; cases h
      | some w => rw [q] at h; simp at h; rw [h]
theorem closure_of {env : Env} : ∀ (names : List (Str × NameKind)) (cs : List (Str × Addr)), (∀ x ∈ names, x.2 = NameKind.free → ∃ c, env.cells.lookup x.1 = some c) → (∀ x c, cs.lookup x = some c → env.cells.lookup x = some c) →
    ∃ cl, (forIn names cs (fun (x : Str × NameKind) (r : List (Str × Addr)) => do if (x.2 == NameKind.free) = true then do let a ← cellOf env x.1; pure (ForInStep.yield ((x.1, a) :: r)) else pure (ForInStep.yield r)) : Sem (List (Str × Addr))) = pure cl ∧
      (∀ x c, cl.lookup x = some c → env.cells.lookup x = some c) ∧ (∀ x, (∃ c, cs.lookup x = some c) → ∃ c, cl.lookup x = some c) ∧ ∀ x ∈ names, x.2 = NameKind.free → ∃ c, cl.lookup x.1 = some c
  | [], cs, _, h2 => ⟨cs, rfl, h2, fun _ q => q, fun _ z => (by cases z)⟩
  | (n, k) :: r, cs, h1, h2 => by
    rw [List.forIn_cons]
    by_cases hk : (k == NameKind.free) = true
    · obtain ⟨c, hc⟩ := h1 (n, k) List.mem_cons_self (by simpa using hk)
      have h2' : ∀ x c', ((n, c) :: cs).lookup x = some c' → env.cells.lookup x = some c' := fun x c' e => by
        rw [List.lookup_cons] at e
        cases hx : x == n with
        | true => rw [hx] at e; have := beq_iff_eq.mp hx; subst this; simp at e; rw [← e]; exact hc
        | false => rw [hx] at e; exact h2 x c' e
      obtain ⟨cl, q1, q2, q3, q4⟩ := closure_of r ((n, c) :: cs) (fun x hx => h1 x (List.mem_cons_of_mem _ hx)) h2'
      have hn : ∃ c', cl.lookup n = some c' := q3 n ⟨c, by rw [List.lookup_cons, beq_self_eq_true]⟩
      refine ⟨cl, ?_, q2, fun x hx => ?_, fun x hx hf => ?_⟩
      · simp only [hk, if_true]
        unfold cellOf
        rw [hc]
        exact q1
      · refine q3 x ?_
        rw [List.lookup_cons]
        cases hxn : x == n with
        | true => exact ⟨c, rfl⟩
        | false => exact hx
      · rcases List.mem_cons.mp hx with e | hx
        · subst e; exact hn
        · exact q4 x hx hf
    · obtain ⟨cl, q1, q2, q3, q4⟩ := closure_of r cs (fun x hx => h1 x (List.mem_cons_of_mem _ hx)) h2
      refine ⟨cl, ?_, q2, q3, fun x hx hf => ?_⟩
      · simp only [hk]
        exact q1
      · rcases List.mem_cons.mp hx with e | hx
        · subst e; exact absurd (by simpa using hf) hk
        · exact q4 x hx hf
def cxComp (X : Cx) (scope : Scope) (cl : List (Str × Addr)) (N : List Str) (C : Addr) (s₀ : Shared) (H₀ : Hp) (fp : List Addr) : Cx where
  prog := X.prog
  w := X.w
  K := X.K
  mg := X.mg
  base := X.base
  A := X.A
  N := N
  s₀ := s₀
  H₀ := H₀
  env := compEnvC scope cl C X.env
  outer := X.stack
  stack := X.stack
  ex := fp
  fn := fun _ => false
  calm := X.calm
  pn := []
  xe := fun _ _ => False
def tComp (wi : TI) (fr : List (Option Nat)) (ix : Nat) (tif : TT) (te : TE) : TE := fun σ H Q => wi σ H fun J H1 => ∀ D, H1 D = none → ∃ W : Nat → Nat → List V → Hp → Prop, (∃ m, W 0 m [] (upd H1 D (.lst []))) ∧
  ∀ i m ys H, W i m ys H → H D = some (.lst ys) ∧ ((J.stop i H ∧ Q (.ref D) H) ∨ (J.go i H ∧ ys.length < sizeLine ∧ ∀ x H', J.yld i H x H' →
    tif ((carry fr σ).set ix (some x)) H' fun b H2 => if b = true then te ((carry fr σ).set ix (some x)) H2 fun y H3 => H3 D = some (.lst ys) ∧ ∃ m', m' < m ∧ W (i + 1) m' (ys ++ [y]) (upd H3 D (.lst (ys ++ [y])))
      else ∃ m', m' < m ∧ W (i + 1) m' ys H2))
structure CompScope (scope : Scope) (N : List Str) (x : Str) (ix : Nat) : Prop where
  kind : scope.kind = .function
  cell : ∀ y ∈ scope.names, y.2 ≠ .cell
  names : ∀ y ∈ scope.names, y.2 = .local → scope.names.lookup y.1 = some .local
  free : ∀ y ∈ scope.names, y.2 = .free → scope.names.lookup y.1 = some .free
  loc : scope.names.lookup x = some .local
  nd : N.Nodup
  at_ : N[ix]? = some x
theorem lookup_mem {names : List (Str × NameKind)} {n : Str} {k : NameKind} : names.lookup n = some k → (n, k) ∈ names := by
  induction names with
  | nil => intro h; cases h
  | cons y r ih =>
    intro h
    obtain ⟨m, j⟩ := y
    rw [List.lookup_cons] at h
    cases e : n == m with
    | true => rw [e] at h; have := beq_iff_eq.mp e; subst this; simp at h; subst h; exact List.mem_cons_self
    | false => rw [e] at h; exact List.mem_cons_of_mem _ (ih h)
theorem relabel_kind {scope : Scope} {env : Env} (hc : ∀ y ∈ scope.names, y.2 ≠ .cell) {n : Str} (h : (relabel scope env).names.lookup n = some .cell ∨ (relabel scope env).names.lookup n = some .free) : ∃ k, (n, k) ∈ scope.names ∧ k = NameKind.free := by
  have key : ∀ k', (relabel scope env).names.lookup n = some k' → (k' = .cell ∨ k' = .free) → ∃ k, (n, k) ∈ scope.names ∧ k = NameKind.free := fun k' h hk => by
    have hm := lookup_mem h
    unfold relabel at hm
    obtain ⟨⟨m, k⟩, hy, e⟩ := List.mem_map.mp hm
    dsimp only at e
    by_cases hcond : (k == NameKind.free && env.scope.kind == .function && env.kindOf m == some .cell) = true
    · rw [if_pos hcond] at e
      injection e with e1 e2
      subst e1
      refine ⟨k, hy, ?_⟩
      simp only [Bool.and_eq_true, beq_iff_eq] at hcond
      exact hcond.1.1
    · rw [if_neg hcond] at e
      injection e with e1 e2
      subst e1 e2
      rcases hk with rfl | rfl
      · exact absurd rfl (hc _ hy)
      · exact ⟨_, hy, rfl⟩
  rcases h with h | h
  · exact key _ h (.inl rfl)
  · exact key _ h (.inr rfl)
section
variable {X : Cx} {elt iter : Expr} {x : Str} {px pos : Pos} {ifs : List Expr} {scope : Scope} {wi : TI} {fr : List (Option Nat)} {ix : Nat} {tif : TT} {te : TE} {N : List Str}
theorem comp_block {pins : List (Addr × Obj)} {σ : St} {H2 : Hp} {s2 : Shared} {Q : VK} {it : Addr} {fp : List Addr} {tn : Nat → Heap → Prop} {J : It} {cl : List (Str × Addr)} {E : Value → Shared → Prop} {RR : Value → Addr → Result → Shared → Prop}
    (S : CompScope scope N x ix) (hcalm : X.calm = true) (hfr : frOk N X.N scope X.env.scope fr 0 = true) (hlen : fr.length = N.length)
    (hif : ∀ cl C s₀ H₀ fp, PIf (cxComp X scope cl N C s₀ H₀ fp) ifs tif) (he : ∀ cl C s₀ H₀ fp, PE (cxComp X scope cl N C s₀ H₀ fp) elt te)
    (I2 : Inv X pins σ H2 s2) (T : Turn X.prog X.w X.K (.Name x px) J fp it tn) (st2 : tn 0 s2.heap) (f2 : ∀ b ∈ fp, FpOk X pins H2 b)
    (c1 : ∀ x c, cl.lookup x = some c → X.env.cells.lookup x = some c) (c2 : ∀ x ∈ scope.names, x.2 = NameKind.free → ∃ c, cl.lookup x.1 = some c)
    (W : ∀ D, H2 D = none → ∃ W : Nat → Nat → List V → Hp → Prop, (∃ m, W 0 m [] (upd H2 D (.lst []))) ∧
      ∀ i m ys H, W i m ys H → H D = some (.lst ys) ∧ ((J.stop i H ∧ Q (.ref D) H) ∨ (J.go i H ∧ ys.length < sizeLine ∧ ∀ x H', J.yld i H x H' →
        tif ((carry fr σ).set ix (some x)) H' fun b H2 => if b = true then te ((carry fr σ).set ix (some x)) H2 fun y H3 => H3 D = some (.lst ys) ∧ ∃ m', m' < m ∧ W (i + 1) m' (ys ++ [y]) (upd H3 D (.lst (ys ++ [y])))
          else ∃ m', m' < m ∧ W (i + 1) m' ys H2)))
    (fin : ∀ (D C : Addr) (s' : Shared) (H' : Hp) m, s'.heap.Ns C m → Q (.ref D) H' → (∀ h', Heap.SameBut C s'.heap h' → Inv X pins σ H' { s' with heap := h' }) → C ≠ D → (∀ b o, s2.heap.get? b = some o → b ≠ C) → H' C = none → s2.heap.objs.size ≤ C → RR (.ref D) C (.ok .next) s') :
    wpAny (model X.prog X.w) X.A (newList []) (fun acc s₃ => wpAny (model X.prog X.w) X.A (newFunctionEnv scope X.env.globals cl [] X.env.qual none .none (some X.env)) (fun cenv s₄ =>
      codeAny (model X.prog X.w) X.A (.compStart (.ListComp elt [⟨.Name x px, iter, ifs, 0⟩] scope pos) 0 (.ref it) acc { cenv with scope := relabel scope X.env }) (RR acc cenv.locals) s₄) E s₃) E s2 := by
  refine wpAny_newObj_type (wpAny_newFunctionEnv S.cell (by intro y hy; simp at hy) (fun h₁ hns₁ hsb₁ => ?_) S.kind)
  dsimp only at hns₁ hsb₁ ⊢
  generalize hHp : s2.heap.push { cls := .type "list", dict := none, data := .seq ([] : List Value).toArray } = Hq at hns₁ hsb₁ ⊢
  have hC : Hq.objs.size = s2.heap.objs.size + 1 := by rw [← hHp, Heap.size_push]
  have hDC : s2.heap.objs.size ≠ Hq.objs.size := by rw [hC]; exact Nat.ne_of_lt (Nat.lt_succ_self _)
  have below : ∀ b, b < s2.heap.objs.size → b ≠ Hq.objs.size ∧ b ≠ s2.heap.objs.size := fun b hb => ⟨by rw [hC]; exact Nat.ne_of_lt (Nat.lt_succ_of_lt hb), Nat.ne_of_lt hb⟩
  have old : ∀ b o, s2.heap.get? b = some o → h₁.get? b = some o := fun b o e => hsb₁.extBut b o (below b (Heap.lt_size e)).1 (Heap.get?_push_of_some _ (hHp ▸ Heap.get?_push_of_some _ e))
  have hacc : h₁.get? s2.heap.objs.size = some { cls := .type "list", data := .seq ([] : List Value).toArray } := hsb₁.extBut _ _ hDC (Heap.get?_push_of_some _ (hHp ▸ Heap.get?_push_size _ rfl))
  have hD2 : H2 s2.heap.objs.size = none := I2.hok.fresh (Nat.le_refl _)
  have hC2 : H2 Hq.objs.size = none := I2.hok.fresh (by rw [hC]; exact Nat.le_succ _)
  have fpo : ∀ b ∈ fp, b < s2.heap.objs.size := fun b hb => by
    obtain ⟨o, e, _⟩ := T.obj _ _ st2 b hb
    exact Heap.lt_size e
  obtain ⟨W, ⟨m0, w0⟩, turn⟩ := W s2.heap.objs.size hD2
  have ok : (cxComp X scope cl N Hq.objs.size s2 H2 fp).Ok := by
    refine ⟨I2.ok.mod, S.kind, I2.ok.glob, I2.ok.blt, by show s2.heap.objs.size ≤ Hq.objs.size; rw [hC]; exact Nat.le_succ _, ?_, ?_, ?_, fun _ => I2.ok.hd hcalm, I2.ok.frames, .inl rfl, ?_, I2.bs, Nat.le_trans I2.ok.bsz I2.sz, ?_, ?_, I2.stack, I2.stkFree⟩
    · exact fun a b c h1 h2 => I2.ok.inj a b c (c1 _ _ h1) (c1 _ _ h2)
    · intro y hy
      obtain ⟨k, hm, rfl⟩ := relabel_kind S.cell hy
      exact c2 _ hm rfl
    · intro y c hf
      cases hf
    · intro b hb
      refine ⟨(below b (fpo b hb)).1, fun y c e => ?_⟩
      obtain ⟨_, _, _, _, f5, _⟩ := f2 b hb
      exact f5 y c (c1 _ _ e)
    · intro b o e hb
      obtain ⟨_, _, _, f4, _, _⟩ := f2 b hb
      rcases f4 with z | z
      · exact I2.ok.noex b o e z
      · exact absurd (Nat.lt_of_lt_of_le (Heap.lt_size e) (Nat.le_trans I2.ok.bsz z)) (Nat.lt_irrefl _)
    · intro b hb hs
      obtain ⟨_, f1, f3, _⟩ := f2 b hb
      rcases List.mem_cons.mp (I2.stkSub b hs) with z | z
      · exact f1 z
      · exact f3 z
  have I4 : Inv (cxComp X scope cl N Hq.objs.size s2 H2 fp) [] (carry fr σ) (upd H2 s2.heap.objs.size (.lst [])) { s2 with heap := h₁, toks := s2.toks + ([] : List (Str × Value)).length } := by
    refine ⟨ok, rfl, I2.bare, Un.laid old (Nat.le_refl _) hD2, ⟨_, hns₁, fun i y v h1 h2 h3 => ?_⟩, fun y c e => ?_, ?_, fun y c e => ?_, fun p hp => (by cases hp), I2.hok.laid old (Nat.le_refl _) ⟨Nat.zero_le _, [], 0, .nil, hacc⟩, ?_⟩
    · obtain ⟨j, e1, e2⟩ := carry_get h2
      obtain ⟨n, n1, n2, n3, n4⟩ := frOk_get hfr e1
      rw [Nat.zero_add] at n1
      have : y = n := by
        have h1' : N[i]? = some y := h1
        rw [h1'] at n1; exact Option.some.inj n1
      subst this
      obtain ⟨m, hn, hl⟩ := I2.loc
      obtain ⟨u, ru, lk⟩ := hl j y v n2 e2 (.inr (.inl n4))
      refine ⟨u, ru, ?_⟩
      obtain ⟨c, hc⟩ := c2 _ (lookup_mem n3) rfl
      rcases lk with ⟨k1, _⟩ | ⟨_, c', hc', hcell⟩
      · have k1' : X.env.scope.names.lookup y = some .local := k1
        rw [n4] at k1'; cases k1'
      · have := c1 _ _ hc
        rw [hc'] at this; cases this
        refine .inr ⟨?_, c, hc, hcell.keeps old⟩
        rcases h3 with z | z | z
        · obtain ⟨k, hm⟩ : ∃ k, (y, k) ∈ scope.names ∧ k = NameKind.local := by
            have hm := lookup_mem z
            have hm' : (y, NameKind.local) ∈ (relabel scope X.env).names := hm
            unfold relabel at hm'
            obtain ⟨⟨m', k⟩, hy, e⟩ := List.mem_map.mp hm'
            dsimp only at e
            by_cases hcond : (k == NameKind.free && X.env.scope.kind == .function && X.env.kindOf m' == some .cell) = true
            · rw [if_pos hcond] at e; injection e with _ e2'; cases e2'
            · rw [if_neg hcond] at e; injection e with e1' e2'; subst e1' e2'; exact ⟨_, hy, rfl⟩
          obtain ⟨hm, rfl⟩ := hm
          have := S.names _ hm rfl
          rw [n3] at this; cases this
        · exact .inl z
        · exact .inr z
    · obtain ⟨v, z⟩ := I2.cell y c (c1 _ _ e)
      exact ⟨v, z.keeps old⟩
    · show upd H2 s2.heap.objs.size _ Hq.objs.size = none
      rw [upd_ne (Ne.symm hDC)]; exact hC2
    · obtain ⟨v, o, ho, _⟩ := I2.cell y c (c1 _ _ e)
      rw [upd_ne (below c (Heap.lt_size ho)).2]
      exact I2.freeC y c (c1 _ _ e)
    · show (carry fr σ).length = N.length
      unfold carry
      rw [List.length_map]; exact hlen
  have fpX : ∀ (p : List (Addr × Obj)) (H' : Hp), (∀ q ∈ p, q.1 ∈ fp → False) → (∀ b ∈ fp, H' b = none) → ∀ b ∈ fp, FpOk (cxComp X scope cl N Hq.objs.size s2 H2 fp) p H' b := fun p H' hp hn b hb => by
    obtain ⟨_, f1, f3, f4, f5, _⟩ := f2 b hb
    refine ⟨hn b hb, (below b (fpo b hb)).1, fun hs => ok.exfs b hb hs, .inl hb, fun y c e => f5 y c (c1 _ _ e), fun q hq e => ?_⟩
    exact hp q hq (e ▸ hb)
  have hxv : (relabel scope X.env).names.lookup x = some .local := lookup_relabel_local S.loc
  have loop : ∀ s₃ : Shared, s₃ = { s2 with heap := h₁, toks := s2.toks + ([] : List (Str × Value)).length } →
      codeAny (model X.prog X.w) X.A (.compLoop (.ListComp elt [⟨.Name x px, iter, ifs, 0⟩] scope pos) 0 (.ref it) (.ref s2.heap.objs.size) (compEnvC scope cl Hq.objs.size X.env)) (RR (.ref s2.heap.objs.size) Hq.objs.size) s₃ := by
    rintro s₃ rfl
    refine codeAny_compLoop_tests (fun n s' => ∃ i ys σ' H', Inv (cxComp X scope cl N Hq.objs.size s2 H2 fp) [] σ' H' s' ∧ (∀ v, σ'.set ix v = (carry fr σ).set ix v) ∧ tn i s'.heap ∧ (∀ b ∈ fp, H' b = none) ∧ W i n ys H') ?_ m0
      ⟨0, [], carry fr σ, _, I4, fun _ => rfl, T.keep _ _ _ st2 fun b _ o e => old b o e, fun b hb => by rw [upd_ne (below b (fpo b hb)).2]; exact (f2 b hb).1, w0⟩
    rintro n s3 ⟨i, ys, σ3, H3, I3, hσ, st3, fr3, w3⟩
    obtain ⟨hD3, way⟩ := turn i n ys H3 w3
    rcases way with ⟨stop, qn⟩ | ⟨go, hsz, step⟩
    · refine wpAny_mono (T.done (cxComp X scope cl N Hq.objs.size s2 H2 fp) rfl rfl rfl hcalm i [] s3 σ3 H3 (fun _ _ => False) I3 (fpX [] H3 (fun _ z => by cases z) fr3) st3 stop) (fun r s4 ⟨hr, I5⟩ => ?_) fun _ _ z => z.elim
      subst hr
      obtain ⟨m, hn, _⟩ := id I5.loc
      refine fin _ _ s4 H3 m hn qn (fun h' hs' => ?_) (Ne.symm hDC) (fun b o e => (below b (Heap.lt_size e)).1) I5.free (by rw [hC]; exact Nat.le_succ _)
      have nC : ∀ b u, H3 b = some u → b ≠ Hq.objs.size := fun b u e z => by
        have := I5.free
        rw [show (cxComp X scope cl N Hq.objs.size s2 H2 fp).env.locals = Hq.objs.size from rfl, ← z, e] at this
        cases this
      have keepU : Un (frs X.stack) fp H2 H3 s2.heap h' := by
        have u := I5.base
        refine ⟨fun b o e n hb hx => ?_, fun b o e n hb hx => ?_, fun b o e n hx => u.free b o e n hx, fun b o e hx => ?_, u.tups, u.frzs, u.tbls⟩
        · exact (hs'.2 b (below b (Heap.lt_size e)).1).trans (u.keep b o e n hb hx)
        · obtain ⟨sl, e1⟩ := u.slot b o e n hb hx
          exact ⟨sl, (hs'.2 b (below b (Heap.lt_size e)).1).trans e1⟩
        · obtain ⟨o', e1⟩ := u.there b o e hx
          exact ⟨o', (hs'.2 b (below b (Heap.lt_size e)).1).trans e1⟩
      have hok' : HOk X.prog X.w H3 h' := fun b u e => (I5.hok b u e).stay (fun c v hc q => (hs'.2 c (by
        rcases hc with rfl | hc
        · exact nC _ _ e
        · exact nC _ _ hc)).trans q) (fun _ q => q) fun _ _ q => q
      refine I2.call' (s' := { s4 with heap := h' }) (ch := fp) I5.os keepU hok' I5.bare fun b hb => ?_
      obtain ⟨_, f1, _, f4, f5, f6⟩ := f2 b hb
      exact ⟨f4, f1, f5, f6⟩
    · refine wpAny_mono (T.item (cxComp X scope cl N Hq.objs.size s2 H2 fp) rfl rfl rfl hcalm i [] s3 σ3 H3 (fun _ _ => False) I3 (fpX [] H3 (fun _ z => by cases z) fr3) st3 go) (fun r s4 ⟨u, hr, h4⟩ => ?_) fun _ _ z => z.elim
      subst hr
      show wpAny (model X.prog X.w) X.A (letOwnedTupleGo (.Name x px) (.ref it) u >>= fun _ => assign (.Name x px) (compEnvC scope cl Hq.objs.size X.env) u) _ _ s4
      refine wpAny_bind (wpAny_mono h4 (fun _ s5 ⟨xv, H5, I5, r5, y5, st5, fr5⟩ => ?_) fun _ _ z => z.elim)
      have I5' := I5.pinned (fpX [] H5 (fun _ z => by cases z) fr5) (T.obj _ _ st5)
      refine wpAny_assign_Name (store_ok I5' S.nd S.at_ (.inl hxv) r5 (fun s6 I6 => ?_) (.inr hxv))
      rw [hσ] at I6
      refine wpAny_mono (hif _ _ _ _ _ _ s6 _ H5 _ I6 (step xv H5 y5)) (fun b s7 ⟨H7, I7, q7⟩ => ?_) fun _ _ z => z.elim
      have again : ∀ {s8 : Shared} {H8 : Hp} {k : Nat} {zs : List V}, Inv (cxComp X scope cl N Hq.objs.size s2 H2 fp) ([] ++ pinsAt fp s5.heap) ((carry fr σ).set ix (some xv)) H8 s8 → W (i + 1) k zs H8 → k < n →
          ∃ m, m < n ∧ ∃ i ys σ' H', Inv (cxComp X scope cl N Hq.objs.size s2 H2 fp) [] σ' H' s8 ∧ (∀ v, σ'.set ix v = (carry fr σ).set ix v) ∧ tn i s8.heap ∧ (∀ b ∈ fp, H' b = none) ∧ W i m ys H' := fun {s8 H8 k zs} I8 w8 hk => by
        refine ⟨k, hk, i + 1, zs, _, H8, I8.unpinned, fun v => by rw [List.set_set], T.keep _ _ _ st5 fun b hb o e => (I8.pin (b, o) (List.mem_append_right _ (List.mem_append_right _ (mem_pinsAt hb e)))).1, fun b hb => ?_, w8⟩
        obtain ⟨o, e, d⟩ := T.obj _ _ st5 b hb
        exact (I8.pin (b, o) (List.mem_append_right _ (List.mem_append_right _ (mem_pinsAt hb e)))).2.1
      cases b with
      | false =>
        rw [if_neg Bool.false_ne_true] at q7 ⊢
        obtain ⟨k, hk, w7⟩ := q7
        exact again I7 w7 hk
      | true =>
        rw [if_pos rfl] at q7 ⊢
        refine wpAny_mono (he _ _ _ _ _ _ s7 _ H7 _ I7 q7) (fun yv s8 ⟨y, H8, I8, r8, hD8, k, hk, w8⟩ => ?_) fun _ _ z => z.elim
        refine wpAny_mono (mt_append (X := cxComp X scope cl N Hq.objs.size s2 H2 fp) _ s8 _ H8 (.ref s2.heap.objs.size) [y] (.ref s2.heap.objs.size) [yv] (fun _ H9 => H9 = upd H8 s2.heap.objs.size (.lst (ys ++ [y]))) I8 rfl (.cons r8 .nil) ⟨_, ys, y, rfl, rfl, hD8, hsz, rfl⟩) (fun _ s9 ⟨_, H9, I9, _, e9⟩ => ?_) fun _ _ z => z.elim
        subst e9
        exact again I9 w8 hk
  exact codeAny_compStart_list (loop _ rfl) (T.self X.A 0 _ _ _ (T.keep _ _ _ st2 fun b _ o e => old b o e) (loop _ rfl))
theorem pe_comp (S : CompScope scope N x ix) (hcalm : X.calm = true) (hfr : frOk N X.N scope X.env.scope fr 0 = true) (hlen : fr.length = N.length) (hfree : ∀ y ∈ scope.names, y.2 = .free → X.env.scope.names.lookup y.1 = some .cell ∨ X.env.scope.names.lookup y.1 = some .free)
    (hi : PI X (.Name x px) iter wi) (hif : ∀ cl C s₀ H₀ fp, PIf (cxComp X scope cl N C s₀ H₀ fp) ifs tif) (he : ∀ cl C s₀ H₀ fp, PE (cxComp X scope cl N C s₀ H₀ fp) elt te)
    (hs : ∀ x, foldedSetIterable iter X.env x = pure x := by intro _; rfl) : PE X (.ListComp elt [⟨.Name x px, iter, ifs, 0⟩] scope pos) (tComp wi fr ix tif te) := by
  intro pins s σ H Q I hw
  obtain ⟨cl, hclos, c1, _, c2⟩ := closure_of (env := X.env) scope.names [] (fun y hy hf => I.ok.has y.1 (hfree y hy hf)) (fun y c z => by cases z)
  have hclos' : closureFor scope X.env = pure cl := by
    have e : closureFor scope X.env = ((forIn scope.names [] (fun (x : Str × NameKind) (r : List (Str × Addr)) => do if (x.2 == NameKind.free) = true then do let a ← cellOf X.env x.1; pure (ForInStep.yield ((x.1, a) :: r)) else pure (ForInStep.yield r)) : Sem (List (Str × Addr))) >>= fun cs => pure cs) := rfl
    rw [e, hclos]
    rfl
  rw [eval_ListComp]
  refine wpAny_comprehension_free (use := none) rfl hs hclos' S.kind S.names (thn (hi pins s σ H _ I hw) fun v s1 h1 => thn h1 fun itv s2 h2 => ?_)
  obtain ⟨it, fp, tn, J, H2, e, I2, T, st2, f2, W⟩ := h2
  subst e
  refine comp_block (RR := fun acc C => compPost (model X.prog X.w) X.A X.xe none (EP X pins σ Q) acc C) S hcalm hfr hlen hif he I2 T st2 f2 c1 c2 W ?_
  intro D C s' H' m hn q hI _ _ _ _
  exact ⟨m, hn, fun h' hs' => ⟨.ref D, H', hI h' hs', rfl, q⟩⟩
theorem ps_setComp {i : Nat} {y : Str} {py spos : Pos} (hN : X.N.Nodup) (hy : X.N[i]? = some y) (hly : X.env.scope.names.lookup y = some .local) (S : CompScope scope N x ix) (hcalm : X.calm = true) (hfr : frOk N X.N scope X.env.scope fr 0 = true) (hlen : fr.length = N.length)
    (hfree : ∀ y ∈ scope.names, y.2 = .free → X.env.scope.names.lookup y.1 = some .cell ∨ X.env.scope.names.lookup y.1 = some .free)
    (hi : PI X (.Name x px) iter wi) (hif : ∀ cl C s₀ H₀ fp, PIf (cxComp X scope cl N C s₀ H₀ fp) ifs tif) (he : ∀ cl C s₀ H₀ fp, PE (cxComp X scope cl N C s₀ H₀ fp) elt te)
    (hsw : swapsWith (.ListComp elt [⟨.Name x px, iter, ifs, 0⟩] scope pos) (some (.Name y py)) spos.line X.env = pure true := by rfl)
    (hs : ∀ x, foldedSetIterable iter X.env x = pure x := by intro _; rfl) :
    PS X (.Assign [.Name y py] (.ListComp elt [⟨.Name x px, iter, ifs, 0⟩] scope pos) spos) (tAsg (tComp wi fr ix tif te) (gName i)) := by
  intro pins s σ H D I hw
  obtain ⟨cl, hclos, c1, _, c2⟩ := closure_of (env := X.env) scope.names [] (fun y hy hf => I.ok.has y.1 (hfree y hy hf)) (fun y c z => by cases z)
  have hclos' : closureFor scope X.env = pure cl := by
    have e : closureFor scope X.env = ((forIn scope.names [] (fun (x : Str × NameKind) (r : List (Str × Addr)) => do if (x.2 == NameKind.free) = true then do let a ← cellOf X.env x.1; pure (ForInStep.yield ((x.1, a) :: r)) else pure (ForInStep.yield r)) : Sem (List (Str × Addr))) >>= fun cs => pure cs) := rfl
    rw [e, hclos]
    rfl
  rw [exec_Assign_Name_used _ _ _ _ hsw]
  refine wpAny_bind (wpAny_standAt (wpAny_bind ?_))
  show wpAny _ X.A (do let _ ← comprehension (.ListComp elt [⟨.Name x px, iter, ifs, 0⟩] scope pos) scope X.env _ (newList []) false (eval iter X.env) (some (assign (.Name y py) X.env))) _ _ s
  refine wpAny_bind (wpAny_mono (wpAny_comprehension_free (use := some (assign (.Name y py) X.env)) (Q := fun _ s' => SP X pins D .next s') rfl hs hclos' S.kind S.names
    (thn (hi pins s σ H _ I hw) fun v s1 h1 => thn h1 fun itv s2 h2 => ?_)) (fun _ s' hq => wpAny_pure (wpAny_pure hq)) fun _ _ e => e)
  obtain ⟨it, fp, tn, J, H2, e, I2, T, st2, f2, W⟩ := h2
  subst e
  refine comp_block (Q := fun x H1 => gName i x σ H1 D.nx) (RR := fun acc C => compPost (model X.prog X.w) X.A X.xe (some (assign (.Name y py) X.env)) (fun _ s' => SP X pins D .next s') acc C) S hcalm hfr hlen hif he I2 T st2 f2 c1 c2 W ?_
  intro D' C s' H' m hn q hI hCD hold hfreeC hsz
  have I5 : Inv X pins σ H' s' := hI s'.heap (Heap.SameBut.refl ..)
  refine wpAny_assign_Name (store_ok2 I5 hN hy (.inl hly) (v := .ref D') rfl (fun s'' I6 ⟨a, hsb, ha⟩ => ?_) (.inr hly))
  have hL : C ≠ X.env.locals := fun z => by
    obtain ⟨_, ⟨o, _, _, e, _⟩, _⟩ := I2.loc
    exact hold _ _ e z.symm
  have hcl : ∀ z c, X.env.cells.lookup z = some c → c ≠ C := fun z c e => by
    obtain ⟨_, o, ho, _⟩ := I2.cell z c e
    exact hold _ _ ho
  have hCa : C ≠ a := by
    rcases ha with z | z
    · rw [z]; exact hL
    · exact Ne.symm (hcl _ _ z)
  refine ⟨m, hn.sameBut hsb hCa, fun h' hs' => ⟨_, H', I6.turned (t' := s''.toks) (it := C) (fun b o hb e => (hs'.2 b hb).trans e) hfreeC hL (.inr (Nat.le_trans I2.sz hsz)) hcl fun p hp => ?_, q⟩⟩
  obtain ⟨e, _⟩ := I2.pin p hp
  exact hold _ _ e
end
end L2
set_option Elab.async false
set_option linter.all false
set_option maxRecDepth 100000
set_option maxHeartbeats 4000000
namespace L2
open PySem PySem.Spec PyProof.Rows
section
variable {P : Program} {w : World} {K : PySem.W.Frag} {mg : Str → Option Value} {base : Heap} {N : List Str} {qual : Str} {scope : Scope} {f : Addr} {cd : Value} {A : Around} {outer : List Env} {s : Shared} {H : Hp} {E : XK}
end
section
variable {X : Cx} {x : Str} {C : Addr} {np cpos pos : Pos} {e : Expr} {te : TE} {E : XK}
end
end L2
set_option Elab.async false
set_option linter.all false
set_option maxRecDepth 100000
set_option maxHeartbeats 4000000
namespace L2
open PySem PySem.Spec PyProof.Rows
section
variable {X : Cx} {k : Nat} {f : Addr} {fd : FuncData} {ps : List Str} {sp : Sp} {x : Str} {st : Stmt} {p pos : Pos} {e : Expr} {es : List Expr} {t : TA}
end
end L2
set_option Elab.async false
set_option linter.all false
set_option maxRecDepth 100000
set_option maxHeartbeats 4000000
namespace L2
open PySem PySem.Spec PyProof.Rows
section
variable {X : Cx} {e : Expr} {t : TX} {x y z n : Str} {G : Addr} {py pz pn np spos tpos hpos pos : Pos} {i j k : Nat}
end
end L2
set_option Elab.async false
set_option linter.all false
set_option maxRecDepth 100000
set_option maxHeartbeats 4000000
namespace L2
open PySem PySem.Spec PyProof.Rows PySem.Builtin.ObjectAttr PySem.Builtin.Getset_descriptor
section
variable {prog : Program} {w : World} {A : Around} {E : Value → Shared → Prop} {K : PySem.W.Frag} {x C : Addr} {h : Heap} {g : Array GenState} {d : Drawn} {t : Nat} {os : OsState}
end
def clsV : V → Value
  | .ref C => .ref C
  | .ty n => .type n
  | _ => .none
theorem clsV_of {c : V} {u : Value} (r : RelV c u) (h : clsV c ≠ .none) : u = clsV c := by
  cases c with
  | ref C => exact r
  | ty n => exact r
  | _ => exact absurd rfl h
section
variable {X : Cx}
def rIsi (K : PySem.W.Frag) : List V → Hp → VK → Prop := fun xs H Q => ∃ x c t b, xs = [x, c] ∧ clsV c ≠ .none ∧ TyOf K H x t ∧ PySem.W.kitOne K t (clsV c) = some b ∧ Q (.bl b) H
theorem call_isi : CallR X (.builtin "isinstance") (rIsi X.K) := by
  intro pins s σ H xs us Q I r h
  obtain ⟨x, c, t, b, rfl, hc, ty, e, q⟩ := h
  obtain ⟨u, v, rfl, r1, r2⟩ := r.two
  rw [clsV_of r2 hc]
  exact isinst_ok I r1 ty e fun tk => ⟨.bl b, H, I.tok tk, rfl, q⟩
end
theorem kit_tt (K : PySem.W.Frag) : PySem.W.kitOne K (.type "tuple") (.type "tuple") = some true := rfl
theorem kit_ll (K : PySem.W.Frag) : PySem.W.kitOne K (.type "list") (.type "list") = some true := rfl
def freeOk (xsc : Scope) (names : List (Str × NameKind)) : Bool := names.all fun y => y.2 != .free || xsc.names.lookup y.1 == some .cell || xsc.names.lookup y.1 == some .free
theorem freeOk_of {xsc : Scope} {names : List (Str × NameKind)} (h : freeOk xsc names = true) : ∀ y ∈ names, y.2 = .free → xsc.names.lookup y.1 = some .cell ∨ xsc.names.lookup y.1 = some .free := fun y hy hf => by
  have q := List.all_eq_true.mp h y hy
  rw [hf] at q
  simp only [bne_self_eq_false, Bool.false_or, Bool.or_eq_true, beq_iff_eq] at q
  exact q
def compScopeOk (scope : Scope) (N : List Str) (x : Str) (ix : Nat) : Bool :=
  scope.kind == .function && (scope.names.all fun y => y.2 != .cell && (y.2 != .local || scope.names.lookup y.1 == some .local) && (y.2 != .free || scope.names.lookup y.1 == some .free)) && scope.names.lookup x == some .local && decide N.Nodup && N[ix]? == some x
theorem compScope_of {scope : Scope} {N : List Str} {x : Str} {ix : Nat} (h : compScopeOk scope N x ix = true) : CompScope scope N x ix := by
  unfold compScopeOk at h
  simp only [Bool.and_eq_true, beq_iff_eq, decide_eq_true_eq, List.all_eq_true, bne_iff_ne, Bool.or_eq_true] at h
  obtain ⟨⟨⟨⟨h1, h2⟩, h3⟩, h4⟩, h5⟩ := h
  exact ⟨h1, fun y hy => (h2 y hy).1.1, fun y hy hl => (h2 y hy).1.2.resolve_left fun z => z hl, fun y hy hl => (h2 y hy).2.resolve_left fun z => z hl, h3, h4, h5⟩
section
variable {X : Cx} {elt iter : Expr} {x : Str} {px pos : Pos} {ifs : List Expr} {scope : Scope} {wi : TI} {tif : TT} {te : TE}
theorem pe_compr (N : List Str) (ix : Nat) (fr : List (Option Nat)) (hi : PI X (.Name x px) iter wi) (hif : ∀ cl C s₀ H₀ fp, PIf (cxComp X scope cl N C s₀ H₀ fp) ifs tif) (he : ∀ cl C s₀ H₀ fp, PE (cxComp X scope cl N C s₀ H₀ fp) elt te)
    (h1 : compScopeOk scope N x ix = true := by decide +kernel) (h2 : X.calm = true := by rfl) (h3 : frOk N X.N scope X.env.scope fr 0 = true := by rfl) (h4 : fr.length = N.length := by rfl) (h5 : freeOk X.env.scope scope.names = true := by rfl)
    (hs : ∀ x, foldedSetIterable iter X.env x = pure x := by intro _; rfl) : PE X (.ListComp elt [⟨.Name x px, iter, ifs, 0⟩] scope pos) (tComp wi fr ix tif te) :=
  pe_comp (compScope_of h1) h2 h3 h4 (freeOk_of h5) hi hif he hs
theorem ps_setCompr {i : Nat} {y : Str} {py spos : Pos} (N : List Str) (ix : Nat) (fr : List (Option Nat)) (hN : X.N.Nodup) (hy : X.N[i]? = some y) (hly : X.env.scope.names.lookup y = some .local)
    (hi : PI X (.Name x px) iter wi) (hif : ∀ cl C s₀ H₀ fp, PIf (cxComp X scope cl N C s₀ H₀ fp) ifs tif) (he : ∀ cl C s₀ H₀ fp, PE (cxComp X scope cl N C s₀ H₀ fp) elt te)
    (h1 : compScopeOk scope N x ix = true := by decide +kernel) (h2 : X.calm = true := by rfl) (h3 : frOk N X.N scope X.env.scope fr 0 = true := by rfl) (h4 : fr.length = N.length := by rfl) (h5 : freeOk X.env.scope scope.names = true := by rfl)
    (hsw : swapsWith (.ListComp elt [⟨.Name x px, iter, ifs, 0⟩] scope pos) (some (.Name y py)) spos.line X.env = pure true := by rfl)
    (hs : ∀ x, foldedSetIterable iter X.env x = pure x := by intro _; rfl) : PS X (.Assign [.Name y py] (.ListComp elt [⟨.Name x px, iter, ifs, 0⟩] scope pos) spos) (tAsg (tComp wi fr ix tif te) (gName i)) :=
  ps_setComp hN hy hly (compScope_of h1) h2 h3 h4 (freeOk_of h5) hi hif he hsw hs
end
end L2
set_option Elab.async false
set_option linter.all false
set_option maxRecDepth 100000
set_option maxHeartbeats 4000000
namespace L2
open PySem PySem.Spec PyProof.Rows
section
variable {X : Cx} {k : Nat} {f : Addr} {fd : FuncData} {ps : List Str} {sp : Sp} {x : Str} {st : Stmt} {p pos : Pos} {e : Expr} {es : List Expr} {t : TA} {E : XK}
end
end L2
set_option Elab.async false
inductive Tr where
  | nil
  | cons (b r : Tr)
  deriving DecidableEq
namespace Tr
def bs : Tr → List Tr
  | .nil => []
  | .cons b r => b :: r.bs
def of : List Tr → Tr
  | [] => .nil
  | b :: r => .cons b (of r)
theorem of_bs : ∀ t : Tr, of t.bs = t
  | .nil => rfl
  | .cons b r => by rw [bs, of, of_bs r]
theorem bs_of : ∀ l : List Tr, (of l).bs = l
  | [] => rfl
  | b :: r => by rw [of, bs, bs_of r]
theorem bs_inj {t u : Tr} (h : t.bs = u.bs) : t = u := by rw [← of_bs t, h, of_bs]
def len : Tr → Nat
  | .nil => 0
  | .cons _ r => r.len + 1
theorem len_bs : ∀ t : Tr, t.bs.length = t.len
  | .nil => rfl
  | .cons _ r => by rw [bs, List.length_cons, len_bs r, len]
def knots : Tr → Nat
  | .nil => 1
  | .cons b r => b.knots + r.knots
def deep : Tr → Nat
  | .nil => 0
  | .cons b r => max (b.deep + 1) r.deep
def lt : Tr → Tr → Bool
  | .nil, .nil => false
  | .nil, .cons _ _ => true
  | .cons _ _, .nil => false
  | .cons b r, .cons c q => if b = c then lt r q else lt b c
theorem lt_irrefl : ∀ t : Tr, lt t t = false
  | .nil => rfl
  | .cons b r => by rw [lt, if_pos rfl]; exact lt_irrefl r
theorem lt_trans : ∀ a b c : Tr, lt a b = true → lt b c = true → lt a c = true
  | .nil, .nil, _, h, _ => by cases h
  | .nil, .cons _ _, .nil, _, h => by cases h
  | .nil, .cons _ _, .cons _ _, _, _ => rfl
  | .cons _ _, .nil, _, h, _ => by cases h
  | .cons _ _, .cons _ _, .nil, _, h => by cases h
  | .cons a r, .cons b s, .cons c t, h1, h2 => by
    rw [lt] at h1 h2 ⊢
    by_cases e1 : a = b
    · subst e1
      rw [if_pos rfl] at h1
      by_cases e2 : a = c
      · subst e2
        rw [if_pos rfl] at h2 ⊢
        exact lt_trans r s t h1 h2
      · rw [if_neg e2] at h2 ⊢; exact h2
    · rw [if_neg e1] at h1
      by_cases e2 : b = c
      · subst e2
        rw [if_neg e1]; exact h1
      · rw [if_neg e2] at h2
        have h3 := lt_trans a b c h1 h2
        by_cases e3 : a = c
        · subst e3
          rw [lt_irrefl] at h3; cases h3
        · rw [if_neg e3]; exact h3
theorem lt_total : ∀ a b : Tr, lt a b = false → lt b a = false → a = b
  | .nil, .nil, _, _ => rfl
  | .nil, .cons _ _, h, _ => by cases h
  | .cons _ _, .nil, _, h => by cases h
  | .cons a r, .cons b s, h1, h2 => by
    rw [lt] at h1 h2
    by_cases e : a = b
    · subst e
      rw [if_pos rfl] at h1 h2
      rw [lt_total r s h1 h2]
    · rw [if_neg e] at h1
      rw [if_neg (Ne.symm e)] at h2
      exact absurd (lt_total a b h1 h2) e
theorem lt_negTrans (a b c : Tr) (h : lt a c = true) : lt a b = true ∨ lt b c = true := by
  cases h1 : lt a b with
  | true => exact .inl rfl
  | false =>
    right
    cases h2 : lt b a with
    | true => exact lt_trans b a c h2 h
    | false => rw [← lt_total a b h1 h2]; exact h
theorem lt_asymm {a b : Tr} (h : lt a b = true) : lt b a = false := by
  cases h2 : lt b a with
  | false => rfl
  | true => have := lt_trans a b a h h2; rw [lt_irrefl] at this; cases this
def cmpL : List Tr → List Tr → Bool
  | [], [] => false
  | [], _ :: _ => true
  | _ :: _, [] => false
  | b :: r, c :: q => if b = c then cmpL r q else lt b c
theorem lt_bs : ∀ t u : Tr, lt t u = cmpL t.bs u.bs
  | .nil, .nil => rfl
  | .nil, .cons _ _ => rfl
  | .cons _ _, .nil => rfl
  | .cons b r, .cons c q => by
    rw [lt, bs, bs, cmpL, lt_bs r q]
def fall : Tr → Bool
  | .nil => true
  | .cons b r => b.fall && r.fall && (match r with
    | .nil => true
    | .cons c _ => !lt b c)
def ins (x : Tr) : List Tr → List Tr
  | [] => [x]
  | y :: r => if lt x y = true then y :: ins x r else x :: y :: r
def srt : List Tr → List Tr
  | [] => []
  | x :: r => ins x (srt r)
end Tr
set_option Elab.async false
namespace Tr
theorem fall_cons {b r : Tr} : (cons b r).fall = true ↔ b.fall = true ∧ r.fall = true ∧ ∀ c, r.bs[0]? = some c → lt b c = false := by
  cases r with
  | nil => simp [bs, fall]
  | cons c q =>
    rw [show (cons b (cons c q)).fall = (b.fall && (cons c q).fall && !lt b c) from rfl]
    simp only [Bool.and_eq_true, Bool.not_eq_true', bs, List.getElem?_cons_zero, Option.some.injEq, forall_eq', and_assoc]
theorem fall_iff : ∀ t : Tr, t.fall = true ↔ (∀ c ∈ t.bs, c.fall = true) ∧ ∀ (i : Nat) (a b : Tr), t.bs[i]? = some a → t.bs[i + 1]? = some b → lt a b = false
  | .nil => by simp [fall, bs]
  | .cons b r => by
    rw [fall_cons, fall_iff r, bs, List.forall_mem_cons]
    constructor
    · rintro ⟨h1, ⟨h2, h3⟩, h4⟩
      refine ⟨⟨h1, h2⟩, fun i x y ex ey => ?_⟩
      cases i with
      | zero => simp at ex; subst ex; exact h4 y (by simpa using ey)
      | succ i => exact h3 i x y (by simpa using ex) (by simpa using ey)
    · rintro ⟨⟨h1, h2⟩, h3⟩
      exact ⟨h1, ⟨h2, fun i x y ex ey => h3 (i + 1) x y (by simpa using ex) (by simpa using ey)⟩, fun c hc => h3 0 b c rfl (by simpa using hc)⟩
theorem deep_mem {t c : Tr} (h : c ∈ t.bs) : c.deep < t.deep := by
  induction t with
  | nil => cases h
  | cons b r _ ih =>
    rw [bs] at h
    have hd : (cons b r).deep = max (b.deep + 1) r.deep := rfl
    rcases List.mem_cons.mp h with rfl | h
    · omega
    · have := ih h; omega
theorem knots_pos : ∀ t : Tr, 0 < t.knots
  | .nil => Nat.one_pos
  | .cons b r => by rw [knots]; have := knots_pos b; omega
theorem deep_lt_knots : ∀ t : Tr, t.deep < t.knots
  | .nil => Nat.one_pos
  | .cons b r => by
    have h1 := deep_lt_knots b
    have h2 := deep_lt_knots r
    have h3 := knots_pos b
    have h4 := knots_pos r
    have hd : (cons b r).deep = max (b.deep + 1) r.deep := rfl
    have hk : (cons b r).knots = b.knots + r.knots := rfl
    omega
theorem knots_mem {t c : Tr} (h : c ∈ t.bs) : c.knots < t.knots := by
  induction t with
  | nil => cases h
  | cons b r _ ih =>
    rw [bs] at h
    have hk : (cons b r).knots = b.knots + r.knots := rfl
    have h3 := knots_pos b
    have h4 := knots_pos r
    rcases List.mem_cons.mp h with rfl | h
    · omega
    · have := ih h; omega
theorem len_lt_knots : ∀ t : Tr, t.bs.length < t.knots
  | .nil => Nat.one_pos
  | .cons b r => by
    rw [bs, List.length_cons, knots]
    have := len_lt_knots r
    have := knots_pos b
    omega
end Tr
set_option Elab.async false
namespace Tr
def PsOk (ps : List Nat) : Prop := 0 < ps.length ∧ ∀ k p, ps[k]? = some p → p < max k 1
def gStep (ps : List Nat) (k : Nat) (B : List (List Tr)) : List (List Tr) := B.set (ps.getD k 0) (B.getD (ps.getD k 0) [] ++ [of (srt (B.getD k []))])
def gB (ps : List Nat) : Nat → List (List Tr)
  | 0 => List.replicate ps.length []
  | i + 1 => gStep ps (ps.length - 1 - i) (gB ps i)
def grown (ps : List Nat) : Tr := of (srt ((gB ps (ps.length - 1)).getD 0 []))
theorem gB_len (ps : List Nat) : ∀ i, (gB ps i).length = ps.length
  | 0 => by simp [gB]
  | i + 1 => by rw [gB, gStep, List.length_set, gB_len ps i]
def par : Nat → List (List Nat)
  | 0 => [[]]
  | n + 1 => (par n).flatMap fun ps => (List.range (max n 1)).map fun p => ps ++ [p]
theorem mem_par : ∀ (n : Nat) (ps : List Nat), ps.length = n → (∀ k p, ps[k]? = some p → p < max k 1) → ps ∈ par n
  | 0, ps, h, _ => by
    have : ps = [] := List.eq_nil_of_length_eq_zero h
    subst this; exact List.mem_singleton.mpr rfl
  | n + 1, ps, h, hk => by
    have hne : ps ≠ [] := fun z => by subst z; simp at h
    rw [par, List.mem_flatMap]
    refine ⟨ps.dropLast, mem_par n _ (by rw [List.length_dropLast, h]; rfl) fun k p e => ?_, ?_⟩
    · refine hk k p ?_
      have hlt := (List.getElem?_eq_some_iff.mp e).1
      rw [List.length_dropLast] at hlt
      rw [List.getElem?_dropLast, if_pos hlt] at e
      exact e
    · refine List.mem_map.mpr ⟨ps.getLast hne, List.mem_range.mpr ?_, List.dropLast_concat_getLast hne⟩
      refine hk n _ ?_
      rw [List.getLast_eq_getElem, List.getElem?_eq_getElem (by omega)]
      congr 1
      simp [h]
theorem PsOk.mem {ps : List Nat} (h : PsOk ps) : ps ∈ par ps.length := mem_par _ ps rfl h.2
def fine (ps : List Nat) : Bool := (grown ps).fall && decide ((grown ps).knots = ps.length)
theorem fine_all : ((List.range 8).all fun n => n == 0 || (par n).all fine) = true := by decide +kernel
theorem fine_of {ps : List Nat} (h : PsOk ps) (h7 : ps.length ≤ 7) : (grown ps).fall = true ∧ (grown ps).knots = ps.length := by
  have h1 := List.all_eq_true.mp fine_all ps.length (List.mem_range.mpr (by omega))
  have h0 := h.1
  rw [Bool.or_eq_true] at h1
  rcases h1 with h1 | h1
  · exact absurd (by simpa using h1) (Nat.ne_of_gt h0)
  · have h2 := List.all_eq_true.mp h1 ps h.mem
    unfold fine at h2
    rw [Bool.and_eq_true, decide_eq_true_eq] at h2
    exact h2
end Tr
set_option Elab.async false
set_option linter.all false
set_option maxRecDepth 100000
set_option maxHeartbeats 4000000
namespace SM
open PySem.W PyProof.Rows
def Wp {α : Type} (lt : Nat → Nat → Bool) (n : Nat) : KasT α → (α → Prop) → Prop
  | .ret a, Q => Q a
  | .ask i j k, Q => i < n ∧ j < n ∧ Wp lt n (k (lt i j)) Q
theorem Wp.mono {α : Type} {lt : Nat → Nat → Bool} {n : Nat} {Q Q' : α → Prop} (hq : ∀ a, Q a → Q' a) : ∀ t : KasT α, Wp lt n t Q → Wp lt n t Q'
  | .ret a, h => hq a h
  | .ask i j k, h => ⟨h.1, h.2.1, Wp.mono hq (k (lt i j)) h.2.2⟩
theorem Wp.bind {α β : Type} {lt : Nat → Nat → Bool} {n : Nat} {f : α → KasT β} {Q : β → Prop} : ∀ t : KasT α, Wp lt n t (fun a => Wp lt n (f a) Q) → Wp lt n (t.bind f) Q
  | .ret _, h => h
  | .ask i j k, h => ⟨h.1, h.2.1, Wp.bind (k (lt i j)) h.2.2⟩
theorem getD_rev {p : Array Nat} {i j : Nat} (hj : j ≤ p.size) (k : Nat) : (kas_rev p i j).getD k 0 = if i ≤ k ∧ k < j then p.getD (i + j - 1 - k) 0 else p.getD k 0 := by
  have e := getElem?_mirror_all (i := i) hj k
  unfold kas_rev
  rw [Array.getD_eq_getD_getElem?, Array.getD_eq_getD_getElem?, Array.getD_eq_getD_getElem?, e]
  split <;> rfl
theorem getD_bubble {p : Array Nat} {src d : Nat} (hs : src < p.size) (hd : d ≤ src) (k : Nat) :
    (bubble p src d).getD k 0 = if k = src - d then p.getD src 0 else if src - d < k ∧ k ≤ src then p.getD (k - 1) 0 else p.getD k 0 := by
  have e := getElem?_bubble hs d hd k
  simp only [Array.getD_eq_getD_getElem?, e]
  split
  · rfl
  · split <;> rfl
section
variable {O : KeyOrd} {key : Nat → O.α} {n : Nat}
def Key (key : Nat → O.α) (p : Array Nat) (i : Nat) : O.α := key (p.getD i 0)
def Up (key : Nat → O.α) (p : Array Nat) (m : Nat) : Prop := ∀ i j, i ≤ j → j < m → O.kle (Key key p i) (Key key p j)
def Dn (key : Nat → O.α) (p : Array Nat) (m : Nat) : Prop := ∀ i j, i ≤ j → j < m → O.kle (Key key p j) (Key key p i)
structure Pm (n : Nat) (p : Array Nat) : Prop where
  perm : p.Perm (List.toArray (List.range n))
  pos : 0 < n
theorem Pm.size {p : Array Nat} (h : Pm n p) : p.size = n := by rw [h.perm.size_eq]; simp
theorem Pm.lt {p : Array Nat} (h : Pm n p) (i : Nat) : p.getD i 0 < n := by
  rw [Array.getD_eq_getD_getElem?]
  by_cases hi : i < p.size
  · rw [Array.getElem?_eq_getElem hi]
    have hm : p[i] ∈ p := Array.getElem_mem hi
    have := (h.perm.mem_iff).mp hm
    simpa using this
  · rw [Array.getElem?_eq_none (by omega)]
    exact h.pos
theorem Pm.rev {p : Array Nat} (h : Pm n p) (i j : Nat) : Pm n (kas_rev p i j) := ⟨(mirror_perm _ _ _ _).trans h.perm, h.pos⟩
theorem Pm.bubble {p : Array Nat} (h : Pm n p) (i j : Nat) : Pm n (bubble p i j) := ⟨(bubble_perm _ _ _).trans h.perm, h.pos⟩
abbrev ltOf (key : Nat → O.α) : Nat → Nat → Bool := fun i j => O.blt (key i) (key j)
theorem Up.one {p : Array Nat} : Up key p 1 := fun i j h1 h2 => by
  have : i = j := by omega
  subst this; exact KeyOrd.kle_refl _
theorem Up.more {p : Array Nat} {m : Nat} (h : Up key p m) (h1 : 1 ≤ m) (hk : O.kle (Key key p (m - 1)) (Key key p m)) : Up key p (m + 1) := fun i j hij hj => by
  by_cases e : j = m
  · subst e
    by_cases e2 : i = j
    · subst e2; exact KeyOrd.kle_refl _
    · exact KeyOrd.kle_trans (h i (j - 1) (by omega) (by omega)) hk
  · exact h i j hij (by omega)
theorem Dn.more {p : Array Nat} {m : Nat} (h : Dn key p m) (h1 : 1 ≤ m) (hk : O.kle (Key key p m) (Key key p (m - 1))) : Dn key p (m + 1) := fun i j hij hj => by
  by_cases e : j = m
  · subst e
    by_cases e2 : i = j
    · subst e2; exact KeyOrd.kle_refl _
    · exact KeyOrd.kle_trans hk (h i (j - 1) (by omega) (by omega))
  · exact h i j hij (by omega)
theorem asc {p : Array Nat} (hp : Pm n p) : ∀ (f m : Nat), 1 ≤ m → Up key p m → Wp (ltOf key) n (kas_asc p f m) fun r => m ≤ r ∧ r ≤ m + f ∧ Up key p r ∧ (r = m + f ∨ O.klt (Key key p r) (Key key p (r - 1)))
  | 0, m, _, h => ⟨Nat.le_refl _, Nat.le_refl _, h, .inl rfl⟩
  | f + 1, m, h1, h => by
    refine ⟨hp.lt _, hp.lt _, ?_⟩
    cases c : ltOf key (p.getD m 0) (p.getD (m - 1) 0) with
    | true => exact ⟨Nat.le_refl _, by omega, h, .inr c⟩
    | false =>
      simp only [Bool.false_eq_true, if_false]
      refine Wp.mono (fun r hr => ?_) _ (asc hp f (m + 1) (by omega) (h.more h1 c))
      exact ⟨by omega, by omega, hr.2.2.1, hr.2.2.2.elim (fun z => .inl (by omega)) .inr⟩
def Eq (key : Nat → O.α) (p : Array Nat) (m q : Nat) : Prop := q < m ∧ ∀ k, m - (q + 1) ≤ k → k < m → Key key p k = Key key p (m - 1)
theorem rev_eq {p : Array Nat} {m q : Nat} (h : Eq key p m q) (hm : m ≤ p.size) (k : Nat) : Key key (kas_rev p (m - (q + 1)) m) k = Key key p k := by
  unfold Key
  rw [getD_rev hm]
  split
  · have a := h.2 (m - (q + 1) + m - 1 - k) (by have := h.1; omega) (by have := h.1; omega)
    have b := h.2 k (by omega) (by omega)
    exact a.trans b.symm
  · rfl
theorem desc : ∀ (f : Nat) (p : Array Nat) (m q : Nat), Pm n p → 1 ≤ m → m + f ≤ n → Dn key p m → Eq key p m q → Wp (ltOf key) n (kas_desc f p m q) fun r => Pm n r.1 ∧ m ≤ r.2.1 ∧ r.2.1 ≤ m + f ∧ Dn key r.1 r.2.1 ∧ Eq key r.1 r.2.1 r.2.2
  | 0, p, m, q, hp, _, _, h, e => ⟨hp, Nat.le_refl _, Nat.le_refl _, h, e⟩
  | f + 1, p, m, q, hp, h1, hf, h, e => by
    refine ⟨hp.lt _, hp.lt _, ?_⟩
    have hm : m ≤ p.size := by rw [hp.size]; omega
    cases c : ltOf key (p.getD m 0) (p.getD (m - 1) 0) with
    | true =>
      have ck : O.klt (Key key p m) (Key key p (m - 1)) := c
      simp only [if_true]
      have fin : ∀ p' : Array Nat, Pm n p' → (∀ k, Key key p' k = Key key p k) → Wp (ltOf key) n (kas_desc f p' (m + 1) 0) fun r => Pm n r.1 ∧ m ≤ r.2.1 ∧ r.2.1 ≤ m + (f + 1) ∧ Dn key r.1 r.2.1 ∧ Eq key r.1 r.2.1 r.2.2 := fun p' hp' hk => by
        have hd : Dn key p' (m + 1) := fun i j hij hj => by rw [hk, hk]; exact h.more h1 (KeyOrd.kle_of_klt ck) i j hij hj
        have he : Eq key p' (m + 1) 0 := ⟨by omega, fun k h1 h2 => by rw [show k = m + 1 - 1 by omega]⟩
        exact Wp.mono (fun r hr => ⟨hr.1, by omega, by omega, hr.2.2.2.1, hr.2.2.2.2⟩) _ (desc f p' (m + 1) 0 hp' (by omega) (by omega) hd he)
      split
      · exact fin _ (hp.rev _ _) (rev_eq e hm)
      · exact fin _ hp fun _ => rfl
    | false =>
      simp only [Bool.false_eq_true, if_false]
      refine ⟨hp.lt _, hp.lt _, ?_⟩
      cases d : ltOf key (p.getD (m - 1) 0) (p.getD m 0) with
      | true =>
        simp only [if_true]
        exact ⟨hp, Nat.le_refl _, Nat.le_add_right _ _, h, e⟩
      | false =>
        simp only [Bool.false_eq_true, if_false]
        have ek : Key key p m = Key key p (m - 1) := KeyOrd.kle_antisymm (show O.kle (Key key p m) (Key key p (m - 1)) from d) (show O.kle (Key key p (m - 1)) (Key key p m) from c)
        refine Wp.mono (fun r hr => ⟨hr.1, by omega, by omega, hr.2.2.2.1, hr.2.2.2.2⟩) _ (desc f p (m + 1) (q + 1) hp (by omega) (by omega) (h.more h1 (by rw [ek]; exact KeyOrd.kle_refl _)) ⟨by have := e.1; omega, fun k h2 h3 => ?_⟩)
        rw [show m + 1 - 1 = m by omega, ek]
        by_cases z : k = m
        · rw [z, ek]
        · exact e.2 k (by omega) (by omega)
theorem up_rev {p : Array Nat} {m : Nat} (h : Dn key p m) (hm : m ≤ p.size) : Up key (kas_rev p 0 m) m := fun i j hij hj => by
  unfold Key
  rw [getD_rev hm, getD_rev hm, if_pos ⟨Nat.zero_le _, by omega⟩, if_pos ⟨Nat.zero_le _, by omega⟩]
  exact h (0 + m - 1 - j) (0 + m - 1 - i) (by omega) (by omega)
theorem tail3 {p : Array Nat} {m : Nat} (hp : Pm n p) (h1 : 1 ≤ m) (hm : m ≤ n) (h : Dn key p m) : Wp (ltOf key) n (kas_tail3 m n p) fun r => Pm n r.2 ∧ 1 ≤ r.1 ∧ r.1 ≤ n ∧ Up key r.2 r.1 := by
  unfold kas_tail3
  refine Wp.bind _ (Wp.mono (fun r hr => ?_) _ (asc (hp.rev 0 m) (n - m) m h1 (up_rev h (by rw [hp.size]; exact hm))))
  exact ⟨hp.rev 0 m, by omega, by omega, hr.2.2.1⟩
theorem descPart {p : Array Nat} {m : Nat} (hp : Pm n p) (h1 : 1 ≤ m) (hm : m + 1 ≤ n) (h : Dn key p (m + 1)) : Wp (ltOf key) n (kas_descPart m n p) fun r => Pm n r.2 ∧ 1 ≤ r.1 ∧ r.1 ≤ n ∧ Up key r.2 r.1 := by
  unfold kas_descPart
  refine Wp.bind _ (Wp.mono (fun r hr => ?_) _ (desc (n - (m + 1)) p (m + 1) 0 hp (by omega) (by omega) h ⟨by omega, fun k h1 h2 => by rw [show k = m + 1 - 1 by omega]⟩))
  obtain ⟨a, b, c, d, e⟩ := hr
  have hz : r.2.1 ≤ r.1.size := by rw [a.size]; omega
  split
  · refine tail3 (a.rev _ _) (by omega) (by omega) fun i j hij hj => ?_
    rw [rev_eq e hz, rev_eq e hz]
    exact d i j hij hj
  · exact tail3 a (by omega) (by omega) d
theorem count {p : Array Nat} (hp : Pm n p) : Wp (ltOf key) n (kas_count n p) fun r => Pm n r.2 ∧ 1 ≤ r.1 ∧ r.1 ≤ n ∧ Up key r.2 r.1 := by
  have hn := hp.pos
  unfold kas_count
  refine Wp.bind _ (Wp.mono (fun m hm => ?_) _ (asc hp (n - 1) 1 (Nat.le_refl _) Up.one))
  obtain ⟨h1, h2, h3, h4⟩ := hm
  split
  · exact ⟨hp, h1, by omega, h3⟩
  · rename_i hne
    have hne' : m ≠ n := by simpa using hne
    have hk : O.klt (Key key p m) (Key key p (m - 1)) := by
      rcases h4 with z | z
      · exact absurd (by omega) hne'
      · exact z
    have hz : m ≤ p.size := by rw [hp.size]; omega
    split
    · refine ⟨hp.lt _, hp.lt _, ?_⟩
      cases c : ltOf key (p.getD 0 0) (p.getD (m - 1) 0) with
      | true => simp only [if_true]; exact ⟨hp, h1, by omega, h3⟩
      | false =>
        simp only [Bool.false_eq_true, if_false]
        have all : ∀ k, k < m → Key key p k = Key key p (m - 1) := fun k hk' => KeyOrd.kle_antisymm (h3 k (m - 1) (by omega) (by omega)) (KeyOrd.kle_trans (show O.kle (Key key p (m - 1)) (Key key p 0) from c) (h3 0 k (by omega) hk'))
        have ek : ∀ k, Key key (kas_rev p 0 m) k = Key key p k := fun k => by
          by_cases hk' : k < m
          · have : Key key (kas_rev p 0 m) k = Key key p (0 + m - 1 - k) := by
              unfold Key; rw [getD_rev hz, if_pos ⟨Nat.zero_le _, hk'⟩]
            rw [this, all _ (by omega), all k hk']
          · unfold Key; rw [getD_rev hz, if_neg (by omega)]
        refine descPart (hp.rev _ _) h1 (by omega) fun i j hij hj => ?_
        rw [ek, ek]
        by_cases e : j = m
        · subst e
          by_cases e2 : i = j
          · subst e2; exact KeyOrd.kle_refl _
          · rw [all i (by omega)]; exact KeyOrd.kle_of_klt hk
        · rw [all i (by omega), all j (by omega)]; exact KeyOrd.kle_refl _
    · have : m = 1 := by omega
      subst this
      refine descPart hp h1 (by omega) fun i j hij hj => ?_
      by_cases e : i = j
      · subst e; exact KeyOrd.kle_refl _
      · rw [show i = 0 by omega, show j = 1 by omega]
        exact KeyOrd.kle_of_klt hk
theorem place {p : Array Nat} {k : Nat} (hp : Pm n p) (hs : Up key p k) : ∀ (f l r : Nat), l ≤ r → r ≤ k → r - l ≤ f → (∀ i, i < l → O.kle (Key key p i) (Key key p k)) → (∀ i, r ≤ i → i < k → O.klt (Key key p k) (Key key p i)) →
    Wp (ltOf key) n (kas_place p k f l r) fun x => x ≤ k ∧ (∀ i, i < x → O.kle (Key key p i) (Key key p k)) ∧ ∀ i, x ≤ i → i < k → O.klt (Key key p k) (Key key p i)
  | 0, l, r, h1, h2, h3, a, b => by
    have : l = r := by omega
    subst this
    exact ⟨h2, a, b⟩
  | f + 1, l, r, h1, h2, h3, a, b => by
    unfold kas_place
    split
    · have : l = r := by omega
      subst this
      exact ⟨h2, a, b⟩
    · refine ⟨hp.lt _, hp.lt _, ?_⟩
      cases c : ltOf key (p.getD k 0) (p.getD ((l + r) / 2) 0) with
      | true =>
        simp only [if_true]
        exact place hp hs f l ((l + r) / 2) (by omega) (by omega) (by omega) a fun i x1 x2 => KeyOrd.klt_of_klt_of_kle (show O.klt (Key key p k) (Key key p ((l + r) / 2)) from c) (hs _ _ x1 x2)
      | false =>
        simp only [Bool.false_eq_true, if_false]
        exact place hp hs f ((l + r) / 2 + 1) r (by omega) h2 (by omega) (fun i x1 => KeyOrd.kle_trans (hs i ((l + r) / 2) (by omega) (by omega)) (show O.kle (Key key p ((l + r) / 2)) (Key key p k) from c)) b
theorem bin : ∀ (f : Nat) (p : Array Nat) (k : Nat), Pm n p → 1 ≤ k → k + f = n → Up key p k → Wp (ltOf key) n (kas_bin f p k) fun r => Pm n r ∧ Up key r n
  | 0, p, k, hp, _, hk, h => by
    have : k = n := by omega
    subst this
    exact ⟨hp, h⟩
  | f + 1, p, k, hp, h1, hk, h => by
    have hks : k < p.size := by rw [hp.size]; omega
    refine Wp.bind _ (Wp.mono (fun l hl => ?_) _ (place hp h k 0 k (Nat.zero_le _) (Nat.le_refl _) (by omega) (fun i z => absurd z (by omega)) fun i z1 z2 => absurd z1 (by omega)))
    obtain ⟨hlk, hlo, hhi⟩ := hl
    refine bin f _ (k + 1) (hp.bubble _ _) (by omega) (by omega) fun i j hij hj => ?_
    have kb : ∀ x, Key key (PyProof.Rows.bubble p k (k - l)) x = if x = l then Key key p k else if l < x ∧ x ≤ k then Key key p (x - 1) else Key key p x := fun x => by
      unfold Key
      rw [getD_bubble hks (by omega), show k - (k - l) = l by omega]
      split
      · rfl
      · split <;> rfl
    rw [kb, kb]
    repeat' split
    all_goals first
      | (exfalso; omega)
      | exact KeyOrd.kle_refl _
      | exact hlo _ (by omega)
      | exact KeyOrd.kle_of_klt (hhi _ (by omega) (by omega))
      | exact h _ _ (by omega) (by omega)
theorem sort (hn : 0 < n) : Wp (ltOf key) n (kas_sort n) fun p => Pm n p ∧ Up key p n := by
  have hp : Pm n (List.toArray (List.range n)) := ⟨Array.Perm.refl _, hn⟩
  unfold kas_sort
  refine Wp.bind _ (Wp.mono (fun r hr => ?_) _ (count hp))
  obtain ⟨a, b, c, d⟩ := hr
  split
  · rw [show max r.1 1 = r.1 by omega]
    exact bin _ _ _ a b (by omega) d
  · have : r.1 = n := by omega
    rw [this] at d
    exact ⟨a, d⟩
end
end SM
set_option Elab.async false
set_option linter.all false
set_option maxRecDepth 100000
set_option maxHeartbeats 4000000
namespace TH
open PySem PyProof.Rows PySem.SeqAt
def Vs (h : Heap) : Tr → List Value → Prop
  | .nil, us => us = []
  | .cons b r, us => ∃ (a : Addr) (its rest : List Value), us = .ref a :: rest ∧ h.IsTuple a its.toArray ∧ Vs h b its ∧ Vs h r rest
theorem Vs.length {h : Heap} : ∀ {t : Tr} {us : List Value}, Vs h t us → us.length = t.len
  | .nil, us, e => by rw [Vs] at e; rw [e]; rfl
  | .cons b r, us, e => by
    rw [Vs] at e
    obtain ⟨a, its, rest, rfl, _, _, q⟩ := e
    rw [List.length_cons, Tr.len, Vs.length q]
theorem tuple_same {h : Heap} {a : Addr} {x y : Array Value} (h1 : h.IsTuple a x) (h2 : h.IsTuple a y) : x = y := by
  obtain ⟨o, e, _, n, d⟩ := h1
  obtain ⟨o', e', _, n', d'⟩ := h2
  rw [e] at e'; cases e'
  rw [d] at d'; cases d'; rfl
theorem Vs.inj {h : Heap} : ∀ {t u : Tr} {us : List Value}, Vs h t us → Vs h u us → t = u
  | .nil, .nil, _, _, _ => rfl
  | .nil, .cons _ _, us, e, f => by
    rw [Vs] at e
    rw [Vs] at f
    obtain ⟨_, _, _, f, _⟩ := f
    rw [e] at f; cases f
  | .cons _ _, .nil, us, e, f => by
    rw [Vs] at e
    rw [Vs] at f
    obtain ⟨_, _, _, e, _⟩ := e
    rw [f] at e; cases e
  | .cons b r, .cons c q, us, e, f => by
    rw [Vs] at e f
    obtain ⟨a, its, rest, rfl, h1, h2, h3⟩ := e
    obtain ⟨a', its', rest', e', k1, k2, k3⟩ := f
    cases e'
    have := tuple_same h1 k1
    have e2 : its = its' := by simpa using this
    subst e2
    rw [Vs.inj h2 k2, Vs.inj h3 k3]
theorem eqRow {s : Shared} : ∀ (t u : Tr) (A : Around) (us vs : List Value), Vs s.heap t us → Vs s.heap u vs → A.units + t.deep ≤ cLine →
    ∀ j (h1 : j < us.length) (h2 : j < vs.length), EqAt A s us[j] vs[j] (decide (t.bs[j]? = u.bs[j]?))
  | .nil, u, A, us, vs, e, f, _, j, h1, h2 => by
    rw [Vs] at e; subst e; exact absurd h1 (Nat.not_lt_zero _)
  | .cons b r, .nil, A, us, vs, e, f, _, j, h1, h2 => by
    rw [Vs] at f; subst f; exact absurd h2 (Nat.not_lt_zero _)
  | .cons b r, .cons c q, A, us, vs, e, f, hu, j, h1, h2 => by
    rw [Vs] at e f
    obtain ⟨a, its, rest, rfl, k1, k2, k3⟩ := e
    obtain ⟨a', its', rest', rfl, l1, l2, l3⟩ := f
    have hd : (Tr.cons b r).deep = max (b.deep + 1) r.deep := rfl
    cases j with
    | zero =>
      show EqAt A s (.ref a) (.ref a') (decide (some b = some c))
      by_cases ea : a = a'
      · subst ea
        have := tuple_same k1 l1
        have e2 : its = its' := by simpa using this
        subst e2
        rw [Vs.inj k2 l2, decide_eq_true rfl]
        exact EqAt.same _
      · refine EqAt.of_refs ea ?_
        have key := RcAt.tuples (s := s) (A := A) (e := fun j => decide (b.bs[j]? = c.bs[j]?)) k1 l1 (by omega) fun j x1 x2 => by
          have := eqRow b c A.in1 its its' k2 l2 (by rw [show A.in1.units = A.units + 1 from rfl]; omega) j (by simpa using x1) (by simpa using x2)
          simpa using this
        have ev : ((List.range (min its.toArray.size its'.toArray.size)).all (fun j => decide (b.bs[j]? = c.bs[j]?)) && its.toArray.size == its'.toArray.size) = decide (some b = some c) := by
          have z1 : its.toArray.size = b.bs.length := by rw [Tr.len_bs, ← Vs.length k2]; simp
          have z2 : its'.toArray.size = c.bs.length := by rw [Tr.len_bs, ← Vs.length l2]; simp
          rw [z1, z2]
          by_cases hbc : b = c
          · subst hbc; simp
          · rw [decide_eq_false (fun z => hbc (Option.some.inj z))]
            cases hl : b.bs.length == c.bs.length with
            | false => rw [Bool.and_false]
            | true =>
              rw [Bool.and_true]
              have hl' : b.bs.length = c.bs.length := by simpa using hl
              refine Bool.eq_false_iff.mpr fun z => hbc (Tr.bs_inj (List.ext_getElem? fun i => ?_))
              by_cases hi : i < b.bs.length
              · have := List.all_eq_true.mp z i (List.mem_range.mpr (by omega))
                simpa using this
              · rw [List.getElem?_eq_none (by omega), List.getElem?_eq_none (by omega)]
        rw [ev] at key
        exact key
    | succ j =>
      exact eqRow r q A rest rest' k3 l3 (by omega) j (by simpa using h1) (by simpa using h2)
theorem eqAt {s : Shared} {t u : Tr} {A : Around} {a b : Addr} {its its' : List Value} (h1 : s.heap.IsTuple a its.toArray) (k1 : Vs s.heap t its) (h2 : s.heap.IsTuple b its'.toArray) (k2 : Vs s.heap u its') (hu : A.units + t.deep < cLine) :
    EqAt A s (.ref a) (.ref b) (decide (t = u)) := by
  have := eqRow (.cons t .nil) (.cons u .nil) A [.ref a] [.ref b] ⟨a, its, [], rfl, h1, k1, by rw [Vs]⟩ ⟨b, its', [], rfl, h2, k2, by rw [Vs]⟩ (by show A.units + max (t.deep + 1) 0 ≤ cLine; omega) 0 (by simp) (by simp)
  simpa [Tr.bs] using this
theorem rcEq {s : Shared} {t u : Tr} {A : Around} {a b : Addr} {its its' : List Value} (h1 : s.heap.IsTuple a its.toArray) (k1 : Vs s.heap t its) (h2 : s.heap.IsTuple b its'.toArray) (k2 : Vs s.heap u its') (hu : A.units + t.deep < cLine) :
    RcAt A s (.ref a) (.ref b) (decide (t = u)) := by
  have key := RcAt.tuples (s := s) (A := A) (e := fun j => decide (t.bs[j]? = u.bs[j]?)) h1 h2 (by omega) fun j x1 x2 => by
    have := eqRow t u A.in1 its its' k1 k2 (by rw [show A.in1.units = A.units + 1 from rfl]; omega) j (by simpa using x1) (by simpa using x2)
    simpa using this
  have ev : ((List.range (min its.toArray.size its'.toArray.size)).all (fun j => decide (t.bs[j]? = u.bs[j]?)) && its.toArray.size == its'.toArray.size) = decide (t = u) := by
    have z1 : its.toArray.size = t.bs.length := by rw [Tr.len_bs, ← Vs.length k1]; simp
    have z2 : its'.toArray.size = u.bs.length := by rw [Tr.len_bs, ← Vs.length k2]; simp
    rw [z1, z2]
    by_cases hbc : t = u
    · subst hbc; simp
    · rw [decide_eq_false hbc]
      cases hl : t.bs.length == u.bs.length with
      | false => rw [Bool.and_false]
      | true =>
        rw [Bool.and_true]
        have hl' : t.bs.length = u.bs.length := by simpa using hl
        refine Bool.eq_false_iff.mpr fun z => hbc (Tr.bs_inj (List.ext_getElem? fun i => ?_))
        by_cases hi : i < t.bs.length
        · have := List.all_eq_true.mp z i (List.mem_range.mpr (by omega))
          simpa using this
        · rw [List.getElem?_eq_none (by omega), List.getElem?_eq_none (by omega)]
  rw [ev] at key
  exact key
section
open PySem.AutoSeq1 (wpAny_loadPart')
open PySem.MeetsSeq PySem.MeetsSeq2 PySem.MeetsSeq3
theorem tuple_lt (n0 : Nat) (ih : ∀ (t u : Tr) (A : Around) (s : Shared) (a b : Addr) (its its' : List Value), t.deep < n0 → s.heap.IsTuple a its.toArray → Vs s.heap t its → s.heap.IsTuple b its'.toArray → Vs s.heap u its' → A.units + t.deep < cLine →
      ∀ (prog : Program) (w : World) (E : Value → Shared → Prop) (Q : Value → Shared → Prop), Q (.bool (Tr.lt t u)) s → wpAny (model prog w) A (richCompare .Lt (.ref a) (.ref b)) Q E s)
    (l b : Addr) (items items2 : Array Value) (n n2 : Nat) (dd dd2 : Option Addr) (sl sl2 : Array (Option Value)) (t u : Tr) (ht : t.deep ≤ n0) :
    Meets (Builtin.«tuple.__lt__» ⟨[.ref l, .ref b], []⟩)
      (fun A R s => s.heap.get? l = some { cls := .type "tuple", dict := dd, data := .seq items n, slots := sl } ∧ s.heap.get? b = some { cls := .type "tuple", dict := dd2, data := .seq items2 n2, slots := sl2 } ∧
        Vs s.heap t items.toList ∧ Vs s.heap u items2.toList ∧ A.units + t.deep < cLine ∧ R (.ok (.ret (.bool (Tr.lt t u)))) s) :=
  .of_wp fun prog w A R s h => by
    obtain ⟨hp, g, d, tk, os⟩ := s; obtain ⟨hl, hb, hi, hj, hun, h⟩ := h
    have f2 := AutoSeq1.sub_tuple_tuple
    have z1 : items.size = t.len := by rw [← Vs.length hi]; simp
    have z2 : items2.size = u.len := by rw [← Vs.length hj]; simp
    wp_walk using wpAny_loadPart' hl, wpAny_loadPart' hb, wpAny_forIn_list _ (fun rest b s' => b.1 = none ∧ s' = ⟨hp, g, d, tk, os⟩ ∧ ∃ (vs ws : List Value) (t' u' : Tr), rest = vs.zip ws ∧
      Vs hp t' vs ∧ Vs hp u' ws ∧ t'.deep ≤ t.deep ∧ t'.len + items2.size = u'.len + items.size ∧ R (.ok (.ret (.bool (Tr.lt t' u')))) ⟨hp, g, d, tk, os⟩) _
    case turn =>
      rintro ⟨y, x⟩ rest b s' ⟨hb', rfl, vs, ws, t', u', hz, hvi, hwi, hdp, hlen, hR⟩
      cases t' with
      | nil => rw [Vs] at hvi; subst hvi; rw [List.zip_nil_left] at hz; cases hz
      | cons bt rt =>
        cases u' with
        | nil => rw [Vs] at hwi; subst hwi; rw [List.zip_nil_right] at hz; cases hz
        | cons bu ru =>
          rw [Vs] at hvi hwi
          obtain ⟨a1, i1, v1, rfl, p1, p2, p3⟩ := hvi
          obtain ⟨a2, i2, v2, rfl, q1, q2, q3⟩ := hwi
          rw [List.zip_cons_cons] at hz
          injection hz with hyx hrest
          injection hyx with hy hx
          subst hy hx
          have hdd : (Tr.cons bt rt).deep = max (bt.deep + 1) rt.deep := rfl
          rw [Tr.lt] at hR
          simp only [Tr.len] at hlen
          have he := eqAt (s := ⟨hp, g, d, tk, os⟩) (A := A.in1) p1 p2 q1 q2 (by rw [show A.in1.units = A.units + 1 from rfl]; omega)
          refine wpAny_bind (he prog w _ _ ?_)
          cases hc : decide (bt = bu) with
          | true =>
            rw [if_pos (of_decide_eq_true hc)] at hR
            wp_walk
            exact ⟨rfl, rfl, _, _, _, _, hrest, p3, q3, by omega, by omega, hR⟩
          | false =>
            rw [if_neg (of_decide_eq_false hc)] at hR
            have hri := ih bt bu A.in1 ⟨hp, g, d, tk, os⟩ a1 a2 i1 i2 (by omega) p1 p2 q1 q2 (by rw [show A.in1.units = A.units + 1 from rfl]; omega) prog w
            wp_walk using hri
            exact ⟨_, rfl, by simpa using hR⟩
    case fin =>
      rintro ⟨b1, b2⟩ s' ⟨hb', rfl, vs, ws, t', u', hz, hvi, hwi, hdp, hlen, hR⟩
      simp only at hb'
      subst hb'
      have hv : Tr.lt t' u' = decide (items.size < items2.size) := by
        cases t' with
        | nil =>
          cases u' with
          | nil =>
            simp only [Tr.len] at hlen
            exact (decide_eq_false (by omega)).symm
          | cons c q =>
            simp only [Tr.len] at hlen
            exact (decide_eq_true (by omega)).symm
        | cons bt rt =>
          cases u' with
          | nil =>
            simp only [Tr.len] at hlen
            exact (decide_eq_false (by omega)).symm
          | cons c q =>
            rw [Vs] at hvi hwi
            obtain ⟨_, _, _, rfl, _⟩ := hvi
            obtain ⟨_, _, _, rfl, _⟩ := hwi
            rw [List.zip_cons_cons] at hz
            cases hz
      rw [hv] at hR
      wp_walk
      exact ⟨_, rfl, by simpa [Builtin.Tuple.tupleCompareSizes] using hR⟩
    case h =>
      exact ⟨rfl, rfl, items.toList, items2.toList, t, u, rfl, hi, hj, Nat.le_refl _, by omega, h⟩
theorem rc_lt : ∀ (n0 : Nat) (t u : Tr) (A : Around) (s : Shared) (a b : Addr) (its its' : List Value), t.deep < n0 → s.heap.IsTuple a its.toArray → Vs s.heap t its → s.heap.IsTuple b its'.toArray → Vs s.heap u its' → A.units + t.deep < cLine →
      ∀ (prog : Program) (w : World) (E : Value → Shared → Prop) (Q : Value → Shared → Prop), Q (.bool (Tr.lt t u)) s → wpAny (model prog w) A (richCompare .Lt (.ref a) (.ref b)) Q E s
  | 0, _, _, _, _, _, _, _, _, h, _, _, _, _, _ => absurd h (Nat.not_lt_zero _)
  | n0 + 1, t, u, A, s, a, b, its, its', hd, hl, ht, hb, hu', hun => fun prog w E Q h => by
    obtain ⟨⟨cls, dd, data, sl⟩, ho, hc, n, hdt⟩ := id hl
    obtain ⟨⟨cls2, dd2, data2, sl2⟩, ho2, hc2, n2, hdt2⟩ := id hb
    simp only at hc hdt hc2 hdt2
    subst hc hdt hc2 hdt2
    exact richCompare_meets_room (op := .Lt) ⟨_, ho, rfl⟩ ⟨_, ho2, rfl⟩ PySem.F.slot_tuple_lt PySem.F.entry_tuple_lt (PySem.F.args_tuple_lt_2 _ _) (tuple_lt n0 (rc_lt n0) a b its.toArray its'.toArray n n2 dd dd2 sl sl2 t u (by omega))
      ⟨ho, ho2, by simpa using ht, by simpa using hu', hun, show Value.bool (Tr.lt t u) ≠ Value.notImplemented ∧ Q (.bool (Tr.lt t u)) s from ⟨(fun x => nomatch x), h⟩⟩ (by omega)
end
section
open PySem.AutoSeq1 (wpAny_loadPart')
open PySem.MeetsSeq PySem.MeetsSeq2 PySem.MeetsSeq3
theorem tuple_gt (n0 : Nat) (ih : ∀ (t u : Tr) (A : Around) (s : Shared) (a b : Addr) (its its' : List Value), t.deep < n0 → s.heap.IsTuple a its.toArray → Vs s.heap t its → s.heap.IsTuple b its'.toArray → Vs s.heap u its' → A.units + t.deep < cLine →
      ∀ (prog : Program) (w : World) (E : Value → Shared → Prop) (Q : Value → Shared → Prop), Q (.bool (Tr.lt u t)) s → wpAny (model prog w) A (richCompare .Gt (.ref a) (.ref b)) Q E s)
    (l b : Addr) (items items2 : Array Value) (n n2 : Nat) (dd dd2 : Option Addr) (sl sl2 : Array (Option Value)) (t u : Tr) (ht : t.deep ≤ n0) :
    Meets (Builtin.«tuple.__gt__» ⟨[.ref l, .ref b], []⟩)
      (fun A R s => s.heap.get? l = some { cls := .type "tuple", dict := dd, data := .seq items n, slots := sl } ∧ s.heap.get? b = some { cls := .type "tuple", dict := dd2, data := .seq items2 n2, slots := sl2 } ∧
        Vs s.heap t items.toList ∧ Vs s.heap u items2.toList ∧ A.units + t.deep < cLine ∧ R (.ok (.ret (.bool (Tr.lt u t)))) s) :=
  .of_wp fun prog w A R s h => by
    obtain ⟨hp, g, d, tk, os⟩ := s; obtain ⟨hl, hb, hi, hj, hun, h⟩ := h
    have f2 := AutoSeq1.sub_tuple_tuple
    have z1 : items.size = t.len := by rw [← Vs.length hi]; simp
    have z2 : items2.size = u.len := by rw [← Vs.length hj]; simp
    wp_walk using wpAny_loadPart' hl, wpAny_loadPart' hb, wpAny_forIn_list _ (fun rest b s' => b.1 = none ∧ s' = ⟨hp, g, d, tk, os⟩ ∧ ∃ (vs ws : List Value) (t' u' : Tr), rest = vs.zip ws ∧
      Vs hp t' vs ∧ Vs hp u' ws ∧ t'.deep ≤ t.deep ∧ t'.len + items2.size = u'.len + items.size ∧ R (.ok (.ret (.bool (Tr.lt u' t')))) ⟨hp, g, d, tk, os⟩) _
    case turn =>
      rintro ⟨y, x⟩ rest b s' ⟨hb', rfl, vs, ws, t', u', hz, hvi, hwi, hdp, hlen, hR⟩
      cases t' with
      | nil => rw [Vs] at hvi; subst hvi; rw [List.zip_nil_left] at hz; cases hz
      | cons bt rt =>
        cases u' with
        | nil => rw [Vs] at hwi; subst hwi; rw [List.zip_nil_right] at hz; cases hz
        | cons bu ru =>
          rw [Vs] at hvi hwi
          obtain ⟨a1, i1, v1, rfl, p1, p2, p3⟩ := hvi
          obtain ⟨a2, i2, v2, rfl, q1, q2, q3⟩ := hwi
          rw [List.zip_cons_cons] at hz
          injection hz with hyx hrest
          injection hyx with hy hx
          subst hy hx
          have hdd : (Tr.cons bt rt).deep = max (bt.deep + 1) rt.deep := rfl
          rw [Tr.lt] at hR
          simp only [Tr.len] at hlen
          have he := eqAt (s := ⟨hp, g, d, tk, os⟩) (A := A.in1) p1 p2 q1 q2 (by rw [show A.in1.units = A.units + 1 from rfl]; omega)
          refine wpAny_bind (he prog w _ _ ?_)
          cases hc : decide (bt = bu) with
          | true =>
            rw [if_pos (of_decide_eq_true hc).symm] at hR
            wp_walk
            exact ⟨rfl, rfl, _, _, _, _, hrest, p3, q3, by omega, by omega, hR⟩
          | false =>
            rw [if_neg (fun z => of_decide_eq_false hc z.symm)] at hR
            have hri := ih bt bu A.in1 ⟨hp, g, d, tk, os⟩ a1 a2 i1 i2 (by omega) p1 p2 q1 q2 (by rw [show A.in1.units = A.units + 1 from rfl]; omega) prog w
            wp_walk using hri
            exact ⟨_, rfl, by simpa using hR⟩
    case fin =>
      rintro ⟨b1, b2⟩ s' ⟨hb', rfl, vs, ws, t', u', hz, hvi, hwi, hdp, hlen, hR⟩
      simp only at hb'
      subst hb'
      have hv : Tr.lt u' t' = decide (items2.size < items.size) := by
        cases t' with
        | nil =>
          cases u' with
          | nil =>
            simp only [Tr.len] at hlen
            exact (decide_eq_false (by omega)).symm
          | cons c q =>
            simp only [Tr.len] at hlen
            exact (decide_eq_false (by omega)).symm
        | cons bt rt =>
          cases u' with
          | nil =>
            simp only [Tr.len] at hlen
            exact (decide_eq_true (by omega)).symm
          | cons c q =>
            rw [Vs] at hvi hwi
            obtain ⟨_, _, _, rfl, _⟩ := hvi
            obtain ⟨_, _, _, rfl, _⟩ := hwi
            rw [List.zip_cons_cons] at hz
            cases hz
      rw [hv] at hR
      wp_walk
      exact ⟨_, rfl, by simpa [Builtin.Tuple.tupleCompareSizes] using hR⟩
    case h =>
      exact ⟨rfl, rfl, items.toList, items2.toList, t, u, rfl, hi, hj, Nat.le_refl _, by omega, h⟩
theorem rc_gt : ∀ (n0 : Nat) (t u : Tr) (A : Around) (s : Shared) (a b : Addr) (its its' : List Value), t.deep < n0 → s.heap.IsTuple a its.toArray → Vs s.heap t its → s.heap.IsTuple b its'.toArray → Vs s.heap u its' → A.units + t.deep < cLine →
      ∀ (prog : Program) (w : World) (E : Value → Shared → Prop) (Q : Value → Shared → Prop), Q (.bool (Tr.lt u t)) s → wpAny (model prog w) A (richCompare .Gt (.ref a) (.ref b)) Q E s
  | 0, _, _, _, _, _, _, _, _, h, _, _, _, _, _ => absurd h (Nat.not_lt_zero _)
  | n0 + 1, t, u, A, s, a, b, its, its', hd, hl, ht, hb, hu', hun => fun prog w E Q h => by
    obtain ⟨⟨cls, dd, data, sl⟩, ho, hc, n, hdt⟩ := id hl
    obtain ⟨⟨cls2, dd2, data2, sl2⟩, ho2, hc2, n2, hdt2⟩ := id hb
    simp only at hc hdt hc2 hdt2
    subst hc hdt hc2 hdt2
    exact richCompare_meets_room (op := .Gt) ⟨_, ho, rfl⟩ ⟨_, ho2, rfl⟩ PySem.F.slot_tuple_gt PySem.F.entry_tuple_gt (PySem.F.args_tuple_gt_2 _ _) (tuple_gt n0 (rc_gt n0) a b its.toArray its'.toArray n n2 dd dd2 sl sl2 t u (by omega))
      ⟨ho, ho2, by simpa using ht, by simpa using hu', hun, show Value.bool (Tr.lt u t) ≠ Value.notImplemented ∧ Q (.bool (Tr.lt u t)) s from ⟨(fun x => nomatch x), h⟩⟩ (by omega)
end
end TH
set_option Elab.async false
set_option linter.all false
set_option maxRecDepth 100000
set_option maxHeartbeats 4000000
namespace Tr
theorem perm_ins (x : Tr) : ∀ l : List Tr, (ins x l).Perm (x :: l)
  | [] => .refl _
  | y :: r => by
    rw [ins]
    split
    · exact ((perm_ins x r).cons y).trans (.swap x y r)
    · exact .refl _
theorem perm_srt : ∀ l : List Tr, (srt l).Perm l
  | [] => .refl _
  | x :: r => by
    rw [srt]
    exact (perm_ins x (srt r)).trans ((perm_srt r).cons x)
abbrev Fall (l : List Tr) : Prop := l.Pairwise fun a b => lt a b = false
theorem fall_ins (x : Tr) : ∀ l : List Tr, Fall l → Fall (ins x l)
  | [], _ => List.pairwise_singleton _ _
  | y :: r, h => by
    obtain ⟨h1, h2⟩ := List.pairwise_cons.mp h
    rw [ins]
    split
    · rename_i c
      refine List.pairwise_cons.mpr ⟨fun z hz => ?_, fall_ins x r h2⟩
      rcases List.mem_cons.mp ((perm_ins x r).mem_iff.mp hz) with rfl | hz
      · exact lt_asymm c
      · exact h1 z hz
    · rename_i c
      have c' : lt x y = false := by simpa using c
      refine List.pairwise_cons.mpr ⟨fun z hz => ?_, h⟩
      rcases List.mem_cons.mp hz with rfl | hz
      · exact c'
      · cases e : lt x z with
        | false => rfl
        | true =>
          rcases lt_negTrans x y z e with q | q
          · rw [c'] at q; cases q
          · rw [h1 z hz] at q; cases q
theorem fall_srt : ∀ l : List Tr, Fall (srt l)
  | [] => List.Pairwise.nil
  | x :: r => by rw [srt]; exact fall_ins x _ (fall_srt r)
theorem fall_unique : ∀ {l m : List Tr}, Fall l → Fall m → l.Perm m → l = m
  | [], m, _, _, p => (List.nil_perm.mp p).symm
  | x :: r, [], _, _, p => absurd p.length_eq (by simp)
  | x :: r, y :: q, h1, h2, p => by
    obtain ⟨a1, a2⟩ := List.pairwise_cons.mp h1
    obtain ⟨b1, b2⟩ := List.pairwise_cons.mp h2
    have hx : x ∈ y :: q := p.mem_iff.mp List.mem_cons_self
    have hy : y ∈ x :: r := p.mem_iff.mpr List.mem_cons_self
    have e : x = y := by
      rcases List.mem_cons.mp hx with e | hx
      · exact e
      · rcases List.mem_cons.mp hy with e | hy
        · exact e.symm
        · exact lt_total x y (a1 y hy) (b1 x hx)
    subst e
    rw [fall_unique a2 b2 (List.Perm.cons_inv p)]
theorem srt_of {l m : List Tr} (h : Fall m) (p : m.Perm l) : m = srt l := fall_unique h (fall_srt l) (p.trans (perm_srt l).symm)
theorem srt_rev_of {l m : List Tr} (h : m.Pairwise fun a b => lt b a = false) (p : m.Perm l) : m = (srt l).reverse := by
  have : m.reverse = srt l := srt_of (List.pairwise_reverse.mpr h) ((List.reverse_perm m).trans p)
  rw [← this, List.reverse_reverse]
theorem deep_of (n : Nat) : ∀ l : List Tr, (of l).deep ≤ n ↔ ∀ c ∈ l, c.deep + 1 ≤ n
  | [] => by simp [of, deep]
  | b :: r => by
    rw [of, deep, List.forall_mem_cons, ← deep_of n r]
    omega
theorem deep_perm {l m : List Tr} (p : l.Perm m) : (of l).deep ≤ (of m).deep := (deep_of _ l).mpr fun c hc => (deep_of _ m).mp (Nat.le_refl _) c (p.mem_iff.mp hc)
theorem deep_rev (t : Tr) : (of t.bs.reverse).deep ≤ t.deep := by
  have := deep_perm (List.reverse_perm t.bs)
  rwa [of_bs] at this
def ord : PyProof.Rows.KeyOrd where
  α := Tr
  blt := lt
  irrefl := lt_irrefl
  trans := lt_trans
  negTrans := lt_negTrans
  total := lt_total
end Tr
namespace TH
open PySem PySem.W PyProof.Rows PySem.SeqAt
theorem Vs.at {h : Heap} : ∀ {t : Tr} {us : List Value} {i : Nat}, Vs h t us → i < us.length → ∃ (a : Addr) (its : List Value) (c : Tr), us.getD i Value.none = .ref a ∧ h.IsTuple a its.toArray ∧ Vs h c its ∧ t.bs[i]? = some c ∧ c.deep < t.deep
  | .nil, us, i, e, hi => by rw [Vs] at e; subst e; exact absurd hi (Nat.not_lt_zero _)
  | .cons b r, us, i, e, hi => by
    rw [Vs] at e
    obtain ⟨a, its, rest, rfl, h1, h2, h3⟩ := e
    have hd : (Tr.cons b r).deep = max (b.deep + 1) r.deep := rfl
    cases i with
    | zero => exact ⟨a, its, b, rfl, h1, h2, rfl, by omega⟩
    | succ i =>
      obtain ⟨a', its', c, q1, q2, q3, q4, q5⟩ := Vs.at (i := i) h3 (by simpa using hi)
      exact ⟨a', its', c, by simpa using q1, q2, q3, by simpa [Tr.bs] using q4, by omega⟩
theorem Vs.of_all {h : Heap} : ∀ (ts : List Tr) (us : List Value), us.length = ts.length → (∀ i, i < ts.length → ∃ (a : Addr) (its : List Value) (c : Tr), us[i]? = some (.ref a) ∧ h.IsTuple a its.toArray ∧ Vs h c its ∧ ts[i]? = some c) → Vs h (Tr.of ts) us
  | [], us, hl, _ => by
    rw [Tr.of, Vs]
    exact List.eq_nil_of_length_eq_zero (by simpa using hl)
  | t :: ts, [], hl, _ => by simp at hl
  | t :: ts, u :: us, hl, h => by
    rw [Tr.of, Vs]
    obtain ⟨a, its, c, e1, e2, e3, e4⟩ := h 0 (by simp)
    simp at e1 e4
    subst e1 e4
    refine ⟨a, its, us, rfl, e2, e3, Vs.of_all ts us (by simpa using hl) fun i hi => ?_⟩
    obtain ⟨a', its', c', q1, q2, q3, q4⟩ := h (i + 1) (by simpa using hi)
    exact ⟨a', its', c', by simpa using q1, q2, q3, by simpa using q4⟩
theorem Vs.all {h : Heap} {t : Tr} {us : List Value} (e : Vs h t us) : ∀ i, i < t.bs.length → ∃ (a : Addr) (its : List Value) (c : Tr), us[i]? = some (.ref a) ∧ h.IsTuple a its.toArray ∧ Vs h c its ∧ t.bs[i]? = some c := fun i hi => by
  have hl : i < us.length := by rw [Vs.length e, ← Tr.len_bs]; exact hi
  obtain ⟨a, its, c, q1, q2, q3, q4, _⟩ := e.at hl
  refine ⟨a, its, c, ?_, q2, q3, q4⟩
  rw [List.getD_eq_getElem?_getD, List.getElem?_eq_getElem hl] at q1
  rw [List.getElem?_eq_getElem hl]
  simpa using q1
section
variable {prog : Program} {w : World} {A : Around} {E : Value → Shared → Prop} {s : Shared} {t u : Tr} {a b : Addr} {its its' : List Value} {Q : Bool → Shared → Prop}
theorem ask_gen (h1 : s.heap.IsTuple a its.toArray) (k1 : Vs s.heap t its) (h2 : s.heap.IsTuple b its'.toArray) (k2 : Vs s.heap u its') (hu : A.units + t.deep < cLine) (h : Q (Tr.lt t u) s) : wpAny (model prog w) A (oneLt' false (.ref a) (.ref b)) Q E s := by
  rw [oneLt'_eq]
  simp only [Bool.false_eq_true, if_false]
  exact wpAny_bind (rc_lt (t.deep + 1) t u A s a b its its' (Nat.lt_succ_self _) h1 k1 h2 k2 hu prog w E _ (wpAny_truthy_bool h))
theorem ask_one (h1 : s.heap.IsTuple a its.toArray) (k1 : Vs s.heap t its) (h2 : s.heap.IsTuple b its'.toArray) (k2 : Vs s.heap u its') (hu : A.units + t.deep < cLine) (h : Q (Tr.lt t u) s) : wpAny (model prog w) A (oneLt' true (.ref a) (.ref b)) Q E s := by
  rw [oneLt'_eq]
  simp only [if_true]
  refine wpAny_bind (wpAny_cRoomFor (by omega) ?_)
  obtain ⟨⟨cls, dd, data, sl⟩, ho, hc, n, hdt⟩ := id h1
  obtain ⟨⟨cls2, dd2, data2, sl2⟩, ho2, hc2, n2, hdt2⟩ := id h2
  simp only at hc hdt hc2 hdt2
  subst hc hdt hc2 hdt2
  refine wpAny_bind (wpAny_callSpecialIfBound?_slot (T := "tuple") ⟨_, ho, rfl⟩ PySem.F.slot_tuple_lt (call_meets PySem.F.slot_tuple_lt ⟨_, ho, rfl⟩ PySem.F.entry_tuple_lt (PySem.F.args_tuple_lt_2 _ _)
    (tuple_lt t.deep (rc_lt t.deep) a b its.toArray its'.toArray n n2 dd dd2 sl sl2 t u (Nat.le_refl _)) ⟨ho, ho2, by simpa using k1, by simpa using k2, hu, ?_⟩))
  exact wpAny_truthy_bool h
theorem ask_lex : ∀ (t u : Tr) (us vs : List Value) (i : Nat), Vs s.heap t us → Vs s.heap u vs → A.units + t.deep ≤ cLine → Q (Tr.lt t u) s → KatLex prog w A false (decide (t.len < u.len)) Q (us.zip vs) i s
  | .nil, .nil, us, vs, i, e, f, _, h => by
    rw [Vs] at e
    subst e
    rw [List.zip_nil_left]
    exact kat_nil h
  | .nil, .cons c q, us, vs, i, e, f, _, h => by
    rw [Vs] at e
    subst e
    rw [List.zip_nil_left]
    refine kat_nil ?_
    rw [show decide (Tr.nil.len < (Tr.cons c q).len) = true from decide_eq_true (Nat.zero_lt_succ _)]
    exact h
  | .cons b r, .nil, us, vs, i, e, f, _, h => by
    rw [Vs] at f
    subst f
    rw [List.zip_nil_right]
    refine kat_nil ?_
    rw [show decide ((Tr.cons b r).len < Tr.nil.len) = false from decide_eq_false (Nat.not_lt_zero _)]
    exact h
  | .cons b r, .cons c q, us, vs, i, e, f, hu, h => by
    rw [Vs] at e f
    obtain ⟨a, its, rest, rfl, k1, k2, k3⟩ := e
    obtain ⟨a', its', rest', rfl, l1, l2, l3⟩ := f
    have hd : (Tr.cons b r).deep = max (b.deep + 1) r.deep := rfl
    rw [List.zip_cons_cons, show decide ((Tr.cons b r).len < (Tr.cons c q).len) = decide (r.len < q.len) from by simp [Tr.len]]
    rw [Tr.lt] at h
    refine kat_cons (eqAt k1 k2 l1 l2 (by omega) prog w _ _ ?_)
    by_cases hbc : b = c
    · rw [decide_eq_true hbc]
      rw [if_pos hbc] at h
      exact kat_yes (ask_lex r q rest rest' (i + 1) k3 l3 (by omega) h)
    · rw [decide_eq_false hbc]
      rw [if_neg hbc] at h
      exact kat_no (by rw [Bool.false_and]; exact ask_gen k1 k2 l1 l2 (by omega) h)
theorem ask_tup (h1 : s.heap.IsTuple a its.toArray) (k1 : Vs s.heap t its) (h2 : s.heap.IsTuple b its'.toArray) (k2 : Vs s.heap u its') (hu : A.units + t.deep < cLine) (h : Q (Tr.lt t u) s) : wpAny (model prog w) A (keyLt' (tuples' false) (.ref a) (.ref b)) Q E s := by
  obtain ⟨o, ho, hc, n, hd⟩ := id h1
  obtain ⟨o2, ho2, hc2, n2, hd2⟩ := id h2
  refine kat_lt ho hd ho2 hd2 ?_
  have z1 : its.toArray.size = t.len := by rw [← Vs.length k1]; simp
  have z2 : its'.toArray.size = u.len := by rw [← Vs.length k2]; simp
  rw [z1, z2]
  exact ask_lex t u its its' 0 k1 k2 (by omega) h
def TrKind (κ : SortKind) : Prop := κ = general' ∨ κ = oneType' ∨ κ = tuples' false
theorem ask_any {κ : SortKind} (hκ : TrKind κ) (h1 : s.heap.IsTuple a its.toArray) (k1 : Vs s.heap t its) (h2 : s.heap.IsTuple b its'.toArray) (k2 : Vs s.heap u its') (hu : A.units + t.deep < cLine) (h : Q (Tr.lt t u) s) : wpAny (model prog w) A (keyLt' κ (.ref a) (.ref b)) Q E s := by
  rcases hκ with rfl | rfl | rfl
  · exact ask_gen h1 k1 h2 k2 hu h
  · rw [keyLt'_oneType]; exact ask_one h1 k1 h2 k2 hu h
  · exact ask_tup h1 k1 h2 k2 hu h
theorem tuple_looks {M : Model} {h : Heap} {a : Addr} {x : Array Value} (h1 : h.IsTuple a x) : Looks M h (typeOf (.ref a)) (.type "tuple") := by
  obtain ⟨o, ho, hc, _⟩ := h1
  exact hc ▸ (Looks.ld ho).andThen .now
theorem firsts_tr {M : Model} : ∀ (t : Tr) (us : List Value) {Q : List (Option Value) → Shared → Prop}, Vs s.heap t us → (∀ fs : List (Option Value), (∀ v, some v ∈ fs → Looks M s.heap (typeOf v) (.type "tuple")) → Q fs s) → wpAny M A (us.mapM firstOfTuple') Q E s
  | .nil, us, Q, e, h => by
    rw [Vs] at e
    subst e
    rw [List.mapM_nil]
    exact wpAny_pure (h [] fun _ z => by cases z)
  | .cons b r, us, Q, e, h => by
    rw [Vs] at e
    obtain ⟨a, its, rest, rfl, h1, h2, h3⟩ := e
    obtain ⟨o, ho, hc, n, hd⟩ := id h1
    rw [List.mapM_cons]
    refine wpAny_bind ?_
    rw [kas_first_eq]
    refine wpAny_bind (Looks.here (show Looks M s.heap (typeOf (.ref a)) o.cls from (Looks.ld ho).andThen .now) ?_)
    rw [hc, if_neg (by first | decide | simp)]
    refine wpAny_bind (listItems_at ho hd (wpAny_pure ?_))
    refine wpAny_bind (firsts_tr r rest (Q := fun bs s' => wpAny M A (pure (its.toArray[0]? :: bs)) Q E s') h3 fun fs hfs => wpAny_pure (h _ fun v hv => ?_))
    rcases List.mem_cons.mp hv with z | z
    · cases b with
      | nil => rw [Vs] at h2; subst h2; simp at z
      | cons c q =>
        rw [Vs] at h2
        obtain ⟨a', its', rest', rfl, k1, _⟩ := h2
        simp at z
        subst z
        exact tuple_looks k1
    · exact hfs v z
theorem only_tr {M : Model} {vs : List Value} {Q : Option Value → Shared → Prop} (hT : ∀ v ∈ vs, Looks M s.heap (typeOf v) (.type "tuple")) (h0 : vs = [] → Q none s) (h1 : Q (some (.type "tuple")) s) : wpAny M A (oneTypeOnly' vs.toArray) Q E s := by
  rw [oneTypeOnly'_eq, List.mapM_toArray, map_eq_pure_bind]
  refine wpAny_bind (wpAny_bind (kas_mapM (r := Value.type "tuple") _ (fun v hv Q' hq => (hT v hv).here hq) (wpAny_pure ?_)))
  cases vs with
  | nil => exact wpAny_pure (h0 rfl)
  | cons f r =>
    have hall : ((List.map (fun _ => Value.type "tuple") (f :: r)).toArray.all fun x => x == Value.type "tuple") = true := by
      simp only [List.all_toArray, List.all_map, List.all_eq_true]
      intro _ _
      rfl
    have e0 : (List.map (fun _ => Value.type "tuple") (f :: r)).toArray[0]? = some (Value.type "tuple") := by simp
    rw [e0]
    simp only [hall, if_true]
    exact wpAny_pure h1
theorem kind_tr {M : Model} {t : Tr} {us : List Value} {Q : SortKind → Shared → Prop} (e : Vs s.heap t us) (h : ∀ κ, TrKind κ → Q κ s) : wpAny M A (keyKind' us.toArray) Q E s := by
  rw [kat_kind_eq, List.mapM_toArray, map_eq_pure_bind]
  refine wpAny_bind (wpAny_bind (firsts_tr t us e fun fs hfs => wpAny_pure ?_))
  split
  · refine wpAny_bind (wpAny_rule ?_)
    have e1 : fs.toArray.filterMap id = (fs.filterMap id).toArray := by simp
    rw [e1]
    have hl : ∀ v ∈ fs.filterMap id, Looks M s.heap (typeOf v) (.type "tuple") := fun v hv => hfs v (by simpa using hv)
    refine wpAny_bind (only_tr hl (fun _ => ?_) ?_)
    · exact wpAny_pure (h _ (.inr (.inr rfl)))
    · exact wpAny_pure (h _ (.inr (.inr rfl)))
  · split
    · exact wpAny_pure (h _ (.inl rfl))
    · have hl : ∀ v ∈ us, Looks M s.heap (typeOf v) (.type "tuple") := fun v hv => by
        obtain ⟨i, hi, rfl⟩ := List.getElem_of_mem hv
        obtain ⟨a, its, c, q1, q2, _⟩ := e.at hi
        rw [List.getD_eq_getElem?_getD, List.getElem?_eq_getElem hi] at q1
        simp at q1
        rw [q1]
        exact tuple_looks q2
      refine wpAny_bind (only_tr hl (fun _ => ?_) ?_)
      · exact wpAny_pure (h _ (.inl rfl))
      · exact wpAny_pure (h _ (.inr (.inl rfl)))
theorem kasWp_of {α : Type} {cmp : Nat → Nat → (Bool → Shared → Prop) → Shared → Prop} {lt : Nat → Nat → Bool} {n : Nat} {Q' : α → Prop} (hc : ∀ i j C, i < n → j < n → C (lt i j) s → cmp i j C s) : ∀ T : KasT α, SM.Wp lt n T Q' → T.kasWp cmp (fun a s' => s' = s ∧ Q' a) s
  | .ret a, h => ⟨rfl, h⟩
  | .ask i j k, h => hc i j _ h.1 h.2.1 (kasWp_of hc (k (lt i j)) h.2.2)
end
end TH
set_option Elab.async false
set_option linter.all false
set_option maxRecDepth 100000
set_option maxHeartbeats 4000000
namespace TH
open PySem PySem.W PyProof.Rows PySem.SeqAt
theorem Vs.keeps {h h' : Heap} (k : ∀ b o, h.get? b = some o → o.cls = .type "tuple" → h'.get? b = some o) : ∀ {t : Tr} {us : List Value}, Vs h t us → Vs h' t us
  | .nil, us, e => by rw [Vs] at e ⊢; exact e
  | .cons b r, us, e => by
    rw [Vs] at e ⊢
    obtain ⟨a, its, rest, rfl, ⟨o, ho, hc, hd⟩, h2, h3⟩ := e
    exact ⟨a, its, rest, rfl, ⟨o, k _ _ ho hc, hc, hd⟩, h2.keeps k, h3.keeps k⟩
theorem map_getD {α : Type} (d : α) (l : List α) : (List.range l.length).map (fun i => l.getD i d) = l := by
  refine List.ext_getElem (by simp) fun i h1 h2 => ?_
  simp [h2]
theorem Vs.rev {h : Heap} {t : Tr} {us : List Value} (e : Vs h t us) : Vs h (Tr.of t.bs.reverse) us.reverse := by
  have hl : us.length = t.bs.length := by rw [e.length, Tr.len_bs]
  refine Vs.of_all _ _ (by simp [hl]) fun i hi => ?_
  rw [List.length_reverse] at hi
  obtain ⟨a, its, c, q1, q2, q3, q4⟩ := e.all (t.bs.length - 1 - i) (by omega)
  exact ⟨a, its, c, by rw [List.getElem?_reverse (by omega), hl]; exact q1, q2, q3, by rw [List.getElem?_reverse hi]; exact q4⟩
section
variable {prog : Program} {w : World} {A : Around} {E : Value → Shared → Prop} {s : Shared}
theorem sort_run {κ : SortKind} {t : Tr} {ws : List Value} (hκ : TrKind κ) (e : Vs s.heap t ws) (h2 : 2 ≤ ws.length) (h64 : ws.length < 64) (hu : A.units + t.deep ≤ cLine) :
    wpAny (model prog w) A ((sortRuns').run (SortSt.mk' κ (ws.toArray.zip ws.toArray) #[] 7 none)) (fun r s' => s' = s ∧ failedOf r.2 = none ∧ ∃ ix : List Nat, ix.length = ws.length ∧ (∀ i ∈ ix, i < ws.length) ∧
      (arrOf r.2).map (·.2) = (ix.map fun i => ws.getD i Value.none).toArray ∧ (ix.map fun i => t.bs.getD i .nil) = (Tr.srt t.bs).reverse) E s := by
  have hl : ws.length = t.bs.length := by rw [e.length, Tr.len_bs]
  have key : ∀ i, i < ws.length → ∃ (a : Addr) (its : List Value), ws.getD i Value.none = .ref a ∧ s.heap.IsTuple a its.toArray ∧ Vs s.heap (t.bs.getD i .nil) its ∧ (t.bs.getD i .nil).deep < t.deep := fun i hi => by
    obtain ⟨a, its, c, q1, q2, q3, q4, q5⟩ := e.at hi
    have : t.bs.getD i .nil = c := by rw [List.getD_eq_getElem?_getD, q4]; rfl
    rw [this]
    exact ⟨a, its, q1, q2, q3, q5⟩
  refine kat_run (Q := fun st' s' => s' = s ∧ failedOf st' = none ∧ ∃ ix : List Nat, ix.length = ws.length ∧ (∀ i ∈ ix, i < ws.length) ∧ (arrOf st').map (·.2) = (ix.map fun i => ws.getD i Value.none).toArray ∧ (ix.map fun i => t.bs.getD i .nil) = (Tr.srt t.bs).reverse)
    (G := fun p s' => s' = s ∧ SM.Pm ws.length p ∧ SM.Up (O := Tr.ord) (fun i => t.bs.getD i .nil) p ws.length) rfl h2 h64 (fun p st' s' hp har hf hG => ?_)
    (kasWp_of (lt := SM.ltOf (O := Tr.ord) fun i => t.bs.getD i .nil) (n := ws.length) (fun i j C hi hj hC => ?_) _ (SM.sort (by omega)))
  · obtain ⟨rfl, hpm, hup⟩ := hG
    have h1 : p.toList.Perm (List.range ws.length) := by simpa using Array.perm_iff_toList_perm.mp hpm.perm
    refine ⟨rfl, hf, p.toList, by rw [Array.length_toList, hp], fun i hi => List.mem_range.mp (h1.mem_iff.mp hi), kat_snds rfl har, ?_⟩
    have perm : (p.toList.map fun i => t.bs.getD i .nil).Perm t.bs := by
      have h3 := h1.map fun i => t.bs.getD i Tr.nil
      rwa [hl, map_getD] at h3
    refine Tr.srt_rev_of (List.pairwise_iff_getElem.mpr fun i j hi hj hij => ?_) perm
    rw [List.length_map, Array.length_toList, hp] at hi hj
    have := hup i j (by omega) hj
    have e1 : ∀ k, k < ws.length → ∀ hk, (p.toList.map fun i => t.bs.getD i Tr.nil)[k]'hk = t.bs.getD (p.getD k 0) .nil := fun k hk hk' => by
      rw [List.getElem_map, Array.getElem_toList, Array.getD, dif_pos (by omega)]
      rfl
    rw [e1 i hi, e1 j hj]
    exact this
  · obtain ⟨a, its, q1, q2, q3, q4⟩ := key i hi
    obtain ⟨a', its', r1, r2, r3, r4⟩ := key j hj
    unfold kas_ask
    rw [q1, r1]
    exact ask_any hκ q2 q3 r2 r3 (by omega) hC
theorem short_out (b : Bool) (us : List Value) (hz : us.length < 2) : (if b = true then ((if b = true then (us.toArray.zip us.toArray).reverse else us.toArray.zip us.toArray).map (·.2)).reverse else (if b = true then (us.toArray.zip us.toArray).reverse else us.toArray.zip us.toArray).map (·.2)) = us.toArray := by
  match us, hz with
  | [], _ => cases b <;> simp
  | [x], _ => cases b <;> simp
theorem list_sort_tr {a : Addr} {us : List Value} {t : Tr} {n : Nat} {b : Bool} {P : PySem.Fin → Shared → Prop} (ho : s.heap.get? a = some (seqObj "list" us.toArray n)) (e : Vs s.heap t us) (h64 : us.length < 64) (hu : A.units + t.deep ≤ cLine)
    (h : ∀ ix : List Nat, ix.length = us.length → (∀ i ∈ ix, i < us.length) → (ix.map fun i => t.bs.getD i .nil) = (if b then Tr.srt t.bs else (Tr.srt t.bs).reverse) → P (.done (.ret .none)) { s with heap := sortedHeap s.heap a us (ix.map fun i => us.getD i Value.none).toArray }) :
    wpAny (model prog w) A (Builtin.«list.sort» ⟨[.ref a], [(Str.ofString "reverse", .bool b)]⟩) P E s := by
  rw [list_sort_rev]
  have ha : a < s.heap.objs.size := Heap.lt_size ho
  refine wpAny_bind (listItems_at ho rfl ?_)
  refine wpAny_bind (listUpdate_at ho rfl ?_ (by rw [List.size_toArray, sizeLine_eq]; omega) (Nat.zero_le _))
  obtain ⟨e1, ho1⟩ : ∃ e1, (s.heap.update a (Obj.mapSeq fun _ => #[])).get? a = some (seqObj "list" #[] e1) := ⟨_, get?_update_seq ho (fun _ => #[])⟩
  refine wpAny_bind (seqEpoch_at ho1 rfl ?_)
  refine wpAny_bind (wpAny_newTuple ?_ (by show us.length ≤ _; rw [sizeLine_eq]; omega))
  refine wpAny_bind (wpAny_newList ?_ (Nat.zero_le _))
  refine wpAny_holding ?_
  have ho6 : (((s.heap.update a (Obj.mapSeq fun _ => #[])).push (seqObj "tuple" us.toArray 0)).push (seqObj "list" #[] 0)).get? a = some (seqObj "list" #[] e1) := by
    rw [Heap.get?_push_ne _ _ _ (by rw [size_push', Heap.size_update]; exact Nat.ne_of_lt (Nat.lt_succ_of_lt ha)), Heap.get?_push_ne _ _ _ (by rw [Heap.size_update]; exact Nat.ne_of_lt ha)]
    exact ho1
  have keep : ∀ c o, s.heap.get? c = some o → o.cls = .type "tuple" → (((s.heap.update a (Obj.mapSeq fun _ => #[])).push (seqObj "tuple" us.toArray 0)).push (seqObj "list" #[] 0)).get? c = some o := fun c o hc hcl => by
    have hne : c ≠ a := fun z => by
      rw [z, ho] at hc
      cases hc
      exact absurd (show Value.type "list" = Value.type "tuple" from hcl) (by decide)
    refine Heap.get?_push_of_some _ (Heap.get?_push_of_some _ ?_)
    rw [Heap.get?_update_ne _ _ _ _ hne]
    exact hc
  show wpAny (model prog w) A _ P E { s with heap := ((s.heap.update a (Obj.mapSeq fun _ => #[])).push (seqObj "tuple" us.toArray 0)).push (seqObj "list" #[] 0) }
  have e6 := e.keeps keep
  dsimp only
  have step : ∀ T : Sem PySem.Fin, wpAny (model prog w) A T P E { s with heap := ((s.heap.update a (Obj.mapSeq fun _ => #[])).push (seqObj "tuple" us.toArray 0)).push (seqObj "list" #[] 0) } →
      wpAny (model prog w) A (if b = true then (do let _ ← rule "list.sort.reverse"; T) else T) P E { s with heap := ((s.heap.update a (Obj.mapSeq fun _ => #[])).push (seqObj "tuple" us.toArray 0)).push (seqObj "list" #[] 0) } := by
    intro T hT
    split
    · exact wpAny_bind (wpAny_rule hT)
    · exact hT
  refine step _ ?_
  by_cases h2 : us.toArray.size < 2
  · rw [if_pos h2, if_pos h2]
    refine wpAny_bind (wpAny_pure ?_)
    rw [StateT.run_pure]
    refine wpAny_bind (wpAny_pure ?_)
    dsimp only
    have hz : us.length < 2 := by simpa using h2
    have hout := short_out b us hz
    refine wpAny_bind (seqEpoch_at ho6 rfl ?_)
    refine wpAny_bind (listUpdate_at ho6 rfl ?_ (Nat.zero_le _) (by
      refine Nat.le_trans (Nat.le_of_eq (congrArg Array.size hout)) ?_
      rw [List.size_toArray, sizeLine_eq]; omega))
    simp only [bne_self_eq_false, Bool.false_eq_true, if_false]
    have hl : us.length = t.bs.length := by rw [e.length, Tr.len_bs]
    have fin := h (List.range us.length) (by simp) (fun i hi => List.mem_range.mp hi) (by
      rw [hl, map_getD]
      match hbs : t.bs, (show t.bs.length < 2 by omega) with
      | [], _ => cases b <;> rfl
      | [_], _ => cases b <;> rfl)
    rw [map_getD] at fin
    rw [← hout] at fin
    exact wpAny_pure fin
  · rw [if_neg h2, if_neg h2]
    have hz : 2 ≤ us.length := by simpa using h2
    refine wpAny_bind (kind_tr (s := { s with heap := ((s.heap.update a (Obj.mapSeq fun _ => #[])).push (seqObj "tuple" us.toArray 0)).push (seqObj "list" #[] 0) }) e6 fun κ hκ => ?_)
    have hl : us.length = t.bs.length := by rw [e.length, Tr.len_bs]
    obtain ⟨ws, tw, ew, hwl, hws, hdp, pick⟩ : ∃ (ws : List Value) (tw : Tr), Vs (((s.heap.update a (Obj.mapSeq fun _ => #[])).push (seqObj "tuple" us.toArray 0)).push (seqObj "list" #[] 0)) tw ws ∧ ws.length = us.length ∧
        (if b = true then (us.toArray.zip us.toArray).reverse else us.toArray.zip us.toArray) = ws.toArray.zip ws.toArray ∧ tw.deep ≤ t.deep ∧
        ∀ (_b : Bool) (ix : List Nat), ix.length = ws.length → (∀ i ∈ ix, i < ws.length) → (ix.map fun i => tw.bs.getD i .nil) = (Tr.srt tw.bs).reverse → ∃ iy : List Nat, iy.length = us.length ∧ (∀ i ∈ iy, i < us.length) ∧ (iy.map fun i => t.bs.getD i .nil) = (if b then Tr.srt t.bs else (Tr.srt t.bs).reverse) ∧
          (if b = true then ((ix.map fun i => ws.getD i Value.none).toArray).reverse else (ix.map fun i => ws.getD i Value.none).toArray) = (iy.map fun i => us.getD i Value.none).toArray := by
      cases b with
      | false => exact ⟨us, t, e6, rfl, rfl, Nat.le_refl _, fun _ ix h1 h2 h3 => ⟨ix, h1, h2, h3, rfl⟩⟩
      | true =>
        have hsrt : Tr.srt t.bs.reverse = Tr.srt t.bs := Tr.srt_of (Tr.fall_srt _) ((Tr.perm_srt _).trans (List.reverse_perm _))
        refine ⟨us.reverse, Tr.of t.bs.reverse, e6.rev, by simp, kat_pairs (ks := us) (vs := us) true rfl, Tr.deep_rev t, fun _ ix h1 h2 h3 => ⟨(ix.map fun i => us.length - 1 - i).reverse, by simpa using h1, fun i hi => ?_, ?_, ?_⟩⟩
        · rw [List.mem_reverse, List.mem_map] at hi
          obtain ⟨k, hk, rfl⟩ := hi
          have := h2 k hk
          rw [List.length_reverse] at this
          omega
        · rw [Tr.bs_of, hsrt] at h3
          rw [List.map_reverse, List.map_map]
          have : (ix.map ((fun i => t.bs.getD i Tr.nil) ∘ fun i => us.length - 1 - i)) = ix.map fun i => t.bs.reverse.getD i .nil := List.map_congr_left fun i hi => by
            have := h2 i hi
            rw [List.length_reverse] at this
            show t.bs.getD (us.length - 1 - i) Tr.nil = _
            rw [List.getD_eq_getElem?_getD, List.getD_eq_getElem?_getD, List.getElem?_reverse (by omega), hl]
          rw [this, h3, List.reverse_reverse]
          rfl
        · rw [if_pos rfl, List.map_reverse, List.map_map, List.reverse_toArray]
          congr 2
          exact List.map_congr_left fun i hi => by
            have := h2 i hi
            rw [List.length_reverse] at this
            show us.reverse.getD i Value.none = us.getD (us.length - 1 - i) Value.none
            rw [List.getD_eq_getElem?_getD, List.getD_eq_getElem?_getD, List.getElem?_reverse (by omega)]
    rw [hws]
    refine wpAny_bind (wpAny_mono (sort_run (s := { s with heap := ((s.heap.update a (Obj.mapSeq fun _ => #[])).push (seqObj "tuple" us.toArray 0)).push (seqObj "list" #[] 0) }) hκ ew (by omega) (by omega) (by omega)) ?_ fun _ _ z => z)
    rintro ⟨⟨⟩, st'⟩ s' ⟨rfl, hf, ix, hil, hix, hout, hst⟩
    dsimp only
    refine wpAny_bind (seqEpoch_at ho6 rfl ?_)
    obtain ⟨iy, y1, y2, y3, hfin⟩ : ∃ iy : List Nat, iy.length = us.length ∧ (∀ i ∈ iy, i < us.length) ∧ (iy.map fun i => t.bs.getD i .nil) = (if b then Tr.srt t.bs else (Tr.srt t.bs).reverse) ∧
        (if b = true then ((arrOf st').map (·.2)).reverse else (arrOf st').map (·.2)) = (iy.map fun i => us.getD i Value.none).toArray := by
      rw [show (arrOf st').map (·.2) = _ from hout]
      exact pick b ix hil hix hst
    refine wpAny_bind (listUpdate_at ho6 rfl ?_ (Nat.zero_le _) (by
      refine Nat.le_trans (Nat.le_of_eq (congrArg Array.size hfin)) ?_
      rw [List.size_toArray, List.length_map, y1, sizeLine_eq]; omega))
    rw [show failedOf st' = none from hf]
    simp only [bne_self_eq_false, Bool.false_eq_true, if_false]
    have fin := h iy y1 y2 y3
    rw [← hfin] at fin
    exact wpAny_pure fin
end
end TH
set_option Elab.async false
set_option linter.all false
set_option maxRecDepth 100000
set_option maxHeartbeats 4000000
namespace TH
open PySem PySem.W PyProof.Rows PySem.SeqAt
section
variable {prog : Program} {w : World} {A : Around} {E : Value → Shared → Prop} {s : Shared}
theorem sort_plain_rev (a : Addr) : Builtin.«list.sort» ⟨[.ref a], []⟩ = Builtin.«list.sort» ⟨[.ref a], [(Str.ofString "reverse", .bool false)]⟩ := by
  rw [list_sort_rev, list_sort_plain]
  rfl
theorem list_sort_tr0 {a : Addr} {us : List Value} {t : Tr} {n : Nat} {P : PySem.Fin → Shared → Prop} (ho : s.heap.get? a = some (seqObj "list" us.toArray n)) (e : Vs s.heap t us) (h64 : us.length < 64) (hu : A.units + t.deep ≤ cLine)
    (h : ∀ ix : List Nat, ix.length = us.length → (∀ i ∈ ix, i < us.length) → (ix.map fun i => t.bs.getD i .nil) = (Tr.srt t.bs).reverse → P (.done (.ret .none)) { s with heap := sortedHeap s.heap a us (ix.map fun i => us.getD i Value.none).toArray }) :
    wpAny (model prog w) A (Builtin.«list.sort» ⟨[.ref a], []⟩) P E s := by
  rw [sort_plain_rev]
  exact list_sort_tr (b := false) ho e h64 hu h
theorem collect_tup {l : Addr} {vs : List Value} {Q : List Value → Shared → Prop} (hl : s.heap.IsTuple l vs.toArray)
    (h : Q vs { s with heap := (s.heap.push (seqObj "list" #[] 0)).update s.heap.objs.size (Obj.mapSeq (· ++ vs.toArray)) }) (hsz : vs.length ≤ sizeLine) :
    wpAny (model prog w) A (collect (.ref l)) Q E s := by
  obtain ⟨o, ho, hc, n, hd⟩ := id hl
  unfold collect
  refine wpAny_bind (wpAny_runValue (codeAny_builtin entry_proto_collect' ?_))
  show wpAny _ _ (do again (.builtin "list.__iadd__" ⟨[← newList [], .ref l], []⟩)) _ _ s
  refine wpAny_bind (wpAny_newList (wpAny_pure ⟨Code.quiet_builtin _ (by decide +kernel), codeAny_builtin entry_list_iadd' ?_⟩))
  show wpAny _ _ (Builtin.List.listExtendWith (.ref s.heap.objs.size) (.ref l) (.ref s.heap.objs.size)) _ _ { s with heap := s.heap.push (seqObj "list" #[] 0) }
  unfold Builtin.List.listExtendWith
  have ho' : (s.heap.push (seqObj "list" #[] 0)).get? l = some o := Heap.get?_push_of_some _ ho
  refine wpAny_bind (wpAny_typeOf (T := "tuple") ⟨o, ho', hc⟩ ?_)
  have ht : (Value.type "tuple" == Value.type "tuple") = true := by rfl
  rw [if_pos (by rw [ht]; simp)]
  refine wpAny_bind (listItems_at ho' hd ?_)
  refine wpAny_bind (listItems_at (xs := #[]) (n := 0) (Heap.get?_push_size _ rfl) rfl ?_)
  rw [if_neg (by simp)]
  refine wpAny_bind (listUpdate_at (xs := #[]) (n := 0) (Heap.get?_push_size _ rfl) rfl ?_ (Nat.zero_le _) (by show (#[] ++ vs.toArray).size ≤ sizeLine + 1; simp only [Array.size_append, List.size_toArray, List.length_nil]; omega))
  refine wpAny_pure ?_
  show wpAny (model prog w) A (do
      let o ← load s.heap.objs.size
      match o.data with
      | .seq xs _ => pure xs.toList
      | _ => unsupported "internal:collect") Q E { s with heap := (s.heap.push (seqObj "list" #[] 0)).update s.heap.objs.size (Obj.mapSeq (· ++ vs.toArray)) }
  refine wpAny_bind (wpAny_load (get?_update_seq (Heap.get?_push_size _ rfl) _) ?_)
  show wpAny _ _ (pure ((#[] : Array Value) ++ vs.toArray).toList) Q E _
  rw [show ((#[] : Array Value) ++ vs.toArray).toList = vs by simp]
  exact wpAny_pure h
theorem sorted_list {l : Addr} {us : List Value} {t : Tr} {Q : Value → Shared → Prop} (hl : s.heap.IsList l us.toArray) (e : Vs s.heap t us) (h64 : us.length < 64) (hu : A.units + 2 + t.deep ≤ cLine)
    (h : ∀ (h' : Heap) (ix : List Nat) (e1 : Nat), ix.length = us.length → (∀ i ∈ ix, i < us.length) → (ix.map fun i => t.bs.getD i .nil) = (Tr.srt t.bs).reverse → (∀ c o, s.heap.get? c = some o → h'.get? c = some o) →
      h'.get? (s.heap.objs.size + 1) = some (seqObj "list" (ix.map fun i => us.getD i Value.none).toArray e1) → Q (.ref (s.heap.objs.size + 1)) { s with heap := h' }) :
    wpAny (model prog w) A (call (.builtin "sorted") [.ref l]) Q E s := by
  refine Calls.call_function_entry kind_sorted plain_sorted entry_sorted (args_sorted1 _) ?_
  unfold Builtin.«sorted»
  refine wpAny_bind (m := checkCount "sorted" 1 1 _) (wpAny_pure ?_)
  refine wpAny_bind (collect_list hl ?_ (by rw [sizeLine_eq]; omega))
  refine wpAny_bind (wpAny_newList ?_ (by rw [sizeLine_eq]; omega))
  have hsz : ((s.heap.push (seqObj "list" #[] 0)).update s.heap.objs.size (Obj.mapSeq (· ++ us.toArray))).objs.size = s.heap.objs.size + 1 := by
    rw [Heap.size_update, size_push']
  have hoL : (((s.heap.push (seqObj "list" #[] 0)).update s.heap.objs.size (Obj.mapSeq (· ++ us.toArray))).push (seqObj "list" us.toArray 0)).get? (s.heap.objs.size + 1) = some (seqObj "list" us.toArray 0) := by
    rw [← hsz]; exact Heap.get?_push_size _ rfl
  have keep : ∀ b o, s.heap.get? b = some o → o.cls = .type "tuple" → (((s.heap.push (seqObj "list" #[] 0)).update s.heap.objs.size (Obj.mapSeq (· ++ us.toArray))).push (seqObj "list" us.toArray 0)).get? b = some o := fun b o q _ => by
    have hlt : b < s.heap.objs.size := Heap.lt_size q
    rw [Heap.get?_push_ne _ _ _ (by rw [hsz]; exact Nat.ne_of_lt (Nat.lt_succ_of_lt hlt)), Heap.get?_update_ne _ _ _ _ (Nat.ne_of_lt hlt), Heap.get?_push_ne _ _ _ (Nat.ne_of_lt hlt)]
    exact q
  show wpAny _ _ _ _ _ { s with heap := ((s.heap.push (seqObj "list" #[] 0)).update s.heap.objs.size (Obj.mapSeq (· ++ us.toArray))).push (seqObj "list" us.toArray 0) }
  rw [hsz]
  refine wpAny_bind (wpAny_holding (wpAny_call_entry slot_list_sort ⟨_, hoL, rfl⟩ entry_list_sort (list_sort_tr0 (s := { s with heap := ((s.heap.push (seqObj "list" #[] 0)).update s.heap.objs.size (Obj.mapSeq (· ++ us.toArray))).push (seqObj "list" us.toArray 0) }) hoL (e.keeps keep) h64 (by
    rw [show A.in1.in1.units = A.units + 2 from rfl]; omega) fun ix a1 a2 a3 => ⟨_, rfl, ?_⟩) (args_list_sort _)))
  obtain ⟨e1, he1⟩ := sortedAll_at s.heap us (ix.map fun i => us.getD i Value.none).toArray
  exact wpAny_pure ⟨_, rfl, h _ ix e1 a1 a2 a3 (fun _ _ => sortedAll_old) he1⟩
theorem sorted_listR {l : Addr} {us : List Value} {t : Tr} {b : Bool} {Q : Value → Shared → Prop} (hl : s.heap.IsList l us.toArray) (e : Vs s.heap t us) (h64 : us.length < 64) (hu : A.units + 2 + t.deep ≤ cLine)
    (h : ∀ (h' : Heap) (ix : List Nat) (e1 : Nat), ix.length = us.length → (∀ i ∈ ix, i < us.length) → (ix.map fun i => t.bs.getD i .nil) = (if b then Tr.srt t.bs else (Tr.srt t.bs).reverse) → (∀ c o, s.heap.get? c = some o → h'.get? c = some o) →
      h'.get? (s.heap.objs.size + 1) = some (seqObj "list" (ix.map fun i => us.getD i Value.none).toArray e1) → Q (.ref (s.heap.objs.size + 1)) { s with heap := h' }) :
    wpAny (model prog w) A (call (.builtin "sorted") [.ref l] [(Str.ofString "reverse", .bool b)]) Q E s := by
  refine call_function_entry_kw kind_sorted plain_sorted entry_sorted (args_sorted_rev _ _) ?_
  unfold Builtin.«sorted»
  refine wpAny_bind (m := checkCount "sorted" 1 1 _) (wpAny_pure ?_)
  refine wpAny_bind (collect_list hl ?_ (by rw [sizeLine_eq]; omega))
  refine wpAny_bind (wpAny_newList ?_ (by rw [sizeLine_eq]; omega))
  have hsz : ((s.heap.push (seqObj "list" #[] 0)).update s.heap.objs.size (Obj.mapSeq (· ++ us.toArray))).objs.size = s.heap.objs.size + 1 := by
    rw [Heap.size_update, size_push']
  have hoL : (((s.heap.push (seqObj "list" #[] 0)).update s.heap.objs.size (Obj.mapSeq (· ++ us.toArray))).push (seqObj "list" us.toArray 0)).get? (s.heap.objs.size + 1) = some (seqObj "list" us.toArray 0) := by
    rw [← hsz]; exact Heap.get?_push_size _ rfl
  have keep : ∀ b o, s.heap.get? b = some o → o.cls = .type "tuple" → (((s.heap.push (seqObj "list" #[] 0)).update s.heap.objs.size (Obj.mapSeq (· ++ us.toArray))).push (seqObj "list" us.toArray 0)).get? b = some o := fun b o q _ => by
    have hlt : b < s.heap.objs.size := Heap.lt_size q
    rw [Heap.get?_push_ne _ _ _ (by rw [hsz]; exact Nat.ne_of_lt (Nat.lt_succ_of_lt hlt)), Heap.get?_update_ne _ _ _ _ (Nat.ne_of_lt hlt), Heap.get?_push_ne _ _ _ (Nat.ne_of_lt hlt)]
    exact q
  show wpAny _ _ _ _ _ { s with heap := ((s.heap.push (seqObj "list" #[] 0)).update s.heap.objs.size (Obj.mapSeq (· ++ us.toArray))).push (seqObj "list" us.toArray 0) }
  rw [hsz]
  refine wpAny_bind (wpAny_holding (wpAny_call_entry_kw slot_list_sort ⟨_, hoL, rfl⟩ entry_list_sort (list_sort_tr (b := b) (s := { s with heap := ((s.heap.push (seqObj "list" #[] 0)).update s.heap.objs.size (Obj.mapSeq (· ++ us.toArray))).push (seqObj "list" us.toArray 0) }) hoL (e.keeps keep) h64 (by
    rw [show A.in1.in1.units = A.units + 2 from rfl]; omega) fun ix a1 a2 a3 => ⟨_, rfl, ?_⟩) (args_list_sort_rev _ _)))
  obtain ⟨e1, he1⟩ := sortedAll_at s.heap us (ix.map fun i => us.getD i Value.none).toArray
  exact wpAny_pure ⟨_, rfl, h _ ix e1 a1 a2 a3 (fun _ _ => sortedAll_old) he1⟩
theorem sorted_tup {l : Addr} {us : List Value} {t : Tr} {Q : Value → Shared → Prop} (hl : s.heap.IsTuple l us.toArray) (e : Vs s.heap t us) (h64 : us.length < 64) (hu : A.units + 2 + t.deep ≤ cLine)
    (h : ∀ (h' : Heap) (ix : List Nat) (e1 : Nat), ix.length = us.length → (∀ i ∈ ix, i < us.length) → (ix.map fun i => t.bs.getD i .nil) = (Tr.srt t.bs).reverse → (∀ c o, s.heap.get? c = some o → h'.get? c = some o) →
      h'.get? (s.heap.objs.size + 1) = some (seqObj "list" (ix.map fun i => us.getD i Value.none).toArray e1) → Q (.ref (s.heap.objs.size + 1)) { s with heap := h' }) :
    wpAny (model prog w) A (call (.builtin "sorted") [.ref l]) Q E s := by
  refine Calls.call_function_entry kind_sorted plain_sorted entry_sorted (args_sorted1 _) ?_
  unfold Builtin.«sorted»
  refine wpAny_bind (m := checkCount "sorted" 1 1 _) (wpAny_pure ?_)
  refine wpAny_bind (collect_tup hl ?_ (by rw [sizeLine_eq]; omega))
  refine wpAny_bind (wpAny_newList ?_ (by rw [sizeLine_eq]; omega))
  have hsz : ((s.heap.push (seqObj "list" #[] 0)).update s.heap.objs.size (Obj.mapSeq (· ++ us.toArray))).objs.size = s.heap.objs.size + 1 := by
    rw [Heap.size_update, size_push']
  have hoL : (((s.heap.push (seqObj "list" #[] 0)).update s.heap.objs.size (Obj.mapSeq (· ++ us.toArray))).push (seqObj "list" us.toArray 0)).get? (s.heap.objs.size + 1) = some (seqObj "list" us.toArray 0) := by
    rw [← hsz]; exact Heap.get?_push_size _ rfl
  have keep : ∀ b o, s.heap.get? b = some o → o.cls = .type "tuple" → (((s.heap.push (seqObj "list" #[] 0)).update s.heap.objs.size (Obj.mapSeq (· ++ us.toArray))).push (seqObj "list" us.toArray 0)).get? b = some o := fun b o q _ => by
    have hlt : b < s.heap.objs.size := Heap.lt_size q
    rw [Heap.get?_push_ne _ _ _ (by rw [hsz]; exact Nat.ne_of_lt (Nat.lt_succ_of_lt hlt)), Heap.get?_update_ne _ _ _ _ (Nat.ne_of_lt hlt), Heap.get?_push_ne _ _ _ (Nat.ne_of_lt hlt)]
    exact q
  show wpAny _ _ _ _ _ { s with heap := ((s.heap.push (seqObj "list" #[] 0)).update s.heap.objs.size (Obj.mapSeq (· ++ us.toArray))).push (seqObj "list" us.toArray 0) }
  rw [hsz]
  refine wpAny_bind (wpAny_holding (wpAny_call_entry slot_list_sort ⟨_, hoL, rfl⟩ entry_list_sort (list_sort_tr0 (s := { s with heap := ((s.heap.push (seqObj "list" #[] 0)).update s.heap.objs.size (Obj.mapSeq (· ++ us.toArray))).push (seqObj "list" us.toArray 0) }) hoL (e.keeps keep) h64 (by
    rw [show A.in1.in1.units = A.units + 2 from rfl]; omega) fun ix a1 a2 a3 => ⟨_, rfl, ?_⟩) (args_list_sort _)))
  obtain ⟨e1, he1⟩ := sortedAll_at s.heap us (ix.map fun i => us.getD i Value.none).toArray
  exact wpAny_pure ⟨_, rfl, h _ ix e1 a1 a2 a3 (fun _ _ => sortedAll_old) he1⟩
theorem sorted_tupR {l : Addr} {us : List Value} {t : Tr} {b : Bool} {Q : Value → Shared → Prop} (hl : s.heap.IsTuple l us.toArray) (e : Vs s.heap t us) (h64 : us.length < 64) (hu : A.units + 2 + t.deep ≤ cLine)
    (h : ∀ (h' : Heap) (ix : List Nat) (e1 : Nat), ix.length = us.length → (∀ i ∈ ix, i < us.length) → (ix.map fun i => t.bs.getD i .nil) = (if b then Tr.srt t.bs else (Tr.srt t.bs).reverse) → (∀ c o, s.heap.get? c = some o → h'.get? c = some o) →
      h'.get? (s.heap.objs.size + 1) = some (seqObj "list" (ix.map fun i => us.getD i Value.none).toArray e1) → Q (.ref (s.heap.objs.size + 1)) { s with heap := h' }) :
    wpAny (model prog w) A (call (.builtin "sorted") [.ref l] [(Str.ofString "reverse", .bool b)]) Q E s := by
  refine call_function_entry_kw kind_sorted plain_sorted entry_sorted (args_sorted_rev _ _) ?_
  unfold Builtin.«sorted»
  refine wpAny_bind (m := checkCount "sorted" 1 1 _) (wpAny_pure ?_)
  refine wpAny_bind (collect_tup hl ?_ (by rw [sizeLine_eq]; omega))
  refine wpAny_bind (wpAny_newList ?_ (by rw [sizeLine_eq]; omega))
  have hsz : ((s.heap.push (seqObj "list" #[] 0)).update s.heap.objs.size (Obj.mapSeq (· ++ us.toArray))).objs.size = s.heap.objs.size + 1 := by
    rw [Heap.size_update, size_push']
  have hoL : (((s.heap.push (seqObj "list" #[] 0)).update s.heap.objs.size (Obj.mapSeq (· ++ us.toArray))).push (seqObj "list" us.toArray 0)).get? (s.heap.objs.size + 1) = some (seqObj "list" us.toArray 0) := by
    rw [← hsz]; exact Heap.get?_push_size _ rfl
  have keep : ∀ b o, s.heap.get? b = some o → o.cls = .type "tuple" → (((s.heap.push (seqObj "list" #[] 0)).update s.heap.objs.size (Obj.mapSeq (· ++ us.toArray))).push (seqObj "list" us.toArray 0)).get? b = some o := fun b o q _ => by
    have hlt : b < s.heap.objs.size := Heap.lt_size q
    rw [Heap.get?_push_ne _ _ _ (by rw [hsz]; exact Nat.ne_of_lt (Nat.lt_succ_of_lt hlt)), Heap.get?_update_ne _ _ _ _ (Nat.ne_of_lt hlt), Heap.get?_push_ne _ _ _ (Nat.ne_of_lt hlt)]
    exact q
  show wpAny _ _ _ _ _ { s with heap := ((s.heap.push (seqObj "list" #[] 0)).update s.heap.objs.size (Obj.mapSeq (· ++ us.toArray))).push (seqObj "list" us.toArray 0) }
  rw [hsz]
  refine wpAny_bind (wpAny_holding (wpAny_call_entry_kw slot_list_sort ⟨_, hoL, rfl⟩ entry_list_sort (list_sort_tr (b := b) (s := { s with heap := ((s.heap.push (seqObj "list" #[] 0)).update s.heap.objs.size (Obj.mapSeq (· ++ us.toArray))).push (seqObj "list" us.toArray 0) }) hoL (e.keeps keep) h64 (by
    rw [show A.in1.in1.units = A.units + 2 from rfl]; omega) fun ix a1 a2 a3 => ⟨_, rfl, ?_⟩) (args_list_sort_rev _ _)))
  obtain ⟨e1, he1⟩ := sortedAll_at s.heap us (ix.map fun i => us.getD i Value.none).toArray
  exact wpAny_pure ⟨_, rfl, h _ ix e1 a1 a2 a3 (fun _ _ => sortedAll_old) he1⟩
end
end TH
set_option Elab.async false
set_option linter.all false
set_option maxRecDepth 100000
set_option maxHeartbeats 4000000
namespace Tim
open PySem PyProof.Rows
def gallop' : Bool → Keyed → Array Keyed → Nat → Nat → Nat → StateT SortSt Sem (Option Nat) := sortPriv% PySem.Builtin.gallop
def mergeLo' : Array Keyed → Array Keyed → StateT SortSt Sem (Array Keyed) := sortPriv% PySem.Builtin.mergeLo
def iter {T : Type} (step : T → Option (Bool × T)) : Nat → T → Option T
  | 0, t => some t
  | n + 1, t => match step t with
    | none => none
    | some (true, t') => some t'
    | some (false, t') => iter step n t'
section pure
variable (N : Nat) (lt : Nat → Nat → Bool)
def cmp (i j : Nat) : Option Bool := if i < N ∧ j < N then some (lt i j) else none
def at2 (p : Array Nat) (i j : Nat) : Option Bool := match p[i]?, p[j]? with
  | some x, some y => cmp N lt x y
  | _, _ => none
def turn (p : Array Nat) (i j : Nat) : Array Nat := mirror p i j ((j - i) / 2)
def ascS (p : Array Nat) (lo : Nat) (n : Nat) : Option (Bool × Nat) := match at2 N lt p (lo + n) (lo + n - 1) with
  | none => none
  | some true => some (true, n)
  | some false => some (false, n + 1)
def descS (lo : Nat) (t : Array Nat × Nat × Nat) : Option (Bool × Array Nat × Nat × Nat) := match at2 N lt t.1 (lo + t.2.1) (lo + t.2.1 - 1) with
  | none => none
  | some true => some (false, (if t.2.2 > 0 then turn t.1 (lo + t.2.1 - (t.2.2 + 1)) (lo + t.2.1) else t.1), t.2.1 + 1, 0)
  | some false => match at2 N lt t.1 (lo + t.2.1 - 1) (lo + t.2.1) with
    | none => none
    | some true => some (true, t)
    | some false => some (false, t.1, t.2.1 + 1, t.2.2 + 1)
def fallT (p : Array Nat) (lo nrem n : Nat) : Option (Nat × Array Nat) := match iter (descS N lt lo) (nrem - (n + 1)) (p, n + 1, 0) with
  | none => none
  | some (p, n, q) =>
    let p := if q > 0 then turn p (lo + n - (q + 1)) (lo + n) else p
    let p := turn p lo (lo + n)
    (iter (ascS N lt p lo) (nrem - n) n).map fun m => (m, p)
def countT (p : Array Nat) (lo nrem : Nat) : Option (Nat × Array Nat) := match iter (ascS N lt p lo) (nrem - 1) 1 with
  | none => none
  | some n => if n == nrem then some (n, p) else if n > 1 then match at2 N lt p lo (lo + n - 1) with
      | none => none
      | some true => some (n, p)
      | some false => fallT N lt (turn p lo (lo + n)) lo nrem n
    else fallT N lt p lo nrem n
def placeS (p : Array Nat) (lo k : Nat) (t : Nat × Nat) : Option (Bool × Nat × Nat) := if t.1 ≥ t.2 then some (true, t) else match at2 N lt p (lo + k) (lo + (t.1 + t.2) / 2) with
  | none => none
  | some true => some (false, t.1, (t.1 + t.2) / 2)
  | some false => some (false, (t.1 + t.2) / 2 + 1, t.2)
def binT (lo : Nat) : Nat → Nat → Array Nat → Option (Array Nat)
  | 0, _, p => some p
  | f + 1, k, p => match iter (placeS N lt p lo k) k (0, k) with
    | none => none
    | some (l, _) => binT lo f (k + 1) (bubble p (lo + k) (lo + k - (lo + l)))
def bey (left : Bool) (key : Nat) (p : Array Nat) (base i : Nat) : Option Bool := match p[base + i]? with
  | none => none
  | some x => if left then cmp N lt x key else (cmp N lt key x).map (!·)
def upS (b : Nat → Option Bool) (hint mx : Nat) (t : Nat × Nat) : Option (Bool × Nat × Nat) := if t.2 ≥ mx then some (true, t) else match b (hint + t.2) with
  | none => none
  | some true => some (false, t.2, 2 * t.2 + 1)
  | some false => some (true, t)
def dnS (b : Nat → Option Bool) (hint mx : Nat) (t : Nat × Nat) : Option (Bool × Nat × Nat) := if t.2 ≥ mx then some (true, t) else match b (hint - t.2) with
  | none => none
  | some true => some (true, t)
  | some false => some (false, t.2, 2 * t.2 + 1)
def bisS (b : Nat → Option Bool) (t : Nat × Nat) : Option (Bool × Nat × Nat) := if t.1 ≥ t.2 then some (true, t) else match b (t.1 + (t.2 - t.1) / 2) with
  | none => none
  | some true => some (false, t.1 + (t.2 - t.1) / 2 + 1, t.2)
  | some false => some (false, t.1, t.1 + (t.2 - t.1) / 2)
def galT (b : Nat → Option Bool) (n hint : Nat) : Option Nat := match b hint with
  | none => none
  | some true => match iter (upS b hint (n - hint)) n (0, 1) with
    | none => none
    | some (l, o) => (iter (bisS b) n (hint + l + 1, hint + min o (n - hint))).map (·.2)
  | some false => match iter (dnS b hint (hint + 1)) n (0, 1) with
    | none => none
    | some (l, o) => (iter (bisS b) n (hint + 1 - min o (hint + 1), hint - l)).map (·.2)
end pure
section
variable {M : Model} {A : Around} {E : Value → Shared → Prop} {s : Shared} {σ : Type}
theorem wpS_iter {T β : Type} {body : Nat → β → StateT σ Sem (ForInStep β)} (step : T → Option (Bool × T)) (toB : T → β) (toS : T → σ) {Q : β → σ → Prop}
    (hb : ∀ x t b t', step t = some (b, t') → ∀ R : ForInStep β → σ → Prop, R (if b = true then .done (toB t') else .yield (toB t')) (toS t') → wpS M A E s (body x (toB t)) R (toS t)) :
    ∀ (l : List Nat) (t t' : T), iter step l.length t = some t' → Q (toB t') (toS t') → wpS M A E s (forIn l (toB t) body) Q (toS t)
  | [], t, t', h, q => by
    cases h
    rw [List.forIn_nil]
    exact wpS_pure q
  | x :: l, t, t', h, q => by
    rw [List.forIn_cons]
    rw [List.length_cons, iter] at h
    cases e : step t with
    | none => rw [e] at h; cases h
    | some r =>
      obtain ⟨b, t2⟩ := r
      rw [e] at h
      refine wpS_bind (hb x t b t2 e _ ?_)
      cases b with
      | true =>
        simp only [if_true]
        cases h
        exact wpS_pure q
      | false =>
        simp only [Bool.false_eq_true, if_false]
        exact wpS_iter step toB toS hb l t2 t' h q
theorem wpS_iterR {T β : Type} {a b : Nat} {body : Nat → β → StateT σ Sem (ForInStep β)} (step : T → Option (Bool × T)) (toB : T → β) (toS : T → σ) {Q : β → σ → Prop} {t t' : T} (h : iter step (b - a) t = some t')
    (hb : ∀ x t b t', step t = some (b, t') → ∀ R : ForInStep β → σ → Prop, R (if b = true then .done (toB t') else .yield (toB t')) (toS t') → wpS M A E s (body x (toB t)) R (toS t)) (q : Q (toB t') (toS t')) :
    wpS M A E s (forIn [a:b] (toB t) body) Q (toS t) := by
  rw [Std.Legacy.Range.forIn_eq_forIn_range']
  have hsz : ([a:b] : Std.Legacy.Range).size = b - a := by simp [Std.Legacy.Range.size]
  show wpS M A E s (forIn (List.range' a ([a:b] : Std.Legacy.Range).size 1) (toB t) body) Q (toS t)
  rw [hsz]
  exact wpS_iter step toB toS hb _ t t' (by rw [List.length_range']; exact h) q
end
section
variable {prog : Program} {w : World} {A : Around} {E : Value → Shared → Prop} {s : Shared} {N : Nat} {lt : Nat → Nat → Bool} {κ : SortKind} {it : Nat → Keyed}
def Cm (prog : Program) (w : World) (A : Around) (s : Shared) (κ : SortKind) (it : Nat → Keyed) (N : Nat) (lt : Nat → Nat → Bool) : Prop :=
  ∀ (i j : Nat) (E : Value → Shared → Prop) (Q : Bool → Shared → Prop), i < N → j < N → Q (lt i j) s → wpAny (model prog w) A (keyLt' κ (it i).1 (it j).1) Q E s
abbrev St (κ : SortKind) (it : Nat → Keyed) (p : Array Nat) (pend : Array (Nat × Nat × Nat)) (g : Nat) : SortSt := SortSt.mk' κ (p.map it) pend g none
variable {p : Array Nat} {pend : Array (Nat × Nat × Nat)} {g : Nat}
theorem lt_ok (hc : Cm prog w A s κ it N lt) {i j : Nat} {b : Bool} (h : cmp N lt i j = some b) {Q : Option Bool → SortSt → Prop} (q : Q (some b) (St κ it p pend g)) : wpS (model prog w) A E s (lt' (it i) (it j)) Q (St κ it p pend g) := by
  unfold cmp at h
  split at h
  · rename_i hij
    cases h
    rw [lt'_eq]
    refine wpS_bind (wpS_get ?_)
    refine wpS_bind (wpS_lift (wpAny_attempt (hc i j _ _ hij.1 hij.2 ⟨rfl, ?_⟩)))
    exact wpS_pure q
  · cases h
theorem elem_ok {xs : Array Nat} {k i : Nat} (h : xs[k]? = some i) {Q : Keyed → SortSt → Prop} {st : SortSt} (q : Q (it i) st) : wpS (model prog w) A E s (elem' (xs.map it) k) Q st := by
  rw [elem'_eq, Array.getElem?_map, h]
  exact wpS_pure q
theorem ltAt_ok (hc : Cm prog w A s κ it N lt) {i j : Nat} {b : Bool} (h : at2 N lt p i j = some b) {Q : Option Bool → SortSt → Prop} (q : Q (some b) (St κ it p pend g)) : wpS (model prog w) A E s (ltAt' i j) Q (St κ it p pend g) := by
  unfold at2 at h
  split at h
  · rename_i x y h1 h2
    rw [ltAt'_eq]
    refine wpS_bind (wpS_get ?_)
    show wpS _ _ _ _ (do let x ← elem' (p.map it) i; let y ← elem' (p.map it) j; lt' x y) Q _
    exact wpS_bind (elem_ok h1 (wpS_bind (elem_ok h2 (lt_ok hc h q))))
  · cases h
theorem swaps_map {α β : Type} (f : α → β) (u v : Nat → Nat) : ∀ (l : List Nat) (xs : Array α), l.foldl (fun a k => a.swapIfInBounds (u k) (v k)) (xs.map f) = (l.foldl (fun a k => a.swapIfInBounds (u k) (v k)) xs).map f
  | [], _ => rfl
  | k :: l, xs => by
    have e : (xs.map f).swapIfInBounds (u k) (v k) = (xs.swapIfInBounds (u k) (v k)).map f := by
      apply Array.ext_getElem?
      intro m
      by_cases hi : u k < xs.size
      · by_cases hj : v k < xs.size
        · rw [getElem?_swapIB (by rw [Array.size_map]; exact hi) (by rw [Array.size_map]; exact hj)]
          simp only [Array.getElem?_map]
          rw [getElem?_swapIB hi hj]
          by_cases h1 : v k = m <;> by_cases h2 : u k = m <;> simp [h1, h2]
        · rw [Array.swapIfInBounds_def, Array.swapIfInBounds_def]
          simp [hi, hj]
      · rw [Array.swapIfInBounds_def, Array.swapIfInBounds_def]
        simp [hi]
    show l.foldl (fun a k => a.swapIfInBounds (u k) (v k)) ((xs.map f).swapIfInBounds (u k) (v k)) = _
    rw [e]
    exact swaps_map f u v l _
theorem turn_ok {i j : Nat} {Q : Unit → SortSt → Prop} (q : Q () (St κ it (turn p i j) pend g)) : wpS (model prog w) A E s (reverseSlice' i j) Q (St κ it p pend g) := by
  rw [reverseSlice'_eq]
  refine wpS_modify ?_
  have e : mirror (p.map it) i j ((j - i) / 2) = (mirror p i j ((j - i) / 2)).map it := swaps_map it (fun k => i + k) (fun k => j - 1 - k) _ p
  show Q () (SortSt.mk' κ (mirror (p.map it) i j ((j - i) / 2)) pend g none)
  rw [e]
  exact q
theorem move_ok {i j : Nat} {Q : Unit → SortSt → Prop} (q : Q () (St κ it (bubble p i (i - j)) pend g)) : wpS (model prog w) A E s (moveDown' i j) Q (St κ it p pend g) := by
  rw [moveDown'_eq]
  refine wpS_modify ?_
  have e : bubble (p.map it) i (i - j) = (bubble p i (i - j)).map it := swaps_map it (fun k => i - k) (fun k => i - k - 1) _ p
  show Q () (SortSt.mk' κ (bubble (p.map it) i (i - j)) pend g none)
  rw [e]
  exact q
theorem bey_ok (hc : Cm prog w A s κ it N lt) {left : Bool} {key : Nat} {xs : Array Nat} {base i : Nat} {b : Bool} (h : bey N lt left key xs base i = some b) {Q : Option Bool → SortSt → Prop} (q : Q (some b) (St κ it p pend g)) :
    wpS (model prog w) A E s (do
        let x ← elem' (xs.map it) (base + i)
        if left = true then lt' x (it key)
          else do
            let c ← lt' (it key) x
            pure (Option.map (fun x => !x) c)) Q (St κ it p pend g) := by
  unfold bey at h
  split at h
  · cases h
  · rename_i x hx
    refine wpS_bind (elem_ok hx ?_)
    cases left with
    | true =>
      simp only [if_true] at h ⊢
      exact lt_ok hc h q
    | false =>
      simp only [Bool.false_eq_true, if_false] at h ⊢
      cases e : cmp N lt key x with
      | none => rw [e] at h; cases h
      | some c =>
        rw [e] at h
        cases h
        exact wpS_bind (lt_ok hc e (wpS_pure q))
theorem gallop_ok (hc : Cm prog w A s κ it N lt) {left : Bool} {key : Nat} {xs : Array Nat} {base n hint k : Nat} (h : galT (bey N lt left key xs base) n hint = some k) {Q : Option Nat → SortSt → Prop} (q : Q (some k) (St κ it p pend g)) :
    wpS (model prog w) A E s (gallop' left (it key) (xs.map it) base n hint) Q (St κ it p pend g) := by
  unfold galT at h
  refine wpS_bind ?_
  have fin : ∀ {lo hi : Nat}, (iter (bisS (bey N lt left key xs base)) n (lo, hi)).map (·.2) = some k → ∃ lo' , iter (bisS (bey N lt left key xs base)) n (lo, hi) = some (lo', k) := fun {lo hi} z => by
    cases e : iter (bisS (bey N lt left key xs base)) n (lo, hi) with
    | none => rw [e] at z; cases z
    | some t => rw [e] at z; cases z; exact ⟨t.1, rfl⟩
  cases e0 : bey N lt left key xs base hint with
  | none => rw [e0] at h; cases h
  | some right =>
    rw [e0] at h
    refine bey_ok hc e0 ?_
    have bis : ∀ (body : Nat → Option (Option Nat) × Nat × Nat → StateT SortSt Sem (ForInStep (Option (Option Nat) × Nat × Nat))) (K : Option (Option Nat) × Nat × Nat → StateT SortSt Sem (Option Nat)),
        (∀ x lo hi (R : ForInStep (Option (Option Nat) × Nat × Nat) → SortSt → Prop), lo ≥ hi → R (.done (none, lo, hi)) (St κ it p pend g) → wpS (model prog w) A E s (body x (none, lo, hi)) R (St κ it p pend g)) →
        (∀ x lo hi c (R : ForInStep (Option (Option Nat) × Nat × Nat) → SortSt → Prop), ¬ lo ≥ hi → bey N lt left key xs base (lo + (hi - lo) / 2) = some c → R (.yield (if c = true then (none, lo + (hi - lo) / 2 + 1, hi) else (none, lo, lo + (hi - lo) / 2))) (St κ it p pend g) → wpS (model prog w) A E s (body x (none, lo, hi)) R (St κ it p pend g)) →
        (∀ lo hi, K (none, lo, hi) = pure (some hi)) → ∀ lo hi, (iter (bisS (bey N lt left key xs base)) n (lo, hi)).map (·.2) = some k → wpS (model prog w) A E s (forIn [0:n] (none, lo, hi) body >>= K) Q (St κ it p pend g) := by
      intro body K h1 h2 h3 lo hi hz
      obtain ⟨lo', e⟩ := fin hz
      refine wpS_bind (wpS_iterR (T := Nat × Nat) (bisS (bey N lt left key xs base)) (fun t => (none, t.1, t.2)) (fun _ => St κ it p pend g) (t := (lo, hi)) e (fun x t b t' hs R hR => ?_) ?_)
      · unfold bisS at hs
        split at hs
        · rename_i hge
          cases hs
          exact h1 x t.1 t.2 R hge hR
        · rename_i hge
          split at hs
          · cases hs
          · rename_i hb
            cases hs
            exact h2 x t.1 t.2 true R hge hb hR
          · rename_i hb
            cases hs
            exact h2 x t.1 t.2 false R hge hb hR
      · show wpS _ _ _ _ (K (none, lo', k)) _ _
        rw [h3]
        exact wpS_pure q
    cases right with
    | true =>
      simp only [if_true] at h ⊢
      split at h
      · cases h
      · rename_i l o e1
        refine wpS_bind (wpS_iterR (T := Nat × Nat) (upS (bey N lt left key xs base) hint (n - hint)) (fun t => (none, t.1, t.2)) (fun _ => St κ it p pend g) (t := (0, 1)) e1 (fun x t b t' hs R hR => ?_) ?_)
        · unfold upS at hs
          split at hs
          · rename_i hge
            cases hs
            show wpS _ _ _ _ (if t.2 ≥ n - hint then _ else _) _ _
            rw [if_pos hge]
            exact wpS_pure hR
          · rename_i hge
            show wpS _ _ _ _ (if t.2 ≥ n - hint then _ else _) _ _
            rw [if_neg hge]
            split at hs
            · cases hs
            · rename_i hb
              cases hs
              exact wpS_bind (bey_ok hc hb (wpS_pure hR))
            · rename_i hb
              cases hs
              exact wpS_bind (bey_ok hc hb (wpS_pure hR))
        · refine bis _ _ (fun x lo hi R hge hR => ?_) (fun x lo hi c R hge hb hR => ?_) (fun _ _ => rfl) _ _ h
          · dsimp only
            rw [if_pos hge]
            exact wpS_pure hR
          · dsimp only
            rw [if_neg hge]
            refine wpS_bind (bey_ok hc hb ?_)
            cases c with
            | true => exact wpS_pure hR
            | false => exact wpS_pure hR
    | false =>
      simp only [Bool.false_eq_true, if_false] at h ⊢
      split at h
      · cases h
      · rename_i l o e1
        refine wpS_bind (wpS_iterR (T := Nat × Nat) (dnS (bey N lt left key xs base) hint (hint + 1)) (fun t => (none, t.1, t.2)) (fun _ => St κ it p pend g) (t := (0, 1)) e1 (fun x t b t' hs R hR => ?_) ?_)
        · unfold dnS at hs
          split at hs
          · rename_i hge
            cases hs
            show wpS _ _ _ _ (if t.2 ≥ hint + 1 then _ else _) _ _
            rw [if_pos hge]
            exact wpS_pure hR
          · rename_i hge
            show wpS _ _ _ _ (if t.2 ≥ hint + 1 then _ else _) _ _
            rw [if_neg hge]
            split at hs
            · cases hs
            · rename_i hb
              cases hs
              exact wpS_bind (bey_ok hc hb (wpS_pure hR))
            · rename_i hb
              cases hs
              exact wpS_bind (bey_ok hc hb (wpS_pure hR))
        · refine bis _ _ (fun x lo hi R hge hR => ?_) (fun x lo hi c R hge hb hR => ?_) (fun _ _ => rfl) _ _ h
          · dsimp only
            rw [if_pos hge]
            exact wpS_pure hR
          · dsimp only
            rw [if_neg hge]
            refine wpS_bind (bey_ok hc hb ?_)
            cases c with
            | true => exact wpS_pure hR
            | false => exact wpS_pure hR
theorem asc_step (hc : Cm prog w A s κ it N lt) {lo n : Nat} {b : Bool} {t' : Nat} (h : ascS N lt p lo n = some (b, t')) {R : ForInStep (Option (Option Nat) × Nat) → SortSt → Prop} (hR : R (if b = true then .done (none, t') else .yield (none, t')) (St κ it p pend g)) :
    wpS (model prog w) A E s (do
      let x ← ltAt' (lo + n) (lo + n - 1)
      match x with
      | some smaller => if smaller = true then pure (ForInStep.done (none, n)) else pure (ForInStep.yield (none, n + 1))
      | _ => pure (ForInStep.done (some none, n))) R (St κ it p pend g) := by
  unfold ascS at h
  split at h
  · cases h
  · rename_i hb
    cases h
    exact wpS_bind (ltAt_ok hc hb (wpS_pure hR))
  · rename_i hb
    cases h
    exact wpS_bind (ltAt_ok hc hb (wpS_pure hR))
theorem count_ok (hc : Cm prog w A s κ it N lt) {lo nrem m : Nat} {p' : Array Nat} (h : countT N lt p lo nrem = some (m, p')) {Q : Option Nat → SortSt → Prop} (q : Q (some m) (St κ it p' pend g)) : wpS (model prog w) A E s (countRun' lo nrem) Q (St κ it p pend g) := by
  unfold countT at h
  split at h
  · cases h
  · rename_i n e1
    refine wpS_bind (wpS_iterR (T := Nat) (ascS N lt p lo) (fun t => (none, t)) (fun _ => St κ it p pend g) e1 (fun x t b t' hs R hR => asc_step hc hs hR) ?_)
    dsimp only
    split at h
    · rename_i hn
      cases h
      rw [if_pos hn]
      exact wpS_pure q
    · rename_i hn
      rw [if_neg hn]
      split at h
      · rename_i hn1
        rw [if_pos hn1]
        split at h
        · cases h
        · rename_i hb
          cases h
          exact wpS_bind (ltAt_ok hc hb (wpS_pure q))
        · rename_i hb
          refine wpS_bind (ltAt_ok hc hb ?_)
          dsimp only
          rw [if_neg (by decide)]
          refine wpS_bind (turn_ok ?_)
          obtain ⟨p1, hp1⟩ : ∃ p1, p1 = turn p lo (lo + n) := ⟨_, rfl⟩
          rw [← hp1] at h ⊢
          refine wpS_bind (wpS_lift (wpAny_rule ⟨rfl, ?_⟩))
          unfold fallT at h
          split at h
          · cases h
          · rename_i p2 n2 q2 e2
            refine wpS_bind (wpS_iterR (T := Array Nat × Nat × Nat) (descS N lt lo) (fun t => (none, t.2)) (fun t => St κ it t.1 pend g) (t := (p1, n + 1, 0)) e2 (fun x t b t' hs R hR => ?_) ?_)
            · unfold descS at hs
              split at hs
              · cases hs
              · rename_i hb
                cases hs
                refine wpS_bind (ltAt_ok hc hb ?_)
                dsimp only at hR ⊢
                rw [if_pos rfl]
                by_cases hq : t.2.2 > 0
                · rw [if_pos hq] at hR ⊢
                  exact wpS_bind (turn_ok (wpS_pure hR))
                · rw [if_neg hq] at hR ⊢
                  exact wpS_pure hR
              · rename_i hb
                refine wpS_bind (ltAt_ok hc hb ?_)
                dsimp only
                rw [if_neg (by decide)]
                split at hs
                · cases hs
                · rename_i hb2
                  cases hs
                  exact wpS_bind (ltAt_ok hc hb2 (wpS_pure hR))
                · rename_i hb2
                  cases hs
                  exact wpS_bind (ltAt_ok hc hb2 (wpS_pure hR))
            · dsimp only at h ⊢
              obtain ⟨p3, hp3⟩ : ∃ p3, p3 = turn (if q2 > 0 then turn p2 (lo + n2 - (q2 + 1)) (lo + n2) else p2) lo (lo + n2) := ⟨_, rfl⟩
              rw [← hp3] at h
              cases e3 : iter (ascS N lt p3 lo) (nrem - n2) n2 with
              | none => rw [e3] at h; cases h
              | some m' =>
                rw [e3] at h
                obtain ⟨rfl, h4⟩ : m' = m ∧ p3 = p' := by simpa using h
                rw [← h4] at q
                by_cases hq : q2 > 0
                · rw [if_pos hq] at hp3 ⊢
                  refine wpS_bind (turn_ok (wpS_bind (turn_ok ?_)))
                  rw [← hp3]
                  exact wpS_bind (wpS_iterR (T := Nat) (ascS N lt p3 lo) (fun t => (none, t)) (fun _ => St κ it p3 pend g) e3 (fun x t b t' hs R hR => asc_step hc hs hR) (wpS_pure q))
                · rw [if_neg hq] at hp3 ⊢
                  refine wpS_bind (turn_ok ?_)
                  rw [← hp3]
                  exact wpS_bind (wpS_iterR (T := Nat) (ascS N lt p3 lo) (fun t => (none, t)) (fun _ => St κ it p3 pend g) e3 (fun x t b t' hs R hR => asc_step hc hs hR) (wpS_pure q))
      · rename_i hn1
        rw [if_neg hn1]
        refine wpS_bind (wpS_lift (wpAny_rule ⟨rfl, ?_⟩))
        unfold fallT at h
        split at h
        · cases h
        · rename_i p2 n2 q2 e2
          refine wpS_bind (wpS_iterR (T := Array Nat × Nat × Nat) (descS N lt lo) (fun t => (none, t.2)) (fun t => St κ it t.1 pend g) (t := (p, n + 1, 0)) e2 (fun x t b t' hs R hR => ?_) ?_)
          · unfold descS at hs
            split at hs
            · cases hs
            · rename_i hb
              cases hs
              refine wpS_bind (ltAt_ok hc hb ?_)
              dsimp only at hR ⊢
              rw [if_pos rfl]
              by_cases hq : t.2.2 > 0
              · rw [if_pos hq] at hR ⊢
                exact wpS_bind (turn_ok (wpS_pure hR))
              · rw [if_neg hq] at hR ⊢
                exact wpS_pure hR
            · rename_i hb
              refine wpS_bind (ltAt_ok hc hb ?_)
              dsimp only
              rw [if_neg (by decide)]
              split at hs
              · cases hs
              · rename_i hb2
                cases hs
                exact wpS_bind (ltAt_ok hc hb2 (wpS_pure hR))
              · rename_i hb2
                cases hs
                exact wpS_bind (ltAt_ok hc hb2 (wpS_pure hR))
          · dsimp only at h ⊢
            obtain ⟨p3, hp3⟩ : ∃ p3, p3 = turn (if q2 > 0 then turn p2 (lo + n2 - (q2 + 1)) (lo + n2) else p2) lo (lo + n2) := ⟨_, rfl⟩
            rw [← hp3] at h
            cases e3 : iter (ascS N lt p3 lo) (nrem - n2) n2 with
            | none => rw [e3] at h; cases h
            | some m' =>
              rw [e3] at h
              obtain ⟨rfl, h4⟩ : m' = m ∧ p3 = p' := by simpa using h
              rw [← h4] at q
              by_cases hq : q2 > 0
              · rw [if_pos hq] at hp3 ⊢
                refine wpS_bind (turn_ok (wpS_bind (turn_ok ?_)))
                rw [← hp3]
                exact wpS_bind (wpS_iterR (T := Nat) (ascS N lt p3 lo) (fun t => (none, t)) (fun _ => St κ it p3 pend g) e3 (fun x t b t' hs R hR => asc_step hc hs hR) (wpS_pure q))
              · rw [if_neg hq] at hp3 ⊢
                refine wpS_bind (turn_ok ?_)
                rw [← hp3]
                exact wpS_bind (wpS_iterR (T := Nat) (ascS N lt p3 lo) (fun t => (none, t)) (fun _ => St κ it p3 pend g) e3 (fun x t b t' hs R hR => asc_step hc hs hR) (wpS_pure q))
theorem bin_loop {R : Option Bool × Unit → SortSt → Prop} {body : Nat → Option Bool × Unit → StateT SortSt Sem (ForInStep (Option Bool × Unit))} {lo : Nat} {p' : Array Nat} (hR : R (none, ()) (St κ it p' pend g))
    (hb : ∀ (k : Nat) (p : Array Nat) (t : Nat × Nat), iter (placeS N lt p lo k) k (0, k) = some t → ∀ R' : ForInStep (Option Bool × Unit) → SortSt → Prop, R' (.yield (none, ())) (St κ it (bubble p (lo + k) (lo + k - (lo + t.1))) pend g) → wpS (model prog w) A E s (body k (none, ())) R' (St κ it p pend g)) :
    ∀ (f k : Nat) (p : Array Nat), binT N lt lo f k p = some p' → wpS (model prog w) A E s (forIn (List.range' k f 1) (none, ()) body) R (St κ it p pend g)
  | 0, k, p, h => by
    cases h
    exact wpS_pure hR
  | f + 1, k, p, h => by
    rw [List.range'_succ, List.forIn_cons]
    rw [binT] at h
    split at h
    · cases h
    · rename_i l r e
      exact wpS_bind (hb k p _ e _ (bin_loop hR hb f (k + 1) _ h))
theorem bin_ok (hc : Cm prog w A s κ it N lt) {lo n ok : Nat} {p' : Array Nat} (h : binT N lt lo (n - max ok 1) (max ok 1) p = some p') {Q : Bool → SortSt → Prop} (q : Q true (St κ it p' pend g)) : wpS (model prog w) A E s (binarySort' lo n ok) Q (St κ it p pend g) := by
  refine wpS_bind ?_
  rw [Std.Legacy.Range.forIn_eq_forIn_range']
  have hsz : ([max ok 1:n] : Std.Legacy.Range).size = n - max ok 1 := by simp [Std.Legacy.Range.size]
  show wpS _ _ _ _ (forIn (List.range' (max ok 1) ([max ok 1:n] : Std.Legacy.Range).size 1) _ _) _ _
  rw [hsz]
  refine bin_loop (N := N) (lt := lt) (lo := lo) (wpS_pure q) (fun k p2 t e R' hR' => ?_) _ _ _ h
  refine wpS_bind (wpS_iterR (T := Nat × Nat) (placeS N lt p2 lo k) (fun t => (none, t.1, t.2)) (fun _ => St κ it p2 pend g) (t := (0, k)) e (fun x t b t' hs R hR => ?_) ?_)
  · unfold placeS at hs
    split at hs
    · rename_i hge
      cases hs
      dsimp only
      rw [if_pos hge]
      exact wpS_pure hR
    · rename_i hge
      dsimp only
      rw [if_neg hge]
      split at hs
      · cases hs
      · rename_i hb
        cases hs
        exact wpS_bind (ltAt_ok hc hb (wpS_pure hR))
      · rename_i hb
        cases hs
        exact wpS_bind (ltAt_ok hc hb (wpS_pure hR))
  · exact wpS_bind (move_ok (wpS_pure hR'))
abbrev T1 := Option (Array Nat) × Array Nat × Nat × Nat × Nat × Nat
abbrev T2 := Option (Array Nat) × Array Nat × Nat × Nat × Nat × Nat × Nat × Nat
abbrev T0 := Option (Array Nat) × Array Nat × Nat × Nat × Nat × Nat
def doneT (a b out : Array Nat) (ia ib : Nat) : Array Nat := out ++ a.extract ia a.size ++ b.extract ib b.size
def lastT (a b out : Array Nat) (ia ib : Nat) : Array Nat := out ++ b.extract ib b.size ++ a.extract ia a.size
section pure
variable (N : Nat) (lt : Nat → Nat → Bool) (a b : Array Nat)
def oneS (mg : Nat) (t : T1) : Option (Bool × T1) := match t with
  | (_, out, ia, ib, ac, bc) => match b[ib]?, a[ia]? with
    | some y, some x => match cmp N lt y x with
      | none => none
      | some true =>
        if (ib + 1 == b.size) = true then some (true, some (doneT a b (out.push y) ia (ib + 1)), out.push y, ia, ib + 1, 0, bc + 1)
        else if bc + 1 ≥ mg then some (true, none, out.push y, ia, ib + 1, 0, bc + 1)
        else some (false, none, out.push y, ia, ib + 1, 0, bc + 1)
      | some false =>
        if (ia + 1 + 1 == a.size) = true then some (true, some (lastT a b (out.push x) (ia + 1) ib), out.push x, ia + 1, ib, ac + 1, 0)
        else if ac + 1 ≥ mg then some (true, none, out.push x, ia + 1, ib, ac + 1, 0)
        else some (false, none, out.push x, ia + 1, ib, ac + 1, 0)
    | _, _ => none
def galB (out : Array Nat) (ia ib mg ac bc : Nat) : Option (Bool × T2) := match b[ib]? with
  | none => none
  | some y =>
    if (ib + 1 == b.size) = true then some (true, some (doneT a b (out.push y) ia (ib + 1)), out.push y, ia, ib + 1, mg, ac, bc, mg)
    else match a[ia]? with
      | none => none
      | some x => match galT (bey N lt true x b (ib + 1)) (b.size - (ib + 1)) 0 with
        | none => none
        | some k =>
          let out2 := if k > 0 then out.push y ++ b.extract (ib + 1) (ib + 1 + k) else out.push y
          let ib2 := if k > 0 then ib + 1 + k else ib + 1
          if k > 0 ∧ (ib + 1 + k == b.size) = true then some (true, some (doneT a b out2 ia ib2), out2, ia, ib2, mg, ac, k, mg)
          else if (ia + 1 + 1 == a.size) = true then some (true, some (lastT a b (out2.push x) (ia + 1) ib2), out2.push x, ia + 1, ib2, mg, ac, k, mg)
          else if (decide (ac < 7) && decide (k < 7)) = true then some (true, none, out2.push x, ia + 1, ib2, mg, ac, k, mg)
          else some (false, none, out2.push x, ia + 1, ib2, mg, ac, k, mg)
def galS (t : T2) : Option (Bool × T2) := match t with
  | (_, out, ia, ib, mg0, _, bc, _) =>
    let mg := if mg0 > 1 then mg0 - 1 else mg0
    match b[ib]? with
    | none => none
    | some y => match galT (bey N lt false y a ia) (a.size - ia) 0 with
      | none => none
      | some k => if k > 0 then
          if (ia + k + 1 == a.size) = true then some (true, some (lastT a b (out ++ a.extract ia (ia + k)) (ia + k) ib), out ++ a.extract ia (ia + k), ia + k, ib, mg, k, bc, mg)
          else if (ia + k == a.size) = true then some (true, some (doneT a b (out ++ a.extract ia (ia + k)) (ia + k) ib), out ++ a.extract ia (ia + k), ia + k, ib, mg, k, bc, mg)
          else galB N lt a b (out ++ a.extract ia (ia + k)) (ia + k) ib mg k bc
        else galB N lt a b out ia ib mg k bc
def outS (t : T0) : Option (Bool × T0) := match t with
  | (_, out, ia, ib, mg, sg) => match iter (oneS N lt a b mg) (a.size + b.size) (none, out, ia, ib, 0, 0) with
    | none => none
    | some (some r, out, ia, ib, _, _) => some (true, some r, out, ia, ib, mg, sg)
    | some (none, out, ia, ib, ac, bc) => match iter (galS N lt a b) (a.size + b.size) (none, out, ia, ib, mg + 1, ac, bc, sg) with
      | none => none
      | some (some r, out, ia, ib, mg, _, _, sg) => some (true, some r, out, ia, ib, mg, sg)
      | some (none, out, ia, ib, mg, _, _, _) => some (false, none, out, ia, ib, mg + 1, mg + 1)
def mergeT (sg : Nat) : Option (Array Nat × Nat) := match b[0]? with
  | none => none
  | some y => if (1 == b.size) = true then some (doneT a b #[y] 0 1, sg) else if (0 + 1 == a.size) = true then some (lastT a b #[y] 0 1, sg)
    else match iter (outS N lt a b) (a.size + b.size) (none, #[y], 0, 1, sg, sg) with
      | some (some r, _, _, _, _, sg) => some (r, sg)
      | _ => none
end pure
theorem done_map (a b out : Array Nat) (ia ib : Nat) : (doneT a b out ia ib).map it = out.map it ++ (a.map it).extract ia (a.map it).size ++ (b.map it).extract ib (b.map it).size := by
  unfold doneT
  simp
theorem last_map (a b out : Array Nat) (ia ib : Nat) : (lastT a b out ia ib).map it = out.map it ++ (b.map it).extract ib (b.map it).size ++ (a.map it).extract ia (a.map it).size := by
  unfold lastT
  simp
def e1 (it : Nat → Keyed) (t : T1) : Option (Array Keyed) × Array Keyed × Nat × Nat × Nat × Nat := (t.1.map (·.map it), t.2.1.map it, t.2.2)
def e2 (it : Nat → Keyed) (t : T2) : Option (Array Keyed) × Array Keyed × Nat × Nat × Nat × Nat × Nat := (t.1.map (·.map it), t.2.1.map it, t.2.2.1, t.2.2.2.1, t.2.2.2.2.1, t.2.2.2.2.2.1, t.2.2.2.2.2.2.1)
def e0 (it : Nat → Keyed) (t : T0) : Option (Array Keyed) × Array Keyed × Nat × Nat × Nat := (t.1.map (·.map it), t.2.1.map it, t.2.2.1, t.2.2.2.1, t.2.2.2.2.1)
theorem wpS_pos {M : Model} {σ α : Type} {c : Prop} [Decidable c] {x y : StateT σ Sem α} {Q : α → σ → Prop} {st : σ} (h : c) (k : wpS M A E s x Q st) : wpS M A E s (if c then x else y) Q st := by rw [if_pos h]; exact k
theorem wpS_neg {M : Model} {σ α : Type} {c : Prop} [Decidable c] {x y : StateT σ Sem α} {Q : α → σ → Prop} {st : σ} (h : ¬ c) (k : wpS M A E s y Q st) : wpS M A E s (if c then x else y) Q st := by rw [if_neg h]; exact k
theorem merge_ok (hc : Cm prog w A s κ it N lt) {a bb r : Array Nat} {sg : Nat} (h : mergeT N lt a bb g = some (r, sg)) {Q : Array Keyed → SortSt → Prop} (q : Q (r.map it) (St κ it p pend sg)) : wpS (model prog w) A E s (mergeLo' (a.map it) (bb.map it)) Q (St κ it p pend g) := by
  unfold mergeT at h
  split at h
  · cases h
  · rename_i y hy
    refine wpS_bind (wpS_lift (wpAny_rule ⟨rfl, ?_⟩))
    dsimp only
    refine wpS_bind (elem_ok hy ?_)
    have hy1 : Array.map it #[y] = #[it y] := by simp
    rw [← hy1]
    split at h
    · rename_i h1
      obtain ⟨rfl, rfl⟩ : doneT a bb #[y] 0 1 = r ∧ g = sg := by simpa using h
      refine wpS_pos (by simpa using h1) ?_
      refine wpS_pure ?_
      rw [done_map] at q
      exact q
    · rename_i h1
      refine wpS_neg (by simpa using h1) ?_
      split at h
      · rename_i h2
        obtain ⟨rfl, rfl⟩ : lastT a bb #[y] 0 1 = r ∧ g = sg := by simpa using h
        refine wpS_pos (by simpa using h2) ?_
        refine wpS_pure ?_
        rw [last_map] at q
        exact q
      · rename_i h2
        refine wpS_neg (by simpa using h2) ?_
        split at h
        · rename_i r' out' ia' ib' mg' sg' e
          obtain ⟨rfl, rfl⟩ : r' = r ∧ sg' = sg := by simpa using h
          refine wpS_bind (wpS_get ?_)
          dsimp only
          have e : iter (outS N lt a bb) ((a.map it).size + (bb.map it).size - 0) (none, #[y], 0, 1, g, g) = some (some r', out', ia', ib', mg', sg') := by rw [Array.size_map, Array.size_map]; exact e
          refine wpS_bind (wpS_iterR (T := T0) (outS N lt a bb) (e0 it) (fun t => St κ it p pend t.2.2.2.2.2) (t := (none, #[y], 0, 1, g, g)) e (fun x t bo t' hs R hR => ?_) ?_)
          · obtain ⟨r0, out0, ia0, ib0, mg0, sg0⟩ := t
            unfold outS at hs
            dsimp only [e0] at hs ⊢
            cases h1 : iter (oneS N lt a bb mg0) (a.size + bb.size) (none, out0, ia0, ib0, 0, 0) with
            | none => rw [h1] at hs; cases hs
            | some t1 =>
              rw [h1] at hs
              have h1' : iter (oneS N lt a bb mg0) ((a.map it).size + (bb.map it).size - 0) (none, out0, ia0, ib0, 0, 0) = some t1 := by rw [Array.size_map, Array.size_map]; exact h1
              refine wpS_bind (wpS_iterR (T := T1) (oneS N lt a bb mg0) (e1 it) (fun _ => St κ it p pend sg0) (t := (none, out0, ia0, ib0, 0, 0)) h1' (fun x t b t' hs R hR => ?_) ?_)
              · obtain ⟨r2, out2, ia2, ib2, ac2, bc2⟩ := t
                unfold oneS at hs
                dsimp only [e1] at hs ⊢
                split at hs
                · rename_i y1 x1 hy1 hx1
                  refine wpS_bind (elem_ok hy1 (wpS_bind (elem_ok hx1 ?_)))
                  split at hs
                  · cases hs
                  · rename_i hl
                    refine wpS_bind (lt_ok hc hl ?_)
                    dsimp only
                    refine wpS_pos rfl ?_
                    refine wpS_bind (elem_ok hy1 ?_)
                    split at hs
                    · rename_i g1
                      cases hs
                      refine wpS_pos (by simpa using g1) ?_
                      simp only [e0, e1, e2, Option.map_some, Option.map_none, done_map, last_map, Array.map_push, Array.map_append, Array.map_extract, if_true, Bool.false_eq_true, if_false] at hR
                      exact wpS_pure hR
                    · rename_i g1
                      refine wpS_neg (by simpa using g1) ?_
                      split at hs
                      · rename_i g2
                        cases hs
                        refine wpS_pos g2 ?_
                        simp only [e0, e1, e2, Option.map_some, Option.map_none, done_map, last_map, Array.map_push, Array.map_append, Array.map_extract, if_true, Bool.false_eq_true, if_false] at hR
                        exact wpS_pure hR
                      · rename_i g2
                        cases hs
                        refine wpS_neg g2 ?_
                        simp only [e0, e1, e2, Option.map_some, Option.map_none, done_map, last_map, Array.map_push, Array.map_append, Array.map_extract, if_true, Bool.false_eq_true, if_false] at hR
                        exact wpS_pure hR
                  · rename_i hl
                    refine wpS_bind (lt_ok hc hl ?_)
                    dsimp only
                    refine wpS_neg (by decide) ?_
                    refine wpS_bind (elem_ok hx1 ?_)
                    split at hs
                    · rename_i g1
                      cases hs
                      refine wpS_pos (by simpa using g1) ?_
                      simp only [e0, e1, e2, Option.map_some, Option.map_none, done_map, last_map, Array.map_push, Array.map_append, Array.map_extract, if_true, Bool.false_eq_true, if_false] at hR
                      exact wpS_pure hR
                    · rename_i g1
                      refine wpS_neg (by simpa using g1) ?_
                      split at hs
                      · rename_i g2
                        cases hs
                        refine wpS_pos g2 ?_
                        simp only [e0, e1, e2, Option.map_some, Option.map_none, done_map, last_map, Array.map_push, Array.map_append, Array.map_extract, if_true, Bool.false_eq_true, if_false] at hR
                        exact wpS_pure hR
                      · rename_i g2
                        cases hs
                        refine wpS_neg g2 ?_
                        simp only [e0, e1, e2, Option.map_some, Option.map_none, done_map, last_map, Array.map_push, Array.map_append, Array.map_extract, if_true, Bool.false_eq_true, if_false] at hR
                        exact wpS_pure hR
                · cases hs
              · obtain ⟨r1, out1, ia1, ib1, ac1, bc1⟩ := t1
                cases r1 with
                | some r1 =>
                  cases hs
                  exact wpS_pure hR
                | none =>
                  dsimp only [e1, Option.map] at hs ⊢
                  refine wpS_bind (wpS_lift (wpAny_rule ⟨rfl, ?_⟩))
                  cases h2 : iter (galS N lt a bb) (a.size + bb.size) (none, out1, ia1, ib1, mg0 + 1, ac1, bc1, sg0) with
                  | none => rw [h2] at hs; cases hs
                  | some t2 =>
                    rw [h2] at hs
                    have h2' : iter (galS N lt a bb) ((a.map it).size + (bb.map it).size - 0) (none, out1, ia1, ib1, mg0 + 1, ac1, bc1, sg0) = some t2 := by rw [Array.size_map, Array.size_map]; exact h2
                    refine wpS_bind (wpS_iterR (T := T2) (galS N lt a bb) (e2 it) (fun t => St κ it p pend t.2.2.2.2.2.2.2) (t := (none, out1, ia1, ib1, mg0 + 1, ac1, bc1, sg0)) h2' (fun x t b t' hs R hR => ?_) ?_)
                    · obtain ⟨r2, out2, ia2, ib2, mg2, ac2, bc2, sg2⟩ := t
                      dsimp only [e2]
                      by_cases hmg : mg2 > 1
                      · refine wpS_pos hmg ?_
                        unfold galS at hs
                        dsimp only at hs
                        rw [if_pos hmg] at hs
                        refine wpS_bind (wpS_modify ?_)
                        split at hs
                        · cases hs
                        · rename_i y1 hy1
                          refine wpS_bind (elem_ok hy1 ?_)
                          split at hs
                          · cases hs
                          · rename_i k1 hg1
                            refine wpS_bind (gallop_ok (pend := pend) hc (by rw [Array.size_map]; exact hg1) ?_)
                            dsimp only
                            by_cases hk1 : k1 > 0
                            · rw [if_pos hk1] at hs
                              refine wpS_pos hk1 ?_
                              split at hs
                              · rename_i g1
                                cases hs
                                refine wpS_pos (by simpa using g1) ?_
                                simp only [e0, e1, e2, Option.map_some, Option.map_none, done_map, last_map, Array.map_push, Array.map_append, Array.map_extract, if_true, Bool.false_eq_true, if_false] at hR
                                exact wpS_pure hR
                              · rename_i g1
                                refine wpS_neg (by simpa using g1) ?_
                                split at hs
                                · rename_i g2
                                  cases hs
                                  refine wpS_pos (by simpa using g2) ?_
                                  simp only [e0, e1, e2, Option.map_some, Option.map_none, done_map, last_map, Array.map_push, Array.map_append, Array.map_extract, if_true, Bool.false_eq_true, if_false] at hR
                                  exact wpS_pure hR
                                · rename_i g2
                                  refine wpS_neg (by simpa using g2) ?_
                                  unfold galB at hs
                                  split at hs
                                  · cases hs
                                  · rename_i y2 hy2
                                    refine wpS_bind (elem_ok hy2 ?_)
                                    split at hs
                                    · rename_i g1
                                      cases hs
                                      refine wpS_pos (by simpa using g1) ?_
                                      simp only [e0, e1, e2, Option.map_some, Option.map_none, done_map, last_map, Array.map_push, Array.map_append, Array.map_extract, if_true, Bool.false_eq_true, if_false] at hR
                                      exact wpS_pure hR
                                    · rename_i g1
                                      refine wpS_neg (by simpa using g1) ?_
                                      split at hs
                                      · cases hs
                                      · rename_i x2 hx2
                                        refine wpS_bind (elem_ok hx2 ?_)
                                        split at hs
                                        · cases hs
                                        · rename_i k2 hg2
                                          refine wpS_bind (gallop_ok hc (by rw [Array.size_map]; exact hg2) ?_)
                                          dsimp only at hs ⊢
                                          by_cases hk2 : k2 > 0
                                          · refine wpS_pos hk2 ?_
                                            simp only [hk2, if_true, true_and] at hs
                                            split at hs
                                            · rename_i g2
                                              cases hs
                                              refine wpS_pos (by simpa using g2) ?_
                                              simp only [e0, e1, e2, Option.map_some, Option.map_none, done_map, last_map, Array.map_push, Array.map_append, Array.map_extract, if_true, Bool.false_eq_true, if_false] at hR
                                              exact wpS_pure hR
                                            · rename_i g2
                                              refine wpS_neg (by simpa using g2) ?_
                                              refine wpS_bind (elem_ok hx2 ?_)
                                              split at hs
                                              · rename_i g3
                                                cases hs
                                                refine wpS_pos (by simpa using g3) ?_
                                                simp only [e0, e1, e2, Option.map_some, Option.map_none, done_map, last_map, Array.map_push, Array.map_append, Array.map_extract, if_true, Bool.false_eq_true, if_false] at hR
                                                exact wpS_pure hR
                                              · rename_i g3
                                                refine wpS_neg (by simpa using g3) ?_
                                                split at hs
                                                · rename_i g4
                                                  cases hs
                                                  refine wpS_pos g4 ?_
                                                  simp only [e0, e1, e2, Option.map_some, Option.map_none, done_map, last_map, Array.map_push, Array.map_append, Array.map_extract, if_true, Bool.false_eq_true, if_false] at hR
                                                  exact wpS_pure hR
                                                · rename_i g4
                                                  cases hs
                                                  refine wpS_neg g4 ?_
                                                  simp only [e0, e1, e2, Option.map_some, Option.map_none, done_map, last_map, Array.map_push, Array.map_append, Array.map_extract, if_true, Bool.false_eq_true, if_false] at hR
                                                  exact wpS_pure hR
                                          · refine wpS_neg hk2 ?_
                                            simp only [hk2, if_false, false_and] at hs
                                            refine wpS_bind (elem_ok hx2 ?_)
                                            split at hs
                                            · rename_i g3
                                              cases hs
                                              refine wpS_pos (by simpa using g3) ?_
                                              simp only [e0, e1, e2, Option.map_some, Option.map_none, done_map, last_map, Array.map_push, Array.map_append, Array.map_extract, if_true, Bool.false_eq_true, if_false] at hR
                                              exact wpS_pure hR
                                            · rename_i g3
                                              refine wpS_neg (by simpa using g3) ?_
                                              split at hs
                                              · rename_i g4
                                                cases hs
                                                refine wpS_pos g4 ?_
                                                simp only [e0, e1, e2, Option.map_some, Option.map_none, done_map, last_map, Array.map_push, Array.map_append, Array.map_extract, if_true, Bool.false_eq_true, if_false] at hR
                                                exact wpS_pure hR
                                              · rename_i g4
                                                cases hs
                                                refine wpS_neg g4 ?_
                                                simp only [e0, e1, e2, Option.map_some, Option.map_none, done_map, last_map, Array.map_push, Array.map_append, Array.map_extract, if_true, Bool.false_eq_true, if_false] at hR
                                                exact wpS_pure hR
                            · rw [if_neg hk1] at hs
                              refine wpS_neg hk1 ?_
                              unfold galB at hs
                              split at hs
                              · cases hs
                              · rename_i y2 hy2
                                refine wpS_bind (elem_ok hy2 ?_)
                                split at hs
                                · rename_i g1
                                  cases hs
                                  refine wpS_pos (by simpa using g1) ?_
                                  simp only [e0, e1, e2, Option.map_some, Option.map_none, done_map, last_map, Array.map_push, Array.map_append, Array.map_extract, if_true, Bool.false_eq_true, if_false] at hR
                                  exact wpS_pure hR
                                · rename_i g1
                                  refine wpS_neg (by simpa using g1) ?_
                                  split at hs
                                  · cases hs
                                  · rename_i x2 hx2
                                    refine wpS_bind (elem_ok hx2 ?_)
                                    split at hs
                                    · cases hs
                                    · rename_i k2 hg2
                                      refine wpS_bind (gallop_ok hc (by rw [Array.size_map]; exact hg2) ?_)
                                      dsimp only at hs ⊢
                                      by_cases hk2 : k2 > 0
                                      · refine wpS_pos hk2 ?_
                                        simp only [hk2, if_true, true_and] at hs
                                        split at hs
                                        · rename_i g2
                                          cases hs
                                          refine wpS_pos (by simpa using g2) ?_
                                          simp only [e0, e1, e2, Option.map_some, Option.map_none, done_map, last_map, Array.map_push, Array.map_append, Array.map_extract, if_true, Bool.false_eq_true, if_false] at hR
                                          exact wpS_pure hR
                                        · rename_i g2
                                          refine wpS_neg (by simpa using g2) ?_
                                          refine wpS_bind (elem_ok hx2 ?_)
                                          split at hs
                                          · rename_i g3
                                            cases hs
                                            refine wpS_pos (by simpa using g3) ?_
                                            simp only [e0, e1, e2, Option.map_some, Option.map_none, done_map, last_map, Array.map_push, Array.map_append, Array.map_extract, if_true, Bool.false_eq_true, if_false] at hR
                                            exact wpS_pure hR
                                          · rename_i g3
                                            refine wpS_neg (by simpa using g3) ?_
                                            split at hs
                                            · rename_i g4
                                              cases hs
                                              refine wpS_pos g4 ?_
                                              simp only [e0, e1, e2, Option.map_some, Option.map_none, done_map, last_map, Array.map_push, Array.map_append, Array.map_extract, if_true, Bool.false_eq_true, if_false] at hR
                                              exact wpS_pure hR
                                            · rename_i g4
                                              cases hs
                                              refine wpS_neg g4 ?_
                                              simp only [e0, e1, e2, Option.map_some, Option.map_none, done_map, last_map, Array.map_push, Array.map_append, Array.map_extract, if_true, Bool.false_eq_true, if_false] at hR
                                              exact wpS_pure hR
                                      · refine wpS_neg hk2 ?_
                                        simp only [hk2, if_false, false_and] at hs
                                        refine wpS_bind (elem_ok hx2 ?_)
                                        split at hs
                                        · rename_i g3
                                          cases hs
                                          refine wpS_pos (by simpa using g3) ?_
                                          simp only [e0, e1, e2, Option.map_some, Option.map_none, done_map, last_map, Array.map_push, Array.map_append, Array.map_extract, if_true, Bool.false_eq_true, if_false] at hR
                                          exact wpS_pure hR
                                        · rename_i g3
                                          refine wpS_neg (by simpa using g3) ?_
                                          split at hs
                                          · rename_i g4
                                            cases hs
                                            refine wpS_pos g4 ?_
                                            simp only [e0, e1, e2, Option.map_some, Option.map_none, done_map, last_map, Array.map_push, Array.map_append, Array.map_extract, if_true, Bool.false_eq_true, if_false] at hR
                                            exact wpS_pure hR
                                          · rename_i g4
                                            cases hs
                                            refine wpS_neg g4 ?_
                                            simp only [e0, e1, e2, Option.map_some, Option.map_none, done_map, last_map, Array.map_push, Array.map_append, Array.map_extract, if_true, Bool.false_eq_true, if_false] at hR
                                            exact wpS_pure hR
                      · refine wpS_neg hmg ?_
                        unfold galS at hs
                        dsimp only at hs
                        rw [if_neg hmg] at hs
                        refine wpS_bind (wpS_modify ?_)
                        split at hs
                        · cases hs
                        · rename_i y1 hy1
                          refine wpS_bind (elem_ok hy1 ?_)
                          split at hs
                          · cases hs
                          · rename_i k1 hg1
                            refine wpS_bind (gallop_ok (pend := pend) hc (by rw [Array.size_map]; exact hg1) ?_)
                            dsimp only
                            by_cases hk1 : k1 > 0
                            · rw [if_pos hk1] at hs
                              refine wpS_pos hk1 ?_
                              split at hs
                              · rename_i g1
                                cases hs
                                refine wpS_pos (by simpa using g1) ?_
                                simp only [e0, e1, e2, Option.map_some, Option.map_none, done_map, last_map, Array.map_push, Array.map_append, Array.map_extract, if_true, Bool.false_eq_true, if_false] at hR
                                exact wpS_pure hR
                              · rename_i g1
                                refine wpS_neg (by simpa using g1) ?_
                                split at hs
                                · rename_i g2
                                  cases hs
                                  refine wpS_pos (by simpa using g2) ?_
                                  simp only [e0, e1, e2, Option.map_some, Option.map_none, done_map, last_map, Array.map_push, Array.map_append, Array.map_extract, if_true, Bool.false_eq_true, if_false] at hR
                                  exact wpS_pure hR
                                · rename_i g2
                                  refine wpS_neg (by simpa using g2) ?_
                                  unfold galB at hs
                                  split at hs
                                  · cases hs
                                  · rename_i y2 hy2
                                    refine wpS_bind (elem_ok hy2 ?_)
                                    split at hs
                                    · rename_i g1
                                      cases hs
                                      refine wpS_pos (by simpa using g1) ?_
                                      simp only [e0, e1, e2, Option.map_some, Option.map_none, done_map, last_map, Array.map_push, Array.map_append, Array.map_extract, if_true, Bool.false_eq_true, if_false] at hR
                                      exact wpS_pure hR
                                    · rename_i g1
                                      refine wpS_neg (by simpa using g1) ?_
                                      split at hs
                                      · cases hs
                                      · rename_i x2 hx2
                                        refine wpS_bind (elem_ok hx2 ?_)
                                        split at hs
                                        · cases hs
                                        · rename_i k2 hg2
                                          refine wpS_bind (gallop_ok hc (by rw [Array.size_map]; exact hg2) ?_)
                                          dsimp only at hs ⊢
                                          by_cases hk2 : k2 > 0
                                          · refine wpS_pos hk2 ?_
                                            simp only [hk2, if_true, true_and] at hs
                                            split at hs
                                            · rename_i g2
                                              cases hs
                                              refine wpS_pos (by simpa using g2) ?_
                                              simp only [e0, e1, e2, Option.map_some, Option.map_none, done_map, last_map, Array.map_push, Array.map_append, Array.map_extract, if_true, Bool.false_eq_true, if_false] at hR
                                              exact wpS_pure hR
                                            · rename_i g2
                                              refine wpS_neg (by simpa using g2) ?_
                                              refine wpS_bind (elem_ok hx2 ?_)
                                              split at hs
                                              · rename_i g3
                                                cases hs
                                                refine wpS_pos (by simpa using g3) ?_
                                                simp only [e0, e1, e2, Option.map_some, Option.map_none, done_map, last_map, Array.map_push, Array.map_append, Array.map_extract, if_true, Bool.false_eq_true, if_false] at hR
                                                exact wpS_pure hR
                                              · rename_i g3
                                                refine wpS_neg (by simpa using g3) ?_
                                                split at hs
                                                · rename_i g4
                                                  cases hs
                                                  refine wpS_pos g4 ?_
                                                  simp only [e0, e1, e2, Option.map_some, Option.map_none, done_map, last_map, Array.map_push, Array.map_append, Array.map_extract, if_true, Bool.false_eq_true, if_false] at hR
                                                  exact wpS_pure hR
                                                · rename_i g4
                                                  cases hs
                                                  refine wpS_neg g4 ?_
                                                  simp only [e0, e1, e2, Option.map_some, Option.map_none, done_map, last_map, Array.map_push, Array.map_append, Array.map_extract, if_true, Bool.false_eq_true, if_false] at hR
                                                  exact wpS_pure hR
                                          · refine wpS_neg hk2 ?_
                                            simp only [hk2, if_false, false_and] at hs
                                            refine wpS_bind (elem_ok hx2 ?_)
                                            split at hs
                                            · rename_i g3
                                              cases hs
                                              refine wpS_pos (by simpa using g3) ?_
                                              simp only [e0, e1, e2, Option.map_some, Option.map_none, done_map, last_map, Array.map_push, Array.map_append, Array.map_extract, if_true, Bool.false_eq_true, if_false] at hR
                                              exact wpS_pure hR
                                            · rename_i g3
                                              refine wpS_neg (by simpa using g3) ?_
                                              split at hs
                                              · rename_i g4
                                                cases hs
                                                refine wpS_pos g4 ?_
                                                simp only [e0, e1, e2, Option.map_some, Option.map_none, done_map, last_map, Array.map_push, Array.map_append, Array.map_extract, if_true, Bool.false_eq_true, if_false] at hR
                                                exact wpS_pure hR
                                              · rename_i g4
                                                cases hs
                                                refine wpS_neg g4 ?_
                                                simp only [e0, e1, e2, Option.map_some, Option.map_none, done_map, last_map, Array.map_push, Array.map_append, Array.map_extract, if_true, Bool.false_eq_true, if_false] at hR
                                                exact wpS_pure hR
                            · rw [if_neg hk1] at hs
                              refine wpS_neg hk1 ?_
                              unfold galB at hs
                              split at hs
                              · cases hs
                              · rename_i y2 hy2
                                refine wpS_bind (elem_ok hy2 ?_)
                                split at hs
                                · rename_i g1
                                  cases hs
                                  refine wpS_pos (by simpa using g1) ?_
                                  simp only [e0, e1, e2, Option.map_some, Option.map_none, done_map, last_map, Array.map_push, Array.map_append, Array.map_extract, if_true, Bool.false_eq_true, if_false] at hR
                                  exact wpS_pure hR
                                · rename_i g1
                                  refine wpS_neg (by simpa using g1) ?_
                                  split at hs
                                  · cases hs
                                  · rename_i x2 hx2
                                    refine wpS_bind (elem_ok hx2 ?_)
                                    split at hs
                                    · cases hs
                                    · rename_i k2 hg2
                                      refine wpS_bind (gallop_ok hc (by rw [Array.size_map]; exact hg2) ?_)
                                      dsimp only at hs ⊢
                                      by_cases hk2 : k2 > 0
                                      · refine wpS_pos hk2 ?_
                                        simp only [hk2, if_true, true_and] at hs
                                        split at hs
                                        · rename_i g2
                                          cases hs
                                          refine wpS_pos (by simpa using g2) ?_
                                          simp only [e0, e1, e2, Option.map_some, Option.map_none, done_map, last_map, Array.map_push, Array.map_append, Array.map_extract, if_true, Bool.false_eq_true, if_false] at hR
                                          exact wpS_pure hR
                                        · rename_i g2
                                          refine wpS_neg (by simpa using g2) ?_
                                          refine wpS_bind (elem_ok hx2 ?_)
                                          split at hs
                                          · rename_i g3
                                            cases hs
                                            refine wpS_pos (by simpa using g3) ?_
                                            simp only [e0, e1, e2, Option.map_some, Option.map_none, done_map, last_map, Array.map_push, Array.map_append, Array.map_extract, if_true, Bool.false_eq_true, if_false] at hR
                                            exact wpS_pure hR
                                          · rename_i g3
                                            refine wpS_neg (by simpa using g3) ?_
                                            split at hs
                                            · rename_i g4
                                              cases hs
                                              refine wpS_pos g4 ?_
                                              simp only [e0, e1, e2, Option.map_some, Option.map_none, done_map, last_map, Array.map_push, Array.map_append, Array.map_extract, if_true, Bool.false_eq_true, if_false] at hR
                                              exact wpS_pure hR
                                            · rename_i g4
                                              cases hs
                                              refine wpS_neg g4 ?_
                                              simp only [e0, e1, e2, Option.map_some, Option.map_none, done_map, last_map, Array.map_push, Array.map_append, Array.map_extract, if_true, Bool.false_eq_true, if_false] at hR
                                              exact wpS_pure hR
                                      · refine wpS_neg hk2 ?_
                                        simp only [hk2, if_false, false_and] at hs
                                        refine wpS_bind (elem_ok hx2 ?_)
                                        split at hs
                                        · rename_i g3
                                          cases hs
                                          refine wpS_pos (by simpa using g3) ?_
                                          simp only [e0, e1, e2, Option.map_some, Option.map_none, done_map, last_map, Array.map_push, Array.map_append, Array.map_extract, if_true, Bool.false_eq_true, if_false] at hR
                                          exact wpS_pure hR
                                        · rename_i g3
                                          refine wpS_neg (by simpa using g3) ?_
                                          split at hs
                                          · rename_i g4
                                            cases hs
                                            refine wpS_pos g4 ?_
                                            simp only [e0, e1, e2, Option.map_some, Option.map_none, done_map, last_map, Array.map_push, Array.map_append, Array.map_extract, if_true, Bool.false_eq_true, if_false] at hR
                                            exact wpS_pure hR
                                          · rename_i g4
                                            cases hs
                                            refine wpS_neg g4 ?_
                                            simp only [e0, e1, e2, Option.map_some, Option.map_none, done_map, last_map, Array.map_push, Array.map_append, Array.map_extract, if_true, Bool.false_eq_true, if_false] at hR
                                            exact wpS_pure hR
                    · obtain ⟨r2, out2, ia2, ib2, mg2, ac2, bc2, sg2⟩ := t2
                      cases r2 with
                      | some r2 =>
                        cases hs
                        exact wpS_pure hR
                      | none =>
                        cases hs
                        exact wpS_bind (wpS_modify (wpS_pure hR))
          · exact wpS_pure q
        · cases h
def putT (p : Array Nat) (at_ : Nat) (m : Array Nat) : Array Nat := m.toList.zipIdx.foldl (fun a x => a.setIfInBounds (at_ + x.2) x.1) p
section pure
variable (N : Nat) (lt : Nat → Nat → Bool)
def atT (p : Array Nat) (sa na sb nb g : Nat) : Option (Array Nat × Nat) := match p[sb]? with
  | none => none
  | some y => match galT (bey N lt false y p sa) na 0 with
    | none => none
    | some k => if (na - k == 0) = true then some (p, g) else match p[sa + k + (na - k) - 1]? with
      | none => none
      | some z => match galT (bey N lt true z p sb) nb (nb - 1) with
        | none => none
        | some nb2 => if (nb2 == 0) = true then some (p, g) else if na - k ≤ nb2 then match mergeT N lt (p.extract (sa + k) sb) (p.extract sb (sb + nb2)) g with
            | none => none
            | some (m, g') => some (putT p (sa + k) m, g')
          else none
abbrev TR := Nat × Array Nat × Array (Nat × Nat × Nat) × Nat
def runS (size : Nat) (t : TR) : Option (Bool × TR) := match t with
  | (lo, p, pend, g) => if lo ≥ size then some (true, t) else match countT N lt p lo (size - lo) with
    | none => none
    | some (m, p1) =>
      let next (n : Nat) (p2 : Array Nat) : Option (Bool × TR) := match pend.back? with
        | none => some (false, lo + n, p2, pend.push (lo, n, 0), g)
        | some (s1, n1, _) => if pend.size > 1 then none else
            some (false, lo + n, p2, (pend.modify (pend.size - 1) fun x => (x.1, x.2.1, power' size (2 * s1 + n1) (2 * s1 + n1 + n1 + n) size)).push (lo, n, 0), g)
      if m < minRun' size size 0 then match binT N lt lo (min (size - lo) (minRun' size size 0) - max m 1) (max m 1) p1 with
        | none => none
        | some p2 => next (min (size - lo) (minRun' size size 0)) p2
      else next m p1
abbrev TL := Array Nat × Array (Nat × Nat × Nat) × Nat
def lastS (t : TL) : Option (Bool × TL) := match t with
  | (p, pend, g) => if pend.size ≤ 1 then some (true, t) else if pend.size = 2 then match pend[0]?, pend[1]? with
      | some (sa, na, pw), some (sb, nb, _) => match atT N lt p sa na sb nb g with
        | none => none
        | some (p', g') => some (false, p', (pend.setIfInBounds 0 (sa, na + nb, pw)).eraseIdxIfInBounds 1, g')
      | _, _ => none
    else none
def timT (size : Nat) (p : Array Nat) : Option (Array Nat) := match iter (runS N lt size) size (0, p, #[], 7) with
  | none => none
  | some (_, p, pend, g) => (iter (lastS N lt) size (p, pend, g)).map (·.1)
end pure
theorem put_map (p : Array Nat) (at_ : Nat) (m : Array Nat) : (m.map it).toList.zipIdx.foldl (fun a (x : Keyed × Nat) => a.setIfInBounds (at_ + x.2) x.1) (p.map it) = (putT p at_ m).map it := by
  unfold putT
  rw [Array.toList_map]
  have key : ∀ (l : List Nat) (k : Nat) (p : Array Nat), ((l.map it).zipIdx k).foldl (fun a (x : Keyed × Nat) => a.setIfInBounds (at_ + x.2) x.1) (p.map it) = ((l.zipIdx k).foldl (fun a x => a.setIfInBounds (at_ + x.2) x.1) p).map it := by
    intro l
    induction l with
    | nil => intro k p; rfl
    | cons x l ih =>
      intro k p
      rw [List.map_cons, List.zipIdx_cons, List.zipIdx_cons, List.foldl_cons, List.foldl_cons, ← ih]
      congr 1
      simp
  exact key _ 0 p
theorem wpS_set {M : Model} {σ : Type} {Q : PUnit → σ → Prop} {st st' : σ} (h : Q ⟨⟩ st') : wpS M A E s (set st' : StateT σ Sem PUnit) Q st := by
  unfold wpS; rw [StateT.run_set]; exact wpAny_pure ⟨rfl, h⟩
theorem at_ok (hc : Cm prog w A s κ it N lt) {p' : Array Nat} {g' sa na pw sb nb pw2 : Nat} (h0 : pend[0]? = some (sa, na, pw)) (h1 : pend[1]? = some (sb, nb, pw2)) (h : atT N lt p sa na sb nb g = some (p', g')) {Q : Bool → SortSt → Prop}
    (q : Q true (St κ it p' ((pend.setIfInBounds 0 (sa, na + nb, pw)).eraseIdxIfInBounds 1) g')) : wpS (model prog w) A E s (mergeAt' 0) Q (St κ it p pend g) := by
  refine wpS_bind (wpS_get ?_)
  have e0 : (pendingOf (St κ it p pend g))[0]? = some (sa, na, pw) := h0
  have e1 : (pendingOf (St κ it p pend g))[0 + 1]? = some (sb, nb, pw2) := h1
  rw [e0, e1]
  dsimp only
  unfold atT at h
  split at h
  · cases h
  · rename_i y hy
    refine wpS_bind (wpS_set ?_)
    refine wpS_bind (elem_ok hy ?_)
    split at h
    · cases h
    · rename_i k hk
      refine wpS_bind (gallop_ok (p := p) (pend := (pend.setIfInBounds 0 (sa, na + nb, pw)).eraseIdxIfInBounds 1) (g := g) hc hk ?_)
      dsimp only
      split at h
      · rename_i g1
        obtain ⟨rfl, rfl⟩ : p = p' ∧ g = g' := by simpa using h
        exact wpS_pos g1 (wpS_pure q)
      · rename_i g1
        refine wpS_neg g1 ?_
        split at h
        · cases h
        · rename_i z hz
          refine wpS_bind (elem_ok hz ?_)
          split at h
          · cases h
          · rename_i nb2 hk2
            refine wpS_bind (gallop_ok (p := p) (pend := (pend.setIfInBounds 0 (sa, na + nb, pw)).eraseIdxIfInBounds 1) (g := g) hc hk2 ?_)
            dsimp only
            split at h
            · rename_i g2
              obtain ⟨rfl, rfl⟩ : p = p' ∧ g = g' := by simpa using h
              exact wpS_pos g2 (wpS_pure q)
            · rename_i g2
              refine wpS_neg g2 ?_
              split at h
              · rename_i g3
                refine wpS_pos g3 ?_
                split at h
                · cases h
                · rename_i m g4 hm
                  obtain ⟨rfl, rfl⟩ : putT p (sa + k) m = p' ∧ g4 = g' := by simpa using h
                  rw [← Array.map_extract, ← Array.map_extract]
                  refine wpS_bind (merge_ok (p := p) (pend := (pend.setIfInBounds 0 (sa, na + nb, pw)).eraseIdxIfInBounds 1) hc hm ?_)
                  refine wpS_bind (wpS_modify ?_)
                  refine wpS_bind (wpS_get ?_)
                  refine wpS_pure ?_
                  have e3 := put_map (it := it) p (sa + k) m
                  have q' := q
                  unfold St at q'
                  rw [← e3] at q'
                  exact q'
              · cases h
theorem tim_ok (hc : Cm prog w A s κ it N lt) {p' : Array Nat} (h : timT N lt p.size p = some p') (hsz : 0 < p.size) {Q : SortSt → Prop} (q : ∀ pend g, Q (St κ it p' pend g)) : wpS (model prog w) A E s sortRuns' (fun _ st => Q st) (St κ it p #[] 7) := by
  refine wpS_bind (wpS_get ?_)
  dsimp only
  simp only [Array.size_map]
  generalize hz : p.size = size at h hsz ⊢
  have hit : iter (fun _ : Unit => some (true, ())) (size - 0) () = some () := by
    cases size with
    | zero => exact absurd hsz (Nat.lt_irrefl _)
    | succ f => rfl
  unfold timT at h
  split at h
  · cases h
  · rename_i lo1 p1 pend1 g1 h1
    refine wpS_bind (wpS_iterR (T := TR) (runS N lt size) (fun t => (none, t.1)) (fun t => St κ it t.2.1 t.2.2.1 t.2.2.2) (t := (0, p, #[], 7)) h1 (fun x t b t' hs R hR => ?_) ?_)
    · obtain ⟨lo, p2, pend2, g2⟩ := t
      unfold runS at hs
      dsimp only at hs ⊢
      split at hs
      · rename_i hge
        cases hs
        exact wpS_pos hge (wpS_pure hR)
      · rename_i hge
        refine wpS_neg hge ?_
        split at hs
        · cases hs
        · rename_i m p3 hm
          refine wpS_bind (count_ok hc hm ?_)
          dsimp only
          by_cases hlt : m < minRun' size size 0
          · rw [if_pos hlt] at hs
            refine wpS_pos hlt ?_
            refine wpS_bind (wpS_lift (wpAny_rule ⟨rfl, ?_⟩))
            split at hs
            · cases hs
            · rename_i p4 hp4
              refine wpS_bind (bin_ok hc hp4 ?_)
              refine wpS_neg (by decide) ?_
              refine wpS_bind (wpS_get ?_)
              cases hb : pend2.back? with
              | none =>
                rw [hb] at hs
                cases hs
                exact wpS_bind (wpS_modify (wpS_pure hR))
              | some z =>
                obtain ⟨s1, n1, z3⟩ := z
                rw [hb] at hs
                dsimp only at hs
                split at hs
                · cases hs
                · rename_i hgt
                  cases hs
                  refine wpS_bind (wpS_iterR (T := Unit) (fun _ => some (true, ())) (fun _ => (none, ())) (fun _ => St κ it p4 pend2 g2) (t := ()) (t' := ()) hit (fun x t b t' hs2 R2 hR2 => ?_) ?_)
                  · cases hs2
                    refine wpS_bind (wpS_get ?_)
                    have hn : (if (pendingOf (St κ it p4 pend2 g2)).size > 1 then (pendingOf (St κ it p4 pend2 g2))[(pendingOf (St κ it p4 pend2 g2)).size - 2]? else none) = none := if_neg hgt
                    rw [hn]
                    exact wpS_pure hR2
                  · exact wpS_bind (wpS_modify (wpS_bind (wpS_modify (wpS_pure hR))))
          · rw [if_neg hlt] at hs
            refine wpS_neg hlt ?_
            refine wpS_bind (wpS_get ?_)
            cases hb : pend2.back? with
            | none =>
              rw [hb] at hs
              cases hs
              exact wpS_bind (wpS_modify (wpS_pure hR))
            | some z =>
              obtain ⟨s1, n1, z3⟩ := z
              rw [hb] at hs
              dsimp only at hs
              split at hs
              · cases hs
              · rename_i hgt
                cases hs
                refine wpS_bind (wpS_iterR (T := Unit) (fun _ => some (true, ())) (fun _ => (none, ())) (fun _ => St κ it p3 pend2 g2) (t := ()) (t' := ()) hit (fun x t b t' hs2 R2 hR2 => ?_) ?_)
                · cases hs2
                  refine wpS_bind (wpS_get ?_)
                  have hn : (if (pendingOf (St κ it p3 pend2 g2)).size > 1 then (pendingOf (St κ it p3 pend2 g2))[(pendingOf (St κ it p3 pend2 g2)).size - 2]? else none) = none := if_neg hgt
                  rw [hn]
                  exact wpS_pure hR2
                · exact wpS_bind (wpS_modify (wpS_bind (wpS_modify (wpS_pure hR))))
    · dsimp only
      cases h2 : iter (lastS N lt) size (p1, pend1, g1) with
      | none => rw [h2] at h; cases h
      | some t2 =>
        rw [h2] at h
        cases h
        refine wpS_bind (wpS_iterR (T := TL) (lastS N lt) (fun _ => (none, ())) (fun t => St κ it t.1 t.2.1 t.2.2) (t := (p1, pend1, g1)) h2 (fun x t b t' hs R hR => ?_) ?_)
        · obtain ⟨p5, pend5, g5⟩ := t
          unfold lastS at hs
          dsimp only at hs ⊢
          refine wpS_bind (wpS_get ?_)
          dsimp only
          split at hs
          · rename_i hle
            cases hs
            exact wpS_pos hle (wpS_pure hR)
          · rename_i hle
            refine wpS_neg hle ?_
            split at hs
            · rename_i h22
              split at hs
              · rename_i sa na pw sb nb pw2 k0 k1
                split at hs
                · cases hs
                · rename_i p6 g6 k2
                  cases hs
                  have hz2 : pend5.size - 2 = 0 := by omega
                  simp only [hz2, Nat.lt_irrefl, gt_iff_lt, if_false, Option.any_none, Bool.false_eq_true]
                  refine wpS_bind (at_ok hc k0 k1 k2 ?_)
                  exact wpS_pure hR
              · cases hs
            · cases hs
        · exact wpS_pure (q _ _)
end
end Tim
set_option Elab.async false
set_option linter.all false
set_option maxRecDepth 100000
set_option maxHeartbeats 4000000
namespace GS
open PySem PySem.W PyProof.Rows PySem.SeqAt
abbrev Ext (h0 h : Heap) : Prop := ∀ c o, h0.get? c = some o → h.get? c = some o
def Asks (O : KeyOrd) (prog : Program) (w : World) (κ : SortKind) (A : Around) (s : Shared) (ks : List O.α) (us : List Value) : Prop :=
  ∀ (E : Value → Shared → Prop) (i j : Nat) (x y : O.α) (u v : Value) (Q : Bool → Shared → Prop), us[i]? = some u → us[j]? = some v → ks[i]? = some x → ks[j]? = some y → Q (O.blt x y) s → wpAny (model prog w) A (keyLt' κ u v) Q E s
structure Cmp (O : KeyOrd) (prog : Program) (w : World) (h0 : Heap) (r : Nat) (ks : List O.α) (us : List Value) : Prop where
  len : us.length = ks.length
  go : ∃ ok : SortKind → Prop, (∀ (A : Around) (E : Value → Shared → Prop) (s : Shared) (Q : SortKind → Shared → Prop), Ext h0 s.heap → (∀ κ, ok κ → Q κ s) → wpAny (model prog w) A (keyKind' us.toArray) Q E s) ∧
    ∀ (A : Around) (s : Shared) (κ : SortKind), Ext h0 s.heap → A.units + r < cLine → ok κ → Asks O prog w κ A s ks us
def Runs (O : KeyOrd) (prog : Program) (w : World) (ks : List O.α) : Prop :=
  ∀ (d : O.α) (A : Around) (E : Value → Shared → Prop) (s : Shared) (κ : SortKind) (ws : List Value), ws.length = ks.length → 2 ≤ ws.length → Asks O prog w κ A s ks ws →
    wpAny (model prog w) A ((sortRuns').run (SortSt.mk' κ (ws.toArray.zip ws.toArray) #[] 7 none)) (fun r s' => s' = s ∧ failedOf r.2 = none ∧ ∃ ix : List Nat, ix.Perm (List.range ws.length) ∧
      (arrOf r.2).map (·.2) = (ix.map fun i => ws.getD i Value.none).toArray ∧ (ix.map fun i => ks.getD i d).Pairwise O.kle) E s
theorem runs_small {O : KeyOrd} {prog : Program} {w : World} {ks : List O.α} (h64 : ks.length < 64) : Runs O prog w ks := by
  intro d A E s κ ws hl h2 ask
  have h64 : ws.length < 64 := by omega
  refine kat_run (Q := fun st' s' => s' = s ∧ failedOf st' = none ∧ ∃ ix : List Nat, ix.Perm (List.range ws.length) ∧ (arrOf st').map (·.2) = (ix.map fun i => ws.getD i Value.none).toArray ∧ (ix.map fun i => ks.getD i d).Pairwise O.kle)
    (G := fun p s' => s' = s ∧ SM.Pm ws.length p ∧ SM.Up (O := O) (fun i => ks.getD i d) p ws.length) rfl h2 h64 (fun p st' s' hp har hf hG => ?_)
    (TH.kasWp_of (lt := SM.ltOf (O := O) fun i => ks.getD i d) (n := ws.length) (fun i j C hi hj hC => ?_) _ (SM.sort (by omega)))
  · obtain ⟨rfl, hpm, hup⟩ := hG
    have h1 : p.toList.Perm (List.range ws.length) := by simpa using Array.perm_iff_toList_perm.mp hpm.perm
    refine ⟨rfl, hf, p.toList, h1, kat_snds rfl har, ?_⟩
    refine List.pairwise_iff_getElem.mpr fun i j hi hj hij => ?_
    rw [List.length_map, Array.length_toList, hp] at hi hj
    have := hup i j (by omega) hj
    have e1 : ∀ k, k < ws.length → ∀ hk, (p.toList.map fun i => ks.getD i d)[k]'hk = ks.getD (p.getD k 0) d := fun k hk hk' => by
      rw [List.getElem_map, Array.getElem_toList, Array.getD, dif_pos (by omega)]
      rfl
    rw [e1 i hi, e1 j hj]
    exact this
  · have gi : ∀ k, k < ws.length → ∃ u x, ws[k]? = some u ∧ ks[k]? = some x ∧ ws.getD k Value.none = u ∧ ks.getD k d = x := fun k hk => by
      refine ⟨ws[k], ks[k]'(by omega), List.getElem?_eq_getElem hk, List.getElem?_eq_getElem (by omega), ?_, ?_⟩
      · rw [List.getD_eq_getElem?_getD, List.getElem?_eq_getElem hk]; rfl
      · rw [List.getD_eq_getElem?_getD, List.getElem?_eq_getElem (by omega)]; rfl
    obtain ⟨u, x, q1, q2, q3, q4⟩ := gi i hi
    obtain ⟨v, y, r1, r2, r3, r4⟩ := gi j hj
    unfold kas_ask
    rw [q3, r3]
    refine ask _ i j x y u v C q1 r1 q2 r2 ?_
    have hC : C (O.blt (ks.getD i d) (ks.getD j d)) s := hC
    rw [q4, r4] at hC
    exact hC
theorem runs_tim {O : KeyOrd} {prog : Program} {w : World} {ks : List O.α} (d0 : O.α) (lt : Nat → Nat → Bool) (hlt : ∀ i j, i < ks.length → j < ks.length → lt i j = O.blt (ks.getD i d0) (ks.getD j d0)) {p : Array Nat} (h : Tim.timT ks.length lt ks.length (List.range ks.length).toArray = some p)
    (hp : p.toList.Perm (List.range ks.length)) (hs : (p.toList.map fun i => ks.getD i d0).Pairwise O.kle) : Runs O prog w ks := by
  intro d A E s κ ws hl h2 ask
  have hz : ws.toArray.zip ws.toArray = (List.range ks.length).toArray.map fun i => (ws.getD i Value.none, ws.getD i Value.none) := by
    apply Array.ext_getElem?
    intro i
    rw [← hl]
    by_cases hi : i < ws.length
    · simp [hi]
    · simp [hi]
  have hc : Tim.Cm prog w A s κ (fun i => (ws.getD i Value.none, ws.getD i Value.none)) ks.length lt := fun i j E Q hi hj q => by
    have gi : ∀ k, k < ks.length → ∃ u x, ws[k]? = some u ∧ ks[k]? = some x ∧ ws.getD k Value.none = u ∧ ks.getD k d0 = x := fun k hk => by
      refine ⟨ws[k], ks[k], List.getElem?_eq_getElem (by omega), List.getElem?_eq_getElem hk, ?_, ?_⟩
      · rw [List.getD_eq_getElem?_getD, List.getElem?_eq_getElem (by omega)]; rfl
      · rw [List.getD_eq_getElem?_getD, List.getElem?_eq_getElem hk]; rfl
    obtain ⟨u, x, q1, q2, q3, q4⟩ := gi i hi
    obtain ⟨v, y, r1, r2, r3, r4⟩ := gi j hj
    rw [hlt i j hi hj] at q
    rw [q4, r4] at q
    show wpAny _ _ (keyLt' κ (ws.getD i Value.none) (ws.getD j Value.none)) _ _ _
    rw [q3, r3]
    exact ask E i j x y u v Q q1 r1 q2 r2 q
  rw [hz]
  refine wpAny_mono (Tim.tim_ok (p := (List.range ks.length).toArray) (p' := p) hc (by simpa using h) (by simp; omega) (Q := fun st => failedOf st = none ∧ ∃ ix : List Nat, ix.Perm (List.range ws.length) ∧ (arrOf st).map (·.2) = (ix.map fun i => ws.getD i Value.none).toArray ∧ (ix.map fun i => ks.getD i d).Pairwise O.kle) fun pend g => ⟨rfl, p.toList, by rw [hl]; exact hp, ?_, ?_⟩) (fun r s' z => z) fun _ _ z => z
  · show (p.map _).map _ = _
    rw [Array.map_map]
    apply Array.toList_inj.mp
    rw [Array.toList_map]
    rfl
  · have : (p.toList.map fun i => ks.getD i d) = p.toList.map fun i => ks.getD i d0 := List.map_congr_left fun i hi => by
      have : i < ks.length := List.mem_range.mp (hp.mem_iff.mp hi)
      rw [List.getD_eq_getElem?_getD, List.getD_eq_getElem?_getD, List.getElem?_eq_getElem this]
      rfl
    rw [this]
    exact hs
section
variable {O : KeyOrd} {prog : Program} {w : World} {A : Around} {E : Value → Shared → Prop} {s : Shared} {h0 : Heap} {r : Nat} {ks : List O.α} {us : List Value}
theorem Asks.rev {κ : SortKind} (hl : us.length = ks.length) (a : Asks O prog w κ A s ks us) : Asks O prog w κ A s ks.reverse us.reverse := fun E i j x y u v Q h1 h2 h3 h4 q => by
  have b1 := (List.getElem?_eq_some_iff.mp h1).1
  have b2 := (List.getElem?_eq_some_iff.mp h2).1
  rw [List.length_reverse] at b1 b2
  rw [List.getElem?_reverse (by omega)] at h1 h2 h3 h4
  rw [← hl] at h3 h4
  exact a E _ _ x y u v Q h1 h2 h3 h4 q
theorem pair_one {α : Type} {R : α → α → Prop} : ∀ {l : List α}, l.length < 2 → l.Pairwise R
  | [], _ => .nil
  | [_], _ => List.pairwise_singleton ..
  | _ :: _ :: _, h => by simp at h; omega
theorem list_sort (d : O.α) {a : Addr} {n : Nat} {b : Bool} {P : PySem.Fin → Shared → Prop} (C : Cmp O prog w h0 r ks us) (hx : Ext h0 s.heap) (ha0 : h0.objs.size ≤ a) (ho : s.heap.get? a = some (seqObj "list" us.toArray n)) (hsz : us.length ≤ 1000) (hr : Runs O prog w (if b then ks.reverse else ks)) (hu : A.units + r < cLine)
    (h : ∀ ix : List Nat, ix.Perm (List.range us.length) → (ix.map fun i => ks.getD i d).Pairwise (fun x y => if b = true then O.kle y x else O.kle x y) → P (.done (.ret .none)) { s with heap := sortedHeap s.heap a us (ix.map fun i => us.getD i Value.none).toArray }) :
    wpAny (model prog w) A (Builtin.«list.sort» ⟨[.ref a], [(Str.ofString "reverse", .bool b)]⟩) P E s := by
  rw [list_sort_rev]
  have ha : a < s.heap.objs.size := Heap.lt_size ho
  refine wpAny_bind (listItems_at ho rfl ?_)
  refine wpAny_bind (listUpdate_at ho rfl ?_ (by rw [List.size_toArray, sizeLine_eq]; omega) (Nat.zero_le _))
  obtain ⟨e1, ho1⟩ : ∃ e1, (s.heap.update a (Obj.mapSeq fun _ => #[])).get? a = some (seqObj "list" #[] e1) := ⟨_, get?_update_seq ho (fun _ => #[])⟩
  refine wpAny_bind (seqEpoch_at ho1 rfl ?_)
  refine wpAny_bind (wpAny_newTuple ?_ (by show us.length ≤ _; rw [sizeLine_eq]; omega))
  refine wpAny_bind (wpAny_newList ?_ (Nat.zero_le _))
  refine wpAny_holding ?_
  have ho6 : (((s.heap.update a (Obj.mapSeq fun _ => #[])).push (seqObj "tuple" us.toArray 0)).push (seqObj "list" #[] 0)).get? a = some (seqObj "list" #[] e1) := by
    rw [Heap.get?_push_ne _ _ _ (by rw [size_push', Heap.size_update]; exact Nat.ne_of_lt (Nat.lt_succ_of_lt ha)), Heap.get?_push_ne _ _ _ (by rw [Heap.size_update]; exact Nat.ne_of_lt ha)]
    exact ho1
  have keep : Ext h0 (((s.heap.update a (Obj.mapSeq fun _ => #[])).push (seqObj "tuple" us.toArray 0)).push (seqObj "list" #[] 0)) := fun c o hc => by
    have hlt : c < h0.objs.size := Heap.lt_size hc
    have hne : c ≠ a := fun z => Nat.not_lt.mpr ha0 (z ▸ hlt)
    refine Heap.get?_push_of_some _ (Heap.get?_push_of_some _ ?_)
    rw [Heap.get?_update_ne _ _ _ _ hne]
    exact hx c o hc
  show wpAny (model prog w) A _ P E { s with heap := ((s.heap.update a (Obj.mapSeq fun _ => #[])).push (seqObj "tuple" us.toArray 0)).push (seqObj "list" #[] 0) }
  dsimp only
  have step : ∀ T : Sem PySem.Fin, wpAny (model prog w) A T P E { s with heap := ((s.heap.update a (Obj.mapSeq fun _ => #[])).push (seqObj "tuple" us.toArray 0)).push (seqObj "list" #[] 0) } →
      wpAny (model prog w) A (if b = true then (do let _ ← rule "list.sort.reverse"; T) else T) P E { s with heap := ((s.heap.update a (Obj.mapSeq fun _ => #[])).push (seqObj "tuple" us.toArray 0)).push (seqObj "list" #[] 0) } := by
    intro T hT
    split
    · exact wpAny_bind (wpAny_rule hT)
    · exact hT
  refine step _ ?_
  obtain ⟨ok, hkind, hask⟩ := C.go
  have hl := C.len
  by_cases h2 : us.toArray.size < 2
  · rw [if_pos h2, if_pos h2]
    refine wpAny_bind (wpAny_pure ?_)
    rw [StateT.run_pure]
    refine wpAny_bind (wpAny_pure ?_)
    dsimp only
    have hz : us.length < 2 := by simpa using h2
    have hout := TH.short_out b us hz
    refine wpAny_bind (seqEpoch_at ho6 rfl ?_)
    refine wpAny_bind (listUpdate_at ho6 rfl ?_ (Nat.zero_le _) (by
      refine Nat.le_trans (Nat.le_of_eq (congrArg Array.size hout)) ?_
      rw [List.size_toArray, sizeLine_eq]; omega))
    simp only [bne_self_eq_false, Bool.false_eq_true, if_false]
    have fin := h (List.range us.length) (.refl _) (pair_one (by simpa using hz))
    rw [TH.map_getD] at fin
    rw [← hout] at fin
    exact wpAny_pure fin
  · rw [if_neg h2, if_neg h2]
    have hz : 2 ≤ us.length := by simpa using h2
    refine wpAny_bind (hkind A E { s with heap := ((s.heap.update a (Obj.mapSeq fun _ => #[])).push (seqObj "tuple" us.toArray 0)).push (seqObj "list" #[] 0) } _ keep fun κ hκ => ?_)
    have ask := hask A { s with heap := ((s.heap.update a (Obj.mapSeq fun _ => #[])).push (seqObj "tuple" us.toArray 0)).push (seqObj "list" #[] 0) } κ keep hu hκ
    obtain ⟨ws, kw, aw, hwl, hwk, hws, hrw, pick⟩ : ∃ (ws : List Value) (kw : List O.α), Asks O prog w κ A { s with heap := ((s.heap.update a (Obj.mapSeq fun _ => #[])).push (seqObj "tuple" us.toArray 0)).push (seqObj "list" #[] 0) } kw ws ∧ ws.length = us.length ∧ ws.length = kw.length ∧
        (if b = true then (us.toArray.zip us.toArray).reverse else us.toArray.zip us.toArray) = ws.toArray.zip ws.toArray ∧ Runs O prog w kw ∧
        ∀ ix : List Nat, ix.Perm (List.range ws.length) → (ix.map fun i => kw.getD i d).Pairwise O.kle → ∃ iy : List Nat, iy.Perm (List.range us.length) ∧ (iy.map fun i => ks.getD i d).Pairwise (fun x y => if b = true then O.kle y x else O.kle x y) ∧
          (if b = true then ((ix.map fun i => ws.getD i Value.none).toArray).reverse else (ix.map fun i => ws.getD i Value.none).toArray) = (iy.map fun i => us.getD i Value.none).toArray := by
      cases b with
      | false => exact ⟨us, ks, ask, rfl, hl, rfl, hr, fun ix h1 h2 => ⟨ix, h1, by simpa using h2, rfl⟩⟩
      | true =>
        refine ⟨us.reverse, ks.reverse, ask.rev hl, by simp, by simp [hl], kat_pairs (ks := us) (vs := us) true rfl, hr, fun ix h1 h2 => ⟨(ix.map fun i => us.length - 1 - i).reverse, ?_, ?_, ?_⟩⟩
        · rw [List.length_reverse] at h1
          refine (List.reverse_perm _).trans ((h1.map fun i => us.length - 1 - i).trans ?_)
          have : (List.range us.length).map (fun i => us.length - 1 - i) = (List.range us.length).reverse := by
            refine List.ext_getElem (by simp) fun i a1 a2 => ?_
            simp
          rw [this]
          exact List.reverse_perm _
        · have hb : ∀ i ∈ ix, i < us.length := fun i hi => by simpa using h1.mem_iff.mp hi
          have e : ((ix.map fun i => us.length - 1 - i).reverse.map fun i => ks.getD i d) = (ix.map fun i => ks.reverse.getD i d).reverse := by
            rw [List.map_reverse, List.map_map]
            congr 1
            exact List.map_congr_left fun i hi => by
              have := hb i hi
              show ks.getD (us.length - 1 - i) d = _
              rw [List.getD_eq_getElem?_getD, List.getD_eq_getElem?_getD, List.getElem?_reverse (by omega), hl]
          rw [e, List.pairwise_reverse]
          simpa using h2
        · have hb : ∀ i ∈ ix, i < us.length := fun i hi => by simpa using h1.mem_iff.mp hi
          rw [if_pos rfl, List.map_reverse, List.map_map, List.reverse_toArray]
          congr 2
          exact List.map_congr_left fun i hi => by
            have := hb i hi
            show us.reverse.getD i Value.none = us.getD (us.length - 1 - i) Value.none
            rw [List.getD_eq_getElem?_getD, List.getD_eq_getElem?_getD, List.getElem?_reverse (by omega)]
    rw [hws]
    refine wpAny_bind (wpAny_mono (hrw d A E { s with heap := ((s.heap.update a (Obj.mapSeq fun _ => #[])).push (seqObj "tuple" us.toArray 0)).push (seqObj "list" #[] 0) } κ ws hwk (by omega) aw) ?_ fun _ _ z => z)
    rintro ⟨⟨⟩, st'⟩ s' ⟨rfl, hf, ix, hix, hout, hst⟩
    dsimp only
    refine wpAny_bind (seqEpoch_at ho6 rfl ?_)
    obtain ⟨iy, y1, y2, hfin⟩ : ∃ iy : List Nat, iy.Perm (List.range us.length) ∧ (iy.map fun i => ks.getD i d).Pairwise (fun x y => if b = true then O.kle y x else O.kle x y) ∧
        (if b = true then ((arrOf st').map (·.2)).reverse else (arrOf st').map (·.2)) = (iy.map fun i => us.getD i Value.none).toArray := by
      rw [show (arrOf st').map (·.2) = _ from hout]
      exact pick ix hix hst
    refine wpAny_bind (listUpdate_at ho6 rfl ?_ (Nat.zero_le _) (by
      refine Nat.le_trans (Nat.le_of_eq (congrArg Array.size hfin)) ?_
      have := y1.length_eq
      rw [List.length_range] at this
      rw [List.size_toArray, List.length_map, this, sizeLine_eq]; omega))
    rw [show failedOf st' = none from hf]
    simp only [bne_self_eq_false, Bool.false_eq_true, if_false]
    have fin := h iy y1 y2
    rw [← hfin] at fin
    exact wpAny_pure fin
def Gathers (prog : Program) (w : World) (A : Around) (E : Value → Shared → Prop) (s : Shared) (v : Value) (us : List Value) : Prop :=
  ∀ Q : List Value → Shared → Prop, (∀ (h1 : Heap) (tk : Nat), Ext s.heap h1 → s.heap.objs.size ≤ h1.objs.size → Q us { s with heap := h1, toks := tk }) → wpAny (model prog w) A (collect v) Q E s
theorem gathers_list {l : Addr} (hl : s.heap.IsList l us.toArray) (hz : us.length ≤ 1000) : Gathers prog w A E s (.ref l) us := fun Q h => by
  refine collect_list hl (h _ _ (fun c o q => ?_) ?_) (by rw [sizeLine_eq]; omega)
  · have hlt : c < s.heap.objs.size := Heap.lt_size q
    rw [Heap.get?_update_ne _ _ _ _ (Nat.ne_of_lt hlt), Heap.get?_push_ne _ _ _ (Nat.ne_of_lt hlt)]
    exact q
  · rw [Heap.size_update, size_push']
    omega
theorem sorted_tail (d : O.α) {b : Bool} {Q : Value → Shared → Prop} {h1 : Heap} {tk : Nat} {T : Sem PySem.Fin} (C : Cmp O prog w s.heap r ks us) (hsz : us.length ≤ 1000) (hr : Runs O prog w (if b then ks.reverse else ks)) (x1 : Ext s.heap h1) (z1 : s.heap.objs.size ≤ h1.objs.size)
    (h : ∀ (h' : Heap) (D tk : Nat) (ix : List Nat) (e1 : Nat), s.heap.objs.size ≤ D → Ext s.heap h' → h'.get? D = some (seqObj "list" (ix.map fun i => us.getD i Value.none).toArray e1) → ix.Perm (List.range us.length) → (ix.map fun i => ks.getD i d).Pairwise (fun x y => if b = true then O.kle y x else O.kle x y) → Q (.ref D) { s with heap := h', toks := tk }) :
    (h1.push (seqObj "list" us.toArray 0)).get? h1.objs.size = some (seqObj "list" us.toArray 0) ∧ Ext s.heap (h1.push (seqObj "list" us.toArray 0)) ∧
    ∀ ix : List Nat, ix.Perm (List.range us.length) → (ix.map fun i => ks.getD i d).Pairwise (fun x y => if b = true then O.kle y x else O.kle x y) → Q (.ref h1.objs.size) { s with heap := sortedHeap (h1.push (seqObj "list" us.toArray 0)) h1.objs.size us (ix.map fun i => us.getD i Value.none).toArray, toks := tk } := by
  have g1 : (h1.push (seqObj "list" us.toArray 0)).get? h1.objs.size = some (seqObj "list" us.toArray 0) := Heap.get?_push_size _ rfl
  refine ⟨g1, fun b u e => Heap.get?_push_of_some _ (x1 b u e), fun ix p1 p2 => ?_⟩
  obtain ⟨e1, he1⟩ := sortedHeap_at (vs := us) (out := (ix.map fun i => us.getD i Value.none).toArray) g1
  refine h _ h1.objs.size tk ix e1 z1 (fun b u e => ?_) he1 p1 p2
  have lb : b < h1.objs.size := Heap.lt_size (x1 b u e)
  rw [sortedHeap_old (Nat.ne_of_lt lb) (by rw [Heap.size_push]; exact Nat.lt_succ_of_lt lb)]
  exact Heap.get?_push_of_some _ (x1 b u e)
theorem sorted_0 (d : O.α) {v : Value} {Q : Value → Shared → Prop} (G : Gathers prog w A.in1 E s v us) (C : Cmp O prog w s.heap r ks us) (hsz : us.length ≤ 1000) (hr : Runs O prog w ks) (hu : A.units + 2 + r < cLine)
    (h : ∀ (h' : Heap) (D tk : Nat) (ix : List Nat) (e1 : Nat), s.heap.objs.size ≤ D → Ext s.heap h' → h'.get? D = some (seqObj "list" (ix.map fun i => us.getD i Value.none).toArray e1) → ix.Perm (List.range us.length) → (ix.map fun i => ks.getD i d).Pairwise O.kle → Q (.ref D) { s with heap := h', toks := tk }) :
    wpAny (model prog w) A (call (.builtin "sorted") [v]) Q E s := by
  refine Calls.call_function_entry kind_sorted plain_sorted entry_sorted (args_sorted1 _) ?_
  unfold Builtin.«sorted»
  refine wpAny_bind (m := checkCount "sorted" 1 1 _) (wpAny_pure ?_)
  refine wpAny_bind (G _ fun h1 tk x1 z1 => ?_)
  refine wpAny_bind (wpAny_newList ?_ (by rw [sizeLine_eq]; omega))
  obtain ⟨g1, x2, fin⟩ := sorted_tail (T := pure (.done (.ret .none))) (tk := tk) (b := false) d C hsz (by simpa using hr) x1 z1 (fun h' D tk ix e1 a1 a2 a3 a4 a5 => h h' D tk ix e1 a1 a2 a3 a4 (by simpa using a5))
  refine wpAny_bind (wpAny_holding (wpAny_call_entry slot_list_sort ⟨_, g1, rfl⟩ entry_list_sort ?_ (args_list_sort _)))
  rw [TH.sort_plain_rev]
  refine list_sort (s := { s with heap := h1.push (seqObj "list" us.toArray 0), toks := tk }) d C x2 z1 g1 hsz (by simpa using hr) (by rw [show A.in1.in1.units = A.units + 2 from rfl]; omega) fun ix p1 p2 => ⟨_, rfl, ?_⟩
  exact wpAny_pure ⟨_, rfl, fin ix p1 p2⟩
end
end GS
set_option Elab.async false
set_option linter.all false
set_option maxRecDepth 100000
namespace ET
open PySem
section
variable {prog : Program} {w : World} {A : Around} {E : Value → Shared → Prop} {s : Shared}
theorem next_item {it t : Addr} {i : Nat} {items} {x : Value} {Q : Value → Shared → Prop} (hit : s.heap.IsTupleIter it t i) (ht : s.heap.IsTuple t items) (hx : items[i]? = some x)
    (hQ : ∀ h', h'.IsTupleIter it t (i + 1) → Heap.SameBut it s.heap h' → Q x { s with heap := h' }) : wpAny (model prog w) A (Builtin.SmallTypes.nextOf (.ref it)) Q E s := by
  obtain ⟨o, ho, hc, hd⟩ := id hit
  obtain ⟨ol, hol, _, nl, hdl⟩ := ht
  unfold Builtin.SmallTypes.nextOf
  refine wpAny_bind (wpAny_callSpecial?_slot (name := Str.ofString "__next__") hit.typeIs F.slot_tuple_iterator_next
    (wpAny_call_entry F.slot_tuple_iterator_next hit.typeIs F.entry_tuple_iterator_next ?_ (F.args_tuple_iterator_next_1 _)))
  show wpAny _ _ (field (.ref it) 0 >>= _) _ _ s
  refine wpAny_bind (wpAny_field ho hd (x := .ref t) rfl ?_)
  show wpAny _ _ (if (Value.ref t == Value.none) = true then _ else _) _ _ s
  rw [if_neg (show ¬ ((Value.ref t == Value.none) = true) from Bool.false_ne_true)]
  show wpAny _ _ (field (.ref it) 1 >>= _) _ _ s
  refine wpAny_bind (wpAny_field ho hd (x := .int i 0) rfl ?_)
  show wpAny _ _ (seqItems? (.ref t) >>= _) _ _ s
  refine wpAny_bind (wpAny_seqItems hol hdl ?_)
  simp only [Int.toNat_natCast, hx]
  refine wpAny_bind (wpAny_setField ho hd (by simp) (wpAny_pure ⟨x, rfl, wpAny_pure (hQ _ ?_ (Heap.SameBut.update ..))⟩))
  exact ⟨_, Heap.get?_update_self _ ho (Obj.isFreed_of_fields (Obj.data_mapFields hd _)), (Obj.cls_mapFields ..).trans hc, by
    rw [Obj.data_mapFields hd]; simp [rawInt]⟩
theorem next_end {it t : Addr} {i : Nat} {items} {Q : Value → Shared → Prop} (hh : A.handled = none) (hit : s.heap.IsTupleIter it t i) (ht : s.heap.IsTuple t items) (hx : items[i]? = none)
    (hE : ∀ h' e, Heap.ExtBut it s.heap h' → (∃ o, h'.get? e = some o ∧ o.cls = .type "StopIteration") → E (.ref e) { s with heap := h' }) : wpAny (model prog w) A (Builtin.SmallTypes.nextOf (.ref it)) Q E s := by
  obtain ⟨o, ho, hc, hd⟩ := id hit
  obtain ⟨ol, hol, _, nl, hdl⟩ := ht
  unfold Builtin.SmallTypes.nextOf
  refine wpAny_bind (wpAny_callSpecial?_slot (name := Str.ofString "__next__") hit.typeIs F.slot_tuple_iterator_next
    (wpAny_call_entry F.slot_tuple_iterator_next hit.typeIs F.entry_tuple_iterator_next ?_ (F.args_tuple_iterator_next_1 _)))
  show wpAny _ _ (field (.ref it) 0 >>= _) _ _ s
  refine wpAny_bind (wpAny_field ho hd (x := .ref t) rfl ?_)
  show wpAny _ _ (if (Value.ref t == Value.none) = true then _ else _) _ _ s
  rw [if_neg (show ¬ ((Value.ref t == Value.none) = true) from Bool.false_ne_true)]
  show wpAny _ _ (field (.ref it) 1 >>= _) _ _ s
  refine wpAny_bind (wpAny_field ho hd (x := .int i 0) rfl ?_)
  show wpAny _ _ (seqItems? (.ref t) >>= _) _ _ s
  refine wpAny_bind (wpAny_seqItems hol hdl ?_)
  simp only [Int.toNat_natCast, hx]
  refine wpAny_bind (wpAny_rule (wpAny_bind (wpAny_setField ho hd (by simp) ?_)))
  show wpAny _ _ (newExc (.type "StopIteration") [] >>= _) _ _ _
  refine wpAny_bind ?_
  simp only [newExc, newTuple]
  refine wpAny_bind (wpAny_newObj_type ?_ (by size_fits))
  refine wpAny_bind (m := firstArgMember _ _) (wpAny_of_eq (a := Value.none) (by first | rfl | (simp only [firstArgMember]; rfl)) ?_)
  refine wpAny_newObj_type ?_ (by size_fits)
  simp only [raiseNew]
  refine wpAny_bind (wpAny_handled ?_)
  first | rw [show A.in1.handled = none from hh] | rw [hh]
  refine wpAny_bind (wpAny_pure (wpAny_throw ?_))
  exact hE _ _ (((Heap.SameBut.update ..).extBut.push _).push _) ⟨_, Heap.get?_push_size _ rfl, rfl⟩
end
section
open AutoSeq1 (wpAny_loadPart')
theorem new_tuple (l : Addr) (items : Array Value) (n : Nat) (dct : Option Addr) (sl : Array (Option Value)) :
    Meets (Builtin.«enumerate.__new__» ⟨[.type "enumerate", .ref l], []⟩) (fun _ R s => s.heap.get? l = some { cls := .type "tuple", dict := dct, data := .seq items n, slots := sl } ∧
      R (.ok (.ret (.ref (s.heap.push { cls := .type "tuple_iterator", data := .fields #[.ref l, .int 0 0] }).objs.size)))
        { s with heap := (s.heap.push { cls := .type "tuple_iterator", data := .fields #[.ref l, .int 0 0] }).push { cls := .type "enumerate", data := .fields #[.none, .bool false, .ref s.heap.objs.size, rawInt 0, .none, .none] } }) :=
  .of_wp fun prog w A R s h => by
    obtain ⟨hp, g, d, tk, os⟩ := s; obtain ⟨hl, h⟩ := h
    have hsub := sub_enumerate
    have hL : Heap.IsTuple (Shared.heap ⟨hp, g, d, tk, os⟩) l items := ⟨_, hl, rfl, n, rfl⟩
    wp_walk using wpAny_loadPart' hl
    refine wpAny_stack_any fun st => wpAny_pure ?_
    split
    · rename_i c _ _ _ _ _
      cases (c == Value.type "enumerate")
      · wp_walk using wpAny_loadPart' hl, wpAny_pyIter_tuple hL
        exact ⟨_, rfl, h⟩
      · wp_walk using wpAny_loadPart' hl, wpAny_pyIter_tuple hL
        exact ⟨_, rfl, h⟩
    · wp_walk using wpAny_loadPart' hl, wpAny_pyIter_tuple hL
      exact ⟨_, rfl, h⟩
theorem call_enum {prog : Program} {w : World} {A : Around} {E : Value → Shared → Prop} {s : Shared} {l : Addr} {items : Array Value} {Q : Value → Shared → Prop} (hL : s.heap.IsTuple l items)
    (h : ∀ h', IsEnum h' (s.heap.objs.size + 1) s.heap.objs.size 0 .none → h'.IsTupleIter s.heap.objs.size l 0 → h'.objs.size = s.heap.objs.size + 2 →
      (∀ b o, s.heap.get? b = some o → h'.get? b = some o) → Q (.ref (s.heap.objs.size + 1)) { s with heap := h' }) :
    wpAny (model prog w) A (call (.type "enumerate") [.ref l]) Q E s := by
  obtain ⟨⟨c, dct, dt, sl⟩, hl, hc, n, hd⟩ := hL
  replace hc : c = .type "tuple" := hc
  replace hd : dt = .seq items n := hd
  subst hc hd
  refine callType_new F.called_enumerate (by decide) (F.typeCall_enumerate_1 _) (F.newCall_enumerate_1 _) (fun obj => F.args_object_init_2 obj _) F.entry_enumerate_new
    (new_tuple l items n dct sl) ⟨hl, ?_⟩
  have hz : (s.heap.push { cls := .type "tuple_iterator", data := .fields #[.ref l, .int 0 0] }).objs.size = s.heap.objs.size + 1 := Heap.size_push ..
  show _ ∧ _
  rw [hz]
  have he : IsEnum ((s.heap.push { cls := .type "tuple_iterator", data := .fields #[.ref l, .int 0 0] }).push
      { cls := .type "enumerate", data := .fields #[.none, .bool false, .ref s.heap.objs.size, rawInt 0, .none, .none] }) (s.heap.objs.size + 1) s.heap.objs.size 0 .none := by
    have := Heap.get?_push_size (s.heap.push { cls := .type "tuple_iterator", data := .fields #[.ref l, .int 0 0] })
      (o := { cls := .type "enumerate", data := .fields #[.none, .bool false, .ref s.heap.objs.size, rawInt 0, .none, .none] }) rfl
    rw [hz] at this; exact this
  refine ⟨⟨_, he, rfl⟩, h _ he ⟨_, Heap.get?_push_of_some _ (Heap.get?_push_size _ rfl), rfl, rfl⟩ (by rw [Heap.size_push, hz]) fun b o x => Heap.get?_push_of_some _ (Heap.get?_push_of_some _ x)⟩
end
theorem draws {prog : Program} {w : World} {A : Around} (hh : A.handled = none) (it a : Addr) (its : List Value) (hne : a ≠ it) :
    Draws prog w A it [it, a] its.length (fun i x => its[i]? = some x) (fun i h => h.IsTupleIter it a i ∧ h.IsTuple a its.toArray) where
  live := fun i h st => let ⟨o, e, _⟩ := st.1; ⟨o, e⟩
  frame := fun i h h' st k => by
    obtain ⟨⟨o, e, r⟩, o2, e2, r2⟩ := st
    exact ⟨⟨o, k it (by simp) o e, r⟩, o2, k a (by simp) o2 e2, r2⟩
  item := fun i s Q E hi st hQ => next_item st.1 st.2 (x := its[i]) (by simp [hi]) fun h' st' sb =>
    hQ _ h' s.toks (by simp [hi]) ⟨st', let ⟨o, e, r⟩ := st.2; ⟨o, (sb.2 a hne).trans e, r⟩⟩ sb
  done := fun s Q E st hE => next_end hh st.1 st.2 (by simp) hE
end ET
set_option Elab.async false
set_option linter.all false
set_option maxRecDepth 100000
set_option maxHeartbeats 4000000
namespace L2
open PySem PySem.Spec PyProof.Rows
def Ts (H : Hp) : Tr → List V → Prop
  | .nil, xs => xs = []
  | .cons b r, xs => ∃ (a : Addr) (ys zs : List V), xs = .ref a :: zs ∧ H a = some (.tup ys) ∧ Ts H b ys ∧ Ts H r zs
def Tv (H : Hp) (t : Tr) (v : V) : Prop := ∃ (a : Addr) (ys : List V), v = .ref a ∧ H a = some (.tup ys) ∧ Ts H t ys
theorem Ts.same {H H' : Hp} (e : Same H H') : ∀ {t : Tr} {xs : List V}, Ts H t xs → Ts H' t xs
  | .nil, xs, h => by rw [Ts] at h ⊢; exact h
  | .cons b r, xs, h => by
    rw [Ts] at h ⊢
    obtain ⟨a, ys, zs, e1, h1, h2, h3⟩ := h
    exact ⟨a, ys, zs, e1, e _ _ h1, h2.same e, h3.same e⟩
theorem Tv.same {H H' : Hp} {t : Tr} {v : V} (h : Tv H t v) (e : Same H H') : Tv H' t v := let ⟨a, ys, e1, h1, h2⟩ := h; ⟨a, ys, e1, e _ _ h1, h2.same e⟩
def TupS (H H' : Hp) : Prop := ∀ b xs, H b = some (.tup xs) → H' b = some (.tup xs)
theorem TupS.upd {H : Hp} {l : Addr} {ys : List V} {o : HO} (hl : H l = some (.lst ys)) : TupS H (upd H l o) := fun b xs h => by
  rw [upd_ne (ne_of h hl (by intro z; cases z))]; exact h
theorem Ts.tups {H H' : Hp} (e : TupS H H') : ∀ {t : Tr} {xs : List V}, Ts H t xs → Ts H' t xs
  | .nil, xs, h => by rw [Ts] at h ⊢; exact h
  | .cons b r, xs, h => by
    rw [Ts] at h ⊢
    obtain ⟨a, ys, zs, e1, h1, h2, h3⟩ := h
    exact ⟨a, ys, zs, e1, e _ _ h1, h2.tups e, h3.tups e⟩
theorem Tv.tups {H H' : Hp} {t : Tr} {v : V} (h : Tv H t v) (e : TupS H H') : Tv H' t v := let ⟨a, ys, e1, h1, h2⟩ := h; ⟨a, ys, e1, e _ _ h1, h2.tups e⟩
theorem Ts.length {H : Hp} : ∀ {t : Tr} {xs : List V}, Ts H t xs → xs.length = t.len
  | .nil, xs, h => by rw [Ts] at h; rw [h]; rfl
  | .cons b r, xs, h => by
    rw [Ts] at h
    obtain ⟨a, ys, zs, rfl, _, _, h3⟩ := h
    rw [List.length_cons, Tr.len, h3.length]
theorem Ts.len {H : Hp} {t : Tr} {xs : List V} (h : Ts H t xs) : xs.length = t.bs.length := by rw [h.length, Tr.len_bs]
theorem Ts.get {H : Hp} : ∀ {t : Tr} {xs : List V} {i : Nat} {v : V}, Ts H t xs → xs[i]? = some v → ∃ c, t.bs[i]? = some c ∧ Tv H c v
  | .nil, xs, i, v, h, e => by rw [Ts] at h; subst h; simp at e
  | .cons b r, xs, i, v, h, e => by
    rw [Ts] at h
    obtain ⟨a, ys, zs, rfl, h1, h2, h3⟩ := h
    cases i with
    | zero => simp at e; subst e; exact ⟨b, rfl, a, ys, rfl, h1, h2⟩
    | succ i =>
      obtain ⟨c, q1, q2⟩ := h3.get (i := i) (v := v) (by simpa using e)
      exact ⟨c, by simpa [Tr.bs] using q1, q2⟩
theorem Ts.of_all {H : Hp} : ∀ (ts : List Tr) (xs : List V), xs.length = ts.length → (∀ (i : Nat) (v : V), xs[i]? = some v → ∃ c, ts[i]? = some c ∧ Tv H c v) → Ts H (Tr.of ts) xs
  | [], xs, hl, _ => by
    rw [Tr.of, Ts]
    exact List.eq_nil_of_length_eq_zero (by simpa using hl)
  | t :: ts, [], hl, _ => by simp at hl
  | t :: ts, x :: xs, hl, h => by
    rw [Tr.of, Ts]
    obtain ⟨c, e1, a, ys, rfl, h1, h2⟩ := h 0 x rfl
    simp at e1
    subst e1
    exact ⟨a, ys, xs, rfl, h1, h2, Ts.of_all ts xs (by simpa using hl) fun i v e => by
      obtain ⟨c, q1, q2⟩ := h (i + 1) v (by simpa using e)
      exact ⟨c, by simpa using q1, q2⟩⟩
theorem Ts.nil {H : Hp} : Ts H .nil [] := by rw [Ts]
theorem Ts.cons {H : Hp} {b r : Tr} {v : V} {zs : List V} (h : Tv H b v) (k : Ts H r zs) : Ts H (.cons b r) (v :: zs) := by
  obtain ⟨a, ys, rfl, h1, h2⟩ := h
  rw [Ts]
  exact ⟨a, ys, zs, rfl, h1, h2, k⟩
theorem Ts.append {H : Hp} {t u : Tr} {xs ys : List V} (h : Ts H t xs) (k : Ts H u ys) : Ts H (Tr.of (t.bs ++ u.bs)) (xs ++ ys) := by
  refine Ts.of_all _ _ (by simp [h.len, k.len]) fun i v e => ?_
  by_cases hi : i < xs.length
  · rw [List.getElem?_append_left hi] at e
    rw [List.getElem?_append_left (by rw [← h.len]; exact hi)]
    exact h.get e
  · rw [List.getElem?_append_right (by omega)] at e
    rw [List.getElem?_append_right (by rw [← h.len]; omega), ← h.len]
    exact k.get e
theorem Ts.rev {H : Hp} {t : Tr} {xs : List V} (h : Ts H t xs) : Ts H (Tr.of t.bs.reverse) xs.reverse := by
  have hl := h.len
  refine Ts.of_all _ _ (by simp [hl]) fun i v e => ?_
  have hi : i < xs.length := by
    have := (List.getElem?_eq_some_iff.mp e).1
    simpa using this
  rw [List.getElem?_reverse hi] at e
  rw [List.getElem?_reverse (by omega), ← hl]
  exact h.get e
theorem Ts.pick {H : Hp} {t : Tr} {xs : List V} (h : Ts H t xs) (ix : List Nat) (hi : ∀ i ∈ ix, i < xs.length) : Ts H (Tr.of (ix.map fun i => t.bs.getD i .nil)) (ix.map fun i => xs.getD i .non) := by
  refine Ts.of_all _ _ (by simp) fun i v e => ?_
  rw [List.getElem?_map] at e ⊢
  cases q : ix[i]? with
  | none => rw [q] at e; cases e
  | some k =>
    rw [q] at e
    have hk : k < xs.length := hi k (List.mem_of_getElem? q)
    simp only [Option.map_some, Option.some.injEq] at e
    obtain ⟨c, q1, q2⟩ := h.get (i := k) (v := v) (by rw [← e, List.getD_eq_getElem?_getD, List.getElem?_eq_getElem hk]; rfl)
    refine ⟨c, ?_, q2⟩
    simp only [Option.map_some, List.getD_eq_getElem?_getD, q1]
    rfl
section
variable {X : Cx} {pins : List (Addr × Obj)} {σ : St} {H : Hp} {s : Shared}
theorem Ts.vs (I : Inv X pins σ H s) : ∀ {t : Tr} {xs : List V} {us : List Value}, Ts H t xs → Vals xs us → TH.Vs s.heap t us
  | .nil, xs, us, h, r => by
    rw [Ts] at h
    subst h
    cases r
    rw [TH.Vs]
  | .cons b rr, xs, us, h, r => by
    rw [Ts] at h
    obtain ⟨a, ys, zs, rfl, h1, h2, h3⟩ := h
    cases r with
    | cons r1 r2 =>
      cases r1
      obtain ⟨its, rv, p, _⟩ := I.tuple (SqT.of (K := X.K) h1)
      rw [TH.Vs]
      exact ⟨a, its, _, rfl, p, Ts.vs I h2 rv, Ts.vs I h3 r2⟩
theorem Tv.at (I : Inv X pins σ H s) {t : Tr} {v : V} {u : Value} (h : Tv H t v) (r : RelV v u) : ∃ (a : Addr) (its : List Value), u = .ref a ∧ s.heap.IsTuple a its.toArray ∧ TH.Vs s.heap t its := by
  obtain ⟨a, ys, rfl, h1, h2⟩ := h
  cases r
  obtain ⟨its, rv, p, _⟩ := I.tuple (SqT.of (K := X.K) h1)
  exact ⟨a, its, rfl, p, Ts.vs I h2 rv⟩
def rGtTr : R2 := fun x y H Q => ∃ t u, Tv H t x ∧ Tv H u y ∧ t.deep ≤ 60 ∧ Q (.bl (Tr.lt u t)) H
theorem op_gtTr (hu : X.A.units + 64 < cLine) : OpR X (compareOp .Gt) rGtTr := by
  intro pins s σ H x y v u' Q I rx ry h
  obtain ⟨t, u, h1, h2, hd, q⟩ := h
  obtain ⟨a, its, rfl, p1, k1⟩ := h1.at I rx
  obtain ⟨b, its', rfl, p2, k2⟩ := h2.at I ry
  exact TH.rc_gt (t.deep + 1) t u X.A s a b its its' (Nat.lt_succ_self _) p1 k1 p2 k2 (by omega) X.prog X.w X.xe _ ⟨.bl _, H, I, rfl, q⟩
def rEqTr (neg : Bool) : R2 := fun x y H Q => ∃ t u, Tv H t x ∧ Tv H u y ∧ t.deep ≤ 60 ∧ Q (.bl (if neg then !decide (t = u) else decide (t = u))) H
theorem op_eqTr (hu : X.A.units + 64 < cLine) : OpR X (compareOp .Eq) (rEqTr false) := by
  intro pins s σ H x y v u' Q I rx ry h
  obtain ⟨t, u, h1, h2, hd, q⟩ := h
  obtain ⟨a, its, rfl, p1, k1⟩ := h1.at I rx
  obtain ⟨b, its', rfl, p2, k2⟩ := h2.at I ry
  exact TH.rcEq p1 k1 p2 k2 (by omega) X.prog X.w X.xe _ ⟨.bl _, H, I, rfl, q⟩
end
def Ite (K : PySem.W.Frag) (a : Addr) : It :=
  ⟨fun i H => ∃ xs x, SqT K H a xs ∧ xs[i]? = some x, fun i H v H' => ∃ p x, v = .ref p ∧ H p = none ∧ H' = upd H p (.tup [.int i, x]) ∧ ∀ xs, SqT K H a xs → xs[i]? = some x, fun i H => ∃ xs, SqT K H a xs ∧ xs.length = i⟩
theorem turn_enum {P : Program} {w : World} {K : PySem.W.Frag} {elts : List Expr} {x1} {pos : Pos} (a e it : Addr) (hne : e ≠ it) :
    Turn P w K (.Tuple elts x1 pos) (Ite K a) [e, it] e (fun i h => (∃ old, IsEnum h e it (i : Nat) old) ∧ h.IsTupleIter it a i) where
  mem := by simp
  obj := fun i h st b hb => by
    rcases List.mem_cons.mp hb with rfl | hb
    · obtain ⟨⟨old, q⟩, _⟩ := st
      exact ⟨_, q, fun v z => by cases z⟩
    · have e2 : b = it := by simpa using hb
      subst e2
      obtain ⟨_, o, q, c, d⟩ := st
      exact ⟨o, q, fun v z => by rw [d] at z; cases z⟩
  keep := fun i h h' st k => by
    obtain ⟨⟨old, q⟩, o, q2, r⟩ := st
    exact ⟨⟨old, k e (by simp) _ q⟩, o, k it (by simp) _ q2, r⟩
  item := by
    intro X hP hw hK hc i pins s σ H E I hf st hg
    subst hP hw hK
    obtain ⟨xs, x, hq, hx⟩ := hg
    obtain ⟨its, rv, p, hz⟩ := I.tuple hq
    obtain ⟨u, hu, ru⟩ := rv.get hx
    obtain ⟨⟨old, he⟩, hit⟩ := st
    have hai : a ≠ it := fun z => by
      obtain ⟨o, e1, c1, _⟩ := p
      obtain ⟨o2, e2, c2, _⟩ := hit
      rw [z, e2] at e1; cases e1
      rw [c1] at c2; exact absurd c2 (by decide)
    have hae : a ≠ e := fun z => by
      obtain ⟨o, e1, c1, _⟩ := p
      rw [z, he] at e1; cases e1
      exact absurd (show Value.type "enumerate" = Value.type "tuple" from c1) (by decide)
    have hlt : i < its.length := (List.getElem?_eq_some_iff.mp hu).1
    have hE0 := hf e (by simp)
    have hI0 := hf it (by simp)
    refine wpAny_pyNext_enum_itemD (ET.draws (prog := X.prog) (w := X.w) (A := X.A.in1) (I.ok.hd hc) it a its hai) he ⟨hit, p⟩ hlt hne (by simp [hne, Ne.symm hae]) fun y h' tk hy ho hs' hT hsz hk => ⟨_, rfl, wpAny_letOwnedTupleGo_enum (s := { s with heap := h', toks := tk + 1 }) ho fun h'' he'' sb => ?_⟩
    have hyu : y = u := by rw [hu] at hy; exact (Option.some.inj hy).symm
    subst hyu
    have keep : ∀ b o, b ≠ e → b ≠ it → s.heap.get? b = some o → h''.get? b = some o := fun b o h1 h2 q => (sb.2 b h1).trans (hk b o h1 h2 q)
    have hTe : s.heap.objs.size ≠ e := Nat.ne_of_gt (Heap.lt_size he)
    have hTi : s.heap.objs.size ≠ it := let ⟨_, q, _⟩ := hit; Nat.ne_of_gt (Heap.lt_size q)
    have hT'' : h''.get? s.heap.objs.size = some { cls := .type "tuple", data := .seq #[.int i tk, y] } := (sb.2 _ hTe).trans hT
    have hTn : H s.heap.objs.size = none := I.hok.fresh (Nat.le_refl _)
    have neT : ∀ b o, s.heap.get? b = some o → b ≠ s.heap.objs.size := fun b o q => Nat.ne_of_lt (Heap.lt_size q)
    have trk : ∀ b o, H b = some o → b ≠ e ∧ b ≠ it := fun b o q => ⟨(fun z => by rw [z, hE0.1] at q; cases q), (fun z => by rw [z, hI0.1] at q; cases q)⟩
    refine ⟨.ref s.heap.objs.size, upd H s.heap.objs.size (.tup [.int i, x]), ?_, rfl, ⟨_, x, rfl, hTn, rfl, fun ys hy => by rw [I.tuple_inj hy hq]; exact hx⟩, ⟨⟨_, by simpa using he''⟩, ?_⟩, fun b hb => ?_⟩
    · show Inv X pins σ _ { s with heap := h'', gens := s.gens, drawn := s.drawn, toks := tk + 1 }
      refine I.step (h' := h'') (g' := s.gens) (d' := s.drawn) (t' := tk + 1) (ch := [e, it]) (fun b hb => ?_) (fun b o _ _ hc q _ => keep b o (fun z => hc (by simp [z])) (fun z => hc (by simp [z])) q) (fun b o _ _ hc q _ => ⟨o.slots, keep b o (fun z => hc (by simp [z])) (fun z => hc (by simp [z])) q⟩)
        (fun b o _ q n => by rw [upd_ne (neT b o q)]; exact n) (fun b o hc q => ⟨o, keep b o (fun z => hc (by simp [z])) (fun z => hc (by simp [z])) q⟩) (fun b ys q => by rw [upd_ne (ne_of_none q hTn)]; exact q) (fun b o u q => by rw [upd_ne (ne_of_none q hTn)]; exact q)
        (fun b ps q => ⟨#[], by rw [upd_ne (ne_of_none q hTn), q]; simp⟩) (fun m hm => ?_) (fun b o q => ?_) I.bare
      · rcases List.mem_cons.mp hb with rfl | hb
        · exact ⟨hE0.2.2.2.1, hE0.2.1, hE0.2.2.2.2.1, hE0.2.2.2.2.2⟩
        · have e2 : b = it := by simpa using hb
          subst e2
          exact ⟨hI0.2.2.2.1, hI0.2.1, hI0.2.2.2.2.1, hI0.2.2.2.2.2⟩
      · obtain ⟨o, es, ep, ho, r⟩ := hm
        exact ⟨o, es, ep, keep _ o (Ne.symm hE0.2.1) (Ne.symm hI0.2.1) ho, r⟩
      · by_cases hb : b = s.heap.objs.size
        · subst hb
          rw [upd_same] at q
          cases q
          exact ⟨sz2, [.int i tk, y], .cons ⟨tk, rfl⟩ (.cons ru .nil), _, hT'', rfl, _, rfl⟩
        · rw [upd_ne hb] at q
          refine (I.hok b o q).stay (fun c v hc r => keep c v ?_ ?_ r) (fun c r => by rw [upd_ne (ne_of_none r hTn)]; exact r) fun c ys r => by rw [upd_ne (ne_of_none r hTn)]; exact r
          · rcases hc with rfl | hc
            · exact (trk _ _ q).1
            · exact (trk _ _ hc).1
          · rcases hc with rfl | hc
            · exact (trk _ _ q).2
            · exact (trk _ _ hc).2
    · obtain ⟨⟨o, q, r⟩, _⟩ := hs'
      exact ⟨o, (sb.2 it (Ne.symm hne)).trans q, r⟩
    · rcases List.mem_cons.mp hb with rfl | hb
      · rw [upd_ne (Ne.symm hTe)]; exact hE0.1
      · have e2 : b = it := by simpa using hb
        subst e2
        rw [upd_ne (Ne.symm hTi)]; exact hI0.1
  done := by
    intro X hP hw hK hc i pins s σ H E I hf st hg
    subst hP hw hK
    obtain ⟨xs, hq, hx⟩ := hg
    obtain ⟨its, rv, p, hz⟩ := I.tuple hq
    obtain ⟨⟨old, he⟩, hit⟩ := st
    have hai : a ≠ it := fun z => by
      obtain ⟨o, e1, c1, _⟩ := p
      obtain ⟨o2, e2, c2, _⟩ := hit
      rw [z, e2] at e1; cases e1
      rw [c1] at c2; exact absurd c2 (by decide)
    have hl : its.length = i := by rw [← rv.length]; exact hx
    subst hl
    obtain ⟨f0, f1, f2, f3, f4, f5⟩ := hf it (by simp)
    exact wpAny_pyNext_enum_endD (ET.draws (prog := X.prog) (w := X.w) (A := X.A.in1) (I.ok.hd hc) it a its hai) he ⟨hit, p⟩ fun h' eb => ⟨rfl, I.turned (t' := s.toks) (fun b o hb q => eb b o hb q) f0 f1 f3 f4 f5⟩
  self := fun _ _ _ _ _ st h => by
    obtain ⟨⟨old, he⟩, _⟩ := st
    exact wpAny_pyIter_enum he h
def iEnum (K : PySem.W.Frag) (ta : TA) : TI := fun σ H R => ta σ H fun vs H1 => ∃ a, vs = [.ref a] ∧ (∃ xs, SqT K H1 a xs) ∧ R (Ite K a) H1
theorem pi_enum {X : Cx} {elts : List Expr} {x1} {tpos : Pos} {a : Expr} {ta : TA} {p pos : Pos} (hg : Gl X "enumerate") (hm : X.mg "enumerate" = none) (ha : PA X [a] ta) (hs : starEach [a] X.env = [(false, eval a X.env)] := by rfl) :
    PI X (.Tuple elts x1 tpos) (.Call (.Name "enumerate" p) [a] [] pos) (iEnum X.K ta) := by
  intro pins s σ H R I h
  refine Call_ (ld_blt I hg hm boot_enumerate (PyProof.Rows.callWith_type1 (thn (ha pos pins s σ H _ I h) fun us s1 ⟨vs, H1, I1, r1, q1⟩ => ?_) hs rfl))
  obtain ⟨t, e, ⟨xs, hq⟩, q⟩ := q1
  subst e
  cases r1 with
  | cons r rr =>
    cases rr
    cases r
    obtain ⟨its, rv, p', hz⟩ := I1.tuple hq
    refine ET.call_enum (show s1.heap.IsTuple t its.toArray from p') fun h' he hit hsz hk => wpAny_pyIter_enum he ?_
    have I2 : Inv X pins σ H1 { s1 with heap := h' } := I1.kept (t' := s1.toks) hk
    have hn : s1.heap.objs.size + 1 ≠ s1.heap.objs.size := by omega
    refine ⟨s1.heap.objs.size + 1, [s1.heap.objs.size + 1, s1.heap.objs.size], _, _, H1, rfl, I2, turn_enum t _ _ hn, ⟨⟨_, he⟩, hit⟩, fun b hb => ?_, q⟩
    have hb' : s1.heap.objs.size ≤ b := by
      have hb2 : b = s1.heap.objs.size + 1 ∨ b = s1.heap.objs.size := by simpa using hb
      rcases hb2 with z | z
      · rw [z]; exact Nat.le_succ _
      · rw [z]; exact Nat.le_refl _
    exact I1.fpOk hb' (I1.hok.fresh hb')
theorem for_enum {K : PySem.W.Frag} {a : Addr} {xs : List V} {g : TG} {tb : TS} {D : Ends} {σ : St} {H : Hp} (Pv : Nat → St → Hp → Prop) (h0 : Pv 0 σ H) (hl : ∀ i σ H, i ≤ xs.length → Pv i σ H → SqT K H a xs)
    (hs : ∀ i x σ H, xs[i]? = some x → Pv i σ H → ∀ p, H p = none → g (.ref p) σ (upd H p (.tup [.int (i : Nat), x])) fun σ2 H2 => tb { D with nx := Pv (i + 1), ct := Pv (i + 1), bk := D.nx } σ2 H2) (hd : ∀ σ H, Pv xs.length σ H → D.nx σ H) :
    ∃ W : Nat → Nat → St → Hp → Prop, (∃ m, W 0 m σ H) ∧ ∀ i m σ H, W i m σ H →
      ((Ite K a).stop i H ∧ D.nx σ H) ∨ ((Ite K a).go i H ∧ ∃ N : St → Hp → Prop, (∀ σ' H', N σ' H' → ∃ m', m' < m ∧ W (i + 1) m' σ' H') ∧ ∀ x H', (Ite K a).yld i H x H' → g x σ H' fun σ2 H2 => tb { D with nx := N, ct := N, bk := D.nx } σ2 H2) := by
  refine ⟨fun i m σ H => m = xs.length - i ∧ i ≤ xs.length ∧ Pv i σ H, ⟨xs.length, by simp, Nat.zero_le _, h0⟩, ?_⟩
  rintro i m σ H ⟨rfl, hi, p⟩
  have q := hl i σ H hi p
  by_cases hlt : i < xs.length
  · refine .inr ⟨⟨xs, xs[i], q, by simp [hlt]⟩, Pv (i + 1), fun σ' H' p' => ⟨xs.length - (i + 1), by omega, rfl, hlt, p'⟩, fun x H' y => ?_⟩
    obtain ⟨pp, x', rfl, hn, rfl, y⟩ := y
    exact hs i x' σ _ (y xs q) p pp hn
  · have e : i = xs.length := by omega
    subst e
    exact .inl ⟨⟨xs, q, rfl⟩, hd σ H p⟩
end L2
set_option Elab.async false
set_option linter.all false
set_option maxRecDepth 100000
set_option maxHeartbeats 4000000
namespace L2
open PySem PySem.Spec PyProof.Rows
theorem Vals.pick {xs : List V} {us : List Value} (r : Vals xs us) : ∀ ix : List Nat, (∀ i ∈ ix, i < xs.length) → Vals (ix.map fun i => xs.getD i .non) (ix.map fun i => us.getD i Value.none)
  | [], _ => .nil
  | i :: ix, h => by
    refine .cons ?_ (Vals.pick r ix fun k hk => h k (List.mem_cons_of_mem _ hk))
    have hi := h i List.mem_cons_self
    obtain ⟨u, h1, h2⟩ := r.get (i := i) (x := xs[i]) (by simp [hi])
    show RelV (xs.getD i .non) (us.getD i Value.none)
    rw [List.getD_eq_getElem?_getD, List.getD_eq_getElem?_getD, h1, List.getElem?_eq_getElem hi]
    exact h2
section
variable {X : Cx}
def rSort (K : PySem.W.Frag) : List V → Hp → VK → Prop := fun xs H Q => ∃ (p : Addr) (ys : List V) (t : Tr), xs = [.ref p] ∧ (SqL K H p ys ∨ SqT K H p ys) ∧ Ts H t ys ∧ ys.length < 64 ∧ t.deep ≤ 60 ∧
  ∀ (l : Addr) (zs : List V), H l = none → Ts H (Tr.of (Tr.srt t.bs).reverse) zs → Q (.ref l) (upd H l (.lst zs))
def rSortR (K : PySem.W.Frag) : List V → Hp → VK → Prop := fun xs H Q => ∃ (p : Addr) (ys : List V) (t : Tr), xs = [.ref p] ∧ (SqL K H p ys ∨ SqT K H p ys) ∧ Ts H t ys ∧ ys.length < 64 ∧ t.deep ≤ 60 ∧
  ∀ (l : Addr) (zs : List V), H l = none → Ts H (Tr.of (Tr.srt t.bs)) zs → Q (.ref l) (upd H l (.lst zs))
theorem sort_fin {pins : List (Addr × Obj)} {σ : St} {H : Hp} {s : Shared} {Q : VK} {t : Tr} {ts : List Tr} {ys : List V} {its : List Value} {h' : Heap} {ix : List Nat} {e1 : Nat} (I : Inv X pins σ H s) (ht : Ts H t ys) (rv : Vals ys its) (h64 : ys.length < 64)
    (a1 : ix.length = its.length) (a2 : ∀ i ∈ ix, i < its.length) (a3 : (ix.map fun i => t.bs.getD i .nil) = ts) (keep : ∀ c o, s.heap.get? c = some o → h'.get? c = some o)
    (hD : h'.get? (s.heap.objs.size + 1) = some (seqObj "list" (ix.map fun i => its.getD i Value.none).toArray e1)) (q : ∀ (l : Addr) (zs : List V), H l = none → Ts H (Tr.of ts) zs → Q (.ref l) (upd H l (.lst zs))) :
    EP X pins σ Q (.ref (s.heap.objs.size + 1)) { s with heap := h' } := by
  have hl := rv.length
  have a2' : ∀ i ∈ ix, i < ys.length := fun i hi => by rw [hl]; exact a2 i hi
  refine ⟨.ref (s.heap.objs.size + 1), upd H (s.heap.objs.size + 1) (.lst (ix.map fun i => ys.getD i .non)), I.laid (t' := s.toks) keep (Nat.le_succ _) ⟨?_, _, e1, rv.pick ix a2', hD⟩, rfl, q _ _ (I.hok.fresh (Nat.le_succ _)) ?_⟩
  · rw [List.length_map, a1, ← hl]
    exact Nat.le_of_lt (Nat.lt_of_lt_of_le h64 (by rw [sizeLine_eq]; decide))
  · rw [← a3]
    exact ht.pick ix a2'
theorem call_sort (hu : X.A.units + 64 < cLine) : CallR X (.builtin "sorted") (rSort X.K) := by
  intro pins s σ H xs us Q I r h
  obtain ⟨p, ys, t, rfl, hq, ht, h64, hd, q⟩ := h
  obtain ⟨u, rfl, r1⟩ := r.one
  cases r1
  rcases hq with hq | hq
  · obtain ⟨its, rv, pl, hz⟩ := I.list hq
    have hl := rv.length
    exact TH.sorted_list pl.isList (ht.vs I rv) (by omega) (by omega) fun h' ix e1 a1 a2 a3 keep hD => sort_fin I ht rv h64 a1 a2 a3 keep hD q
  · obtain ⟨its, rv, pl, hz⟩ := I.tuple hq
    have hl := rv.length
    exact TH.sorted_tup (show s.heap.IsTuple p its.toArray from pl) (ht.vs I rv) (by omega) (by omega) fun h' ix e1 a1 a2 a3 keep hD => sort_fin I ht rv h64 a1 a2 a3 keep hD q
theorem pe_sortR {e : Expr} {t : TA} {p pos kp kp2 : Pos} {j} (hu : X.A.units + 64 < cLine) (hg : Gl X "sorted") (hm : X.mg "sorted" = none) (ha : PA X [e] t)
    (he : backTo pos (starEach [e] X.env) = (false, eval e X.env) :: backTo pos (starEach [] X.env) := by rfl) (hplain : (backTo pos (starEach [e] X.env)).any (·.1) = false := by rfl) :
    PE X (.Call (.Name "sorted" p) [e] [⟨some "reverse", .Constant (.bool true) j kp2, kp⟩] pos) (fun σ H Q => t σ H fun vs H1 => rSortR X.K vs H1 Q) := by
  intro pins s σ H Q I h
  refine wpAny_Call_Name_kw (ld_blt I hg hm boot_sorted ?_ (by decide) (by decide))
  refine callWith_kw (thn (ha pos pins s σ H _ I h) fun us s1 ⟨vs, H1, I1, r1, q1⟩ => kws_cons (Constant_bool (kws_nil ?_))) he hplain
  obtain ⟨p, ys, t, rfl, hq, ht, h64, hd, q⟩ := q1
  obtain ⟨u, rfl, r2⟩ := r1.one
  cases r2
  rcases hq with hq | hq
  · obtain ⟨its, rv, pl, hz⟩ := I1.list hq
    have hl := rv.length
    exact TH.sorted_listR (b := true) pl.isList (ht.vs I1 rv) (by omega) (by omega) fun h' ix e1 a1 a2 a3 keep hD => sort_fin I1 ht rv h64 a1 a2 a3 keep hD q
  · obtain ⟨its, rv, pl, hz⟩ := I1.tuple hq
    have hl := rv.length
    exact TH.sorted_tupR (b := true) (show s1.heap.IsTuple p its.toArray from pl) (ht.vs I1 rv) (by omega) (by omega) fun h' ix e1 a1 a2 a3 keep hD => sort_fin I1 ht rv h64 a1 a2 a3 keep hD q
theorem pe_rev {e k : Expr} {te tk : TE} {pos p2 : Pos} (he : PE X e te) (hk : PE X k tk) : PE X (.Subscript e (.Slice none none (some k) p2) pos)
    (fun σ H Q => te σ H fun x H1 => tk σ H1 fun z H2 => ∃ (a : Addr) (xs : List V), x = .ref a ∧ z = .int (-1) ∧ SqL X.K H2 a xs ∧ ∀ p, H2 p = none → Q (.ref p) (upd H2 p (.lst xs.reverse))) := by
  intro pins s σ H Q I h
  refine Subscript_ (thn (he pins s σ H _ I h) fun v s1 ⟨x, H1, I1, r1, q1⟩ => ?_)
  refine wpAny_Slice ?_
  rw [evalPart_none]
  refine wpAny_pure ?_
  refine wpAny_pure ?_
  rw [evalPart_some]
  refine thn (hk pins s1 σ H1 _ I1 q1) fun vk s3 ⟨z, H3, I3, r3, q3⟩ => ?_
  obtain ⟨a, xs, rfl, rfl, hq, q⟩ := q3
  cases r1
  obtain ⟨tk', rfl⟩ := r3
  have I4 : Inv X pins σ H3 { s3 with heap := s3.heap.push { cls := .type "slice", data := .fields #[.none, .none, .int (-1) tk'] } } := I3.kept (t' := s3.toks) fun b ob q => Heap.get?_push_of_some _ q
  obtain ⟨its, rv, pl, hz⟩ := I4.list hq
  have hlen := rv.length
  show wpAny (model X.prog X.w) X.A (subscriptTail e (.Slice none none (some k) p2) (.ref a) (.ref s3.heap.objs.size)) (EP X pins σ Q) X.xe { s3 with heap := s3.heap.push { cls := .type "slice", data := .fields #[.none, .none, .int (-1) tk'] } }
  refine tail_any (ops := [.ref a, .ref s3.heap.objs.size]) (T := "list") pl.isList.typeIs slot_list_getitem.lookup ?_ (by with_unfolding_all rfl)
  refine wpAny_getItem_list_slice pl.isList (Heap.IsSliceOf.new ..) .none .none (.int (-1) tk') (by decide) ?_ (by rw [List.size_toArray] <;> omega)
  rw [PySem.W.krv_pick]
  refine ⟨.ref _, _, I4.laid (t' := s3.toks) (o := .lst xs.reverse) (fun b ob q => Heap.get?_push_of_some _ q) (Nat.le_refl _) ?_, rfl, q _ (I4.hok.fresh (Nat.le_refl _))⟩
  exact ⟨by rw [List.length_reverse]; exact hz, its.reverse, 0, rv.reverse, Heap.get?_push_size _ rfl⟩
end
end L2
set_option Elab.async false
set_option linter.all false
set_option maxRecDepth 100000
set_option maxHeartbeats 4000000
namespace L2
open PySem PySem.Spec PyProof.Rows
def CW (Pv : Nat → List V → Hp → Prop) (n : Nat) (D : Addr) : Nat → Nat → List V → Hp → Prop := fun i m ys H => m = n - i ∧ i ≤ n ∧ H D = some (.lst ys) ∧ Pv i ys H
theorem cw_next {Pv : Nat → List V → Hp → Prop} {n i : Nat} {D : Addr} {ys : List V} {y : V} {H : Hp} (hi : i < n) (p : Pv (i + 1) (ys ++ [y]) (upd H D (.lst (ys ++ [y])))) : ∃ m', m' < n - i ∧ CW Pv n D (i + 1) m' (ys ++ [y]) (upd H D (.lst (ys ++ [y]))) :=
  ⟨n - (i + 1), by omega, rfl, hi, upd_same, p⟩
theorem cw_skip {Pv : Nat → List V → Hp → Prop} {n i : Nat} {D : Addr} {ys : List V} {H : Hp} (hi : i < n) (hD : H D = some (.lst ys)) (p : Pv (i + 1) ys H) : ∃ m', m' < n - i ∧ CW Pv n D (i + 1) m' ys H := ⟨n - (i + 1), by omega, rfl, hi, hD, p⟩
theorem comp_by {J : It} {n : Nat} {D : Addr} {H1 : Hp} {fr : List (Option Nat)} {σ : St} {ix : Nat} {tif : TT} {te : TE} {G : Hp → Prop} (Pv : Nat → List V → Hp → Prop) (h0 : Pv 0 [] (upd H1 D (.lst [])))
    (hgo : ∀ i ys H, i < n → Pv i ys H → H D = some (.lst ys) → J.go i H ∧ ys.length < sizeLine ∧ ∀ x H', J.yld i H x H' →
      tif ((carry fr σ).set ix (some x)) H' fun b H2 => if b = true then te ((carry fr σ).set ix (some x)) H2 fun y H3 => H3 D = some (.lst ys) ∧ ∃ m', m' < n - i ∧ CW Pv n D (i + 1) m' (ys ++ [y]) (upd H3 D (.lst (ys ++ [y])))
        else ∃ m', m' < n - i ∧ CW Pv n D (i + 1) m' ys H2)
    (hstop : ∀ ys H, Pv n ys H → H D = some (.lst ys) → J.stop n H ∧ G H) :
    ∃ W : Nat → Nat → List V → Hp → Prop, (∃ m, W 0 m [] (upd H1 D (.lst []))) ∧
      ∀ i m ys H, W i m ys H → H D = some (.lst ys) ∧ ((J.stop i H ∧ G H) ∨ (J.go i H ∧ ys.length < sizeLine ∧ ∀ x H', J.yld i H x H' →
        tif ((carry fr σ).set ix (some x)) H' fun b H2 => if b = true then te ((carry fr σ).set ix (some x)) H2 fun y H3 => H3 D = some (.lst ys) ∧ ∃ m', m' < m ∧ W (i + 1) m' (ys ++ [y]) (upd H3 D (.lst (ys ++ [y])))
          else ∃ m', m' < m ∧ W (i + 1) m' ys H2)) := by
  refine ⟨CW Pv n D, ⟨n, by simp, Nat.zero_le _, upd_same, h0⟩, ?_⟩
  rintro i m ys H ⟨rfl, hi, hH, p⟩
  refine ⟨hH, ?_⟩
  by_cases hlt : i < n
  · exact .inr (hgo i ys H hlt p hH)
  · have e : i = n := by omega
    subst e
    exact .inl (hstop ys H p hH)
section
variable {X : Cx}
theorem call_all (hc : X.calm = true) : CallR X (.builtin "all") (fun xs H Q => ∃ (p : Addr) (bs : List Bool), xs = [.ref p] ∧ SqL X.K H p (bs.map V.bl) ∧ Q (.bl (bs.all id)) H) := by
  intro pins s σ H xs us Q I r h
  obtain ⟨p, bs, rfl, hq, q⟩ := h
  obtain ⟨u, rfl, r1⟩ := r.one
  cases r1
  obtain ⟨its, rv, pl, hz⟩ := I.list hq
  have hl : s.heap.IsList p its.toArray := pl.isList
  have hlt : p < s.heap.objs.size := by obtain ⟨_, e, _⟩ := hl; exact Heap.lt_size e
  have hlen : its.length = bs.length := by rw [← rv.length, List.length_map]
  refine call_all_walk (wpAny_pyIter_list hl ?_)
  refine ⟨s.heap.objs.size, [s.heap.objs.size, p], [s.heap.objs.size], its.toArray.size, _, _, fun i => (bs[i]?).getD true, rfl, Walks.list (A := X.A.in1) (I.ok.hd hc) _ p (Nat.ne_of_lt hlt) its.toArray,
    ⟨⟨_, Heap.get?_push_size _ rfl, rfl, rfl⟩, hl.push _⟩, fun i v s' Q' E' hP hQ => ?_, fun h' tk hk => ?_⟩
  · have hv : its[i]? = some v := by simpa using hP
    have hi : i < bs.length := by rw [← hlen]; exact (List.getElem?_eq_some_iff.mp hv).1
    obtain ⟨u, h1, h2⟩ := rv.get (i := i) (x := .bl bs[i]) (by rw [List.getElem?_map, List.getElem?_eq_getElem hi]; rfl)
    rw [hv] at h1
    cases h1
    cases h2
    simp only [List.getElem?_eq_getElem hi, Option.getD_some] at hQ
    exact wpAny_truthy_bool hQ
  · have e : ((List.range its.toArray.size).all fun i => (bs[i]?).getD true) = bs.all id := by
      rw [List.size_toArray, hlen]; exact PyProof.Rows.LSm.range_all bs
    rw [e]
    exact ⟨.bl _, H, I.kept (t' := tk) (PyProof.Rows.LSm.kept_iter hk), rfl, q⟩
end
def ItrB (lo : Int) (n : Nat) : It := ⟨fun i _ => i < n, fun i H x H' => H' = H ∧ x = .int (lo - i), fun i _ => n ≤ i⟩
theorem turn_rangeB {P : Program} {w : World} {K : PySem.W.Frag} {tg : Expr} (it : Addr) (lo : Int) (n : Nat) : Turn P w K tg (ItrB lo n) [it] it (fun i h => IsRangeIter h it (lo + (i : Nat) * (-1)) ((n : Int) - (i : Nat)) (-1)) where
  mem := by simp
  obj := fun i h st b hb => by
    have e : b = it := by simpa using hb
    subst e
    exact ⟨_, st, fun v z => by
      have z' : Data.fields _ = Data.cell v := z
      cases z'⟩
  keep := fun i h h' st k => k it (by simp) _ st
  item := by
    intro X hP hw hK hc i pins s σ H E I hf st hg
    subst hP hw hK
    obtain ⟨f0, f1, f2, f3, f4, f5⟩ := hf it (by simp)
    have W := Walks.range (prog := X.prog) (w := X.w) (I.ok.hd hc) it lo (-1) n
    refine W.item i s _ _ hg st fun v h' tk hv st' kk => ?_
    obtain ⟨t, rfl⟩ := hv
    have I1 : Inv X pins σ H { s with heap := h', toks := tk } := I.turned (fun b o hb e => kk b o (by simpa using hb) e) f0 f1 f3 f4 f5
    refine ⟨_, rfl, go_of (s := { s with heap := h', toks := tk }) (n := "range_iterator") st' rfl rfl (by decide) ⟨.int (lo - i), H, I1, ⟨t, ?_⟩, ⟨rfl, rfl⟩, st', fun b hb => (hf b hb).1⟩⟩
    rw [Int.mul_neg, Int.mul_one, Int.sub_eq_add_neg]
  done := by
    intro X hP hw hK hc i pins s σ H E I hf st hg
    subst hP hw hK
    obtain ⟨f0, f1, f2, f3, f4, f5⟩ := hf it (by simp)
    exact wpAny_pyNext_range_end (I.ok.hd hc) st (by have : n ≤ i := hg; omega) fun h' eb => ⟨rfl, I.turned (t' := s.toks) (fun b o hb e => eb b o hb e) f0 f1 f3 f4 f5⟩
  self := fun _ _ _ _ _ st h => wpAny_pyIter_rangeiter st h
theorem size_back (a b : Int) : Builtin.Range.rangeSize a b (-1) = if b < a then a - b else 0 := by
  unfold Builtin.Range.rangeSize
  simp only [show ¬ ((-1 : Int) > 0) by decide, if_false, show (- -1 : Int) = 1 by decide, Int.ediv_one]
  split <;> omega
def iRngB (ta : TA) : TI := fun σ H R => ta σ H fun vs H1 => ∃ i j : Int, vs = [.int i, .int j, .int (-1)] ∧ (-(2 ^ 62) ≤ i ∧ i < 2 ^ 62 ∧ -(2 ^ 62) ≤ j ∧ j < 2 ^ 62) ∧ R (ItrB i (i - j).toNat) H1
theorem pi_range3 {X : Cx} {tg a b c : Expr} {ta : TA} {p pos : Pos} (hg : Gl X "range") (hm : X.mg "range" = none) (ha : PA X [a, b, c] ta) (hs : starEach [a, b, c] X.env = (false, eval a X.env) :: starEach [b, c] X.env := by rfl)
    (hs2 : (backTo pos (starEach [b, c] X.env)).any (·.1) = false := by rfl) : PI X tg (.Call (.Name "range" p) [a, b, c] [] pos) (iRngB ta) := by
  intro pins s σ H R I h
  refine Call_ (ld_blt I hg hm boot_range (PyProof.Rows.callWith_type1 (thn (ha pos pins s σ H _ I h) fun us s1 ⟨vs, H1, I1, r1, q1⟩ => ?_) hs hs2))
  obtain ⟨i, j, e, ⟨q1, q2, q3, q4⟩, q⟩ := q1
  subst e
  cases r1 with
  | cons r rr =>
    cases rr with
    | cons r' rr =>
      cases rr with
      | cons r'' rr =>
        cases rr
        obtain ⟨t, rfl⟩ := r
        obtain ⟨t', rfl⟩ := r'
        obtain ⟨t'', rfl⟩ := r''
        refine call_range_3 (by decide) ?_ (Or.inl (PyProof.noPylong_small (by decide)))
        have hsm : Builtin.Range.small i j (-1) = true := by
          unfold Builtin.Range.small
          rw [size_back]
          simp only [Builtin.Range.rangeFitsLong, Bool.and_eq_true, Bool.or_eq_true, decide_eq_true_eq, beq_iff_eq, show ¬ ((-1 : Int) > 0) by decide, if_false]
          split <;> omega
        refine wpAny_pyIter_range (IsRange.new ..) hsm ?_
        have I2 : Inv X pins σ H1 { s1 with heap := s1.heap.push { cls := .type "range", data := .fields #[.int i t, .int j t', .int (-1) t''] }, toks := s1.toks } := I1.kept fun b o e => Heap.get?_push_of_some _ e
        refine ⟨(s1.heap.push { cls := .type "range", data := .fields #[.int i t, .int j t', .int (-1) t''] }).objs.size, [(s1.heap.push { cls := .type "range", data := .fields #[.int i t, .int j t', .int (-1) t''] }).objs.size], _, _, H1, rfl,
          I2.kept (t' := s1.toks) fun b o e => Heap.get?_push_of_some _ e, turn_rangeB _ i (i - j).toNat, ?_, fun b hb => ?_, q⟩
        · have e1 : i + ((0 : Nat) : Int) * (-1) = i := by simp
          have e2 : (((i - j).toNat : Nat) : Int) - ((0 : Nat) : Int) = Builtin.Range.rangeSize i j (-1) := by rw [size_back]; split <;> omega
          show IsRangeIter _ _ (i + ((0 : Nat) : Int) * (-1)) ((((i - j).toNat : Nat) : Int) - ((0 : Nat) : Int)) (-1)
          rw [e1, e2]
          exact Heap.get?_push_size _ rfl
        · have e : b = (s1.heap.push { cls := .type "range", data := .fields #[.int i t, .int j t', .int (-1) t''] }).objs.size := by simpa using hb
          subst e
          exact I2.fpOk (Nat.le_refl _) (I2.hok.fresh (Nat.le_refl _))
theorem for_rangeB {lo : Int} {n : Nat} {g : TG} {tb : TS} {D : Ends} {σ : St} {H : Hp} (Pv : Nat → St → Hp → Prop) (h0 : Pv 0 σ H)
    (hs : ∀ i σ H, i < n → Pv i σ H → g (.int (lo - i)) σ H fun σ2 H2 => tb { D with nx := Pv (i + 1), ct := Pv (i + 1), bk := D.nx } σ2 H2) (hd : ∀ σ H, Pv n σ H → D.nx σ H) :
    ∃ W : Nat → Nat → St → Hp → Prop, (∃ m, W 0 m σ H) ∧ ∀ i m σ H, W i m σ H →
      ((ItrB lo n).stop i H ∧ D.nx σ H) ∨ ((ItrB lo n).go i H ∧ ∃ N : St → Hp → Prop, (∀ σ' H', N σ' H' → ∃ m', m' < m ∧ W (i + 1) m' σ' H') ∧ ∀ x H', (ItrB lo n).yld i H x H' → g x σ H' fun σ2 H2 => tb { D with nx := N, ct := N, bk := D.nx } σ2 H2) := by
  refine ⟨fun i m σ H => m = n - i ∧ i ≤ n ∧ Pv i σ H, ⟨n, by simp, Nat.zero_le _, h0⟩, ?_⟩
  rintro i m σ H ⟨rfl, hi, p⟩
  by_cases hlt : i < n
  · refine .inr ⟨hlt, Pv (i + 1), fun σ' H' p' => ⟨n - (i + 1), by omega, rfl, hlt, p'⟩, fun x H' y => ?_⟩
    obtain ⟨e, y⟩ := y
    subst e y
    exact hs i σ _ hlt p
  · have e : i = n := by omega
    subst e
    exact .inl ⟨Nat.le_refl _, hd σ H p⟩
end L2
set_option Elab.async false
set_option linter.all false
set_option maxRecDepth 100000
set_option maxHeartbeats 4000000
namespace L2
open PySem PySem.Spec PyProof.Rows
section
variable {X : Cx} {scope : Scope} {cl : List (Str × Addr)} {N : List Str} {C : Addr} {s₀ : Shared} {H₀ : Hp} {fp : List Addr}
theorem op_eqDC (hu : X.A.units + 64 < cLine) : OpR (cxComp X scope cl N C s₀ H₀ fp) (compareOp .Eq) (rEqD X.K false) := op_eqD hu
end
end L2
set_option Elab.async false
set_option linter.all false
set_option maxRecDepth 100000
set_option maxHeartbeats 4000000
namespace L2
open PySem PySem.Spec PyProof.Rows
mutual
def Dt (l : Addr) (H : Hp) : PyData → V → Prop
  | .none, v => v = .non
  | .bool b, v => v = .bl b
  | .int i, v => v = .int i
  | .str x, v => v = .str x
  | .tuple ds, v => ∃ (a : Addr) (xs : List V), v = .ref a ∧ a ≠ l ∧ H a = some (.tup xs) ∧ DtAll l H ds xs
  | .list ds, v => ∃ (a : Addr) (xs : List V), v = .ref a ∧ a ≠ l ∧ H a = some (.lst xs) ∧ DtAll l H ds xs
  | .dict _, _ => False
def DtAll (l : Addr) (H : Hp) : List PyData → List V → Prop
  | [], xs => xs = []
  | d :: ds, xs => ∃ x r, xs = x :: r ∧ Dt l H d x ∧ DtAll l H ds r
end
mutual
theorem Dt.br {K : PySem.W.Frag} {l : Addr} {H : Hp} : ∀ {d : PyData} {v : V}, Dt l H d v → Br K H d v
  | .none, _, h => by rw [Dt] at h; rw [Br]; exact h
  | .bool _, _, h => by rw [Dt] at h; rw [Br]; exact h
  | .int _, _, h => by rw [Dt] at h; rw [Br]; exact h
  | .str _, _, h => by rw [Dt] at h; rw [Br]; exact h
  | .tuple _, _, h => by
    rw [Dt] at h; rw [Br]
    obtain ⟨a, xs, e1, n, h1, h2⟩ := h
    exact ⟨a, xs, e1, SqT.of h1, DtAll.br h2⟩
  | .list _, _, h => by
    rw [Dt] at h; rw [Br]
    obtain ⟨a, xs, e1, n, h1, h2⟩ := h
    exact ⟨a, xs, e1, SqL.of h1, DtAll.br h2⟩
  | .dict _, _, h => by rw [Dt] at h; exact h.elim
theorem DtAll.br {K : PySem.W.Frag} {l : Addr} {H : Hp} : ∀ {ds : List PyData} {xs : List V}, DtAll l H ds xs → BrAll K H ds xs
  | [], _, h => by rw [DtAll] at h; rw [BrAll]; exact h
  | _ :: _, _, h => by
    rw [DtAll] at h; rw [BrAll]
    obtain ⟨x, r, e1, h1, h2⟩ := h
    exact ⟨x, r, e1, Dt.br h1, DtAll.br h2⟩
end
theorem DtAll.nil {l : Addr} {H : Hp} : DtAll l H [] [] := by rw [DtAll]
theorem DtAll.cons {l : Addr} {H : Hp} {d : PyData} {ds : List PyData} {x : V} {xs : List V} (h : Dt l H d x) (k : DtAll l H ds xs) : DtAll l H (d :: ds) (x :: xs) := by
  rw [DtAll]; exact ⟨x, xs, rfl, h, k⟩
theorem Dt.tup {l a : Addr} {H : Hp} {ds : List PyData} {xs : List V} (n : a ≠ l) (h : H a = some (.tup xs)) (k : DtAll l H ds xs) : Dt l H (.tuple ds) (.ref a) := by rw [Dt]; exact ⟨a, xs, rfl, n, h, k⟩
def Ok (n : Nat) (d : PyData) : Prop := d.canLay0 = true ∧ d.depth ≤ n
def OkAll (n : Nat) (ds : List PyData) : Prop := PyData.canLayAll0 ds = true ∧ PyData.depthAll ds ≤ n
theorem Ok.shaped {n : Nat} {d : PyData} (h : Ok n d) (hn : n ≤ 64) : SeqAt.shaped d = true := by
  unfold SeqAt.shaped
  rw [h.1, Bool.true_and]
  exact decide_eq_true (Nat.le_trans h.2 hn)
theorem OkAll.nil {n : Nat} : OkAll n [] := ⟨by simp [PyData.canLayAll0], by simp [PyData.depthAll]⟩
theorem OkAll.cons {n : Nat} {d : PyData} {ds : List PyData} (h : Ok n d) (k : OkAll n ds) : OkAll n (d :: ds) := ⟨by simp [PyData.canLayAll0, h.1, k.1], by simp only [PyData.depthAll]; exact Nat.max_le.mpr ⟨h.2, k.2⟩⟩
theorem OkAll.of {n : Nat} : ∀ {ds : List PyData}, (∀ d ∈ ds, Ok n d) → OkAll n ds
  | [], _ => .nil
  | d :: ds, h => .cons (h d List.mem_cons_self) (OkAll.of fun e he => h e (List.mem_cons_of_mem _ he))
theorem Ok.tup {n : Nat} {ds : List PyData} (h : OkAll n ds) : Ok (n + 1) (.tuple ds) := ⟨by simp only [PyData.canLay0]; exact h.1, by simp only [PyData.depth]; exact Nat.succ_le_succ h.2⟩
theorem Ok.lst {n : Nat} {ds : List PyData} (h : OkAll n ds) : Ok (n + 1) (.list ds) := ⟨by simp only [PyData.canLay0]; exact h.1, by simp only [PyData.depth]; exact Nat.succ_le_succ h.2⟩
theorem Ok.int {n : Nat} {i : Int} : Ok n (.int i) := ⟨by simp [PyData.canLay0], by simp [PyData.depth]⟩
theorem Ok.bool {n : Nat} {b : Bool} : Ok n (.bool b) := ⟨by simp [PyData.canLay0], by simp [PyData.depth]⟩
theorem Ok.non {n : Nat} : Ok n .none := ⟨by simp [PyData.canLay0], by simp [PyData.depth]⟩
theorem Ok.str {n : Nat} {x : Str} (h : PyData.strOk x = true) : Ok n (.str x) := ⟨by simp [PyData.canLay0, h], by simp [PyData.depth]⟩
mutual
theorem eqv_self : ∀ d : PyData, d.canLay0 = true → PyData.eqv d d = true
  | .none, _ => by simp [PyData.eqv]
  | .bool _, _ => by simp [PyData.eqv]
  | .int _, _ => by simp [PyData.eqv]
  | .str _, _ => by simp [PyData.eqv]
  | .tuple ds, h => by simp only [PyData.eqv]; exact eqvAll_self ds (by simpa only [PyData.canLay0] using h)
  | .list ds, h => by simp only [PyData.eqv]; exact eqvAll_self ds (by simpa only [PyData.canLay0] using h)
  | .dict _, h => by simp [PyData.canLay0] at h
theorem eqvAll_self : ∀ ds : List PyData, PyData.canLayAll0 ds = true → PyData.eqvAll ds ds = true
  | [], _ => by simp [PyData.eqvAll]
  | d :: ds, h => by
    simp only [PyData.canLayAll0, Bool.and_eq_true] at h
    simp only [PyData.eqvAll, eqv_self d h.1, eqvAll_self ds h.2, Bool.and_self]
end
end L2
set_option Elab.async false
set_option linter.all false
set_option maxRecDepth 100000
set_option maxHeartbeats 4000000
namespace L2
open PySem PySem.Spec PyProof.Rows
def leaf : PyData → Prop
  | .none => True
  | .bool _ => True
  | .int _ => True
  | .str x => PyData.strOk x = true
  | _ => False
def Sm : Nat → PyData → Prop
  | 0, d => leaf d
  | n + 1, d => leaf d ∨ ∃ ds, (d = .tuple ds ∨ d = .list ds) ∧ ds.length ≤ 60 ∧ ∀ e ∈ ds, Sm n e
theorem leaf.ok {n : Nat} : ∀ {d : PyData}, leaf d → Ok n d
  | .none, _ => .non
  | .bool _, _ => .bool
  | .int _, _ => .int
  | .str _, h => .str h
theorem Sm.ok : ∀ {n : Nat} {d : PyData}, Sm n d → Ok n d
  | 0, _, h => leaf.ok h
  | n + 1, d, h => by
    rcases h with h | ⟨ds, h1, _, h2⟩
    · exact h.ok
    · have := OkAll.of fun e he => (h2 e he).ok
      rcases h1 with rfl | rfl
      · exact .tup this
      · exact .lst this
theorem Sm.tup {n : Nat} {ds : List PyData} (h : ds.length ≤ 60) (k : ∀ e ∈ ds, Sm n e) : Sm (n + 1) (.tuple ds) := .inr ⟨ds, .inl rfl, h, k⟩
def datsOf : Tr → List PyData
  | .nil => []
  | .cons b r => .tuple (datsOf b) :: datsOf r
theorem ts_dt {l : Addr} {H : Hp} (hl : ∀ xs, H l ≠ some (.tup xs)) : ∀ {t : Tr} {xs : List V}, Ts H t xs → DtAll l H (datsOf t) xs
  | .nil, xs, h => by rw [Ts] at h; subst h; exact .nil
  | .cons b r, xs, h => by
    rw [Ts] at h
    obtain ⟨a, ys, zs, rfl, h1, h2, h3⟩ := h
    exact .cons (.tup (fun z => hl ys (z ▸ h1)) h1 (ts_dt hl h2)) (ts_dt hl h3)
theorem tv_dt {l : Addr} {H : Hp} (hl : ∀ xs, H l ≠ some (.tup xs)) {t : Tr} {v : V} (h : Tv H t v) : Dt l H (.tuple (datsOf t)) v := by
  obtain ⟨a, ys, rfl, h1, h2⟩ := h
  exact .tup (fun z => hl ys (z ▸ h1)) h1 (ts_dt hl h2)
theorem datsOf_len : ∀ t : Tr, (datsOf t).length = t.bs.length
  | .nil => rfl
  | .cons b r => by rw [datsOf, List.length_cons, datsOf_len r, Tr.bs, List.length_cons]
theorem sm_dat : ∀ (n : Nat) (t : Tr), t.deep ≤ n → t.knots ≤ 60 → Sm (n + 1) (.tuple (datsOf t)) ∧ ∀ e ∈ datsOf t, Sm n e
  | n, .nil, _, _ => ⟨.tup (by rw [datsOf]; decide) (fun e he => by rw [datsOf] at he; cases he), fun e he => by rw [datsOf] at he; cases he⟩
  | n, .cons b r, hd, hk => by
    rw [Tr.deep] at hd
    rw [Tr.knots] at hk
    have hb : b.deep + 1 ≤ n := by omega
    obtain ⟨m, rfl⟩ : ∃ m, n = m + 1 := ⟨n - 1, by omega⟩
    have k1 := (sm_dat m b (by omega) (by omega)).1
    have k2 := (sm_dat (m + 1) r (by omega) (by omega)).2
    have all : ∀ e ∈ datsOf (.cons b r), Sm (m + 1) e := fun e he => by
      rw [datsOf] at he
      rcases List.mem_cons.mp he with rfl | he
      · exact k1
      · exact k2 e he
    refine ⟨.tup ?_ all, all⟩
    have h1 := Tr.len_lt_knots (.cons b r)
    rw [Tr.knots] at h1
    rw [datsOf_len]
    omega
end L2
set_option Elab.async false
set_option linter.all false
set_option maxRecDepth 100000
set_option maxHeartbeats 4000000
namespace L2
open PySem PySem.Spec PyProof.Rows
section
variable {X : Cx}
def rCatA : R2 := fun x y H Q => ∃ a b xs ys, x = .ref a ∧ y = .ref b ∧ H a = some (.tup xs) ∧ H b = some (.tup ys) ∧ xs.length + ys.length ≤ sizeLine ∧ ∀ p H', Same H H' → H' p = some (.tup (xs ++ ys)) → Q (.ref p) H'
theorem op_catA : OpR X (binaryOp .Add) rCatA := by
  intro pins s σ H x y v u Q I rx ry h
  obtain ⟨a, b, xs, ys, rfl, rfl, ha, hb, hz, q⟩ := h
  cases rx
  cases ry
  obtain ⟨its, r1, p1, _⟩ := I.tuple (SqT.of (K := X.K) ha)
  obtain ⟨its2, r2, p2, _⟩ := I.tuple (SqT.of (K := X.K) hb)
  by_cases hv : its = []
  · have hx := r1.nil_iff.mp hv
    subst hv hx
    obtain ⟨⟨cls, dd, data, sl⟩, ho, hc, n, hd⟩ := id p1
    obtain ⟨⟨cls2, dd2, data2, sl2⟩, ho2, hc2, n2, hd2⟩ := id p2
    simp only at hc hd hc2 hd2
    subst hc hd hc2 hd2
    exact concat_meets ⟨_, ho, rfl⟩ ⟨_, ho2, rfl⟩ noFill_tuple_add seq_tuple_add PySem.F.slot_tuple_add PySem.F.entry_tuple_add (PySem.F.args_tuple_add_2 _ _)
      (tuple_addW0 a b _ _ n n2 dd dd2 sl sl2 (by simp)) ⟨ho, ho2, ⟨.ref b, H, I, rfl, q b H (.refl H) (by simpa using hb)⟩⟩
  · refine HT.cat_tup p1 p2 hv (fun z => ?_) (fun z => ?_) (by rw [← r1.length, ← r2.length]; exact hz)
    · have hy := r2.nil_iff.mp z
      subst hy
      exact ⟨.ref a, H, I, rfl, q a H (.refl H) (by simpa using ha)⟩
    · refine ⟨.ref s.heap.objs.size, _, I.laid (t' := s.toks) (o := .tup (xs ++ ys)) (fun b ob q => Heap.get?_push_of_some _ q) (Nat.le_refl _) ?_, rfl, q _ _ (same_new (I.hok.fresh (Nat.le_refl _)) _) upd_same⟩
      exact ⟨by rw [List.length_append]; exact hz, _, r1.append r2, IsTup.new _ _⟩
end
end L2
set_option Elab.async false
set_option linter.all false
set_option maxRecDepth 100000
set_option maxHeartbeats 0
namespace Tr
def pr (x : Tr × Tr) : Tr := .cons x.1 (.cons x.2 .nil)
def hang (ps gone : List Nat) (root m : Nat) : List Nat := ((List.range m).map fun i => root + 1 + i).filter fun k => ps.getD k 0 == root && !gone.contains k
def lpart (ps gone : List Nat) : Nat → Nat → Tr
  | 0, _ => .nil
  | n + 1, root => of (srt ((hang ps gone root (ps.length - (root + 1))).map (lpart ps gone n)))
end Tr
set_option Elab.async false
set_option linter.all false
set_option maxRecDepth 100000
set_option maxHeartbeats 4000000
namespace Tr
theorem ksumR (l : List Tr) : (of l).knots = 1 + (l.map knots).sum := by
  induction l with
  | nil => rfl
  | cons b r ih => rw [of, knots, ih]; simp; omega
theorem ksrtR (l : List Tr) : (of (srt l)).knots = (of l).knots := by rw [ksumR, ksumR, ((perm_srt l).map knots).sum_nat]
theorem pr_deep {x : Tr × Tr} {n : Nat} (h1 : x.1.deep + 1 ≤ n) (h2 : x.2.deep + 1 ≤ n) : (pr x).deep ≤ n := by
  unfold pr
  rw [deep, deep, deep]
  omega
theorem hang_succ (ps gone : List Nat) (root i : Nat) : hang ps gone root (i + 1) = hang ps gone root i ++ (if (ps.getD (root + 1 + i) 0 == root && !gone.contains (root + 1 + i)) = true then [root + 1 + i] else []) := by
  unfold hang
  rw [List.range_succ, List.map_append, List.filter_append]
  congr 1
  rw [List.map_cons, List.map_nil, List.filter_cons, List.filter_nil]
theorem hang_len (ps gone : List Nat) (root m : Nat) : (hang ps gone root m).length ≤ m := by
  unfold hang
  refine Nat.le_trans (List.length_filter_le _ _) ?_
  simp
theorem lpart_deep (ps gone : List Nat) : ∀ n root, (lpart ps gone n root).deep ≤ n
  | 0, _ => Nat.le_refl _
  | n + 1, root => by
    rw [lpart]
    refine (deep_of _ _).mpr fun c hc => ?_
    have hc := (perm_srt _).mem_iff.mp hc
    obtain ⟨k, _, rfl⟩ := List.mem_map.mp hc
    have := lpart_deep ps gone n k
    omega
end Tr
set_option Elab.async false
set_option linter.all false
set_option maxRecDepth 100000
set_option maxHeartbeats 4000000
namespace Tr
def nrm (x : Tr × Tr) : Tr × Tr := (of (srt x.1.bs), of (srt x.2.bs))
def widen (b : Tr) (ys : List (Tr × Tr)) (x : Tr × Tr) : List (Tr × Tr) := (x.1, of (x.2.bs ++ [b])) :: ys.map fun y => (of (x.1.bs ++ [y.1]), of (x.2.bs ++ y.2.bs))
def cutsR : List (Tr × Tr) → Tr → List (Tr × Tr)
  | cs, .nil => cs
  | cs, .cons b r => cutsR (cs.flatMap (widen b ((cutsR [(.nil, .nil)] b).map nrm))) r
def cutsN (t : Tr) : List (Tr × Tr) := (cutsR [(.nil, .nil)] t).map nrm
def cuTo (l : List Tr) : Nat → List (Tr × Tr)
  | 0 => [(.nil, .nil)]
  | i + 1 => match l[i]? with
    | some b => (cuTo l i).flatMap (widen b (cutsN b))
    | none => cuTo l i
theorem cu_to : ∀ (r : Tr) (pre : List Tr), cutsR (cuTo (pre ++ r.bs) pre.length) r = cuTo (pre ++ r.bs) (pre ++ r.bs).length
  | .nil, pre => by rw [cutsR, bs]; simp
  | .cons b r, pre => by
    have ih := cu_to r (pre ++ [b])
    rw [cutsR, bs]
    have e : pre ++ b :: r.bs = (pre ++ [b]) ++ r.bs := by simp
    rw [e, ← ih]
    congr 1
    rw [List.length_append, List.length_cons, List.length_nil, cuTo, ← e]
    have e2 : (pre ++ b :: r.bs)[pre.length]? = some b := by simp
    rw [e2]
    rfl
theorem cuts_all (t : Tr) : cutsN t = (cuTo t.bs t.bs.length).map nrm := by
  unfold cutsN
  have := cu_to t []
  rw [List.nil_append] at this
  rw [← this]
  rfl
def cnt : Tr → Nat
  | .nil => 1
  | .cons b r => (cnt b + 1) * cnt r
theorem widen_len (b : Tr) (ys : List (Tr × Tr)) (x : Tr × Tr) : (widen b ys x).length = ys.length + 1 := by
  unfold widen
  simp
theorem flat_len {α β : Type} (f : α → List β) (k : Nat) : ∀ l : List α, (∀ x ∈ l, (f x).length = k) → (l.flatMap f).length = l.length * k
  | [], _ => by simp
  | x :: l, h => by
    rw [List.flatMap_cons, List.length_append, h x List.mem_cons_self, flat_len f k l fun y hy => h y (List.mem_cons_of_mem _ hy), List.length_cons, Nat.succ_mul, Nat.add_comm]
theorem cutsR_len : ∀ (t : Tr) (cs : List (Tr × Tr)), (cutsR cs t).length = cs.length * cnt t
  | .nil, cs => by rw [cutsR, cnt, Nat.mul_one]
  | .cons b r, cs => by
    rw [cutsR, cutsR_len r, flat_len _ (cnt b + 1) _ fun x _ => by rw [widen_len, List.length_map, cutsR_len b]; simp, cnt, Nat.mul_assoc]
theorem cuts_len (t : Tr) : (cutsN t).length = cnt t := by
  unfold cutsN
  rw [List.length_map, cutsR_len]
  simp
theorem cnt_pos : ∀ t : Tr, 0 < cnt t
  | .nil => Nat.one_pos
  | .cons b r => Nat.mul_pos (Nat.succ_pos _) (cnt_pos r)
theorem two_pos' (n : Nat) : 0 < 2 ^ n := Nat.pow_pos (by decide)
theorem cnt_le : ∀ t : Tr, 2 * cnt t ≤ 2 ^ t.knots
  | .nil => by decide
  | .cons b r => by
    have h1 := cnt_le b
    have h2 := cnt_le r
    have hb : cnt b + 1 ≤ 2 ^ b.knots := by have := cnt_pos b; omega
    rw [cnt, knots, Nat.pow_add]
    calc 2 * ((cnt b + 1) * cnt r) = (cnt b + 1) * (2 * cnt r) := by rw [Nat.mul_left_comm]
      _ ≤ 2 ^ b.knots * 2 ^ r.knots := Nat.mul_le_mul hb h2
theorem cnt_star : ∀ t : Tr, 2 * cnt t = 2 ^ t.knots → ∀ c ∈ t.bs, c = .nil
  | .nil, _, c, hc => by cases hc
  | .cons b r, h, c, hc => by
    have h1 := cnt_le b
    have h2 := cnt_le r
    have hp := cnt_pos r
    have hb : cnt b + 1 ≤ 2 ^ b.knots := by have := cnt_pos b; omega
    rw [cnt, knots, Nat.pow_add, Nat.mul_left_comm] at h
    have hr : 2 * cnt r = 2 ^ r.knots := by
      refine Nat.le_antisymm h2 (Nat.le_of_not_lt fun z => ?_)
      have a1 : (cnt b + 1) * (2 * cnt r) ≤ 2 ^ b.knots * (2 * cnt r) := Nat.mul_le_mul_right _ hb
      have a2 : 2 ^ b.knots * (2 * cnt r) < 2 ^ b.knots * 2 ^ r.knots := Nat.mul_lt_mul_of_pos_left z (two_pos' _)
      omega
    have hb2 : cnt b + 1 = 2 ^ b.knots := by
      rw [hr] at h
      exact Nat.eq_of_mul_eq_mul_right (two_pos' _) h
    have hbn : b = .nil := by
      cases b with
      | nil => rfl
      | cons p q =>
        exfalso
        have k1 := knots_pos p
        have k2 := knots_pos q
        have : (Tr.cons p q).knots = p.knots + q.knots := rfl
        have e4 : 4 ≤ 2 ^ (Tr.cons p q).knots := by
          rw [this]
          calc 4 = 2 ^ 2 := rfl
            _ ≤ 2 ^ (p.knots + q.knots) := Nat.pow_le_pow_right (by decide) (by omega)
        omega
    rw [bs] at hc
    rcases List.mem_cons.mp hc with e | hc
    · rw [e, hbn]
    · exact cnt_star r hr c hc
theorem rep_of : ∀ {l : List Tr}, (∀ c ∈ l, c = .nil) → l = List.replicate l.length .nil
  | [], _ => rfl
  | c :: l, h => by
    rw [List.length_cons, List.replicate_succ, ← rep_of fun d hd => h d (List.mem_cons_of_mem _ hd), h c List.mem_cons_self]
theorem knots_rep : ∀ n : Nat, (of (List.replicate n .nil)).knots = n + 1
  | 0 => rfl
  | n + 1 => by rw [List.replicate_succ, of, knots, knots_rep n, knots]; omega
def star : Tr := of (List.replicate 6 .nil)
theorem star_of {t : Tr} (hk : t.knots ≤ 7) (h : ¬ cnt t < 64) : t = star := by
  have h1 := cnt_le t
  have h2 : 2 ^ t.knots ≤ 2 ^ 7 := Nat.pow_le_pow_right (by decide) hk
  have h3 : (2 : Nat) ^ 7 = 128 := rfl
  have h4 : 2 * cnt t = 2 ^ t.knots := by omega
  have h5 := rep_of (cnt_star t h4)
  have h6 : t.knots = t.bs.length + 1 := by
    rw [← of_bs t, h5, knots_rep, bs_of]
    simp
  have h7 : t.bs.length = 6 := by
    have : 2 ^ t.knots = 128 := by omega
    have hle : t.knots = 7 := by
      refine Nat.le_antisymm hk (Nat.le_of_not_lt fun z => ?_)
      have := Nat.pow_le_pow_right (n := 2) (by decide) (show t.knots ≤ 6 by omega)
      omega
    omega
  rw [h7] at h5
  rw [← of_bs t, h5]
  rfl
theorem widen_knots {b : Tr} {ys : List (Tr × Tr)} (hy : ∀ y ∈ ys, y.1.knots + y.2.knots = b.knots + 1) {x z : Tr × Tr} (h : z ∈ widen b ys x) : z.1.knots + z.2.knots = x.1.knots + x.2.knots + b.knots := by
  have k1 := ksumR x.1.bs
  have k2 := ksumR x.2.bs
  rw [of_bs] at k1 k2
  unfold widen at h
  rcases List.mem_cons.mp h with rfl | h
  · rw [ksumR]
    simp
    omega
  · obtain ⟨y, hym, rfl⟩ := List.mem_map.mp h
    have k3 := ksumR y.2.bs
    rw [of_bs] at k3
    have := hy y hym
    dsimp only
    rw [ksumR, ksumR]
    simp
    omega
theorem nrm_knots (x : Tr × Tr) : (nrm x).1.knots = x.1.knots ∧ (nrm x).2.knots = x.2.knots := by
  unfold nrm
  dsimp only
  rw [ksrtR, ksrtR, of_bs, of_bs]
  exact ⟨rfl, rfl⟩
theorem cutsR_knots : ∀ (t : Tr) (cs : List (Tr × Tr)) (z : Tr × Tr), z ∈ cutsR cs t → ∃ c ∈ cs, z.1.knots + z.2.knots + 1 = c.1.knots + c.2.knots + t.knots
  | .nil, cs, z, h => by
    rw [cutsR] at h
    exact ⟨z, h, rfl⟩
  | .cons b r, cs, z, h => by
    rw [cutsR] at h
    obtain ⟨c, hc, e⟩ := cutsR_knots r _ z h
    obtain ⟨x, hx, hc⟩ := List.mem_flatMap.mp hc
    have := widen_knots (fun y hy => by
      obtain ⟨w, hw, rfl⟩ := List.mem_map.mp hy
      obtain ⟨c0, h0, e0⟩ := cutsR_knots b _ w hw
      have : c0 = (.nil, .nil) := by simpa using h0
      subst this
      have n := nrm_knots w
      rw [n.1, n.2]
      simp only [knots] at e0
      omega) hc
    refine ⟨x, hx, ?_⟩
    rw [knots]
    omega
theorem cuts_knots {t : Tr} {z : Tr × Tr} (h : z ∈ cutsN t) : z.1.knots + z.2.knots = t.knots + 1 := by
  obtain ⟨w, hw, rfl⟩ := List.mem_map.mp h
  obtain ⟨c0, h0, e0⟩ := cutsR_knots t _ w hw
  have : c0 = (.nil, .nil) := by simpa using h0
  subst this
  have n := nrm_knots w
  rw [n.1, n.2]
  simp only [knots] at e0
  omega
theorem cuTo_facts (t : Tr) (ht : t.knots ≤ 8) : ∀ i, i ≤ t.bs.length → ((cuTo t.bs i).length ≤ 2 ^ (((t.bs.take i).map knots).sum)) ∧ ∀ z ∈ cuTo t.bs i, z.1.knots + z.2.knots = 2 + ((t.bs.take i).map knots).sum
  | 0, _ => by
    refine ⟨by simp [cuTo], fun z hz => ?_⟩
    have : z = (.nil, .nil) := by simpa [cuTo] using hz
    subst this
    simp [knots]
  | i + 1, hi => by
    obtain ⟨h1, h2⟩ := cuTo_facts t ht i (by omega)
    have hb := List.getElem?_eq_getElem (l := t.bs) (i := i) (by omega)
    have hs : t.bs.take (i + 1) = t.bs.take i ++ [t.bs[i]] := by rw [List.take_succ, hb]; rfl
    have hsum : ((t.bs.take (i + 1)).map knots).sum = ((t.bs.take i).map knots).sum + t.bs[i].knots := by rw [hs, List.map_append, List.sum_append, List.map_cons, List.map_nil, List.sum_cons, List.sum_nil, Nat.add_zero]
    rw [cuTo, hb, hsum]
    dsimp only
    refine ⟨?_, fun z hz => ?_⟩
    · rw [flat_len _ (cnt t.bs[i] + 1) _ fun x _ => by rw [widen_len, cuts_len], Nat.pow_add]
      refine Nat.mul_le_mul h1 ?_
      have := cnt_le t.bs[i]
      have := cnt_pos t.bs[i]
      omega
    · obtain ⟨x, hx, hz⟩ := List.mem_flatMap.mp hz
      have e1 := widen_knots (fun y hy => cuts_knots hy) hz
      have e2 := h2 x hx
      omega
def pop6 (n : Nat) : Nat := n % 2 + n / 2 % 2 + n / 4 % 2 + n / 8 % 2 + n / 16 % 2 + n / 32 % 2
def kk (j : Nat) : Tr := pr (of (List.replicate j .nil), of (List.replicate (6 - j) .nil))
theorem star_keys : (cutsN star).map pr = (List.range 64).map fun m => kk (pop6 m) := by decide +kernel
theorem kk_lt : ∀ a, a < 7 → ∀ b, b < 7 → lt (kk a) (kk b) = decide (a < b) := by decide +kernel
theorem pop_lt (n : Nat) : pop6 n < 7 := by
  unfold pop6
  omega
end Tr
set_option Elab.async false
set_option linter.all false
set_option maxRecDepth 100000
set_option maxHeartbeats 4000000
namespace Tr
open PySem PyProof.Rows
def RunsT (prog : Program) (w : World) (ks : List Tr) : Prop := GS.Runs Tr.ord prog w ks
def up6 (i j : Nat) : Bool := decide (pop6 i < pop6 j)
def dn6 (i j : Nat) : Bool := decide (pop6 j < pop6 i)
def okRun6 (lt : Nat → Nat → Bool) (key : Nat → Nat) : Bool := match Tim.timT 64 lt 64 (List.range 64).toArray with
  | some p => p.toList.isPerm (List.range 64) && (List.range 63).all fun i => decide (key (p.toList.getD i 0) ≤ key (p.toList.getD (i + 1) 0))
  | none => false
theorem up6_run : okRun6 up6 pop6 = true := by decide +kernel
theorem dn6_run : okRun6 dn6 (fun i => 6 - pop6 i) = true := by decide +kernel
theorem mono_chain {key : Nat → Nat} {l : List Nat} (h : ∀ i, i + 1 < l.length → key (l.getD i 0) ≤ key (l.getD (i + 1) 0)) : ∀ i j, i ≤ j → j < l.length → key (l.getD i 0) ≤ key (l.getD j 0) := by
  intro i j hij hj
  induction j with
  | zero => have : i = 0 := by omega
            subst this; exact Nat.le_refl _
  | succ j ih =>
    by_cases e : i = j + 1
    · subst e; exact Nat.le_refl _
    · exact Nat.le_trans (ih (by omega) (by omega)) (h j hj)
theorem runs6 {prog : Program} {w : World} {lt : Nat → Nat → Bool} {key : Nat → Nat} (hk : ∀ i, key i < 7) (hl : ∀ i j, lt i j = decide (key i < key j)) (h : okRun6 lt key = true) : RunsT prog w ((List.range 64).map fun m => kk (key m)) := by
  unfold okRun6 at h
  cases e : Tim.timT 64 lt 64 (List.range 64).toArray with
  | none => rw [e] at h; cases h
  | some p =>
    rw [e] at h
    dsimp only at h
    rw [Bool.and_eq_true] at h
    obtain ⟨h1, h2⟩ := h
    have hp : p.toList.Perm (List.range 64) := List.isPerm_iff.mp h1
    have hlen : p.toList.length = 64 := by rw [hp.length_eq, List.length_range]
    have hg : ∀ i, i < 64 → ((List.range 64).map fun m => kk (key m)).getD i Tr.nil = kk (key i) := fun i hi => by
      rw [List.getD_eq_getElem?_getD, List.getElem?_map, List.getElem?_range hi]
      rfl
    have hkl : ((List.range 64).map fun m => kk (key m)).length = 64 := by rw [List.length_map, List.length_range]
    generalize ((List.range 64).map fun m => kk (key m)) = ks at hg hkl ⊢
    have h3 : ∀ i, i + 1 < p.toList.length → key (p.toList.getD i 0) ≤ key (p.toList.getD (i + 1) 0) := fun i hi => of_decide_eq_true (List.all_eq_true.mp h2 i (List.mem_range.mpr (by omega)))
    have hs : (p.toList.map fun i => ks.getD i Tr.nil).Pairwise fun a b => Tr.lt b a = false := by
      refine List.pairwise_iff_getElem.mpr fun i j hi hj hij => ?_
      rw [List.length_map] at hi hj
      rw [List.getElem_map, List.getElem_map]
      have m1 : p.toList[i] < 64 := List.mem_range.mp (hp.mem_iff.mp (List.getElem_mem hi))
      have m2 : p.toList[j] < 64 := List.mem_range.mp (hp.mem_iff.mp (List.getElem_mem hj))
      rw [hg _ m1, hg _ m2, kk_lt _ (hk _) _ (hk _)]
      have := mono_chain h3 i j (by omega) hj
      rw [List.getD_eq_getElem?_getD, List.getD_eq_getElem?_getD, List.getElem?_eq_getElem hi, List.getElem?_eq_getElem hj] at this
      simp only [Option.getD_some] at this
      exact decide_eq_false (by omega)
    have hlt : ∀ i j, i < ks.length → j < ks.length → lt i j = Tr.lt (ks.getD i Tr.nil) (ks.getD j Tr.nil) := fun i j hi hj => by
      rw [hg i (by omega), hg j (by omega), hl, kk_lt _ (hk i) _ (hk j)]
    rw [← hkl] at e hp
    exact GS.runs_tim (O := Tr.ord) (ks := ks) (p := p) Tr.nil lt hlt e hp hs
theorem runsT_small {prog : Program} {w : World} {ks : List Tr} (h : ks.length < 64) : RunsT prog w ks := GS.runs_small (O := Tr.ord) h
theorem cuts_runs {prog : Program} {w : World} {t : Tr} (ht : t.knots ≤ 7) : RunsT prog w ((cutsN t).map pr) := by
  by_cases h : cnt t < 64
  · exact runsT_small (by rw [List.length_map, cuts_len]; exact h)
  · rw [star_of ht h, star_keys]
    exact runs6 pop_lt (fun _ _ => rfl) up6_run
end Tr
set_option Elab.async false
set_option linter.all false
set_option maxRecDepth 100000
set_option maxHeartbeats 0
open PySem
namespace Tr
def goneOf (n m : Nat) : List Nat := ((List.range (n - 1)).map fun i => 1 + i).filter fun k => m / 2 ^ (k - 1) % 2 == 1
def aboveL (ps : List Nat) : Nat → Nat → List Nat
  | 0, _ => []
  | f + 1, k => if k = 0 then [] else ps.getD k 0 :: aboveL ps f (ps.getD k 0)
def anti (ps gone : List Nat) : Bool := gone.all fun k => ((aboveL ps 7 k).filter fun x => gone.contains x).isEmpty
def cutOf (ps gone : List Nat) : Tr × Tr := (lpart ps gone 7 0, of (srt (gone.map (lpart ps [] 7))))
def dueTo (ps : List Nat) (m : Nat) : List (Tr × Tr) := (((List.range m).map (goneOf ps.length)).filter (anti ps)).map (cutOf ps)
def dueC (ps : List Nat) : List (Tr × Tr) := dueTo ps (2 ^ (ps.length - 1))
def look13 (ps : List Nat) : Bool := decide (srt ((dueC ps).map pr) = srt ((cutsN (grown ps)).map pr))
theorem q13 : ((List.range 6).all fun n => n == 0 || (par n).all look13) = true := by decide +kernel
theorem q13_6_0 : (((par 6).drop 0).take 20).all look13 = true := by decide +kernel
theorem q13_6_1 : (((par 6).drop 20).take 20).all look13 = true := by decide +kernel
theorem q13_6_2 : (((par 6).drop 40).take 20).all look13 = true := by decide +kernel
theorem q13_6_3 : (((par 6).drop 60).take 20).all look13 = true := by decide +kernel
theorem q13_6_4 : (((par 6).drop 80).take 20).all look13 = true := by decide +kernel
theorem q13_6_5 : (((par 6).drop 100).take 20).all look13 = true := by decide +kernel
theorem q13_7_0 : (((par 7).drop 0).take 20).all look13 = true := by decide +kernel
theorem q13_7_1 : (((par 7).drop 20).take 20).all look13 = true := by decide +kernel
theorem q13_7_2 : (((par 7).drop 40).take 20).all look13 = true := by decide +kernel
theorem q13_7_3 : (((par 7).drop 60).take 20).all look13 = true := by decide +kernel
theorem q13_7_4 : (((par 7).drop 80).take 20).all look13 = true := by decide +kernel
theorem q13_7_5 : (((par 7).drop 100).take 20).all look13 = true := by decide +kernel
theorem q13_7_6 : (((par 7).drop 120).take 20).all look13 = true := by decide +kernel
theorem q13_7_7 : (((par 7).drop 140).take 20).all look13 = true := by decide +kernel
theorem q13_7_8 : (((par 7).drop 160).take 20).all look13 = true := by decide +kernel
theorem q13_7_9 : (((par 7).drop 180).take 20).all look13 = true := by decide +kernel
theorem q13_7_10 : (((par 7).drop 200).take 20).all look13 = true := by decide +kernel
theorem q13_7_11 : (((par 7).drop 220).take 20).all look13 = true := by decide +kernel
theorem q13_7_12 : (((par 7).drop 240).take 20).all look13 = true := by decide +kernel
theorem q13_7_13 : (((par 7).drop 260).take 20).all look13 = true := by decide +kernel
theorem q13_7_14 : (((par 7).drop 280).take 20).all look13 = true := by decide +kernel
theorem q13_7_15 : (((par 7).drop 300).take 20).all look13 = true := by decide +kernel
theorem q13_7_16 : (((par 7).drop 320).take 20).all look13 = true := by decide +kernel
theorem q13_7_17 : (((par 7).drop 340).take 20).all look13 = true := by decide +kernel
theorem q13_7_18 : (((par 7).drop 360).take 20).all look13 = true := by decide +kernel
theorem q13_7_19 : (((par 7).drop 380).take 20).all look13 = true := by decide +kernel
theorem q13_7_20 : (((par 7).drop 400).take 20).all look13 = true := by decide +kernel
theorem q13_7_21 : (((par 7).drop 420).take 20).all look13 = true := by decide +kernel
theorem q13_7_22 : (((par 7).drop 440).take 20).all look13 = true := by decide +kernel
theorem q13_7_23 : (((par 7).drop 460).take 20).all look13 = true := by decide +kernel
theorem q13_7_24 : (((par 7).drop 480).take 20).all look13 = true := by decide +kernel
theorem q13_7_25 : (((par 7).drop 500).take 20).all look13 = true := by decide +kernel
theorem q13_7_26 : (((par 7).drop 520).take 20).all look13 = true := by decide +kernel
theorem q13_7_27 : (((par 7).drop 540).take 20).all look13 = true := by decide +kernel
theorem q13_7_28 : (((par 7).drop 560).take 20).all look13 = true := by decide +kernel
theorem q13_7_29 : (((par 7).drop 580).take 20).all look13 = true := by decide +kernel
theorem q13_7_30 : (((par 7).drop 600).take 20).all look13 = true := by decide +kernel
theorem q13_7_31 : (((par 7).drop 620).take 20).all look13 = true := by decide +kernel
theorem q13_7_32 : (((par 7).drop 640).take 20).all look13 = true := by decide +kernel
theorem q13_7_33 : (((par 7).drop 660).take 20).all look13 = true := by decide +kernel
theorem q13_7_34 : (((par 7).drop 680).take 20).all look13 = true := by decide +kernel
theorem q13_7_35 : (((par 7).drop 700).take 20).all look13 = true := by decide +kernel
theorem all_in {α : Type} {f : α → Bool} {l : List α} {st m : Nat} (hst : 0 < st) (hl : l.length ≤ st * m) (h : ∀ i, i < m → ((l.drop (i * st)).take st).all f = true) {x : α} (hx : x ∈ l) : f x = true := by
  obtain ⟨j, hj, rfl⟩ := List.mem_iff_getElem.mp hx
  have hi : j / st < m := Nat.div_lt_of_lt_mul (by omega)
  have h1 := List.all_eq_true.mp (h (j / st) hi)
  refine h1 _ ?_
  have h2 : j % st < st := Nat.mod_lt _ hst
  have h3 : j / st * st + j % st = j := by rw [Nat.mul_comm]; exact Nat.div_add_mod j st
  refine List.mem_iff_getElem?.mpr ⟨j % st, ?_⟩
  rw [List.getElem?_take_of_lt h2, List.getElem?_drop, h3, List.getElem?_eq_getElem hj]
theorem q13_6 {ps : List Nat} (h : ps ∈ par 6) : look13 ps = true := by
  refine all_in (st := 20) (m := 6) (by decide) (by decide +kernel) (fun i hi => ?_) h
  match i, hi with
  | 0, _ => exact q13_6_0
  | 1, _ => exact q13_6_1
  | 2, _ => exact q13_6_2
  | 3, _ => exact q13_6_3
  | 4, _ => exact q13_6_4
  | 5, _ => exact q13_6_5
  | _ + 6, hi => exact absurd hi (by omega)
theorem q13_7 {ps : List Nat} (h : ps ∈ par 7) : look13 ps = true := by
  refine all_in (st := 20) (m := 36) (by decide) (by decide +kernel) (fun i hi => ?_) h
  match i, hi with
  | 0, _ => exact q13_7_0
  | 1, _ => exact q13_7_1
  | 2, _ => exact q13_7_2
  | 3, _ => exact q13_7_3
  | 4, _ => exact q13_7_4
  | 5, _ => exact q13_7_5
  | 6, _ => exact q13_7_6
  | 7, _ => exact q13_7_7
  | 8, _ => exact q13_7_8
  | 9, _ => exact q13_7_9
  | 10, _ => exact q13_7_10
  | 11, _ => exact q13_7_11
  | 12, _ => exact q13_7_12
  | 13, _ => exact q13_7_13
  | 14, _ => exact q13_7_14
  | 15, _ => exact q13_7_15
  | 16, _ => exact q13_7_16
  | 17, _ => exact q13_7_17
  | 18, _ => exact q13_7_18
  | 19, _ => exact q13_7_19
  | 20, _ => exact q13_7_20
  | 21, _ => exact q13_7_21
  | 22, _ => exact q13_7_22
  | 23, _ => exact q13_7_23
  | 24, _ => exact q13_7_24
  | 25, _ => exact q13_7_25
  | 26, _ => exact q13_7_26
  | 27, _ => exact q13_7_27
  | 28, _ => exact q13_7_28
  | 29, _ => exact q13_7_29
  | 30, _ => exact q13_7_30
  | 31, _ => exact q13_7_31
  | 32, _ => exact q13_7_32
  | 33, _ => exact q13_7_33
  | 34, _ => exact q13_7_34
  | 35, _ => exact q13_7_35
  | _ + 36, hi => exact absurd hi (by omega)
theorem look13_of {ps : List Nat} (h : PsOk ps) (h7 : ps.length ≤ 7) : srt ((dueC ps).map pr) = srt ((cutsN (grown ps)).map pr) := by
  have h0 := h.1
  have hm := h.mem
  have : look13 ps = true := by
    by_cases h5 : ps.length < 6
    · have h1 := List.all_eq_true.mp q13 ps.length (List.mem_range.mpr (by omega))
      rw [Bool.or_eq_true] at h1
      rcases h1 with h1 | h1
      · exact absurd (by simpa using h1) (Nat.ne_of_gt h0)
      · exact List.all_eq_true.mp h1 ps hm
    · have h6 : ps.length = 6 ∨ ps.length = 7 := by omega
      rcases h6 with e | e
      · rw [e] at hm
        exact q13_6 hm
      · rw [e] at hm
        exact q13_7 hm
  unfold look13 at this
  exact of_decide_eq_true this
def zer (ps : List Nat) : Bool := decide (grown ps = star → ps = List.replicate 7 0)
theorem zer_all : ((List.range 8).all fun n => n == 0 || (par n).all zer) = true := by decide +kernel
theorem zer_of {ps : List Nat} (h : PsOk ps) (h7 : ps.length ≤ 7) (hs : grown ps = star) : ps = List.replicate 7 0 := by
  have h1 := List.all_eq_true.mp zer_all ps.length (List.mem_range.mpr (by omega))
  have h0 := h.1
  rw [Bool.or_eq_true] at h1
  rcases h1 with h1 | h1
  · exact absurd (by simpa using h1) (Nat.ne_of_gt h0)
  · have h2 := List.all_eq_true.mp h1 ps h.mem
    unfold zer at h2
    exact of_decide_eq_true h2 hs
theorem star_due : (dueC (List.replicate 7 0)).map pr = (List.range 64).map fun m => kk (6 - pop6 m) := by decide +kernel
theorem due_len {ps : List Nat} (h : PsOk ps) (h7 : ps.length ≤ 7) : (dueC ps).length = cnt (grown ps) := by
  have h1 := congrArg List.length (look13_of h h7)
  rw [(perm_srt _).length_eq, (perm_srt _).length_eq, List.length_map, List.length_map, cuts_len] at h1
  exact h1
theorem due_runs {prog : Program} {w : World} {ps : List Nat} (h : PsOk ps) (h7 : ps.length ≤ 7) : RunsT prog w ((dueC ps).map pr) := by
  by_cases hc : cnt (grown ps) < 64
  · exact runsT_small (by rw [List.length_map, due_len h h7]; exact hc)
  · have hk : (grown ps).knots ≤ 7 := by rw [(fine_of h h7).2]; exact h7
    rw [zer_of h h7 (star_of hk hc), star_due]
    exact runs6 (fun i => by have := pop_lt i; omega) (fun i j => by have := pop_lt i; have := pop_lt j; unfold dn6; rw [decide_eq_decide]; omega) dn6_run
end Tr
set_option Elab.async false
set_option linter.all false
set_option maxRecDepth 100000
set_option maxHeartbeats 4000000
namespace TH
open PySem PySem.W PyProof.Rows PySem.SeqAt
theorem list_same {h : Heap} {a : Addr} {x y : Array Value} (h1 : h.IsList a x) (h2 : h.IsList a y) : x = y := by
  obtain ⟨o, e, _, n, d⟩ := h1
  obtain ⟨o', e', _, n', d'⟩ := h2
  rw [e] at e'; cases e'
  rw [d] at d'; cases d'; rfl
theorem eqAtL {s : Shared} {t u : Tr} {A : Around} {a b : Addr} {its its' : List Value} (h1 : s.heap.IsList a its.toArray) (k1 : Vs s.heap t its) (h2 : s.heap.IsList b its'.toArray) (k2 : Vs s.heap u its') (hu : A.units + t.deep < cLine) :
    EqAt A s (.ref a) (.ref b) (decide (t = u)) := by
  have z1 : its.toArray.size = t.bs.length := by rw [Tr.len_bs, ← Vs.length k1]; simp
  have z2 : its'.toArray.size = u.bs.length := by rw [Tr.len_bs, ← Vs.length k2]; simp
  by_cases ea : a = b
  · subst ea
    have := list_same h1 h2
    have e2 : its = its' := by simpa using this
    subst e2
    rw [Vs.inj k1 k2, decide_eq_true rfl]
    exact EqAt.same _
  · refine EqAt.of_refs ea ?_
    by_cases hl : t.bs.length = u.bs.length
    · have key := RcAt.lists (s := s) (A := A) (e := fun j => decide (t.bs[j]? = u.bs[j]?)) h1 h2 (by omega) (by omega) fun j x1 x2 => by
        have := eqRow t u A.in1 its its' k1 k2 (by rw [show A.in1.units = A.units + 1 from rfl]; omega) j (by simpa using x1) (by simpa using x2)
        simpa using this
      have ev : (List.range its.toArray.size).all (fun j => decide (t.bs[j]? = u.bs[j]?)) = decide (t = u) := by
        rw [z1]
        by_cases hbc : t = u
        · subst hbc; simp
        · rw [decide_eq_false hbc]
          refine Bool.eq_false_iff.mpr fun z => hbc (Tr.bs_inj (List.ext_getElem? fun i => ?_))
          by_cases hi : i < t.bs.length
          · have := List.all_eq_true.mp z i (List.mem_range.mpr (by omega))
            simpa using this
          · rw [List.getElem?_eq_none (by omega), List.getElem?_eq_none (by omega)]
      rw [ev] at key
      exact key
    · rw [decide_eq_false (fun z => hl (by rw [z]))]
      exact RcAt.lists_lengths h1 h2 (by simpa [z1, z2] using hl) (by omega)
section
open PySem.AutoSeq1 (wpAny_loadPart')
open PySem.MeetsSeq PySem.MeetsSeq2 PySem.MeetsSeq3
theorem lt_drop {t u : List Tr} {i : Nat} (h1 : i < t.length) (h2 : i < u.length) : Tr.cmpL (t.drop i) (u.drop i) = if t[i] = u[i] then Tr.cmpL (t.drop (i + 1)) (u.drop (i + 1)) else Tr.lt t[i] u[i] := by
  rw [List.drop_eq_getElem_cons h1, List.drop_eq_getElem_cons h2, Tr.cmpL]
theorem lt_end {t u : List Tr} {i : Nat} (h : t.length ≤ i ∨ u.length ≤ i) (h1 : i ≤ t.length) (h2 : i ≤ u.length) : Tr.cmpL (t.drop i) (u.drop i) = decide (t.length < u.length) := by
  by_cases a : t.length ≤ i
  · rw [List.drop_of_length_le a]
    by_cases b : u.length ≤ i
    · rw [List.drop_of_length_le b, decide_eq_false (by omega)]
      rfl
    · rw [List.drop_eq_getElem_cons (by omega), decide_eq_true (by omega)]
      rfl
  · have b : u.length ≤ i := by omega
    rw [List.drop_of_length_le b, List.drop_eq_getElem_cons (by omega), decide_eq_false (by omega)]
    rfl
theorem lt_loop (l b : Addr) (items items2 : Array Value) (n n2 : Nat) (dd dd2 : Option Addr) (sl sl2 : Array (Option Value)) (t u : Tr) (k : Nat) :
    ∀ i : Nat, items.size - i = k → i ≤ items.size → i ≤ items2.size → Meets (Builtin.«list.__eq__.loop» ⟨[.ref l, .ref b, rawInt i, rawInt 0], []⟩)
      (fun A R s => s.heap.get? l = some { cls := .type "list", dict := dd, data := .seq items n, slots := sl } ∧ s.heap.get? b = some { cls := .type "list", dict := dd2, data := .seq items2 n2, slots := sl2 } ∧
        Vs s.heap t items.toList ∧ Vs s.heap u items2.toList ∧ A.units + t.deep < cLine ∧
        R (.ok (.ret (.bool (Tr.cmpL (t.bs.drop i) (u.bs.drop i))))) s) := by
  induction k with
  | zero =>
    intro i hk hi1' hi2' prog w A R s h
    obtain ⟨hp, g, d, tk, os⟩ := s; obtain ⟨hl, hb, hi, hj, hun, h⟩ := h
    have z1 : items.size = t.bs.length := by rw [Tr.len_bs, ← Vs.length hi]; simp
    have z2 : items2.size = u.bs.length := by rw [Tr.len_bs, ← Vs.length hj]; simp
    wp_walk using wpAny_loadPart' hl, wpAny_loadPart' hb
    have hi1 : items[((i : Nat) : Int).toNat]? = none := by simp; omega
    rw [hi1]
    wp_walk using wpAny_loadPart' hl, wpAny_loadPart' hb
    show R (.ok (.ret (.bool (decide (items.size < items2.size))))) _
    rw [lt_end (.inl (by omega)) (by omega) (by omega), ← z1, ← z2] at h
    exact h
  | succ k ih =>
    intro i hk hi1' hi2' prog w A R s h
    obtain ⟨hp, g, d, tk, os⟩ := s; obtain ⟨hl, hb, hi, hj, hun, h⟩ := h
    have z1 : items.size = t.bs.length := by rw [Tr.len_bs, ← Vs.length hi]; simp
    have z2 : items2.size = u.bs.length := by rw [Tr.len_bs, ← Vs.length hj]; simp
    wp_walk using wpAny_loadPart' hl, wpAny_loadPart' hb
    have hlt : i < items.size := by omega
    have hi1 : items[((i : Nat) : Int).toNat]? = some items[i] := by simp [hlt]
    by_cases hlt2 : i < items2.size
    · have hi2 : items2[((i : Nat) : Int).toNat]? = some items2[i] := by simp [hlt2]
      have hc : ((i : Int) + 1) = ((i + 1 : Nat) : Int) := by push_cast; rfl
      rw [hi1, hi2]
      obtain ⟨a1, i1, c1, q1, q2, q3, q4, q5⟩ := hi.at (i := i) (by simpa using hlt)
      obtain ⟨a2, i2, c2, r1, r2, r3, r4, r5⟩ := hj.at (i := i) (by simpa using hlt2)
      have e1 : items[i] = .ref a1 := by rw [← q1]; simp [hlt]
      have e2 : items2[i] = .ref a2 := by rw [← r1]; simp [hlt2]
      have t1 : t.bs[i]'(by omega) = c1 := by
        have := List.getElem?_eq_getElem (l := t.bs) (i := i) (by omega)
        rw [q4] at this
        exact (Option.some.inj this).symm
      have t2 : u.bs[i]'(by omega) = c2 := by
        have := List.getElem?_eq_getElem (l := u.bs) (i := i) (by omega)
        rw [r4] at this
        exact (Option.some.inj this).symm
      rw [lt_drop (by omega) (by omega), t1, t2] at h
      have he := eqAt (s := ⟨hp, g, d, tk, os⟩) (A := A.in1) q2 q3 r2 r3 (by rw [show A.in1.units = A.units + 1 from rfl]; omega)
      rw [e1, e2]
      refine wpAny_bind (he prog w _ _ ?_)
      cases hb' : decide (c1 = c2) with
      | true =>
        rw [if_pos (of_decide_eq_true hb')] at h
        wp_walk
        rw [hc]
        exact ⟨plainId_quiet plain_eq_loop _, codeAny_builtin entry_eq_loop (by
          rw [Around.under_plainId plain_eq_loop _]
          exact ih (i + 1) (by omega) (by omega) (by omega) prog w A R _ ⟨hl, hb, hi, hj, hun, h⟩)⟩
      | false =>
        rw [if_neg (of_decide_eq_false hb')] at h
        wp_walk using wpAny_loadPart' hl, wpAny_loadPart' hb
        rw [hi1, hi2, e1, e2]
        have hri := rc_lt (c1.deep + 1) c1 c2 A.in1 ⟨hp, g, d, tk, os⟩ a1 a2 i1 i2 (Nat.lt_succ_self _) q2 q3 r2 r3 (by rw [show A.in1.units = A.units + 1 from rfl]; omega) prog w
        wp_walk using hri
        exact h
    · have hi2 : items2[((i : Nat) : Int).toNat]? = none := by simp; omega
      rw [hi1, hi2]
      wp_walk using wpAny_loadPart' hl, wpAny_loadPart' hb
      show R (.ok (.ret (.bool (decide (items.size < items2.size))))) _
      rw [lt_end (.inr (by omega)) (by omega) (by omega), ← z1, ← z2] at h
      exact h
theorem list_lt (l b : Addr) (items items2 : Array Value) (n n2 : Nat) (dd dd2 : Option Addr) (sl sl2 : Array (Option Value)) (t u : Tr) :
    Meets (Builtin.«list.__lt__» ⟨[.ref l, .ref b], []⟩)
      (fun A R s => s.heap.get? l = some { cls := .type "list", dict := dd, data := .seq items n, slots := sl } ∧ s.heap.get? b = some { cls := .type "list", dict := dd2, data := .seq items2 n2, slots := sl2 } ∧
        Vs s.heap t items.toList ∧ Vs s.heap u items2.toList ∧ A.units + t.deep < cLine ∧
        R (.ok (.ret (.bool (Tr.lt t u)))) s) := by
  intro prog w A R s h
  obtain ⟨hp, g, d, tk, os⟩ := s; obtain ⟨hl, hb, hi, hj, hun, h⟩ := h
  have f3 := AutoSeq1.sub_list_list
  wp_walk using wpAny_loadPart' hl, wpAny_loadPart' hb
  exact ⟨plainId_quiet plain_eq_loop _, codeAny_builtin entry_eq_loop (by
    rw [Around.under_plainId plain_eq_loop _]
    exact lt_loop l b items items2 n n2 dd dd2 sl sl2 t u _ 0 rfl (Nat.zero_le _) (Nat.zero_le _) prog w A R _ ⟨hl, hb, hi, hj, hun, by rw [Tr.lt_bs] at h; simpa using h⟩)⟩
end
end TH
set_option Elab.async false
set_option linter.all false
set_option maxRecDepth 100000
set_option maxHeartbeats 4000000
namespace TH
open PySem PySem.W PyProof.Rows PySem.SeqAt
def CutV (h : Heap) (k : Tr) (v : Value) : Prop := ∃ (a b l : Addr) (its its2 : List Value) (t u : Tr), k = Tr.pr (t, u) ∧ v = .ref a ∧ h.IsTuple a [.ref b, .ref l].toArray ∧ h.IsTuple b its.toArray ∧ Vs h t its ∧ h.IsList l its2.toArray ∧ Vs h u its2
theorem Vs.ext {h h' : Heap} (k : GS.Ext h h') {t : Tr} {us : List Value} (e : Vs h t us) : Vs h' t us := e.keeps fun b o e _ => k b o e
theorem tup_ext {h h' : Heap} (k : GS.Ext h h') {a : Addr} {x : Array Value} (e : h.IsTuple a x) : h'.IsTuple a x := let ⟨o, e1, c, n, d⟩ := e; ⟨o, k _ _ e1, c, n, d⟩
theorem list_ext {h h' : Heap} (k : GS.Ext h h') {a : Addr} {x : Array Value} (e : h.IsList a x) : h'.IsList a x := let ⟨o, e1, c, n, d⟩ := e; ⟨o, k _ _ e1, c, n, d⟩
theorem CutV.ext {h h' : Heap} (k : GS.Ext h h') {x : Tr} {v : Value} : CutV h x v → CutV h' x v := fun ⟨a, b, l, i1, i2, t, u, e1, e2, h1, h2, h3, h4, h5⟩ =>
  ⟨a, b, l, i1, i2, t, u, e1, e2, tup_ext k h1, tup_ext k h2, h3.ext k, list_ext k h4, h5.ext k⟩
section
open PySem.MeetsSeq PySem.MeetsSeq2 PySem.MeetsSeq3
variable {prog : Program} {w : World} {A : Around} {E : Value → Shared → Prop} {s : Shared}
theorem ask_list {t u : Tr} {a b : Addr} {its its' : List Value} {Q : Bool → Shared → Prop} (h1 : s.heap.IsList a its.toArray) (k1 : Vs s.heap t its) (h2 : s.heap.IsList b its'.toArray) (k2 : Vs s.heap u its') (hu : A.units + t.deep < cLine) (h : Q (Tr.lt t u) s) : wpAny (model prog w) A (oneLt' false (.ref a) (.ref b)) Q E s := by
  rw [oneLt'_eq]
  simp only [Bool.false_eq_true, if_false]
  obtain ⟨⟨cls, dd, data, sl⟩, ho, hc, n, hdt⟩ := id h1
  obtain ⟨⟨cls2, dd2, data2, sl2⟩, ho2, hc2, n2, hdt2⟩ := id h2
  simp only at hc hdt hc2 hdt2
  subst hc hdt hc2 hdt2
  refine wpAny_bind (richCompare_meets_room (op := .Lt) ⟨_, ho, rfl⟩ ⟨_, ho2, rfl⟩ PySem.F.slot_list_lt PySem.F.entry_list_lt (PySem.F.args_list_lt_2 _ _) (list_lt a b its.toArray its'.toArray n n2 dd dd2 sl sl2 t u)
      ⟨ho, ho2, by simpa using k1, by simpa using k2, hu, show Value.bool (Tr.lt t u) ≠ Value.notImplemented ∧ _ from ⟨(fun x => nomatch x), wpAny_truthy_bool h⟩⟩ (by omega))
theorem ask_cut {x y : Tr} {u v : Value} {Q : Bool → Shared → Prop} (h1 : CutV s.heap x u) (h2 : CutV s.heap y v) (hu : A.units + x.deep < cLine) (h : Q (Tr.lt x y) s) : wpAny (model prog w) A (keyLt' (tuples' false) u v) Q E s := by
  obtain ⟨a, b, l, i1, i2, t1, u1, rfl, rfl, k1, k2, k3, k4, k5⟩ := h1
  obtain ⟨a', b', l', j1, j2, t2, u2, rfl, rfl, m1, m2, m3, m4, m5⟩ := h2
  obtain ⟨o, ho, hc, n, hd⟩ := id k1
  obtain ⟨o2, ho2, hc2, n2, hd2⟩ := id m1
  have hdp : (Tr.pr (t1, u1)).deep = max (t1.deep + 1) (max (u1.deep + 1) 0) := rfl
  refine kat_lt ho hd ho2 hd2 ?_
  have hlt : Tr.lt (Tr.pr (t1, u1)) (Tr.pr (t2, u2)) = if t1 = t2 then (if u1 = u2 then false else Tr.lt u1 u2) else Tr.lt t1 t2 := by
    unfold Tr.pr
    rw [Tr.lt, Tr.lt]
    rfl
  rw [hlt] at h
  show KatLex prog w A false (decide (2 < 2)) Q [(.ref b, .ref b'), (.ref l, .ref l')] 0 s
  refine kat_cons (eqAt k2 k3 m2 m3 (by omega) prog w _ _ ?_)
  by_cases e1 : t1 = t2
  · rw [decide_eq_true e1]
    rw [if_pos e1] at h
    refine kat_yes (kat_cons (eqAtL k4 k5 m4 m5 (by omega) prog w _ _ ?_))
    by_cases e2 : u1 = u2
    · rw [decide_eq_true e2]
      rw [if_pos e2] at h
      exact kat_yes (kat_nil h)
    · rw [decide_eq_false e2]
      rw [if_neg e2] at h
      exact kat_no (by rw [Bool.false_and]; exact ask_list k4 k5 m4 m5 (by omega) h)
  · rw [decide_eq_false e1]
    rw [if_neg e1] at h
    exact kat_no (by rw [Bool.false_and]; exact ask_gen k2 k3 m2 m3 (by omega) h)
def TupTup (h : Heap) (v : Value) : Prop := ∃ (a b : Addr) (xs : Array Value) (its : List Value), v = .ref a ∧ h.IsTuple a ((.ref b :: its).toArray) ∧ h.IsTuple b xs
theorem firsts_tt {M : Model} : ∀ (us : List Value) {Q : List (Option Value) → Shared → Prop}, (∀ v ∈ us, TupTup s.heap v) → (∀ fs : List Value, fs.length = us.length → (∀ v ∈ fs, Looks M s.heap (typeOf v) (.type "tuple")) → Q (fs.map some) s) → wpAny M A (us.mapM firstOfTuple') Q E s
  | [], Q, _, h => by
    rw [List.mapM_nil]
    exact wpAny_pure (h [] rfl fun _ z => by cases z)
  | v :: us, Q, e, h => by
    obtain ⟨a, b, xs, its, rfl, h1, h2⟩ := e v List.mem_cons_self
    obtain ⟨o, ho, hc, n, hd⟩ := id h1
    rw [List.mapM_cons]
    refine wpAny_bind ?_
    rw [kas_first_eq]
    refine wpAny_bind (Looks.here (show Looks M s.heap (typeOf (.ref a)) o.cls from (Looks.ld ho).andThen .now) ?_)
    rw [hc, if_neg (by first | decide | simp)]
    refine wpAny_bind (listItems_at ho hd (wpAny_pure ?_))
    refine wpAny_bind (firsts_tt us (Q := fun bs s' => wpAny M A (pure ((.ref b :: its).toArray[0]? :: bs)) Q E s') (fun v hv => e v (List.mem_cons_of_mem _ hv)) fun fs hl hfs => wpAny_pure ?_)
    have := h (.ref b :: fs) (by simp [hl]) fun v hv => by
      rcases List.mem_cons.mp hv with rfl | hv
      · exact tuple_looks h2
      · exact hfs v hv
    simpa using this
theorem kind_tt {M : Model} {us : List Value} {Q : SortKind → Shared → Prop} (e : ∀ v ∈ us, TupTup s.heap v) (h : Q (tuples' false) s) : wpAny M A (keyKind' us.toArray) Q E s := by
  rw [kat_kind_eq, List.mapM_toArray, map_eq_pure_bind]
  refine wpAny_bind (wpAny_bind (firsts_tt us e fun fs hl hfs => wpAny_pure ?_))
  rw [if_pos (by simp)]
  refine wpAny_bind (wpAny_rule ?_)
  have e1 : ((fs.map some).toArray.filterMap id) = fs.toArray := by simp
  rw [e1]
  exact wpAny_bind (only_tr hfs (fun _ => wpAny_pure h) (wpAny_pure h))
theorem CutV.tt {h : Heap} {x : Tr} {v : Value} : CutV h x v → TupTup h v := fun ⟨a, b, l, i1, i2, t, u, e1, e2, h1, h2, h3, h4, h5⟩ => ⟨a, b, _, [.ref l], e2, h1, h2⟩
theorem cut_cmp {h0 : Heap} {r : Nat} {ks : List Tr} {us : List Value} (hl : us.length = ks.length) (he : ∀ (i : Nat) (x : Tr) (u : Value), ks[i]? = some x → us[i]? = some u → CutV h0 x u ∧ x.deep ≤ r) : GS.Cmp Tr.ord prog w h0 r ks us :=
  ⟨hl, fun κ => κ = tuples' false, fun A E s Q hx h => kind_tt (fun v hv => by
    obtain ⟨i, hi, rfl⟩ := List.getElem_of_mem hv
    exact ((he i _ _ (List.getElem?_eq_getElem (by omega)) (List.getElem?_eq_getElem hi)).1.ext hx).tt) (h _ rfl),
   fun A s κ hx hr hκ E i j x y u v Q h1 h2 h3 h4 q => by
    subst hκ
    obtain ⟨c1, d1⟩ := he i x u h3 h1
    obtain ⟨c2, d2⟩ := he j y v h4 h2
    exact ask_cut (c1.ext hx) (c2.ext hx) (by omega) q⟩
end
end TH
set_option Elab.async false
set_option linter.all false
set_option maxRecDepth 100000
set_option maxHeartbeats 4000000
namespace L2
open PySem PySem.Spec PyProof.Rows
def Cv (B : Addr → Prop) (H : Hp) (k : Tr) (v : V) : Prop := ∃ (a l : Addr) (t u : Tr) (vt : V) (xs : List V), k = Tr.pr (t, u) ∧ v = .ref a ∧ ¬ B l ∧ H a = some (.tup [vt, .ref l]) ∧ Tv H t vt ∧ H l = some (.lst xs) ∧ Ts H u xs
theorem Cv.same {B : Addr → Prop} {H H' : Hp} {k : Tr} {v : V} (e : Same H H') : Cv B H k v → Cv B H' k v := fun ⟨a, l, t, u, vt, xs, h1, h2, h0, h3, h4, h5, h6⟩ => ⟨a, l, t, u, vt, xs, h1, h2, h0, e _ _ h3, h4.same e, e _ _ h5, h6.same e⟩
theorem Cv.mono {B B' : Addr → Prop} {H : Hp} {k : Tr} {v : V} (e : ∀ c, B' c → B c) : Cv B H k v → Cv B' H k v := fun ⟨a, l, t, u, vt, xs, h1, h2, h0, h3⟩ => ⟨a, l, t, u, vt, xs, h1, h2, fun z => h0 (e _ z), h3⟩
theorem Cv.avoid {B : Addr → Prop} {H : Hp} {k : Tr} {v : V} {w : Addr} (hw : H w = none) : Cv B H k v → Cv (fun c => B c ∨ c = w) H k v := fun ⟨a, l, t, u, vt, xs, h1, h2, h0, h3, h4, h5, h6⟩ =>
  ⟨a, l, t, u, vt, xs, h1, h2, (fun z => z.elim h0 (fun z => (by rw [z, hw] at h5; cases h5))), h3, h4, h5, h6⟩
theorem Cv.upd {B : Addr → Prop} {H : Hp} {k : Tr} {v : V} {w : Addr} {zs zs' : List V} (hB : B w) (hw : H w = some (.lst zs)) : Cv B H k v → Cv B (upd H w (.lst zs')) k v := fun ⟨a, l, t, u, vt, xs, h1, h2, h0, h3, h4, h5, h6⟩ => by
  have tu : TupS H (L2.upd H w (.lst zs')) := TupS.upd hw
  exact ⟨a, l, t, u, vt, xs, h1, h2, h0, tu _ _ h3, h4.tups tu, (by rw [upd_ne (fun (z : l = w) => h0 (by rw [z]; exact hB))]; exact h5), h6.tups tu⟩
structure Cvs (B : Addr → Prop) (H : Hp) (ks : List Tr) (ys : List V) : Prop where
  len : ys.length = ks.length
  at_ : ∀ (i : Nat) (k : Tr) (v : V), ks[i]? = some k → ys[i]? = some v → Cv B H k v
variable {B B' : Addr → Prop}
theorem Cvs.same {H H' : Hp} {ks : List Tr} {ys : List V} (e : Same H H') (h : Cvs B H ks ys) : Cvs B H' ks ys := ⟨h.len, fun i k v a b => (h.at_ i k v a b).same e⟩
theorem Cvs.mono {H : Hp} {ks : List Tr} {ys : List V} (e : ∀ c, B' c → B c) (h : Cvs B H ks ys) : Cvs B' H ks ys := ⟨h.len, fun i k v a b => (h.at_ i k v a b).mono e⟩
theorem Cvs.avoid {H : Hp} {ks : List Tr} {ys : List V} {w : Addr} (hw : H w = none) (h : Cvs B H ks ys) : Cvs (fun c => B c ∨ c = w) H ks ys := ⟨h.len, fun i k v a b => (h.at_ i k v a b).avoid hw⟩
theorem Cvs.upd {H : Hp} {ks : List Tr} {ys : List V} {w : Addr} {zs zs' : List V} (hB : B w) (hw : H w = some (.lst zs)) (h : Cvs B H ks ys) : Cvs B (L2.upd H w (.lst zs')) ks ys := ⟨h.len, fun i k v a b => (h.at_ i k v a b).upd hB hw⟩
theorem Cvs.nil {H : Hp} : Cvs B H [] [] := ⟨rfl, fun i k v a => by simp at a⟩
theorem Cvs.snoc {H : Hp} {ks : List Tr} {ys : List V} {k : Tr} {v : V} (h : Cvs B H ks ys) (c : Cv B H k v) : Cvs B H (ks ++ [k]) (ys ++ [v]) := by
  have hl := h.len
  refine ⟨by simp [hl], fun i k' v' a b => ?_⟩
  by_cases hi : i < ks.length
  · rw [List.getElem?_append_left hi] at a
    rw [List.getElem?_append_left (by omega)] at b
    exact h.at_ i k' v' a b
  · rw [List.getElem?_append_right (by omega)] at a b
    rw [hl] at b
    have h0 : i - ks.length = 0 := by
      have := (List.getElem?_eq_some_iff.mp a).1
      simp at this
      omega
    rw [h0] at a b
    simp at a b
    subst a b
    exact c
theorem Cvs.get {H : Hp} {ks : List Tr} {ys : List V} (h : Cvs B H ks ys) {i : Nat} {v : V} (hv : ys[i]? = some v) : ∃ k, ks[i]? = some k ∧ Cv B H k v := by
  have hi := (List.getElem?_eq_some_iff.mp hv).1
  have hl := h.len
  have := List.getElem?_eq_getElem (l := ks) (i := i) (by omega)
  exact ⟨_, this, h.at_ i _ v this hv⟩
theorem Cvs.pick {H : Hp} {ks : List Tr} {ys : List V} (h : Cvs B H ks ys) (ix : List Nat) (hi : ∀ i ∈ ix, i < ys.length) : Cvs B H (ix.map fun i => ks.getD i .nil) (ix.map fun i => ys.getD i .non) := by
  refine ⟨by simp, fun j k v a b => ?_⟩
  rw [List.getElem?_map] at a b
  obtain ⟨i, e1, rfl⟩ := Option.map_eq_some_iff.mp a
  rw [e1] at b
  have hb : ys.getD i .non = v := by simpa using b
  have hlt := hi i (List.mem_of_getElem? e1)
  have hl := h.len
  refine h.at_ i _ v ?_ ?_
  · rw [List.getD_eq_getElem?_getD, List.getElem?_eq_getElem (by omega)]; rfl
  · rw [← hb, List.getD_eq_getElem?_getD, List.getElem?_eq_getElem hlt]; rfl
section
variable {X : Cx} {pins : List (Addr × Obj)} {σ : St} {H : Hp} {s : Shared}
theorem Cv.raw (I : Inv X pins σ H s) {k : Tr} {v : V} {u : Value} (h : Cv B H k v) (r : RelV v u) : TH.CutV s.heap k u := by
  obtain ⟨a, l, t, w, vt, xs, rfl, rfl, _, h1, h2, h3, h4⟩ := h
  cases r
  obtain ⟨its, rv, pl, hz⟩ := I.tuple (SqT.of (K := X.K) h1)
  obtain ⟨i2, rv2, pl2, hz2⟩ := I.list (SqL.of (K := X.K) h3)
  obtain ⟨u1, us1, rfl, r1, rv1⟩ : ∃ u1 us1, its = u1 :: us1 ∧ RelV vt u1 ∧ Vals [V.ref l] us1 := by
    cases rv with
    | cons r t => exact ⟨_, _, rfl, r, t⟩
  obtain ⟨u2, rfl, r2⟩ := rv1.one
  cases r2
  obtain ⟨b, its1, rfl, hb1, hb2⟩ := h2.at I r1
  exact ⟨a, b, l, its1, i2, t, w, rfl, rfl, pl, hb1, hb2, pl2.isList, h4.vs I rv2⟩
def rSortC (K : PySem.W.Frag) : List V → Hp → VK → Prop := fun xs H Q => ∃ (B : Addr → Prop) (p : Addr) (ys : List V) (ks : List Tr), xs = [.ref p] ∧ SqL K H p ys ∧ Cvs B H ks ys ∧ ys.length ≤ 1000 ∧ (∀ k ∈ ks, k.deep ≤ 30) ∧ (∀ prog w, Tr.RunsT prog w ks) ∧
  ∀ (l : Addr) (zs : List V), H l = none → Cvs B H (Tr.srt ks).reverse zs → Q (.ref l) (upd H l (.lst zs))
theorem call_sortC (hu : X.A.units + 64 < cLine) : CallR X (.builtin "sorted") (rSortC X.K) := by
  intro pins s σ H xs us Q I r h
  obtain ⟨B, p, ys, ks, rfl, hq, hc, hz, hd, hr, q⟩ := h
  obtain ⟨u, rfl, r1⟩ := r.one
  cases r1
  obtain ⟨its, rv, pl, _⟩ := I.list hq
  have hl := rv.length
  have hk := hc.len
  have C : GS.Cmp Tr.ord X.prog X.w s.heap 30 ks its := TH.cut_cmp (by omega) fun i x u h1 h2 => by
    have hi := (List.getElem?_eq_some_iff.mp h2).1
    have hy := List.getElem?_eq_getElem (l := ys) (i := i) (by omega)
    obtain ⟨u', h3, h4⟩ := rv.get hy
    rw [h2] at h3
    cases h3
    exact ⟨(hc.at_ i x _ h1 hy).raw I h4, hd x (List.mem_of_getElem? h1)⟩
  refine GS.sorted_0 Tr.nil (GS.gathers_list pl.isList (by omega)) C (by omega) (hr _ _) (by omega) fun h' D tk ix e1 hD k1 gD p1 p2 => ?_
  have hix : ∀ i ∈ ix, i < ys.length := fun i hi => by
    have := List.mem_range.mp (p1.mem_iff.mp hi)
    omega
  have e : (ix.map fun i => ks.getD i Tr.nil) = (Tr.srt ks).reverse := by
    refine Tr.srt_rev_of p2 ?_
    have h3 := p1.map fun i => ks.getD i Tr.nil
    rwa [← hl, hk, TH.map_getD] at h3
  have hcs := hc.pick ix hix
  rw [e] at hcs
  have hil : ix.length = its.length := by rw [p1.length_eq, List.length_range]
  exact ⟨.ref D, upd H D (.lst (ix.map fun i => ys.getD i .non)), I.laid (t' := tk) k1 hD ⟨by rw [List.length_map, hil, sizeLine_eq]; omega, _, e1, rv.pick ix hix, gD⟩, rfl, q D _ (I.hok.fresh hD) hcs⟩
end
end L2
set_option Elab.async false
set_option linter.all false
set_option maxRecDepth 100000
set_option maxHeartbeats 4000000
namespace L2
open PySem PySem.Spec PyProof.Rows
abbrev tg2 (x y : Str) (px py : Pos) (tk : Nat) (tp : Pos) : Expr := .Tuple [.Name x px, .Name y py] tk tp
theorem set_two {ix iy : Nat} (h : ix ≠ iy) (σ : St) (a b c d : Option V) : ((((σ.set ix a).set iy b).set ix c).set iy d) = (σ.set ix c).set iy d := by
  rw [List.set_comm _ _ h.symm, List.set_set, List.set_set]
theorem codeAny_compLoop_testsT {prog : Program} {w : World} {A : Around} {R : Result → Shared → Prop} {s : Shared} {elt target iter : Expr} {ifs : List Expr} {scope : Scope} {pos : Pos} {it acc : Value} {env : Env} (I : Nat → Shared → Prop)
    (turn : ∀ n s, I n s → wpAny (model prog w) A (pyNext it) (fun r s₁ => match r with
      | none => R (.ok .next) s₁
      | some v => wpAny (model prog w) A (letOwnedTupleGo target it v >>= fun _ => assign target env v) (fun _ s₂ =>
          wpAny (model prog w) A (forIn ifs true fun c r => if r = true then do let ok ← isTrue c env (eval c env); pure (ForInStep.yield ok) else pure (ForInStep.yield r)) (fun ok s₃ =>
            if ok = true then wpAny (model prog w) A (eval elt env) (fun x s₄ =>
              wpAny (model prog w) A (call (.builtin "list.append") [acc, x]) (fun _ s₅ => ∃ m, m < n ∧ I m s₅) (notedBy (model prog w) A env fun e s' => R (.error e) s') s₄) (notedBy (model prog w) A env fun e s' => R (.error e) s') s₃
            else ∃ m, m < n ∧ I m s₃) (notedBy (model prog w) A env fun e s' => R (.error e) s') s₂) (notedBy (model prog w) A env fun e s' => R (.error e) s') s₁) (notedBy (model prog w) A env fun e s' => R (.error e) s') s)
    (n : Nat) (h : I n s) :
    codeAny (model prog w) A (.compLoop (.ListComp elt [⟨target, iter, ifs, 0⟩] scope pos) 0 it acc env) R s := by
  refine codeAny_loop rfl I (fun n s hI => ?_) n h
  show wpAny _ A ((compTurn (.ListComp elt [⟨target, iter, ifs, 0⟩] scope pos) 0 it acc env).onRaise (fun x => do noteFrame x env; theTreesLotGoes x)) _ _ s
  refine wpAny_noted ?_
  rw [compTurn_list]
  refine wpAny_bind (wpAny_standAt (wpAny_bind (wpAny_mono (turn n s hI) (fun r s₁ h₁ => ?_) fun _ _ h' => h')))
  cases r with
  | none => exact wpAny_pure h₁
  | some v =>
    show wpAny (model prog w) A (letOwnedTupleGo target it v >>= fun _ => assign target env v >>= _) _ _ s₁
    rw [← bind_assoc]
    refine wpAny_bind (wpAny_mono h₁ (fun _ s₂ h₂ => wpAny_bind (wpAny_mono h₂ (fun ok s₃ h₃ => ?_) fun _ _ h' => h')) fun _ _ h' => h')
    cases ok with
    | false => exact wpAny_pure ⟨rfl, h₃⟩
    | true =>
      exact wpAny_bind (wpAny_bind (wpAny_mono h₃ (fun x s₄ h₄ => wpAny_bind (wpAny_mono h₄ (fun _ s₅ h₅ => wpAny_pure (wpAny_pure ⟨rfl, h₅⟩)) fun _ _ h' => h')) fun _ _ h' => h'))
def tComp2 (K : PySem.W.Frag) (wi : TI) (fr : List (Option Nat)) (ix iy : Nat) (tif : TT) (te : TE) : TE := fun σ H Q => wi σ H fun J H1 => ∀ D, H1 D = none → ∃ W : Nat → Nat → List V → Hp → Prop, (∃ m, W 0 m [] (upd H1 D (.lst []))) ∧
  ∀ i m ys H, W i m ys H → H D = some (.lst ys) ∧ ((J.stop i H ∧ Q (.ref D) H) ∨ (J.go i H ∧ ys.length < sizeLine ∧ ∀ x H', J.yld i H x H' → ∃ a v1 v2, x = .ref a ∧ SqT K H' a [v1, v2] ∧
    tif (((carry fr σ).set ix (some v1)).set iy (some v2)) H' fun b H2 => if b = true then te (((carry fr σ).set ix (some v1)).set iy (some v2)) H2 fun y H3 => H3 D = some (.lst ys) ∧ ∃ m', m' < m ∧ W (i + 1) m' (ys ++ [y]) (upd H3 D (.lst (ys ++ [y])))
      else ∃ m', m' < m ∧ W (i + 1) m' ys H2))
section
variable {X : Cx} {elt iter : Expr} {x y : Str} {px py tp pos : Pos} {tk : Nat} {ifs : List Expr} {scope : Scope} {wi : TI} {fr : List (Option Nat)} {ix iy : Nat} {tif : TT} {te : TE} {N : List Str}
theorem comp_block2 {pins : List (Addr × Obj)} {σ : St} {H2 : Hp} {s2 : Shared} {Q : VK} {it : Addr} {fp : List Addr} {tn : Nat → Heap → Prop} {J : It} {cl : List (Str × Addr)} {E : Value → Shared → Prop} {RR : Value → Addr → Result → Shared → Prop}
    (S : CompScope scope N x ix) (S2 : CompScope scope N y iy) (hxy : ix ≠ iy) (hcalm : X.calm = true) (hfr : frOk N X.N scope X.env.scope fr 0 = true) (hlen : fr.length = N.length)
    (hif : ∀ cl C s₀ H₀ fp, PIf (cxComp X scope cl N C s₀ H₀ fp) ifs tif) (he : ∀ cl C s₀ H₀ fp, PE (cxComp X scope cl N C s₀ H₀ fp) elt te)
    (I2 : Inv X pins σ H2 s2) (T : Turn X.prog X.w X.K (tg2 x y px py tk tp) J fp it tn) (st2 : tn 0 s2.heap) (f2 : ∀ b ∈ fp, FpOk X pins H2 b)
    (c1 : ∀ x c, cl.lookup x = some c → X.env.cells.lookup x = some c) (c2 : ∀ x ∈ scope.names, x.2 = NameKind.free → ∃ c, cl.lookup x.1 = some c)
    (W : ∀ D, H2 D = none → ∃ W : Nat → Nat → List V → Hp → Prop, (∃ m, W 0 m [] (upd H2 D (.lst []))) ∧
      ∀ i m ys H, W i m ys H → H D = some (.lst ys) ∧ ((J.stop i H ∧ Q (.ref D) H) ∨ (J.go i H ∧ ys.length < sizeLine ∧ ∀ x H', J.yld i H x H' → ∃ a v1 v2, x = .ref a ∧ SqT X.K H' a [v1, v2] ∧
        tif (((carry fr σ).set ix (some v1)).set iy (some v2)) H' fun b H2 => if b = true then te (((carry fr σ).set ix (some v1)).set iy (some v2)) H2 fun y H3 => H3 D = some (.lst ys) ∧ ∃ m', m' < m ∧ W (i + 1) m' (ys ++ [y]) (upd H3 D (.lst (ys ++ [y])))
          else ∃ m', m' < m ∧ W (i + 1) m' ys H2)))
    (fin : ∀ (D C : Addr) (s' : Shared) (H' : Hp) m, s'.heap.Ns C m → Q (.ref D) H' → (∀ h', Heap.SameBut C s'.heap h' → Inv X pins σ H' { s' with heap := h' }) → C ≠ D → (∀ b o, s2.heap.get? b = some o → b ≠ C) → H' C = none → s2.heap.objs.size ≤ C → RR (.ref D) C (.ok .next) s') :
    wpAny (model X.prog X.w) X.A (newList []) (fun acc s₃ => wpAny (model X.prog X.w) X.A (newFunctionEnv scope X.env.globals cl [] X.env.qual none .none (some X.env)) (fun cenv s₄ =>
      codeAny (model X.prog X.w) X.A (.compStart (.ListComp elt [⟨tg2 x y px py tk tp, iter, ifs, 0⟩] scope pos) 0 (.ref it) acc { cenv with scope := relabel scope X.env }) (RR acc cenv.locals) s₄) E s₃) E s2 := by
  refine wpAny_newObj_type (wpAny_newFunctionEnv S.cell (by intro y hy; simp at hy) (fun h₁ hns₁ hsb₁ => ?_) S.kind)
  dsimp only at hns₁ hsb₁ ⊢
  generalize hHp : s2.heap.push { cls := .type "list", dict := none, data := .seq ([] : List Value).toArray } = Hq at hns₁ hsb₁ ⊢
  have hC : Hq.objs.size = s2.heap.objs.size + 1 := by rw [← hHp, Heap.size_push]
  have hDC : s2.heap.objs.size ≠ Hq.objs.size := by rw [hC]; exact Nat.ne_of_lt (Nat.lt_succ_self _)
  have below : ∀ b, b < s2.heap.objs.size → b ≠ Hq.objs.size ∧ b ≠ s2.heap.objs.size := fun b hb => ⟨by rw [hC]; exact Nat.ne_of_lt (Nat.lt_succ_of_lt hb), Nat.ne_of_lt hb⟩
  have old : ∀ b o, s2.heap.get? b = some o → h₁.get? b = some o := fun b o e => hsb₁.extBut b o (below b (Heap.lt_size e)).1 (Heap.get?_push_of_some _ (hHp ▸ Heap.get?_push_of_some _ e))
  have hacc : h₁.get? s2.heap.objs.size = some { cls := .type "list", data := .seq ([] : List Value).toArray } := hsb₁.extBut _ _ hDC (Heap.get?_push_of_some _ (hHp ▸ Heap.get?_push_size _ rfl))
  have hD2 : H2 s2.heap.objs.size = none := I2.hok.fresh (Nat.le_refl _)
  have hC2 : H2 Hq.objs.size = none := I2.hok.fresh (by rw [hC]; exact Nat.le_succ _)
  have fpo : ∀ b ∈ fp, b < s2.heap.objs.size := fun b hb => by
    obtain ⟨o, e, _⟩ := T.obj _ _ st2 b hb
    exact Heap.lt_size e
  obtain ⟨W, ⟨m0, w0⟩, turn⟩ := W s2.heap.objs.size hD2
  have ok : (cxComp X scope cl N Hq.objs.size s2 H2 fp).Ok := by
    refine ⟨I2.ok.mod, S.kind, I2.ok.glob, I2.ok.blt, by show s2.heap.objs.size ≤ Hq.objs.size; rw [hC]; exact Nat.le_succ _, ?_, ?_, ?_, fun _ => I2.ok.hd hcalm, I2.ok.frames, .inl rfl, ?_, I2.bs, Nat.le_trans I2.ok.bsz I2.sz, ?_, ?_, I2.stack, I2.stkFree⟩
    · exact fun a b c h1 h2 => I2.ok.inj a b c (c1 _ _ h1) (c1 _ _ h2)
    · intro y hy
      obtain ⟨k, hm, rfl⟩ := relabel_kind S.cell hy
      exact c2 _ hm rfl
    · intro y c hf
      cases hf
    · intro b hb
      refine ⟨(below b (fpo b hb)).1, fun y c e => ?_⟩
      obtain ⟨_, _, _, _, f5, _⟩ := f2 b hb
      exact f5 y c (c1 _ _ e)
    · intro b o e hb
      obtain ⟨_, _, _, f4, _, _⟩ := f2 b hb
      rcases f4 with z | z
      · exact I2.ok.noex b o e z
      · exact absurd (Nat.lt_of_lt_of_le (Heap.lt_size e) (Nat.le_trans I2.ok.bsz z)) (Nat.lt_irrefl _)
    · intro b hb hs
      obtain ⟨_, f1, f3, _⟩ := f2 b hb
      rcases List.mem_cons.mp (I2.stkSub b hs) with z | z
      · exact f1 z
      · exact f3 z
  have I4 : Inv (cxComp X scope cl N Hq.objs.size s2 H2 fp) [] (carry fr σ) (upd H2 s2.heap.objs.size (.lst [])) { s2 with heap := h₁, toks := s2.toks + ([] : List (Str × Value)).length } := by
    refine ⟨ok, rfl, I2.bare, Un.laid old (Nat.le_refl _) hD2, ⟨_, hns₁, fun i y v h1 h2 h3 => ?_⟩, fun y c e => ?_, ?_, fun y c e => ?_, fun p hp => (by cases hp), I2.hok.laid old (Nat.le_refl _) ⟨Nat.zero_le _, [], 0, .nil, hacc⟩, ?_⟩
    · obtain ⟨j, e1, e2⟩ := carry_get h2
      obtain ⟨n, n1, n2, n3, n4⟩ := frOk_get hfr e1
      rw [Nat.zero_add] at n1
      have : y = n := by
        have h1' : N[i]? = some y := h1
        rw [h1'] at n1; exact Option.some.inj n1
      subst this
      obtain ⟨m, hn, hl⟩ := I2.loc
      obtain ⟨u, ru, lk⟩ := hl j y v n2 e2 (.inr (.inl n4))
      refine ⟨u, ru, ?_⟩
      obtain ⟨c, hc⟩ := c2 _ (lookup_mem n3) rfl
      rcases lk with ⟨k1, _⟩ | ⟨_, c', hc', hcell⟩
      · have k1' : X.env.scope.names.lookup y = some .local := k1
        rw [n4] at k1'; cases k1'
      · have := c1 _ _ hc
        rw [hc'] at this; cases this
        refine .inr ⟨?_, c, hc, hcell.keeps old⟩
        rcases h3 with z | z | z
        · obtain ⟨k, hm⟩ : ∃ k, (y, k) ∈ scope.names ∧ k = NameKind.local := by
            have hm := lookup_mem z
            have hm' : (y, NameKind.local) ∈ (relabel scope X.env).names := hm
            unfold relabel at hm'
            obtain ⟨⟨m', k⟩, hy, e⟩ := List.mem_map.mp hm'
            dsimp only at e
            by_cases hcond : (k == NameKind.free && X.env.scope.kind == .function && X.env.kindOf m' == some .cell) = true
            · rw [if_pos hcond] at e; injection e with _ e2'; cases e2'
            · rw [if_neg hcond] at e; injection e with e1' e2'; subst e1' e2'; exact ⟨_, hy, rfl⟩
          obtain ⟨hm, rfl⟩ := hm
          have := S.names _ hm rfl
          rw [n3] at this; cases this
        · exact .inl z
        · exact .inr z
    · obtain ⟨v, z⟩ := I2.cell y c (c1 _ _ e)
      exact ⟨v, z.keeps old⟩
    · show upd H2 s2.heap.objs.size _ Hq.objs.size = none
      rw [upd_ne (Ne.symm hDC)]; exact hC2
    · obtain ⟨v, o, ho, _⟩ := I2.cell y c (c1 _ _ e)
      rw [upd_ne (below c (Heap.lt_size ho)).2]
      exact I2.freeC y c (c1 _ _ e)
    · show (carry fr σ).length = N.length
      unfold carry
      rw [List.length_map]; exact hlen
  have fpX : ∀ (p : List (Addr × Obj)) (H' : Hp), (∀ q ∈ p, q.1 ∈ fp → False) → (∀ b ∈ fp, H' b = none) → ∀ b ∈ fp, FpOk (cxComp X scope cl N Hq.objs.size s2 H2 fp) p H' b := fun p H' hp hn b hb => by
    obtain ⟨_, f1, f3, f4, f5, _⟩ := f2 b hb
    refine ⟨hn b hb, (below b (fpo b hb)).1, fun hs => ok.exfs b hb hs, .inl hb, fun y c e => f5 y c (c1 _ _ e), fun q hq e => ?_⟩
    exact hp q hq (e ▸ hb)
  have hxv : (relabel scope X.env).names.lookup x = some .local := lookup_relabel_local S.loc
  have hyv : (relabel scope X.env).names.lookup y = some .local := lookup_relabel_local S2.loc
  have loop : ∀ s₃ : Shared, s₃ = { s2 with heap := h₁, toks := s2.toks + ([] : List (Str × Value)).length } →
      codeAny (model X.prog X.w) X.A (.compLoop (.ListComp elt [⟨tg2 x y px py tk tp, iter, ifs, 0⟩] scope pos) 0 (.ref it) (.ref s2.heap.objs.size) (compEnvC scope cl Hq.objs.size X.env)) (RR (.ref s2.heap.objs.size) Hq.objs.size) s₃ := by
    rintro s₃ rfl
    refine codeAny_compLoop_testsT (fun n s' => ∃ i ys σ' H', Inv (cxComp X scope cl N Hq.objs.size s2 H2 fp) [] σ' H' s' ∧ (∀ v w, (σ'.set ix v).set iy w = ((carry fr σ).set ix v).set iy w) ∧ tn i s'.heap ∧ (∀ b ∈ fp, H' b = none) ∧ W i n ys H') ?_ m0
      ⟨0, [], carry fr σ, _, I4, fun _ _ => rfl, T.keep _ _ _ st2 fun b _ o e => old b o e, fun b hb => by rw [upd_ne (below b (fpo b hb)).2]; exact (f2 b hb).1, w0⟩
    rintro n s3 ⟨i, ys, σ3, H3, I3, hσ, st3, fr3, w3⟩
    obtain ⟨hD3, way⟩ := turn i n ys H3 w3
    rcases way with ⟨stop, qn⟩ | ⟨go, hsz, step⟩
    · refine wpAny_mono (T.done (cxComp X scope cl N Hq.objs.size s2 H2 fp) rfl rfl rfl hcalm i [] s3 σ3 H3 (fun _ _ => False) I3 (fpX [] H3 (fun _ z => by cases z) fr3) st3 stop) (fun r s4 ⟨hr, I5⟩ => ?_) fun _ _ z => z.elim
      subst hr
      obtain ⟨m, hn, _⟩ := id I5.loc
      refine fin _ _ s4 H3 m hn qn (fun h' hs' => ?_) (Ne.symm hDC) (fun b o e => (below b (Heap.lt_size e)).1) I5.free (by rw [hC]; exact Nat.le_succ _)
      have nC : ∀ b u, H3 b = some u → b ≠ Hq.objs.size := fun b u e z => by
        have := I5.free
        rw [show (cxComp X scope cl N Hq.objs.size s2 H2 fp).env.locals = Hq.objs.size from rfl, ← z, e] at this
        cases this
      have keepU : Un (frs X.stack) fp H2 H3 s2.heap h' := by
        have u := I5.base
        refine ⟨fun b o e n hb hx => ?_, fun b o e n hb hx => ?_, fun b o e n hx => u.free b o e n hx, fun b o e hx => ?_, u.tups, u.frzs, u.tbls⟩
        · exact (hs'.2 b (below b (Heap.lt_size e)).1).trans (u.keep b o e n hb hx)
        · obtain ⟨sl, e1⟩ := u.slot b o e n hb hx
          exact ⟨sl, (hs'.2 b (below b (Heap.lt_size e)).1).trans e1⟩
        · obtain ⟨o', e1⟩ := u.there b o e hx
          exact ⟨o', (hs'.2 b (below b (Heap.lt_size e)).1).trans e1⟩
      have hok' : HOk X.prog X.w H3 h' := fun b u e => (I5.hok b u e).stay (fun c v hc q => (hs'.2 c (by
        rcases hc with rfl | hc
        · exact nC _ _ e
        · exact nC _ _ hc)).trans q) (fun _ q => q) fun _ _ q => q
      refine I2.call' (s' := { s4 with heap := h' }) (ch := fp) I5.os keepU hok' I5.bare fun b hb => ?_
      obtain ⟨_, f1, _, f4, f5, f6⟩ := f2 b hb
      exact ⟨f4, f1, f5, f6⟩
    · refine wpAny_mono (T.item (cxComp X scope cl N Hq.objs.size s2 H2 fp) rfl rfl rfl hcalm i [] s3 σ3 H3 (fun _ _ => False) I3 (fpX [] H3 (fun _ z => by cases z) fr3) st3 go) (fun r s4 ⟨u, hr, h4⟩ => ?_) fun _ _ z => z.elim
      subst hr
      show wpAny (model X.prog X.w) X.A (letOwnedTupleGo (tg2 x y px py tk tp) (.ref it) u >>= fun _ => assign (tg2 x y px py tk tp) (compEnvC scope cl Hq.objs.size X.env) u) _ _ s4
      refine wpAny_bind (wpAny_mono h4 (fun _ s5 ⟨xv, H5, I5, r5, y5, st5, fr5⟩ => ?_) fun _ _ z => z.elim)
      have I5' := I5.pinned (fpX [] H5 (fun _ z => by cases z) fr5) (T.obj _ _ st5)
      obtain ⟨ta, v1, v2, rfl, hsq, step5⟩ := step xv H5 y5
      have pg : PG (cxComp X scope cl N Hq.objs.size s2 H2 fp) (tg2 x y px py tk tp) (gTup X.K 2 (gCons (gName ix) (gCons (gName iy) gNil))) :=
        pg_tup (X := cxComp X scope cl N Hq.objs.size s2 H2 fp) hcalm (pgs_cons (pg_name (X := cxComp X scope cl N Hq.objs.size s2 H2 fp) S.nd S.at_ (.inl hxv) (.inr hxv)) (pgs_cons (pg_name (X := cxComp X scope cl N Hq.objs.size s2 H2 fp) S2.nd S2.at_ (.inl hyv) (.inr hyv)) pgs_nil))
      refine wpAny_mono (pg _ s5 σ3 H5 (.ref ta) u (fun σ6 H6 => σ6 = (σ3.set ix (some v1)).set iy (some v2) ∧ H6 = H5) I5' r5 ⟨ta, [v1, v2], rfl, hsq, rfl, v1, [v2], rfl, v2, [], rfl, rfl, rfl, rfl⟩) (fun _ s6 ⟨σ6, H6, I6, e6, e6'⟩ => ?_) fun _ _ z => z.elim
      subst e6 e6'
      rw [hσ] at I6
      refine wpAny_mono (hif _ _ _ _ _ _ s6 _ H6 _ I6 step5) (fun b s7 ⟨H7, I7, q7⟩ => ?_) fun _ _ z => z.elim
      have again : ∀ {s8 : Shared} {H8 : Hp} {k : Nat} {zs : List V}, Inv (cxComp X scope cl N Hq.objs.size s2 H2 fp) ([] ++ pinsAt fp s5.heap) (((carry fr σ).set ix (some v1)).set iy (some v2)) H8 s8 → W (i + 1) k zs H8 → k < n →
          ∃ m, m < n ∧ ∃ i ys σ' H', Inv (cxComp X scope cl N Hq.objs.size s2 H2 fp) [] σ' H' s8 ∧ (∀ v w, (σ'.set ix v).set iy w = ((carry fr σ).set ix v).set iy w) ∧ tn i s8.heap ∧ (∀ b ∈ fp, H' b = none) ∧ W i m ys H' := fun {s8 H8 k zs} I8 w8 hk => by
        refine ⟨k, hk, i + 1, zs, _, H8, I8.unpinned, fun v w => set_two hxy _ _ _ _ _, T.keep _ _ _ st5 fun b hb o e => (I8.pin (b, o) (List.mem_append_right _ (List.mem_append_right _ (mem_pinsAt hb e)))).1, fun b hb => ?_, w8⟩
        obtain ⟨o, e, d⟩ := T.obj _ _ st5 b hb
        exact (I8.pin (b, o) (List.mem_append_right _ (List.mem_append_right _ (mem_pinsAt hb e)))).2.1
      cases b with
      | false =>
        rw [if_neg Bool.false_ne_true] at q7 ⊢
        obtain ⟨k, hk, w7⟩ := q7
        exact again I7 w7 hk
      | true =>
        rw [if_pos rfl] at q7 ⊢
        refine wpAny_mono (he _ _ _ _ _ _ s7 _ H7 _ I7 q7) (fun yv s8 ⟨y, H8, I8, r8, hD8, k, hk, w8⟩ => ?_) fun _ _ z => z.elim
        refine wpAny_mono (mt_append (X := cxComp X scope cl N Hq.objs.size s2 H2 fp) _ s8 _ H8 (.ref s2.heap.objs.size) [y] (.ref s2.heap.objs.size) [yv] (fun _ H9 => H9 = upd H8 s2.heap.objs.size (.lst (ys ++ [y]))) I8 rfl (.cons r8 .nil) ⟨_, ys, y, rfl, rfl, hD8, hsz, rfl⟩) (fun _ s9 ⟨_, H9, I9, _, e9⟩ => ?_) fun _ _ z => z.elim
        subst e9
        exact again I9 w8 hk
  exact codeAny_compStart_list (loop _ rfl) (T.self X.A 0 _ _ _ (T.keep _ _ _ st2 fun b _ o e => old b o e) (loop _ rfl))
theorem pe_comp2 (S : CompScope scope N x ix) (S2 : CompScope scope N y iy) (hxy : ix ≠ iy) (hcalm : X.calm = true) (hfr : frOk N X.N scope X.env.scope fr 0 = true) (hlen : fr.length = N.length) (hfree : ∀ y ∈ scope.names, y.2 = .free → X.env.scope.names.lookup y.1 = some .cell ∨ X.env.scope.names.lookup y.1 = some .free)
    (hi : PI X (tg2 x y px py tk tp) iter wi) (hif : ∀ cl C s₀ H₀ fp, PIf (cxComp X scope cl N C s₀ H₀ fp) ifs tif) (he : ∀ cl C s₀ H₀ fp, PE (cxComp X scope cl N C s₀ H₀ fp) elt te)
    (hs : ∀ x, foldedSetIterable iter X.env x = pure x := by intro _; rfl) : PE X (.ListComp elt [⟨tg2 x y px py tk tp, iter, ifs, 0⟩] scope pos) (tComp2 X.K wi fr ix iy tif te) := by
  intro pins s σ H Q I hw
  obtain ⟨cl, hclos, c1, _, c2⟩ := closure_of (env := X.env) scope.names [] (fun y hy hf => I.ok.has y.1 (hfree y hy hf)) (fun y c z => by cases z)
  have hclos' : closureFor scope X.env = pure cl := by
    have e : closureFor scope X.env = ((forIn scope.names [] (fun (x : Str × NameKind) (r : List (Str × Addr)) => do if (x.2 == NameKind.free) = true then do let a ← cellOf X.env x.1; pure (ForInStep.yield ((x.1, a) :: r)) else pure (ForInStep.yield r)) : Sem (List (Str × Addr))) >>= fun cs => pure cs) := rfl
    rw [e, hclos]
    rfl
  rw [eval_ListComp]
  refine wpAny_comprehension_free (use := none) rfl hs hclos' S.kind S.names (thn (hi pins s σ H _ I hw) fun v s1 h1 => thn h1 fun itv s2 h2 => ?_)
  obtain ⟨it, fp, tn, J, H2, e, I2, T, st2, f2, W⟩ := h2
  subst e
  refine comp_block2 (RR := fun acc C => compPost (model X.prog X.w) X.A X.xe none (EP X pins σ Q) acc C) S S2 hxy hcalm hfr hlen hif he I2 T st2 f2 c1 c2 W ?_
  intro D C s' H' m hn q hI _ _ _ _
  exact ⟨m, hn, fun h' hs' => ⟨.ref D, H', hI h' hs', rfl, q⟩⟩
end
section
variable {X : Cx} {elt iter : Expr} {x y : Str} {px py tp pos : Pos} {tk : Nat} {ifs : List Expr} {scope : Scope} {wi : TI} {tif : TT} {te : TE}
theorem pe_compr2 (N : List Str) (ix iy : Nat) (fr : List (Option Nat)) (hi : PI X (tg2 x y px py tk tp) iter wi) (hif : ∀ cl C s₀ H₀ fp, PIf (cxComp X scope cl N C s₀ H₀ fp) ifs tif) (he : ∀ cl C s₀ H₀ fp, PE (cxComp X scope cl N C s₀ H₀ fp) elt te)
    (h1 : compScopeOk scope N x ix = true := by decide +kernel) (h1' : compScopeOk scope N y iy = true := by decide +kernel) (hxy : ix ≠ iy := by decide) (h2 : X.calm = true := by rfl) (h3 : frOk N X.N scope X.env.scope fr 0 = true := by rfl) (h4 : fr.length = N.length := by rfl) (h5 : freeOk X.env.scope scope.names = true := by rfl)
    (hs : ∀ x, foldedSetIterable iter X.env x = pure x := by intro _; rfl) : PE X (.ListComp elt [⟨.Tuple [.Name x px, .Name y py] tk tp, iter, ifs, 0⟩] scope pos) (tComp2 X.K wi fr ix iy tif te) :=
  pe_comp2 (compScope_of h1) (compScope_of h1') hxy h2 h3 h4 (freeOk_of h5) hi hif he hs
end
theorem comp_by2 {K : PySem.W.Frag} {J : It} {n : Nat} {D : Addr} {H1 : Hp} {fr : List (Option Nat)} {σ : St} {ix iy : Nat} {tif : TT} {te : TE} {G : Hp → Prop} (Pv : Nat → List V → Hp → Prop) (h0 : Pv 0 [] (upd H1 D (.lst [])))
    (hgo : ∀ i ys H, i < n → Pv i ys H → H D = some (.lst ys) → J.go i H ∧ ys.length < sizeLine ∧ ∀ x H', J.yld i H x H' → ∃ a v1 v2, x = .ref a ∧ SqT K H' a [v1, v2] ∧
      tif (((carry fr σ).set ix (some v1)).set iy (some v2)) H' fun b H2 => if b = true then te (((carry fr σ).set ix (some v1)).set iy (some v2)) H2 fun y H3 => H3 D = some (.lst ys) ∧ ∃ m', m' < n - i ∧ CW Pv n D (i + 1) m' (ys ++ [y]) (upd H3 D (.lst (ys ++ [y])))
        else ∃ m', m' < n - i ∧ CW Pv n D (i + 1) m' ys H2)
    (hstop : ∀ ys H, Pv n ys H → H D = some (.lst ys) → J.stop n H ∧ G H) :
    ∃ W : Nat → Nat → List V → Hp → Prop, (∃ m, W 0 m [] (upd H1 D (.lst []))) ∧
      ∀ i m ys H, W i m ys H → H D = some (.lst ys) ∧ ((J.stop i H ∧ G H) ∨ (J.go i H ∧ ys.length < sizeLine ∧ ∀ x H', J.yld i H x H' → ∃ a v1 v2, x = .ref a ∧ SqT K H' a [v1, v2] ∧
        tif (((carry fr σ).set ix (some v1)).set iy (some v2)) H' fun b H2 => if b = true then te (((carry fr σ).set ix (some v1)).set iy (some v2)) H2 fun y H3 => H3 D = some (.lst ys) ∧ ∃ m', m' < m ∧ W (i + 1) m' (ys ++ [y]) (upd H3 D (.lst (ys ++ [y])))
          else ∃ m', m' < m ∧ W (i + 1) m' ys H2)) := by
  refine ⟨CW Pv n D, ⟨n, by simp, Nat.zero_le _, upd_same, h0⟩, ?_⟩
  rintro i m ys H ⟨rfl, hi, hH, p⟩
  refine ⟨hH, ?_⟩
  by_cases hlt : i < n
  · exact .inr (hgo i ys H hlt p hH)
  · have : i = n := by omega
    subst this
    exact .inl (hstop ys H p hH)
section
variable {X : Cx} {scope : Scope} {cl : List (Str × Addr)} {N : List Str} {C : Addr} {s₀ : Shared} {H₀ : Hp} {fp : List Addr}
theorem pe_sortRC {e : Expr} {t : TA} {p pos kp kp2 : Pos} {j} (hu : X.A.units + 64 < cLine) (hg : Gl (cxComp X scope cl N C s₀ H₀ fp) "sorted") (hm : X.mg "sorted" = none) (ha : PA (cxComp X scope cl N C s₀ H₀ fp) [e] t)
    (he : backTo pos (starEach [e] (cxComp X scope cl N C s₀ H₀ fp).env) = (false, eval e (cxComp X scope cl N C s₀ H₀ fp).env) :: backTo pos (starEach [] (cxComp X scope cl N C s₀ H₀ fp).env) := by rfl) (hplain : (backTo pos (starEach [e] (cxComp X scope cl N C s₀ H₀ fp).env)).any (·.1) = false := by rfl) :
    PE (cxComp X scope cl N C s₀ H₀ fp) (.Call (.Name "sorted" p) [e] [⟨some "reverse", .Constant (.bool true) j kp2, kp⟩] pos) (fun σ H Q => t σ H fun vs H1 => rSortR X.K vs H1 Q) := pe_sortR (X := cxComp X scope cl N C s₀ H₀ fp) hu hg hm ha he hplain
end
end L2
set_option Elab.async false
set_option linter.all false
set_option maxRecDepth 100000
set_option maxHeartbeats 4000000
namespace Q13
open PySem L2
def top (i : Nat) : Stmt := PySem.Challenge.pw_stepgrove_k13_cuts.main.body.getD i (.Pass ⟨0, 0, 0, 0⟩)
abbrev s_is_tree : Stmt := top 4
abbrev s_refuse_no_tree : Stmt := top 5
abbrev s_in_falling_order : Stmt := top 6
abbrev s_tree_cuts : Stmt := top 8
abbrev s_cuts_within : Stmt := top 9
abbrev s__law_cell_at : Stmt := top 11
abbrev s__law_mixed : Stmt := top 12
abbrev s__law_rest : Stmt := top 13
abbrev s__law_parents : Stmt := top 14
abbrev s__law_grown : Stmt := top 15
abbrev s__law_above : Stmt := top 16
abbrev s__law_part : Stmt := top 17
abbrev s__law_due : Stmt := top 18
abbrev s__law_good : Stmt := top 19
abbrev s_law : Stmt := top 20
theorem nnt {n : String} : clsV (.ty n) ≠ .none := fun z => nomatch z
theorem mulC {i j : Int} (h1 : -18446744073709551616 < j) (h2 : j < 18446744073709551616) : CMul i j ∨ CMulW i j := .inl (.inr ⟨h1, h2⟩)
def spIsTree (n : Nat) : Sp := fun vs H Q _ => ∃ v t, vs = [v] ∧ Tv H t v ∧ t.deep < n ∧ n ≤ 60 ∧ ∀ H', Same H H' → Q (.bl t.fall) H'
def spRefuse : Sp := fun vs H Q _ => ∃ v t, vs = [v] ∧ Tv H t v ∧ t.deep < 8 ∧ t.fall = true ∧ ∀ H', Same H H' → Q .non H'
theorem never_ok {P : Program} {w : World} {K : PySem.W.Frag} {mg : Str → Option Value} {base : Heap} {CX : CXT} {k : Nat} {f : Addr} {fd : FuncData} {ps : List Str} {sp : Sp} (h : ∀ vs H Q E, ¬ sp vs H Q E) : FnOk P w K mg base CX k f fd ps sp :=
  ⟨fun _ _ _ _ z => (h _ _ _ _ z).elim, fun _ _ _ _ _ _ _ _ _ _ _ _ _ z => (h _ _ _ _ z).elim⟩
section
variable {P : Program} {w : World} {K : PySem.W.Frag} {mg : Str → Option Value} {base : Heap} {f g g1 g2 g3 g4 : Addr} {fd gd gd1 gd2 gd3 gd4 : FuncData}
theorem sc_is_tree : FnScope ["thing", "k", "bough"] ["thing"] (defScope s_is_tree) := ⟨rfl, rfl, rfl, by decide +kernel, rfl, by decide +kernel, by decide +kernel⟩
theorem ok_is_tree (T_is_tree : Fn K mg "is_tree" s_is_tree ["thing"] f fd) (z_isinstance : mg "isinstance" = none) (z_tuple : mg "tuple" = none) (z_enumerate : mg "enumerate" = none) :
    ∀ n, FnOk P w K mg base CX0 n f fd ["thing"] (spIsTree n)
  | 0 => never_ok fun _ _ _ _ ⟨_, _, _, _, h, _⟩ => absurd h (Nat.not_lt_zero _)
  | n + 1 => by
    have sc := sc_is_tree
    have G_is_tree := ok_is_tree T_is_tree z_isinstance z_tuple z_enumerate n
    refine T_is_tree.F.ok (k := n) sc (fun vs H Q E h => ?_) (fun cdv A outer s H vs Q E hr h => ?_)
    · obtain ⟨v, t, rfl, _⟩ := h
      rfl
    obtain ⟨v, t, rfl, ⟨a, xs, rfl, ha, ht⟩, hd, hn, q⟩ := h
    refine ⟨_, (pss_cons (ps_if (pt_not (pt_val (pe_callB call_isi rfl z_isinstance PyProof.Rows.boot_isinstance (pa_cons (pv 0) (pa_cons (pe_bltn (v := .ty "tuple") rfl z_tuple PyProof.Rows.boot_tuple rfl) pa_nil)))))
    (pss_one (ps_ret pe_bl))
    pss_nil)
  (pss_cons (ps_for PassesOwn.never rfl (pi_enum rfl z_enumerate (pa_cons (pv 0) pa_nil)) (pg_tup rfl (pgs_cons (pg_name (i := 1) sc.nd rfl (Or.inl rfl)) (pgs_cons (pg_name (i := 2) sc.nd rfl (Or.inl rfl)) pgs_nil)))
    (pss_cons (ps_if (PW.pt (pw_and (pt_cmpR op_gt (pv 1) pe_int (nomark _)) (pw_and1 (pt_cmpR (op_eqTr (by have := hr.units; exact this)) (pv 2) (pe_ix ix_tup (pv 0) (pe_op op_sub (pv 1) pe_int) (fun _ _ => rfl)) (nomark _)))))
      (pss_one ps_continue)
      pss_nil)
    (pss_one (ps_if (PW.pt (pw_or (pt_not (pt_val (pe_fn T_is_tree G_is_tree hr rfl (pa_cons (pv 2) pa_nil)))) (pw_or1 (PW.pt (pw_and (pt_cmpR op_gt (pv 1) pe_int (nomark _)) (pw_and1 (pt_cmpR (op_gtTr (by have := hr.units; exact this)) (pv 2) (pe_ix ix_tup (pv 0) (pe_op op_sub (pv 1) pe_int) (fun _ _ => rfl)) (nomark _))))))))
      (pss_one (ps_ret pe_bl))
      pss_nil))))
  (pss_one (ps_ret pe_bl)))), ?_⟩
    refine ⟨_, rfl, _, _, _, _, rfl, nnt, TyOf.tup ha, kit_tt K, _, rfl, iteF ?_⟩
    have hlen := ht.len
    refine ⟨_, rfl, a, rfl, ⟨_, SqT.of ha⟩, for_enum (xs := xs) (fun i σ H' => ∃ r1 r2, σ = [some (.ref a), r1, r2] ∧ Same H H' ∧ (∀ j c, j < i → t.bs[j]? = some c → c.fall = true) ∧ ∀ (j : Nat) (b c : Tr), j + 1 < i → t.bs[j]? = some b → t.bs[j + 1]? = some c → Tr.lt b c = false) ?_ ?_ ?_ ?_⟩
    · exact ⟨_, _, rfl, Same.refl _, fun j c h => absurd h (Nat.not_lt_zero _), fun j b c h => absurd h (Nat.not_lt_zero _)⟩
    · rintro i σ H' _ ⟨r1, r2, rfl, e, _⟩
      exact SqT.of (e _ _ ha)
    · rintro i x σ H0 hx ⟨r1, r2, rfl, e0, hf, hl⟩ p hp
      obtain ⟨c, hc, tc⟩ := ht.get hx
      have hcm : c ∈ t.bs := List.mem_of_getElem? hc
      have hcd := Tr.deep_mem hcm
      have s1 := same_new hp (.tup [.int (i : Nat), x])
      have e1 := e0.trans s1
      refine ⟨p, _, rfl, SqT.of upd_same, rfl, _, _, rfl, _, _, rfl, rfl, ?_⟩
      have at1 := e1.tup (SqT.of (K := K) ha)
      have tc1 := tc.same e1
      have next : ∀ (H' : Hp), Same (upd H0 p (.tup [.int (i : Nat), x])) H' → c.fall = true → (∀ (b : Tr), 0 < i → t.bs[i - 1]? = some b → Tr.lt b c = false) →
          ∃ r1 r2, [some (V.ref a), some (V.int (i : Nat)), some x] = [some (.ref a), r1, r2] ∧ Same H H' ∧ (∀ j c, j < i + 1 → t.bs[j]? = some c → c.fall = true) ∧ ∀ (j : Nat) (b c : Tr), j + 1 < i + 1 → t.bs[j]? = some b → t.bs[j + 1]? = some c → Tr.lt b c = false := fun H' e' h1 h2 => by
        refine ⟨_, _, rfl, e1.trans e', fun j d hj hjd => ?_, fun j b d hj hb hjd => ?_⟩
        · by_cases z : j = i
          · subst z; rw [hc] at hjd; cases hjd; exact h1
          · exact hf j d (by omega) hjd
        · by_cases z : j + 1 = i
          · subst z
            rw [hc] at hjd; cases hjd
            exact h2 b (by omega) (by simpa using hb)
          · exact hl j b d (by omega) hb hjd
      have fin : ∀ (H' : Hp), Same (upd H0 p (.tup [.int (i : Nat), x])) H' → (c.fall = false ∨ ∃ b, 0 < i ∧ t.bs[i - 1]? = some b ∧ Tr.lt b c = true) → Q (.bl false) H' := fun H' e' h => by
        have hfalse : t.fall = false := by
          refine Bool.eq_false_iff.mpr fun z => ?_
          obtain ⟨z1, z2⟩ := (Tr.fall_iff t).mp z
          rcases h with h | ⟨b, hi, hb, h⟩
          · rw [z1 c hcm] at h; cases h
          · rw [z2 (i - 1) b c hb (by rw [show i - 1 + 1 = i by omega]; exact hc)] at h; cases h
        have := q H' (e1.trans e')
        rw [hfalse] at this
        exact this
      have ahead : 0 < i → ∃ y b, atI xs ((i : Int) - 1) = some y ∧ t.bs[i - 1]? = some b ∧ Tv H b y ∧ b.deep < t.deep := fun hi => by
        have hi2 : i - 1 < xs.length := by
          have := (List.getElem?_eq_some_iff.mp hx).1
          omega
        obtain ⟨b, hb, tb⟩ := ht.get (i := i - 1) (v := xs[i - 1]) (by simp [hi2])
        refine ⟨xs[i - 1], b, ?_, hb, tb, Tr.deep_mem (List.mem_of_getElem? hb)⟩
        have := atI_nat (xs := xs) (j := i - 1) (v := xs[i - 1]) (by simp [hi2])
        rwa [show (((i - 1 : Nat)) : Int) = (i : Int) - 1 by omega] at this
      have body2 : ∀ (nx : St → Hp → Prop), (∀ H', Same (upd H0 p (.tup [.int (i : Nat), x])) H' → c.fall = true → (∀ (b : Tr), 0 < i → t.bs[i - 1]? = some b → Tr.lt b c = false) → nx [some (.ref a), some (.int (i : Nat)), some x] H') → True := fun _ _ => trivial
      refine ⟨_, rfl, _, _, rfl, rfl, _, rfl, ite2 (fun hk => ?_) (fun hk => ?_)⟩
      · have hi : 0 < i := by have := of_decide_eq_true hk; omega
        obtain ⟨y, b, hat, hb, tb, hbd⟩ := ahead hi
        refine ⟨_, rfl, _, rfl, _, rfl, _, _, rfl, rfl, _, _, _, _, rfl, rfl, at1, hat, c, b, tc1, tb.same e1, by omega, _, rfl, ite2 (fun hcb => ?_) (fun hcb => ?_)⟩
        · have ecb : c = b := by simpa using hcb
          refine next _ (Same.refl _) ?_ fun b' _ hb' => ?_
          · rw [ecb]; exact hf (i - 1) b (by omega) hb
          · rw [hb] at hb'; cases hb'
            rw [ecb]; exact Tr.lt_irrefl _
        · refine ⟨_, rfl, _, c, rfl, tc1, by omega, by omega, fun H2 e2 => ⟨_, rfl, ite2 (fun hcf => ?_) (fun hcf => ?_)⟩⟩
          · exact fin H2 e2 (.inl (by simpa using hcf))
          · have hcf' : c.fall = true := by simpa using hcf
            refine ⟨_, rfl, _, _, rfl, rfl, _, rfl, ite2 (fun _ => ?_) (fun hk' => absurd hk hk')⟩
            refine ⟨_, rfl, _, rfl, _, rfl, _, _, rfl, rfl, _, _, _, _, rfl, rfl, e2.tup at1, hat, c, b, tc1.same e2, (tb.same e1).same e2, by omega, _, rfl, ite2 (fun hlt => ?_) (fun hlt => ?_)⟩
            · exact fin H2 e2 (.inr ⟨b, hi, hb, hlt⟩)
            · refine next H2 e2 hcf' fun b' _ hb' => ?_
              rw [hb] at hb'; cases hb'
              simpa using hlt
      · have hi : ¬ 0 < i := fun z => hk (decide_eq_true (by omega))
        refine iteF ?_
        refine ⟨_, rfl, _, c, rfl, tc1, by omega, by omega, fun H2 e2 => ⟨_, rfl, ite2 (fun hcf => ?_) (fun hcf => ?_)⟩⟩
        · exact fin H2 e2 (.inl (by simpa using hcf))
        · have hcf' : c.fall = true := by simpa using hcf
          refine ⟨_, rfl, _, _, rfl, rfl, _, rfl, ite2 (fun hk' => absurd hk' hk) (fun _ => iteF ?_)⟩
          exact next H2 e2 hcf' fun b' h _ => absurd h hi
    · rintro σ H' ⟨r1, r2, rfl, e, hf, hl⟩
      have htrue : t.fall = true := (Tr.fall_iff t).mpr ⟨fun c hc => by
        obtain ⟨j, hj, rfl⟩ := List.getElem_of_mem hc
        exact hf j _ (by omega) (List.getElem?_eq_getElem hj), fun j b c hb hc => hl j b c (by
          have := (List.getElem?_eq_some_iff.mp hc).1
          omega) hb hc⟩
      have := q H' e
      rw [htrue] at this
      exact this
theorem sc_refuse_no_tree : FnScope ["thing"] ["thing"] (defScope s_refuse_no_tree) := ⟨rfl, rfl, rfl, by decide +kernel, rfl, by decide +kernel, by decide +kernel⟩
theorem ok_refuse_no_tree (F : Fn K mg "refuse_no_tree" s_refuse_no_tree ["thing"] f fd) (T_is_tree : Fn K mg "is_tree" s_is_tree ["thing"] g gd) (G_is_tree : FnOk P w K mg base CX0 8 g gd ["thing"] (spIsTree 8)) :
    FnOk P w K mg base CX0 9 f fd ["thing"] spRefuse := by
  have sc := sc_refuse_no_tree
  refine F.F.ok (k := 8) sc (fun vs H Q E h => ?_) (fun cdv A outer s H vs Q E hr h => ?_)
  · obtain ⟨v, t, rfl, _⟩ := h
    rfl
  obtain ⟨v, t, rfl, tv, hd, hf, q⟩ := h
  refine ⟨_, (pss_one (ps_if (pt_not (pt_val (pe_fn T_is_tree G_is_tree hr rfl (pa_cons (pv 0) pa_nil))))
    (pss_one ps_never)
    pss_nil)), ?_⟩
  refine ⟨_, rfl, v, t, rfl, tv, hd, by decide, fun H' e => ⟨_, rfl, ite2 (fun z => ?_) (fun _ => q H' e)⟩⟩
  rw [hf] at z
  cases z
end
def spCell (K : PySem.W.Frag) : Sp := fun vs H Q _ => ∃ (a : Addr) (ns : List Int) (k : Int), vs = [.ref a, .int k] ∧ SqL K H a (ns.map V.int) ∧ 0 ≤ k ∧ ∀ c : Int, Q (.int c) H
def spMixT : Sp := fun vs H Q _ => ∃ c k, vs = [.int c, .int k] ∧ ∀ r : Int, 0 ≤ r → r < 2147483587 → Q (.int r) H
def natV (ps : List Nat) : List V := ps.map fun p => V.int (p : Nat)
def spParents : Sp := fun vs H Q _ => ∃ r most : Int, vs = [.int r, .int most] ∧ 1 ≤ most ∧ most ≤ 7 ∧ ∀ (l : Addr) (H' : Hp) (ps : List Nat), Same H H' → Tr.PsOk ps → (ps.length : Int) ≤ most → H' l = some (.lst (natV ps)) → Q (.ref l) H'
def spGrown (K : PySem.W.Frag) : Sp := fun vs H Q _ => ∃ (a : Addr) (ps : List Nat), vs = [.ref a] ∧ SqL K H a (natV ps) ∧ Tr.PsOk ps ∧ ps.length ≤ 7 ∧ ∀ (v : V) (H' : Hp), Same H H' → Tv H' (Tr.grown ps) v → Q v H'
theorem natV_len (ps : List Nat) : (natV ps).length = ps.length := List.length_map _
theorem natV_get {ps : List Nat} {k p : Nat} (h : ps[k]? = some p) : (natV ps)[k]? = some (.int (p : Nat)) := by
  unfold natV; rw [List.getElem?_map, h]; rfl
theorem size8 {n : Nat} (h : n < 64) : n < sizeLine := Nat.lt_of_lt_of_le h (by rw [sizeLine_eq]; decide)
section
variable {P : Program} {w : World} {K : PySem.W.Frag} {mg : Str → Option Value} {base : Heap} {f g g1 g2 g3 g4 : Addr} {fd gd gd1 gd2 gd3 gd4 : FuncData}
theorem sc__law_cell_at : FnScope ["_law_script", "_law_k"] ["_law_script", "_law_k"] (defScope s__law_cell_at) := ⟨rfl, rfl, rfl, by decide +kernel, rfl, by decide +kernel, by decide +kernel⟩
theorem ok__law_cell_at (F : Fn K mg "_law_cell_at" s__law_cell_at ["_law_script", "_law_k"] f fd) (z_len : mg "len" = none) : FnOk P w K mg base CX0 1 f fd ["_law_script", "_law_k"] (spCell K) := by
  have sc := sc__law_cell_at
  refine F.F.ok (k := 0) sc (fun vs H Q E h => ?_) (fun cdv A outer s H vs Q E hr h => ?_)
  · obtain ⟨a, ns, k, rfl, _⟩ := h
    rfl
  obtain ⟨a, ns, k, rfl, hS, h0, q⟩ := h
  refine ⟨_, (pss_cons (ps_if (pt_cmpR op_lt (pv 1) (pe_callB call_len_seq rfl z_len PySem.boot_len (pa_cons (pv 0) pa_nil)) (nomark _))
    (pss_one (ps_ret (pe_ix ix_list (pv 0) (pv 1) (fun _ _ => rfl))))
    pss_nil)
  (pss_one (ps_ret pe_int))), ?_⟩
  refine ⟨_, rfl, _, rfl, a, _, rfl, .inl hS, _, _, rfl, rfl, _, rfl, ite2 (fun c => ?_) (fun _ => q _)⟩
  have c' : k < (((ns.map V.int).length : Nat) : Int) := of_decide_eq_true c
  rw [List.length_map] at c'
  have hk : k.toNat < ns.length := by omega
  have hat : atI (ns.map V.int) k = some (.int ns[k.toNat]) := by
    have z := atI_nat (xs := ns.map V.int) (j := k.toNat) (v := .int ns[k.toNat]) (by rw [List.getElem?_map, List.getElem?_eq_getElem hk]; rfl)
    rwa [show ((k.toNat : Nat) : Int) = k by omega] at z
  exact ⟨_, rfl, _, rfl, a, _, _, _, rfl, rfl, hS, hat, q _⟩
theorem sc__law_mixed : FnScope ["_law_cell", "_law_k", "_law_number"] ["_law_cell", "_law_k"] (defScope s__law_mixed) := ⟨rfl, rfl, rfl, by decide +kernel, rfl, by decide +kernel, by decide +kernel⟩
theorem ok__law_mixed (F : Fn K mg "_law_mixed" s__law_mixed ["_law_cell", "_law_k"] f fd) : FnOk P w K mg base CX0 1 f fd ["_law_cell", "_law_k"] spMixT := by
  have sc := sc__law_mixed
  refine F.F.ok (k := 0) sc (fun vs H Q E h => ?_) (fun cdv A outer s H vs Q E hr h => ?_)
  · obtain ⟨a, b, rfl, _⟩ := h
    rfl
  obtain ⟨c, k, rfl, q⟩ := h
  refine ⟨_, (pss_cons (ps_set (i := 2) sc.nd rfl (Or.inl rfl) (pe_op op_mod (pe_op op_add (pe_op op_add (pe_op op_mulW (pe_op op_mod (pv 0) pe_int) pe_int) (pe_op op_mulW (pv 1) pe_int)) pe_int) pe_int))
  (pss_cons (ps_set (i := 2) sc.nd rfl (Or.inl rfl) (pe_op op_mod (pe_op op_mulW (pv 2) (pv 2)) pe_int))
  (pss_one (ps_ret (pe_op op_mod (pe_op op_mulW (pv 2) (pv 2)) pe_int))))), ?_⟩
  refine ⟨_, rfl, _, _, rfl, rfl, (by show (0 : Int) < 2147483647; decide), _, _, rfl, rfl, mulC (by decide) (by decide), _, rfl, _, _, rfl, rfl, mulC (by decide) (by decide), _, _, rfl, rfl, _, _, rfl, rfl, _, _, rfl, rfl, (by show (0 : Int) < 2147483647; decide), ?_⟩
  generalize (c % 2147483647 * 48271 + k * 69621 + 11) = z
  have z0 : 0 ≤ z % 2147483647 := Int.emod_nonneg _ (by decide)
  have z1 : z % 2147483647 < 2147483647 := Int.emod_lt_of_pos _ (by decide)
  refine ⟨_, rfl, _, rfl, _, _, rfl, rfl, mulC (by omega) (by omega), _, _, rfl, rfl, (by show (0 : Int) < 2147483629; decide), ?_⟩
  generalize (z % 2147483647 * (z % 2147483647)) = y
  have y0 : 0 ≤ y % 2147483629 := Int.emod_nonneg _ (by decide)
  have y1 : y % 2147483629 < 2147483629 := Int.emod_lt_of_pos _ (by decide)
  refine ⟨_, rfl, _, rfl, _, _, rfl, rfl, mulC (by omega) (by omega), _, _, rfl, rfl, (by show (0 : Int) < 2147483587; decide), ?_⟩
  exact q _ (Int.emod_nonneg _ (by decide)) (Int.emod_lt_of_pos _ (by decide))
theorem sc__law_rest : FnScope ["_law_script", "_law_k", "_law_cell", "_law_big"] ["_law_script", "_law_k"] (defScope s__law_rest) := ⟨rfl, rfl, rfl, by decide +kernel, rfl, by decide +kernel, by decide +kernel⟩
theorem ok__law_rest (F : Fn K mg "_law_rest" s__law_rest ["_law_script", "_law_k"] f fd) (T__law_cell_at : Fn K mg "_law_cell_at" s__law_cell_at ["_law_script", "_law_k"] g1 gd1) (T__law_mixed : Fn K mg "_law_mixed" s__law_mixed ["_law_cell", "_law_k"] g2 gd2)
    (G__law_cell_at : FnOk P w K mg base CX0 1 g1 gd1 ["_law_script", "_law_k"] (spCell K)) (G__law_mixed : FnOk P w K mg base CX0 1 g2 gd2 ["_law_cell", "_law_k"] spMixT) (z_abs : mg "abs" = none) : FnOk P w K mg base CX0 2 f fd ["_law_script", "_law_k"] (spCell K) := by
  have sc := sc__law_rest
  refine F.F.ok (k := 1) sc (fun vs H Q E h => ?_) (fun cdv A outer s H vs Q E hr h => ?_)
  · obtain ⟨a, ns, k, rfl, _⟩ := h
    rfl
  obtain ⟨a, ns, k, rfl, hS, h0, q⟩ := h
  refine ⟨_, (pss_cons (ps_set (i := 2) sc.nd rfl (Or.inl rfl) (pe_fn T__law_cell_at G__law_cell_at hr rfl (pa_cons (pv 0) (pa_cons (pv 1) pa_nil))))
  (pss_cons (ps_if (pt_cmpR op_ge (pe_callB call_abs rfl z_abs PyProof.Rows.boot_abs (pa_cons (pv 2) pa_nil)) (pe_op op_pow pe_int pe_int) (nomark _))
    (pss_one (ps_ret (pv 2)))
    pss_nil)
  (pss_cons (ps_set (i := 3) sc.nd rfl (Or.inl rfl) (pe_op op_add (pe_fn T__law_mixed G__law_mixed hr rfl (pa_cons (pv 2) (pa_cons (pv 1) pa_nil))) (pe_op op_mulW (pe_fn T__law_mixed G__law_mixed hr rfl (pa_cons (pv 2) (pa_cons (pe_op op_add (pv 1) pe_int) pa_nil))) pe_int)))
  (pss_one (ps_ret (pe_op op_add (pv 3) (pe_op op_mulW (pe_op op_mulW (pe_fn T__law_mixed G__law_mixed hr rfl (pa_cons (pv 2) (pa_cons (pe_op op_add (pv 1) pe_int) pa_nil))) pe_int) pe_int))))))), ?_⟩
  refine ⟨_, rfl, _, rfl, a, ns, k, rfl, hS, h0, fun c => ?_⟩
  refine ⟨_, rfl, _, rfl, _, _, rfl, rfl, ⟨by decide, by decide, by decide⟩, _, _, rfl, rfl, _, rfl, ite2 (fun _ => ⟨_, rfl, q _⟩) (fun _ => ?_)⟩
  refine ⟨_, rfl, _, rfl, _, _, rfl, fun r1 a1 b1 => ⟨_, rfl, _, rfl, _, _, rfl, rfl, _, _, rfl, fun r2 a2 b2 => ⟨_, _, rfl, rfl, mulC (by decide) (by decide), _, _, rfl, rfl, ?_⟩⟩⟩
  exact ⟨_, rfl, _, rfl, _, rfl, _, _, rfl, rfl, _, _, rfl, fun r3 a3 b3 => ⟨_, _, rfl, rfl, mulC (by decide) (by decide), _, _, rfl, rfl, mulC (by decide) (by decide), _, _, rfl, rfl, q _⟩⟩
theorem sc__law_parents : FnScope ["_law_rest_here", "_law_most", "_law_many", "_law_parents_here", "_law_k"] ["_law_rest_here", "_law_most"] (defScope s__law_parents) := ⟨rfl, rfl, rfl, by decide +kernel, rfl, by decide +kernel, by decide +kernel⟩
theorem ok__law_parents (F : Fn K mg "_law_parents" s__law_parents ["_law_rest_here", "_law_most"] f fd) (z_range : mg "range" = none) : FnOk P w K mg base CX0 1 f fd ["_law_rest_here", "_law_most"] spParents := by
  have sc := sc__law_parents
  refine F.F.ok (k := 0) sc (fun vs H Q E h => ?_) (fun cdv A outer s H vs Q E hr h => ?_)
  · obtain ⟨r, most, rfl, _⟩ := h
    rfl
  obtain ⟨r, most, rfl, m1, m7, q⟩ := h
  refine ⟨_, (pss_cons (ps_set (i := 2) sc.nd rfl (Or.inl rfl) (pe_op op_add pe_int (pe_op op_modN (pv 0) (pv 1))))
  (pss_cons (ps_set (i := 0) sc.nd rfl (Or.inl rfl) (pe_op op_fdivW (pv 0) (pv 1)))
  (pss_cons (ps_set (i := 3) sc.nd rfl (Or.inl rfl) (pe_lst (pa_cons pe_int pa_nil)))
  (pss_cons (ps_for PassesOwn.never rfl (pi_range2 rfl z_range (pa_cons pe_int (pa_cons (pv 2) pa_nil))) (pg_name (i := 4) sc.nd rfl (Or.inl rfl))
    (pss_cons (ps_expr (pe_bm PySem.F.plainAttrs_list PySem.F.slot_list_append PySem.F.type_list_append mt_append (pv 3) (pa_cons (pe_op op_modN (pv 0) (pv 4)) pa_nil)))
    (pss_one (ps_set (i := 0) sc.nd rfl (Or.inl rfl) (pe_op op_fdivW (pv 0) (pv 4))))))
  (pss_one (ps_ret (pv 3))))))), ?_⟩
  have f0 := Int.fmod_nonneg_of_pos r (show 0 < most by omega)
  have f1 := Int.fmod_lt_of_pos r (show 0 < most by omega)
  refine ⟨_, rfl, _, rfl, _, _, rfl, rfl, (by show most ≠ 0; omega), _, _, rfl, rfl, ?_⟩
  refine ⟨_, rfl, _, rfl, _, _, rfl, rfl, ⟨by omega, 64, by decide, by omega⟩, sz1, fun l hl => ?_⟩
  generalize hm : r.fmod most = mm at f0 f1
  refine ⟨_, rfl, 1, 1 + mm, rfl, ⟨by decide, by decide, by omega, by omega⟩, for_range (lo := 1) (n := (1 + mm - 1).toNat) (fun i σ H' => ∃ (rr : Int) (r4 : Option V) (ps : List Nat), σ = [some (.int rr), some (.int most), some (.int (1 + mm)), some (.ref l), r4] ∧ Same H H' ∧ H' l = some (.lst (natV ps)) ∧ ps.length = i + 1 ∧ ∀ k p, ps[k]? = some p → p < max k 1) ?_ ?_ ?_⟩
  · exact ⟨_, _, [0], rfl, same_new hl _, upd_same, rfl, fun k p e => by
      cases k with
      | zero => simp at e; omega
      | succ k => simp at e⟩
  · rintro i σ H0 hi ⟨rr, r4, ps, rfl, e0, hl0, hlen, hok⟩
    have k0 := Int.fmod_nonneg_of_pos rr (show 0 < (1 + (i : Int)) by omega)
    have k1 := Int.fmod_lt_of_pos rr (show 0 < (1 + (i : Int)) by omega)
    refine ⟨_, rfl, .inl ⟨rfl, _, SqL.of hl0⟩, _, rfl, _, rfl, _, _, rfl, rfl, (by show (1 + (i : Int)) ≠ 0; omega), l, _, _, rfl, rfl, hl0, size8 (by rw [natV_len]; omega), ?_⟩
    refine ⟨_, rfl, _, rfl, _, _, rfl, rfl, ⟨by omega, 64, by decide, by omega⟩, ?_⟩
    refine ⟨_, _, ps ++ [(rr.fmod (1 + (i : Int))).toNat], rfl, fun b o z => ?_, ?_, by simp [hlen], fun k p e => ?_⟩
    · rw [upd_ne (ne_of_none z hl)]; exact e0 _ _ z
    · rw [upd_same]
      show some (HO.lst (natV ps ++ [V.int (rr.fmod (1 + (i : Int)))])) = _
      unfold natV
      rw [List.map_append]
      congr 3
      simp only [List.map_cons, List.map_nil, List.cons.injEq, and_true, V.int.injEq]
      omega
    · by_cases hk : k < ps.length
      · rw [List.getElem?_append_left hk] at e
        exact hok k p e
      · rw [List.getElem?_append_right (by omega)] at e
        have hk2 : k - ps.length = 0 := by
          have := (List.getElem?_eq_some_iff.mp e).1
          simp at this; omega
        rw [hk2] at e
        simp at e
        omega
  · rintro σ H' ⟨rr, r4, ps, rfl, e, hl', hlen, hok⟩
    refine ⟨_, rfl, q l H' ps e ⟨by omega, hok⟩ ?_ hl'⟩
    omega
theorem sc__law_grown : FnScope ["_law_parents_here", "_law_boughs", "_law_k"] ["_law_parents_here"] (defScope s__law_grown) := ⟨rfl, rfl, rfl, by decide +kernel, rfl, by decide +kernel, by decide +kernel⟩
def Rows (H H' : Hp) (D : Addr) (ls : List Addr) (B : List (List Tr)) (i : Nat) : Prop :=
  H' D = some (.lst (ls.map V.ref)) ∧ H D = none ∧ ls.length = B.length ∧ ls.Nodup ∧ Same H H' ∧ ∀ j l, ls[j]? = some l → H l = none ∧ l ≠ D ∧ ∃ xs, H' l = some (.lst xs) ∧ Ts H' (Tr.of (B.getD j [])) xs ∧ xs.length ≤ i ∧ (Tr.of (B.getD j [])).deep ≤ i
theorem ok__law_grown (F : Fn K mg "_law_grown" s__law_grown ["_law_parents_here"] f fd) (z_range : mg "range" = none) (z_len : mg "len" = none) (z_sorted : mg "sorted" = none) (z_tuple : mg "tuple" = none) : FnOk P w K mg base CX0 1 f fd ["_law_parents_here"] (spGrown K) := by
  have sc := sc__law_grown
  refine F.F.ok (k := 0) sc (fun vs H Q E h => ?_) (fun cdv A outer s H vs Q E hr h => ?_)
  · obtain ⟨a, ps, rfl, _⟩ := h
    rfl
  obtain ⟨a, ps, rfl, hS, hok, h7, q⟩ := h
  refine ⟨_, (pss_cons (ps_setCompr (i := 1) [".0", "_law_parent"] 1 [none, none] sc.nd rfl rfl (pi_list (pv 0)) (fun _ _ _ _ _ => pif_nil) (fun _ _ _ _ _ => (pe_lst pa_nil)))
  (pss_cons (ps_for PassesOwn.never rfl (pi_range3 rfl z_range (pa_cons (pe_op op_sub (pe_callB call_len_seq rfl z_len PySem.boot_len (pa_cons (pv 0) pa_nil)) pe_int) (pa_cons pe_int (pa_cons (pe_un un_neg pe_int) pa_nil)))) (pg_name (i := 2) sc.nd rfl (Or.inl rfl))
    (pss_one (ps_expr (pe_bm PySem.F.plainAttrs_list PySem.F.slot_list_append PySem.F.type_list_append mt_append (pe_ix ix_list (pv 1) (pe_ix ix_list (pv 0) (pv 2) (fun _ _ => rfl)) (fun _ _ => rfl)) (pa_cons (pe_callTy call_tuple_of rfl z_tuple PyProof.Rows.boot_tuple (pa_cons (pe_rev (pe_callB (call_sort (by have := hr.units; exact this)) rfl z_sorted PyProof.Rows.boot_sorted (pa_cons (pe_ix ix_list (pv 1) (pv 2) (fun _ _ => rfl)) pa_nil)) (pe_un un_neg pe_int)) pa_nil)) pa_nil)))))
  (pss_one (ps_ret (pe_callTy call_tuple_of rfl z_tuple PyProof.Rows.boot_tuple (pa_cons (pe_rev (pe_callB (call_sort (by have := hr.units; exact this)) rfl z_sorted PyProof.Rows.boot_sorted (pa_cons (pe_ix ix_list (pv 1) pe_int (fun _ _ => rfl)) pa_nil)) (pe_un un_neg pe_int)) pa_nil)))))), ?_⟩
  have hn := hok.1
  refine ⟨_, rfl, a, rfl, ⟨_, hS⟩, fun D hD => comp_by (n := (natV ps).length) (fun i ys H' => ∃ ls : List Addr, ys = ls.map V.ref ∧ ls.length = i ∧ ls.Nodup ∧ (∀ l ∈ ls, H l = none ∧ l ≠ D ∧ H' l = some (.lst [])) ∧ Same H H') ?_ ?_ ?_⟩
  · exact ⟨[], rfl, rfl, List.nodup_nil, (fun l z => by cases z), same_new hD _⟩
  · rintro i ys H0 hi ⟨ls, rfl, hl, hnd, hls, e0⟩ hD0
    refine ⟨⟨_, (natV ps)[i], e0.seq hS, by simp [hi]⟩, size8 (by rw [List.length_map]; rw [natV_len] at hi; omega), fun x H' y => ?_⟩
    obtain ⟨rfl, y⟩ := y
    unfold tNoIf
    refine iteT ⟨Nat.zero_le _, fun p hp => ⟨same_new hp _ _ _ hD0, cw_next hi ?_⟩⟩
    have hpD : p ≠ D := fun z => by rw [z, hD0] at hp; cases hp
    have hpl : p ∉ ls := fun z => by rw [(hls p z).2.2] at hp; cases hp
    have hpH : H p = none := by
      cases z : H p with
      | none => rfl
      | some o => rw [e0 _ _ z] at hp; cases hp
    refine ⟨ls ++ [p], by simp, by simp [hl], List.nodup_append.mpr ⟨hnd, by simp, fun x hx y hy => by simp at hy; subst hy; intro z; subst z; exact hpl hx⟩, fun l hl' => ?_, fun b o z => ?_⟩
    · rcases List.mem_append.mp hl' with hl' | hl'
      · obtain ⟨h1, h2, h3⟩ := hls l hl'
        refine ⟨h1, h2, ?_⟩
        rw [upd_ne h2]
        exact same_new hp _ _ _ h3
      · simp at hl'
        subst hl'
        exact ⟨hpH, hpD, by rw [upd_ne hpD]; exact upd_same⟩
    · rw [upd_ne (ne_of_none z hD)]
      exact same_new hp _ _ _ (e0 _ _ z)
  · rintro ys H0 ⟨ls, rfl, hl, hnd, hls, e0⟩ hD0
    refine ⟨⟨_, e0.seq hS, Nat.le_refl _⟩, ?_⟩
    rw [natV_len] at hl
    refine ⟨_, rfl, a, _, rfl, .inl (e0.seq hS), _, _, rfl, rfl, _, rfl, (ps.length : Int) - 1, 0, ?_, ⟨by omega, by omega, by decide, by decide⟩, for_rangeB (n := ((ps.length : Int) - 1 - 0).toNat) (fun i σ H' => ∃ r2, σ = [some (.ref a), some (.ref D), r2] ∧ Rows H H' D ls (Tr.gB ps i) i) ?_ ?_ ?_⟩
    · rw [natV_len]
    · refine ⟨_, rfl, hD0, hD, by rw [Tr.gB_len, hl], hnd, e0, fun j l hj => ?_⟩
      obtain ⟨h1, h2, h3⟩ := hls l (List.mem_of_getElem? hj)
      have hrow : (Tr.gB ps 0).getD j [] = [] := by
        rw [Tr.gB, List.getD_eq_getElem?_getD, List.getElem?_replicate]
        split <;> rfl
      refine ⟨h1, h2, [], h3, ?_, Nat.zero_le _, ?_⟩
      · rw [hrow]; exact Ts.nil
      · rw [hrow]; exact Nat.le_refl _
    · rintro i σ H1 hi ⟨r2, rfl, hR⟩
      obtain ⟨hD1, hDn, hlB, hnd, e1, hrows⟩ := hR
      have hki : (ps.length : Int) - 1 - (i : Nat) = ((ps.length - 1 - i : Nat) : Int) := by omega
      have hk1 : ps.length - 1 - i < ps.length := by omega
      have hk0 : 0 < ps.length - 1 - i := by omega
      have hpk := List.getElem?_eq_getElem hk1
      have hplt := hok.2 _ _ hpk
      have hpsd : ps.getD (ps.length - 1 - i) 0 = ps[ps.length - 1 - i] := by rw [List.getD_eq_getElem?_getD, hpk]; rfl
      have hlsn : ls.length = ps.length := hl
      have hp1 : ps[ps.length - 1 - i] < ls.length := by omega
      have hk2 : ps.length - 1 - i < ls.length := by omega
      have lp := List.getElem?_eq_getElem hp1
      have lk := List.getElem?_eq_getElem hk2
      obtain ⟨p1, p2, xp, p3, p4, p5, p6⟩ := hrows _ _ lp
      obtain ⟨k1, k2, xk, k3, k4, k5, k6⟩ := hrows _ _ lk
      have at1 : atI (natV ps) ((ps.length : Int) - 1 - (i : Nat)) = some (.int (ps[ps.length - 1 - i] : Nat)) := by rw [hki]; exact atI_nat (natV_get hpk)
      have at2 : atI (ls.map V.ref) ((ps[ps.length - 1 - i] : Nat) : Int) = some (.ref ls[ps[ps.length - 1 - i]]) := atI_nat (by rw [List.getElem?_map, lp]; rfl)
      have at3 : atI (ls.map V.ref) ((ps.length : Int) - 1 - (i : Nat)) = some (.ref ls[ps.length - 1 - i]) := by rw [hki]; exact atI_nat (by rw [List.getElem?_map, lk]; rfl)
      have hnek : ls[ps[ps.length - 1 - i]] ≠ ls[ps.length - 1 - i] := fun z => by
        have := (List.getElem_inj hnd).mp z
        omega
      refine ⟨_, rfl, _, rfl, _, rfl, a, _, _, _, rfl, rfl, e1.seq hS, at1, D, _, _, _, rfl, rfl, SqL.of hD1, at2, .inl ⟨rfl, _, SqL.of p3⟩, _, rfl, _, rfl, D, _, _, _, rfl, rfl, SqL.of hD1, at3, ?_⟩
      refine ⟨_, xk, Tr.of ((Tr.gB ps i).getD (ps.length - 1 - i) []), rfl, .inl (SqL.of k3), k4, by omega, by omega, fun l2 zs n2 hz => ?_⟩
      rw [Tr.bs_of] at hz
      have s2 := same_new n2 (.lst zs)
      refine ⟨_, rfl, l2, zs, rfl, rfl, SqL.of upd_same, fun l3 n3 => ?_⟩
      have s3 := same_new n3 (.lst zs.reverse)
      refine ⟨l3, _, rfl, .inl ⟨SqL.of upd_same, fun l4 n4 => ?_⟩⟩
      have s4 := same_new n4 (.tup zs.reverse)
      have e4 := s2.trans (s3.trans s4)
      have tz : Tv (upd (upd (upd H1 l2 (.lst zs)) l3 (.lst zs.reverse)) l4 (.tup zs.reverse)) (Tr.of (Tr.srt ((Tr.gB ps i).getD (ps.length - 1 - i) []))) (.ref l4) := by
        refine ⟨l4, _, rfl, upd_same, ?_⟩
        have := (hz.same e4).rev
        rw [Tr.bs_of, List.reverse_reverse] at this
        exact this
      revert e4 tz
      generalize upd (upd (upd H1 l2 (.lst zs)) l3 (.lst zs.reverse)) l4 (.tup zs.reverse) = H4
      intro e4 tz
      refine ⟨_, xp, _, rfl, rfl, e4 _ _ p3, size8 (by omega), ?_⟩
      have nD : ls[ps[ps.length - 1 - i]] ≠ D := p2
      have tS : TupS H4 (upd H4 ls[ps[ps.length - 1 - i]] (.lst (xp ++ [.ref l4]))) := TupS.upd (e4 _ _ p3)
      refine ⟨_, rfl, ?_, hDn, by rw [hlB, Tr.gB_len, Tr.gB_len], hnd, fun b o z => ?_, fun j l hj => ?_⟩
      · rw [upd_ne (Ne.symm nD)]; exact e4 _ _ hD1
      · rw [upd_ne (ne_of_none z p1)]; exact e4 _ _ (e1 _ _ z)
      · have hjl : j < ls.length := (List.getElem?_eq_some_iff.mp hj).1
        obtain ⟨j1, j2, xj, j3, j4, j5, j6⟩ := hrows j l hj
        refine ⟨j1, j2, ?_⟩
        rw [Tr.gB, Tr.gStep, hpsd]
        by_cases hjp : j = ps[ps.length - 1 - i]
        · subst hjp
          rw [lp] at hj
          cases hj
          rw [p3] at j3
          cases j3
          have hset : ((Tr.gB ps i).set ps[ps.length - 1 - i] ((Tr.gB ps i).getD ps[ps.length - 1 - i] [] ++ [Tr.of (Tr.srt ((Tr.gB ps i).getD (ps.length - 1 - i) []))])).getD ps[ps.length - 1 - i] [] = (Tr.gB ps i).getD ps[ps.length - 1 - i] [] ++ [Tr.of (Tr.srt ((Tr.gB ps i).getD (ps.length - 1 - i) []))] := by
            rw [List.getD_eq_getElem?_getD, List.getElem?_set_self (by rw [← hlB]; exact hp1)]
            rfl
          rw [hset]
          refine ⟨_, upd_same, ?_, by simp; omega, ?_⟩
          · have ap := ((p4.same e4).tups tS).append (Ts.cons (tz.tups tS) Ts.nil)
            rw [Tr.bs_of] at ap
            exact ap
          · refine (Tr.deep_of _ _).mpr fun c hc => ?_
            rcases List.mem_append.mp hc with hc | hc
            · have := (Tr.deep_of _ _).mp p6 c hc
              omega
            · rw [List.mem_singleton.mp hc]
              have := (Tr.deep_of _ _).mp k6
              have h2 : (Tr.of (Tr.srt ((Tr.gB ps i).getD (ps.length - 1 - i) []))).deep ≤ i := (Tr.deep_of _ _).mpr fun c hc => this c ((Tr.perm_srt _).mem_iff.mp hc)
              omega
        · have hset : ((Tr.gB ps i).set ps[ps.length - 1 - i] ((Tr.gB ps i).getD ps[ps.length - 1 - i] [] ++ [Tr.of (Tr.srt ((Tr.gB ps i).getD (ps.length - 1 - i) []))])).getD j [] = (Tr.gB ps i).getD j [] := by
            rw [List.getD_eq_getElem?_getD, List.getElem?_set_ne (Ne.symm hjp), List.getD_eq_getElem?_getD]
          rw [hset]
          have hne : l ≠ ls[ps[ps.length - 1 - i]] := fun z => by
            rw [List.getElem?_eq_getElem hjl] at hj
            have hj' : ls[j] = l := Option.some.inj hj
            rw [← hj'] at z
            exact hjp ((List.getElem_inj hnd).mp z)
          exact ⟨xj, by rw [upd_ne hne]; exact e4 _ _ j3, (j4.same e4).tups tS, by omega, by omega⟩
    · rintro σ H1 ⟨r2, rfl, hR⟩
      obtain ⟨hD1, hDn, hlB, hnd, e1, hrows⟩ := hR
      have h0 : 0 < ls.length := by omega
      have l0 := List.getElem?_eq_getElem h0
      obtain ⟨k1, k2, xk, k3, k4, k5, k6⟩ := hrows _ _ l0
      have at0 : atI (ls.map V.ref) (0 : Int) = some (.ref ls[0]) := atI_nat (j := 0) (by rw [List.getElem?_map, l0]; rfl)
      have hnn : ((ps.length : Int) - 1 - 0).toNat = ps.length - 1 := by omega
      rw [hnn] at k4 k5 k6
      refine ⟨_, rfl, D, _, _, _, rfl, rfl, SqL.of hD1, at0, _, xk, Tr.of ((Tr.gB ps (ps.length - 1)).getD 0 []), rfl, .inl (SqL.of k3), k4, by omega, by omega, fun l2 zs n2 hz => ?_⟩
      rw [Tr.bs_of] at hz
      have s2 := same_new n2 (.lst zs)
      refine ⟨_, rfl, l2, zs, rfl, rfl, SqL.of upd_same, fun l3 n3 => ?_⟩
      have s3 := same_new n3 (.lst zs.reverse)
      refine ⟨l3, _, rfl, .inl ⟨SqL.of upd_same, fun l4 n4 => ?_⟩⟩
      have s4 := same_new n4 (.tup zs.reverse)
      have e4 := s2.trans (s3.trans s4)
      refine q _ _ (e1.trans e4) ⟨l4, _, rfl, upd_same, ?_⟩
      have := (hz.same e4).rev
      rw [Tr.bs_of, List.reverse_reverse] at this
      exact this
end
theorem size64 {n : Nat} (h : n ≤ 1000) : n < sizeLine := Nat.lt_of_le_of_lt h (by rw [sizeLine_eq]; decide)
theorem alloc_q {p : Addr} {H H' : Hp} {o : HO} (hH : upd H p o = H') (hp : H p = none) : Same H H' ∧ H' p = some o := by
  subst hH
  exact ⟨same_new hp o, upd_same⟩
def spFallAny (K : PySem.W.Frag) : Sp := fun vs H Q _ => ∃ p ys t, vs = [.ref p] ∧ (SqL K H p ys ∨ SqT K H p ys) ∧ Ts H t ys ∧ ys.length < 64 ∧ t.deep ≤ 60 ∧ ∀ v' H', Same H H' → Tv H' (Tr.of (Tr.srt t.bs)) v' → Q v' H'
theorem none_of {H H' : Hp} (e : Same H H') {p : Addr} (h : H' p = none) : H p = none := by
  cases q : H p with
  | none => rfl
  | some o => rw [e _ _ q] at h; cases h
section
variable {P : Program} {w : World} {K : PySem.W.Frag} {mg : Str → Option Value} {base : Heap} {f g g1 g2 g3 g4 : Addr} {fd gd gd1 gd2 gd3 gd4 : FuncData}
theorem sc_in_falling_order : FnScope ["boughs"] ["boughs"] (defScope s_in_falling_order) := ⟨rfl, rfl, rfl, by decide +kernel, rfl, by decide +kernel, by decide +kernel⟩
theorem ok_in_falling_order (F : Fn K mg "in_falling_order" s_in_falling_order ["boughs"] f fd) (z_sorted : mg "sorted" = none) (z_tuple : mg "tuple" = none) : FnOk P w K mg base CX0 1 f fd ["boughs"] (spFallAny K) := by
  have sc := sc_in_falling_order
  refine F.F.ok (k := 0) sc (fun vs H Q E h => ?_) (fun cdv A outer s H vs Q E hr h => ?_)
  · obtain ⟨p, ys, t, rfl, _⟩ := h
    rfl
  obtain ⟨p, ys, t, rfl, hS, ht, hl, hd, q⟩ := h
  refine ⟨_, (pss_one (ps_ret (pe_callTy call_tuple_of rfl z_tuple PyProof.Rows.boot_tuple (pa_cons (pe_sortR (by have := hr.units; exact this) rfl z_sorted (pa_cons (pv 0) pa_nil)) pa_nil)))), ?_⟩
  refine ⟨_, rfl, p, ys, t, rfl, hS, ht, hl, hd, fun l zs hl' hz => ?_⟩
  have es := same_new hl' (.lst zs)
  refine ⟨l, zs, rfl, .inl ⟨SqL.of upd_same, fun p2 n2 => ?_⟩⟩
  have e2 := same_new n2 (.tup zs)
  exact q _ _ (es.trans e2) ⟨p2, zs, rfl, upd_same, (hz.same es).same e2⟩
end
def Old (H : Hp) : Addr → Prop := fun c => H c ≠ none
def spCuts (n : Nat) : Sp := fun vs H Q _ => ∃ v t, vs = [v] ∧ Tv H t v ∧ t.deep < n ∧ n ≤ 40 ∧ t.knots ≤ 8 ∧ ∀ p H' ys, Same H H' → H p = none → H' p = some (.lst ys) → Cvs (Old H) H' ((Tr.cutsN t).map Tr.pr) ys → Q (.ref p) H'
def spTreeCuts : Sp := fun vs H Q _ => ∃ v t, vs = [v] ∧ Tv H t v ∧ t.fall = true ∧ t.knots ≤ 7 ∧ ∀ p p0 p1 H' ys, Same H H' → H p = none → H' p = some (.lst (.ref p0 :: ys)) → H' p0 = some (.tup [.non, .ref p1]) → H p1 = none → H' p1 = some (.lst [v]) →
  Cvs (fun c => H c ≠ none ∨ c = p1) H' (Tr.srt ((Tr.cutsN t).map Tr.pr)).reverse ys → Q (.ref p) H'
theorem cv_new {B : Addr → Prop} {H H' : Hp} {x : Tr × Tr} {p l : Addr} {vt : V} {xs : List V} (h : upd H p (.tup [vt, .ref l]) = H') (hp : H p = none) (hB : ¬ B l) (h1 : Tv H x.1 vt) (h2 : H l = some (.lst xs)) (h3 : Ts H x.2 xs) : Same H H' ∧ Cv B H' (Tr.pr x) (.ref p) := by
  obtain ⟨e, z⟩ := alloc_q h hp
  exact ⟨e, p, l, x.1, x.2, vt, xs, rfl, rfl, hB, z, h1.same e, e _ _ h2, h3.same e⟩
theorem cv_open {B : Addr → Prop} {H : Hp} {x : Tr × Tr} {v : V} (h : Cv B H (Tr.pr x) v) : ∃ (a l : Addr) (vt : V) (xs : List V), v = .ref a ∧ ¬ B l ∧ H a = some (.tup [vt, .ref l]) ∧ Tv H x.1 vt ∧ H l = some (.lst xs) ∧ Ts H x.2 xs := by
  obtain ⟨a, l, t, u, vt, xs, e, rfl, hB, h1, h2, h3, h4⟩ := h
  have e1 : x.1 = t := by unfold Tr.pr at e; injection e
  have e2 : x.2 = u := by unfold Tr.pr at e; injection e with _ e; injection e
  rw [e1, e2]
  exact ⟨a, l, vt, xs, rfl, hB, h1, h2, h3, h4⟩
theorem get_pr {l : List (Tr × Tr)} {j : Nat} {k : Tr} (h : (l.map Tr.pr)[j]? = some k) : ∃ x, l[j]? = some x ∧ k = Tr.pr x := by
  rw [List.getElem?_map] at h
  obtain ⟨x, hx, rfl⟩ := Option.map_eq_some_iff.mp h
  exact ⟨x, hx, rfl⟩
theorem pow7 {n : Nat} (h : n ≤ 7) : 2 ^ n ≤ 128 := by
  have := Nat.pow_le_pow_right (n := 2) (by decide) h
  exact this
section
variable {P : Program} {w : World} {K : PySem.W.Frag} {mg : Str → Option Value} {base : Heap} {f g g1 g2 g3 g4 : Addr} {fd gd gd1 gd2 gd3 gd4 : FuncData}
theorem sc_cuts_within : FnScope ["tree", "cuts", "bough", "wider", "left", "parts", "trunk", "more"] ["tree"] (defScope s_cuts_within) := ⟨rfl, rfl, rfl, by decide +kernel, rfl, by decide +kernel, by decide +kernel⟩
theorem ok_cuts_within (T_cuts_within : Fn K mg "cuts_within" s_cuts_within ["tree"] f fd) (T_in_falling_order : Fn K mg "in_falling_order" s_in_falling_order ["boughs"] g gd)
    (g_in : FnOk P w K mg base CX0 1 g gd ["boughs"] (spFallAny K)) (z_sorted : mg "sorted" = none) : ∀ n, FnOk P w K mg base CX0 (n + 1) f fd ["tree"] (spCuts n)
  | 0 => never_ok fun _ _ _ _ ⟨_, _, _, _, h, _⟩ => absurd h (Nat.not_lt_zero _)
  | n + 1 => by
    have sc := sc_cuts_within
    have G_cuts_within := ok_cuts_within T_cuts_within T_in_falling_order g_in z_sorted n
    have G_in_falling_order := g_in.mono (show 1 ≤ n + 1 by omega)
    refine T_cuts_within.F.ok (k := n + 1) sc (fun vs H Q E h => ?_) (fun cdv A outer s H vs Q E hr h => ?_)
    · obtain ⟨v, t, rfl, _⟩ := h
      rfl
    obtain ⟨v, t, rfl, ⟨a, xs, rfl, ha, ht⟩, hd, hn, hk, q⟩ := h
    refine ⟨_, (pss_cons (ps_set (i := 1) sc.nd rfl (Or.inl rfl) (pe_lst (pa_cons (pe_tup (pa_cons (pe_tup pa_nil) (pa_cons (pe_lst pa_nil) pa_nil))) pa_nil)))
  (pss_cons (ps_for PassesOwn.never rfl (pi_tup (pv 0)) (pg_name (i := 2) sc.nd rfl (Or.inl rfl))
    (pss_cons (ps_set (i := 3) sc.nd rfl (Or.inl rfl) (pe_lst pa_nil))
    (pss_cons (ps_for PassesOwn.never rfl (pi_list (pv 1)) (pg_tup rfl (pgs_cons (pg_name (i := 4) sc.nd rfl (Or.inl rfl)) (pgs_cons (pg_name (i := 5) sc.nd rfl (Or.inl rfl)) pgs_nil)))
      (pss_cons (ps_expr (pe_bm PySem.F.plainAttrs_list PySem.F.slot_list_append PySem.F.type_list_append mt_append (pv 3) (pa_cons (pe_tup (pa_cons (pv 4) (pa_cons (pe_op op_cat (pv 5) (pe_lst (pa_cons (pv 2) pa_nil))) pa_nil))) pa_nil)))
      (pss_one (ps_for PassesOwn.never rfl (pi_list (pe_fn T_cuts_within G_cuts_within hr rfl (pa_cons (pv 2) pa_nil))) (pg_tup rfl (pgs_cons (pg_name (i := 6) sc.nd rfl (Or.inl rfl)) (pgs_cons (pg_name (i := 7) sc.nd rfl (Or.inl rfl)) pgs_nil)))
        (pss_one (ps_expr (pe_bm PySem.F.plainAttrs_list PySem.F.slot_list_append PySem.F.type_list_append mt_append (pv 3) (pa_cons (pe_tup (pa_cons (pe_op op_catA (pv 4) (pe_tup (pa_cons (pv 6) pa_nil))) (pa_cons (pe_op op_cat (pv 5) (pv 7)) pa_nil))) pa_nil))))))))
    (pss_one (ps_set (i := 1) sc.nd rfl (Or.inl rfl) (pv 3))))))
  (pss_one (ps_ret (pe_compr2 [".0", "left", "parts"] 1 2 [none, none, none] (pi_list (pv 1)) (fun _ _ _ _ _ => pif_nil) (fun _ _ _ _ _ => (pe_tup (pa_cons (pe_fn T_in_falling_order G_in_falling_order hr rfl (pa_cons (pv 1) pa_nil)) (pa_cons (pe_sortRC (by have := hr.units; exact this) rfl z_sorted (pa_cons (pv 2) pa_nil)) pa_nil))))))))), ?_⟩
    have hlen := ht.len
    have facts := Tr.cuTo_facts t (by omega)
    have hks := Tr.ksumR t.bs
    rw [Tr.of_bs] at hks
    have sumle : ∀ i, ((t.bs.take i).map Tr.knots).sum ≤ 7 := fun i => by
      have h1 := congrArg (fun l : List Tr => (l.map Tr.knots).sum) (List.take_append_drop i t.bs)
      simp only [List.map_append, List.sum_append] at h1
      omega
    have sz : ∀ i, i ≤ t.bs.length → (Tr.cuTo t.bs i).length ≤ 128 := fun i hi => Nat.le_trans (facts i hi).1 (pow7 (sumle i))
    refine ⟨(by show 0 ≤ sizeLine; decide), fun p1 n1 => ?_⟩
    generalize h1 : upd H p1 (.tup []) = H1
    obtain ⟨e1, z1⟩ := alloc_q h1 n1
    refine ⟨(by show 0 ≤ sizeLine; decide), fun p2 n2 => ?_⟩
    generalize h2 : upd H1 p2 (.lst []) = H2
    obtain ⟨e2, z2⟩ := alloc_q h2 n2
    have np2 : H p2 = none := none_of e1 n2
    refine ⟨(by show 2 ≤ sizeLine; decide), fun p3 n3 => ?_⟩
    generalize h3 : upd H2 p3 (.tup [.ref p1, .ref p2]) = H3
    obtain ⟨e3, cv3⟩ := cv_new (B := Old H) (x := (.nil, .nil)) h3 n3 (fun z => z np2) ⟨p1, [], rfl, e2 _ _ z1, Ts.nil⟩ z2 Ts.nil
    refine ⟨(by show 1 ≤ sizeLine; decide), fun p5 n5 => ?_⟩
    generalize h5 : upd H3 p5 (.lst [.ref p3]) = H5
    obtain ⟨e5, z5⟩ := alloc_q h5 n5
    have E5 := e1.trans (e2.trans (e3.trans e5))
    have np5 : H p5 = none := none_of (e1.trans (e2.trans e3)) n5
    refine ⟨_, rfl, a, rfl, ⟨_, SqT.of (E5 _ _ ha)⟩, for_tup (xs := xs) (fun i σ H' => ∃ (r2 r3 r4 r5 r6 r7 : Option V) (pC : Addr) (ys : List V), σ = [some (.ref a), some (.ref pC), r2, r3, r4, r5, r6, r7] ∧ Same H H' ∧ H pC = none ∧ H' pC = some (.lst ys) ∧ Cvs (Old H) H' ((Tr.cuTo t.bs i).map Tr.pr) ys) ?_ ?_ ?_ ?_⟩
    · refine ⟨_, _, _, _, _, _, p5, [.ref p3], rfl, E5, np5, z5, ?_⟩
      exact Cvs.snoc Cvs.nil (cv3.same e5)
    · rintro i σ H' _ ⟨r2, r3, r4, r5, r6, r7, pC, ys, rfl, e, _⟩
      exact SqT.of (e _ _ ha)
    · rintro i x σ H0 hx ⟨r2, r3, r4, r5, r6, r7, pC, ys, rfl, e0, npC, zC, cC⟩
      obtain ⟨c, hc, tc⟩ := ht.get hx
      have hcm : c ∈ t.bs := List.mem_of_getElem? hc
      have hcd := Tr.deep_mem hcm
      have hck := Tr.knots_mem hcm
      have hil : i < t.bs.length := (List.getElem?_eq_some_iff.mp hc).1
      have next : Tr.cuTo t.bs (i + 1) = (Tr.cuTo t.bs i).flatMap (Tr.widen c (Tr.cutsN c)) := by rw [Tr.cuTo, hc]
      have hnext := sz (i + 1) (by omega)
      have hflat : ∀ l : List (Tr × Tr), (l.flatMap (Tr.widen c (Tr.cutsN c))).length = l.length * (Tr.cnt c + 1) := fun l => Tr.flat_len _ _ l fun x _ => by rw [Tr.widen_len, Tr.cuts_len]
      rw [next, hflat] at hnext
      have hyl : ys.length = (Tr.cuTo t.bs i).length := by rw [cC.len, List.length_map]
      refine ⟨(by show 0 ≤ sizeLine; decide), fun pW nW => ?_⟩
      generalize h6 : upd H0 pW (.lst []) = H6
      obtain ⟨e6, z6⟩ := alloc_q h6 nW
      have E6 := e0.trans e6
      have npW : H pW = none := none_of e0 nW
      have hCW : pC ≠ pW := fun z => by rw [z, nW] at zC; cases zC
      have cC6 : Cvs (fun c => Old H c ∨ c = pW) H6 ((Tr.cuTo t.bs i).map Tr.pr) ys := (cC.avoid nW).same e6
      refine ⟨_, rfl, pC, rfl, ⟨_, SqL.of (e6 _ _ zC)⟩, for_list (xs := ys) (fun j σ2 H2 => ∃ (r4 r5 r6 r7 : Option V) (zs : List V), σ2 = [some (.ref a), some (.ref pC), some x, some (.ref pW), r4, r5, r6, r7] ∧ Same H H2 ∧ H2 pC = some (.lst ys) ∧ H2 pW = some (.lst zs) ∧
        Cvs (fun c => Old H c ∨ c = pW) H2 ((Tr.cuTo t.bs i).map Tr.pr) ys ∧ Cvs (fun c => Old H c ∨ c = pW) H2 ((((Tr.cuTo t.bs i).take j).flatMap (Tr.widen c (Tr.cutsN c))).map Tr.pr) zs) ?_ ?_ ?_ ?_⟩
      · exact ⟨_, _, _, _, [], rfl, E6, e6 _ _ zC, z6, cC6, Cvs.nil⟩
      · rintro j σ2 H7 _ ⟨r4', r5', r6', r7', zs, rfl, _, zb, _⟩
        exact SqL.of zb
      · rintro j y σ2 H7 hy ⟨r4', r5', r6', r7', zs, rfl, E7, zC7, zW7, cC7, cW7⟩
        obtain ⟨kx, hkx, cvx⟩ := cC7.get hy
        obtain ⟨gx, hgx, rfl⟩ := get_pr hkx
        have hgm := List.mem_of_getElem? hgx
        have hgk := (facts i (by omega)).2 gx hgm
        have hsl := sumle i
        obtain ⟨pp, lP, vt, ps, rfl, hB, zp, tv1, zl, ts2⟩ := cv_open cvx
        have hjl : j < (Tr.cuTo t.bs i).length := (List.getElem?_eq_some_iff.mp hgx).1
        have hmul : j * (Tr.cnt c + 1) + (Tr.cnt c + 1) ≤ (Tr.cuTo t.bs i).length * (Tr.cnt c + 1) := by
          rw [← Nat.succ_mul]
          exact Nat.mul_le_mul_right _ hjl
        have hzl : zs.length = j * (Tr.cnt c + 1) := by rw [cW7.len, List.length_map, hflat, List.length_take, Nat.min_eq_left (by omega)]
        have k2 := Tr.ksumR gx.2.bs
        rw [Tr.of_bs] at k2
        have hpsl : ps.length ≤ 10 := by
          rw [ts2.len]
          have := Tr.len_lt_knots gx.2
          omega
        refine ⟨pp, _, rfl, SqT.of zp, rfl, _, _, rfl, _, _, rfl, rfl, ?_⟩
        refine ⟨_, rfl, .inl ⟨rfl, _, SqL.of zW7⟩, _, rfl, _, rfl, _, rfl, (by show 1 ≤ sizeLine; decide), fun q1 m1 => ?_⟩
        generalize h8 : upd H7 q1 (.lst [x]) = H8
        obtain ⟨e8, z8⟩ := alloc_q h8 m1
        refine ⟨lP, q1, ps, [x], rfl, rfl, e8 _ _ zl, z8, Nat.le_of_lt (size64 (by simp; omega)), fun q2 m2 => ?_⟩
        generalize h9 : upd H8 q2 (.lst (ps ++ [x])) = H9
        obtain ⟨e9, z9⟩ := alloc_q h9 m2
        have E79 := e8.trans e9
        have E9 := E7.trans E79
        have ts9 : Ts H9 (Tr.of (gx.2.bs ++ [c])) (ps ++ [x]) := by
          have := Ts.append (ts2.same E79) (Ts.cons (tc.same E9) Ts.nil)
          simpa [Tr.bs] using this
        refine ⟨(by show 2 ≤ sizeLine; decide), fun q3 m3 => ?_⟩
        generalize h10 : upd H9 q3 (.tup [vt, .ref q2]) = H10
        have hBq2 : ¬ (Old H q2 ∨ q2 = pW) := fun z => z.elim (fun z => z (none_of (E7.trans e8) m2)) fun z => by rw [z, e8 _ _ zW7] at m2; cases m2
        obtain ⟨e10, cv10⟩ := cv_new (B := fun c => Old H c ∨ c = pW) (x := (gx.1, Tr.of (gx.2.bs ++ [c]))) h10 m3 hBq2 (tv1.same E79) z9 ts9
        have E710 := E79.trans e10
        have zW10 := E710 _ _ zW7
        refine ⟨pW, zs, .ref q3, rfl, rfl, zW10, size64 (by omega), ?_⟩
        generalize h11 : upd H10 pW (.lst (zs ++ [.ref q3])) = H11
        have zW11 : H11 pW = some (.lst (zs ++ [.ref q3])) := by rw [← h11]; exact upd_same
        have tu11 : TupS H10 H11 := by rw [← h11]; exact TupS.upd zW10
        have zC11 : H11 pC = some (.lst ys) := by rw [← h11, upd_ne hCW]; exact E710 _ _ zC7
        have zl11 : H11 lP = some (.lst ps) := by rw [← h11, upd_ne (fun z => hB (.inr z))]; exact E710 _ _ zl
        have E11 : Same H H11 := fun b o z => by
          rw [← h11, upd_ne (ne_of_none z npW)]
          exact E710 _ _ (E7 _ _ z)
        have cC11 : Cvs (fun c => Old H c ∨ c = pW) H11 ((Tr.cuTo t.bs i).map Tr.pr) ys := by rw [← h11]; exact (cC7.same E710).upd (.inr rfl) zW10
        have cW11 : Cvs (fun c => Old H c ∨ c = pW) H11 ((((Tr.cuTo t.bs i).take j).flatMap (Tr.widen c (Tr.cutsN c)) ++ [(gx.1, Tr.of (gx.2.bs ++ [c]))]).map Tr.pr) (zs ++ [.ref q3]) := by
          rw [← h11, List.map_append]
          exact ((cW7.same E710).snoc cv10).upd (.inr rfl) zW10
        have tv11 : Tv H11 gx.1 vt := (tv1.same E710).tups tu11
        have ts11 : Ts H11 gx.2 ps := (ts2.same E710).tups tu11
        clear h11 h10 h9 h8 cC7 cW7 tu11
        refine ⟨_, rfl, x, c, rfl, tc.same E11, by omega, by omega, by omega, fun pB HB bs eB nB zB cB => ?_⟩
        have hBW : pB ≠ pW := fun z => by rw [z, zW11] at nB; cases nB
        have cB' : Cvs (fun c => Old H c ∨ c = pW) HB ((Tr.cutsN c).map Tr.pr) bs := cB.mono fun d hd => hd.elim (fun z => by
          intro y
          cases hz : H d with
          | none => exact z hz
          | some o => rw [E11 _ _ hz] at y; cases y) fun z => by rw [z]; intro y; rw [zW11] at y; cases y
        have hbl : bs.length = Tr.cnt c := by rw [cB.len, List.length_map, Tr.cuts_len]
        refine ⟨pB, rfl, ⟨_, SqL.of zB⟩, for_list (xs := bs) (fun k σ3 H3 => ∃ (r6 r7 : Option V) (us : List V), σ3 = [some (.ref a), some (.ref pC), some x, some (.ref pW), some vt, some (.ref lP), r6, r7] ∧ Same H H3 ∧ H3 pC = some (.lst ys) ∧ H3 pB = some (.lst bs) ∧ H3 lP = some (.lst ps) ∧ Tv H3 gx.1 vt ∧ Ts H3 gx.2 ps ∧ H3 pW = some (.lst us) ∧
          Cvs (fun c => Old H c ∨ c = pW) H3 ((Tr.cuTo t.bs i).map Tr.pr) ys ∧ Cvs (fun c => Old H c ∨ c = pW) H3 ((Tr.cutsN c).map Tr.pr) bs ∧
          Cvs (fun c => Old H c ∨ c = pW) H3 ((((Tr.cuTo t.bs i).take j).flatMap (Tr.widen c (Tr.cutsN c)) ++ ((gx.1, Tr.of (gx.2.bs ++ [c])) :: ((Tr.cutsN c).take k).map fun y => (Tr.of (gx.1.bs ++ [y.1]), Tr.of (gx.2.bs ++ y.2.bs)))).map Tr.pr) us) ?_ ?_ ?_ ?_⟩
        · exact ⟨_, _, zs ++ [.ref q3], rfl, E11.trans eB, eB _ _ zC11, zB, eB _ _ zl11, tv11.same eB, ts11.same eB, eB _ _ zW11, cC11.same eB, cB', by simpa using cW11.same eB⟩
        · rintro k σ3 H12 _ ⟨r6', r7', us, rfl, _, _, zb, _⟩
          exact SqL.of zb
        · rintro k y2 σ3 H12 hy2 ⟨r6', r7', us, rfl, E12, zC12, zB12, zl12, tv12, ts12, zW12, cC12, cB12, cW12⟩
          obtain ⟨ky, hky, cvy⟩ := cB12.get hy2
          obtain ⟨gy, hgy, rfl⟩ := get_pr hky
          have hyk := Tr.cuts_knots (List.mem_of_getElem? hgy)
          obtain ⟨qq, lM, vu, ms, rfl, hBM, zq, tu1, zm, tsm⟩ := cv_open cvy
          have hkl : k < Tr.cnt c := by
            have := (List.getElem?_eq_some_iff.mp hgy).1
            rwa [Tr.cuts_len] at this
          have hul : us.length = j * (Tr.cnt c + 1) + (k + 1) := by
            rw [cW12.len, List.length_map, List.length_append, hflat, List.length_take, List.length_cons, List.length_map, List.length_take, Tr.cuts_len, Nat.min_eq_left (by omega), Nat.min_eq_left (by omega)]
          have hmsl : ms.length ≤ 10 := by
            rw [tsm.len]
            have := Tr.len_lt_knots gy.2
            omega
          obtain ⟨aT, xt, rfl, zT, tsT⟩ := id tv12
          have hxtl : xt.length ≤ 10 := by
            rw [tsT.len]
            have := Tr.len_lt_knots gx.1
            omega
          refine ⟨qq, _, rfl, SqT.of zq, rfl, _, _, rfl, _, _, rfl, rfl, ?_⟩
          refine ⟨_, rfl, .inl ⟨rfl, _, SqL.of zW12⟩, _, rfl, _, rfl, (by show 1 ≤ sizeLine; decide), fun q4 m4 => ?_⟩
          generalize h13 : upd H12 q4 (.tup [vu]) = H13
          obtain ⟨e13, z13⟩ := alloc_q h13 m4
          refine ⟨aT, q4, _, _, rfl, rfl, e13 _ _ zT, z13, Nat.le_of_lt (size64 (by simp; omega)), fun q5 H14 e14 z14 => ?_⟩
          have E1214 := e13.trans e14
          refine ⟨_, rfl, _, rfl, lP, lM, ps, ms, rfl, rfl, E1214 _ _ zl12, E1214 _ _ zm, Nat.le_of_lt (size64 (by omega)), fun q6 m6 => ?_⟩
          generalize h15 : upd H14 q6 (.lst (ps ++ ms)) = H15
          obtain ⟨e15, z15⟩ := alloc_q h15 m6
          have E1215 := E1214.trans e15
          have t15 : Tv H15 (Tr.of (gx.1.bs ++ [gy.1])) (.ref q5) := by
            refine ⟨q5, _, rfl, e15 _ _ z14, ?_⟩
            have := Ts.append (tsT.same E1215) (Ts.cons (tu1.same E1215) Ts.nil)
            simpa [Tr.bs] using this
          have ts15 : Ts H15 (Tr.of (gx.2.bs ++ gy.2.bs)) (ps ++ ms) := Ts.append (ts12.same E1215) (tsm.same E1215)
          refine ⟨(by show 2 ≤ sizeLine; decide), fun q7 m7 => ?_⟩
          generalize h16 : upd H15 q7 (.tup [.ref q5, .ref q6]) = H16
          have hBq6 : ¬ (Old H q6 ∨ q6 = pW) := fun z => z.elim (fun z => z (none_of (E12.trans E1214) m6)) fun z => by rw [z, E1214 _ _ zW12] at m6; cases m6
          obtain ⟨e16, cv16⟩ := cv_new (B := fun c => Old H c ∨ c = pW) (x := (Tr.of (gx.1.bs ++ [gy.1]), Tr.of (gx.2.bs ++ gy.2.bs))) h16 m7 hBq6 t15 z15 ts15
          have E1216 := E1215.trans e16
          have zW16 := E1216 _ _ zW12
          refine ⟨pW, us, .ref q7, rfl, rfl, zW16, size64 (by omega), ?_⟩
          have tu : TupS H16 (upd H16 pW (.lst (us ++ [.ref q7]))) := TupS.upd zW16
          refine ⟨_, _, us ++ [.ref q7], rfl, fun b o z => ?_, ?_, ?_, ?_, (tv12.same E1216).tups tu, (ts12.same E1216).tups tu, upd_same, (cC12.same E1216).upd (.inr rfl) zW16, (cB12.same E1216).upd (.inr rfl) zW16, ?_⟩
          · rw [upd_ne (ne_of_none z npW)]
            exact E1216 _ _ (E12 _ _ z)
          · rw [upd_ne hCW]; exact E1216 _ _ zC12
          · rw [upd_ne hBW]; exact E1216 _ _ zB12
          · rw [upd_ne (fun z => hB (.inr z))]; exact E1216 _ _ zl12
          · have := ((cW12.same E1216).snoc cv16).upd (zs' := us ++ [.ref q7]) (.inr rfl) zW16
            rw [List.take_succ, hgy]
            simpa using this
        · rintro σ3 H12 ⟨r6', r7', us, rfl, E12, zC12, zB12, zl12, tv12, ts12, zW12, cC12, cB12, cW12⟩
          refine ⟨_, _, _, _, us, rfl, E12, zC12, zW12, cC12, ?_⟩
          rw [hbl, ← Tr.cuts_len c, List.take_length] at cW12
          rw [List.take_succ, hgx]
          simpa [Tr.widen] using cW12
      · rintro σ2 H7 ⟨r4', r5', r6', r7', zs, rfl, E7, zC7, zW7, cC7, cW7⟩
        refine ⟨_, rfl, _, _, _, _, _, _, pW, zs, rfl, E7, npW, zW7, ?_⟩
        rw [hyl, List.take_length] at cW7
        rw [next]
        exact cW7.mono fun c hc => .inl hc
    · rintro σ H0 ⟨r2, r3, r4, r5, r6, r7, pC, ys, rfl, e0, npC, zC, cC⟩
      rw [hlen] at cC
      have hyl : ys.length = (Tr.cuTo t.bs t.bs.length).length := by rw [cC.len, List.length_map]
      have hfin := sz t.bs.length (Nat.le_refl _)
      refine ⟨_, rfl, pC, rfl, ⟨_, SqL.of zC⟩, fun D hD => comp_by2 (n := ys.length) (fun j us H' => Same H0 H' ∧ Cvs (fun c => Old H c ∨ c = D) H' (((Tr.cuTo t.bs t.bs.length).take j).map fun x => Tr.pr (Tr.nrm x)) us) ?_ ?_ ?_⟩
      · exact ⟨same_new hD _, Cvs.nil⟩
      · rintro j us H1 hj ⟨e1, cU⟩ hD1
        have hul : us.length = j := by rw [cU.len, List.length_map, List.length_take]; omega
        refine ⟨⟨ys, ys[j], SqL.of (e1 _ _ zC), by simp [hj]⟩, size64 (by omega), fun x H' y => ?_⟩
        obtain ⟨rfl, y⟩ := y
        have hx := y ys (SqL.of (e1 _ _ zC))
        obtain ⟨kx, hkx, cvx⟩ := (cC.same e1).get hx
        obtain ⟨gx, hgx, rfl⟩ := get_pr hkx
        have hgk := (facts _ (Nat.le_refl _)).2 gx (List.mem_of_getElem? hgx)
        have hsl := sumle t.bs.length
        obtain ⟨pp, lP, vt, ps, rfl, hB, zp, tv1, zl, ts2⟩ := cv_open cvx
        obtain ⟨aT, xt, rfl, zT, tsT⟩ := id tv1
        have d1 := Tr.deep_lt_knots gx.1
        have d2 := Tr.deep_lt_knots gx.2
        have l1 := Tr.len_lt_knots gx.1
        have l2 := Tr.len_lt_knots gx.2
        have hxt := tsT.len
        have hps := ts2.len
        refine ⟨pp, .ref aT, .ref lP, rfl, SqT.of zp, ?_⟩
        unfold tNoIf
        refine iteT ⟨_, rfl, aT, xt, gx.1, rfl, .inr (SqT.of zT), tsT, by omega, by omega, fun v1 H2 e2 tvv => ?_⟩
        refine ⟨_, rfl, lP, ps, gx.2, rfl, .inl (SqL.of (e2 _ _ zl)), ts2.same e2, by omega, by omega, fun l3 zs3 n3 ts3 => ?_⟩
        generalize h3 : upd H2 l3 (.lst zs3) = H3
        obtain ⟨e3, z3⟩ := alloc_q h3 n3
        refine ⟨(by show 2 ≤ sizeLine; decide), fun q4 m4 => ?_⟩
        generalize h4 : upd H3 q4 (.tup [v1, .ref l3]) = H4
        have hBl3 : ¬ (Old H l3 ∨ l3 = D) := fun z => z.elim (fun z => z (none_of (e0.trans (e1.trans e2)) n3)) fun z => by rw [z, e2 _ _ hD1] at n3; cases n3
        obtain ⟨e4, cv4⟩ := cv_new (B := fun c => Old H c ∨ c = D) (x := Tr.nrm gx) h4 m4 hBl3 (tvv.same e3) z3 (ts3.same e3)
        have E4 := e2.trans (e3.trans e4)
        have hD4 := E4 _ _ hD1
        refine ⟨hD4, cw_next hj ⟨fun b o z => ?_, ?_⟩⟩
        · rw [upd_ne (ne_of_none z hD)]
          exact E4 _ _ (e1 _ _ z)
        · have := ((cU.same E4).snoc cv4).upd (zs' := us ++ [.ref q4]) (.inr rfl) hD4
          rw [List.take_succ, hgx]
          simpa using this
      · rintro us H1 ⟨e1, cU⟩ hD1
        refine ⟨⟨ys, SqL.of (e1 _ _ zC), Nat.le_refl _⟩, ?_⟩
        rw [hyl, List.take_length] at cU
        refine q D H1 us (e0.trans e1) (none_of e0 hD) hD1 ?_
        rw [Tr.cuts_all, List.map_map]
        exact cU.mono fun c hc => .inl hc
end
section
variable {P : Program} {w : World} {K : PySem.W.Frag} {mg : Str → Option Value} {base : Heap} {f g g1 g2 g3 g4 : Addr} {fd gd gd1 gd2 gd3 gd4 : FuncData}
theorem cuts_small {t : Tr} (hk : t.knots ≤ 7) : (Tr.cutsN t).length ≤ 64 := by
  rw [Tr.cuts_len]
  have h1 := Tr.cnt_le t
  have h2 := pow7 (show t.knots ≤ 7 from hk)
  omega
theorem cuts_deep {t : Tr} (hk : t.knots ≤ 7) : ∀ k ∈ (Tr.cutsN t).map Tr.pr, k.deep ≤ 30 := fun k hk' => by
  obtain ⟨x, hx, rfl⟩ := List.mem_map.mp hk'
  have h1 := Tr.cuts_knots hx
  have h2 := Tr.deep_lt_knots x.1
  have h3 := Tr.deep_lt_knots x.2
  exact Tr.pr_deep (by omega) (by omega)
theorem sc_tree_cuts : FnScope ["tree"] ["tree"] (defScope s_tree_cuts) := ⟨rfl, rfl, rfl, by decide +kernel, rfl, by decide +kernel, by decide +kernel⟩
theorem ok_tree_cuts (F : Fn K mg "tree_cuts" s_tree_cuts ["tree"] f fd) (T_refuse_no_tree : Fn K mg "refuse_no_tree" s_refuse_no_tree ["thing"] g1 gd1) (T_cuts_within : Fn K mg "cuts_within" s_cuts_within ["tree"] g2 gd2)
    (G_refuse_no_tree : FnOk P w K mg base CX0 9 g1 gd1 ["thing"] spRefuse) (G_cuts_within : FnOk P w K mg base CX0 9 g2 gd2 ["tree"] (spCuts 8)) (z_sorted : mg "sorted" = none) :
    FnOk P w K mg base CX0 10 f fd ["tree"] spTreeCuts := by
  have sc := sc_tree_cuts
  refine F.F.ok (k := 9) sc (fun vs H Q E h => ?_) (fun cdv A outer s H vs Q E hr h => ?_)
  · obtain ⟨v, t, rfl, _⟩ := h
    rfl
  obtain ⟨v, t, rfl, tv, hf, hk, q⟩ := h
  refine ⟨_, (pss_cons (ps_expr (pe_fn T_refuse_no_tree G_refuse_no_tree hr rfl (pa_cons (pv 0) pa_nil)))
  (pss_one (ps_ret (pe_op op_cat (pe_lst (pa_cons (pe_tup (pa_cons pe_non (pa_cons (pe_lst (pa_cons (pv 0) pa_nil)) pa_nil))) pa_nil)) (pe_callB (call_sortC (by have := hr.units; exact this)) rfl z_sorted PyProof.Rows.boot_sorted (pa_cons (pe_fn T_cuts_within G_cuts_within hr rfl (pa_cons (pv 0) pa_nil)) pa_nil)))))), ?_⟩
  have hdk := Tr.deep_lt_knots t
  refine ⟨_, rfl, v, t, rfl, tv, by omega, hf, fun H1 e1 => ?_⟩
  refine ⟨_, rfl, (by show 1 ≤ sizeLine; decide), fun p1 n1 => ?_⟩
  generalize h2 : upd H1 p1 (.lst [v]) = H2
  obtain ⟨e2, z2⟩ := alloc_q h2 n1
  refine ⟨(by show 2 ≤ sizeLine; decide), fun p0 n0 => ?_⟩
  generalize h3 : upd H2 p0 (.tup [.non, .ref p1]) = H3
  obtain ⟨e3, z3⟩ := alloc_q h3 n0
  refine ⟨(by show 1 ≤ sizeLine; decide), fun pL nL => ?_⟩
  generalize h4 : upd H3 pL (.lst [.ref p0]) = H4
  obtain ⟨e4, z4⟩ := alloc_q h4 nL
  have E4 := e1.trans (e2.trans (e3.trans e4))
  refine ⟨_, rfl, v, t, rfl, tv.same E4, by omega, by decide, by omega, fun p5 H5 ys e5 n5 z5 c5 => ?_⟩
  have hyl : ys.length ≤ 64 := by rw [c5.len, List.length_map]; exact cuts_small hk
  refine ⟨_, p5, ys, _, rfl, SqL.of z5, c5, by omega, cuts_deep hk, fun _ _ => Tr.cuts_runs hk, fun l zs nl cz => ?_⟩
  generalize h6 : upd H5 l (.lst zs) = H6
  obtain ⟨e6, z6⟩ := alloc_q h6 nl
  have hzl : zs.length ≤ 64 := by rw [cz.len, List.length_reverse, (Tr.perm_srt _).length_eq, List.length_map]; exact cuts_small hk
  refine ⟨pL, l, _, _, rfl, rfl, e6 _ _ (e5 _ _ z4), z6, Nat.le_of_lt (size64 (by simp; omega)), fun pF nF => ?_⟩
  have eF := same_new nF (.lst ([.ref p0] ++ zs))
  have E56 := e5.trans (e6.trans eF)
  refine q pF p0 p1 _ zs (E4.trans E56) (none_of (E4.trans (e5.trans e6)) nF) upd_same (E56 _ _ (e4 _ _ z3)) (none_of e1 n1) (E56 _ _ (e4 _ _ (e3 _ _ z2))) ?_
  refine ((cz.same e6).same eF).mono fun c hc y => ?_
  rcases hc with hc | rfl
  · cases hz : H c with
    | none => exact hc hz
    | some o => rw [E4 _ _ hz] at y; cases y
  · rw [e4 _ _ (e3 _ _ z2)] at y
    cases y
end
def spPart (K : PySem.W.Frag) (n : Nat) : Sp := fun vs H Q _ => ∃ (a g : Addr) (ps gone : List Nat) (root : Nat), vs = [.ref a, .int root, .ref g] ∧ SqL K H a (natV ps) ∧ SqL K H g (natV gone) ∧ ps.length ≤ 7 ∧ n ≤ 20 ∧ root < ps.length ∧ ps.length ≤ root + n ∧ ∀ v H', Same H H' → Tv H' (Tr.lpart ps gone n root) v → Q v H'
theorem natV_at {ps : List Nat} {k : Nat} (h : k < ps.length) : atI (natV ps) (k : Int) = some (.int (ps.getD k 0 : Nat)) := by
  refine atI_nat (natV_get ?_)
  rw [List.getElem?_eq_getElem h, List.getD_eq_getElem?_getD, List.getElem?_eq_getElem h]
  rfl
theorem natV_flat (ps : List Nat) : (natV ps).all flatV = true := by
  unfold natV
  rw [List.all_map]
  exact List.all_eq_true.mpr fun _ _ => rfl
theorem natV_in (ps : List Nat) (k : Nat) : inV (.int (k : Int)) (natV ps) = ps.contains k := by
  unfold inV natV
  rw [List.any_map, List.contains_eq_any_beq]
  congr 1
  funext p
  show eqV (.int (p : Int)) (.int (k : Int)) = (k == p)
  show decide _ = _
  rw [Bool.eq_iff_iff]
  simp
  omega
section
variable {P : Program} {w : World} {K : PySem.W.Frag} {mg : Str → Option Value} {base : Heap} {f g g1 g2 g3 g4 g5 g6 : Addr} {fd gd gd1 gd2 gd3 gd4 gd5 gd6 : FuncData}
theorem sc__law_part : FnScope ["_law_parents_here", "_law_root", "_law_gone", "_law_boughs", "_law_k"] ["_law_parents_here", "_law_root", "_law_gone"] (defScope s__law_part) := ⟨rfl, rfl, rfl, by decide +kernel, rfl, by decide +kernel, by decide +kernel⟩
theorem ok__law_part (T__law_part : Fn K mg "_law_part" s__law_part ["_law_parents_here", "_law_root", "_law_gone"] f fd) (z_range : mg "range" = none) (z_len : mg "len" = none) (z_sorted : mg "sorted" = none) (z_tuple : mg "tuple" = none) : ∀ n, FnOk P w K mg base CX0 n f fd ["_law_parents_here", "_law_root", "_law_gone"] (spPart K n)
  | 0 => never_ok fun _ _ _ _ ⟨_, _, _, _, _, _, _, _, _, _, h1, h2, _⟩ => by omega
  | n + 1 => by
    have sc := sc__law_part
    have G__law_part := ok__law_part T__law_part z_range z_len z_sorted z_tuple n
    refine T__law_part.F.ok (k := n) sc (fun vs H Q E h => ?_) (fun cdv A outer s H vs Q E hr h => ?_)
    · obtain ⟨a, g, ps, gone, root, rfl, _⟩ := h
      rfl
    obtain ⟨a, gA, ps, gone, root, rfl, hS, hG, h7, hn, hroot, hfit, q⟩ := h
    refine ⟨_, (pss_cons (ps_set (i := 3) sc.nd rfl (Or.inl rfl) (pe_lst pa_nil))
  (pss_cons (ps_for PassesOwn.never rfl (pi_range2 rfl z_range (pa_cons (pe_op op_add (pv 1) pe_int) (pa_cons (pe_callB call_len_seq rfl z_len PySem.boot_len (pa_cons (pv 0) pa_nil)) pa_nil))) (pg_name (i := 4) sc.nd rfl (Or.inl rfl))
    (pss_one (ps_if (PW.pt (pw_and (pt_cmpR op_eq (pe_ix ix_list (pv 0) (pv 4) (fun _ _ => rfl)) (pv 1) (nomark _)) (pw_and1 (pt_cmpR op_notIn_seq (pv 4) (pv 2) rfl))))
      (pss_one (ps_expr (pe_bm PySem.F.plainAttrs_list PySem.F.slot_list_append PySem.F.type_list_append mt_append (pv 3) (pa_cons (pe_fn T__law_part G__law_part hr rfl (pa_cons (pv 0) (pa_cons (pv 4) (pa_cons (pv 2) pa_nil)))) pa_nil))))
      pss_nil)))
  (pss_one (ps_ret (pe_callTy call_tuple_of rfl z_tuple PyProof.Rows.boot_tuple (pa_cons (pe_rev (pe_callB (call_sort (by have := hr.units; exact this)) rfl z_sorted PyProof.Rows.boot_sorted (pa_cons (pv 3) pa_nil)) (pe_un un_neg pe_int)) pa_nil)))))), ?_⟩
    refine ⟨(by show 0 ≤ sizeLine; decide), fun l hl => ?_⟩
    generalize h1 : upd H l (.lst []) = H1
    obtain ⟨e1, z1⟩ := alloc_q h1 hl
    refine ⟨_, rfl, _, _, rfl, rfl, _, rfl, a, _, rfl, .inl (e1.seq hS), (root : Int) + 1, (ps.length : Int), ?_, ⟨by omega, by omega, by omega, by omega⟩, ?_⟩
    · rw [natV_len]
    rw [show ((ps.length : Int) - ((root : Int) + 1)).toNat = ps.length - (root + 1) by omega]
    refine for_range (n := ps.length - (root + 1)) (fun i σ H' => ∃ (r4 : Option V) (xs : List V), σ = [some (.ref a), some (.int root), some (.ref gA), some (.ref l), r4] ∧ Same H H' ∧ H' l = some (.lst xs) ∧ Ts H' (Tr.of ((Tr.hang ps gone root i).map (Tr.lpart ps gone n))) xs) ?_ ?_ ?_
    · exact ⟨_, [], rfl, e1, z1, Ts.nil⟩
    · rintro i σ H0 hi ⟨r4, xs, rfl, e0, zx, tx⟩
      have hk : root + 1 + i < ps.length := by omega
      have ek : (root : Int) + 1 + (i : Nat) = ((root + 1 + i : Nat) : Int) := by omega
      rw [ek]
      have hat := natV_at hk
      have hxl : xs.length ≤ 7 := by
        have := Tr.hang_len ps gone root i
        rw [tx.len, Tr.bs_of, List.length_map]
        omega
      refine ⟨_, rfl, _, rfl, a, _, _, _, rfl, rfl, e0.seq hS, hat, _, rfl, rfl, _, rfl, ite2 (fun c1 => ⟨_, rfl, _, rfl, gA, _, rfl, .inl (e0.seq hG), rfl, natV_flat gone, _, rfl, ite2 (fun c2 => ?_) (fun c2 => ?_)⟩) (fun c1 => iteF ?_)⟩
      · have hc1 : ps.getD (root + 1 + i) 0 = root := by
          have := of_decide_eq_true c1
          injection this with this
          omega
        have hc2 : gone.contains (root + 1 + i) = false := by
          rw [natV_in] at c2
          simpa using c2
        refine ⟨_, rfl, .inl ⟨rfl, _, SqL.of zx⟩, _, rfl, _, rfl, _, rfl, a, gA, ps, gone, root + 1 + i, rfl, e0.seq hS, e0.seq hG, h7, by omega, hk, by omega, fun v H2 e2 tv => ?_⟩
        have zx2 := e2 _ _ zx
        refine ⟨l, xs, v, rfl, rfl, zx2, size64 (by omega), ?_⟩
        have tu : TupS H2 (upd H2 l (.lst (xs ++ [v]))) := TupS.upd zx2
        refine ⟨_, xs ++ [v], rfl, fun b o z => ?_, upd_same, ?_⟩
        · rw [upd_ne (ne_of_none z hl)]
          exact e2 _ _ (e0 _ _ z)
        · have := (Ts.append (tx.same e2) (Ts.cons tv Ts.nil)).tups tu
          rw [Tr.hang_succ, hc1, hc2]
          simpa [Tr.bs_of, Tr.bs] using this
      · have hc2 : gone.contains (root + 1 + i) = true := by
          rw [natV_in] at c2
          simpa using c2
        refine ⟨_, xs, rfl, e0, zx, ?_⟩
        rw [Tr.hang_succ, hc2]
        simpa using tx
      · have hc1 : (ps.getD (root + 1 + i) 0 == root) = false := by
          refine Bool.eq_false_iff.mpr fun z => c1 ?_
          rw [beq_iff_eq] at z
          rw [z]
          exact decide_eq_true rfl
        refine ⟨_, xs, rfl, e0, zx, ?_⟩
        rw [Tr.hang_succ, hc1]
        simpa using tx
    · rintro σ H0 ⟨r4, xs, rfl, e0, zx, tx⟩
      have hxl : xs.length ≤ 7 := by
        have := Tr.hang_len ps gone root (ps.length - (root + 1))
        rw [tx.len, Tr.bs_of, List.length_map]
        omega
      refine ⟨_, rfl, l, xs, _, rfl, .inl (SqL.of zx), tx, by omega, ?_, fun l2 zs n2 hz => ?_⟩
      · refine (Tr.deep_of _ _).mpr fun c hc => ?_
        obtain ⟨k, _, rfl⟩ := List.mem_map.mp hc
        have := Tr.lpart_deep ps gone n k
        omega
      rw [Tr.bs_of] at hz
      have s2 := same_new n2 (.lst zs)
      refine ⟨_, rfl, l2, zs, rfl, rfl, SqL.of upd_same, fun l3 n3 => ?_⟩
      have s3 := same_new n3 (.lst zs.reverse)
      refine ⟨l3, _, rfl, .inl ⟨SqL.of upd_same, fun l4 n4 => ?_⟩⟩
      have s4 := same_new n4 (.tup zs.reverse)
      have e4 := s2.trans (s3.trans s4)
      refine q _ _ (e0.trans e4) ⟨l4, _, rfl, upd_same, ?_⟩
      have := (hz.same e4).rev
      rw [Tr.bs_of, List.reverse_reverse] at this
      exact this
end
def spAbove (K : PySem.W.Frag) : Sp := fun vs H Q _ => ∃ (a : Addr) (ps : List Nat) (k : Nat), vs = [.ref a, .int k] ∧ SqL K H a (natV ps) ∧ Tr.PsOk ps ∧ ps.length ≤ 7 ∧ k < ps.length ∧ ∀ l H', Same H H' → H l = none → H' l = some (.lst (natV (Tr.aboveL ps 7 k))) → Q (.ref l) H'
def muK (σ : St) : Nat := match σ with
  | [_, some (.int k), _] => k.toNat
  | _ => 0
theorem above_zero (ps : List Nat) : ∀ f, Tr.aboveL ps f 0 = []
  | 0 => rfl
  | f + 1 => by rw [Tr.aboveL, if_pos rfl]
theorem above_len (ps : List Nat) : ∀ f k, (Tr.aboveL ps f k).length ≤ f
  | 0, _ => Nat.le_refl _
  | f + 1, k => by
    rw [Tr.aboveL]
    by_cases h : k = 0
    · rw [if_pos h]; exact Nat.zero_le _
    · rw [if_neg h, List.length_cons]
      exact Nat.succ_le_succ (above_len ps f _)
theorem natV_app (ps : List Nat) (p : Nat) : natV ps ++ [V.int (p : Nat)] = natV (ps ++ [p]) := by unfold natV; rw [List.map_append]; rfl
section
variable {P : Program} {w : World} {K : PySem.W.Frag} {mg : Str → Option Value} {base : Heap} {f g g1 g2 g3 g4 g5 g6 : Addr} {fd gd gd1 gd2 gd3 gd4 gd5 gd6 : FuncData}
theorem sc__law_above : FnScope ["_law_parents_here", "_law_k", "_law_found"] ["_law_parents_here", "_law_k"] (defScope s__law_above) := ⟨rfl, rfl, rfl, by decide +kernel, rfl, by decide +kernel, by decide +kernel⟩
theorem ok__law_above (F : Fn K mg "_law_above" s__law_above ["_law_parents_here", "_law_k"] f fd) : FnOk P w K mg base CX0 1 f fd ["_law_parents_here", "_law_k"] (spAbove K) := by
  have sc := sc__law_above
  refine F.F.ok (k := 0) sc (fun vs H Q E h => ?_) (fun cdv A outer s H vs Q E hr h => ?_)
  · obtain ⟨a, ps, k, rfl, _⟩ := h
    rfl
  obtain ⟨a, ps, k, rfl, hS, hps, h7, hk, q⟩ := h
  refine ⟨_, (pss_cons (ps_set (i := 2) sc.nd rfl (Or.inl rfl) (pe_lst pa_nil))
  (pss_cons (ps_while PassesOwn.never (pt_cmpR op_gt (pv 1) pe_int (nomark _))
    (pss_cons (ps_set (i := 1) sc.nd rfl (Or.inl rfl) (pe_ix ix_list (pv 0) (pv 1) (fun _ _ => rfl)))
    (pss_one (ps_expr (pe_bm PySem.F.plainAttrs_list PySem.F.slot_list_append PySem.F.type_list_append mt_append (pv 2) (pa_cons (pv 1) pa_nil))))))
  (pss_one (ps_ret (pv 2))))), ?_⟩
  refine ⟨(by show 0 ≤ sizeLine; decide), fun l hl => ?_⟩
  generalize h1 : upd H l (.lst []) = H1
  obtain ⟨e1, z1⟩ := alloc_q h1 hl
  refine while_by (fun σ H' => ∃ (k' fu : Nat) (pre : List Nat), σ = [some (.ref a), some (.int k'), some (.ref l)] ∧ Same H H' ∧ H' l = some (.lst (natV pre)) ∧ k' ≤ fu ∧ k' < ps.length ∧ pre.length + fu = 7 ∧ pre ++ Tr.aboveL ps fu k' = Tr.aboveL ps 7 k) (fun σ _ => muK σ) ?_ ?_ ?_
  · exact ⟨k, 7, [], rfl, e1, z1, by omega, hk, rfl, rfl⟩
  · rintro σ H' ⟨k', fu, pre, rfl, e0, zl, hfu, hk', hpf, hpre⟩
    refine ⟨_, rfl, _, _, rfl, rfl, _, rfl, ite2 (fun c => ?_) (fun c => ?_)⟩
    · have hk0 : 0 < k' := by
        have := of_decide_eq_true c
        omega
      obtain ⟨fu, rfl⟩ : ∃ g, fu = g + 1 := ⟨fu - 1, by omega⟩
      have hp : ps.getD k' 0 < k' := by
        have h1 := hps.2 k' (ps.getD k' 0) (by rw [List.getD_eq_getElem?_getD, List.getElem?_eq_getElem hk']; rfl)
        omega
      refine ⟨_, rfl, _, rfl, a, _, _, _, rfl, rfl, e0.seq hS, natV_at hk', ?_⟩
      refine ⟨_, rfl, .inl ⟨rfl, _, SqL.of zl⟩, _, rfl, l, _, _, rfl, rfl, zl, size64 (by rw [natV_len]; omega), ?_⟩
      refine ⟨⟨ps.getD k' 0, fu, pre ++ [ps.getD k' 0], rfl, fun b o z => ?_, ?_, by omega, by omega, ?_, ?_⟩, ?_⟩
      · rw [upd_ne (ne_of_none z hl)]
        exact e0 _ _ z
      · rw [upd_same, natV_app]
      · rw [List.length_append, List.length_singleton]; omega
      · rw [← hpre, Tr.aboveL, if_neg (by omega), List.append_assoc]; rfl
      · show ((ps.getD k' 0 : Nat) : Int).toNat < ((k' : Nat) : Int).toNat
        rw [Int.toNat_natCast, Int.toNat_natCast]
        exact hp
    · have hk0 : k' = 0 := by
        have : ¬ ((k' : Int) > 0) := fun z => c (decide_eq_true z)
        omega
      subst hk0
      rw [above_zero, List.append_nil] at hpre
      refine ⟨_, rfl, q l H' e0 hl ?_⟩
      rw [zl, hpre]
  · exact fun σ H Q Q' hq ⟨v, e, i, j, e1, e2, k, e3, q⟩ => ⟨v, e, i, j, e1, e2, k, e3, hq _ _ q⟩
end
section
variable {X : Cx} {scope : Scope} {cl : List (Str × Addr)} {N : List Str} {C : Addr} {s₀ : Shared} {H₀ : Hp} {fp : List Addr} {scope' : Scope} {cl' : List (Str × Addr)} {N' : List Str} {C' : Addr} {s₀' : Shared} {H₀' : Hp} {fp' : List Addr}
theorem pi_listC {tg l : Expr} {tl : TE} (hl : PE (cxComp X scope cl N C s₀ H₀ fp) l tl) : PI (cxComp X scope cl N C s₀ H₀ fp) tg l (iList X.K tl) := pi_list hl
theorem op_in_seqCC : OpR (cxComp (cxComp X scope cl N C s₀ H₀ fp) scope' cl' N' C' s₀' H₀' fp') (compareOp .In) (rIn X.K false) := op_in_seq
end
theorem br_nats {K : PySem.W.Frag} {H : Hp} : ∀ is : List Nat, BrAll K H (is.map fun p => PyData.int (p : Nat)) (natV is)
  | [] => by unfold natV; rw [List.map_nil, List.map_nil, BrAll]
  | i :: r => by
    unfold natV
    rw [List.map_cons, List.map_cons, BrAll]
    exact ⟨_, _, rfl, by rw [Br], br_nats r⟩
theorem ok_nats (is : List Nat) : Ok 2 (.list (is.map fun p => PyData.int (p : Nat))) := .lst (.of fun d hd => by
  obtain ⟨i, _, rfl⟩ := List.mem_map.mp hd
  exact .int)
theorem ok_nil : Ok 2 (.list []) := .lst .nil
theorem eqv_nats (is : List Nat) : PyData.eqv (.list (is.map fun p => PyData.int (p : Nat))) (.list []) = is.isEmpty := by
  cases is with
  | nil => simp [PyData.eqv, PyData.eqvAll]
  | cons b r => simp [PyData.eqv, PyData.eqvAll]
theorem and_one (x : Nat) : Builtin.bitAnd (x : Int) 1 = ((x % 2 : Nat) : Int) := by
  unfold Builtin.bitAnd
  rw [decide_eq_true (Int.natCast_nonneg x), decide_eq_true (show (0 : Int) ≤ 1 by decide)]
  show (((Int.toNat (x : Int)) &&& (1 : Int).toNat : Nat) : Int) = _
  rw [Int.toNat_natCast, show (1 : Int).toNat = 1 from rfl, Nat.and_one_is_mod]
def goneTo (j m : Nat) : List Nat := ((List.range j).map fun i => 1 + i).filter fun k => m / 2 ^ (k - 1) % 2 == 1
theorem goneTo_succ (j m : Nat) : goneTo (j + 1) m = goneTo j m ++ if m / 2 ^ j % 2 = 1 then [1 + j] else [] := by
  unfold goneTo
  rw [List.range_succ, List.map_append, List.filter_append]
  congr 1
  rw [List.map_cons, List.map_nil, List.filter_cons, List.filter_nil, show 1 + j - 1 = j by omega]
  by_cases h : m / 2 ^ j % 2 = 1
  · rw [if_pos h, if_pos (by rw [beq_iff_eq]; exact h)]
  · rw [if_neg h, if_neg (by rw [beq_iff_eq]; exact h)]
theorem goneTo_len (j m : Nat) : (goneTo j m).length ≤ j := by
  unfold goneTo
  refine Nat.le_trans (List.length_filter_le _ _) ?_
  rw [List.length_map, List.length_range]
  exact Nat.le_refl _
theorem gone_mem {n m k : Nat} (h : k ∈ Tr.goneOf n m) : 0 < k ∧ k < n := by
  unfold Tr.goneOf at h
  obtain ⟨i, hi, rfl⟩ := List.mem_map.mp (List.mem_filter.mp h).1
  have := List.mem_range.mp hi
  omega
theorem due_succ (ps : List Nat) (m : Nat) : Tr.dueTo ps (m + 1) = Tr.dueTo ps m ++ if Tr.anti ps (Tr.goneOf ps.length m) = true then [Tr.cutOf ps (Tr.goneOf ps.length m)] else [] := by
  unfold Tr.dueTo
  rw [List.range_succ, List.map_append, List.filter_append, List.map_append]
  congr 1
  rw [List.map_cons, List.map_nil, List.filter_cons, List.filter_nil]
  by_cases h : Tr.anti ps (Tr.goneOf ps.length m) = true
  · rw [if_pos h, if_pos h]; rfl
  · rw [if_neg h, if_neg h]; rfl
theorem due_le (ps : List Nat) (m : Nat) : (Tr.dueTo ps m).length ≤ m := by
  unfold Tr.dueTo
  rw [List.length_map]
  refine Nat.le_trans (List.length_filter_le _ _) ?_
  rw [List.length_map, List.length_range]
  exact Nat.le_refl _
theorem cutOf_deep (ps gone : List Nat) : (Tr.pr (Tr.cutOf ps gone)).deep ≤ 30 := by
  refine Tr.pr_deep ?_ ?_
  · have := Tr.lpart_deep ps gone 7 0
    unfold Tr.cutOf
    dsimp only
    omega
  · unfold Tr.cutOf
    dsimp only
    have : (Tr.of (Tr.srt (gone.map (Tr.lpart ps [] 7)))).deep ≤ 10 := (Tr.deep_of _ _).mpr fun c hc => by
      have hc := (Tr.perm_srt _).mem_iff.mp hc
      obtain ⟨k, _, rfl⟩ := List.mem_map.mp hc
      have := Tr.lpart_deep ps [] 7 k
      omega
    omega
theorem due_deep (ps : List Nat) : ∀ k ∈ (Tr.dueC ps).map Tr.pr, k.deep ≤ 30 := fun k hk => by
  obtain ⟨x, hx, rfl⟩ := List.mem_map.mp hk
  unfold Tr.dueC Tr.dueTo at hx
  obtain ⟨gone, _, rfl⟩ := List.mem_map.mp hx
  exact cutOf_deep ps gone
theorem pow_le {n : Nat} (h : n ≤ 7) : 2 ^ (n - 1) ≤ 64 := by
  have : 2 ^ (n - 1) ≤ 2 ^ 6 := Nat.pow_le_pow_right (by decide) (by omega)
  omega
def hit (ps gone : List Nat) (k : Nat) : Bool := ((Tr.aboveL ps 7 k).filter fun x => gone.contains x).isEmpty
theorem take_pred' {α : Type} {l : List α} {j : Nat} {x : α} (h : l[j]? = some x) : l.take (j + 1) = l.take j ++ [x] := by rw [List.take_succ, h]; rfl
def spDue (K : PySem.W.Frag) : Sp := fun vs H Q _ => ∃ (a : Addr) (v : V) (ps : List Nat), vs = [.ref a, v] ∧ SqL K H a (natV ps) ∧ Tr.PsOk ps ∧ ps.length ≤ 7 ∧ ∀ p p0 p1 H' ys, Same H H' → H p = none → H' p = some (.lst (.ref p0 :: ys)) → H' p0 = some (.tup [.non, .ref p1]) → H p1 = none → H' p1 = some (.lst [v]) →
  Cvs (fun c => H c ≠ none ∨ c = p1) H' (Tr.srt ((Tr.cutsN (Tr.grown ps)).map Tr.pr)).reverse ys → Q (.ref p) H'
section
variable {P : Program} {w : World} {K : PySem.W.Frag} {mg : Str → Option Value} {base : Heap} {f g g1 g2 g3 g4 g5 g6 : Addr} {fd gd gd1 gd2 gd3 gd4 gd5 gd6 : FuncData}
theorem sc__law_due : FnScope ["_law_parents_here", "_law_tree", "_law_many", "_law_found", "_law_number", "_law_gone", "_law_parts"] ["_law_parents_here", "_law_tree"] (defScope s__law_due) := ⟨rfl, rfl, rfl, by decide +kernel, rfl, by decide +kernel, by decide +kernel⟩
theorem ok__law_due (F : Fn K mg "_law_due" s__law_due ["_law_parents_here", "_law_tree"] f fd) (T__law_above : Fn K mg "_law_above" s__law_above ["_law_parents_here", "_law_k"] g1 gd1) (T__law_part : Fn K mg "_law_part" s__law_part ["_law_parents_here", "_law_root", "_law_gone"] g2 gd2)
    (G__law_above : FnOk P w K mg base CX0 8 g1 gd1 ["_law_parents_here", "_law_k"] (spAbove K)) (G__law_part : FnOk P w K mg base CX0 8 g2 gd2 ["_law_parents_here", "_law_root", "_law_gone"] (spPart K 7))
    (z_len : mg "len" = none) (z_range : mg "range" = none) (z_all : mg "all" = none) (z_sorted : mg "sorted" = none) : FnOk P w K mg base CX0 9 f fd ["_law_parents_here", "_law_tree"] (spDue K) := by
  have sc := sc__law_due
  refine F.F.ok (k := 8) sc (fun vs H Q E h => ?_) (fun cdv A outer s H vs Q E hr h => ?_)
  · obtain ⟨a, v, ps, rfl, _⟩ := h
    rfl
  obtain ⟨a, tv, ps, rfl, hS, hps, h7, q⟩ := h
  refine ⟨_, (pss_cons (ps_set (i := 2) sc.nd rfl (Or.inl rfl) (pe_callB call_len_seq rfl z_len PySem.boot_len (pa_cons (pv 0) pa_nil)))
  (pss_cons (ps_set (i := 3) sc.nd rfl (Or.inl rfl) (pe_lst pa_nil))
  (pss_cons (ps_for PassesOwn.never rfl (pi_range1 rfl z_range (pa_cons (pe_op op_shl pe_int (pe_op op_sub (pv 2) pe_int)) pa_nil)) (pg_name (i := 4) sc.nd rfl (Or.inr rfl))
    (pss_cons (ps_set (i := 5) sc.nd rfl (Or.inr rfl) (pe_compr [".0", "_law_k", "_law_number"] 1 [none, none, some 4] (pi_range2 rfl z_range (pa_cons pe_int (pa_cons (pv 2) pa_nil))) (fun _ _ _ _ _ => (pif_one (pt_cmpR op_eq (pe_op op_and (pe_op op_shr (pv 2) (pe_op op_sub (pv 1) pe_int)) pe_int) pe_int (nomark _)))) (fun _ _ _ _ _ => (pv 1))))
    (pss_one (ps_if (pt_val (pe_callB (call_all rfl) rfl z_all PyProof.Rows.boot_all (pa_cons (pe_compr [".0", "_law_k", "_law_parents_here", "_law_gone"] 1 [none, none, some 0, some 5] (pi_list (pv 5)) (fun _ _ _ _ _ => pif_nil) (fun _ _ _ _ _ => (pe_cmpR (op_eqDC (by have := hr.units; exact this)) (by exact (pe_compr [".0", "_law_one", "_law_gone"] 1 [none, none, some 3] (by exact (pi_listC (pe_fn T__law_above G__law_above hr rfl (pa_cons (pv 2) (pa_cons (pv 1) pa_nil))))) (fun _ _ _ _ _ => (pif_one (pt_cmpR op_in_seqCC (pv 1) (pv 2) rfl))) (fun _ _ _ _ _ => (pv 1)))) (pe_lst pa_nil) (nomark _)))) pa_nil)))
      (pss_cons (ps_set (i := 6) sc.nd rfl (Or.inl rfl) (pe_rev (pe_callB (call_sort (by have := hr.units; exact this)) rfl z_sorted PyProof.Rows.boot_sorted (pa_cons (pe_compr [".0", "_law_k", "_law_parents_here"] 1 [none, none, some 0] (pi_list (pv 5)) (fun _ _ _ _ _ => pif_nil) (fun _ _ _ _ _ => (pe_fn T__law_part G__law_part hr rfl (pa_cons (pv 2) (pa_cons (pv 1) (pa_cons (pe_lst pa_nil) pa_nil)))))) pa_nil)) (pe_un un_neg pe_int)))
      (pss_one (ps_expr (pe_bm PySem.F.plainAttrs_list PySem.F.slot_list_append PySem.F.type_list_append mt_append (pv 3) (pa_cons (pe_tup (pa_cons (pe_fn T__law_part G__law_part hr rfl (pa_cons (pv 0) (pa_cons pe_int (pa_cons (pv 5) pa_nil)))) (pa_cons (pv 6) pa_nil))) pa_nil)))))
      pss_nil))))
  (pss_one (ps_ret (pe_op op_cat (pe_lst (pa_cons (pe_tup (pa_cons pe_non (pa_cons (pe_lst (pa_cons (pv 1) pa_nil)) pa_nil))) pa_nil)) (pe_callB (call_sortC (by have := hr.units; exact this)) rfl z_sorted PyProof.Rows.boot_sorted (pa_cons (pv 3) pa_nil)))))))), ?_⟩
  have hp0 := hps.1
  refine ⟨_, rfl, a, _, rfl, .inl hS, ?_⟩
  rw [natV_len]
  refine ⟨(by show 0 ≤ sizeLine; decide), fun l hl => ?_⟩
  generalize h1 : upd H l (.lst []) = H1
  obtain ⟨e1, z1⟩ := alloc_q h1 hl
  refine ⟨_, rfl, _, _, rfl, rfl, _, _, rfl, rfl, ⟨by omega, by omega, by decide⟩, ((2 ^ (ps.length - 1) : Nat) : Int), ?_, ?_, ?_, ?_⟩
  · show [V.int (1 * 2 ^ (((ps.length : Nat) : Int) - 1).toNat)] = _
    rw [show (((ps.length : Nat) : Int) - 1).toNat = ps.length - 1 by omega, Int.one_mul, Int.natCast_pow]
    rfl
  · have := Int.natCast_nonneg (2 ^ (ps.length - 1)); omega
  · have := pow_le h7; omega
  rw [Int.toNat_natCast]
  refine for_range (n := 2 ^ (ps.length - 1)) (fun i σ H' => ∃ (r4 r5 r6 : Option V) (ys : List V), σ = [some (.ref a), some tv, some (.int ps.length), some (.ref l), r4, r5, r6] ∧ Same H H' ∧ H' l = some (.lst ys) ∧ Cvs (fun c => H c ≠ none ∨ c = l) H' ((Tr.dueTo ps i).map Tr.pr) ys) ?_ ?_ ?_
  · exact ⟨_, _, _, [], rfl, e1, z1, Cvs.nil⟩
  · rintro m σ H0 hm ⟨r4, r5, r6, ys, rfl, e0, zl, cy⟩
    rw [Int.zero_add]
    have hm64 : m < 64 := by have := pow_le h7; omega
    have hyl : ys.length ≤ 64 := by
      have h1 := cy.len
      have h2 := due_le ps m
      rw [List.length_map] at h1
      omega
    refine ⟨_, rfl, 1, (ps.length : Int), rfl, ⟨by decide, by decide, by omega, by omega⟩, fun D hD => ?_⟩
    rw [show ((ps.length : Int) - 1).toNat = ps.length - 1 by omega]
    refine comp_by (n := ps.length - 1) (fun j us H' => Same H0 H' ∧ us = natV (goneTo j m)) ?_ ?_ ?_
    · exact ⟨same_new hD _, rfl⟩
    · rintro j us H2 hj ⟨e2, rfl⟩ hD2
      have hgl := goneTo_len j m
      refine ⟨hj, size64 (by rw [natV_len]; omega), fun x H' y => ?_⟩
      obtain ⟨rfl, rfl⟩ := y
      rw [show (1 : Int) + (j : Nat) = ((1 + j : Nat) : Int) by omega]
      have hbit : Builtin.bitAnd ((m : Int) / 2 ^ (((1 + j : Nat) : Int) - 1).toNat) 1 = ((m / 2 ^ j % 2 : Nat) : Int) := by
        rw [show (((1 + j : Nat) : Int) - 1).toNat = j by omega, show (m : Int) / 2 ^ j = ((m / 2 ^ j : Nat) : Int) by rw [Int.natCast_ediv, Int.natCast_pow]; rfl, and_one]
      refine ⟨_, rfl, _, rfl, _, _, rfl, rfl, _, _, rfl, rfl, by omega, _, _, rfl, rfl, rfl, _, rfl, ite2 (fun c => ?_) (fun c => ?_)⟩
      · have hc : m / 2 ^ j % 2 = 1 := by
          have c := of_decide_eq_true c
          dsimp only at c
          rw [hbit] at c
          injection c with c
          omega
        refine ⟨_, rfl, hD2, cw_next hj ⟨fun b o z => ?_, ?_⟩⟩
        · rw [upd_ne (ne_of_none z hD)]
          exact e2 _ _ z
        · rw [goneTo_succ, if_pos hc, natV_app]
      · have hc : ¬ m / 2 ^ j % 2 = 1 := fun z => c (decide_eq_true (by
          show V.int _ = V.int 1
          rw [hbit, z]
          rfl))
        refine cw_skip hj hD2 ⟨e2, ?_⟩
        rw [goneTo_succ, if_neg hc, List.append_nil]
    · rintro us H2 ⟨e2, rfl⟩ hD2
      refine ⟨Nat.le_refl _, ?_⟩
      have hgE : goneTo (ps.length - 1) m = Tr.goneOf ps.length m := rfl
      rw [hgE] at hD2
      have hgl : (Tr.goneOf ps.length m).length ≤ 6 := by
        have := goneTo_len (ps.length - 1) m
        rw [hgE] at this
        omega
      have hgm : ∀ k, k ∈ Tr.goneOf ps.length m → 0 < k ∧ k < ps.length := fun k hk => gone_mem hk
      have hsucc := due_succ ps m
      generalize hg : Tr.goneOf ps.length m = gone at hD2 hgl hgm hsucc
      have E2 := e0.trans e2
      have gAt : SqL K H2 D (natV gone) := SqL.of hD2
      have hlD : l ≠ D := fun z => by rw [← z, zl] at hD; cases hD
      have z2l := e2 _ _ zl
      refine ⟨_, rfl, D, rfl, ⟨_, gAt⟩, fun D3 hD3 => comp_by (n := gone.length) (fun j us H' => Same H2 H' ∧ us = (gone.take j).map fun k => V.bl (hit ps gone k)) ?_ ?_ ?_⟩
      · exact ⟨same_new hD3 _, by rw [List.take_zero]; rfl⟩
      · rintro j us H4 hj ⟨e4, rfl⟩ hD4
        refine ⟨⟨_, (natV gone)[j]'(by rw [natV_len]; exact hj), SqL.of (e4 _ _ hD2), by simp [natV_len, hj]⟩, size64 (by simp; omega), fun x H' y => ?_⟩
        obtain ⟨rfl, y⟩ := y
        have hx := y _ (SqL.of (e4 _ _ hD2))
        obtain ⟨k, hk⟩ : ∃ k, gone[j]? = some k := ⟨_, List.getElem?_eq_getElem hj⟩
        rw [natV_get hk] at hx
        cases hx
        have hkm := hgm k (List.mem_of_getElem? hk)
        unfold tNoIf
        refine iteT ⟨_, rfl, _, rfl, a, ps, k, rfl, (E2.trans e4).seq hS, hps, h7, hkm.2, fun lA H5 e5 nA zA => ?_⟩
        have hal := above_len ps 7 k
        generalize hab : Tr.aboveL ps 7 k = ab at zA hal
        refine ⟨lA, rfl, ⟨_, SqL.of zA⟩, fun D6 hD6 => comp_by (n := ab.length) (fun i ws H' => Same H5 H' ∧ ws = natV ((ab.take i).filter fun x => gone.contains x)) ?_ ?_ ?_⟩
        · exact ⟨same_new hD6 _, by rw [List.take_zero]; rfl⟩
        · rintro i ws H7 hi ⟨e7, rfl⟩ hD7
          have hfl : ((ab.take i).filter fun x => gone.contains x).length ≤ 7 := by
            refine Nat.le_trans (List.length_filter_le _ _) ?_
            rw [List.length_take]
            omega
          refine ⟨⟨_, (natV ab)[i]'(by rw [natV_len]; exact hi), SqL.of (e7 _ _ zA), by simp [natV_len, hi]⟩, size64 (by rw [natV_len]; omega), fun x H' y => ?_⟩
          obtain ⟨rfl, y⟩ := y
          have hx := y _ (SqL.of (e7 _ _ zA))
          obtain ⟨o, ho⟩ : ∃ o, ab[i]? = some o := ⟨_, List.getElem?_eq_getElem hi⟩
          rw [natV_get ho] at hx
          cases hx
          refine ⟨_, rfl, _, rfl, D, natV gone, rfl, .inl ((e4.trans (e5.trans e7)).seq gAt), rfl, natV_flat gone, _, rfl, ite2 (fun c => ?_) (fun c => ?_)⟩
          · have hc : gone.contains o = true := by
              rw [if_neg (by decide), natV_in] at c
              exact c
            refine ⟨_, rfl, hD7, cw_next hi ⟨fun b u z => ?_, ?_⟩⟩
            · rw [upd_ne (ne_of_none z hD6)]
              exact e7 _ _ z
            · rw [take_pred' ho, List.filter_append, List.filter_cons, if_pos hc, List.filter_nil, natV_app]
          · have hc : ¬ gone.contains o = true := fun z => c (by
              rw [if_neg (by decide), natV_in]
              exact z)
            refine cw_skip hi hD7 ⟨e7, ?_⟩
            rw [take_pred' ho, List.filter_append, List.filter_cons, if_neg hc, List.filter_nil, List.append_nil]
        · rintro ws H7 ⟨e7, rfl⟩ hD7
          refine ⟨⟨_, SqL.of (e7 _ _ zA), by rw [natV_len]; exact Nat.le_refl _⟩, ?_⟩
          refine ⟨(by show 0 ≤ sizeLine; decide), fun q8 m8 => ?_⟩
          generalize h8 : upd H7 q8 (.lst []) = H8
          obtain ⟨e8, z8⟩ := alloc_q h8 m8
          rw [List.take_length] at hD7
          have E8 := e5.trans (e7.trans e8)
          refine ⟨.list ((ab.filter fun x => gone.contains x).map fun p => PyData.int (p : Nat)), .list [], by rw [Br]; exact ⟨D6, _, rfl, SqL.of (e8 _ _ hD7), br_nats _⟩, by rw [Br]; exact ⟨q8, [], rfl, SqL.of z8, by rw [BrAll]⟩, (ok_nats _).shaped (by decide), ok_nil.shaped (by decide), ?_⟩
          rw [if_neg (by decide), eqv_nats]
          refine ⟨E8 _ _ hD4, cw_next hj ⟨fun b o z => ?_, ?_⟩⟩
          · rw [upd_ne (ne_of_none z hD3)]
            exact E8 _ _ (e4 _ _ z)
          · rw [take_pred' hk, List.map_append, ← hab]
            rfl
      · rintro us H4 ⟨e4, rfl⟩ hD4
        refine ⟨⟨_, SqL.of (e4 _ _ hD2), by rw [natV_len]; exact Nat.le_refl _⟩, ?_⟩
        rw [List.take_length] at hD4
        refine ⟨D3, gone.map (hit ps gone), rfl, SqL.of (by rw [hD4, List.map_map]; rfl), _, rfl, ?_⟩
        have hall : ((gone.map (hit ps gone)).all id) = Tr.anti ps gone := by
          rw [List.all_map]
          rfl
        rw [hall]
        have E4 := E2.trans e4
        refine ite2 (fun c => ?_) (fun c => ?_)
        · rw [if_pos c] at hsucc
          have g4 : SqL K H4 D (natV gone) := e4.seq gAt
          refine ⟨_, rfl, D, rfl, ⟨_, g4⟩, fun D5 hD5 => comp_by (n := gone.length) (fun j us H' => Same H4 H' ∧ Ts H' (Tr.of ((gone.take j).map (Tr.lpart ps [] 7))) us) ?_ ?_ ?_⟩
          · exact ⟨same_new hD5 _, by rw [List.take_zero]; exact Ts.nil⟩
          · rintro j us H6 hj ⟨e6, tu⟩ hD6
            have hul : us.length ≤ 6 := by rw [tu.len, Tr.bs_of, List.length_map, List.length_take]; omega
            refine ⟨⟨_, (natV gone)[j]'(by rw [natV_len]; exact hj), e6.seq g4, by simp [natV_len, hj]⟩, size64 (by omega), fun x H' y => ?_⟩
            obtain ⟨rfl, y⟩ := y
            have hx := y _ (e6.seq g4)
            obtain ⟨k, hk⟩ : ∃ k, gone[j]? = some k := ⟨_, List.getElem?_eq_getElem hj⟩
            rw [natV_get hk] at hx
            cases hx
            have hkm := hgm k (List.mem_of_getElem? hk)
            unfold tNoIf
            refine iteT ⟨_, rfl, _, rfl, (by show 0 ≤ sizeLine; decide), fun q7 m7 => ?_⟩
            generalize h7' : upd H' q7 (.lst []) = H7
            obtain ⟨e7, z7⟩ := alloc_q h7' m7
            refine ⟨a, q7, ps, [], k, rfl, (E4.trans (e6.trans e7)).seq hS, SqL.of z7, h7, by decide, hkm.2, by omega, fun v H8 e8 tv8 => ?_⟩
            have E8 := e7.trans e8
            have hD8 := E8 _ _ hD6
            refine ⟨hD8, cw_next hj ⟨fun b o z => ?_, ?_⟩⟩
            · rw [upd_ne (ne_of_none z hD5)]
              exact E8 _ _ (e6 _ _ z)
            · have tu8 : TupS H8 (upd H8 D5 (.lst (us ++ [v]))) := TupS.upd hD8
              have := (Ts.append (tu.same E8) (Ts.cons tv8 Ts.nil)).tups tu8
              rw [take_pred' hk]
              simpa [Tr.bs_of, Tr.bs] using this
          · rintro us H6 ⟨e6, tu⟩ hD6
            rw [List.take_length] at tu
            have hul : us.length ≤ 6 := by rw [tu.len, Tr.bs_of, List.length_map]; omega
            refine ⟨⟨_, e6.seq g4, by rw [natV_len]; exact Nat.le_refl _⟩, ?_⟩
            refine ⟨D5, us, _, rfl, .inl (SqL.of hD6), tu, by omega, ?_, fun l7 zs n7 hz => ?_⟩
            · refine (Tr.deep_of _ _).mpr fun c hc => ?_
              obtain ⟨k, _, rfl⟩ := List.mem_map.mp hc
              have := Tr.lpart_deep ps [] 7 k
              omega
            rw [Tr.bs_of] at hz
            have s7 := same_new n7 (.lst zs)
            refine ⟨_, rfl, l7, zs, rfl, rfl, SqL.of upd_same, fun l8 n8 => ?_⟩
            generalize h8 : upd (upd H6 l7 (.lst zs)) l8 (.lst zs.reverse) = H8
            obtain ⟨e8, z8⟩ := alloc_q h8 n8
            have E8 := s7.trans e8
            have hz8 := (hz.same E8).rev
            rw [Tr.bs_of, List.reverse_reverse] at hz8
            have E48 := e6.trans E8
            have zl8 := E48 _ _ (e4 _ _ z2l)
            refine ⟨_, rfl, .inl ⟨rfl, _, SqL.of zl8⟩, _, rfl, _, rfl, a, D, ps, gone, 0, rfl, (E4.trans E48).seq hS, E48.seq g4, h7, by decide, hp0, by omega, fun v H9 e9 tv9 => ?_⟩
            refine ⟨_, rfl, (by show 2 ≤ sizeLine; decide), fun p10 n10 => ?_⟩
            generalize h10 : upd H9 p10 (.tup [v, .ref l8]) = H10
            have hB8 : ¬ (H l8 ≠ none ∨ l8 = l) := by
              rintro (z | z)
              · cases hz : H l8 with
                | none => exact z hz
                | some o =>
                  have := (s7.trans (Same.refl _)) _ _ (e6 _ _ (E4 _ _ hz))
                  rw [n8] at this
                  cases this
              · rw [z] at n8
                have := s7 _ _ (e6 _ _ (e4 _ _ z2l))
                rw [n8] at this
                cases this
            obtain ⟨e10, cv10⟩ := cv_new (B := fun c => H c ≠ none ∨ c = l) (x := Tr.cutOf ps gone) h10 n10 hB8 tv9 (e9 _ _ z8) (hz8.same e9)
            have E10 := E48.trans (e9.trans e10)
            have zl10 := (e9.trans e10) _ _ zl8
            refine ⟨l, ys, _, rfl, rfl, zl10, size64 (by omega), ?_⟩
            refine ⟨_, _, _, ys ++ [.ref p10], rfl, fun b o z => ?_, upd_same, ?_⟩
            · rw [upd_ne (ne_of_none z hl)]
              exact E10 _ _ (E4 _ _ z)
            · rw [hsucc, List.map_append]
              exact ((cy.same (e2.trans (e4.trans E10))).snoc cv10).upd (.inr rfl) zl10
        · rw [if_neg c, List.append_nil] at hsucc
          refine ⟨_, _, _, ys, rfl, E4, e4 _ _ z2l, ?_⟩
          rw [hsucc]
          exact cy.same (e2.trans e4)
  · rintro σ H4 ⟨r4, r5, r6, ys, rfl, e4, z4, cy⟩
    have hyl : ys.length ≤ 64 := by
      have h1 := cy.len
      have h2 := due_le ps (2 ^ (ps.length - 1))
      have h3 := pow_le h7
      rw [List.length_map] at h1
      omega
    refine ⟨_, rfl, (by show 1 ≤ sizeLine; decide), fun p1 n1 => ?_⟩
    generalize h5 : upd H4 p1 (.lst [tv]) = H5
    obtain ⟨e5, z5⟩ := alloc_q h5 n1
    refine ⟨(by show 2 ≤ sizeLine; decide), fun p0 n0 => ?_⟩
    generalize h6 : upd H5 p0 (.tup [.non, .ref p1]) = H6
    obtain ⟨e6, z6⟩ := alloc_q h6 n0
    refine ⟨(by show 1 ≤ sizeLine; decide), fun pL nL => ?_⟩
    generalize h7' : upd H6 pL (.lst [.ref p0]) = H7
    obtain ⟨e7, z7⟩ := alloc_q h7' nL
    have E7 := e5.trans (e6.trans e7)
    refine ⟨_, rfl, _, l, ys, _, rfl, SqL.of (E7 _ _ z4), (cy.avoid n1).same E7, by omega, due_deep ps, fun _ _ => Tr.due_runs hps h7, fun lS zs nS cz => ?_⟩
    generalize h8 : upd H7 lS (.lst zs) = H8
    obtain ⟨e8, z8⟩ := alloc_q h8 nS
    have hzl : zs.length ≤ 64 := by
      have h1 := cz.len
      have h2 := due_le ps (2 ^ (ps.length - 1))
      have h3 := pow_le h7
      rw [List.length_reverse, (Tr.perm_srt _).length_eq, List.length_map] at h1
      omega
    refine ⟨pL, lS, _, _, rfl, rfl, e8 _ _ z7, z8, Nat.le_of_lt (size64 (by simp; omega)), fun pF nF => ?_⟩
    have eF := same_new nF (.lst ([.ref p0] ++ zs))
    have E8F := e8.trans eF
    refine q pF p0 p1 _ zs (e4.trans (E7.trans E8F)) (none_of (e4.trans (E7.trans e8)) nF) upd_same (E8F _ _ (e7 _ _ z6)) (none_of e4 n1) (E8F _ _ (e7 _ _ (e6 _ _ z5))) ?_
    have cz : Cvs _ _ (Tr.srt ((Tr.dueC ps).map Tr.pr)).reverse zs := (cz.same e8).same eF
    rw [Tr.look13_of hps h7] at cz
    refine cz.mono fun c hc => ?_
    rcases hc with hc | hc
    · exact .inl (.inl hc)
    · exact .inr hc
end
structure CutL (B : Addr → Prop) (H : Hp) (t : Tr) (p p0 p1 : Addr) (v : V) (ys : List V) : Prop where
  whole : H p = some (.lst (.ref p0 :: ys))
  first : H p0 = some (.tup [.non, .ref p1])
  alone : H p1 = some (.lst [v])
  tree : Tv H t v
  cuts : Cvs B H (Tr.srt ((Tr.cutsN t).map Tr.pr)).reverse ys
theorem CutL.same {B : Addr → Prop} {H H' : Hp} {t : Tr} {p p0 p1 : Addr} {v : V} {ys : List V} (e : Same H H') (h : CutL B H t p p0 p1 v ys) : CutL B H' t p p0 p1 v ys := ⟨e _ _ h.whole, e _ _ h.first, e _ _ h.alone, h.tree.same e, h.cuts.same e⟩
theorem ts_not_first {H : Hp} {t : Tr} {p0 p1 : Addr} {r : List V} (z : H p0 = some (.tup [.non, .ref p1])) (h : Ts H t (.ref p0 :: r)) : False := by
  cases t with
  | nil => rw [Ts] at h; cases h
  | cons b r =>
    rw [Ts] at h
    obtain ⟨a, ys, q, e, h1, h2, _⟩ := h
    injection e with e1 e2
    cases e1
    rw [z] at h1
    cases h1
    cases b with
    | nil => rw [Ts] at h2; cases h2
    | cons b r =>
      rw [Ts] at h2
      obtain ⟨a, ys, q, e, _⟩ := h2
      injection e with e1 e2
      cases e1
theorem tv_not_first {H : Hp} {t : Tr} {p0 p1 : Addr} (z : H p0 = some (.tup [.non, .ref p1])) (h : Tv H t (.ref p0)) : False := by
  obtain ⟨a, ys, e, h1, h2⟩ := h
  cases e
  rw [z] at h1
  cases h1
  cases t with
  | nil => rw [Ts] at h2; cases h2
  | cons b r =>
    rw [Ts] at h2
    obtain ⟨a, ys, q, e, _⟩ := h2
    injection e with e1 e2
    cases e1
def keyD : Tr → PyData
  | .cons t (.cons u _) => .tuple [.tuple (datsOf t), .list (datsOf u)]
  | _ => .none
def cutsD (t : Tr) : PyData := .list (.tuple [.none, .list [.tuple (datsOf t)]] :: ((Tr.srt ((Tr.cutsN t).map Tr.pr)).reverse).map keyD)
theorem ok_lift {n m : Nat} {d : PyData} (h : Ok n d) (hm : n ≤ m) : Ok m d := ⟨h.1, Nat.le_trans h.2 hm⟩
theorem ok_tree {t : Tr} (h : t.knots ≤ 12) : Ok 20 (.tuple (datsOf t)) := by
  have h2 := Tr.deep_lt_knots t
  exact ok_lift (sm_dat 18 t (by omega) (by omega)).1.ok (by decide)
theorem knots_in {u c : Tr} (h : c ∈ u.bs) (hu : u.knots ≤ 12) : c.knots ≤ 12 := by
  have := Tr.knots_mem h
  omega
theorem dats_of' : ∀ l : List Tr, datsOf (Tr.of l) = l.map fun c => .tuple (datsOf c)
  | [] => rfl
  | c :: r => by rw [Tr.of, datsOf, List.map_cons, dats_of' r]
theorem ok_list {u : Tr} (h : u.knots ≤ 12) : Ok 21 (.list (datsOf u)) := .lst (.of fun d hd => by
  rw [← Tr.of_bs u, dats_of'] at hd
  obtain ⟨x, hx, rfl⟩ := List.mem_map.mp hd
  exact ok_tree (knots_in hx h))
theorem ok_cuts {t : Tr} (h : t.knots ≤ 7) : Ok 23 (cutsD t) := by
  refine .lst (.cons (.tup (.cons .non (.cons ((Ok.lst (.cons (ok_tree (by omega)) .nil) : Ok 21 _)) .nil))) (.of fun d hd => ?_))
  obtain ⟨k, hk, rfl⟩ := List.mem_map.mp hd
  have hk := (Tr.perm_srt _).mem_iff.mp (List.mem_reverse.mp hk)
  obtain ⟨x, hx, rfl⟩ := List.mem_map.mp hk
  have h1 := Tr.cuts_knots hx
  show Ok 22 (.tuple [.tuple (datsOf x.1), .list (datsOf x.2)])
  exact .tup (.cons (ok_lift (ok_tree (t := x.1) (by omega)) (by decide)) (.cons (ok_list (u := x.2) (by omega)) .nil))
theorem cvs_tl {B : Addr → Prop} {H : Hp} {k : Tr} {ks : List Tr} {v : V} {ys : List V} (h : Cvs B H (k :: ks) (v :: ys)) : Cvs B H ks ys := ⟨by have := h.len; simpa using this, fun i k' v' a b => h.at_ (i + 1) k' v' (by simpa using a) (by simpa using b)⟩
theorem br_keys {K : PySem.W.Frag} {B : Addr → Prop} {H : Hp} {l : Addr} (nT : ∀ xs, H l ≠ some (.tup xs)) : ∀ {ks : List Tr} {ys : List V}, Cvs B H ks ys → BrAll K H (ks.map keyD) ys
  | [], ys, h => by
    have := h.len
    rw [List.map_nil, BrAll]
    exact List.eq_nil_of_length_eq_zero this
  | k :: ks, [], h => by have := h.len; simp at this
  | k :: ks, v :: ys, h => by
    rw [List.map_cons, BrAll]
    refine ⟨v, ys, rfl, ?_, br_keys nT (cvs_tl h)⟩
    obtain ⟨a, l2, t, u, vt, xs, rfl, rfl, _, h1, h2, h3, h4⟩ := h.at_ 0 k v rfl rfl
    show Br K H (.tuple [.tuple (datsOf t), .list (datsOf u)]) (.ref a)
    rw [Br]
    refine ⟨a, _, rfl, SqT.of h1, ?_⟩
    rw [BrAll]
    refine ⟨_, _, rfl, (tv_dt nT h2).br, ?_⟩
    rw [BrAll]
    refine ⟨_, _, rfl, ?_, by rw [BrAll]⟩
    rw [Br]
    exact ⟨l2, xs, rfl, SqL.of h3, (ts_dt nT h4).br⟩
theorem CutL.br {K : PySem.W.Frag} {B : Addr → Prop} {H : Hp} {t : Tr} {p p0 p1 : Addr} {v : V} {ys : List V} (h : CutL B H t p p0 p1 v ys) : Br K H (cutsD t) (.ref p) := by
  have nT : ∀ xs, H p ≠ some (.tup xs) := fun xs z => by rw [h.whole] at z; cases z
  unfold cutsD
  rw [Br]
  refine ⟨p, _, rfl, SqL.of h.whole, ?_⟩
  rw [BrAll]
  refine ⟨_, _, rfl, ?_, br_keys nT h.cuts⟩
  rw [Br]
  refine ⟨p0, _, rfl, SqT.of h.first, ?_⟩
  rw [BrAll]
  refine ⟨_, _, rfl, by rw [Br], ?_⟩
  rw [BrAll]
  refine ⟨_, _, rfl, ?_, by rw [BrAll]⟩
  rw [Br]
  refine ⟨p1, _, rfl, SqL.of h.alone, ?_⟩
  rw [BrAll]
  exact ⟨_, _, rfl, (tv_dt nT h.tree).br, by rw [BrAll]⟩
theorem CutL.part {B : Addr → Prop} {H : Hp} {t : Tr} {p p0 p1 : Addr} {v : V} {ys : List V} (h : CutL B H t p p0 p1 v ys) {i : Nat} {x : V} (hx : (V.ref p0 :: ys)[i]? = some x) :
    ∃ (a l : Addr) (y : V) (xs : List V), x = .ref a ∧ H a = some (.tup [y, .ref l]) ∧ H l = some (.lst xs) ∧ l ≠ p ∧ (l = p1 ∨ ¬ B l) := by
  cases i with
  | zero =>
    cases hx
    refine ⟨p0, p1, _, _, rfl, h.first, h.alone, fun z => ?_, .inl rfl⟩
    have h1 := h.alone
    rw [z, h.whole] at h1
    injection h1 with h1
    injection h1 with h1
    injection h1 with h1 h2
    have ht := h.tree
    rw [← h1] at ht
    exact tv_not_first h.first ht
  | succ i =>
    have hx : ys[i]? = some x := by simpa using hx
    obtain ⟨k, _, a, l, t', u, vt, xs, rfl, rfl, hB, h1, h2, h3, h4⟩ := h.cuts.get hx
    refine ⟨a, l, _, _, rfl, h1, h3, fun z => ?_, .inr hB⟩
    rw [z, h.whole] at h3
    injection h3 with h3
    injection h3 with h3
    subst h3
    exact ts_not_first h.first h4
def spGood13 : Sp := fun vs H Q _ => ∃ (B B' : Addr → Prop) (pT pD : Addr) (t : Tr) (a0 a1 b0 b1 : Addr) (v v' : V) (ys zs : List V), vs = [.ref pT, .ref pD] ∧ CutL B H t pT a0 a1 v ys ∧ CutL B' H t pD b0 b1 v' zs ∧ t.knots ≤ 7 ∧ ∀ H', Same H H' → Q (.bl true) H'
section
variable {P : Program} {w : World} {K : PySem.W.Frag} {mg : Str → Option Value} {base : Heap} {f g g1 g2 g3 g4 g5 g6 : Addr} {fd gd gd1 gd2 gd3 gd4 gd5 gd6 : FuncData}
theorem sc__law_good : FnScope ["_law_found", "_law_due_here", "_law_cut"] ["_law_found", "_law_due_here"] (defScope s__law_good) := ⟨rfl, rfl, rfl, by decide +kernel, rfl, by decide +kernel, by decide +kernel⟩
theorem ok__law_good (F : Fn K mg "_law_good" s__law_good ["_law_found", "_law_due_here"] f fd) (z_isinstance : mg "isinstance" = none) (z_list : mg "list" = none) (z_tuple : mg "tuple" = none) (z_len : mg "len" = none) :
    FnOk P w K mg base CX0 1 f fd ["_law_found", "_law_due_here"] spGood13 := by
  have sc := sc__law_good
  refine F.F.ok (k := 0) sc (fun vs H Q E h => ?_) (fun cdv A outer s H vs Q E hr h => ?_)
  · obtain ⟨B, B', pT, pD, t, a0, a1, b0, b1, v, v', ys, zs, rfl, _⟩ := h
    rfl
  obtain ⟨B, B', pT, pD, t, a0, a1, b0, b1, v, v', ys, zs, rfl, hT, hD, hk, q⟩ := h
  refine ⟨_, (pss_cons (ps_if (PW.pt (pw_or (pt_not (pt_val (pe_callB call_isi rfl z_isinstance PyProof.Rows.boot_isinstance (pa_cons (pv 0) (pa_cons (pe_bltn (v := .ty "list") rfl z_list PyProof.Rows.boot_list rfl) pa_nil))))) (pw_or1 (pt_cmpR op_ne (pe_callB call_len_seq rfl z_len PySem.boot_len (pa_cons (pv 0) pa_nil)) (pe_callB call_len_seq rfl z_len PySem.boot_len (pa_cons (pv 1) pa_nil)) (nomark _)))))
    (pss_one (ps_ret pe_bl))
    pss_nil)
  (pss_cons (ps_for PassesOwn.never rfl (pi_list (pv 0)) (pg_name (i := 2) sc.nd rfl (Or.inl rfl))
    (pss_one (ps_if (PW.pt (pw_or (pt_not (pt_val (pe_callB call_isi rfl z_isinstance PyProof.Rows.boot_isinstance (pa_cons (pv 2) (pa_cons (pe_bltn (v := .ty "tuple") rfl z_tuple PyProof.Rows.boot_tuple rfl) pa_nil))))) (pw_or (pt_cmpR op_ne (pe_callB call_len_seq rfl z_len PySem.boot_len (pa_cons (pv 2) pa_nil)) pe_int (nomark _)) (pw_or1 (pt_not (pt_val (pe_callB call_isi rfl z_isinstance PyProof.Rows.boot_isinstance (pa_cons (pe_ix ix_tup (pv 2) pe_int (fun _ _ => rfl)) (pa_cons (pe_bltn (v := .ty "list") rfl z_list PyProof.Rows.boot_list rfl) pa_nil)))))))))
      (pss_one (ps_ret pe_bl))
      pss_nil)))
  (pss_one (ps_ret (pe_cmpR (op_eqD (by have := hr.units; exact this)) (pv 0) (pv 1) (nomark _)))))), ?_⟩
  have hl : ys.length = zs.length := by rw [hT.cuts.len, hD.cuts.len]
  have ok := ok_cuts hk
  refine ⟨_, rfl, _, _, _, _, rfl, nnt, TyOf.lst hT.whole, kit_ll K, true, rfl, iteF ⟨_, rfl, pT, _, rfl, .inl (SqL.of hT.whole), _, rfl, pD, _, rfl, .inl (SqL.of hD.whole), rfl, _, rfl, ite2 (fun z => ?_) fun _ => ?_⟩⟩
  · exfalso
    rw [List.length_cons, List.length_cons, hl] at z
    simp at z
  refine ⟨_, rfl, pT, rfl, ⟨_, SqL.of hT.whole⟩, for_list (xs := V.ref a0 :: ys) (fun _ σ H' => ∃ r2, σ = [some (.ref pT), some (.ref pD), r2] ∧ Same H H') ?_ ?_ ?_ ?_⟩
  · exact ⟨_, rfl, Same.refl _⟩
  · rintro i σ H' _ ⟨r2, rfl, e⟩
    exact SqL.of (e _ _ hT.whole)
  · rintro i x σ H' hx ⟨r2, rfl, e⟩
    obtain ⟨a, l, y, xs, rfl, h1, h2, _⟩ := (hT.same e).part hx
    refine ⟨_, rfl, _, _, _, _, rfl, nnt, TyOf.tup h1, kit_tt K, true, rfl, iteF ⟨_, rfl, a, _, rfl, .inr (SqT.of h1), rfl, _, rfl, iteF ⟨_, rfl, a, _, _, _, rfl, rfl, SqT.of h1, rfl, _, _, _, _, rfl, nnt, TyOf.lst h2, kit_ll K, true, rfl, iteF ?_⟩⟩⟩
    exact ⟨_, rfl, e⟩
  · rintro σ H' ⟨r2, rfl, e⟩
    refine ⟨_, rfl, _, rfl, _, _, (hT.same e).br, (hD.same e).br, ok.shaped (by decide), ok.shaped (by decide), ?_⟩
    rw [if_neg (by decide), eqv_self _ ok.1]
    exact q H' e
end
def spLaw (K : PySem.W.Frag) : Sp := fun vs H Q _ => ∃ (a : Addr) (ns : List Int), vs = [.ref a] ∧ SqL K H a (ns.map V.int) ∧ ns.length ≤ 63 ∧ ∀ H', Q (.bl true) H'
theorem cut_take' {xs : List V} {k : Nat} : cutV xs none (some (k : Int)) = xs.take k := by
  unfold cutV
  rw [HT.sIx_none, HT.sIx_nat, List.drop_zero, Nat.sub_zero]
  by_cases h : k ≤ xs.length
  · rw [Nat.min_eq_left h]
  · rw [Nat.min_eq_right (by omega), List.take_of_length_le (Nat.le_refl _), List.take_of_length_le (by omega)]
section
variable {P : Program} {w : World} {K : PySem.W.Frag} {mg : Str → Option Value} {base : Heap} {f g g1 g2 g3 g4 g5 g6 : Addr} {fd gd gd1 gd2 gd3 gd4 gd5 gd6 : FuncData}
theorem sc_law : FnScope ["_law_script", "_law_cells", "_law_k", "_law_parents_here", "_law_tree", "_law_due_here", "_law_found", "_law_cut"] ["_law_script"] (defScope s_law) := ⟨rfl, rfl, rfl, by decide +kernel, rfl, by decide +kernel, by decide +kernel⟩
theorem ok_law (F : Fn K mg "law" s_law ["_law_script"] f fd) (T__law_parents : Fn K mg "_law_parents" s__law_parents ["_law_rest_here", "_law_most"] g1 gd1) (T__law_rest : Fn K mg "_law_rest" s__law_rest ["_law_script", "_law_k"] g2 gd2) (T__law_grown : Fn K mg "_law_grown" s__law_grown ["_law_parents_here"] g3 gd3)
    (T__law_due : Fn K mg "_law_due" s__law_due ["_law_parents_here", "_law_tree"] g4 gd4) (T_tree_cuts : Fn K mg "tree_cuts" s_tree_cuts ["tree"] g5 gd5) (T__law_good : Fn K mg "_law_good" s__law_good ["_law_found", "_law_due_here"] g6 gd6)
    (G__law_parents : FnOk P w K mg base CX0 10 g1 gd1 ["_law_rest_here", "_law_most"] spParents) (G__law_rest : FnOk P w K mg base CX0 10 g2 gd2 ["_law_script", "_law_k"] (spCell K)) (G__law_grown : FnOk P w K mg base CX0 10 g3 gd3 ["_law_parents_here"] (spGrown K))
    (G__law_due : FnOk P w K mg base CX0 10 g4 gd4 ["_law_parents_here", "_law_tree"] (spDue K)) (G_tree_cuts : FnOk P w K mg base CX0 10 g5 gd5 ["tree"] spTreeCuts) (G__law_good : FnOk P w K mg base CX0 10 g6 gd6 ["_law_found", "_law_due_here"] spGood13)
    (z_len : mg "len" = none) (z_range : mg "range" = none) : FnOk P w K mg base CX0 11 f fd ["_law_script"] (spLaw K) := by
  have sc := sc_law
  refine F.F.ok (k := 10) sc (fun vs H Q E h => ?_) (fun cdv A outer s H vs Q E hr h => ?_)
  · obtain ⟨a, ns, rfl, _⟩ := h
    rfl
  obtain ⟨a, ns, rfl, hS, h63, q⟩ := h
  refine ⟨_, (pss_cons (ps_set (i := 1) sc.nd rfl (Or.inl rfl) (pe_op op_cat (pe_slice sl_list (pv 0) po_none (po_some pe_int)) (pe_lst (pa_cons pe_int pa_nil))))
  (pss_cons (ps_for PassesOwn.never rfl (pi_range1 rfl z_range (pa_cons (pe_callB call_len_seq rfl z_len PySem.boot_len (pa_cons (pv 1) pa_nil)) pa_nil)) (pg_name (i := 2) sc.nd rfl (Or.inl rfl))
    (pss_cons (ps_set (i := 3) sc.nd rfl (Or.inl rfl) (pe_fn T__law_parents G__law_parents hr rfl (pa_cons (pe_fn T__law_rest G__law_rest hr rfl (pa_cons (pv 1) (pa_cons (pv 2) pa_nil))) (pa_cons pe_int pa_nil))))
    (pss_cons (ps_set (i := 4) sc.nd rfl (Or.inl rfl) (pe_fn T__law_grown G__law_grown hr rfl (pa_cons (pv 3) pa_nil)))
    (pss_cons (ps_set (i := 5) sc.nd rfl (Or.inl rfl) (pe_fn T__law_due G__law_due hr rfl (pa_cons (pv 3) (pa_cons (pv 4) pa_nil))))
    (pss_cons (ps_set (i := 6) sc.nd rfl (Or.inl rfl) (pe_fn T_tree_cuts G_tree_cuts hr rfl (pa_cons (pv 4) pa_nil)))
    (pss_cons (ps_if (pt_not (pt_val (pe_fn T__law_good G__law_good hr rfl (pa_cons (pv 6) (pa_cons (pv 5) pa_nil)))))
      (pss_one (ps_ret pe_bl))
      pss_nil)
    (pss_cons (ps_for PassesOwn.never rfl (pi_list (pv 6)) (pg_name (i := 7) sc.nd rfl (Or.inl rfl))
      (pss_one (ps_expr (pe_bm0 PySem.F.plainAttrs_list PySem.F.slot_list_clear PySem.F.type_list_clear mt_clear (pe_ix ix_tup (pv 7) pe_int (fun _ _ => rfl))))))
    (pss_cons (ps_expr (pe_bm0 PySem.F.plainAttrs_list PySem.F.slot_list_clear PySem.F.type_list_clear mt_clear (pv 6)))
    (pss_one (ps_if (pt_not (pt_val (pe_fn T__law_good G__law_good hr rfl (pa_cons (pe_fn T_tree_cuts G_tree_cuts hr rfl (pa_cons (pv 4) pa_nil)) (pa_cons (pv 5) pa_nil)))))
      (pss_one (ps_ret pe_bl))
      pss_nil))))))))))
  (pss_one (ps_ret pe_bl)))), ?_⟩
  refine ⟨_, rfl, _, rfl, a, _, rfl, hS, fun p1 n1 => ⟨(by show 1 ≤ sizeLine; decide), fun p2 n2 => ?_⟩⟩
  have c6 : cutV (ns.map V.int) none (some 20) = (ns.map V.int).take 20 := cut_take' (k := 20)
  have hc6 : (cutV (ns.map V.int) none (some 20)).length ≤ 20 := by rw [c6, List.length_take]; omega
  refine ⟨p1, p2, _, _, rfl, rfl, same_new n2 _ _ _ upd_same, upd_same, ?_, fun p3 n3 => ?_⟩
  · exact Nat.le_of_lt (size64 (by simp only [List.length_cons, List.length_nil]; omega))
  have hms : cutV (ns.map V.int) none (some 20) ++ [V.int 0] = (ns.take 20 ++ [0]).map V.int := by
    rw [c6, List.map_append, List.map_take]; rfl
  have hml : (ns.take 20 ++ [0]).length ≤ 21 := by simp; omega
  rw [hms]
  generalize ns.take 20 ++ [0] = ms at hml
  generalize hH3 : upd _ p3 _ = H3
  have m3 : H3 p3 = some (.lst (ms.map V.int)) := by rw [← hH3, upd_same]
  clear hH3
  refine ⟨_, rfl, p3, _, rfl, .inl (SqL.of m3), ((ms.length : Nat) : Int), by rw [List.length_map], by omega, by omega, ?_⟩
  rw [Int.toNat_natCast]
  refine for_range (n := ms.length) (fun i σ H' => ∃ (r2 r3 r4 r5 r6 r7 : Option V), σ = [some (.ref a), some (.ref p3), r2, r3, r4, r5, r6, r7] ∧ Same H3 H') ?_ ?_ ?_
  · exact ⟨_, _, _, _, _, _, rfl, Same.refl _⟩
  · rintro i σ H0 hi ⟨r2, r3, r4, r5, r6, r7, rfl, e0⟩
    refine ⟨_, rfl, _, rfl, p3, ms, _, rfl, SqL.of (e0 _ _ m3), by omega, fun c => ⟨c, 7, rfl, by decide, by decide, fun l1 H1 ps e1 hps hp7 t1 => ?_⟩⟩
    have hp7' : ps.length ≤ 7 := by omega
    obtain ⟨hfall, hkn⟩ := Tr.fine_of hps hp7'
    have hkn7 : (Tr.grown ps).knots ≤ 7 := by omega
    refine ⟨_, rfl, l1, ps, rfl, SqL.of t1, hps, hp7', fun tv H2 e2 t2 => ?_⟩
    refine ⟨_, rfl, _, rfl, l1, tv, ps, rfl, SqL.of (e2 _ _ t1), hps, hp7', fun pD b0 b1 H4 zs e4 nD zD zb0 nb1 zb1 cD => ?_⟩
    have LD : CutL _ H4 (Tr.grown ps) pD b0 b1 tv zs := ⟨zD, zb0, zb1, t2.same e4, cD⟩
    have E4 := e0.trans (e1.trans (e2.trans e4))
    have t4 := t2.same e4
    refine ⟨_, rfl, tv, _, rfl, t4, hfall, hkn7, fun pT a0 a1 H5 ys e5 nT zT za0 na1 za1 cT => ?_⟩
    have LT : CutL _ H5 (Tr.grown ps) pT a0 a1 tv ys := ⟨zT, za0, za1, t4.same e5, cT⟩
    refine ⟨_, rfl, _, rfl, _, _, pT, pD, _, _, _, _, _, _, _, _, _, rfl, LT, LD.same e5, hkn7, fun H6 e6 => ⟨_, rfl, iteF ?_⟩⟩
    have L6 := LT.same e6
    have E46 := e5.trans e6
    refine ⟨_, rfl, pT, rfl, ⟨_, SqL.of L6.whole⟩, for_list (xs := V.ref a0 :: ys) (fun _ σ H' => ∃ r2 r3 r7, σ = [some (.ref a), some (.ref p3), r2, r3, some tv, some (.ref pD), some (.ref pT), r7] ∧ Same H4 H' ∧ TupS H6 H' ∧ H' pT = some (.lst (V.ref a0 :: ys)) ∧ (∀ c xs, H6 c = some (.lst xs) → ∃ xs', H' c = some (.lst xs'))) ?_ ?_ ?_ ?_⟩
    · exact ⟨_, _, _, rfl, E46, fun _ _ z => z, L6.whole, fun c xs z => ⟨xs, z⟩⟩
    · rintro j σ H' _ ⟨_, _, _, rfl, _, _, z, _⟩
      exact SqL.of z
    · rintro j x σ H' hx ⟨r2, r3, r7, rfl, s4, tu, zp, hl⟩
      obtain ⟨c, l, y, xs, rfl, h1, h2, hne, hB⟩ := L6.part hx
      obtain ⟨xs', h3⟩ := hl _ _ h2
      have h1' := tu _ _ h1
      have hl4 : H4 l = none := by
        rcases hB with rfl | hB
        · exact na1
        · cases hz : H4 l with
          | none => rfl
          | some o => exact absurd (.inl (fun z => by rw [hz] at z; cases z)) hB
      refine ⟨_, rfl, c, _, _, _, rfl, rfl, SqT.of h1', rfl, .inl ⟨rfl, _, SqL.of h3⟩, l, xs', rfl, rfl, h3, ?_⟩
      refine ⟨_, _, _, rfl, fun b o z => ?_, fun b o z => ?_, ?_, fun b us z => ?_⟩
      · rw [upd_ne (ne_of_none z hl4)]
        exact s4 _ _ z
      · exact (TupS.upd h3) _ _ (tu _ _ z)
      · rw [upd_ne (Ne.symm hne)]
        exact zp
      · by_cases hb : b = l
        · exact ⟨[], by rw [hb, upd_same]⟩
        · rw [upd_ne hb]
          exact hl _ _ z
    · rintro σ H7 ⟨r2, r3, r7, rfl, s4, tu, zp, hl⟩
      refine ⟨_, rfl, .inl ⟨rfl, _, SqL.of zp⟩, pT, _, rfl, rfl, zp, ?_⟩
      generalize h8 : upd H7 pT (.lst []) = H8
      have E8 : Same H4 H8 := fun b o z => by
        rw [← h8, upd_ne (ne_of_none z nT)]
        exact s4 _ _ z
      clear h8
      refine ⟨_, rfl, tv, _, rfl, t4.same E8, hfall, hkn7, fun pU c0 c1 H9 us e9 nU zU zc0 nc1 zc1 cU => ?_⟩
      have LU : CutL _ H9 (Tr.grown ps) pU c0 c1 tv us := ⟨zU, zc0, zc1, (t4.same E8).same e9, cU⟩
      refine ⟨_, rfl, _, _, pU, pD, _, _, _, _, _, _, _, _, _, rfl, LU, LD.same (E8.trans e9), hkn7, fun H10 e10 => ⟨_, rfl, iteF ?_⟩⟩
      exact ⟨_, _, _, _, _, _, rfl, E4.trans (E8.trans (e9.trans e10))⟩
  · rintro σ H' ⟨_, _, _, _, _, _, rfl, _⟩
    exact q H'
end
set_option maxHeartbeats 4000000 in
theorem all_mk {l : PySem.W.OpenLaw} {w : World} {K : PySem.W.Frag} {h : Heap} {mg : Str → Option Value} {fa f_is_tree f_refuse_no_tree f_in_falling_order f_tree_cuts f_cuts_within f__law_cell_at f__law_mixed f__law_rest f__law_parents f__law_grown f__law_above f__law_part f__law_due f__law_good f_law : Addr} (X : K.In h) (G : h.Ns mainGlobals mg) (hfa : mg "law" = some (.ref fa))
    {od_is_tree an_is_tree : Option Addr} {sl_is_tree : Array (Option Value)} {oc_is_tree kV_is_tree dc_is_tree pm_is_tree cd_is_tree ct_is_tree : Value}
    (a_is_tree : PySem.W.nsIn K mainGlobals "is_tree" = some (some (.ref f_is_tree))) (l_is_tree : K.lookup f_is_tree = some ⟨oc_is_tree, od_is_tree, .func (PySem.W.fnOf "is_tree" "is_tree" (defArgs s_is_tree) (defBody s_is_tree) (defScope s_is_tree) .none kV_is_tree dc_is_tree pm_is_tree an_is_tree cd_is_tree ct_is_tree), sl_is_tree⟩) (c_is_tree : PySem.W.codeIn K cd_is_tree "is_tree" = true) (k_is_tree : PySem.W.keepIn K (.ref f_is_tree) = true)
    {od_refuse_no_tree an_refuse_no_tree : Option Addr} {sl_refuse_no_tree : Array (Option Value)} {oc_refuse_no_tree kV_refuse_no_tree dc_refuse_no_tree pm_refuse_no_tree cd_refuse_no_tree ct_refuse_no_tree : Value}
    (a_refuse_no_tree : PySem.W.nsIn K mainGlobals "refuse_no_tree" = some (some (.ref f_refuse_no_tree))) (l_refuse_no_tree : K.lookup f_refuse_no_tree = some ⟨oc_refuse_no_tree, od_refuse_no_tree, .func (PySem.W.fnOf "refuse_no_tree" "refuse_no_tree" (defArgs s_refuse_no_tree) (defBody s_refuse_no_tree) (defScope s_refuse_no_tree) .none kV_refuse_no_tree dc_refuse_no_tree pm_refuse_no_tree an_refuse_no_tree cd_refuse_no_tree ct_refuse_no_tree), sl_refuse_no_tree⟩) (c_refuse_no_tree : PySem.W.codeIn K cd_refuse_no_tree "refuse_no_tree" = true) (k_refuse_no_tree : PySem.W.keepIn K (.ref f_refuse_no_tree) = true)
    {od_in_falling_order an_in_falling_order : Option Addr} {sl_in_falling_order : Array (Option Value)} {oc_in_falling_order kV_in_falling_order dc_in_falling_order pm_in_falling_order cd_in_falling_order ct_in_falling_order : Value}
    (a_in_falling_order : PySem.W.nsIn K mainGlobals "in_falling_order" = some (some (.ref f_in_falling_order))) (l_in_falling_order : K.lookup f_in_falling_order = some ⟨oc_in_falling_order, od_in_falling_order, .func (PySem.W.fnOf "in_falling_order" "in_falling_order" (defArgs s_in_falling_order) (defBody s_in_falling_order) (defScope s_in_falling_order) .none kV_in_falling_order dc_in_falling_order pm_in_falling_order an_in_falling_order cd_in_falling_order ct_in_falling_order), sl_in_falling_order⟩) (c_in_falling_order : PySem.W.codeIn K cd_in_falling_order "in_falling_order" = true) (k_in_falling_order : PySem.W.keepIn K (.ref f_in_falling_order) = true)
    {od_tree_cuts an_tree_cuts : Option Addr} {sl_tree_cuts : Array (Option Value)} {oc_tree_cuts kV_tree_cuts dc_tree_cuts pm_tree_cuts cd_tree_cuts ct_tree_cuts : Value}
    (a_tree_cuts : PySem.W.nsIn K mainGlobals "tree_cuts" = some (some (.ref f_tree_cuts))) (l_tree_cuts : K.lookup f_tree_cuts = some ⟨oc_tree_cuts, od_tree_cuts, .func (PySem.W.fnOf "tree_cuts" "tree_cuts" (defArgs s_tree_cuts) (defBody s_tree_cuts) (defScope s_tree_cuts) .none kV_tree_cuts dc_tree_cuts pm_tree_cuts an_tree_cuts cd_tree_cuts ct_tree_cuts), sl_tree_cuts⟩) (c_tree_cuts : PySem.W.codeIn K cd_tree_cuts "tree_cuts" = true) (k_tree_cuts : PySem.W.keepIn K (.ref f_tree_cuts) = true)
    {od_cuts_within an_cuts_within : Option Addr} {sl_cuts_within : Array (Option Value)} {oc_cuts_within kV_cuts_within dc_cuts_within pm_cuts_within cd_cuts_within ct_cuts_within : Value}
    (a_cuts_within : PySem.W.nsIn K mainGlobals "cuts_within" = some (some (.ref f_cuts_within))) (l_cuts_within : K.lookup f_cuts_within = some ⟨oc_cuts_within, od_cuts_within, .func (PySem.W.fnOf "cuts_within" "cuts_within" (defArgs s_cuts_within) (defBody s_cuts_within) (defScope s_cuts_within) .none kV_cuts_within dc_cuts_within pm_cuts_within an_cuts_within cd_cuts_within ct_cuts_within), sl_cuts_within⟩) (c_cuts_within : PySem.W.codeIn K cd_cuts_within "cuts_within" = true) (k_cuts_within : PySem.W.keepIn K (.ref f_cuts_within) = true)
    {od__law_cell_at an__law_cell_at : Option Addr} {sl__law_cell_at : Array (Option Value)} {oc__law_cell_at kV__law_cell_at dc__law_cell_at pm__law_cell_at cd__law_cell_at ct__law_cell_at : Value}
    (a__law_cell_at : PySem.W.nsIn K mainGlobals "_law_cell_at" = some (some (.ref f__law_cell_at))) (l__law_cell_at : K.lookup f__law_cell_at = some ⟨oc__law_cell_at, od__law_cell_at, .func (PySem.W.fnOf "_law_cell_at" "_law_cell_at" (defArgs s__law_cell_at) (defBody s__law_cell_at) (defScope s__law_cell_at) .none kV__law_cell_at dc__law_cell_at pm__law_cell_at an__law_cell_at cd__law_cell_at ct__law_cell_at), sl__law_cell_at⟩) (c__law_cell_at : PySem.W.codeIn K cd__law_cell_at "_law_cell_at" = true) (k__law_cell_at : PySem.W.keepIn K (.ref f__law_cell_at) = true)
    {od__law_mixed an__law_mixed : Option Addr} {sl__law_mixed : Array (Option Value)} {oc__law_mixed kV__law_mixed dc__law_mixed pm__law_mixed cd__law_mixed ct__law_mixed : Value}
    (a__law_mixed : PySem.W.nsIn K mainGlobals "_law_mixed" = some (some (.ref f__law_mixed))) (l__law_mixed : K.lookup f__law_mixed = some ⟨oc__law_mixed, od__law_mixed, .func (PySem.W.fnOf "_law_mixed" "_law_mixed" (defArgs s__law_mixed) (defBody s__law_mixed) (defScope s__law_mixed) .none kV__law_mixed dc__law_mixed pm__law_mixed an__law_mixed cd__law_mixed ct__law_mixed), sl__law_mixed⟩) (c__law_mixed : PySem.W.codeIn K cd__law_mixed "_law_mixed" = true) (k__law_mixed : PySem.W.keepIn K (.ref f__law_mixed) = true)
    {od__law_rest an__law_rest : Option Addr} {sl__law_rest : Array (Option Value)} {oc__law_rest kV__law_rest dc__law_rest pm__law_rest cd__law_rest ct__law_rest : Value}
    (a__law_rest : PySem.W.nsIn K mainGlobals "_law_rest" = some (some (.ref f__law_rest))) (l__law_rest : K.lookup f__law_rest = some ⟨oc__law_rest, od__law_rest, .func (PySem.W.fnOf "_law_rest" "_law_rest" (defArgs s__law_rest) (defBody s__law_rest) (defScope s__law_rest) .none kV__law_rest dc__law_rest pm__law_rest an__law_rest cd__law_rest ct__law_rest), sl__law_rest⟩) (c__law_rest : PySem.W.codeIn K cd__law_rest "_law_rest" = true) (k__law_rest : PySem.W.keepIn K (.ref f__law_rest) = true)
    {od__law_parents an__law_parents : Option Addr} {sl__law_parents : Array (Option Value)} {oc__law_parents kV__law_parents dc__law_parents pm__law_parents cd__law_parents ct__law_parents : Value}
    (a__law_parents : PySem.W.nsIn K mainGlobals "_law_parents" = some (some (.ref f__law_parents))) (l__law_parents : K.lookup f__law_parents = some ⟨oc__law_parents, od__law_parents, .func (PySem.W.fnOf "_law_parents" "_law_parents" (defArgs s__law_parents) (defBody s__law_parents) (defScope s__law_parents) .none kV__law_parents dc__law_parents pm__law_parents an__law_parents cd__law_parents ct__law_parents), sl__law_parents⟩) (c__law_parents : PySem.W.codeIn K cd__law_parents "_law_parents" = true) (k__law_parents : PySem.W.keepIn K (.ref f__law_parents) = true)
    {od__law_grown an__law_grown : Option Addr} {sl__law_grown : Array (Option Value)} {oc__law_grown kV__law_grown dc__law_grown pm__law_grown cd__law_grown ct__law_grown : Value}
    (a__law_grown : PySem.W.nsIn K mainGlobals "_law_grown" = some (some (.ref f__law_grown))) (l__law_grown : K.lookup f__law_grown = some ⟨oc__law_grown, od__law_grown, .func (PySem.W.fnOf "_law_grown" "_law_grown" (defArgs s__law_grown) (defBody s__law_grown) (defScope s__law_grown) .none kV__law_grown dc__law_grown pm__law_grown an__law_grown cd__law_grown ct__law_grown), sl__law_grown⟩) (c__law_grown : PySem.W.codeIn K cd__law_grown "_law_grown" = true) (k__law_grown : PySem.W.keepIn K (.ref f__law_grown) = true)
    {od__law_above an__law_above : Option Addr} {sl__law_above : Array (Option Value)} {oc__law_above kV__law_above dc__law_above pm__law_above cd__law_above ct__law_above : Value}
    (a__law_above : PySem.W.nsIn K mainGlobals "_law_above" = some (some (.ref f__law_above))) (l__law_above : K.lookup f__law_above = some ⟨oc__law_above, od__law_above, .func (PySem.W.fnOf "_law_above" "_law_above" (defArgs s__law_above) (defBody s__law_above) (defScope s__law_above) .none kV__law_above dc__law_above pm__law_above an__law_above cd__law_above ct__law_above), sl__law_above⟩) (c__law_above : PySem.W.codeIn K cd__law_above "_law_above" = true) (k__law_above : PySem.W.keepIn K (.ref f__law_above) = true)
    {od__law_part an__law_part : Option Addr} {sl__law_part : Array (Option Value)} {oc__law_part kV__law_part dc__law_part pm__law_part cd__law_part ct__law_part : Value}
    (a__law_part : PySem.W.nsIn K mainGlobals "_law_part" = some (some (.ref f__law_part))) (l__law_part : K.lookup f__law_part = some ⟨oc__law_part, od__law_part, .func (PySem.W.fnOf "_law_part" "_law_part" (defArgs s__law_part) (defBody s__law_part) (defScope s__law_part) .none kV__law_part dc__law_part pm__law_part an__law_part cd__law_part ct__law_part), sl__law_part⟩) (c__law_part : PySem.W.codeIn K cd__law_part "_law_part" = true) (k__law_part : PySem.W.keepIn K (.ref f__law_part) = true)
    {od__law_due an__law_due : Option Addr} {sl__law_due : Array (Option Value)} {oc__law_due kV__law_due dc__law_due pm__law_due cd__law_due ct__law_due : Value}
    (a__law_due : PySem.W.nsIn K mainGlobals "_law_due" = some (some (.ref f__law_due))) (l__law_due : K.lookup f__law_due = some ⟨oc__law_due, od__law_due, .func (PySem.W.fnOf "_law_due" "_law_due" (defArgs s__law_due) (defBody s__law_due) (defScope s__law_due) .none kV__law_due dc__law_due pm__law_due an__law_due cd__law_due ct__law_due), sl__law_due⟩) (c__law_due : PySem.W.codeIn K cd__law_due "_law_due" = true) (k__law_due : PySem.W.keepIn K (.ref f__law_due) = true)
    {od__law_good an__law_good : Option Addr} {sl__law_good : Array (Option Value)} {oc__law_good kV__law_good dc__law_good pm__law_good cd__law_good ct__law_good : Value}
    (a__law_good : PySem.W.nsIn K mainGlobals "_law_good" = some (some (.ref f__law_good))) (l__law_good : K.lookup f__law_good = some ⟨oc__law_good, od__law_good, .func (PySem.W.fnOf "_law_good" "_law_good" (defArgs s__law_good) (defBody s__law_good) (defScope s__law_good) .none kV__law_good dc__law_good pm__law_good an__law_good cd__law_good ct__law_good), sl__law_good⟩) (c__law_good : PySem.W.codeIn K cd__law_good "_law_good" = true) (k__law_good : PySem.W.keepIn K (.ref f__law_good) = true)
    {od_law an_law : Option Addr} {sl_law : Array (Option Value)} {oc_law kV_law dc_law pm_law cd_law ct_law : Value}
    (a_law : PySem.W.nsIn K mainGlobals "law" = some (some (.ref f_law))) (l_law : K.lookup f_law = some ⟨oc_law, od_law, .func (PySem.W.fnOf "law" "law" (defArgs s_law) (defBody s_law) (defScope s_law) .none kV_law dc_law pm_law an_law cd_law ct_law), sl_law⟩) (c_law : PySem.W.codeIn K cd_law "law" = true) (k_law : PySem.W.keepIn K (.ref f_law) = true)
    (y_len : PySem.W.nsIn K mainGlobals "len" = some none)
    (y_range : PySem.W.nsIn K mainGlobals "range" = some none)
    (y_abs : PySem.W.nsIn K mainGlobals "abs" = some none)
    (y_isinstance : PySem.W.nsIn K mainGlobals "isinstance" = some none)
    (y_tuple : PySem.W.nsIn K mainGlobals "tuple" = some none)
    (y_list : PySem.W.nsIn K mainGlobals "list" = some none)
    (y_sorted : PySem.W.nsIn K mainGlobals "sorted" = some none)
    (y_enumerate : PySem.W.nsIn K mainGlobals "enumerate" = some none)
    (y_all : PySem.W.nsIn K mainGlobals "all" = some none)
    : ∃ fd : FuncData, (∀ (s : Shared) (v : Value), BindsTo s fd ⟨[v], []⟩ [("_law_script", v)]) ∧ ∀ base : Heap, K.In base → base.Ns mainGlobals mg → FnOk l.prog w K mg base CX0 11 fa fd ["_law_script"] (spLaw K) := by
  have e := hfa.symm.trans (PySem.W.mg_of X G a_law)
  cases e
  have T_is_tree : Fn K mg "is_tree" s_is_tree ["thing"] _ _ := ⟨fun_mk (st := s_is_tree) l_is_tree c_is_tree k_is_tree, (fun_mk (st := s_is_tree) l_is_tree c_is_tree k_is_tree).binds (ps := ["thing"]) (fun _ _ _ _ _ _ us hl => match us, hl with | [_], _ => rfl), PySem.W.mg_of X G a_is_tree⟩
  have T_refuse_no_tree : Fn K mg "refuse_no_tree" s_refuse_no_tree ["thing"] _ _ := ⟨fun_mk (st := s_refuse_no_tree) l_refuse_no_tree c_refuse_no_tree k_refuse_no_tree, (fun_mk (st := s_refuse_no_tree) l_refuse_no_tree c_refuse_no_tree k_refuse_no_tree).binds (ps := ["thing"]) (fun _ _ _ _ _ _ us hl => match us, hl with | [_], _ => rfl), PySem.W.mg_of X G a_refuse_no_tree⟩
  have T_in_falling_order : Fn K mg "in_falling_order" s_in_falling_order ["boughs"] _ _ := ⟨fun_mk (st := s_in_falling_order) l_in_falling_order c_in_falling_order k_in_falling_order, (fun_mk (st := s_in_falling_order) l_in_falling_order c_in_falling_order k_in_falling_order).binds (ps := ["boughs"]) (fun _ _ _ _ _ _ us hl => match us, hl with | [_], _ => rfl), PySem.W.mg_of X G a_in_falling_order⟩
  have T_tree_cuts : Fn K mg "tree_cuts" s_tree_cuts ["tree"] _ _ := ⟨fun_mk (st := s_tree_cuts) l_tree_cuts c_tree_cuts k_tree_cuts, (fun_mk (st := s_tree_cuts) l_tree_cuts c_tree_cuts k_tree_cuts).binds (ps := ["tree"]) (fun _ _ _ _ _ _ us hl => match us, hl with | [_], _ => rfl), PySem.W.mg_of X G a_tree_cuts⟩
  have T_cuts_within : Fn K mg "cuts_within" s_cuts_within ["tree"] _ _ := ⟨fun_mk (st := s_cuts_within) l_cuts_within c_cuts_within k_cuts_within, (fun_mk (st := s_cuts_within) l_cuts_within c_cuts_within k_cuts_within).binds (ps := ["tree"]) (fun _ _ _ _ _ _ us hl => match us, hl with | [_], _ => rfl), PySem.W.mg_of X G a_cuts_within⟩
  have T__law_cell_at : Fn K mg "_law_cell_at" s__law_cell_at ["_law_script", "_law_k"] _ _ := ⟨fun_mk (st := s__law_cell_at) l__law_cell_at c__law_cell_at k__law_cell_at, (fun_mk (st := s__law_cell_at) l__law_cell_at c__law_cell_at k__law_cell_at).binds (ps := ["_law_script", "_law_k"]) (fun _ _ _ _ _ _ us hl => match us, hl with | [_, _], _ => rfl), PySem.W.mg_of X G a__law_cell_at⟩
  have T__law_mixed : Fn K mg "_law_mixed" s__law_mixed ["_law_cell", "_law_k"] _ _ := ⟨fun_mk (st := s__law_mixed) l__law_mixed c__law_mixed k__law_mixed, (fun_mk (st := s__law_mixed) l__law_mixed c__law_mixed k__law_mixed).binds (ps := ["_law_cell", "_law_k"]) (fun _ _ _ _ _ _ us hl => match us, hl with | [_, _], _ => rfl), PySem.W.mg_of X G a__law_mixed⟩
  have T__law_rest : Fn K mg "_law_rest" s__law_rest ["_law_script", "_law_k"] _ _ := ⟨fun_mk (st := s__law_rest) l__law_rest c__law_rest k__law_rest, (fun_mk (st := s__law_rest) l__law_rest c__law_rest k__law_rest).binds (ps := ["_law_script", "_law_k"]) (fun _ _ _ _ _ _ us hl => match us, hl with | [_, _], _ => rfl), PySem.W.mg_of X G a__law_rest⟩
  have T__law_parents : Fn K mg "_law_parents" s__law_parents ["_law_rest_here", "_law_most"] _ _ := ⟨fun_mk (st := s__law_parents) l__law_parents c__law_parents k__law_parents, (fun_mk (st := s__law_parents) l__law_parents c__law_parents k__law_parents).binds (ps := ["_law_rest_here", "_law_most"]) (fun _ _ _ _ _ _ us hl => match us, hl with | [_, _], _ => rfl), PySem.W.mg_of X G a__law_parents⟩
  have T__law_grown : Fn K mg "_law_grown" s__law_grown ["_law_parents_here"] _ _ := ⟨fun_mk (st := s__law_grown) l__law_grown c__law_grown k__law_grown, (fun_mk (st := s__law_grown) l__law_grown c__law_grown k__law_grown).binds (ps := ["_law_parents_here"]) (fun _ _ _ _ _ _ us hl => match us, hl with | [_], _ => rfl), PySem.W.mg_of X G a__law_grown⟩
  have T__law_above : Fn K mg "_law_above" s__law_above ["_law_parents_here", "_law_k"] _ _ := ⟨fun_mk (st := s__law_above) l__law_above c__law_above k__law_above, (fun_mk (st := s__law_above) l__law_above c__law_above k__law_above).binds (ps := ["_law_parents_here", "_law_k"]) (fun _ _ _ _ _ _ us hl => match us, hl with | [_, _], _ => rfl), PySem.W.mg_of X G a__law_above⟩
  have T__law_part : Fn K mg "_law_part" s__law_part ["_law_parents_here", "_law_root", "_law_gone"] _ _ := ⟨fun_mk (st := s__law_part) l__law_part c__law_part k__law_part, (fun_mk (st := s__law_part) l__law_part c__law_part k__law_part).binds (ps := ["_law_parents_here", "_law_root", "_law_gone"]) (fun _ _ _ _ _ _ us hl => match us, hl with | [_, _, _], _ => rfl), PySem.W.mg_of X G a__law_part⟩
  have T__law_due : Fn K mg "_law_due" s__law_due ["_law_parents_here", "_law_tree"] _ _ := ⟨fun_mk (st := s__law_due) l__law_due c__law_due k__law_due, (fun_mk (st := s__law_due) l__law_due c__law_due k__law_due).binds (ps := ["_law_parents_here", "_law_tree"]) (fun _ _ _ _ _ _ us hl => match us, hl with | [_, _], _ => rfl), PySem.W.mg_of X G a__law_due⟩
  have T__law_good : Fn K mg "_law_good" s__law_good ["_law_found", "_law_due_here"] _ _ := ⟨fun_mk (st := s__law_good) l__law_good c__law_good k__law_good, (fun_mk (st := s__law_good) l__law_good c__law_good k__law_good).binds (ps := ["_law_found", "_law_due_here"]) (fun _ _ _ _ _ _ us hl => match us, hl with | [_, _], _ => rfl), PySem.W.mg_of X G a__law_good⟩
  have T_law : Fn K mg "law" s_law ["_law_script"] _ _ := ⟨fun_mk (st := s_law) l_law c_law k_law, (fun_mk (st := s_law) l_law c_law k_law).binds (ps := ["_law_script"]) (fun _ _ _ _ _ _ us hl => match us, hl with | [_], _ => rfl), PySem.W.mg_of X G a_law⟩
  have z_len := PySem.W.mg_none_of X G y_len
  have z_range := PySem.W.mg_none_of X G y_range
  have z_abs := PySem.W.mg_none_of X G y_abs
  have z_isinstance := PySem.W.mg_none_of X G y_isinstance
  have z_tuple := PySem.W.mg_none_of X G y_tuple
  have z_list := PySem.W.mg_none_of X G y_list
  have z_sorted := PySem.W.mg_none_of X G y_sorted
  have z_enumerate := PySem.W.mg_none_of X G y_enumerate
  have z_all := PySem.W.mg_none_of X G y_all
  refine ⟨PySem.W.fnOf "law" "law" (defArgs s_law) (defBody s_law) (defScope s_law) .none kV_law dc_law pm_law an_law cd_law ct_law, fun s v => .of_eq rfl, fun base _ _ => ?_⟩
  have g_is := ok_is_tree (P := l.prog) (w := w) (base := base) T_is_tree z_isinstance z_tuple z_enumerate
  have g_ref := ok_refuse_no_tree T_refuse_no_tree T_is_tree (g_is 8)
  have g_in := ok_in_falling_order (P := l.prog) (w := w) (base := base) T_in_falling_order z_sorted z_tuple
  have g_cu := ok_cuts_within T_cuts_within T_in_falling_order g_in z_sorted
  have g_tc := ok_tree_cuts T_tree_cuts T_refuse_no_tree T_cuts_within g_ref (g_cu 8) z_sorted
  have g_ca := ok__law_cell_at (P := l.prog) (w := w) (base := base) T__law_cell_at z_len
  have g_mi := ok__law_mixed (P := l.prog) (w := w) (base := base) T__law_mixed
  have g_re := ok__law_rest T__law_rest T__law_cell_at T__law_mixed g_ca g_mi z_abs
  have g_pa := ok__law_parents (P := l.prog) (w := w) (base := base) T__law_parents z_range
  have g_gr := ok__law_grown (P := l.prog) (w := w) (base := base) T__law_grown z_range z_len z_sorted z_tuple
  have g_lp := ok__law_part (P := l.prog) (w := w) (base := base) T__law_part z_range z_len z_sorted z_tuple
  have g_ab := ok__law_above (P := l.prog) (w := w) (base := base) T__law_above
  have g_du := ok__law_due T__law_due T__law_above T__law_part (g_ab.mono (by decide)) ((g_lp 7).mono (by decide)) z_len z_range z_all z_sorted
  have g_go := ok__law_good (P := l.prog) (w := w) (base := base) T__law_good z_isinstance z_list z_tuple z_len
  exact ok_law T_law T__law_parents T__law_rest T__law_grown T__law_due T_tree_cuts T__law_good (g_pa.mono (by decide)) (g_re.mono (by decide)) (g_gr.mono (by decide)) (g_du.mono (by decide)) g_tc (g_go.mono (by decide)) z_len z_range
theorem walk {l : PySem.W.OpenLaw} {q : Program} {loose : List Str} {XP : (Str → Option Value) → Heap → Prop} {YP : World → Heap → Prop} {d : DefRec} {K : Params → PySem.W.Frag} (hn : l.most = some 63) (hdf : d.params.defaults = [])
    (hY : ∀ (w : World) (h : Heap), YP w h → (K w.params).In h)
    (F : ∀ (w : World) (mg : Str → Option Value) (fa : Addr) (h : Heap), (K w.params).In h → h.Ns mainGlobals mg → mg d.name = some (.ref fa) →
      ∃ fd : FuncData, (∀ (s : Shared) (u : Value), BindsTo s fd ⟨[u], []⟩ [("_law_script", u)]) ∧ ∀ base : Heap, (K w.params).In base → base.Ns mainGlobals mg → FnOk l.prog w (K w.params) mg base CX0 11 fa fd ["_law_script"] (spLaw (K w.params))) :
    PySem.W.WalkO q loose XP YP l.row.toRowW d [] (fun f vs => PySem.call f vs) :=
  L2.walk_of (n := 63) (k := 11) (x := "_law_script") (CX := fun _ => CX0) (sp := fun w => spLaw (K w.params)) hn (by decide) hdf ⟨rfl, by decide, by decide⟩ hY F (fun _ _ a ns hl _ hS => ⟨a, ns, rfl, hS, hl, fun _ => rfl⟩) fun _ _ _ _ _ z => z
end Q13
open PySem PySem.W PyProof.Rows
set_option maxRecDepth 100000 in
set_option maxHeartbeats 0 in
theorem PySem.Challenge.cw_stepgrove_k13_cuts_holds : PySem.Challenge.rw_stepgrove_k13_cuts.Holds := by
  w_on; o_law; k_head; (case hw => w_witness2)
  k_fill
  refine Q13.walk (l := PySem.Challenge.rw_stepgrove_k13_cuts) rfl rfl (fun w h Y => PySem.W.kIn_of Y) ?F
  case F =>
    intro w mg fa h KX G hmg
    refine' Q13.all_mk KX G hmg ?a_is_tree ?l_is_tree ?c_is_tree ?k_is_tree ?a_refuse_no_tree ?l_refuse_no_tree ?c_refuse_no_tree ?k_refuse_no_tree ?a_in_falling_order ?l_in_falling_order ?c_in_falling_order ?k_in_falling_order ?a_tree_cuts ?l_tree_cuts ?c_tree_cuts ?k_tree_cuts ?a_cuts_within ?l_cuts_within ?c_cuts_within ?k_cuts_within ?a__law_cell_at ?l__law_cell_at ?c__law_cell_at ?k__law_cell_at ?a__law_mixed ?l__law_mixed ?c__law_mixed ?k__law_mixed ?a__law_rest ?l__law_rest ?c__law_rest ?k__law_rest ?a__law_parents ?l__law_parents ?c__law_parents ?k__law_parents ?a__law_grown ?l__law_grown ?c__law_grown ?k__law_grown ?a__law_above ?l__law_above ?c__law_above ?k__law_above ?a__law_part ?l__law_part ?c__law_part ?k__law_part ?a__law_due ?l__law_due ?c__law_due ?k__law_due ?a__law_good ?l__law_good ?c__law_good ?k__law_good ?a_law ?l_law ?c_law ?k_law ?y_len ?y_range ?y_abs ?y_isinstance ?y_tuple ?y_list ?y_sorted ?y_enumerate ?y_all
    (case a_is_tree => k_is); (case l_is_tree => k_is); (case c_is_tree => k_is); (case k_is_tree => k_is)
    (case a_refuse_no_tree => k_is); (case l_refuse_no_tree => k_is); (case c_refuse_no_tree => k_is); (case k_refuse_no_tree => k_is)
    (case a_in_falling_order => k_is); (case l_in_falling_order => k_is); (case c_in_falling_order => k_is); (case k_in_falling_order => k_is)
    (case a_tree_cuts => k_is); (case l_tree_cuts => k_is); (case c_tree_cuts => k_is); (case k_tree_cuts => k_is)
    (case a_cuts_within => k_is); (case l_cuts_within => k_is); (case c_cuts_within => k_is); (case k_cuts_within => k_is)
    (case a__law_cell_at => k_is); (case l__law_cell_at => k_is); (case c__law_cell_at => k_is); (case k__law_cell_at => k_is)
    (case a__law_mixed => k_is); (case l__law_mixed => k_is); (case c__law_mixed => k_is); (case k__law_mixed => k_is)
    (case a__law_rest => k_is); (case l__law_rest => k_is); (case c__law_rest => k_is); (case k__law_rest => k_is)
    (case a__law_parents => k_is); (case l__law_parents => k_is); (case c__law_parents => k_is); (case k__law_parents => k_is)
    (case a__law_grown => k_is); (case l__law_grown => k_is); (case c__law_grown => k_is); (case k__law_grown => k_is)
    (case a__law_above => k_is); (case l__law_above => k_is); (case c__law_above => k_is); (case k__law_above => k_is)
    (case a__law_part => k_is); (case l__law_part => k_is); (case c__law_part => k_is); (case k__law_part => k_is)
    (case a__law_due => k_is); (case l__law_due => k_is); (case c__law_due => k_is); (case k__law_due => k_is)
    (case a__law_good => k_is); (case l__law_good => k_is); (case c__law_good => k_is); (case k__law_good => k_is)
    (case a_law => k_is); (case l_law => k_is); (case c_law => k_is); (case k_law => k_is)
    (case y_len => k_is)
    (case y_range => k_is)
    (case y_abs => k_is)
    (case y_isinstance => k_is)
    (case y_tuple => k_is)
    (case y_list => k_is)
    (case y_sorted => k_is)
    (case y_enumerate => k_is)
    (case y_all => k_is)
#print axioms PySem.Challenge.cw_stepgrove_k13_cuts_holds
