import PyProof.Rows.All
import Wide.All
import OpenK.AllK
import Wide.FinOn
import Lean
import PyProof.EqAt
import PyProof.EqKinds
import PyProof.TupleCall
import PySem.Challenge.RW_stepgrove_k62_tables_sharpened
set_option Elab.async false
set_option linter.all false
set_option maxRecDepth 100000
namespace L2
open PySem PySem.Spec PyProof.Rows
abbrev Key := Sum Int Str
def keyIs : Key → Value → Bool
  | .inl k, v => Value.isInt k v
  | .inr x, v => Value.isStrOf x v
def keyH (w : World) : Key → Int
  | .inl k => hashInt k
  | .inr x => hashStr w x
theorem keyIs_shape : ∀ {k : Key} {v : Value}, keyIs k v = true → (∃ i t, k = Sum.inl i ∧ v = Value.int i t) ∨ (∃ x t, k = Sum.inr x ∧ v = Value.str x t)
  | .inl i, v, h => by
    obtain ⟨t, e⟩ := Value.isInt_shape (k := i) (v := v) h
    exact .inl ⟨i, t, rfl, e⟩
  | .inr x, v, h => by
    obtain ⟨t, e⟩ := Value.isStrOf_shape (x := x) (v := v) h
    exact .inr ⟨x, t, rfl, e⟩
theorem key_ll (a b : Int) : decide ((Sum.inl a : Key) = Sum.inl b) = (a == b) := by
  by_cases e : a = b
  · subst e; simp
  · have h : ¬ (Sum.inl a : Key) = Sum.inl b := fun q => e (Sum.inl.inj q)
    rw [decide_eq_false h]
    exact (beq_eq_false_iff_ne.mpr e).symm
theorem key_rr (a b : Str) : decide ((Sum.inr a : Key) = Sum.inr b) = decide (a = b) := by
  by_cases e : a = b
  · subst e; simp
  · have h : ¬ (Sum.inr a : Key) = Sum.inr b := fun q => e (Sum.inr.inj q)
    rw [decide_eq_false h, decide_eq_false e]
theorem key_lr (a : Int) (b : Str) : decide ((Sum.inl a : Key) = Sum.inr b) = false := decide_eq_false (fun q => nomatch q)
theorem key_rl (a : Str) (b : Int) : decide ((Sum.inr a : Key) = Sum.inl b) = false := decide_eq_false (fun q => nomatch q)
def mixKind (prog : Program) (w : World) : PySem.KeyKind prog w Key where
  is := keyIs
  hash := keyH w
  inj := fun v a b ha hb => by
    rcases keyIs_shape ha with ⟨i, t, rfl, rfl⟩ | ⟨x, t, rfl, rfl⟩
    · rcases keyIs_shape hb with ⟨j, u, rfl, e⟩ | ⟨y, u, rfl, e⟩
      · injection e with e1 _; rw [e1]
      · exact nomatch e
    · rcases keyIs_shape hb with ⟨j, u, rfl, e⟩ | ⟨y, u, rfl, e⟩
      · exact nomatch e
      · injection e with e1 _; rw [e1]
  byValue := fun k v h => by
    rcases keyIs_shape h with ⟨i, t, rfl, rfl⟩ | ⟨x, t, rfl, rfl⟩ <;> rfl
  pyHash := fun hv h => by
    rcases keyIs_shape hv with ⟨i, t, rfl, rfl⟩ | ⟨x, t, rfl, rfl⟩
    · exact wpAny_pyHash_int h
    · exact wpAny_pyHash_str h
  eqBool := fun hu hv h => by
    rcases keyIs_shape hu with ⟨i, t, rfl, rfl⟩ | ⟨x, t, rfl, rfl⟩
    · rcases keyIs_shape hv with ⟨j, u, rfl, rfl⟩ | ⟨y, u, rfl, rfl⟩
      · rw [key_ll] at h; exact wpAny_eqBool_int h
      · rw [key_lr] at h; exact SeqAt.EqAt.int_str i t y u _ _ _ _ h
    · rcases keyIs_shape hv with ⟨j, u, rfl, rfl⟩ | ⟨y, u, rfl, rfl⟩
      · rw [key_rl] at h; exact SeqAt.EqAt.str_int x t j u _ _ _ _ h
      · rw [key_rr] at h; exact wpAny_eqBool_str h
  «strs» := fun k x t v h => by
    rcases keyIs_shape h with ⟨i, u, rfl, e⟩ | ⟨y, u, rfl, e⟩
    · exact nomatch e
    · injection e with e1 _
      subst e1
      cases v <;> rfl
end L2
namespace L2
open PySem PySem.Spec PyProof.Rows
inductive V where
  | non | bl (b : Bool) | int (i : Int) | str (x : Str) | byt (b : Array UInt8) | flt (b : UInt64) | ref (a : Addr) | ty (n : String)
  deriving DecidableEq
def RelV : V → Value → Prop
  | .non, u => u = Value.none
  | .bl b, u => u = Value.bool b
  | .int i, u => ∃ t, u = Value.int i t
  | .str x, u => ∃ t, u = Value.str x t
  | .byt b, u => ∃ t, u = Value.bytes b t
  | .flt b, u => ∃ t, u = Value.float b t
  | .ref a, u => u = Value.ref a
  | .ty n, u => u = Value.type n
abbrev Vals : List V → List Value → Prop := Paired RelV
theorem Vals.length {xs : List V} {us : List Value} (r : Vals xs us) : xs.length = us.length := Paired.length r
theorem Vals.get : ∀ {xs : List V} {us : List Value} {i : Nat} {x : V}, Vals xs us → xs[i]? = some x → ∃ u, us[i]? = some u ∧ RelV x u
  | _, _, _, _, .nil, e => by simp at e
  | _, _, 0, _, .cons r _, e => by simp at e; subst e; exact ⟨_, rfl, r⟩
  | _, _, i + 1, x, .cons _ t, e => by
    obtain ⟨u, h1, h2⟩ := Vals.get (i := i) (x := x) t (by simpa using e)
    exact ⟨u, by simpa using h1, h2⟩
theorem Vals.set {x : V} {u : Value} (r : RelV x u) : ∀ {xs : List V} {us : List Value} (i : Nat), Vals xs us → Vals (xs.set i x) (us.set i u)
  | _, _, _, .nil => .nil
  | _, _, 0, .cons _ t => .cons r t
  | _, _, i + 1, .cons q t => .cons q (Vals.set r i t)
theorem Vals.append : ∀ {xs ys : List V} {us ws : List Value}, Vals xs us → Vals ys ws → Vals (xs ++ ys) (us ++ ws)
  | _, _, _, _, .nil, s => s
  | _, _, _, _, .cons r t, s => .cons r (Vals.append t s)
theorem Vals.take : ∀ {xs : List V} {us : List Value} (n : Nat), Vals xs us → Vals (xs.take n) (us.take n)
  | _, _, 0, _ => .nil
  | _, _, _ + 1, .nil => .nil
  | _, _, n + 1, .cons r t => .cons r (Vals.take n t)
theorem Vals.drop : ∀ {xs : List V} {us : List Value} (n : Nat), Vals xs us → Vals (xs.drop n) (us.drop n)
  | _, _, 0, r => r
  | _, _, _ + 1, .nil => .nil
  | _, _, n + 1, .cons _ t => Vals.drop n t
def RelO : Option V → Option Value → Prop
  | some v, some u => RelV v u
  | none, none => True
  | _, _ => False
def KV {κ : Type} : List (κ × V) → List (κ × Value) → Prop := Paired fun (p : κ × V) (q : κ × Value) => p.1 = q.1 ∧ RelV p.2 q.2
def kV : Key → V
  | .inl i => .int i
  | .inr x => .str x
inductive HO where
  | lst (xs : List V)
  | tup (xs : List V)
  | dK (kvs : List (Key × V)) | dT (kvs : List (List Key × V))
  | set (S : Int → Bool) (n : Nat)
  | ins (C dx : Addr) (fs : List (Str × V))
  | own (x : Addr)
  | xd (fs : List (Str × V))
  | met (f x : Addr)
  | rng (lo hi : Int)
  | frz (o : Obj) (u : HO)
  | tbl (ps : Array Value)
  | ext (φ : Heap → Prop)
abbrev Hp := Addr → Option HO
def upd (H : Hp) (a : Addr) (o : HO) : Hp := fun b => if b = a then some o else H b
theorem upd_same {H : Hp} {a : Addr} {o : HO} : upd H a o a = some o := by unfold upd; rw [if_pos rfl]
theorem upd_ne {H : Hp} {a b : Addr} {o : HO} (h : b ≠ a) : upd H a o b = H b := by unfold upd; rw [if_neg h]
theorem ne_of_none {H : Hp} {a b : Addr} {o : HO} (h : H a = some o) (h' : H b = none) : a ≠ b := by
  intro e; subst e; rw [h] at h'; cases h'
section
variable (P : Program) (w : World)
def ObjOk (H : Hp) (h : Heap) (a : Addr) : HO → Prop
  | .lst xs => xs.length ≤ sizeLine ∧ ∃ (its : List Value) (n : Nat), Vals xs its ∧ h.get? a = some { cls := .type "list", data := .seq its.toArray n }
  | .tup xs => xs.length ≤ sizeLine ∧ ∃ its : List Value, Vals xs its ∧ IsTup h a its.toArray
  | .dK kvs => kvs.length ≤ sizeLine ∧ (a == sysModules) = false ∧ ∃ vs, KV kvs vs ∧ h.DictOf (mixKind P w) a vs
  | .dT kvs => kvs.length ≤ sizeLine ∧ (a == sysModules) = false ∧ ∃ xs : List (List Key × Addr × Value),
      Paired (fun (p : List Key × V) (q : List Key × Addr × Value) => p.1 = q.1 ∧ H q.2.1 = some (.tup (p.1.map kV)) ∧ RelV p.2 q.2.2) kvs xs ∧
      ∃ o es ep, h.get? a = some o ∧ o.ExactDict ∧ o.data = .dict es ep ∧ es.toList = xs.map (entryOfKey (tupleKind (mixKind P w))) ∧ (xs.map (·.1)).Nodup
  | .set S n => h.SetOf (intKind P w) a S n
  | .ins C dx fs => H dx = some (.own a) ∧ fs.length ≤ 1000 ∧ dx ≠ a ∧ h.get? a = some (PySem.W.instObj C dx) ∧
      ∃ mA, h.Ns1 dx mA ∧ (∀ f, RelO (fs.lookup f) (mA f)) ∧ PySem.Within mA (fs.map (·.1))
  | .own _ => ∃ o, h.get? a = some o
  | .xd fs => ∃ mA, h.Ns1 a mA ∧ ∀ f, RelO (fs.lookup f) (mA f)
  | .rng lo hi => ∃ t u v, h.get? a = some { cls := .type "range", data := .fields #[.int lo t, .int hi u, .int 1 v] }
  | .frz o u => h.get? a = some o ∧ ObjOk H h a u
  | .tbl ps => h.get? a = some { cls := .none, data := .fields ps }
  | .met f x => h.get? a = some (PySem.W.methodObj (.ref f) (.ref x))
  | .ext φ => φ h ∧ (∃ o, h.get? a = some o) ∧ ∀ h1 h2 : Heap, φ h1 → (∀ o, h1.get? a = some o → h2.get? a = some o) → φ h2
def HOk (H : Hp) (h : Heap) : Prop := ∀ a o, H a = some o → ObjOk P w H h a o
end
section
variable {P : Program} {w : World} {H H' : Hp} {h h' : Heap} {a : Addr} {o : HO}
theorem ObjOk.lt (x : ObjOk P w H h a o) : a < h.objs.size := by
  cases o with
  | lst xs => obtain ⟨_, _, _, _, e⟩ := x; exact Heap.lt_size e
  | tup xs => obtain ⟨_, _, _, p⟩ := x; exact p.lt
  | dK kvs => obtain ⟨_, _, _, _, o, _, _, e, _⟩ := x; exact Heap.lt_size e
  | dT kvs => obtain ⟨_, _, _, _, o, _, _, e, _⟩ := x; exact Heap.lt_size e
  | set S n => obtain ⟨o, _, _, _, e, _⟩ := x; exact Heap.lt_size e
  | ins C dx fs => obtain ⟨_, _, _, e, _⟩ := x; exact Heap.lt_size e
  | own y => obtain ⟨_, e⟩ := x; exact Heap.lt_size e
  | xd fs => obtain ⟨_, ⟨_, _, _, e, _⟩, _⟩ := x; exact Heap.lt_size e
  | rng lo hi => obtain ⟨_, _, _, e⟩ := x; exact Heap.lt_size e
  | frz ob u => obtain ⟨e, _⟩ := x; exact Heap.lt_size e
  | tbl ps => exact Heap.lt_size (show h.get? a = some _ from x)
  | met f y => exact Heap.lt_size (show h.get? a = some _ from x)
  | ext φ => obtain ⟨_, ⟨_, e⟩, _⟩ := x; exact Heap.lt_size e
theorem Paired.mapP {α β : Type} {F G : α → β → Prop} : ∀ {l₁ : List α} {l₂ : List β}, Paired F l₁ l₂ → (∀ a b, F a b → G a b) → Paired G l₁ l₂
  | _, _, .nil, _ => .nil
  | _, _, .cons r t, f => .cons (f _ _ r) (Paired.mapP t f)
theorem ObjOk.stay (x : ObjOk P w H h a o) (k : ∀ b u, (b = a ∨ H b = some (.own a)) → h.get? b = some u → h'.get? b = some u)
    (ho : ∀ b, H b = some (.own a) → H' b = some (.own a)) (ht : ∀ b xs, H b = some (.tup xs) → H' b = some (.tup xs)) : ObjOk P w H' h' a o := by
  induction o with
  | lst xs => obtain ⟨z, its, n, r, e⟩ := x; exact ⟨z, its, n, r, k _ _ (.inl rfl) e⟩
  | tup xs => obtain ⟨z, its, r, ob, e, c⟩ := x; exact ⟨z, its, r, ob, k _ _ (.inl rfl) e, c⟩
  | dK kvs => obtain ⟨z, y, vs, r, ob, es, ep, e, c⟩ := x; exact ⟨z, y, vs, r, ob, es, ep, k _ _ (.inl rfl) e, c⟩
  | dT kvs =>
    obtain ⟨z, y, xs, r, ob, es, ep, e, c⟩ := x
    exact ⟨z, y, xs, Paired.mapP r fun p q z => ⟨z.1, ht _ _ z.2.1, z.2.2⟩, ob, es, ep, k _ _ (.inl rfl) e, c⟩
  | set S n => obtain ⟨ob, es, ep, t, e, c⟩ := x; exact ⟨ob, es, ep, t, k _ _ (.inl rfl) e, c⟩
  | ins C dx fs =>
    obtain ⟨d, z, ne, e, mA, ⟨od, es, ep, e2, c⟩, r⟩ := x
    exact ⟨ho _ d, z, ne, k _ _ (.inl rfl) e, mA, ⟨od, es, ep, k _ _ (.inr d) e2, c⟩, r⟩
  | own y => obtain ⟨ob, e⟩ := x; exact ⟨ob, k _ _ (.inl rfl) e⟩
  | xd fs => obtain ⟨mA, ⟨od, es, ep, e, c⟩, r⟩ := x; exact ⟨mA, ⟨od, es, ep, k _ _ (.inl rfl) e, c⟩, r⟩
  | rng lo hi => obtain ⟨t, u, v, e⟩ := x; exact ⟨t, u, v, k _ _ (.inl rfl) e⟩
  | frz ob u ih => obtain ⟨e, q⟩ := x; exact ⟨k _ _ (.inl rfl) e, ih q⟩
  | tbl ps =>
    have e : h.get? a = some { cls := .none, data := .fields ps } := x
    show h'.get? a = some { cls := .none, data := .fields ps }
    exact k a _ (.inl rfl) e
  | met f y =>
    have e : h.get? a = some (PySem.W.methodObj (.ref f) (.ref y)) := x
    show h'.get? a = some (PySem.W.methodObj (.ref f) (.ref y))
    exact k a _ (.inl rfl) e
  | ext φ => obtain ⟨p, ⟨o, e⟩, st⟩ := x; exact ⟨st _ _ p fun o q => k _ _ (.inl rfl) q, ⟨o, k _ _ (.inl rfl) e⟩, st⟩
theorem HOk.lt (x : HOk P w H h) (e : H a = some o) : a < h.objs.size := (x a o e).lt
theorem HOk.fresh (x : HOk P w H h) (e : h.objs.size ≤ a) : H a = none := by
  cases q : H a with
  | none => rfl
  | some u => exact absurd (Nat.lt_of_lt_of_le (x.lt q) e) (Nat.lt_irrefl _)
theorem HOk.kept (x : HOk P w H h) (k : ∀ b u, h.get? b = some u → h'.get? b = some u) : HOk P w H h' := fun a o e =>
  (x a o e).stay (fun b u _ q => k b u q) (fun _ q => q) fun _ _ q => q
theorem HOk.laid (x : HOk P w H h) (k : ∀ b u, h.get? b = some u → h'.get? b = some u) (hp : h.objs.size ≤ a) (new : ObjOk P w (upd H a o) h' a o) : HOk P w (upd H a o) h' := fun b u e => by
  have hn := x.fresh hp
  by_cases hb : b = a
  · subst hb; rw [upd_same] at e; cases e; exact new
  · rw [upd_ne hb] at e
    exact (x b u e).stay (fun c v _ q => k c v q) (fun c q => by rw [upd_ne (ne_of_none q hn)]; exact q) fun c xs q => by rw [upd_ne (ne_of_none q hn)]; exact q
end
def Rd (H : Hp) (a : Addr) (u : HO) : Prop := H a = some u ∨ ∃ o, H a = some (.frz o u)
theorem Rd.ok {P : Program} {w : World} {H : Hp} {h : Heap} {a : Addr} {u : HO} (r : Rd H a u) (x : HOk P w H h) : ObjOk P w H h a u := by
  rcases r with r | ⟨o, r⟩
  · exact x a u r
  · obtain ⟨_, q⟩ := x a _ r
    exact q
def Mut : Option HO → Prop
  | some (.lst _) => True
  | some (.dK _) => True
  | some (.dT _) => True
  | some (.set _ _) => True
  | some (.ins _ _ _) => True
  | some (.ext _) => True
  | _ => False
section
variable {P : Program} {w : World} {H : Hp} {h h' : Heap} {x e : Addr} {o' : HO}
theorem HOk.write (ok : HOk P w H h) (mu : Mut (H x)) (he : e = x ∨ H e = some (.own x)) (k : ∀ b u, b ≠ e → h.get? b = some u → h'.get? b = some u) (heo : ∃ u, h'.get? e = some u)
    (new : ObjOk P w (upd H x o') h' x o') : HOk P w (upd H x o') h' := fun b u q => by
  have nown : ∀ c y, H c = some (.own y) → c ≠ x := fun c y r z => by subst z; rw [r] at mu; exact mu
  have ntup : ∀ c xs, H c = some (.tup xs) → c ≠ x := fun c xs r z => by subst z; rw [r] at mu; exact mu
  by_cases hb : b = x
  · subst hb; rw [upd_same] at q; cases q; exact new
  · rw [upd_ne hb] at q
    by_cases hbe : b = e
    · have q' : H b = some (.own x) := by
        rcases he with z | z
        · exact absurd (hbe.trans z) hb
        · rw [hbe]; exact z
      rw [q] at q'; cases q'
      obtain ⟨v, hv⟩ := heo
      exact ⟨v, by rw [hbe]; exact hv⟩
    · refine (ok b u q).stay (fun c v hc r => k c v ?_ r) (fun c r => by rw [upd_ne (nown c b r)]; exact r) fun c xs r => by rw [upd_ne (ntup c xs r)]; exact r
      rcases hc with rfl | hc
      · exact hbe
      · rintro rfl
        rcases he with z | z
        · exact nown c b hc z
        · rw [hc] at z; cases z; exact hb rfl
end
structure Un (fs ex : List Addr) (H H' : Hp) (h h' : Heap) : Prop where
  keep : ∀ b o, h.get? b = some o → H b = none → b ∉ fs → b ∉ ex → h'.get? b = some o
  slot : ∀ b o, h.get? b = some o → H b = none → b ∈ fs → b ∉ ex → ∃ sl, h'.get? b = some { o with slots := sl }
  free : ∀ b o, h.get? b = some o → H b = none → b ∉ ex → H' b = none
  there : ∀ b o, h.get? b = some o → b ∉ ex → ∃ o', h'.get? b = some o'
  tups : ∀ b xs, H b = some (.tup xs) → H' b = some (.tup xs)
  frzs : ∀ b o u, H b = some (.frz o u) → H' b = some (.frz o u)
  tbls : ∀ b ps, H b = some (.tbl ps) → ∃ more, H' b = some (.tbl (ps ++ more))
section
variable {fs fs' ex ex' : List Addr} {H H1 H2 : Hp} {h h1 h2 h' : Heap} {a x e : Addr} {o : HO}
theorem Un.any (u : Un fs ex H H1 h h1) {b : Addr} {ob : Obj} (q : h.get? b = some ob) (n : H b = none) (hx : b ∉ ex) : ∃ sl, h1.get? b = some { ob with slots := sl } := by
  by_cases hb : b ∈ fs
  · exact u.slot b ob q n hb hx
  · exact ⟨ob.slots, u.keep b ob q n hb hx⟩
theorem Un.kept (k : ∀ b u, h.get? b = some u → h'.get? b = some u) : Un fs ex H H h h' :=
  ⟨fun b ob q _ _ _ => k b ob q, fun b ob q _ _ _ => ⟨ob.slots, k b ob q⟩, fun _ _ _ n _ => n, fun b ob q _ => ⟨ob, k b ob q⟩, fun _ _ q => q, fun _ _ _ q => q, fun _ ps q => ⟨#[], by rw [q]; simp⟩⟩
theorem Un.refl : Un fs ex H H h h := Un.kept fun _ _ q => q
theorem Un.laid (k : ∀ b u, h.get? b = some u → h'.get? b = some u) (hp : h.objs.size ≤ a) (hn : H a = none) : Un fs ex H (upd H a o) h h' where
  keep := fun b u q _ _ _ => k b u q
  slot := fun b u q _ _ _ => ⟨u.slots, k b u q⟩
  free := fun b u q n _ => by rw [upd_ne (Nat.ne_of_lt (Nat.lt_of_lt_of_le (Heap.lt_size q) hp))]; exact n
  there := fun b u q _ => ⟨u, k b u q⟩
  tups := fun b xs q => by rw [upd_ne (ne_of_none q hn)]; exact q
  frzs := fun b u xs q => by rw [upd_ne (ne_of_none q hn)]; exact q
  tbls := fun b ps q => ⟨#[], by rw [upd_ne (ne_of_none q hn), q]; simp⟩
theorem Un.write (mu : Mut (H x)) (he : e = x ∨ H e = some (.own x)) (k : ∀ b u, b ≠ e → h.get? b = some u → h'.get? b = some u) (heo : ∃ u, h'.get? e = some u) : Un fs ex H (upd H x o) h h' := by
  have hx : ∀ b, H b = none → b ≠ x := fun b n z => by subst z; rw [n] at mu; exact mu
  have hb : ∀ b, H b = none → b ≠ e := fun b n z => by
    subst z
    rcases he with r | r
    · exact hx b n r
    · rw [n] at r; cases r
  have hm : ∀ b u, H b = some u → ¬ Mut (some u) → b ≠ x := fun b u q nm z => by subst z; rw [q] at mu; exact nm mu
  refine ⟨fun b u q n _ _ => k b u (hb b n) q, fun b u q n _ _ => ⟨u.slots, k b u (hb b n) q⟩, fun b u q n _ => by rw [upd_ne (hx b n)]; exact n, fun b u q _ => ?_,
    fun b xs q => by rw [upd_ne (hm b _ q fun z => z)]; exact q, fun b u xs q => by rw [upd_ne (hm b _ q fun z => z)]; exact q, fun b ps q => ⟨#[], by rw [upd_ne (hm b _ q fun z => z), q]; simp⟩⟩
  by_cases hbe : b = e
  · subst hbe; exact heo
  · exact ⟨u, k b u hbe q⟩
end
def trk (h : Heap) (H : Hp) : List Addr := (List.range h.objs.size).filter fun a => (H a).isSome
def hidT (h : Heap) (H : Hp) : Heap := PySem.W.hideAll h (trk h H)
theorem hidT_size (h : Heap) (H : Hp) : (hidT h H).objs.size = h.objs.size := PySem.W.hideAll_size _ _
theorem hidT_get {h : Heap} {H : Hp} {b : Addr} {o : Obj} (e : h.get? b = some o) (n : H b = none) : (hidT h H).get? b = some o :=
  PySem.W.hideAll_get _ e fun hm => by
    have q : (H b).isSome = true := (List.mem_filter.mp hm).2
    rw [n] at q; simp at q
theorem of_hidT {h : Heap} {H : Hp} {b : Addr} {o : Obj} (e : (hidT h H).get? b = some o) : h.get? b = some o ∧ H b = none := by
  have e' : h.get? b = some o := PySem.W.of_hideAll (trk h H) e
  refine ⟨e', ?_⟩
  cases q : H b with
  | none => rfl
  | some x =>
    have hm : b ∈ trk h H := List.mem_filter.mpr ⟨List.mem_range.mpr (Heap.lt_size e'), by simp [q]⟩
    have z : (hidT h H).get? b = none := PySem.W.hideAll_none (trk h H) hm
    rw [z] at e; cases e
end L2
namespace L2
open PySem PySem.Spec PyProof.Rows
structure Mod (K : PySem.W.Frag) (mg : Str → Option Value) (base : Heap) : Prop where
  kin : K.In base
  glob : base.Ns mainGlobals mg
  blt : ∃ mb, base.Ns builtinsNs mb ∧ ∀ x : Str, x ≠ "__name__" → mb x = bootBuiltins x
  nolimit : base.NoLimit
structure Cx where
  prog : Program
  w : World
  K : PySem.W.Frag
  mg : Str → Option Value
  base : Heap
  A : Around
  N : List Str
  s₀ : Shared
  H₀ : Hp
  env : Env
  outer : List Env
  stack : List Env
  ex : List Addr
  fn : Str → Bool
  calm : Bool
  pn : List (Addr × Obj)
  xe : Value → Shared → Prop
def frs (l : List Env) : List Addr := l.filterMap (·.frame)
abbrev Cx.fs (X : Cx) : List Addr := frs X.outer
def Vis (sc : Scope) (x : Str) : Prop := sc.names.lookup x = some .local ∨ sc.names.lookup x = some .cell ∨ sc.names.lookup x = some .free
def Loc (sc : Scope) (x : Str) : Prop := sc.names.lookup x = some .local ∨ sc.names.lookup x = some .cell
def Look (env : Env) (h : Heap) (m : Str → Option Value) (x : Str) (u : Value) : Prop :=
  (env.kindOf x = some .local ∧ m x = some u) ∨ ((env.kindOf x = some .cell ∨ env.kindOf x = some .free) ∧ ∃ c, env.cells.lookup x = some c ∧ h.IsCell c (some u))
structure Cx.Ok (X : Cx) : Prop where
  mod : Mod X.K X.mg X.base
  kind : X.env.scope.kind = .function
  glob : X.env.globals = mainGlobals
  blt : X.env.builtins = builtinsNs
  above : X.s₀.heap.objs.size ≤ X.env.locals
  inj : ∀ x y c, X.env.cells.lookup x = some c → X.env.cells.lookup y = some c → x = y
  has : ∀ x, (X.env.kindOf x = some .cell ∨ X.env.kindOf x = some .free) → ∃ c, X.env.cells.lookup x = some c
  cab : ∀ x c, X.fn x = true → X.env.cells.lookup x = some c → X.s₀.heap.objs.size ≤ c
  hd : X.calm = true → X.A.handled = none
  frames : X.A.frames = some X.stack
  stk : X.stack = X.outer ∨ (X.stack = X.env :: X.outer ∧ X.env.frame = some X.env.locals)
  exf : ∀ b ∈ X.ex, b ≠ X.env.locals ∧ ∀ x c, X.env.cells.lookup x = some c → c ≠ b
  bs : ∀ b o, X.base.get? b = some o → X.s₀.heap.get? b = some o ∧ X.H₀ b = none
  bsz : X.base.objs.size ≤ X.s₀.heap.objs.size
  noex : ∀ b o, X.base.get? b = some o → b ∉ X.ex
  exfs : ∀ b ∈ X.ex, b ∉ X.fs
  funs : X.s₀.heap.FunFrames X.base X.outer
  frf : ∀ b ∈ X.fs, X.H₀ b = none
structure Inv (X : Cx) (pins : List (Addr × Obj)) (σ : List (Option V)) (H : Hp) (s : Shared) : Prop where
  ok : X.Ok
  os : s.os = X.s₀.os
  bare : AllBare s.gens
  base : Un X.fs X.ex X.H₀ H X.s₀.heap s.heap
  loc : ∃ m, s.heap.Ns X.env.locals m ∧ ∀ (i : Nat) (x : Str) (v : V), X.N[i]? = some x → σ[i]? = some (some v) → Vis X.env.scope x → ∃ u, RelV v u ∧ Look X.env s.heap m x u
  cell : ∀ x c, X.env.cells.lookup x = some c → ∃ v, s.heap.IsCell c v
  free : H X.env.locals = none
  freeC : ∀ x c, X.env.cells.lookup x = some c → H c = none
  pin : ∀ p ∈ X.pn ++ pins, s.heap.get? p.1 = some p.2 ∧ H p.1 = none ∧ p.1 ≠ X.env.locals ∧ p.1 ∉ X.fs ∧ ∀ v, p.2.data ≠ .cell v
  hok : HOk X.prog X.w H s.heap
  len : σ.length = X.N.length
section
variable {X : Cx} {pins : List (Addr × Obj)} {σ : List (Option V)} {H H' : Hp} {s : Shared} {h' : Heap}
theorem Cx.Ok.nofr (ok : X.Ok) {b : Addr} {o : Obj} (e : X.base.get? b = some o) : b ∉ X.fs := fun hb => by
  have := (ok.funs.mem hb).1
  rw [e] at this; cases this
theorem Inv.bs (I : Inv X pins σ H s) : ∀ b o, X.base.get? b = some o → s.heap.get? b = some o ∧ H b = none := fun b o e =>
  ⟨I.base.keep b o (I.ok.bs b o e).1 (I.ok.bs b o e).2 (I.ok.nofr e) (I.ok.noex b o e), I.base.free b o (I.ok.bs b o e).1 (I.ok.bs b o e).2 (I.ok.noex b o e)⟩
theorem Inv.bk (I : Inv X pins σ H s) : ∀ b o, X.base.get? b = some o → s.heap.get? b = some o := fun b o e => (I.bs b o e).1
theorem Inv.mod (I : Inv X pins σ H s) : Mod X.K X.mg X.base := I.ok.mod
theorem Inv.kIn (I : Inv X pins σ H s) : X.K.In s.heap := I.ok.mod.kin.keeps I.bk
theorem Inv.lt (I : Inv X pins σ H s) : X.env.locals < s.heap.objs.size := let ⟨_, hn, _⟩ := I.loc; hn.lt
theorem Inv.sz (I : Inv X pins σ H s) : X.s₀.heap.objs.size ≤ s.heap.objs.size := Nat.le_trans I.ok.above (Nat.le_of_lt I.lt)
theorem Inv.nofs (I : Inv X pins σ H s) {a : Addr} (h : s.heap.objs.size ≤ a) : a ∉ X.fs := fun hb => by
  obtain ⟨_, o, ho, _⟩ := I.ok.funs.mem hb
  exact absurd (Nat.lt_of_lt_of_le (Heap.lt_size ho) (Nat.le_trans I.sz h)) (Nat.lt_irrefl _)
theorem Inv.cne (I : Inv X pins σ H s) : ∀ x c, X.env.cells.lookup x = some c → c ≠ X.env.locals := fun x c e z => by
  obtain ⟨v, o, ho, hd⟩ := I.cell x c e
  obtain ⟨m, ⟨o', es, ep, ho', hd', _⟩, _⟩ := I.loc
  rw [z, ho'] at ho; cases ho; rw [hd'] at hd; cases hd
theorem Inv.funs (I : Inv X pins σ H s) : s.heap.FunFrames X.base X.outer := by
  have all : ∀ (l : List Env), (∀ b ∈ frs l, b ∈ X.fs) → X.s₀.heap.FunFrames X.base l → s.heap.FunFrames X.base l := by
    intro l
    induction l with
    | nil => intro _ _; trivial
    | cons env r ih =>
      intro hs hl
      obtain ⟨hk, ⟨L, o, hf, hn, ho, hd⟩, hr⟩ := hl
      have hL : L ∈ X.fs := hs L (by unfold frs; rw [List.filterMap_cons, hf]; exact List.mem_cons_self)
      obtain ⟨sl, e⟩ := I.base.slot L o ho (I.ok.frf L hL) hL fun z => I.ok.exfs L z hL
      exact ⟨hk, ⟨L, _, hf, hn, e, hd⟩, ih (fun b hb => hs b (by unfold frs; rw [List.filterMap_cons, hf]; exact List.mem_cons_of_mem _ hb)) hr⟩
  exact all X.outer (fun _ hb => hb) I.ok.funs
theorem Inv.stack (I : Inv X pins σ H s) : s.heap.FunFrames X.base X.stack := by
  rcases I.ok.stk with e | ⟨e, hf⟩
  · rw [e]; exact I.funs
  · rw [e]
    obtain ⟨m, hn, _⟩ := I.loc
    refine .cons (by rw [I.ok.kind]; decide) hf hn ?_ I.funs
    exact Heap.get?_none_of_le (Nat.le_trans I.ok.bsz I.ok.above)
theorem Inv.stkSub (I : Inv X pins σ H s) : ∀ b ∈ frs X.stack, b ∈ X.env.locals :: X.fs := fun b hb => by
  rcases I.ok.stk with e | ⟨e, hf⟩
  · rw [e] at hb; exact List.mem_cons_of_mem _ hb
  · rw [e] at hb
    unfold frs at hb
    rw [List.filterMap_cons, hf] at hb
    exact hb
theorem Inv.stkFree (I : Inv X pins σ H s) : ∀ b ∈ frs X.stack, H b = none := fun b hb => by
  rcases List.mem_cons.mp (I.stkSub b hb) with e | hb
  · rw [e]; exact I.free
  · obtain ⟨_, o, ho, _⟩ := I.ok.funs.mem hb
    exact I.base.free b o ho (I.ok.frf b hb) fun z => I.ok.exfs b z hb
theorem Inv.step {g' : Array GenState} {t' : Nat} {d' : Drawn} {ch : List Addr} (I : Inv X pins σ H s)
    (hch : ∀ b ∈ ch, (b ∈ X.ex ∨ X.s₀.heap.objs.size ≤ b) ∧ b ≠ X.env.locals ∧ (∀ x c, X.env.cells.lookup x = some c → c ≠ b) ∧ ∀ p ∈ X.pn ++ pins, p.1 ≠ b)
    (keep : ∀ b o, b ≠ X.env.locals → b ∉ X.fs → b ∉ ch → s.heap.get? b = some o → H b = none → h'.get? b = some o)
    (slot : ∀ b o, b ≠ X.env.locals → b ∈ X.fs → b ∉ ch → s.heap.get? b = some o → H b = none → ∃ sl, h'.get? b = some { o with slots := sl }) (free : ∀ b o, b ∉ ch → s.heap.get? b = some o → H b = none → H' b = none)
    (there : ∀ b o, b ∉ ch → s.heap.get? b = some o → ∃ o', h'.get? b = some o')
    (tups : ∀ b xs, H b = some (.tup xs) → H' b = some (.tup xs)) (frzs : ∀ b o u, H b = some (.frz o u) → H' b = some (.frz o u)) (tbls : ∀ b ps, H b = some (.tbl ps) → ∃ more, H' b = some (.tbl (ps ++ more)))
    (ns : ∀ m, s.heap.Ns X.env.locals m → h'.Ns X.env.locals m) (hok : HOk X.prog X.w H' h') (hg : AllBare g') :
    Inv X pins σ H' { s with heap := h', gens := g', drawn := d', toks := t' } := by
  have neL : ∀ b o, X.s₀.heap.get? b = some o → b ≠ X.env.locals := fun b o e => Nat.ne_of_lt (Nat.lt_of_lt_of_le (Heap.lt_size e) I.ok.above)
  have neC : ∀ b o, X.s₀.heap.get? b = some o → b ∉ X.ex → b ∉ ch := fun b o e hx hb => by
    rcases (hch b hb).1 with z | z
    · exact hx z
    · exact absurd (Nat.lt_of_lt_of_le (Heap.lt_size e) z) (Nat.lt_irrefl _)
  have cellK : ∀ x c, X.env.cells.lookup x = some c → ∀ v, s.heap.IsCell c v → h'.IsCell c v := fun x c e v ⟨o, ho, hd⟩ => by
    have nch : c ∉ ch := fun z => (hch c z).2.2.1 x c e rfl
    by_cases hc : c ∈ X.fs
    · obtain ⟨sl, q⟩ := slot c o (I.cne x c e) hc nch ho (I.freeC x c e)
      exact ⟨_, q, hd⟩
    · exact ⟨o, keep c o (I.cne x c e) hc nch ho (I.freeC x c e), hd⟩
  refine ⟨I.ok, I.os, hg, ⟨fun b o e n hb hx => ?_, fun b o e n hb hx => ?_, fun b o e n hx => ?_, fun b o e hx => ?_, fun b xs e => tups b xs (I.base.tups b xs e), fun b o xs e => frzs b o xs (I.base.frzs b o xs e), fun b ps e => ?_⟩, ?_, fun x c e => ?_, ?_, fun x c e => ?_, fun p hp => ?_, hok, I.len⟩
  · exact keep b o (neL b o e) hb (neC b o e hx) (I.base.keep b o e n hb hx) (I.base.free b o e n hx)
  · obtain ⟨sl, e1⟩ := I.base.slot b o e n hb hx
    obtain ⟨sl', e2⟩ := slot b _ (neL b o e) hb (neC b o e hx) e1 (I.base.free b o e n hx)
    exact ⟨sl', e2⟩
  · obtain ⟨o', e1⟩ := I.base.there b o e hx
    exact free b o' (neC b o e hx) e1 (I.base.free b o e n hx)
  · obtain ⟨o', e1⟩ := I.base.there b o e hx
    exact there b o' (neC b o e hx) e1
  · obtain ⟨m1, e1⟩ := I.base.tbls b ps e
    obtain ⟨m2, e2⟩ := tbls b _ e1
    exact ⟨m1 ++ m2, by rw [e2, Array.append_assoc]⟩
  · obtain ⟨m, hn, hl⟩ := I.loc
    refine ⟨m, ns m hn, fun i x v e1 e2 e3 => ?_⟩
    obtain ⟨u, r, l⟩ := hl i x v e1 e2 e3
    refine ⟨u, r, ?_⟩
    rcases l with l | ⟨k, c, e, z⟩
    · exact .inl l
    · exact .inr ⟨k, c, e, cellK x c e _ z⟩
  · obtain ⟨v, z⟩ := I.cell x c e
    exact ⟨v, cellK x c e v z⟩
  · obtain ⟨m, ⟨o, _, _, ho, _⟩, _⟩ := I.loc
    exact free _ o (fun z => (hch _ z).2.1 rfl) ho I.free
  · obtain ⟨v, o, ho, hd⟩ := I.cell x c e
    exact free c o (fun z => (hch c z).2.2.1 x c e rfl) ho (I.freeC x c e)
  · obtain ⟨e, n, ne, nf, d⟩ := I.pin p hp
    have nch : p.1 ∉ ch := fun z => (hch p.1 z).2.2.2 p hp rfl
    exact ⟨keep p.1 p.2 ne nf nch e n, free p.1 p.2 nch e n, ne, nf, d⟩
theorem Inv.un {t' : Nat} (I : Inv X pins σ H s) (u : Un X.fs [] H H' s.heap h') (hok : HOk X.prog X.w H' h') : Inv X pins σ H' { s with heap := h', toks := t' } := by
  obtain ⟨m, ⟨o, es, ep, ho, r⟩, _⟩ := id I.loc
  obtain ⟨sl, hL⟩ := u.any ho I.free (by simp)
  exact I.step (g' := s.gens) (d' := s.drawn) (ch := []) (fun _ z => nomatch z) (fun b o _ hb _ e n => u.keep b o e n hb (by simp)) (fun b o _ hb _ e n => u.slot b o e n hb (by simp)) (fun b o _ e n => u.free b o e n (by simp)) (fun b o _ e => u.there b o e (by simp)) u.tups u.frzs u.tbls (fun m' hm => by
    obtain ⟨o', es', ep', ho', r'⟩ := hm
    rw [ho] at ho'; cases ho'
    exact ⟨_, es', ep', hL, r'⟩) hok I.bare
theorem Inv.call {g' : Array GenState} {t' : Nat} {d' : Drawn} {ch : List Addr} (I : Inv X pins σ H s) (u : Un (frs X.stack) ch H H' s.heap h') (hok : HOk X.prog X.w H' h') (hg : AllBare g')
    (hch : ∀ b ∈ ch, (b ∈ X.ex ∨ X.s₀.heap.objs.size ≤ b) ∧ b ≠ X.env.locals ∧ (∀ x c, X.env.cells.lookup x = some c → c ≠ b) ∧ ∀ p ∈ X.pn ++ pins, p.1 ≠ b) :
    Inv X pins σ H' { s with heap := h', gens := g', drawn := d', toks := t' } := by
  obtain ⟨m, ⟨o, es, ep, ho, r⟩, _⟩ := id I.loc
  obtain ⟨sl, hL⟩ := u.any ho I.free fun z => (hch _ z).2.1 rfl
  exact I.step (ch := ch) hch (fun b o hL hb hc e n => u.keep b o e n (fun z => (List.mem_cons.mp (I.stkSub b z)).elim hL hb) hc) (fun b o _ _ hc e n => u.any e n hc) (fun b o hc e n => u.free b o e n hc) (fun b o hc e => u.there b o e hc) u.tups u.frzs u.tbls (fun m' hm => by
    obtain ⟨o', es', ep', ho', r'⟩ := hm
    rw [ho] at ho'; cases ho'
    exact ⟨_, es', ep', hL, r'⟩) hok hg
theorem Inv.turned {t' : Nat} {it : Addr} (I : Inv X pins σ H s) (k : ∀ b o, b ≠ it → s.heap.get? b = some o → h'.get? b = some o) (hn : H it = none) (hL : it ≠ X.env.locals)
    (h1 : it ∈ X.ex ∨ X.s₀.heap.objs.size ≤ it) (h2 : ∀ x c, X.env.cells.lookup x = some c → c ≠ it) (h3 : ∀ p ∈ X.pn ++ pins, p.1 ≠ it) : Inv X pins σ H { s with heap := h', toks := t' } := by
  have nit : ∀ b u, H b = some u → b ≠ it := fun b u e z => by rw [z, hn] at e; cases e
  refine I.step (g' := s.gens) (d' := s.drawn) (ch := [it]) (fun b hb => ?_) (fun b o _ _ hc e _ => k b o (fun z => hc (by simp [z])) e) (fun b o _ _ hc e _ => ⟨o.slots, k b o (fun z => hc (by simp [z])) e⟩) (fun _ _ _ _ n => n)
    (fun b o hc e => ⟨o, k b o (fun z => hc (by simp [z])) e⟩) (fun _ _ e => e) (fun _ _ _ e => e) (fun b ps e => ⟨#[], by rw [e]; simp⟩) (fun m hm => ?_) (fun b u e => ?_) I.bare
  · have e : b = it := by simpa using hb
    subst e
    exact ⟨h1, hL, h2, h3⟩
  · obtain ⟨o, es, ep, ho, r⟩ := hm
    exact ⟨o, es, ep, k _ o (Ne.symm hL) ho, r⟩
  · refine (I.hok b u e).stay (fun c v hc q => k c v ?_ q) (fun _ q => q) fun _ _ q => q
    rcases hc with z | z
    · rw [z]; exact nit b u e
    · exact nit c _ z
theorem Inv.tok (I : Inv X pins σ H s) (t : Nat) : Inv X pins σ H { s with toks := t } := I.un (h' := s.heap) (t' := t) Un.refl I.hok
theorem Inv.kept {t' : Nat} (I : Inv X pins σ H s) (k : ∀ b u, s.heap.get? b = some u → h'.get? b = some u) : Inv X pins σ H { s with heap := h', toks := t' } := I.un (Un.kept k) (I.hok.kept k)
theorem Inv.laid {a : Addr} {o : HO} {t' : Nat} (I : Inv X pins σ H s) (k : ∀ b u, s.heap.get? b = some u → h'.get? b = some u) (hp : s.heap.objs.size ≤ a) (new : ObjOk X.prog X.w (upd H a o) h' a o) :
    Inv X pins σ (upd H a o) { s with heap := h', toks := t' } := I.un (Un.laid k hp (I.hok.fresh hp)) (I.hok.laid k hp new)
theorem Inv.write {x e : Addr} {o : HO} {t' : Nat} (I : Inv X pins σ H s) (mu : Mut (H x)) (he : e = x ∨ H e = some (.own x)) (k : ∀ b u, b ≠ e → s.heap.get? b = some u → h'.get? b = some u) (heo : ∃ u, h'.get? e = some u)
    (new : ObjOk X.prog X.w (upd H x o) h' x o) : Inv X pins σ (upd H x o) { s with heap := h', toks := t' } := I.un (Un.write mu he k heo) (I.hok.write mu he k heo new)
theorem Inv.pins_of {pins' : List (Addr × Obj)} (I : Inv X pins σ H s) (h : ∀ p ∈ pins', s.heap.get? p.1 = some p.2 ∧ H p.1 = none ∧ p.1 ≠ X.env.locals ∧ p.1 ∉ X.fs ∧ ∀ v, p.2.data ≠ .cell v) : Inv X pins' σ H s :=
  ⟨I.ok, I.os, I.bare, I.base, I.loc, I.cell, I.free, I.freeC, fun p hp => (List.mem_append.mp hp).elim (fun z => I.pin p (List.mem_append_left _ z)) (h p), I.hok, I.len⟩
theorem nodup_ix {N : List Str} (hN : N.Nodup) {i j : Nat} {x : Str} (a : N[i]? = some x) (b : N[j]? = some x) : i = j := by
  obtain ⟨h1, e1⟩ := List.getElem?_eq_some_iff.mp a
  obtain ⟨h2, e2⟩ := List.getElem?_eq_some_iff.mp b
  exact (List.getElem_inj hN).mp (e1.trans e2.symm)
theorem store_ok2 {M : Model} {A : Around} {E : Value → Shared → Prop} {i : Nat} {x : Str} {v : V} {u : Value} {Q : Unit → Shared → Prop} (I : Inv X pins σ H s) (hN : X.N.Nodup) (hi : X.N[i]? = some x) (hx : Loc X.env.scope x) (r : RelV v u)
    (h : ∀ s', Inv X pins (σ.set i (some v)) H s' → (∃ a, Heap.SameBut a s.heap s'.heap ∧ (a = X.env.locals ∨ X.env.cells.lookup x = some a)) → Q () s') (hf : X.fn x = true ∨ X.env.scope.names.lookup x = some .local := by first | exact .inl rfl | exact .inr rfl | assumption) : wpAny M A (storeName X.env x u) Q E s := by
  obtain ⟨m, hn, hl⟩ := id I.loc
  have hcls : (X.env.scope.kind == .class || (X.env.scope.kind == .module && X.env.locals != X.env.globals)) = false := by rw [I.ok.kind]; rfl
  have hiσ : i < σ.length := by rw [I.len]; exact (List.getElem?_eq_some_iff.mp hi).1
  have cne := I.cne
  have tracked : ∀ {a : Addr} {h' : Heap}, (∃ o, s.heap.get? a = some o ∧ H a = none) → Heap.SameBut a s.heap h' → HOk X.prog X.w H h' := fun {a h'} ha hs b ob e => by
    obtain ⟨_, _, hfree⟩ := ha
    refine (I.hok b ob e).stay (fun c w' hc q => (hs.2 c ?_).trans q) (fun _ q => q) fun _ _ q => q
    rintro rfl
    rcases hc with rfl | hc
    · rw [hfree] at e; cases e
    · rw [hfree] at hc; cases hc
  rcases hx with hk | hk
  · refine wpAny_storeName_local hk hn (fun h' hn' hs => ?_) hcls
    obtain ⟨oL, _, _, hoL, _⟩ := id hn
    refine h _ ⟨I.ok, I.os, I.bare, ⟨fun b o e n hb hx => ?_, fun b o e n hb hx => ?_, I.base.free, fun b o e hx => ?_, I.base.tups, I.base.frzs, I.base.tbls⟩, ⟨_, hn', fun j y v' e1 e2 e3 => ?_⟩, fun y c e => ?_, I.free, I.freeC, fun p hp => ?_, tracked ⟨oL, hoL, I.free⟩ hs, by simpa using I.len⟩ ⟨_, hs, .inl rfl⟩
    · exact (hs.2 b (Nat.ne_of_lt (Nat.lt_of_lt_of_le (Heap.lt_size e) I.ok.above))).trans (I.base.keep b o e n hb hx)
    · obtain ⟨sl, e1⟩ := I.base.slot b o e n hb hx
      exact ⟨sl, (hs.2 b (Nat.ne_of_lt (Nat.lt_of_lt_of_le (Heap.lt_size e) I.ok.above))).trans e1⟩
    · obtain ⟨o', e1⟩ := I.base.there b o e hx
      exact ⟨o', (hs.2 b (Nat.ne_of_lt (Nat.lt_of_lt_of_le (Heap.lt_size e) I.ok.above))).trans e1⟩
    · by_cases hj : j = i
      · subst hj
        rw [hi] at e1; cases e1
        rw [List.getElem?_set_self hiσ] at e2
        cases e2
        exact ⟨u, r, .inl ⟨hk, by simp⟩⟩
      · rw [List.getElem?_set_ne (Ne.symm hj)] at e2
        obtain ⟨u', r', q⟩ := hl j y v' e1 e2 e3
        refine ⟨u', r', ?_⟩
        rcases q with ⟨k, e⟩ | ⟨k, c, e, z⟩
        · refine .inl ⟨k, ?_⟩
          have : y ≠ x := fun e => hj (nodup_ix hN e1 (e ▸ hi))
          simp [this, e]
        · exact .inr ⟨k, c, e, z.sameBut hs (cne y c e)⟩
    · obtain ⟨w', z⟩ := I.cell y c e
      exact ⟨w', z.sameBut hs (cne y c e)⟩
    · obtain ⟨e, n, ne, nf, d⟩ := I.pin p hp
      exact ⟨(hs.2 p.1 ne).trans e, n, ne, nf, d⟩
  · have hfn : X.fn x = true := by
      rcases hf with z | z
      · exact z
      · rw [z] at hk; cases hk
    obtain ⟨c, hc⟩ := I.ok.has x (.inl hk)
    obtain ⟨w', z⟩ := I.cell x c hc
    refine wpAny_storeName_cell I.ok.kind hk hc z (fun h' hc' hs => ?_)
    obtain ⟨oc, hoc, hocd⟩ := id z
    refine h { s with heap := h' } ⟨I.ok, I.os, I.bare, ⟨fun b o e n hb hx => ?_, fun b o e n hb hx => ?_, I.base.free, fun b o e hx => ?_, I.base.tups, I.base.frzs, I.base.tbls⟩, ⟨m, hn.sameBut hs (Ne.symm (cne x c hc)), fun j y v' e1 e2 e3 => ?_⟩, fun y c' e => ?_, I.free, I.freeC, fun p hp => ?_, tracked ⟨oc, hoc, I.freeC x c hc⟩ hs, by simpa using I.len⟩ ⟨c, hs, .inr hc⟩
    · exact (hs.2 b (Nat.ne_of_lt (Nat.lt_of_lt_of_le (Heap.lt_size e) (I.ok.cab x c hfn hc)))).trans (I.base.keep b o e n hb hx)
    · obtain ⟨sl, e1⟩ := I.base.slot b o e n hb hx
      exact ⟨sl, (hs.2 b (Nat.ne_of_lt (Nat.lt_of_lt_of_le (Heap.lt_size e) (I.ok.cab x c hfn hc)))).trans e1⟩
    · obtain ⟨o', e1⟩ := I.base.there b o e hx
      exact ⟨o', (hs.2 b (Nat.ne_of_lt (Nat.lt_of_lt_of_le (Heap.lt_size e) (I.ok.cab x c hfn hc)))).trans e1⟩
    · by_cases hj : j = i
      · subst hj
        rw [hi] at e1; cases e1
        rw [List.getElem?_set_self hiσ] at e2
        cases e2
        exact ⟨u, r, .inr ⟨.inl hk, c, hc, hc'⟩⟩
      · rw [List.getElem?_set_ne (Ne.symm hj)] at e2
        obtain ⟨u', r', q⟩ := hl j y v' e1 e2 e3
        refine ⟨u', r', ?_⟩
        rcases q with q | ⟨k, c', e, z'⟩
        · exact .inl q
        · refine .inr ⟨k, c', e, z'.sameBut hs ?_⟩
          rintro rfl
          exact hj (nodup_ix hN e1 (I.ok.inj _ _ _ e hc ▸ hi))
    · by_cases hcc : c' = c
      · subst hcc; exact ⟨_, hc'⟩
      · obtain ⟨w2, z2⟩ := I.cell y c' e
        exact ⟨w2, z2.sameBut hs hcc⟩
    · obtain ⟨e, n, ne, nf, d⟩ := I.pin p hp
      refine ⟨(hs.2 p.1 ?_).trans e, n, ne, nf, d⟩
      intro q
      rw [q, hoc] at e
      have q' : oc = p.2 := Option.some.inj e
      exact d w' (by rw [← q']; exact hocd)
theorem store_ok {M : Model} {A : Around} {E : Value → Shared → Prop} {i : Nat} {x : Str} {v : V} {u : Value} {Q : Unit → Shared → Prop} (I : Inv X pins σ H s) (hN : X.N.Nodup) (hi : X.N[i]? = some x) (hx : Loc X.env.scope x) (r : RelV v u)
    (h : ∀ s', Inv X pins (σ.set i (some v)) H s' → Q () s') (hf : X.fn x = true ∨ X.env.scope.names.lookup x = some .local := by first | exact .inl rfl | exact .inr rfl | assumption) : wpAny M A (storeName X.env x u) Q E s :=
  store_ok2 I hN hi hx r (fun s' I' _ => h s' I') hf
theorem Inv.call' {s' : Shared} {ch : List Addr} (I : Inv X pins σ H s) (ho : s'.os = s.os) (u : Un (frs X.stack) ch H H' s.heap s'.heap) (hok : HOk X.prog X.w H' s'.heap) (hg : AllBare s'.gens)
    (hch : ∀ b ∈ ch, (b ∈ X.ex ∨ X.s₀.heap.objs.size ≤ b) ∧ b ≠ X.env.locals ∧ (∀ x c, X.env.cells.lookup x = some c → c ≠ b) ∧ ∀ p ∈ X.pn ++ pins, p.1 ≠ b) : Inv X pins σ H' s' := by
  obtain ⟨h', g', d', t', o'⟩ := s'
  have e : o' = s.os := ho
  subst e
  exact I.call (g' := g') (t' := t') (d' := d') u hok hg hch
end
abbrev XK := Value → Option Addr → Hp → Prop
abbrev St := List (Option V)
abbrev VK := V → Hp → Prop
abbrev TE := St → Hp → VK → Prop
abbrev TT := St → Hp → (Bool → Hp → Prop) → Prop
abbrev TA := St → Hp → (List V → Hp → Prop) → Prop
structure Ends where
  nx : St → Hp → Prop
  rt : VK
  bk : St → Hp → Prop := fun _ _ => False
  ct : St → Hp → Prop := fun _ _ => False
abbrev TS := Ends → St → Hp → Prop
def EP (X : Cx) (pins : List (Addr × Obj)) (σ : St) (Q : VK) (u : Value) (s' : Shared) : Prop := ∃ v H', Inv X pins σ H' s' ∧ RelV v u ∧ Q v H'
def TP (X : Cx) (pins : List (Addr × Obj)) (σ : St) (Q : Bool → Hp → Prop) (b : Bool) (s' : Shared) : Prop := ∃ H', Inv X pins σ H' s' ∧ Q b H'
def AP (X : Cx) (pins : List (Addr × Obj)) (σ : St) (Q : List V → Hp → Prop) (us : List Value) (s' : Shared) : Prop := ∃ vs H', Inv X pins σ H' s' ∧ Vals vs us ∧ Q vs H'
def SP (X : Cx) (pins : List (Addr × Obj)) (D : Ends) (f : Flow) (s' : Shared) : Prop :=
  match f with
  | .next => ∃ σ' H', Inv X pins σ' H' s' ∧ D.nx σ' H'
  | .brk => ∃ σ' H', Inv X pins σ' H' s' ∧ D.bk σ' H'
  | .cont => ∃ σ' H', Inv X pins σ' H' s' ∧ D.ct σ' H'
  | .ret u => ∃ v σ' H', Inv X pins σ' H' s' ∧ RelV v u ∧ D.rt v H'
def PE (X : Cx) (e : Expr) (t : TE) : Prop :=
  ∀ (pins : List (Addr × Obj)) (s : Shared) (σ : St) (H : Hp) (Q : VK), Inv X pins σ H s → t σ H Q → wpAny (model X.prog X.w) X.A (eval e X.env) (EP X pins σ Q) X.xe s
def PT (X : Cx) (e : Expr) (t : TT) : Prop :=
  ∀ (pins : List (Addr × Obj)) (s : Shared) (σ : St) (H : Hp) (Q : Bool → Hp → Prop), Inv X pins σ H s → t σ H Q → wpAny (model X.prog X.w) X.A (isTrue e X.env (eval e X.env)) (TP X pins σ Q) X.xe s
def PW (X : Cx) (e : Expr) (t : TT) : Prop :=
  ∀ (whole : Sem Value) (pins : List (Addr × Obj)) (s : Shared) (σ : St) (H : Hp) (Q : Bool → Hp → Prop), Inv X pins σ H s → t σ H Q → wpAny (model X.prog X.w) X.A (isTrue e X.env whole) (TP X pins σ Q) X.xe s
theorem PW.pt {X : Cx} {e : Expr} {t : TT} (h : PW X e t) : PT X e t := h _
def PA (X : Cx) (es : List Expr) (t : TA) : Prop :=
  ∀ (pos : Pos) (pins : List (Addr × Obj)) (s : Shared) (σ : St) (H : Hp) (Q : List V → Hp → Prop), Inv X pins σ H s → t σ H Q → wpAny (model X.prog X.w) X.A (spliced (backTo pos (starEach es X.env))) (AP X pins σ Q) X.xe s
def PS (X : Cx) (st : Stmt) (t : TS) : Prop :=
  ∀ (pins : List (Addr × Obj)) (s : Shared) (σ : St) (H : Hp) (D : Ends), Inv X pins σ H s → t D σ H → wpAny (model X.prog X.w) X.A (exec st X.env) (SP X pins D) X.xe s
def PSs (X : Cx) (st : List Stmt) (t : TS) : Prop :=
  ∀ (pins : List (Addr × Obj)) (s : Shared) (σ : St) (H : Hp) (D : Ends), Inv X pins σ H s → t D σ H → wpAny (model X.prog X.w) X.A (execs st X.env) (SP X pins D) X.xe s
theorem thn {α : Type} {t : Sem α} {Q Q' : α → Shared → Prop} {M : Model} {A : Around} {E : Value → Shared → Prop} {s : Shared} (h : wpAny M A t Q E s) (hQ : ∀ a s, Q a s → Q' a s) : wpAny M A t Q' E s := wpAny_mono h hQ fun _ _ x => x
end L2
namespace L2
open PySem PySem.Spec PyProof.Rows
section
variable {X : Cx}
def tVar (i : Nat) : TE := fun σ H Q => ∃ v, σ[i]? = some (some v) ∧ Q v H
def tC (v : V) : TE := fun _ H Q => Q v H
theorem pe_var {i : Nat} {x : Str} {pos : Pos} (hN : X.N[i]? = some x) (hv : Vis X.env.scope x) (hd : (x == ("__debug__" : Str)) = false := by decide) (hcd : (x == ("__classdict__" : Str)) = false := by decide) : PE X (.Name x pos) (tVar i) := by
  intro pins s σ H Q I h
  obtain ⟨v, e, h⟩ := h
  obtain ⟨m, hn, hl⟩ := I.loc
  obtain ⟨u, r, l⟩ := hl i x v hN e hv
  have fin : EP X pins σ Q u s := ⟨v, H, I, r, h⟩
  rcases l with ⟨hk, hm⟩ | ⟨hk, c, hc, hcell⟩
  · exact wpAny_Name (wpAny_loadName_local I.ok.kind hk hn hm fin) hd
  · rcases hk with hk | hk
    · exact wpAny_Name (wpAny_loadName_cell I.ok.kind hk hc hcell fin) hd
    · exact wpAny_Name (wpAny_loadName_free I.ok.kind hk hc hcell fin hcd) hd
theorem pe_int {i j pos} : PE X (.Constant (.int i) j pos) (tC (.int i)) := fun _ _ _ H _ I h => wpAny_Constant_int ⟨.int i, H, I.tok _, ⟨_, rfl⟩, h⟩
theorem pe_bl {b j pos} : PE X (.Constant (.bool b) j pos) (tC (.bl b)) := fun _ _ _ H _ I h => Constant_bool ⟨.bl b, H, I, rfl, h⟩
def Gl (X : Cx) (x : Str) : Prop := X.env.kindOf x = some .globalImplicit
theorem ld_glob {E : Value → Shared → Prop} {pins : List (Addr × Obj)} {s : Shared} {σ : St} {H : Hp} {x : Str} {u : Value} {pos : Pos} {Q : Value → Shared → Prop} (I : Inv X pins σ H s) (hg : Gl X x) (hm : X.mg x = some u) (h : Q u s)
    (hd : (x == ("__debug__" : Str)) = false := by decide) : wpAny (model X.prog X.w) X.A (eval (.Name x pos) X.env) Q E s :=
  Calls.Name_function_global I.ok.kind hg (Calls.loadGlobal_global (by rw [I.ok.glob]; exact I.mod.glob.keeps I.bk) hm h) hd
theorem ld_blt {E : Value → Shared → Prop} {pins : List (Addr × Obj)} {s : Shared} {σ : St} {H : Hp} {x : Str} {u : Value} {pos : Pos} {Q : Value → Shared → Prop} (I : Inv X pins σ H s) (hg : Gl X x) (hm : X.mg x = none) (hv : bootBuiltins x = some u) (h : Q u s)
    (hn : x ≠ "__name__" := by decide) (hd : (x == ("__debug__" : Str)) = false := by decide) : wpAny (model X.prog X.w) X.A (eval (.Name x pos) X.env) Q E s := by
  obtain ⟨mb, h1, h2⟩ := I.mod.blt
  exact Calls.Name_function_global I.ok.kind hg (Calls.loadGlobal_builtin (by rw [I.ok.glob]; exact I.mod.glob.keeps I.bk) hm (by rw [I.ok.blt]; exact h1.keeps I.bk) ((h2 x hn).trans hv) h) hd
theorem pe_glob {x : Str} {v : V} {u : Value} {pos : Pos} (hg : Gl X x) (hm : X.mg x = some u) (r : RelV v u) (hd : (x == ("__debug__" : Str)) = false := by decide) : PE X (.Name x pos) (tC v) :=
  fun _ _ _ H _ I h => ld_glob I hg hm ⟨v, H, I, r, h⟩ hd
theorem pe_bltn {x : Str} {v : V} {u : Value} {pos : Pos} (hg : Gl X x) (hm : X.mg x = none) (hv : bootBuiltins x = some u) (r : RelV v u) (hn : x ≠ "__name__" := by decide) (hd : (x == ("__debug__" : Str)) = false := by decide) : PE X (.Name x pos) (tC v) :=
  fun _ _ _ H _ I h => ld_blt I hg hm hv ⟨v, H, I, r, h⟩ hn hd
variable {a b : Expr} {ta tb : TE} {pos : Pos}
def tB (t : TE) : TT := fun σ H Q => t σ H fun x H1 => ∃ c, x = .bl c ∧ Q c H1
theorem pt_val {e : Expr} {t : TE} (h : PE X e t) (he : ∀ whole, isTrue e X.env whole = (do let v ← whole; standAt e.pos; holding [v] (truthy v)) := by intro _; rfl) : PT X e (tB t) := by
  intro pins s σ H Q I hw
  refine isTrue_plain (thn (h pins s σ H _ I hw) fun v s1 ⟨x, H1, I1, r1, q1⟩ => ?_) (he _)
  obtain ⟨d, rfl, q⟩ := q1
  cases r1
  exact wpAny_truthy_bool ⟨H1, I1, q⟩
variable {tA tB' : TT} {rest : List Expr}
def tOr (t u : TT) : TT := fun σ H Q => t σ H fun c H1 => if c = true then Q true H1 else u σ H1 Q
def tNot (t : TT) : TT := fun σ H Q => t σ H fun c H1 => Q (!c) H1
theorem pw_or1 (ha : PT X a tA) : PW X (.BoolOp .Or [a] pos) tA := by
  intro wh pins s σ H Q I h
  refine isTrue_or (thn (ha pins s σ H Q I h) fun c s1 e => ?_)
  cases c with
  | false => exact isTrue_or_nil e
  | true => exact e
theorem pw_or (ha : PT X a tA) (hb : PW X (.BoolOp .Or (b :: rest) pos) tB') : PW X (.BoolOp .Or (a :: b :: rest) pos) (tOr tA tB') := by
  intro wh pins s σ H Q I h
  refine isTrue_or (thn (ha pins s σ H _ I h) fun c s1 ⟨H1, I1, q1⟩ => ?_)
  cases c with
  | true => exact ⟨H1, I1, q1⟩
  | false => exact hb wh pins s1 σ H1 Q I1 q1
theorem pt_not (ha : PT X a tA) : PT X (.UnaryOp .Not a pos) (tNot tA) := by
  intro pins s σ H Q I h
  exact isTrue_not (ha pins s σ H (fun c H1 => Q (!c) H1) I h)
def tAndV (ta tb : TE) : TE := fun σ H Q => ta σ H fun x H1 => ∃ c, x = .bl c ∧ if c = true then tb σ H1 Q else Q (.bl false) H1
def tNotV (ta : TE) : TE := fun σ H Q => ta σ H fun x H1 => ∃ c, x = .bl c ∧ Q (.bl (!c)) H1
theorem pe_one {op} {t : TE} (h : PE X a t) : PE X (.BoolOp op [a] pos) t := fun pins s σ H Q I hw => BoolOp_one (h pins s σ H Q I hw)
theorem pe_and (ha : PE X a ta) (hb : PE X (.BoolOp .And (b :: rest) pos) tb) : PE X (.BoolOp .And (a :: b :: rest) pos) (tAndV ta tb) := by
  intro pins s σ H Q I h
  refine BoolOp_and (thn (ha pins s σ H _ I h) fun v s1 ⟨x, H1, I1, r1, q1⟩ => ?_)
  obtain ⟨c, rfl, q1⟩ := q1
  cases r1
  refine wpAny_truthy_bool ?_
  cases c with
  | true => exact hb pins s1 σ H1 Q I1 q1
  | false => exact ⟨.bl false, H1, I1, rfl, q1⟩
theorem pe_not (ha : PE X a ta) : PE X (.UnaryOp .Not a pos) (tNotV ta) := by
  intro pins s σ H Q I h
  refine UnaryOp_ (thn (ha pins s σ H _ I h) fun v s1 ⟨x, H1, I1, r1, q1⟩ => ?_)
  obtain ⟨c, rfl, q1⟩ := q1
  cases r1
  exact not_of (wpAny_truthy_bool ⟨.bl (!c), H1, I1, rfl, q1⟩)
end
end L2
namespace L2
open PySem PySem.Spec PyProof.Rows
def SqL (K : PySem.W.Frag) (H : Hp) (a : Addr) (xs : List V) : Prop :=
  Rd H a (.lst xs) ∨
    ∃ (o : Obj) (its : Array Value) (n : Nat), K.lookup a = some o ∧ o.cls = .type "list" ∧ o.dict = none ∧ o.data = .seq its n ∧ its.size ≤ sizeLine ∧ Vals xs its.toList
def SqT (K : PySem.W.Frag) (H : Hp) (a : Addr) (xs : List V) : Prop :=
  Rd H a (.tup xs) ∨
    ∃ (o : Obj) (its : Array Value) (n : Nat), K.lookup a = some o ∧ o.cls = .type "tuple" ∧ o.data = .seq its n ∧ its.size ≤ sizeLine ∧ Vals xs its.toList
def absV : Value → Option V
  | .none => some .non
  | .bool b => some (.bl b)
  | .int i _ => some (.int i)
  | .str x _ => some (.str x)
  | .bytes b _ => some (.byt b)
  | .float b _ => some (.flt b)
  | .ref a => some (.ref a)
  | .type n => some (.ty n)
  | _ => none
theorem RelV.abs {x : V} {u : Value} (r : RelV x u) : absV u = some x := by
  cases x with
  | non => cases r; rfl
  | bl _ => cases r; rfl
  | int _ => obtain ⟨t, rfl⟩ := r; rfl
  | str _ => obtain ⟨t, rfl⟩ := r; rfl
  | byt _ => obtain ⟨t, rfl⟩ := r; rfl
  | flt _ => obtain ⟨t, rfl⟩ := r; rfl
  | ref _ => cases r; rfl
  | ty _ => cases r; rfl
theorem RelV.inj {x y : V} {u : Value} (r : RelV x u) (q : RelV y u) : x = y := Option.some.inj (r.abs.symm.trans q.abs)
theorem Vals.inj : ∀ {xs ys : List V} {us : List Value}, Vals xs us → Vals ys us → xs = ys
  | _, _, _, .nil, .nil => rfl
  | _, _, _, .cons r t, .cons r' t' => by rw [r.inj r', Vals.inj t t']
section
variable {X : Cx} {pins : List (Addr × Obj)} {σ : St} {H : Hp} {s : Shared} {a : Addr} {xs ys : List V}
theorem SqL.of {K : PySem.W.Frag} (h : H a = some (.lst xs)) : SqL K H a xs := .inl (.inl h)
theorem SqT.of {K : PySem.W.Frag} (h : H a = some (.tup xs)) : SqT K H a xs := .inl (.inl h)
theorem Inv.list (I : Inv X pins σ H s) (h : SqL X.K H a xs) : ∃ its : List Value, Vals xs its ∧ PlainL s.heap a its.toArray ∧ xs.length ≤ sizeLine := by
  rcases h with h | ⟨o, its, n, hk, hc, hd, hs, hz, r⟩
  · obtain ⟨z, its, n, r, e⟩ := h.ok I.hok
    exact ⟨its, r, ⟨_, n, e, rfl, rfl, rfl⟩, z⟩
  · refine ⟨its.toList, r, ⟨o, n, I.kIn a o hk, hc, hd, by simpa using hs⟩, ?_⟩
    have e := r.length
    simp only [Array.length_toList] at e
    omega
theorem Inv.tuple (I : Inv X pins σ H s) (h : SqT X.K H a xs) : ∃ its : List Value, Vals xs its ∧ IsTup s.heap a its.toArray ∧ xs.length ≤ sizeLine := by
  rcases h with h | ⟨o, its, n, hk, hc, hs, hz, r⟩
  · obtain ⟨z, its, r, p⟩ := h.ok I.hok
    exact ⟨its, r, p, z⟩
  · refine ⟨its.toList, r, ⟨o, I.kIn a o hk, hc, n, by simpa using hs⟩, ?_⟩
    have e := r.length
    simp only [Array.length_toList] at e
    omega
theorem Inv.list_inj (I : Inv X pins σ H s) (h : SqL X.K H a xs) (h' : SqL X.K H a ys) : xs = ys := by
  obtain ⟨its, r, ⟨o, n, e, _, _, d⟩, _⟩ := I.list h
  obtain ⟨its', r', ⟨o', n', e', _, _, d'⟩, _⟩ := I.list h'
  rw [e] at e'; cases e'
  rw [d] at d'
  injection d' with d1 _
  have : its = its' := by simpa using congrArg Array.toList d1
  subst this
  exact r.inj r'
theorem Inv.tuple_inj (I : Inv X pins σ H s) (h : SqT X.K H a xs) (h' : SqT X.K H a ys) : xs = ys := by
  obtain ⟨its, r, ⟨o, e, _, n, d⟩, _⟩ := I.tuple h
  obtain ⟨its', r', ⟨o', e', _, n', d'⟩, _⟩ := I.tuple h'
  rw [e] at e'; cases e'
  rw [d] at d'
  injection d' with d1 _
  have : its = its' := by simpa using congrArg Array.toList d1
  subst this
  exact r.inj r'
end
abbrev Cx.wish (X : Cx) (E : Value → Shared → Prop) : Cx := { X with xe := E }
abbrev Cx.nox (X : Cx) : Cx := X.wish fun _ _ => False
theorem Cx.Ok.wish {X : Cx} (ok : X.Ok) (E : Value → Shared → Prop) : (X.wish E).Ok :=
  ⟨ok.mod, ok.kind, ok.glob, ok.blt, ok.above, ok.inj, ok.has, ok.cab, ok.hd, ok.frames, ok.stk, ok.exf, ok.bs, ok.bsz, ok.noex, ok.exfs, ok.funs, ok.frf⟩
theorem Cx.Ok.unwish {X : Cx} {E : Value → Shared → Prop} (ok : (X.wish E).Ok) : X.Ok :=
  ⟨ok.mod, ok.kind, ok.glob, ok.blt, ok.above, ok.inj, ok.has, ok.cab, ok.hd, ok.frames, ok.stk, ok.exf, ok.bs, ok.bsz, ok.noex, ok.exfs, ok.funs, ok.frf⟩
section
variable {X : Cx} {pins : List (Addr × Obj)} {σ : St} {H : Hp} {s : Shared} {E : Value → Shared → Prop}
theorem Inv.wish (I : Inv X pins σ H s) (E : Value → Shared → Prop) : Inv (X.wish E) pins σ H s := ⟨I.ok.wish E, I.os, I.bare, I.base, I.loc, I.cell, I.free, I.freeC, I.pin, I.hok, I.len⟩
theorem Inv.unwish (I : Inv (X.wish E) pins σ H s) : Inv X pins σ H s := ⟨I.ok.unwish, I.os, I.bare, I.base, I.loc, I.cell, I.free, I.freeC, I.pin, I.hok, I.len⟩
theorem SP.unwish {D : Ends} {f : Flow} {s' : Shared} (h : SP (X.wish E) pins D f s') : SP X pins D f s' := by
  cases f with
  | next => obtain ⟨σ', H', I, q⟩ := h; exact ⟨σ', H', I.unwish, q⟩
  | brk => obtain ⟨σ', H', I, q⟩ := h; exact ⟨σ', H', I.unwish, q⟩
  | cont => obtain ⟨σ', H', I, q⟩ := h; exact ⟨σ', H', I.unwish, q⟩
  | ret u => obtain ⟨v, σ', H', I, r, q⟩ := h; exact ⟨v, σ', H', I.unwish, r, q⟩
theorem PSs.nox {st : List Stmt} {t : TS} (h : PSs X.nox st t) : PSs X st t := fun pins s σ H D I hw =>
  wpAny_mono (h pins s σ H D (I.wish _) hw) (fun _ _ q => q.unwish) fun _ _ z => False.elim z
end
section
variable {X : Cx} {st : Stmt} {rest : List Stmt} {t u : TS} {e : Expr} {te : TE} {pos : Pos}
def tNext : TS := fun D σ H => D.nx σ H
def tSeq (t u : TS) : TS := fun D σ H => t { D with nx := u D } σ H
theorem pss_nil : PSs X [] tNext := fun _ _ σ H _ I h => wpAny_execs_nil ⟨σ, H, I, h⟩
theorem pss_cons (h1 : PS X st t) (h2 : PSs X rest u) : PSs X (st :: rest) (tSeq t u) := by
  intro pins s σ H D I h
  refine wpAny_execs_cons (thn (h1 pins s σ H { D with nx := u D } I h) fun f s1 q => ?_)
  cases f with
  | next =>
    obtain ⟨σ', H', I', q⟩ := q
    exact h2 pins s1 σ' H' D I' q
  | ret v => exact q
  | brk => exact q
  | cont => exact q
theorem pss_one (h1 : PS X st t) : PSs X [st] t := by
  intro pins s σ H D I h
  refine wpAny_execs_cons (thn (h1 pins s σ H D I h) fun f s1 q => ?_)
  cases f with
  | next => exact wpAny_execs_nil q
  | ret v => exact q
  | brk => exact q
  | cont => exact q
theorem Inv.quiet {pins : List (Addr × Obj)} {σ : St} {H : Hp} {s : Shared} (I : Inv X pins σ H s) : interactive X.env = false := by simp [interactive, I.ok.kind]
def tDrop (te : TE) : TS := fun D σ H => te σ H fun _ H1 => D.nx σ H1
theorem ps_expr (he : PE X e te) (hs : swapsWith e none pos.line X.env = pure false := by rfl) : PS X (.Expr e pos) (tDrop te) := by
  intro pins s σ H D I h
  exact wpAny_Expr_any (thn (he pins s σ H _ I h) fun v s1 ⟨x, H1, I1, r1, q1⟩ => ⟨σ, H1, I1, q1⟩) I.quiet hs
def tRet (te : TE) : TS := fun D σ H => te σ H D.rt
theorem ps_ret (he : PE X e te) : PS X (.Return (some e) pos) (tRet te) := by
  intro pins s σ H D I h
  exact wpAny_Return_some (thn (he pins s σ H _ I h) fun v s1 ⟨x, H1, I1, r1, q1⟩ => ⟨x, σ, H1, I1, r1, q1⟩)
def tIfS (c : TT) (t u : TS) : TS := fun D σ H => c σ H fun b H1 => if b = true then t D σ H1 else u D σ H1
theorem ps_if {c : Expr} {a b : List Stmt} {tc : TT} (hc : PT X c tc) (ha : PSs X a t) (hb : PSs X b u) : PS X (.If c a b pos) (tIfS tc t u) := by
  intro pins s σ H D I h
  refine wpAny_If (thn (hc pins s σ H _ I h) fun d s1 ⟨H1, I1, q1⟩ => ?_)
  cases d with
  | true => exact ha pins s1 σ H1 D I1 q1
  | false => exact hb pins s1 σ H1 D I1 q1
def tNever : TS := fun _ _ _ => False
theorem ps_never : PS X st tNever := fun _ _ _ _ _ _ h => h.elim
end
abbrev TG := V → St → Hp → (St → Hp → Prop) → Prop
abbrev TGs := List V → St → Hp → (St → Hp → Prop) → Prop
def PG (X : Cx) (target : Expr) (t : TG) : Prop :=
  ∀ (pins : List (Addr × Obj)) (s : Shared) (σ : St) (H : Hp) (v : V) (u : Value) (Q : St → Hp → Prop), Inv X pins σ H s → RelV v u → t v σ H Q →
    wpAny (model X.prog X.w) X.A (assign target X.env u) (fun _ s' => ∃ σ' H', Inv X pins σ' H' s' ∧ Q σ' H') X.xe s
def PGs (X : Cx) (ts : List Expr) (t : TGs) : Prop :=
  ∀ (pins : List (Addr × Obj)) (s : Shared) (σ : St) (H : Hp) (vs : List V) (us : List Value) (Q : St → Hp → Prop), Inv X pins σ H s → Vals vs us → t vs σ H Q →
    wpAny (model X.prog X.w) X.A (assignInOrder ((assignEach ts X.env).map (·.2)) us) (fun _ s' => ∃ σ' H', Inv X pins σ' H' s' ∧ Q σ' H') X.xe s
abbrev TSet := V → V → V → Hp → (Hp → Prop) → Prop
def PSet (X : Cx) (t : TSet) : Prop :=
  ∀ (pins : List (Addr × Obj)) (s : Shared) (σ : St) (H : Hp) (o i v : V) (ov iv u : Value) (Q : Hp → Prop), Inv X pins σ H s → RelV o ov → RelV i iv → RelV v u → t o i v H Q →
    wpAny (model X.prog X.w) X.A (setItem ov iv u) (fun _ s' => ∃ H', Inv X pins σ H' s' ∧ Q H') X.xe s
section
variable {X : Cx} {pos : Pos}
def gName (i : Nat) : TG := fun v σ H Q => Q (σ.set i (some v)) H
theorem pg_name {i : Nat} {x : Str} (hN : X.N.Nodup) (hi : X.N[i]? = some x) (hx : Loc X.env.scope x) (hf : X.fn x = true ∨ X.env.scope.names.lookup x = some .local := by first | exact .inl rfl | exact .inr rfl | assumption) : PG X (.Name x pos) (gName i) := by
  intro pins s σ H v u Q I r h
  exact wpAny_assign_Name (store_ok I hN hi hx r (fun s' I' => ⟨_, H, I', h⟩) hf)
def gNil : TGs := fun vs σ H Q => vs = [] ∧ Q σ H
def gCons (t : TG) (u : TGs) : TGs := fun vs σ H Q => ∃ v r, vs = v :: r ∧ t v σ H fun σ' H' => u r σ' H' Q
theorem pgs_nil : PGs X [] gNil := by
  intro pins s σ H vs us Q I r h
  obtain ⟨e, h⟩ := h
  subst e
  cases r
  exact assignInOrder_nil ⟨σ, H, I, h⟩
theorem pgs_cons {e : Expr} {es : List Expr} {t : TG} {u : TGs} (h1 : PG X e t) (h2 : PGs X es u)
    (hs : (assignEach (e :: es) X.env).map (·.2) = assign e X.env :: (assignEach es X.env).map (·.2) := by rfl) : PGs X (e :: es) (gCons t u) := by
  intro pins s σ H vs us Q I r h
  obtain ⟨v, vr, e1, h⟩ := h
  subst e1
  cases r with
  | cons r rr =>
    rw [hs]
    refine assignInOrder_cons (thn (h1 pins s σ H _ _ _ I r h) fun _ s1 ⟨σ1, H1, I1, q1⟩ => ?_)
    exact h2 pins s1 σ1 H1 _ _ Q I1 rr q1
def gTup (K : PySem.W.Frag) (n : Nat) (t : TGs) : TG := fun v σ H Q => ∃ a xs, v = .ref a ∧ SqT K H a xs ∧ xs.length = n ∧ t xs σ H Q
theorem pg_tup {es : List Expr} {k : Nat} {t : TGs} {n : Nat} (hc : X.calm = true) (h : PGs X es t)
    (hn : (assignEach es X.env).length = n := by rfl) (hst : (assignEach es X.env).findIdx? (·.1) = none := by rfl) : PG X (.Tuple es k pos) (gTup X.K n t) := by
  intro pins s σ H v u Q I r hw
  obtain ⟨a, xs, e1, hq, hl, hw⟩ := hw
  subst e1
  cases r
  obtain ⟨its, rv, ht, hz⟩ := I.tuple hq
  refine assign_Tuple_tuple (I.ok.hd hc) ht (by simp [hn, ← hl, rv.length]) hst fun h' hx => ?_
  have I1 : Inv X pins σ H { s with heap := h' } := I.kept (t' := s.toks) fun b o e => hx b o (Nat.ne_of_lt (Heap.lt_size e)) e
  exact h pins _ σ H xs _ Q I1 (by simpa using rv) hw
def gSub (to ti : TE) (t : TSet) : TG := fun v σ H Q => to σ H fun o H1 => ti σ H1 fun i H2 => t o i v H2 fun H3 => Q σ H3
theorem pg_sub {o i : Expr} {to ti : TE} {t : TSet} (ho : PE X o to) (hi : PE X i ti) (hs : PSet X t)
    (ha : ∀ v, assign (.Subscript o i pos) X.env v = (do
      let ov ← holding [v] (eval o X.env)
      let iv ← holding [v, ov] (eval i X.env)
      standAt pos
      holding [v, ov, iv] (setItem ov iv v)
      release [v, ov, iv] []) := by intro _; rfl) : PG X (.Subscript o i pos) (gSub to ti t) := by
  intro pins s σ H v u Q I r h
  rw [ha]
  refine wpAny_bind (wpAny_holding (thn (ho pins s σ H _ I h) fun ov s1 ⟨x, H1, I1, r1, q1⟩ => ?_))
  refine wpAny_bind (wpAny_holding (thn (hi pins s1 σ H1 _ I1 q1) fun iv s2 ⟨y, H2, I2, r2, q2⟩ => ?_))
  refine wpAny_bind (wpAny_standAt (wpAny_bind (wpAny_holding (thn (hs pins s2 σ H2 x y v ov iv u _ I2 r1 r2 r q2) fun _ s3 ⟨H3, I3, q3⟩ => ?_))))
  exact wpAny_release ⟨σ, H3, I3, q3⟩
def tAsg (te : TE) (g : TG) : TS := fun D σ H => te σ H fun x H1 => g x σ H1 D.nx
theorem ps_asg {tg e : Expr} {te : TE} {g : TG} (he : PE X e te) (hg : PG X tg g) (hs : swapsWithSole [tg] e pos.line X.env = pure false := by rfl) (hw : swappedStores [tg] e X.env = pure none := by rfl)
    (h1 : (assignEach [tg] X.env).map (·.2) = [assign tg X.env] := by rfl) : PS X (.Assign [tg] e pos) (tAsg te g) := by
  intro pins s σ H D I h
  refine wpAny_Assign_stores (thn (he pins s σ H _ I h) fun v s1 ⟨x, H1, I1, r1, q1⟩ => ?_) hs hw
  rw [h1]
  exact thn (hg pins s1 σ H1 x v _ I1 r1 q1) fun _ s2 q => q
theorem ps_set {i : Nat} {x : Str} {e : Expr} {te : TE} {pos' : Pos} (hN : X.N.Nodup) (hi : X.N[i]? = some x) (hx : Loc X.env.scope x) (he : PE X e te) (hs : swapsWith e (some (.Name x pos')) pos.line X.env = pure false := by rfl) (hf : X.fn x = true ∨ X.env.scope.names.lookup x = some .local := by first | exact .inl rfl | exact .inr rfl | assumption) :
    PS X (.Assign [.Name x pos'] e pos) (tAsg te (gName i)) := by
  intro pins s σ H D I h
  refine wpAny_Assign_Name (thn (he pins s σ H _ I h) fun v s1 ⟨y, H1, I1, r1, q1⟩ => ?_) hs
  exact store_ok I1 hN hi hx r1 (fun s2 I2 => ⟨_, H1, I2, q1⟩) hf
def tPar (i j : Nat) (ta : TA) : TS := fun D σ H => ta σ H fun vs H1 => ∃ v w, vs = [v, w] ∧ D.nx ((σ.set i (some v)).set j (some w)) H1
theorem ps_par {i j : Nat} {x y : Str} {a b : Expr} {ta : TA} {px py pt : Pos} {kt k2 pt2} (hc : X.calm = true) (hN : X.N.Nodup) (hi : X.N[i]? = some x) (hj : X.N[j]? = some y) (hij : i ≠ j)
    (hx : X.env.scope.names.lookup x = some .local) (hy : X.env.scope.names.lookup y = some .local) (ha : PA X [a, b] ta)
    (hw : swappedStores [.Tuple [.Name x px, .Name y py] kt pt] (.Tuple [a, b] k2 pt2) X.env = pure (some [x, y]))
    (hs : swapsWithSole [.Tuple [.Name x px, .Name y py] kt pt] (.Tuple [a, b] k2 pt2) pos.line X.env = pure false := by rfl) :
    PS X (.Assign [.Tuple [.Name x px, .Name y py] kt pt] (.Tuple [a, b] k2 pt2) pos) (tPar i j ta) := by
  intro pins s σ H D I h
  rw [exec_Assign_arm]
  refine wpAny_bind (wpAny_standAt ?_)
  rw [hs]
  refine wpAny_bind (wpAny_pure ?_)
  rw [if_neg (by decide)]
  refine wpAny_bind (Tuple_ (thn (ha _ pins s σ H _ I h) fun us s1 ⟨vs, H1, I1, r1, q1⟩ => ?_))
  obtain ⟨v, w, e1, q1⟩ := q1
  subst e1
  obtain ⟨u1, u2, rfl, rv, rw'⟩ : ∃ u1 u2, us = [u1, u2] ∧ RelV v u1 ∧ RelV w u2 := by
    cases r1 with
    | cons p q =>
      cases q with
      | cons p' q' =>
        cases q'
        exact ⟨_, _, rfl, p, p'⟩
  refine wpAny_newObj_type ?_ (by show 2 ≤ sizeLine; decide)
  have I2 : Inv X pins σ H1 { s1 with heap := s1.heap.push { cls := .type "tuple", data := .seq [u1, u2].toArray } } := I1.kept (t' := s1.toks) fun b o e => Heap.get?_push_of_some _ e
  rw [hw]
  refine wpAny_bind (wpAny_pure ?_)
  show wpAny (model X.prog X.w) X.A (do rule "assign.swapped-stores"; let items ← unpackItems (.ref s1.heap.objs.size) 2 none; assignInOrder [fun v => bindName X.env y v, fun v => bindName X.env x v] items.reverse; pure Flow.next) _ _ _
  refine wpAny_bind (wpAny_rule (wpAny_bind (unpackItems_tuple (items := #[u1, u2]) (I.ok.hd hc) (IsTup.new s1.heap _) fun h' hx' => ?_)))
  have I3 := I2.kept (h' := h') (t' := s1.toks) fun b o e => hx' b o (Nat.ne_of_lt (Heap.lt_size e)) e
  show wpAny _ _ (assignInOrder [fun v => bindName X.env y v, fun v => bindName X.env x v] [u2, u1] >>= fun _ => pure Flow.next) _ _ _
  refine wpAny_bind (assignInOrder_cons (wpAny_bindName (store_ok I3 hN hj (.inl hy) rw' (fun s2 I4 => ?_) (.inr hy))))
  refine assignInOrder_cons (wpAny_bindName (store_ok I4 hN hi (.inl hx) rv (fun s3 I5 => assignInOrder_nil (wpAny_pure ?_)) (.inr hx)))
  rw [List.set_comm _ _ (Ne.symm hij)] at I5
  exact ⟨_, H1, I5, q1⟩
end
section
variable {X : Cx} {pos : Pos}
def tWhile (c : TT) (tb : TS) : TS := fun D σ H => ∃ W : Nat → St → Hp → Prop, (∃ m, W m σ H) ∧ ∀ m σ H, W m σ H →
  c σ H fun b H1 => if b = true then ∃ N : St → Hp → Prop, (∀ σ' H', N σ' H' → ∃ m', m' < m ∧ W m' σ' H') ∧ tb { D with nx := N, ct := N, bk := D.nx } σ H1 else D.nx σ H1
theorem ps_while {c : Expr} {body : List Stmt} {tc : TT} {tb : TS} (hp : PassesOwn (model X.prog X.w) X.A X.env X.xe) (hc : PT X c tc) (hb : PSs X body tb) : PS X (.While c body [] pos) (tWhile tc tb) := by
  intro pins s σ H D I h
  obtain ⟨W, ⟨m0, w0⟩, turn⟩ := h
  refine wpAny_While (codeAny_whileLoop (fun n s' => ∃ σ' H', Inv X pins σ' H' s' ∧ W n σ' H') ?_ m0 ⟨σ, H, I, w0⟩)
  rintro n s1 ⟨σ1, H1, I1, w1⟩
  refine wpAny_passesOwn hp (thn (hc pins s1 σ1 H1 _ I1 (turn n σ1 H1 w1)) fun b s2 ⟨H2, I2, q2⟩ => ?_)
  cases b with
  | true =>
    obtain ⟨N, hN, q2⟩ := q2
    rw [if_pos rfl]
    refine wpAny_passesOwn hp (thn (hb pins s2 σ1 H2 _ I2 q2) fun f s3 q3 => ?_)
    cases f with
    | next =>
      obtain ⟨σ3, H3, I3, n3⟩ := q3
      obtain ⟨m', hm, w3⟩ := hN σ3 H3 n3
      exact ⟨m', hm, σ3, H3, I3, w3⟩
    | cont =>
      obtain ⟨σ3, H3, I3, n3⟩ := q3
      obtain ⟨m', hm, w3⟩ := hN σ3 H3 n3
      exact ⟨m', hm, σ3, H3, I3, w3⟩
    | brk => exact q3
    | ret v => exact q3
  | false =>
    rw [if_neg Bool.false_ne_true]
    exact wpAny_execs_nil ⟨σ1, H2, I2, q2⟩
end
structure It where
  go : Nat → Hp → Prop
  yld : Nat → Hp → V → Hp → Prop
  stop : Nat → Hp → Prop
def FpOk (X : Cx) (pins : List (Addr × Obj)) (H : Hp) (b : Addr) : Prop :=
  H b = none ∧ b ≠ X.env.locals ∧ b ∉ X.fs ∧ (b ∈ X.ex ∨ X.s₀.heap.objs.size ≤ b) ∧ (∀ x c, X.env.cells.lookup x = some c → c ≠ b) ∧ ∀ p ∈ X.pn ++ pins, p.1 ≠ b
theorem Inv.fpOk {X : Cx} {pins : List (Addr × Obj)} {σ : St} {H H' : Hp} {s : Shared} {b : Addr} (I : Inv X pins σ H s) (hb : s.heap.objs.size ≤ b) (hn : H' b = none) : FpOk X pins H' b := by
  refine ⟨hn, Nat.ne_of_gt (Nat.lt_of_lt_of_le I.lt hb), I.nofs hb, .inr (Nat.le_trans I.sz hb), fun x c e z => ?_, fun p hp z => ?_⟩
  · obtain ⟨v, q⟩ := I.cell x c e
    exact absurd (Nat.lt_of_lt_of_le q.lt (by rw [z]; exact hb)) (Nat.lt_irrefl _)
  · exact absurd (Nat.lt_of_lt_of_le (Heap.lt_size (I.pin p hp).1) (by rw [z]; exact hb)) (Nat.lt_irrefl _)
structure Turn (P : Program) (w : World) (K : PySem.W.Frag) (tg : Expr) (J : It) (fp : List Addr) (it : Addr) (tn : Nat → Heap → Prop) : Prop where
  mem : it ∈ fp
  obj : ∀ i h, tn i h → ∀ b ∈ fp, ∃ o, h.get? b = some o ∧ ∀ v, o.data ≠ .cell v
  keep : ∀ i h h', tn i h → (∀ b ∈ fp, ∀ o, h.get? b = some o → h'.get? b = some o) → tn i h'
  item : ∀ (X : Cx), X.prog = P → X.w = w → X.K = K → X.calm = true → ∀ (i : Nat) (pins : List (Addr × Obj)) (s : Shared) (σ : St) (H : Hp) (E : Value → Shared → Prop), Inv X pins σ H s → (∀ b ∈ fp, FpOk X pins H b) → tn i s.heap → J.go i H →
    wpAny (model P w) X.A (pyNext (.ref it)) (fun r s1 => ∃ u, r = some u ∧
      wpAny (model P w) X.A (letOwnedTupleGo tg (.ref it) u) (fun _ s2 => ∃ x H', Inv X pins σ H' s2 ∧ RelV x u ∧ J.yld i H x H' ∧ tn (i + 1) s2.heap ∧ ∀ b ∈ fp, H' b = none) E s1) E s
  done : ∀ (X : Cx), X.prog = P → X.w = w → X.K = K → X.calm = true → ∀ (i : Nat) (pins : List (Addr × Obj)) (s : Shared) (σ : St) (H : Hp) (E : Value → Shared → Prop), Inv X pins σ H s → (∀ b ∈ fp, FpOk X pins H b) → tn i s.heap → J.stop i H →
    wpAny (model P w) X.A (pyNext (.ref it)) (fun r s1 => r = none ∧ Inv X pins σ H s1) E s
  self : ∀ (A : Around) (i : Nat) (s : Shared) (Q : Value → Shared → Prop) (E : Value → Shared → Prop), tn i s.heap → Q (.ref it) s → wpAny (model P w) A (pyIter (.ref it)) Q E s
abbrev TI := St → Hp → (It → Hp → Prop) → Prop
def PIE (X : Cx) (pins : List (Addr × Obj)) (σ : St) (tg : Expr) (R : It → Hp → Prop) (itv : Value) (s2 : Shared) : Prop :=
  ∃ (it : Addr) (fp : List Addr) (tn : Nat → Heap → Prop) (J : It) (H' : Hp), itv = .ref it ∧ Inv X pins σ H' s2 ∧ Turn X.prog X.w X.K tg J fp it tn ∧ tn 0 s2.heap ∧ (∀ b ∈ fp, FpOk X pins H' b) ∧ R J H'
def PI (X : Cx) (tg iter : Expr) (wi : TI) : Prop :=
  ∀ (pins : List (Addr × Obj)) (s : Shared) (σ : St) (H : Hp) (R : It → Hp → Prop), Inv X pins σ H s → wi σ H R →
    wpAny (model X.prog X.w) X.A (eval iter X.env) (fun v s1 => wpAny (model X.prog X.w) X.A (pyIter v) (PIE X pins σ tg R) X.xe s1) X.xe s
theorem go_of {M : Model} {A : Around} {E : Value → Shared → Prop} {s : Shared} {tg : Expr} {it : Addr} {u : Value} {o : Obj} {n : String} {vs : Array Value} {Q : Unit → Shared → Prop} (ho : s.heap.get? it = some o) (hc : o.cls = .type n) (hd : o.data = .fields vs)
    (hn : ["enumerate", "zip", "dict_itemiterator", "dict_reverseitemiterator", "odict_iterator", "itertools.zip_longest", "itertools.pairwise"].contains n = false) (hQ : Q () s) : wpAny M A (letOwnedTupleGo tg (.ref it) u) Q E s := by
  unfold letOwnedTupleGo
  cases tg <;> first
    | exact wpAny_pure hQ
    | (cases u <;> first
        | exact wpAny_pure hQ
        | (refine wpAny_bind (wpAny_load ho ?_)
           rw [hc, hd]
           show wpAny M A (if (["enumerate", "zip", "dict_itemiterator", "dict_reverseitemiterator", "odict_iterator", "itertools.zip_longest", "itertools.pairwise"].contains n && vs[0]? == some (rawInt _)) = true then _ else _) Q E s
           rw [if_neg (by intro h; rw [hn, Bool.false_and] at h; cases h)]
           exact wpAny_pure hQ))
def Itl (K : PySem.W.Frag) (a : Addr) : It :=
  ⟨fun i H => ∃ xs x, SqL K H a xs ∧ xs[i]? = some x, fun i H x H' => H' = H ∧ ∀ xs, SqL K H a xs → xs[i]? = some x, fun i H => ∃ xs, SqL K H a xs ∧ xs.length ≤ i⟩
def Itt (K : PySem.W.Frag) (a : Addr) : It :=
  ⟨fun i H => ∃ xs x, SqT K H a xs ∧ xs[i]? = some x, fun i H x H' => H' = H ∧ ∀ xs, SqT K H a xs → xs[i]? = some x, fun i H => ∃ xs, SqT K H a xs ∧ xs.length ≤ i⟩
def Itr (lo : Int) (n : Nat) : It := ⟨fun i _ => i < n, fun i H x H' => H' = H ∧ x = .int (lo + i), fun i _ => n ≤ i⟩
theorem turn_list {P : Program} {w : World} {K : PySem.W.Frag} {tg : Expr} (a it : Addr) : Turn P w K tg (Itl K a) [it] it (fun i h => h.IsListIter it a i) where
  mem := by simp
  obj := fun i h st b hb => by
    have e : b = it := by simpa using hb
    subst e
    obtain ⟨o, e, c, d⟩ := st
    exact ⟨o, e, fun v z => by rw [d] at z; cases z⟩
  keep := fun i h h' st k => st.at fun o e => k it (by simp) o e
  item := by
    intro X hP hw hK hc i pins s σ H E I hf st hg
    subst hP hw hK
    obtain ⟨xs, x, hq, hx⟩ := hg
    obtain ⟨its, rv, p, hz⟩ := I.list hq
    obtain ⟨u, hu, ru⟩ := rv.get hx
    obtain ⟨f0, f1, f2, f3, f4, f5⟩ := hf it (by simp)
    refine wpAny_pyNext_list_item st p.isList (x := u) (by simpa using hu) fun h' st' sb => ?_
    have I1 : Inv X pins σ H { s with heap := h' } := I.turned (t' := s.toks) (fun b o hb e => (sb.2 b hb).trans e) f0 f1 f3 f4 f5
    obtain ⟨o, e, c, d⟩ := id st'
    exact ⟨u, rfl, go_of (s := { s with heap := h' }) e c d (by decide) ⟨x, H, I1, ru, ⟨rfl, fun ys hy => by rw [I.list_inj hy hq]; exact hx⟩, st', fun b hb => (hf b hb).1⟩⟩
  done := by
    intro X hP hw hK hc i pins s σ H E I hf st hg
    subst hP hw hK
    obtain ⟨xs, hq, hx⟩ := hg
    obtain ⟨its, rv, p, hz⟩ := I.list hq
    obtain ⟨f0, f1, f2, f3, f4, f5⟩ := hf it (by simp)
    have hl := rv.length
    exact wpAny_pyNext_list_end (I.ok.hd hc) st p.isList (by simp; omega) fun h' eb => ⟨rfl, I.turned (t' := s.toks) (fun b o hb e => eb b o hb e) f0 f1 f3 f4 f5⟩
  self := fun _ _ _ _ _ st h => wpAny_pyIter_listiter st h
theorem turn_tuple {P : Program} {w : World} {K : PySem.W.Frag} {tg : Expr} (a it : Addr) : Turn P w K tg (Itt K a) [it] it (fun i h => h.IsTupleIter it a i) where
  mem := by simp
  obj := fun i h st b hb => by
    have e : b = it := by simpa using hb
    subst e
    obtain ⟨o, e, c, d⟩ := st
    exact ⟨o, e, fun v z => by rw [d] at z; cases z⟩
  keep := fun i h h' st k => st.at fun o e => k it (by simp) o e
  item := by
    intro X hP hw hK hc i pins s σ H E I hf st hg
    subst hP hw hK
    obtain ⟨xs, x, hq, hx⟩ := hg
    obtain ⟨its, rv, p, hz⟩ := I.tuple hq
    obtain ⟨u, hu, ru⟩ := rv.get hx
    obtain ⟨f0, f1, f2, f3, f4, f5⟩ := hf it (by simp)
    refine wpAny_pyNext_tuple_item st (show s.heap.IsTuple a its.toArray from p) (x := u) (by simpa using hu) fun h' st' sb => ?_
    have I1 : Inv X pins σ H { s with heap := h' } := I.turned (t' := s.toks) (fun b o hb e => (sb.2 b hb).trans e) f0 f1 f3 f4 f5
    obtain ⟨o, e, c, d⟩ := id st'
    exact ⟨u, rfl, go_of (s := { s with heap := h' }) e c d (by decide) ⟨x, H, I1, ru, ⟨rfl, fun ys hy => by rw [I.tuple_inj hy hq]; exact hx⟩, st', fun b hb => (hf b hb).1⟩⟩
  done := by
    intro X hP hw hK hc i pins s σ H E I hf st hg
    subst hP hw hK
    obtain ⟨xs, hq, hx⟩ := hg
    obtain ⟨its, rv, p, hz⟩ := I.tuple hq
    obtain ⟨f0, f1, f2, f3, f4, f5⟩ := hf it (by simp)
    have hl := rv.length
    exact wpAny_pyNext_tuple_end (I.ok.hd hc) st (show s.heap.IsTuple a its.toArray from p) (by simp; omega) fun h' eb => ⟨rfl, I.turned (t' := s.toks) (fun b o hb e => eb b o hb e) f0 f1 f3 f4 f5⟩
  self := fun _ _ _ _ _ st h => wpAny_pyIter_tupleiter st h
theorem turn_range {P : Program} {w : World} {K : PySem.W.Frag} {tg : Expr} (it : Addr) (lo : Int) (n : Nat) : Turn P w K tg (Itr lo n) [it] it (fun i h => IsRangeIter h it (lo + (i : Nat) * 1) ((n : Int) - (i : Nat)) 1) where
  mem := by simp
  obj := fun i h st b hb => by
    have e : b = it := by simpa using hb
    subst e
    exact ⟨_, st, fun v z => by
      have z' : Data.fields _ = Data.cell v := z
      cases z'⟩
  keep := fun i h h' st k => k it (by simp) _ st
  item := by
    intro X hP hw hK hc i pins s σ H E I hf st hg
    subst hP hw hK
    obtain ⟨f0, f1, f2, f3, f4, f5⟩ := hf it (by simp)
    have W := Walks.range (prog := X.prog) (w := X.w) (I.ok.hd hc) it lo 1 n
    refine W.item i s _ _ hg st fun v h' tk hv st' kk => ?_
    obtain ⟨t, rfl⟩ := hv
    have I1 : Inv X pins σ H { s with heap := h', toks := tk } := I.turned (fun b o hb e => kk b o (by simpa using hb) e) f0 f1 f3 f4 f5
    refine ⟨_, rfl, go_of (s := { s with heap := h', toks := tk }) (n := "range_iterator") st' rfl rfl (by decide) ⟨.int (lo + i), H, I1, ⟨t, ?_⟩, ⟨rfl, rfl⟩, st', fun b hb => (hf b hb).1⟩⟩
    rw [Int.mul_one]
  done := by
    intro X hP hw hK hc i pins s σ H E I hf st hg
    subst hP hw hK
    obtain ⟨f0, f1, f2, f3, f4, f5⟩ := hf it (by simp)
    exact wpAny_pyNext_range_end (I.ok.hd hc) st (by have : n ≤ i := hg; omega) fun h' eb => ⟨rfl, I.turned (t' := s.toks) (fun b o hb e => eb b o hb e) f0 f1 f3 f4 f5⟩
  self := fun _ _ _ _ _ st h => wpAny_pyIter_rangeiter st h
end L2
namespace L2
open PySem PySem.Spec PyProof.Rows
section
variable {X : Cx} {tg : Expr}
def iList (K : PySem.W.Frag) (tl : TE) : TI := fun σ H R => tl σ H fun x H1 => ∃ a, x = .ref a ∧ (∃ xs, SqL K H1 a xs) ∧ R (Itl K a) H1
def iTup (K : PySem.W.Frag) (tl : TE) : TI := fun σ H R => tl σ H fun x H1 => ∃ a, x = .ref a ∧ (∃ xs, SqT K H1 a xs) ∧ R (Itt K a) H1
theorem pi_list {l : Expr} {tl : TE} (hl : PE X l tl) : PI X tg l (iList X.K tl) := by
  intro pins s σ H R I h
  refine thn (hl pins s σ H _ I h) fun v s1 ⟨x, H1, I1, r1, q1⟩ => ?_
  obtain ⟨a, e, ⟨xs, hq⟩, q⟩ := q1
  subst e
  cases r1
  obtain ⟨its, rv, p, hz⟩ := I1.list hq
  refine wpAny_pyIter_list p.isList ?_
  refine ⟨s1.heap.objs.size, [s1.heap.objs.size], _, _, H1, rfl, I1.kept (t' := s1.toks) fun b o e => Heap.get?_push_of_some _ e, turn_list a _, ⟨_, Heap.get?_push_size _ rfl, rfl, rfl⟩, fun b hb => ?_, q⟩
  have e : b = s1.heap.objs.size := by simpa using hb
  subst e
  exact I1.fpOk (Nat.le_refl _) (I1.hok.fresh (Nat.le_refl _))
theorem pi_tup {l : Expr} {tl : TE} (hl : PE X l tl) : PI X tg l (iTup X.K tl) := by
  intro pins s σ H R I h
  refine thn (hl pins s σ H _ I h) fun v s1 ⟨x, H1, I1, r1, q1⟩ => ?_
  obtain ⟨a, e, ⟨xs, hq⟩, q⟩ := q1
  subst e
  cases r1
  obtain ⟨its, rv, p, hz⟩ := I1.tuple hq
  refine wpAny_pyIter_tuple (show s1.heap.IsTuple a its.toArray from p) ?_
  refine ⟨s1.heap.objs.size, [s1.heap.objs.size], _, _, H1, rfl, I1.kept (t' := s1.toks) fun b o e => Heap.get?_push_of_some _ e, turn_tuple a _, ⟨_, Heap.get?_push_size _ rfl, rfl, rfl⟩, fun b hb => ?_, q⟩
  have e : b = s1.heap.objs.size := by simpa using hb
  subst e
  exact I1.fpOk (Nat.le_refl _) (I1.hok.fresh (Nat.le_refl _))
theorem range_it {pins : List (Addr × Obj)} {σ : St} {H : Hp} {s : Shared} {R : It → Hp → Prop} {E : Value → Shared → Prop} {lo hi : Int} {t u v : Tok} {tk : Nat} (I : Inv X pins σ H s) (h1 : -(2 ^ 62) ≤ lo) (h2 : lo < 2 ^ 62) (h3 : -(2 ^ 62) ≤ hi) (h4 : hi < 2 ^ 62)
    (q : R (Itr lo (hi - lo).toNat) H) : wpAny (model X.prog X.w) X.A (pyIter (.ref s.heap.objs.size)) (PIE X pins σ tg R) E { s with heap := s.heap.push { cls := .type "range", data := .fields #[.int lo t, .int hi u, .int 1 v] }, toks := tk } := by
  refine wpAny_pyIter_range (IsRange.new ..) (small_one h1 h2 h3 h4) ?_
  have I1 : Inv X pins σ H { s with heap := s.heap.push { cls := .type "range", data := .fields #[.int lo t, .int hi u, .int 1 v] }, toks := tk } := I.kept fun b o e => Heap.get?_push_of_some _ e
  refine ⟨(s.heap.push { cls := .type "range", data := .fields #[.int lo t, .int hi u, .int 1 v] }).objs.size, [(s.heap.push { cls := .type "range", data := .fields #[.int lo t, .int hi u, .int 1 v] }).objs.size], _, _, H, rfl,
    I1.kept (t' := tk) fun b o e => Heap.get?_push_of_some _ e, turn_range _ lo (hi - lo).toNat, ?_, fun b hb => ?_, q⟩
  · have e1 : lo + ((0 : Nat) : Int) * 1 = lo := by simp
    have e2 : (((hi - lo).toNat : Nat) : Int) - ((0 : Nat) : Int) = Builtin.Range.rangeSize lo hi 1 := by rw [rangeSize_one]; split <;> omega
    show IsRangeIter _ _ (lo + ((0 : Nat) : Int) * 1) ((((hi - lo).toNat : Nat) : Int) - ((0 : Nat) : Int)) 1
    rw [e1, e2]
    exact Heap.get?_push_size _ rfl
  · have e : b = (s.heap.push { cls := .type "range", data := .fields #[.int lo t, .int hi u, .int 1 v] }).objs.size := by simpa using hb
    subst e
    exact I1.fpOk (Nat.le_refl _) (I1.hok.fresh (Nat.le_refl _))
def iRng1 (ta : TA) : TI := fun σ H R => ta σ H fun vs H1 => ∃ j : Int, vs = [.int j] ∧ -(2 ^ 62) ≤ j ∧ j < 2 ^ 62 ∧ R (Itr 0 j.toNat) H1
theorem pi_range1 {a : Expr} {ta : TA} {p pos : Pos} (hg : Gl X "range") (hm : X.mg "range" = none) (ha : PA X [a] ta) (hs : starEach [a] X.env = [(false, eval a X.env)] := by rfl) : PI X tg (.Call (.Name "range" p) [a] [] pos) (iRng1 ta) := by
  intro pins s σ H R I h
  refine Call_ (ld_blt I hg hm boot_range (PyProof.Rows.callWith_type1 (thn (ha pos pins s σ H _ I h) fun us s1 ⟨vs, H1, I1, r1, q1⟩ => ?_) hs rfl))
  obtain ⟨j, e, q1, q2, q⟩ := q1
  subst e
  cases r1 with
  | cons r rr =>
    cases rr
    obtain ⟨t, rfl⟩ := r
    exact call_range_1 (range_it I1 (by omega) (by omega) q1 q2 (by simpa using q))
def tFor (wi : TI) (g : TG) (tb : TS) : TS := fun D σ H => wi σ H fun J H1 => ∃ W : Nat → Nat → St → Hp → Prop, (∃ m, W 0 m σ H1) ∧ ∀ i m σ H, W i m σ H →
  (J.stop i H ∧ D.nx σ H) ∨ (J.go i H ∧ ∃ N : St → Hp → Prop, (∀ σ' H', N σ' H' → ∃ m', m' < m ∧ W (i + 1) m' σ' H') ∧ ∀ x H', J.yld i H x H' → g x σ H' fun σ2 H2 => tb { D with nx := N, ct := N, bk := D.nx } σ2 H2)
def pinsAt (fp : List Addr) (h : Heap) : List (Addr × Obj) := fp.filterMap fun b => (h.get? b).map fun o => (b, o)
theorem mem_pinsAt {fp : List Addr} {h : Heap} {b : Addr} {o : Obj} (hb : b ∈ fp) (e : h.get? b = some o) : (b, o) ∈ pinsAt fp h := List.mem_filterMap.mpr ⟨b, hb, by rw [e]; rfl⟩
theorem of_pinsAt {fp : List Addr} {h : Heap} {p : Addr × Obj} (hp : p ∈ pinsAt fp h) : p.1 ∈ fp ∧ h.get? p.1 = some p.2 := by
  obtain ⟨b, hb, e⟩ := List.mem_filterMap.mp hp
  cases q : h.get? b with
  | none => rw [q] at e; cases e
  | some o =>
    rw [q] at e
    have e' : (b, o) = p := Option.some.inj e
    subst e'
    exact ⟨hb, q⟩
theorem Inv.pinned {pins : List (Addr × Obj)} {σ : St} {H : Hp} {s : Shared} {fp : List Addr} (I : Inv X pins σ H s) (hf : ∀ b ∈ fp, FpOk X pins H b) (ho : ∀ b ∈ fp, ∃ o, s.heap.get? b = some o ∧ ∀ v, o.data ≠ .cell v) : Inv X (pins ++ pinsAt fp s.heap) σ H s :=
  I.pins_of fun p hp => (List.mem_append.mp hp).elim (fun z => I.pin p (List.mem_append_right _ z)) fun z => by
    obtain ⟨hb, e⟩ := of_pinsAt z
    obtain ⟨f0, f1, f2, _⟩ := hf p.1 hb
    obtain ⟨o, e', d⟩ := ho p.1 hb
    rw [e] at e'; cases e'
    exact ⟨e, f0, f1, f2, d⟩
theorem Inv.unpinned {pins pl : List (Addr × Obj)} {σ : St} {H : Hp} {s : Shared} (I : Inv X (pins ++ pl) σ H s) : Inv X pins σ H s := I.pins_of fun p hp => I.pin p (List.mem_append_right _ (List.mem_append_left _ hp))
theorem ps_for {iter : Expr} {body : List Stmt} {wi : TI} {g : TG} {tb : TS} {pos : Pos} (hp : PassesOwn (model X.prog X.w) X.A X.env X.xe) (hc : X.calm = true) (hi : PI X tg iter wi) (hg : PG X tg g) (hb : PSs X body tb)
    (hs : ∀ x, foldedSetIterable iter X.env x = pure x := by intro _; rfl) : PS X (.For tg iter body [] pos) (tFor wi g tb) := by
  intro pins s σ H D I h
  refine wpAny_For (thn (hi pins s σ H _ I h) fun v s1 h1 => thn h1 fun itv s2 h2 => ?_) hs
  obtain ⟨it, fp, tn, J, H2, e, I2, T, st2, f2, W, ⟨m0, w0⟩, turn⟩ := h2
  subst e
  have stat : ∀ {H' : Hp}, (∀ b ∈ fp, H' b = none) → ∀ b ∈ fp, FpOk X pins H' b := fun hn b hb => ⟨hn b hb, (f2 b hb).2⟩
  refine codeAny_forLoop_any (fun n s' => ∃ i σ' H', Inv X pins σ' H' s' ∧ tn i s'.heap ∧ (∀ b ∈ fp, H' b = none) ∧ W i n σ' H') ?_ m0 ⟨0, σ, H2, I2, st2, fun b hb => (f2 b hb).1, w0⟩
  rintro n s3 ⟨i, σ3, H3, I3, st3, fr3, w3⟩
  rcases turn i n σ3 H3 w3 with ⟨stop, qn⟩ | ⟨go, N, hN, step⟩
  · refine wpAny_passesOwn hp (thn (T.done X rfl rfl rfl hc i pins s3 σ3 H3 X.xe I3 (stat fr3) st3 stop) fun r s4 ⟨hr, I4⟩ => ?_)
    subst hr
    exact wpAny_execs_nil ⟨σ3, H3, I4, qn⟩
  · refine wpAny_passesOwn hp (thn (T.item X rfl rfl rfl hc i pins s3 σ3 H3 X.xe I3 (stat fr3) st3 go) fun r s4 ⟨u, hr, h4⟩ => ?_)
    subst hr
    refine wpAny_passesOwn hp (thn h4 fun _ s5 ⟨x, H5, I5, r5, y5, st5, fr5⟩ => ?_)
    have I5' := I5.pinned (stat fr5) (T.obj _ _ st5)
    refine wpAny_passesOwn hp (thn (hg _ s5 σ3 H5 x u _ I5' r5 (step x H5 y5)) fun _ s6 ⟨σ6, H6, I6, q6⟩ => ?_)
    refine wpAny_passesOwn hp (thn (hb _ s6 σ6 H6 _ I6 q6) fun f s7 q7 => ?_)
    have again : ∀ {σ7 : St} {H7 : Hp}, Inv X (pins ++ pinsAt fp s5.heap) σ7 H7 s7 → N σ7 H7 → ∃ m, m < n ∧ ∃ i σ' H', Inv X pins σ' H' s7 ∧ tn i s7.heap ∧ (∀ b ∈ fp, H' b = none) ∧ W i m σ' H' := fun {σ7 H7} I7 n7 => by
      obtain ⟨m', hm, w7⟩ := hN σ7 H7 n7
      refine ⟨m', hm, i + 1, σ7, H7, I7.unpinned, T.keep _ _ _ st5 fun b hb o e => (I7.pin (b, o) (List.mem_append_right _ (List.mem_append_right _ (mem_pinsAt hb e)))).1, fun b hb => ?_, w7⟩
      obtain ⟨o, e, d⟩ := T.obj _ _ st5 b hb
      exact (I7.pin (b, o) (List.mem_append_right _ (List.mem_append_right _ (mem_pinsAt hb e)))).2.1
    cases f with
    | next => obtain ⟨σ7, H7, I7, n7⟩ := q7; exact again I7 n7
    | cont => obtain ⟨σ7, H7, I7, n7⟩ := q7; exact again I7 n7
    | brk => obtain ⟨σ7, H7, I7, q7⟩ := q7; exact ⟨σ7, H7, I7.unpinned, q7⟩
    | ret v => obtain ⟨x7, σ7, H7, I7, r7, q7⟩ := q7; exact ⟨x7, σ7, H7, I7.unpinned, r7, q7⟩
end
theorem for_list {K : PySem.W.Frag} {a : Addr} {xs : List V} {g : TG} {tb : TS} {D : Ends} {σ : St} {H : Hp} (Pv : Nat → St → Hp → Prop) (h0 : Pv 0 σ H) (hl : ∀ i σ H, i ≤ xs.length → Pv i σ H → SqL K H a xs)
    (hs : ∀ i x σ H, xs[i]? = some x → Pv i σ H → g x σ H fun σ2 H2 => tb { D with nx := Pv (i + 1), ct := Pv (i + 1), bk := D.nx } σ2 H2) (hd : ∀ σ H, Pv xs.length σ H → D.nx σ H) :
    ∃ W : Nat → Nat → St → Hp → Prop, (∃ m, W 0 m σ H) ∧ ∀ i m σ H, W i m σ H →
      ((Itl K a).stop i H ∧ D.nx σ H) ∨ ((Itl K a).go i H ∧ ∃ N : St → Hp → Prop, (∀ σ' H', N σ' H' → ∃ m', m' < m ∧ W (i + 1) m' σ' H') ∧ ∀ x H', (Itl K a).yld i H x H' → g x σ H' fun σ2 H2 => tb { D with nx := N, ct := N, bk := D.nx } σ2 H2) := by
  refine ⟨fun i m σ H => m = xs.length - i ∧ i ≤ xs.length ∧ Pv i σ H, ⟨xs.length, by simp, Nat.zero_le _, h0⟩, ?_⟩
  rintro i m σ H ⟨rfl, hi, p⟩
  have q := hl i σ H hi p
  by_cases hlt : i < xs.length
  · refine .inr ⟨⟨xs, xs[i], q, by simp [hlt]⟩, Pv (i + 1), fun σ' H' p' => ⟨xs.length - (i + 1), by omega, rfl, hlt, p'⟩, fun x H' y => ?_⟩
    obtain ⟨e, y⟩ := y
    subst e
    exact hs i x σ _ (y xs q) p
  · have e : i = xs.length := by omega
    subst e
    exact .inl ⟨⟨xs, q, Nat.le_refl _⟩, hd σ H p⟩
theorem for_range {lo : Int} {n : Nat} {g : TG} {tb : TS} {D : Ends} {σ : St} {H : Hp} (Pv : Nat → St → Hp → Prop) (h0 : Pv 0 σ H)
    (hs : ∀ i σ H, i < n → Pv i σ H → g (.int (lo + i)) σ H fun σ2 H2 => tb { D with nx := Pv (i + 1), ct := Pv (i + 1), bk := D.nx } σ2 H2) (hd : ∀ σ H, Pv n σ H → D.nx σ H) :
    ∃ W : Nat → Nat → St → Hp → Prop, (∃ m, W 0 m σ H) ∧ ∀ i m σ H, W i m σ H →
      ((Itr lo n).stop i H ∧ D.nx σ H) ∨ ((Itr lo n).go i H ∧ ∃ N : St → Hp → Prop, (∀ σ' H', N σ' H' → ∃ m', m' < m ∧ W (i + 1) m' σ' H') ∧ ∀ x H', (Itr lo n).yld i H x H' → g x σ H' fun σ2 H2 => tb { D with nx := N, ct := N, bk := D.nx } σ2 H2) := by
  refine ⟨fun i m σ H => m = n - i ∧ i ≤ n ∧ Pv i σ H, ⟨n, by simp, Nat.zero_le _, h0⟩, ?_⟩
  rintro i m σ H ⟨rfl, hi, p⟩
  by_cases hlt : i < n
  · refine .inr ⟨hlt, Pv (i + 1), fun σ' H' p' => ⟨n - (i + 1), by omega, rfl, hlt, p'⟩, fun x H' y => ?_⟩
    obtain ⟨e, y⟩ := y
    subst e y
    exact hs i σ _ hlt p
  · have e : i = n := by omega
    subst e
    exact .inl ⟨Nat.le_refl _, hd σ H p⟩
theorem while_by {c : TT} {tb : TS} {D : Ends} {σ : St} {H : Hp} (Pv : St → Hp → Prop) (μ : St → Hp → Nat) (h0 : Pv σ H)
    (hs : ∀ σ H, Pv σ H → c σ H fun b H1 => if b = true then tb { D with nx := fun σ' H' => Pv σ' H' ∧ μ σ' H' < μ σ H, ct := fun σ' H' => Pv σ' H' ∧ μ σ' H' < μ σ H, bk := D.nx } σ H1 else D.nx σ H1)
    (mono : ∀ σ H Q Q', (∀ b H1, Q b H1 → Q' b H1) → c σ H Q → c σ H Q') : tWhile c tb D σ H := by
  refine ⟨fun m σ H => m = μ σ H ∧ Pv σ H, ⟨_, rfl, h0⟩, ?_⟩
  rintro m σ H ⟨rfl, p⟩
  refine mono σ H _ _ (fun b H1 q => ?_) (hs σ H p)
  cases b with
  | true => exact ⟨_, fun σ' H' ⟨p', l⟩ => ⟨_, l, rfl, p'⟩, q⟩
  | false => exact q
end L2
namespace L2
open PySem PySem.Spec PyProof.Rows
abbrev R2 := V → V → Hp → VK → Prop
def OpR (X : Cx) (f : Value → Value → Sem Value) (r : R2) : Prop :=
  ∀ (pins : List (Addr × Obj)) (s : Shared) (σ : St) (H : Hp) (x y : V) (v u : Value) (Q : VK), Inv X pins σ H s → RelV x v → RelV y u → r x y H Q →
    wpAny (model X.prog X.w) X.A (f v u) (EP X pins σ Q) X.xe s
def UnR (X : Cx) (f : Value → Sem Value) (r : V → Hp → VK → Prop) : Prop :=
  ∀ (pins : List (Addr × Obj)) (s : Shared) (σ : St) (H : Hp) (x : V) (v : Value) (Q : VK), Inv X pins σ H s → RelV x v → r x H Q →
    wpAny (model X.prog X.w) X.A (f v) (EP X pins σ Q) X.xe s
def CallR (X : Cx) (f : Value) (r : List V → Hp → VK → Prop) : Prop :=
  ∀ (pins : List (Addr × Obj)) (s : Shared) (σ : St) (H : Hp) (xs : List V) (us : List Value) (Q : VK), Inv X pins σ H s → Vals xs us → r xs H Q →
    wpAny (model X.prog X.w) X.A (call f us) (EP X pins σ Q) X.xe s
def tOp (r : R2) (ta tb : TE) : TE := fun σ H Q => ta σ H fun x H1 => tb σ H1 fun y H2 => r x y H2 Q
def tUn (r : V → Hp → VK → Prop) (ta : TE) : TE := fun σ H Q => ta σ H fun x H1 => r x H1 Q
def rI (C : Int → Int → Prop) (g : Int → Int → V) : R2 := fun x y H Q => ∃ i j, x = .int i ∧ y = .int j ∧ C i j ∧ Q (g i j) H
def rI0 (g : Int → Int → V) : R2 := fun x y H Q => ∃ i j, x = .int i ∧ y = .int j ∧ Q (g i j) H
def rU (g : Int → V) : V → Hp → VK → Prop := fun x H Q => ∃ i, x = .int i ∧ Q (g i) H
section
variable {X : Cx} {a b c : Expr} {ta tb tc : TE} {pos : Pos}
theorem binT (ha : PE X a ta) (hb : PE X b tb) {pins : List (Addr × Obj)} {s : Shared} {σ : St} {H : Hp} {R : V → V → Hp → Prop} (I : Inv X pins σ H s)
    (h : ta σ H fun x H1 => tb σ H1 fun y H2 => R x y H2) {Q : Value → Shared → Prop} {f : Value → Value → Sem Value}
    (hf : ∀ v u s2 x y H2, Inv X pins σ H2 s2 → RelV x v → RelV y u → R x y H2 → wpAny (model X.prog X.w) X.A (f v u) Q X.xe s2) :
    wpAny (model X.prog X.w) X.A (eval a X.env) (fun v s₁ => wpAny (model X.prog X.w) X.A (eval b X.env) (fun u s₂ => wpAny (model X.prog X.w) X.A (f v u) Q X.xe s₂) X.xe s₁) X.xe s := by
  refine thn (ha pins s σ H _ I h) fun v s1 ⟨x, H1, I1, r1, q1⟩ => ?_
  refine thn (hb pins s1 σ H1 _ I1 q1) fun u s2 ⟨y, H2, I2, r2, q2⟩ => ?_
  exact hf v u s2 x y H2 I2 r1 r2 q2
theorem pe_op {op : Operator} {r : R2} (ho : OpR X (binaryOp op) r) (ha : PE X a ta) (hb : PE X b tb) : PE X (.BinOp a op b pos) (tOp r ta tb) := by
  intro pins s σ H Q I h
  exact wpAny_BinOp (binT ha hb I h fun v u s2 x y H2 I2 rx ry q => ho pins s2 σ H2 x y v u Q I2 rx ry q)
theorem pe_un {op : UnaryOp} {r : V → Hp → VK → Prop} (ho : UnR X (unaryOp op) r) (ha : PE X a ta) : PE X (.UnaryOp op a pos) (tUn r ta) := by
  intro pins s σ H Q I h
  exact UnaryOp_ (thn (ha pins s σ H _ I h) fun v s1 ⟨x, H1, I1, r1, q1⟩ => ho pins s1 σ H1 x v Q I1 r1 q1)
theorem opI {f : Value → Value → Sem Value} {C : Int → Int → Prop} {g : Int → Int → Int}
    (rule : ∀ (i j : Int) (t u : Tok) (s : Shared) (Q : Value → Shared → Prop) (E : Value → Shared → Prop), C i j → Q (.int (g i j) s.toks) { s with toks := s.toks + 1 } → wpAny (model X.prog X.w) X.A (f (.int i t) (.int j u)) Q E s) :
    OpR X f (rI C fun i j => .int (g i j)) := by
  intro pins s σ H x y v u Q I rx ry h
  obtain ⟨i, j, rfl, rfl, hc, q⟩ := h
  obtain ⟨t, rfl⟩ := rx
  obtain ⟨t', rfl⟩ := ry
  exact rule i j t t' s _ _ hc ⟨.int (g i j), H, I.tok _, ⟨_, rfl⟩, q⟩
theorem opI0 {f : Value → Value → Sem Value} {g : Int → Int → Int}
    (rule : ∀ (i j : Int) (t u : Tok) (s : Shared) (Q : Value → Shared → Prop) (E : Value → Shared → Prop), Q (.int (g i j) s.toks) { s with toks := s.toks + 1 } → wpAny (model X.prog X.w) X.A (f (.int i t) (.int j u)) Q E s) :
    OpR X f (rI0 fun i j => .int (g i j)) := by
  intro pins s σ H x y v u Q I rx ry h
  obtain ⟨i, j, rfl, rfl, q⟩ := h
  obtain ⟨t, rfl⟩ := rx
  obtain ⟨t', rfl⟩ := ry
  exact rule i j t t' s _ _ ⟨.int (g i j), H, I.tok _, ⟨_, rfl⟩, q⟩
theorem opB0 {f : Value → Value → Sem Value} {g : Int → Int → Bool}
    (rule : ∀ (i j : Int) (t u : Tok) (s : Shared) (Q : Value → Shared → Prop) (E : Value → Shared → Prop), Q (.bool (g i j)) s → wpAny (model X.prog X.w) X.A (f (.int i t) (.int j u)) Q E s) :
    OpR X f (rI0 fun i j => .bl (g i j)) := by
  intro pins s σ H x y v u Q I rx ry h
  obtain ⟨i, j, rfl, rfl, q⟩ := h
  obtain ⟨t, rfl⟩ := rx
  obtain ⟨t', rfl⟩ := ry
  exact rule i j t t' s _ _ ⟨.bl (g i j), H, I, rfl, q⟩
def CDiv (i j : Int) : Prop := 0 < j ∧ j < 1073741824
def CPow (i j : Int) : Prop := 0 ≤ j ∧ j ≤ 1000000 ∧ i.natAbs < 2 ^ 64
def CMul (i j : Int) : Prop := (-(2 ^ 64) < i ∧ i < 2 ^ 64) ∨ (-(2 ^ 64) < j ∧ j < 2 ^ 64)
theorem CMul.ok {i j : Int} (h : CMul i j) : IntMulOk i j := by
  rcases h with ⟨h1, h2⟩ | ⟨h1, h2⟩
  · exact .of_left (intBits_le_64 h1 h2)
  · exact .of_right (intBits_le_64 h1 h2)
theorem op_add : OpR X (binaryOp .Add) (rI0 fun i j => .int (i + j)) := opI0 fun _ _ _ _ _ _ _ q => add_int q
theorem op_sub : OpR X (binaryOp .Sub) (rI0 fun i j => .int (i - j)) := opI0 fun _ _ _ _ _ _ _ q => sub_int q
theorem op_fdiv : OpR X (binaryOp .FloorDiv) (rI CDiv fun i j => .int (i / j)) := opI fun i j _ _ _ _ _ hc q => by
  have h1 : (0 : Int) < j := hc.1
  have h2 : j < 1073741824 := hc.2
  exact floordiv_int (by omega) (by rw [Int.fdiv_eq_ediv_of_nonneg i (by omega)]; exact q) (.inl (PyProof.noPylong_small (by omega)))
theorem op_mod : OpR X (binaryOp .Mod) (rI (fun _ j => 0 < j) fun i j => .int (i % j)) := opI fun i j _ _ _ _ _ hc q => by
  have h1 : (0 : Int) < j := hc
  exact mod_int' (by omega) (by rw [Int.fmod_eq_emod_of_nonneg i (by omega)]; exact q)
theorem op_modN : OpR X (binaryOp .Mod) (rI (fun _ j => j ≠ 0) fun i j => .int (i.fmod j)) := opI fun _ _ _ _ _ _ _ hc q => mod_int' hc q
theorem op_pow : OpR X (binaryOp .Pow) (rI CPow fun i j => .int (i ^ j.toNat)) := opI fun _ _ _ _ _ _ _ hc q => pow_int_small hc.1 hc.2.1 hc.2.2 q
theorem op_shl : OpR X (binaryOp .LShift) (rI CPow fun i j => .int (i * 2 ^ j.toNat)) := opI fun _ _ _ _ _ _ _ hc q => lshift_int_small hc.1 hc.2.1 hc.2.2 q
theorem unI {f : Value → Sem Value} {g : Int → Int}
    (rule : ∀ (i : Int) (t : Tok) (s : Shared) (Q : Value → Shared → Prop) (E : Value → Shared → Prop), Q (.int (g i) s.toks) { s with toks := s.toks + 1 } → wpAny (model X.prog X.w) X.A (f (.int i t)) Q E s) :
    UnR X f (rU fun i => .int (g i)) := by
  intro pins s σ H x v Q I rx h
  obtain ⟨i, rfl, q⟩ := h
  obtain ⟨t, rfl⟩ := rx
  exact rule i t s _ _ ⟨.int (g i), H, I.tok _, ⟨_, rfl⟩, q⟩
theorem un_neg : UnR X (unaryOp .USub) (rU fun i => .int (-i)) := unI fun _ _ _ _ _ q => neg_int q
end
def scal : V → V → Bool
  | .non, .non => true | .non, .int _ => true | .int _, .non => true | .non, .bl _ => true | .bl _, .non => true | .non, .str _ => true | .str _, .non => true
  | .int _, .int _ => true | .bl _, .bl _ => true | .str _, .str _ => true | .byt _, .byt _ => true
  | .int _, .str _ => true | .str _, .int _ => true | .bl _, .str _ => true | .str _, .bl _ => true
  | _, _ => false
def rEq : R2 := fun x y H Q => scal x y = true ∧ Q (.bl (decide (x = y))) H
def rNe : R2 := fun x y H Q => scal x y = true ∧ Q (.bl (!decide (x = y))) H
theorem dec_int {i j : Int} : decide (V.int i = V.int j) = (i == j) := by
  rw [Bool.eq_iff_iff]
  simp
theorem dec_bl {i j : Bool} : decide (V.bl i = V.bl j) = (i == j) := by
  rw [Bool.eq_iff_iff]
  simp
theorem dec_str {i j : Str} : decide (V.str i = V.str j) = (i == j) := by
  rw [Bool.eq_iff_iff]
  simp
theorem dec_byt {i j : Array UInt8} : decide (V.byt i = V.byt j) = (i.toList == j.toList) := by
  rw [Bool.eq_iff_iff]
  cases i
  cases j
  simp
section
variable {X : Cx} {a b c : Expr} {ta tb tc : TE} {pos : Pos}
theorem fin_bl {pins : List (Addr × Obj)} {σ : St} {H : Hp} {s : Shared} {Q : VK} {k k' : Bool} (I : Inv X pins σ H s) (q : Q (.bl k) H) (e : k = k') : EP X pins σ Q (.bool k') s := by
  subst e
  exact ⟨.bl k, H, I, rfl, q⟩
theorem op_eq : OpR X (compareOp .Eq) rEq := by
  intro pins s σ H x y v u Q I rx ry h
  obtain ⟨hs, q⟩ := h
  cases x with
  | non =>
    cases rx
    cases y with
    | non => cases ry; exact PySem.EqNone.eq_none_none (fin_bl I q (by simp))
    | bl j => cases ry; exact PySem.EqNone.eq_none_bool (fin_bl I q (by simp))
    | int j => obtain ⟨t', rfl⟩ := ry; exact PySem.EqNone.eq_none_int (fin_bl I q (by simp))
    | str j => obtain ⟨t', rfl⟩ := ry; exact PySem.EqNone.eq_none_str (fin_bl I q (by simp))
    | _ => exact absurd (show false = true from hs) Bool.false_ne_true
  | bl i =>
    cases rx
    cases y with
    | non => cases ry; exact PySem.EqNone.eq_bool_none (fin_bl I q (by simp))
    | bl j => cases ry; exact eq_bool (fin_bl I q dec_bl)
    | str j => obtain ⟨t', rfl⟩ := ry; exact PySem.EqMixed.eq_bool_str (fin_bl I q (by simp))
    | _ => exact absurd (show false = true from hs) Bool.false_ne_true
  | int i =>
    obtain ⟨t, rfl⟩ := rx
    cases y with
    | non => cases ry; exact PySem.EqNone.eq_int_none (fin_bl I q (by simp))
    | int j => obtain ⟨t', rfl⟩ := ry; exact eq_int (fin_bl I q dec_int)
    | str j => obtain ⟨t', rfl⟩ := ry; exact PySem.EqMixed.eq_int_str (fin_bl I q (by simp))
    | _ => exact absurd (show false = true from hs) Bool.false_ne_true
  | str i =>
    obtain ⟨t, rfl⟩ := rx
    cases y with
    | non => cases ry; exact PySem.EqNone.eq_str_none (fin_bl I q (by simp))
    | bl j => cases ry; exact PySem.EqMixed.eq_str_bool (fin_bl I q (by simp))
    | int j => obtain ⟨t', rfl⟩ := ry; exact PySem.EqMixed.eq_str_int (fin_bl I q (by simp))
    | str j => obtain ⟨t', rfl⟩ := ry; exact eq_str (fin_bl I q dec_str)
    | _ => exact absurd (show false = true from hs) Bool.false_ne_true
  | byt i =>
    obtain ⟨t, rfl⟩ := rx
    cases y with
    | byt j => obtain ⟨t', rfl⟩ := ry; exact PySem.W.eq_bytes (fin_bl I q dec_byt)
    | _ => exact absurd (show false = true from hs) Bool.false_ne_true
  | _ => cases y <;> exact absurd (show false = true from hs) Bool.false_ne_true
theorem op_ne : OpR X (compareOp .NotEq) rNe := by
  intro pins s σ H x y v u Q I rx ry h
  obtain ⟨hs, q⟩ := h
  cases x with
  | non =>
    cases rx
    cases y with
    | non => cases ry; exact PySem.EqNone.ne_none_none (fin_bl I q (by simp))
    | bl j => cases ry; exact PySem.EqNone.ne_none_bool (fin_bl I q (by simp))
    | int j => obtain ⟨t', rfl⟩ := ry; exact PySem.EqNone.ne_none_int (fin_bl I q (by simp))
    | str j => obtain ⟨t', rfl⟩ := ry; exact PySem.EqNone.ne_none_str (fin_bl I q (by simp))
    | _ => exact absurd (show false = true from hs) Bool.false_ne_true
  | bl i =>
    cases rx
    cases y with
    | non => cases ry; exact PySem.EqNone.ne_bool_none (fin_bl I q (by simp))
    | bl j => cases ry; exact ne_bool (fin_bl I q (congrArg not dec_bl))
    | str j => obtain ⟨t', rfl⟩ := ry; exact PySem.EqMixed.ne_bool_str (fin_bl I q (by simp))
    | _ => exact absurd (show false = true from hs) Bool.false_ne_true
  | int i =>
    obtain ⟨t, rfl⟩ := rx
    cases y with
    | non => cases ry; exact PySem.EqNone.ne_int_none (fin_bl I q (by simp))
    | int j => obtain ⟨t', rfl⟩ := ry; exact ne_int (fin_bl I q (congrArg not dec_int))
    | str j => obtain ⟨t', rfl⟩ := ry; exact PySem.EqMixed.ne_int_str (fin_bl I q (by simp))
    | _ => exact absurd (show false = true from hs) Bool.false_ne_true
  | str i =>
    obtain ⟨t, rfl⟩ := rx
    cases y with
    | non => cases ry; exact PySem.EqNone.ne_str_none (fin_bl I q (by simp))
    | bl j => cases ry; exact PySem.EqMixed.ne_str_bool (fin_bl I q (by simp))
    | int j => obtain ⟨t', rfl⟩ := ry; exact PySem.EqMixed.ne_str_int (fin_bl I q (by simp))
    | str j => obtain ⟨t', rfl⟩ := ry; exact ne_str (fin_bl I q (congrArg not dec_str))
    | _ => exact absurd (show false = true from hs) Bool.false_ne_true
  | byt i =>
    obtain ⟨t, rfl⟩ := rx
    cases y with
    | byt j => obtain ⟨t', rfl⟩ := ry; exact PySem.W.ne_bytes (fin_bl I q (congrArg not dec_byt))
    | _ => exact absurd (show false = true from hs) Bool.false_ne_true
  | _ => cases y <;> exact absurd (show false = true from hs) Bool.false_ne_true
theorem op_lt : OpR X (compareOp .Lt) (rI0 fun i j => .bl (decide (i < j))) := opB0 fun _ _ _ _ _ _ _ q => lt_int q
theorem op_gt : OpR X (compareOp .Gt) (rI0 fun i j => .bl (decide (j < i))) := opB0 fun _ _ _ _ _ _ _ q => gt_int q
theorem op_ge : OpR X (compareOp .GtE) (rI0 fun i j => .bl (decide (j ≤ i))) := opB0 fun _ _ _ _ _ _ _ q => ge_int q
theorem nomark (b : Expr) {op : CmpOp} (h : op ≠ .In := by decide) (h2 : op ≠ .NotIn := by decide) : behindInMarks op b = false := by
  have e1 : (op == CmpOp.In) = false := by cases op <;> first | rfl | exact absurd rfl h
  have e2 : (op == CmpOp.NotIn) = false := by cases op <;> first | rfl | exact absurd rfl h2
  cases b <;> simp [behindInMarks, e1, e2]
theorem pe_cmpR {op : CmpOp} {r : R2} (ho : OpR X (compareOp op) r) (ha : PE X a ta) (hb : PE X b tb) (hm : behindInMarks op b = false) : PE X (.Compare a [op] [b] pos) (tOp r ta tb) := by
  intro pins s σ H Q I h
  exact wpAny_Compare1 (binT ha hb I h fun v u s2 x y H2 I2 rx ry q => ho pins s2 σ H2 x y v u Q I2 rx ry q) hm
def tTest (t : TE) : TT := fun σ H Q => t σ H fun x H' => ∃ k, x = .bl k ∧ Q k H'
theorem pt_cmpR {op : CmpOp} {r : R2} (ho : OpR X (compareOp op) r) (ha : PE X a ta) (hb : PE X b tb) (hm : behindInMarks op b = false) : PT X (.Compare a [op] [b] pos) (tTest (tOp r ta tb)) := by
  intro pins s σ H Q I h
  refine wpAny_isTrue_Compare1 (thn (ha pins s σ H _ I h) fun v s1 ⟨x, H1, I1, r1, q1⟩ => thn (hb pins s1 σ H1 _ I1 q1) fun u s2 ⟨y, H2, I2, r2, q2⟩ =>
    thn (ho pins s2 σ H2 x y v u _ I2 r1 r2 q2) fun c s3 ⟨z, H3, I3, r3, k, e, q3⟩ => ?_) hm
  subst e
  cases r3
  exact wpAny_truthy_bool ⟨H3, I3, q3⟩
theorem line63 : (sizeLine : Nat) < 2 ^ 63 := by rw [sizeLine_eq]; decide
theorem vals1 {x : V} {us : List Value} (r : Vals [x] us) : ∃ u, us = [u] ∧ RelV x u := by
  cases r with
  | cons r1 r2 => cases r2; exact ⟨_, rfl, r1⟩
theorem call_abs : CallR X (.builtin "abs") (fun xs H Q => ∃ i, xs = [.int i] ∧ Q (.int (if i < 0 then -i else i)) H) := by
  intro pins s σ H xs us Q I r h
  obtain ⟨i, rfl, q⟩ := h
  obtain ⟨u, rfl, t, rfl⟩ := vals1 r
  exact call_abs_int fun u tk => ⟨.int (if i < 0 then -i else i), H, I.tok _, ⟨_, rfl⟩, q⟩
end
end L2
namespace L2
open PySem PySem.Spec PyProof.Rows
structure ObjM (h : Heap) (x dx C : Addr) (mA : Str → Option Value) : Prop where
  obj : h.get? x = some (PySem.W.instObj C dx)
  ns : h.Ns1 dx mA
  ne : dx ≠ x
theorem lookIn_ns {h : Heap} {dx : Addr} {mA : Str → Option Value} (n : h.Ns1 dx mA) : ∃ od, h.get? dx = some od ∧ ∀ name, PySem.W.lookIn name od = some (mA name) := by
  obtain ⟨o, es, ep, ho, hd, hk, _, hm⟩ := n
  refine ⟨o, ho, fun name => ?_⟩
  have e := hm name
  unfold nsFind findBy at e
  rw [← Array.find?_toList] at e
  unfold PySem.W.lookIn
  rw [hd]
  dsimp only
  split
  · rename_i y q
    rw [q] at e
    exact congrArg some e
  · rename_i q
    rw [q] at e
    have a : es.toList.any (·.refKey) = false := by
      rw [List.any_eq_false]
      intro y hy
      obtain ⟨z, t, hkey⟩ := hk y (Array.mem_toList_iff.mp hy)
      simp [DictEntry.refKey, hkey]
    have a' : ¬ es.toList.any (·.refKey) = true := by rw [a]; exact Bool.false_ne_true
    rw [if_neg a']
    exact congrArg some e
theorem ObjM.look {h : Heap} {x dx C : Addr} {mA : Str → Option Value} (I : ObjM h x dx C mA) : ∃ od, PySem.W.InstAt h x (PySem.W.instObj C dx) C (some od) ∧ ∀ name, PySem.W.lookIn name od = some (mA name) :=
  let ⟨od, ho, hl⟩ := lookIn_ns I.ns
  ⟨od, ⟨I.obj, rfl, rfl, ho⟩, hl⟩
section
variable {prog : Program} {w : World} {A : Around} {E : Value → Shared → Prop} {s : Shared} {K : PySem.W.Frag} {x dx C f : Addr} {mA : Str → Option Value} {name : Str} {v : Value}
end
section
variable {P : Program} {w : World} {H H' : Hp} {h h' : Heap} {a C dx : Addr} {fs fs' : List (Str × V)}
theorem ins_get (hok : HOk P w H h) (e : H a = some (.ins C dx fs)) : ∃ mA, ObjM h a dx C mA ∧ (∀ f, RelO (fs.lookup f) (mA f)) ∧ PySem.Within mA (fs.map (·.1)) ∧ fs.length ≤ 1000 ∧ H dx = some (.own a) := by
  obtain ⟨d, z, ne, ob, mA, n, r, q⟩ := (show ObjOk P w H h a (.ins C dx fs) from hok a _ e)
  exact ⟨mA, ⟨ob, n, ne⟩, r, q, z, d⟩
end
structure Cls (K : PySem.W.Frag) (C : Addr) : Prop where
  pg : PySem.W.plainGet K C Str.empty = true
  hd : PySem.W.hasDictIn K C = true
  po : PySem.W.plainOver K C = true
  sa : PySem.W.findIn K (.ref C) "__setattr__" = some (some (.builtin "object.__setattr__"))
theorem Cls.get {K : PySem.W.Frag} {C : Addr} (c : Cls K C) (f : Str) : PySem.W.plainGet K C f = true := c.pg
section
variable {X : Cx} {pins : List (Addr × Obj)} {σ : St} {H : Hp} {s : Shared} {a C dx : Addr} {fs : List (Str × V)} {f : Str} {v : V} {A : Around} {E : Value → Shared → Prop}
end
section
variable {X : Cx} {o e value : Expr} {f : Str} {pos pos' tpos : Pos} {ta tv : TE}
end
section
variable {X : Cx} {pins : List (Addr × Obj)} {σ : St} {H : Hp} {s : Shared} {A : Around} {E : Value → Shared → Prop} {Q : Value → Shared → Prop} {c : Value} {b : Bool}
inductive TyOf (K : PySem.W.Frag) (H : Hp) : V → Value → Prop where
  | non : TyOf K H .non (.type "NoneType")
  | bl (x : Bool) : TyOf K H (.bl x) (.type "bool")
  | int (i : Int) : TyOf K H (.int i) (.type "int")
  | str (x : Str) : TyOf K H (.str x) (.type "str")
  | flt (x : UInt64) : TyOf K H (.flt x) (.type "float")
  | lst {a : Addr} {xs : List V} (e : H a = some (.lst xs)) : TyOf K H (.ref a) (.type "list")
  | frz {a : Addr} {o : Obj} {xs : List V} (e : H a = some (.frz o (.lst xs))) : TyOf K H (.ref a) (.type "list")
  | tup {a : Addr} {xs : List V} (e : H a = some (.tup xs)) : TyOf K H (.ref a) (.type "tuple")
  | dK {a : Addr} {kvs : List (Key × V)} (e : H a = some (.dK kvs)) : TyOf K H (.ref a) (.type "dict")
  | dT {a : Addr} {kvs : List (List Key × V)} (e : H a = some (.dT kvs)) : TyOf K H (.ref a) (.type "dict")
  | ins {a C dx : Addr} {fs : List (Str × V)} (e : H a = some (.ins C dx fs)) (cl : Cls K C) (ha : PySem.W.findIn K (.ref C) "__class__" = some (some (.builtin "object.__class__")))
      (hn : PySem.W.specialIn K (.builtin "object.__class__") "__get__" = some (some (.builtin "getset_descriptor.__get__"))) (htk : PySem.W.takesIn K (.builtin "object.__class__") = some true)
      (hm : PySem.W.mroIn K C (.type "object") = some true) : TyOf K H (.ref a) (.ref C)
theorem isinst_ok {x : V} {u t : Value} (I : Inv X pins σ H s) (rx : RelV x u) (ty : TyOf X.K H x t) (e : PySem.W.kitOne X.K t c = some b) (h : ∀ tk, Q (.bool b) { s with toks := tk }) :
    wpAny (model X.prog X.w) A (call (.builtin "isinstance") [u, c]) Q E s := by
  cases ty with
  | non => cases (show u = Value.none from rx); exact PySem.W.kia_one PySem.W.kitx_none I.kIn True.intro e (fun z => nomatch z) h
  | bl y => cases (show u = Value.bool y from rx); exact PySem.W.kia_one PySem.W.kitx_bool I.kIn True.intro e (fun z => nomatch z) h
  | int i => obtain ⟨t, q⟩ := (show ∃ t, u = Value.int i t from rx); cases q; exact PySem.W.kia_one PySem.W.kitx_int I.kIn True.intro e (fun z => nomatch z) h
  | str y => obtain ⟨t, q⟩ := (show ∃ t, u = Value.str y t from rx); cases q; exact PySem.W.kia_one PySem.W.kitx_str I.kIn True.intro e (fun z => nomatch z) h
  | flt y => obtain ⟨t, q⟩ := (show ∃ t, u = Value.float y t from rx); cases q; exact PySem.W.kia_one PySem.W.kitx_float I.kIn True.intro e (fun z => nomatch z) h
  | @lst a xs ea =>
    cases (show u = Value.ref a from rx)
    obtain ⟨_, _, n, _, h1⟩ := (show ObjOk X.prog X.w H s.heap a (.lst xs) from I.hok a _ ea)
    exact PySem.W.kia_one PySem.W.kitx_list I.kIn ⟨_, h1, rfl⟩ e (fun z => nomatch z) h
  | @frz a ob xs ea =>
    cases (show u = Value.ref a from rx)
    obtain ⟨_, _, _, n, _, h1⟩ := (show ObjOk X.prog X.w H s.heap a (.frz ob (.lst xs)) from I.hok a _ ea)
    exact PySem.W.kia_one PySem.W.kitx_list I.kIn ⟨_, h1, rfl⟩ e (fun z => nomatch z) h
  | @tup a xs ea =>
    cases (show u = Value.ref a from rx)
    obtain ⟨_, _, _, p⟩ := (show ObjOk X.prog X.w H s.heap a (.tup xs) from I.hok a _ ea)
    obtain ⟨o, h1, h2, _⟩ := p
    exact PySem.W.kia_one PySem.W.kitx_tuple I.kIn ⟨o, h1, h2⟩ e (fun z => nomatch z) h
  | @dK a kvs ea =>
    cases (show u = Value.ref a from rx)
    obtain ⟨_, _, vs, _, p⟩ := (show ObjOk X.prog X.w H s.heap a (.dK kvs) from I.hok a _ ea)
    obtain ⟨o, es, ep, h1, h2, _⟩ := p
    exact PySem.W.kia_one PySem.W.kitx_dict I.kIn ⟨o, h1, h2.1⟩ e (fun z => nomatch z) h
  | @dT a kvs ea =>
    cases (show u = Value.ref a from rx)
    obtain ⟨_, _, xs, _, o, es, ep, h1, h2, _⟩ := (show ObjOk X.prog X.w H s.heap a (.dT kvs) from I.hok a _ ea)
    exact PySem.W.kia_one PySem.W.kitx_dict I.kIn ⟨o, h1, h2.1⟩ e (fun z => nomatch z) h
  | @ins a C dx fs ea cl ha hn htk hm =>
    cases (show u = Value.ref a from rx)
    obtain ⟨mA, O, _⟩ := ins_get I.hok ea
    obtain ⟨od, J, _⟩ := O.look
    exact PySem.W.kia_one (PySem.W.kitx_own (cl.get _) cl.hd ha hn htk hm) I.kIn J e (fun z => nomatch z) h
end
end L2
namespace L2
open PySem PySem.Spec PyProof.Rows
structure Room (k : Nat) (A : Around) : Prop where
  hd : A.handled = none
  dp : A.depth + 3 * k + 5 < recursionLimit
  un : A.units + 16 * k + 200 < cLine
theorem Room.mono {j k : Nat} {A : Around} (r : Room k A) (h : j ≤ k) : Room j A := ⟨r.hd, by have := r.dp; omega, by have := r.un; omega⟩
theorem Room.deeper {k : Nat} {A : Around} (r : Room (k + 1) A) (env : Env) : Room k (A.deeper env) :=
  ⟨r.hd, by have := r.dp; show A.depth + 1 + 3 * k + 5 < _; omega, by have := r.un; show A.units + 3 + 16 * k + 200 < _; omega⟩
theorem Room.depth {k : Nat} {A : Around} (r : Room k A) : A.depth < recursionLimit := by have := r.dp; omega
theorem Room.units {k : Nat} {A : Around} (r : Room k A) : A.units + 64 < cLine := by have := r.un; omega
def tNil : TA := fun _ H Q => Q [] H
def tCons (ta : TE) (tr : TA) : TA := fun σ H Q => ta σ H fun x H1 => tr σ H1 fun xs H2 => Q (x :: xs) H2
section
variable {X : Cx} {e : Expr} {es : List Expr} {te : TE} {t : TA} {pos : Pos}
theorem pa_nil : PA X [] tNil := fun _ _ _ _ H Q I h => Calls.spliced_nil ⟨[], H, I, .nil, h⟩
theorem pa_cons (ha : PE X e te) (hr : PA X es t) (hs : starEach (e :: es) X.env = (false, eval e X.env) :: starEach es X.env := by rfl) : PA X (e :: es) (tCons te t) := by
  intro pos pins s σ H Q I h
  rw [hs]
  show wpAny _ _ (spliced ((false, eval e X.env) :: backTo pos (starEach es X.env))) _ _ s
  refine Calls.spliced_cons (thn (ha pins s σ H _ I h) fun u s1 ⟨x, H1, I1, r1, q1⟩ => ?_)
  exact thn (hr pos pins s1 σ H1 _ I1 q1) fun us s2 ⟨xs, H2, I2, r2, q2⟩ => ⟨x :: xs, H2, I2, .cons r1 r2, q2⟩
def tTup (t : TA) : TE := fun σ H Q => t σ H fun xs H1 => xs.length ≤ sizeLine ∧ ∀ p, H1 p = none → Q (.ref p) (upd H1 p (.tup xs))
def tLst (t : TA) : TE := fun σ H Q => t σ H fun xs H1 => xs.length ≤ sizeLine ∧ ∀ p, H1 p = none → Q (.ref p) (upd H1 p (.lst xs))
theorem pe_tup {x1} (h : PA X es t) : PE X (.Tuple es x1 pos) (tTup t) := by
  intro pins s σ H Q I hq
  refine wpAny_Tuple_spliced (thn (h pos pins s σ H _ I hq) fun us s1 ⟨xs, H1, I1, r, z, q⟩ => ⟨by rw [← r.length]; exact z, ?_⟩)
  have hf : H1 s1.heap.objs.size = none := I1.hok.fresh (Nat.le_refl _)
  refine ⟨.ref s1.heap.objs.size, upd H1 s1.heap.objs.size (.tup xs), I1.laid (t' := s1.toks) (fun b u e => Heap.get?_push_of_some _ e) (Nat.le_refl _) ?_, rfl, q _ hf⟩
  exact ⟨z, us, r, ⟨_, Heap.get?_push_size _ rfl, rfl, _, rfl⟩⟩
theorem pe_lst (h : PA X es t) : PE X (.List es pos) (tLst t) := by
  intro pins s σ H Q I hq
  refine wpAny_List_spliced (thn (h pos pins s σ H _ I hq) fun us s1 ⟨xs, H1, I1, r, z, q⟩ => ⟨by rw [← r.length]; exact z, ?_⟩)
  have hf : H1 s1.heap.objs.size = none := I1.hok.fresh (Nat.le_refl _)
  refine ⟨.ref s1.heap.objs.size, upd H1 s1.heap.objs.size (.lst xs), I1.laid (t' := s1.toks) (fun b u e => Heap.get?_push_of_some _ e) (Nat.le_refl _) ?_, rfl, q _ hf⟩
  exact ⟨z, us, 0, r, Heap.get?_push_size _ rfl⟩
end
abbrev Sp := List V → Hp → VK → XK → Prop
abbrev CXT := List Env → Hp → Shared → XK → Value → Shared → Prop
structure Env0 (P : Program) (w : World) (K : PySem.W.Frag) (mg : Str → Option Value) (base : Heap) (A : Around) (outer : List Env) (s : Shared) (H : Hp) : Prop where
  frames : A.frames = some outer
  mod : Mod K mg base
  bs : ∀ b o, base.get? b = some o → s.heap.get? b = some o ∧ H b = none
  bsz : base.objs.size ≤ s.heap.objs.size
  funs : s.heap.FunFrames base outer
  frf : ∀ b ∈ frs outer, H b = none
  hok : HOk P w H s.heap
  bare : AllBare s.gens
def CE (outer : List Env) (P : Program) (w : World) (H : Hp) (s : Shared) (Q : VK) (u : Value) (s' : Shared) : Prop :=
  ∃ v H', s'.os = s.os ∧ AllBare s'.gens ∧ Un (frs outer) [] H H' s.heap s'.heap ∧ HOk P w H' s'.heap ∧ RelV v u ∧ Q v H'
def CR (CX : CXT) (outer : List Env) (P : Program) (w : World) (H : Hp) (s : Shared) (Q : VK) (E : XK) (r : Result) (s' : Shared) : Prop :=
  match r with
  | .ok (.ret u) => CE outer P w H s Q u s'
  | .ok _ => False
  | .error e => CX outer H s E e s'
structure FnOk (P : Program) (w : World) (K : PySem.W.Frag) (mg : Str → Option Value) (base : Heap) (CX : CXT) (k : Nat) (f : Addr) (fd : FuncData) (ps : List Str) (sp : Sp) : Prop where
  len : ∀ vs H Q E, sp vs H Q E → vs.length = ps.length
  run : ∀ (A : Around) (outer : List Env) (s : Shared) (H : Hp) (args : Args) (us : List Value) (vs : List V) (Q : VK) (E : XK), Room k A → Env0 P w K mg base A outer s H → BindsTo s fd args (ps.zip us) → Vals vs us → sp vs H Q E →
    codeAny (model P w) A (.call (.ref f) args) (CR CX outer P w H s Q E) s
theorem FnOk.mono {P : Program} {w : World} {K : PySem.W.Frag} {mg : Str → Option Value} {base : Heap} {CX : CXT} {j k : Nat} {f : Addr} {fd : FuncData} {ps : List Str} {sp : Sp} (F : FnOk P w K mg base CX j f fd ps sp) (h : j ≤ k) :
    FnOk P w K mg base CX k f fd ps sp := ⟨F.len, fun A outer s H args us vs Q E hr => F.run A outer s H args us vs Q E (hr.mono h)⟩
section
variable {X : Cx} {pins : List (Addr × Obj)} {σ : St} {H : Hp} {s s' : Shared}
theorem Inv.env0 (I : Inv X pins σ H s) : Env0 X.prog X.w X.K X.mg X.base X.A X.stack s H :=
  ⟨I.ok.frames, I.ok.mod, I.bs, Nat.le_trans I.ok.bsz I.sz, I.stack, I.stkFree, I.hok, I.bare⟩
theorem Inv.after {Q : VK} {u : Value} (I : Inv X pins σ H s) (h : CE X.stack X.prog X.w H s Q u s') : EP X pins σ Q u s' := by
  obtain ⟨v, H', os, bare, un, hok, r, q⟩ := h
  obtain ⟨hh, g, d, t, os'⟩ := s'
  obtain rfl : os' = s.os := os
  exact ⟨v, H', I.call (h' := hh) (g' := g) (d' := d) (t' := t) (ch := []) un hok bare (fun b z => absurd z (by simp)), r, q⟩
end
def tCall (sp : Sp) (dvs : List V) (E : XK) (t : TA) : TE := fun σ H Q => t σ H fun vs H1 => sp (vs ++ dvs) H1 Q E
def Binds (K : PySem.W.Frag) (fd : FuncData) (ps : List Str) (ds : List Value) : Prop :=
  ∀ (s : Shared) (us : List Value), K.In s.heap → (us ++ ds).length = ps.length → BindsTo s fd ⟨us, []⟩ (ps.zip (us ++ ds))
theorem Binds.all {K : PySem.W.Frag} {fd : FuncData} {ps : List Str} (h : ∀ us : List Value, us.length = ps.length → bindArgs fd ⟨us, []⟩ = pure (ps.zip us)) : Binds K fd ps [] := fun s us _ hl => by
  rw [List.append_nil] at hl ⊢
  exact .of_eq (h us hl)
def Passes (CX : CXT) (X : Cx) (E : XK) : Prop := ∀ (pins : List (Addr × Obj)) (σ : St) (H : Hp) (s : Shared) (e : Value) (s' : Shared), Inv X pins σ H s → CX X.stack H s E e s' → X.xe e s'
section
variable {X : Cx} {CX : CXT} {k : Nat} {f C : Addr} {fd : FuncData} {ps : List Str} {sp : Sp} {dvs : List V} {ds : List Value} {E : XK} {x m : Str} {p pos apos : Pos} {e o : Expr} {es : List Expr} {ta : TE} {t : TA}
theorem run_fn {pins : List (Addr × Obj)} {σ : St} {H : Hp} {s : Shared} {Q : VK} {us : List Value} {vs : List V} (F : FnOk X.prog X.w X.K X.mg X.base CX k f fd ps sp) (hr : Room k X.A) (hb : Binds X.K fd ps ds) (hd : Vals dvs ds) (hx : Passes CX X E)
    (I : Inv X pins σ H s) (r : Vals vs us) (h : sp (vs ++ dvs) H Q E) : wpAny (model X.prog X.w) X.A (call (.ref f) us) (EP X pins σ Q) X.xe s := by
  have r2 : Vals (vs ++ dvs) (us ++ ds) := r.append hd
  have hl : (us ++ ds).length = ps.length := by rw [← r2.length]; exact F.len _ _ _ _ h
  refine wpAny_call (codeAny_mono (F.run X.A X.stack s H ⟨us, []⟩ (us ++ ds) (vs ++ dvs) Q E hr I.env0 (hb s us I.kIn hl) r2 h) fun r s' hq => ?_)
  cases r with
  | error e => exact hx pins σ H s e s' I hq
  | ok fl =>
    cases fl with
    | ret u => exact I.after hq
    | next => exact False.elim hq
    | brk => exact False.elim hq
    | cont => exact False.elim hq
theorem pe_call (F : FnOk X.prog X.w X.K X.mg X.base CX k f fd ps sp) (hr : Room k X.A) (hg : Gl X x) (hm : X.mg x = some (.ref f)) (hk : PySem.W.keepIn X.K (.ref f) = true) (hb : Binds X.K fd ps ds) (hd : Vals dvs ds) (hx : Passes CX X E)
    (ha : PA X (e :: es) t) (hdb : (x == ("__debug__" : Str)) = false := by decide) (he : starEach (e :: es) X.env = (false, eval e X.env) :: starEach es X.env := by rfl) (hpl : (backTo pos (starEach es X.env)).any (·.1) = false := by rfl) :
    PE X (.Call (.Name x p) (e :: es) [] pos) (tCall sp dvs E t) := by
  intro pins s σ H Q I h
  refine wpAny_Call_Name_kw (ld_glob I hg hm ?_ hdb)
  refine PySem.W.callWith_K (h₀ := X.base) I.ok.mod.kin hk (thn (ha pos pins s σ H _ I h) fun us s1 ⟨vs, H1, I1, r, q⟩ => ⟨I1.kIn, ?_⟩) he hpl
  exact run_fn F hr hb hd hx I1 r q
end
section
variable {X : Cx} {CX : CXT} {k : Nat} {f C : Addr} {fd : FuncData} {ps ks : List Str} {sp : Sp} {E : XK} {x m : Str} {p pos apos kpos : Pos} {e o : Expr} {es : List Expr} {kws : List Keyword} {te ta : TE} {t tk : TA} {nm : Option Str}
variable {g : List Value → List Value → List Value} {gV : List V → List V → List V}
end
structure FnScope (N P : List Str) (sc : Scope) : Prop where
  kind : sc.kind = .function
  co : sc.isCoroutine = false
  gen : sc.isGenerator = false
  nd : N.Nodup
  pre : N.take P.length = P
  par : ∀ x ∈ P, sc.names.lookup x = some .local ∨ sc.names.lookup x = some .cell
  nofree : ∀ y ∈ sc.names, y.2 ≠ .free
theorem bindL_out {kindOf : Str → Option NameKind} {x : Str} : ∀ {binds : List (Str × Value)} {m : Str → Option Value}, (∀ v, (x, v) ∉ binds) → bindL kindOf binds m x = m x
  | [], _, _ => rfl
  | (n, v) :: r, m, h => by
    unfold bindL
    rw [bindL_out fun w hw => h w (List.mem_cons_of_mem _ hw)]
    split
    · have : x ≠ n := by rintro rfl; exact h v List.mem_cons_self
      simp [this]
    · rfl
theorem bindC_out {kindOf : Str → Option NameKind} {x : Str} : ∀ {binds : List (Str × Value)} {m : Str → Option Value}, (∀ v, (x, v) ∉ binds) → bindC kindOf binds m x = m x
  | [], _, _ => rfl
  | (n, v) :: r, m, h => by
    unfold bindC
    rw [bindC_out fun w hw => h w (List.mem_cons_of_mem _ hw)]
    split
    · rfl
    · have : x ≠ n := by rintro rfl; exact h v List.mem_cons_self
      simp [this]
theorem bindL_get {kindOf : Str → Option NameKind} {x : Str} {v : Value} : ∀ {P : List Str} {vs : List Value} {i : Nat} {m : Str → Option Value}, P.Nodup → P[i]? = some x → vs[i]? = some v → kindOf x = some .local →
    bindL kindOf (P.zip vs) m x = some v
  | [], _, _, _, _, h, _, _ => by simp at h
  | _ :: _, [], _, _, _, _, h, _ => by simp at h
  | p :: P, w :: vs, 0, m, nd, h1, h2, hk => by
    simp at h1 h2; subst h1; subst h2
    show bindL kindOf ((p, w) :: P.zip vs) m p = _
    unfold bindL
    rw [bindL_out fun v hv => (List.nodup_cons.mp nd).1 (List.of_mem_zip hv).1, if_pos hk]
    simp
  | p :: P, w :: vs, i + 1, m, nd, h1, h2, hk => by
    show bindL kindOf ((p, w) :: P.zip vs) m x = _
    unfold bindL
    exact bindL_get (i := i) (List.nodup_cons.mp nd).2 (by simpa using h1) (by simpa using h2) hk
theorem bindC_get {kindOf : Str → Option NameKind} {x : Str} {v : Value} : ∀ {P : List Str} {vs : List Value} {i : Nat} {m : Str → Option Value}, P.Nodup → P[i]? = some x → vs[i]? = some v → kindOf x ≠ some .local →
    bindC kindOf (P.zip vs) m x = some v
  | [], _, _, _, _, h, _, _ => by simp at h
  | _ :: _, [], _, _, _, _, h, _ => by simp at h
  | p :: P, w :: vs, 0, m, nd, h1, h2, hk => by
    simp at h1 h2; subst h1; subst h2
    show bindC kindOf ((p, w) :: P.zip vs) m p = _
    unfold bindC
    rw [bindC_out fun v hv => (List.nodup_cons.mp nd).1 (List.of_mem_zip hv).1, if_neg hk]
    simp
  | p :: P, w :: vs, i + 1, m, nd, h1, h2, hk => by
    show bindC kindOf ((p, w) :: P.zip vs) m x = _
    unfold bindC
    exact bindC_get (i := i) (List.nodup_cons.mp nd).2 (by simpa using h1) (by simpa using h2) hk
def start (N : List Str) (vs : List V) : St := vs.map some ++ List.replicate (N.length - vs.length) none
def cxOf (CX : CXT) (P : Program) (w : World) (K : PySem.W.Frag) (mg : Str → Option Value) (base : Heap) (N : List Str) (qual : Str) (scope : Scope) (f : Addr) (cd : Value) (A : Around) (outer : List Env) (s : Shared) (H : Hp) (E : XK) : Cx where
  prog := P
  w := w
  K := K
  mg := mg
  base := base
  A := A.deeper (envOfC qual scope s.heap.objs.size f cd)
  N := N
  s₀ := s
  H₀ := H
  env := envOfC qual scope s.heap.objs.size f cd
  outer := outer
  stack := envOfC qual scope s.heap.objs.size f cd :: outer
  ex := []
  calm := true
  fn := fun _ => true
  pn := []
  xe := fun e s' => wpAny (model P w) (A.deeper (envOfC qual scope s.heap.objs.size f cd)) (leaving (envOfC qual scope s.heap.objs.size f cd) e) (fun _ s'' => CX outer H s E e s'') (fun e' s'' => CX outer H s E e' s'') s'
theorem cell_has {sc : Scope} {n : Nat} {x : Str} (h : sc.names.lookup x = some .cell) : ∃ c, (cellsFrom n sc.names []).lookup x = some c := by
  have q := PySem.W.cellsFrom_some sc.names n [] (.inl h)
  exact Option.isSome_iff_exists.mp q
theorem inv_start {CX : CXT} {P : Program} {w : World} {K : PySem.W.Frag} {mg : Str → Option Value} {base : Heap} {N ps : List Str} {qual : Str} {scope : Scope} {f : Addr} {cd : Value} {A : Around} {outer : List Env} {s s1 : Shared} {H : Hp} {E : XK} {us : List Value} {vs : List V}
    (S : FnScope N ps scope) (hd : A.handled = none) (e0 : Env0 P w K mg base A outer s H) (hl : vs.length = ps.length) (r : Vals vs us)
    (x : InCallC s s.heap.objs.size (bindL (envOfC qual scope s.heap.objs.size f cd).kindOf (ps.zip us) fun _ => none) (cellsFrom (s.heap.objs.size + 1) scope.names []) (bindC (envOfC qual scope s.heap.objs.size f cd).kindOf (ps.zip us) fun _ => none) s1) :
    Inv (cxOf CX P w K mg base N qual scope f cd A outer s H E) [] (start N vs) H s1 := by
  have hpl : ps.length ≤ N.length := by have := congrArg List.length S.pre; rw [List.length_take] at this; omega
  obtain ⟨h1, tk, rfl, hk⟩ := x.done
  have noA : ∀ b : Addr, b ∉ (cxOf CX P w K mg base N qual scope f cd A outer s H E).ex := fun b z => absurd (show b ∈ ([] : List Addr) from z) (by simp)
  refine ⟨⟨e0.mod, S.kind, rfl, rfl, Nat.le_refl _, fun y z c h1 h2 => ?_, fun y hy => ?_, fun y c _ h => ?_, fun _ => hd, Around.frames_deeper e0.frames, .inr ⟨rfl, rfl⟩, fun b z => absurd z (noA b), e0.bs, e0.bsz, fun b _ _ => noA b, fun b z => absurd z (noA b), e0.funs, e0.frf⟩,
    rfl, e0.bare, Un.kept hk, ⟨_, x.toInCall.ns, fun i y v h1 h2 h3 => ?_⟩, fun y c h => ⟨_, x.cell y c h⟩, e0.hok.fresh (Nat.le_refl _), fun y c h => ?_, fun p hp => absurd (show p ∈ ([] : List (Addr × Obj)) from hp) (by simp), e0.hok.kept hk, ?_⟩
  · exact name_of_addr x.apart (PySem.mem_of_lookup h1) (PySem.mem_of_lookup h2)
  · have hy : scope.names.lookup y = some .cell ∨ scope.names.lookup y = some .free := hy
    rcases hy with hy | hy
    · exact cell_has hy
    · exact absurd rfl (S.nofree _ (PySem.mem_of_lookup hy))
  · exact Nat.le_of_lt (x.above y c (PySem.mem_of_lookup h))
  · have hi : i < vs.length := by
      unfold start at h2
      by_cases hi : i < vs.length
      · exact hi
      · rw [List.getElem?_append_right (by simpa using hi)] at h2
        rw [List.getElem?_replicate] at h2
        split at h2 <;> cases h2
    have ha : vs[i]? = some v := by
      unfold start at h2
      rw [List.getElem?_append_left (by simpa using hi), List.getElem?_map] at h2
      cases e : vs[i]? with
      | none => rw [e] at h2; cases h2
      | some a => rw [e] at h2; cases h2; rfl
    obtain ⟨u, hu, rv⟩ := r.get ha
    have hp : ps[i]? = some y := by
      rw [← S.pre, List.getElem?_take_of_lt (by omega)]; exact h1
    have ndP : ps.Nodup := by rw [← S.pre]; exact S.nd.sublist (List.take_sublist _ _)
    refine ⟨u, rv, ?_⟩
    rcases S.par y (List.mem_of_getElem? hp) with k | k
    · exact .inl ⟨k, bindL_get ndP hp hu k⟩
    · obtain ⟨c, e⟩ := cell_has (n := s.heap.objs.size + 1) k
      refine .inr ⟨.inl k, c, e, ?_⟩
      have q := x.cell y c e
      rw [bindC_get ndP hp hu (by show scope.names.lookup y ≠ _; rw [k]; decide)] at q
      exact q
  · exact e0.hok.fresh (Nat.le_of_lt (x.above y c (PySem.mem_of_lookup h)))
  · unfold start
    show _ = N.length
    rw [List.length_append, List.length_map, List.length_replicate]
    omega
theorem fn_of {CX : CXT} {P : Program} {w : World} {K : PySem.W.Frag} {mg : Str → Option Value} {base : Heap} {k : Nat} {f : Addr} {name qual : Str} {params : Arguments} {body : List Stmt} {scope : Scope} {dV kV doc pm cdv ct oc : Value} {an od : Option Addr}
    {osl : Array (Option Value)} {N ps : List Str} {sp : Sp} (lk : K.lookup f = some ⟨oc, od, .func (PySem.W.fnOf name qual params body scope dV kV doc pm an cdv ct), osl⟩) (hcd : PySem.W.codeIn K cdv qual = true) (S : FnScope N ps scope)
    (len : ∀ vs H Q E, sp vs H Q E → vs.length = ps.length)
    (hbody : ∀ (A : Around) (outer : List Env) (s : Shared) (H : Hp) (vs : List V) (Q : VK) (E : XK), Room k (A.deeper (envOfC qual scope s.heap.objs.size f cdv)) → sp vs H Q E →
      ∃ t, PSs (cxOf CX P w K mg base N qual scope f cdv A outer s H E) body t ∧ t { nx := fun _ H' => Q .non H', rt := Q } (start N vs) H) :
    FnOk P w K mg base CX (k + 1) f (PySem.W.fnOf name qual params body scope dV kV doc pm an cdv ct) ps sp := by
  refine ⟨len, fun A outer s H args us vs Q E hr e0 hb r hsp => ?_⟩
  have hl := len _ _ _ _ hsp
  have KX : K.In s.heap := e0.mod.kin.keeps fun b o e => (e0.bs b o e).1
  have lim : s.heap.NoLimit := e0.mod.nolimit.keeps fun b o e => (e0.bs b o e).1
  have hkind : ∀ y ∈ ps.zip us, scope.names.lookup y.1 = some .local ∨ (scope.names.lookup y.1 = some .cell ∧ ((cellsFrom (s.heap.objs.size + 1) scope.names []).lookup y.1).isSome = true) := fun ⟨n, v⟩ hy => by
    rcases S.par n (List.of_mem_zip hy).1 with q | q
    · exact .inl q
    · exact .inr ⟨q, PySem.W.cellsFrom_some _ _ _ (.inl q)⟩
  refine codeAny_call_function hr.depth (KX _ _ lk) rfl S.co S.gen rfl (PySem.W.codeRec_of KX hcd) (hb _ _ _ _ ?_)
  refine wpAny_newFunctionEnv_cells S.kind hkind fun env he s1 x => ?_
  subst he
  refine ⟨lim.keeps x.toInCall.keep, codeAny_func ?_⟩
  obtain ⟨t, ht, hq⟩ := hbody A outer s H vs Q E (hr.deeper _) hsp
  have I : Inv (cxOf CX P w K mg base N qual scope f cdv A outer s H E) [] (start N vs) H s1 := inv_start S hr.hd e0 hl r x
  refine wpAny_mono (ht [] s1 (start N vs) H _ I hq) (fun fl s' hs => ?_) fun e s' hs => hs
  have fin : ∀ {σ' : St} {H' : Hp} {v : V} {u : Value}, Inv (cxOf CX P w K mg base N qual scope f cdv A outer s H E) [] σ' H' s' → RelV v u → Q v H' → CE outer P w H s Q u s' :=
    fun {σ' H' v u} J rv q => ⟨v, H', J.os, J.bare, J.base, J.hok, rv, q⟩
  cases fl with
  | ret u =>
    obtain ⟨v, σ', H', J, rv, q⟩ := hs
    exact fin J rv q
  | next =>
    obtain ⟨σ', H', J, q⟩ := hs
    exact fin (v := V.non) (u := Value.none) J rfl q
  | brk =>
    obtain ⟨_, _, _, q⟩ := hs
    exact False.elim q
  | cont =>
    obtain ⟨_, _, _, q⟩ := hs
    exact False.elim q
end L2
namespace L2
open PySem PySem.Spec PyProof.Rows
section
variable {X : Cx} {x : Str} {p pos : Pos} {e : Expr} {es : List Expr} {t : TA} {id T : String} {r : List V → Hp → VK → Prop}
def tCB (r : List V → Hp → VK → Prop) (t : TA) : TE := fun σ H Q => t σ H fun vs H1 => r vs H1 Q
theorem pe_callB (hc : CallR X (.builtin id) r) (hg : Gl X x) (hm : X.mg x = none) (hv : bootBuiltins x = some (.builtin id)) (ha : PA X (e :: es) t) (hn : x ≠ "__name__" := by decide) (hdb : (x == ("__debug__" : Str)) = false := by decide)
    (he : starEach (e :: es) X.env = (false, eval e X.env) :: starEach es X.env := by rfl) (hpl : (backTo pos (starEach es X.env)).any (·.1) = false := by rfl) : PE X (.Call (.Name x p) (e :: es) [] pos) (tCB r t) := by
  intro pins s σ H Q I h
  refine wpAny_Call_Name_kw (ld_blt I hg hm hv ?_ hn hdb)
  exact PyProof.Rows.callWith_builtin1 (thn (ha pos pins s σ H _ I h) fun us s1 ⟨vs, H1, I1, r1, q1⟩ => hc pins s1 σ H1 vs us Q I1 r1 q1) he hpl
theorem pe_callTy (hc : CallR X (.type T) r) (hg : Gl X x) (hm : X.mg x = none) (hv : bootBuiltins x = some (.type T)) (ha : PA X (e :: es) t) (hn : x ≠ "__name__" := by decide) (hdb : (x == ("__debug__" : Str)) = false := by decide)
    (he : starEach (e :: es) X.env = (false, eval e X.env) :: starEach es X.env := by rfl) (hpl : (backTo pos (starEach es X.env)).any (·.1) = false := by rfl) : PE X (.Call (.Name x p) (e :: es) [] pos) (tCB r t) := by
  intro pins s σ H Q I h
  refine wpAny_Call_Name_kw (ld_blt I hg hm hv ?_ hn hdb)
  exact PyProof.Rows.callWith_type1 (thn (ha pos pins s σ H _ I h) fun us s1 ⟨vs, H1, I1, r1, q1⟩ => hc pins s1 σ H1 vs us Q I1 r1 q1) he hpl
end
end L2
namespace HT
open PySem PyProof.Rows
section
open PySem.SeqAt
open PySem.AutoSeq1 (wpAny_loadPart')
open PySem.MeetsSeq PySem.MeetsSeq2 PySem.MeetsSeq3
end
section
variable {prog : Program} {w : World} {A : Around} {E : Value → Shared → Prop} {s : Shared}
def sIx (n d : Nat) : Option Int → Nat
  | none => d
  | some v => if v < 0 then (v + (n : Int)).toNat else min v.toNat n
end
end HT
namespace L2
open PySem PySem.Spec PyProof.Rows
abbrev TO := St → Hp → (Option Int → Hp → Prop) → Prop
def PO (X : Cx) (e : Option Expr) (t : TO) : Prop :=
  ∀ (pins : List (Addr × Obj)) (s : Shared) (σ : St) (H : Hp) (Q : Option Int → Hp → Prop), Inv X pins σ H s → t σ H Q →
    wpAny (model X.prog X.w) X.A (evalPart e X.env) (fun u s' => ∃ o H', Inv X pins σ H' s' ∧ IsPart u o ∧ Q o H') X.xe s
def tNoPart : TO := fun _ H Q => Q none H
def tPart (t : TE) : TO := fun σ H Q => t σ H fun x H1 => ∃ i, x = .int i ∧ Q (some i) H1
theorem intsAre_of {ns : List Int} : ∀ {us : List Value}, Vals (ns.map V.int) us → IntsAre us ns := by
  induction ns with
  | nil => intro us r; rw [List.map_nil] at r; cases r; exact .nil
  | cons n ns ih =>
    intro us r
    rw [List.map_cons] at r
    cases r with
    | cons r1 r2 =>
      obtain ⟨t, e⟩ := r1
      subst e
      exact .cons n t (ih r2)
section
variable {X : Cx} {e : Expr} {te : TE} {lo hi : Option Expr} {tl th : TO} {pos p2 : Pos}
theorem po_none : PO X none tNoPart := by
  intro pins s σ H Q I h
  rw [evalPart_none]
  exact wpAny_pure ⟨none, H, I, .none, h⟩
theorem po_some (h : PE X e te) : PO X (some e) (tPart te) := by
  intro pins s σ H Q I hw
  rw [evalPart_some]
  refine thn (h pins s σ H _ I hw) fun u s1 ⟨x, H1, I1, r1, q1⟩ => ?_
  obtain ⟨i, rfl, q⟩ := q1
  obtain ⟨t, rfl⟩ := r1
  exact ⟨some i, H1, I1, .int i t, q⟩
def SlR (X : Cx) (r : V → Option Int → Option Int → Hp → VK → Prop) : Prop :=
  ∀ (pins : List (Addr × Obj)) (s : Shared) (σ : St) (H : Hp) (x : V) (v vl vu : Value) (lo hi : Option Int) (sl : Addr) (Q : VK), Inv X pins σ H s → RelV x v → s.heap.IsSliceOf sl vl vu .none → IsPart vl lo → IsPart vu hi → r x lo hi H Q →
    ∃ T id, typeLookup (.type T) "__getitem__" = pure (some (.builtin id)) ∧ s.TypeIs v T ∧ wpAny (model X.prog X.w) X.A (getItem v (.ref sl)) (EP X pins σ Q) X.xe s
def tSl (r : V → Option Int → Option Int → Hp → VK → Prop) (te : TE) (tl th : TO) : TE := fun σ H Q => te σ H fun x H1 => tl σ H1 fun l H2 => th σ H2 fun u H3 => r x l u H3 Q
theorem pe_slice {r : V → Option Int → Option Int → Hp → VK → Prop} (hr : SlR X r) (he : PE X e te) (hl : PO X lo tl) (hu : PO X hi th) : PE X (.Subscript e (.Slice lo hi none p2) pos) (tSl r te tl th) := by
  intro pins s σ H Q I h
  refine Subscript_ (thn (he pins s σ H _ I h) fun v s1 ⟨x, H1, I1, r1, q1⟩ => ?_)
  refine wpAny_Slice (thn (hl pins s1 σ H1 _ I1 q1) fun vl s2 ⟨l, H2, I2, pl, q2⟩ => thn (hu pins s2 σ H2 _ I2 q2) fun vu s3 ⟨u, H3, I3, pu, q3⟩ => ?_)
  rw [evalPart_none]
  refine wpAny_pure ?_
  have I4 : Inv X pins σ H3 { s3 with heap := s3.heap.push { cls := .type "slice", data := .fields #[vl, vu, .none] } } := I3.kept (t' := s3.toks) fun b ob q => Heap.get?_push_of_some _ q
  obtain ⟨T, id, hT, ht, hg⟩ := hr pins { s3 with heap := s3.heap.push { cls := .type "slice", data := .fields #[vl, vu, .none] } } σ H3 x v vl vu l u s3.heap.objs.size Q I4 r1 (Heap.IsSliceOf.new ..) pl pu q3
  show wpAny (model X.prog X.w) X.A (subscriptTail e (.Slice lo hi none p2) v (.ref s3.heap.objs.size)) (EP X pins σ Q) X.xe { s3 with heap := s3.heap.push { cls := .type "slice", data := .fields #[vl, vu, .none] } }
  exact tail_any (ops := [.ref s3.heap.objs.size, v]) ht hT hg (by with_unfolding_all rfl)
def cutV (xs : List V) (lo hi : Option Int) : List V := (xs.drop (HT.sIx xs.length 0 lo)).take (HT.sIx xs.length xs.length hi - HT.sIx xs.length 0 lo)
theorem cutV_length (xs : List V) (lo hi : Option Int) : (cutV xs lo hi).length ≤ xs.length := by
  unfold cutV
  rw [List.length_take, List.length_drop]
  omega
end
end L2
namespace L2
open PySem PySem.Spec PyProof.Rows
def ixN (n : Nat) (i : Int) : Option Nat := if 0 ≤ i then (if i < n then some i.toNat else none) else if -(n : Int) ≤ i then some (i + n).toNat else none
def atI {α : Type} (xs : List α) (i : Int) : Option α := (ixN xs.length i).bind fun j => xs[j]?
theorem ixN_seq {n : Nat} {i : Int} {j : Nat} (h : ixN n i = some j) : seqIndex? i n = some j ∧ j < n ∧ -(n : Int) ≤ i ∧ i < n := by
  unfold ixN at h
  by_cases h0 : 0 ≤ i
  · rw [if_pos h0] at h
    by_cases h1 : i < n
    · rw [if_pos h1] at h
      have e : i.toNat = j := Option.some.inj h
      exact ⟨by rw [seqIndex_of h0 h1, e], by omega, by omega, h1⟩
    · rw [if_neg h1] at h; cases h
  · rw [if_neg h0] at h
    by_cases h1 : -(n : Int) ≤ i
    · rw [if_pos h1] at h
      have e : (i + n).toNat = j := Option.some.inj h
      exact ⟨by rw [seqIndex_neg (by omega) h1, e], by omega, h1, by omega⟩
    · rw [if_neg h1] at h; cases h
theorem atI_get {α : Type} {xs : List α} {i : Int} {v : α} (h : atI xs i = some v) : ∃ j, seqIndex? i xs.length = some j ∧ xs[j]? = some v ∧ j < xs.length ∧ -(xs.length : Int) ≤ i ∧ i < xs.length := by
  unfold atI at h
  cases e : ixN xs.length i with
  | none => rw [e] at h; cases h
  | some j =>
    rw [e] at h
    obtain ⟨h1, h2, h3, h4⟩ := ixN_seq e
    exact ⟨j, h1, h, h2, h3, h4⟩
theorem atI_nat {α : Type} {xs : List α} {j : Nat} {v : α} (h : xs[j]? = some v) : atI xs (j : Int) = some v := by
  have hj : j < xs.length := (List.getElem?_eq_some_iff.mp h).1
  have e : ixN xs.length (j : Int) = some j := by
    unfold ixN
    rw [if_pos (by omega), if_pos (by omega)]; simp
  unfold atI; rw [e]; exact h
def PlainIx (b : Expr) : Prop := ∀ o i, subscripted b false o i = operate [o, i] (getItem o i)
def IxR (X : Cx) (r : R2) : Prop :=
  ∀ (value slice : Expr) (pins : List (Addr × Obj)) (s : Shared) (σ : St) (H : Hp) (x y : V) (v u : Value) (Q : VK), Inv X pins σ H s → RelV x v → RelV y u → r x y H Q →
    subscripted slice false v u = operate [v, u] (getItem v u) → wpAny (model X.prog X.w) X.A (subscriptTail value slice v u) (EP X pins σ Q) X.xe s
def MtR (X : Cx) (id : String) (r : V → List V → Hp → VK → Prop) : Prop :=
  ∀ (pins : List (Addr × Obj)) (s : Shared) (σ : St) (H : Hp) (x : V) (xs : List V) (v : Value) (us : List Value) (Q : VK), Inv X pins σ H s → RelV x v → Vals xs us → r x xs H Q →
    wpAny (model X.prog X.w) X.A (call (.builtin id) (v :: us)) (EP X pins σ Q) X.xe s
section
variable {X : Cx} {a b : Expr} {ta tb : TE} {pos : Pos}
theorem pe_ix {r : R2} (hr : IxR X r) (ha : PE X a ta) (hb : PE X b tb) (hs : PlainIx b) : PE X (.Subscript a b pos) (tOp r ta tb) := by
  intro pins s σ H Q I h
  exact Subscript_ (binT ha hb I h fun v u s2 x y H2 I2 rx ry q => hr a b pins s2 σ H2 x y v u Q I2 rx ry q (hs _ _))
def rIxL (K : PySem.W.Frag) : R2 := fun x y H Q => ∃ p xs i v, x = .ref p ∧ y = .int i ∧ SqL K H p xs ∧ atI xs i = some v ∧ Q v H
def rIxT (K : PySem.W.Frag) : R2 := fun x y H Q => ∃ p xs i v, x = .ref p ∧ y = .int i ∧ SqT K H p xs ∧ atI xs i = some v ∧ Q v H
theorem ix_list : IxR X (rIxL X.K) := by
  intro value slice pins s σ H x y v u Q I rx ry h hs
  obtain ⟨p, xs, i, z, rfl, rfl, hq, he, q⟩ := h
  cases rx
  obtain ⟨t, rfl⟩ := ry
  obtain ⟨its, r, pl, hz⟩ := I.list hq
  obtain ⟨j, h1, h2, h3, h4, h5⟩ := atI_get he
  obtain ⟨w, ew, rw'⟩ := r.get h2
  have hl := r.length
  have hn := line63
  have fin : EP X pins σ Q w s := ⟨z, H, I, rw', q⟩
  by_cases h0 : 0 ≤ i
  · have hj : i.toNat = j := by
      rw [seqIndex_of h0 h5] at h1
      exact Option.some.inj h1
    exact item_listR pl.isList h0 (by omega) (by rw [hj]; simpa using ew) fin hs
  · have hj : (i + (its.toArray.size : Int)).toNat = j := by
      rw [seqIndex_neg (by omega) h4] at h1
      rw [List.size_toArray, ← hl]
      exact Option.some.inj h1
    exact subscriptTail_builtinR (x := w) pl.isList.typeIs slot_list_getitem.lookup
      (wpAny_getItem_list_neg (Q := fun r s' => r = w ∧ EP X pins σ Q r s') pl.isList (by omega) (by rw [List.size_toArray] <;> omega) (by omega) (by rw [hj]; simpa using ew) ⟨rfl, fin⟩) hs
theorem ix_tup : IxR X (rIxT X.K) := by
  intro value slice pins s σ H x y v u Q I rx ry h hs
  obtain ⟨p, xs, i, z, rfl, rfl, hq, he, q⟩ := h
  cases rx
  obtain ⟨t, rfl⟩ := ry
  obtain ⟨its, r, pl, hz⟩ := I.tuple hq
  obtain ⟨j, h1, h2, h3, h4, h5⟩ := atI_get he
  obtain ⟨w, ew, rw'⟩ := r.get h2
  have hl := r.length
  have hn := line63
  have fin : EP X pins σ Q w s := ⟨z, H, I, rw', q⟩
  exact subscriptTail_builtinR (x := w) pl.typeIs slot_tuple_getitem.lookup
    (getItem_tuple (j := j) (Q := fun r s' => r = w ∧ EP X pins σ Q r s') pl (by omega) (by omega) (by rw [List.size_toArray, ← hl]; exact h1) (by simpa using ew) ⟨rfl, fin⟩) hs
theorem mapSeq_set (its : List Value) (n j : Nat) (u : Value) : Obj.mapSeq (·.setIfInBounds j u) { cls := .type "list", data := .seq its.toArray n } = { cls := .type "list", data := .seq (its.set j u).toArray n } := by
  simp [Obj.mapSeq]
theorem Inv.lst {pins : List (Addr × Obj)} {σ : St} {H : Hp} {s : Shared} {p : Addr} {xs : List V} (I : Inv X pins σ H s) (h : H p = some (.lst xs)) :
    ∃ (its : List Value) (n : Nat), Vals xs its ∧ s.heap.get? p = some { cls := .type "list", data := .seq its.toArray n } ∧ xs.length ≤ sizeLine := by
  obtain ⟨z, its, n, r, e⟩ := I.hok p _ h
  exact ⟨its, n, r, e, z⟩
theorem Inv.lstUpd {pins : List (Addr × Obj)} {σ : St} {H : Hp} {s : Shared} {p : Addr} {xs ys : List V} {its its' : List Value} {n n' : Nat} {f : Obj → Obj} (I : Inv X pins σ H s) (h : H p = some (.lst xs))
    (ho : s.heap.get? p = some { cls := .type "list", data := .seq its.toArray n }) (hf : f { cls := .type "list", data := .seq its.toArray n } = { cls := .type "list", data := .seq its'.toArray n' }) (r : Vals ys its') (hz : ys.length ≤ sizeLine) (t : Nat) :
    Inv X pins σ (upd H p (.lst ys)) { s with heap := s.heap.update p f, toks := t } := by
  have e : (s.heap.update p f).get? p = some { cls := .type "list", data := .seq its'.toArray n' } := by
    rw [Heap.get?_update_self f ho (by rw [hf] <;> rfl), hf]
  refine I.write (x := p) (e := p) (by rw [h]; trivial) (.inl rfl) (fun b u hb q => (Heap.get?_update_other _ _ (Ne.symm hb)).trans q) ⟨_, e⟩ ?_
  exact ⟨hz, its', n', r, e⟩
def rSetL : V → V → V → Hp → (Hp → Prop) → Prop := fun o i v H Q => ∃ p xs k j, o = .ref p ∧ i = .int k ∧ H p = some (.lst xs) ∧ ixN xs.length k = some j ∧ Q (upd H p (.lst (xs.set j v)))
theorem set_list : PSet X rSetL := by
  intro pins s σ H o i v ov iv u Q I ro ri rv h
  obtain ⟨p, xs, k, j, rfl, rfl, hp, hj, q⟩ := h
  cases ro
  obtain ⟨t, rfl⟩ := ri
  obtain ⟨its, n, r, ho, hz⟩ := I.lst hp
  obtain ⟨h1, h2, h3, h4⟩ := ixN_seq hj
  have hl := r.length
  have hn := line63
  have I' : Inv X pins σ (upd H p (.lst (xs.set j v))) { s with heap := s.heap.update p (Obj.mapSeq (·.setIfInBounds j u)) } :=
    I.lstUpd hp ho (mapSeq_set its n j u) (r.set rv j) (by rw [List.length_set]; exact hz) s.toks
  by_cases h0 : 0 ≤ k
  · have hk : k.toNat = j := by
      rw [seqIndex_of h0 h4] at h1
      exact Option.some.inj h1
    exact PySem.W.ki_setAt ho h0 (by omega) (by rw [List.size_toArray, ← hl]; exact h4) (by rw [hk]; exact ⟨_, I', q⟩)
  · have hk : (k + (its.toArray.size : Int)).toNat = j := by
      rw [seqIndex_neg (by omega) h3] at h1
      rw [List.size_toArray, ← hl]
      exact Option.some.inj h1
    exact PySem.W.ki_setBack ho (by omega) (by rw [List.size_toArray, ← hl]; exact h3) (by omega) (by rw [hk]; exact ⟨_, I', q⟩)
theorem slice_bounds (lo hi : Option Int) (n : Nat) : (sliceBounds lo hi none n).1 = ((HT.sIx n 0 lo : Nat) : Int) ∧ (sliceBounds lo hi none n).2.1 = ((HT.sIx n n hi : Nat) : Int) ∧ (sliceBounds lo hi none n).2.2 = 1 := by
  refine ⟨?_, ?_, rfl⟩
  · cases lo with
    | none => simp [sliceBounds, HT.sIx]
    | some i =>
      simp only [sliceBounds, HT.sIx, Option.getD_none, show (1 : Int) > 0 by decide, if_true]
      by_cases h : i < 0
      · simp only [h, if_true] <;> omega
      · simp only [h, if_false] <;> omega
  · cases hi with
    | none => simp [sliceBounds, HT.sIx]
    | some i =>
      simp only [sliceBounds, HT.sIx, Option.getD_none, show (1 : Int) > 0 by decide, if_true]
      by_cases h : i < 0
      · simp only [h, if_true] <;> omega
      · simp only [h, if_false] <;> omega
theorem slicePick_cut (its : List Value) (lo hi : Option Int) : slicePick its.toArray lo hi none = ((its.drop (HT.sIx its.length 0 lo)).take (HT.sIx its.length its.length hi - HT.sIx its.length 0 lo)).toArray := by
  obtain ⟨h1, h2, h3⟩ := slice_bounds lo hi its.toArray.size
  unfold slicePick
  rw [h1, h2, h3]
  simp only [sliceRange_one, pick_run, List.size_toArray] <;> rfl
def rSlL (K : PySem.W.Frag) : V → Option Int → Option Int → Hp → VK → Prop := fun x lo hi H Q => ∃ a xs, x = .ref a ∧ SqL K H a xs ∧ ∀ p, H p = none → Q (.ref p) (upd H p (.lst (cutV xs lo hi)))
theorem sl_list : SlR X (rSlL X.K) := by
  intro pins s σ H x v vl vu lo hi sl Q I rx hs pl pu h
  obtain ⟨a, xs, rfl, hx, q⟩ := h
  cases rx
  obtain ⟨its, r, ht, hz⟩ := I.list hx
  have hlen := r.length
  refine ⟨"list", _, slot_list_getitem.lookup, ht.isList.typeIs, ?_⟩
  refine wpAny_getItem_list_slice ht.isList hs pl pu .none (by simp) ?_ (by rw [List.size_toArray] <;> omega)
  rw [slicePick_cut, ← hlen]
  refine ⟨.ref s.heap.objs.size, _, I.laid (t' := s.toks) (o := .lst (cutV xs lo hi)) (fun b ob q => Heap.get?_push_of_some _ q) (Nat.le_refl _) ?_, rfl, q _ (I.hok.fresh (Nat.le_refl _))⟩
  exact ⟨Nat.le_trans (cutV_length xs lo hi) hz, _, 0, (r.drop (HT.sIx xs.length 0 lo)).take (HT.sIx xs.length xs.length hi - HT.sIx xs.length 0 lo), Heap.get?_push_size _ rfl⟩
theorem call_len_seq : CallR X (.builtin "len") (fun xs H Q => ∃ p ys, xs = [.ref p] ∧ (SqL X.K H p ys ∨ SqT X.K H p ys) ∧ Q (.int ys.length) H) := by
  intro pins s σ H xs us Q I r h
  obtain ⟨p, ys, rfl, hq, q⟩ := h
  obtain ⟨u, rfl, rx⟩ := vals1 r
  cases rx
  have hn := line63
  rcases hq with hq | hq
  · obtain ⟨its, r', pl, hz⟩ := I.list hq
    have hlen := r'.length
    exact Calls.call_len_list pl.isList (by simp only [List.size_toArray] <;> omega) ⟨.int ys.length, H, I.tok _, ⟨s.toks + 1, by rw [List.size_toArray, hlen]⟩, q⟩
  · obtain ⟨its, r', pl, hz⟩ := I.tuple hq
    have hlen := r'.length
    exact len_tuple pl (by simp only [List.size_toArray] <;> omega) ⟨.int ys.length, H, I.tok _, ⟨s.toks + 1, by rw [List.size_toArray, hlen]⟩, q⟩
theorem call_list_of : CallR X (.type "list") (fun xs H Q => ∃ p ys, xs = [.ref p] ∧ (SqL X.K H p ys ∨ SqT X.K H p ys) ∧ ∀ l, H l = none → Q (.ref l) (upd H l (.lst ys))) := by
  intro pins s σ H xs us Q I r h
  obtain ⟨p, ys, rfl, hq, q⟩ := h
  obtain ⟨u, rfl, rx⟩ := vals1 r
  cases rx
  have fin : ∀ (its : List Value), Vals ys its → ys.length ≤ sizeLine → ∀ (h' : Heap) (c' : Nat), (∀ b o', s.heap.get? b = some o' → h'.get? b = some o') →
      h'.get? s.heap.objs.size = some { cls := .type "list", dict := none, data := .seq its.toArray c', slots := #[] } → EP X pins σ Q (.ref s.heap.objs.size) { s with heap := h' } := fun its r' hz h' c' kp e =>
    ⟨.ref s.heap.objs.size, _, I.laid (t' := s.toks) kp (Nat.le_refl _) (show ObjOk X.prog X.w _ h' _ (.lst ys) from ⟨hz, its, c', r', e⟩), rfl, q _ (I.hok.fresh (Nat.le_refl _))⟩
  rcases hq with hq | hq
  · obtain ⟨its, r', pl, hz⟩ := I.list hq
    have hlen := r'.length
    obtain ⟨o, ho, hc, n, hd⟩ := pl.isList
    exact call_list_seq p (.inl rfl) ho hc hd (fun h' c' kp e => fin its r' hz h' c' kp e) (by simp only [List.size_toArray] <;> omega)
  · obtain ⟨its, r', pl, hz⟩ := I.tuple hq
    have hlen := r'.length
    obtain ⟨o, ho, hc, n, hd⟩ := pl
    exact call_list_seq p (.inr rfl) ho hc hd (fun h' c' kp e => fin its r' hz h' c' kp e) (by simp only [List.size_toArray] <;> omega)
def tyV (K : PySem.W.Frag) (T : String) (x : V) (H : Hp) : Prop := match x with
  | .str _ => T = "str"
  | .int _ => T = "int"
  | .ref p => (T = "list" ∧ ∃ xs, SqL K H p xs) ∨ (T = "tuple" ∧ ∃ o, K.lookup p = some o ∧ o.cls = .type "tuple" ∧ o.dict = none) ∨
      (T = "dict" ∧ ((∃ kvs, H p = some (.dK kvs)) ∨ ∃ kvs, H p = some (.dT kvs))) ∨ (T = "set" ∧ ∃ S n, H p = some (.set S n))
  | _ => False
theorem tyV_is {pins : List (Addr × Obj)} {σ : St} {H : Hp} {s : Shared} {T : String} {x : V} {v : Value} (I : Inv X pins σ H s) (r : RelV x v) (ty : tyV X.K T x H) :
    s.TypeIs v T ∧ ∀ a, v = .ref a → ∃ ob, s.heap.get? a = some ob ∧ ob.dict = none := by
  cases x with
  | str z =>
    obtain ⟨t, rfl⟩ := r
    cases (show T = "str" from ty)
    exact ⟨typeIs_str s z t, fun _ e => nomatch e⟩
  | int i =>
    obtain ⟨t, rfl⟩ := r
    cases (show T = "int" from ty)
    exact ⟨typeIs_int s i t, fun _ e => nomatch e⟩
  | ref p =>
    cases r
    rcases ty with ⟨rfl, xs, hq⟩ | ⟨rfl, o, hk, hc, hd⟩ | ⟨rfl, hk⟩ | ⟨rfl, S, n, hk⟩
    · obtain ⟨its, _, pl, _⟩ := I.list hq
      refine ⟨pl.isList.typeIs, fun a e => ?_⟩
      cases e
      obtain ⟨o, n, e, c, hd, _⟩ := pl
      exact ⟨o, e, hd⟩
    · refine ⟨⟨o, I.kIn p o hk, hc⟩, fun a e => ?_⟩
      cases e
      exact ⟨o, I.kIn _ o hk, hd⟩
    · have z : ∃ o, s.heap.get? p = some o ∧ o.ExactDict := by
        rcases hk with ⟨kvs, hk⟩ | ⟨kvs, hk⟩
        · obtain ⟨_, _, _, _, o, _, _, e, ex, _⟩ := I.hok p _ hk
          exact ⟨o, e, ex⟩
        · obtain ⟨_, _, _, _, o, _, _, e, ex, _⟩ := I.hok p _ hk
          exact ⟨o, e, ex⟩
      obtain ⟨o, e, ex⟩ := z
      refine ⟨⟨o, e, ex.1⟩, fun a e2 => ?_⟩
      cases e2
      exact ⟨o, e, ex.2.1⟩
    · obtain ⟨o, _, _, _, e, ex, _⟩ := I.hok p _ hk
      refine ⟨⟨o, e, ex.1⟩, fun a e2 => ?_⟩
      cases e2
      exact ⟨o, e, ex.2.1⟩
  | _ => exact False.elim ty
def tBM0 (K : PySem.W.Frag) (T : String) (r : V → List V → Hp → VK → Prop) (to : TE) : TE := fun σ H Q => to σ H fun x H1 => tyV K T x H1 ∧ r x [] H1 Q
def tBM (K : PySem.W.Frag) (T : String) (r : V → List V → Hp → VK → Prop) (to : TE) (t : TA) : TE := fun σ H Q => to σ H fun x H1 => tyV K T x H1 ∧ t σ H1 fun xs H2 => r x xs H2 Q
variable {o e : Expr} {es : List Expr} {to : TE} {t : TA} {name : Str} {apos cpos : Pos} {T id : String} {r : V → List V → Hp → VK → Prop}
theorem pe_bm0 (pa : PlainAttrs T) (slot : Slot T name id) (hty : typeOf (.builtin id) = pure (.type "method_descriptor")) (hm : MtR X id r) (ho : PE X o to)
    (hbase : attributeBase o name X.env (eval o X.env) = eval o X.env := by rfl) (hline : (apos.endLine == cpos.line) = true := by rfl) : PE X (.Call (.Attribute o name apos) [] [] cpos) (tBM0 X.K T r to) := by
  intro pins s σ H Q I h
  refine wpAny_Call_method0_late hbase hline (thn (ho pins s σ H _ I h) fun v s1 ⟨x, H1, I1, r1, ty, q1⟩ => ?_)
  obtain ⟨h1, h2⟩ := tyV_is I1 r1 ty
  exact ⟨T, id, pa, slot, hty, h1, h2, Calls.callWith_builtin rfl (PySem.evalArgs_none (hm pins s1 σ H1 x [] v [] Q I1 r1 .nil q1))⟩
theorem pe_bm (pa : PlainAttrs T) (slot : Slot T name id) (hty : typeOf (.builtin id) = pure (.type "method_descriptor")) (hm : MtR X id r) (ho : PE X o to) (ha : PA X (e :: es) t)
    (hbase : attributeBase o name X.env (eval o X.env) = eval o X.env := by rfl)
    (hfew : ((backTo cpos (starEach (e :: es) X.env)).all (fun x => !x.1) && (backToKw cpos (keywordEach [] X.env)).all (fun x => x.1.isSome)
      && decide ((e :: es).length + ([] : List Keyword).length + (if ([] : List Keyword).isEmpty then 0 else 1) < 30)) = true := by rfl)
    (hline : (apos.endLine == cpos.line) = true := by rfl) (hs : starEach (e :: es) X.env = (false, eval e X.env) :: starEach es X.env := by rfl) (hplain : (backTo cpos (starEach es X.env)).any (·.1) = false := by rfl) :
    PE X (.Call (.Attribute o name apos) (e :: es) [] cpos) (tBM X.K T r to t) := by
  intro pins s σ H Q I h
  refine wpAny_Call_method_late hbase hfew hline rfl (thn (ho pins s σ H _ I h) fun v s1 ⟨x, H1, I1, r1, ty, q1⟩ => ?_)
  obtain ⟨h1, h2⟩ := tyV_is I1 r1 ty
  refine ⟨T, id, pa, slot, hty, h1, h2, ?_⟩
  have hA := ha cpos pins s1 σ H1 _ I1 q1
  rw [hs] at hA ⊢
  refine Calls.callWith_builtin (by show (false || (backTo cpos (starEach es X.env)).any (·.1)) = false; rw [hplain] <;> rfl) (Calls.evalArgs_plain ?_)
  exact thn hA fun us s2 ⟨vs, H2, I2, r2, q2⟩ => hm pins s2 σ H2 x vs v us Q I2 r1 r2 q2
end
end L2
namespace L2
open PySem PySem.Spec PyProof.Rows
def MtM (X : Cx) (id : String) (r : V → List V → Hp → VK → Prop) : Prop :=
  ∀ (pins : List (Addr × Obj)) (s : Shared) (σ : St) (H : Hp) (x : V) (xs : List V) (v : Value) (us : List Value) (Q : VK), Inv X pins σ H s → RelV x v → Vals xs us → r x xs H Q →
    wpAny (model X.prog X.w) X.A (call (.builtin id) (v :: us)) (EP X pins σ Q) X.xe s
theorem Vals.one : ∀ {x : V} {us : List Value}, Vals [x] us → ∃ u, us = [u] ∧ RelV x u
  | _, _, .cons r .nil => ⟨_, rfl, r⟩
theorem Vals.two : ∀ {x y : V} {us : List Value}, Vals [x, y] us → ∃ u v, us = [u, v] ∧ RelV x u ∧ RelV y v
  | _, _, _, .cons r (.cons q .nil) => ⟨_, _, rfl, r, q⟩
theorem Vals.zero : ∀ {us : List Value}, Vals [] us → us = []
  | _, .nil => rfl
theorem Vals.dropLast {xs : List V} {us : List Value} (h : Vals xs us) : Vals xs.dropLast us.dropLast := by
  induction h with
  | nil => exact .nil
  | cons r t ih =>
    cases t with
    | nil => exact .nil
    | cons q t' => exact .cons r ih
theorem Vals.rep {xs : List V} {us : List Value} (h : Vals xs us) : ∀ k : Nat, Vals (List.replicate k xs).flatten (List.replicate k us).flatten
  | 0 => .nil
  | k + 1 => by
    rw [List.replicate_succ, List.replicate_succ, List.flatten_cons, List.flatten_cons]
    exact Vals.append h (Vals.rep h k)
theorem erase_last {α : Type} (l : List α) : l.eraseIdx (l.length - 1) = l.dropLast := by
  induction l with
  | nil => rfl
  | cons a r ih =>
    cases r with
    | nil => rfl
    | cons b r =>
      have e : (a :: b :: r).length - 1 = ((b :: r).length - 1) + 1 := by
        have h1 : (a :: b :: r).length = r.length + 2 := rfl
        have h2 : (b :: r).length = r.length + 1 := rfl
        omega
      rw [e, List.eraseIdx_cons_succ, ih]
      all_goals rfl
theorem foldl_rep (its : List Value) : ∀ (k : Nat) (acc : List Value),
    List.foldl (fun x1 x2 => x1 ++ x2) acc.toArray (List.replicate k its.toArray) = (acc ++ (List.replicate k its).flatten).toArray
  | 0, acc => by simp
  | k + 1, acc => by
    have e : acc.toArray ++ its.toArray = (acc ++ its).toArray := by simp
    have e2 : (acc ++ its) ++ (List.replicate k its).flatten = acc ++ (List.replicate (k + 1) its).flatten := by
      rw [List.replicate_succ, List.flatten_cons, List.append_assoc]
    rw [← e2, ← foldl_rep its k (acc ++ its), ← e, List.replicate_succ, List.foldl_cons]
section
variable {X : Cx} {pins : List (Addr × Obj)} {σ : St} {H : Hp} {s : Shared} {l b : Addr} {xs ys zs : List V}
theorem Inv.lset {its its' : List Value} {n : Nat} {f : Array Value → Array Value} {t' : Nat} (I : Inv X pins σ H s) (hH : H l = some (.lst xs))
    (e : s.heap.get? l = some { cls := .type "list", data := .seq its.toArray n }) (hf : f its.toArray = its'.toArray) (hv : Vals ys its') (hz : ys.length ≤ sizeLine) :
    Inv X pins σ (upd H l (.lst ys)) { s with heap := s.heap.update l (Obj.mapSeq f), toks := t' } := by
  have q := PySem.IsL.update e f
  rw [hf] at q
  refine I.write (x := l) (e := l) (by rw [hH]; exact trivial) (.inl rfl) (fun b' u hb hu => (Heap.get?_update_other s.heap (Obj.mapSeq f) (Ne.symm hb)).trans hu) ⟨_, q⟩ ?_
  exact ⟨hz, its', _, hv, q⟩
theorem Inv.lnew {its : List Value} {t' : Nat} (I : Inv X pins σ H s) (hv : Vals ys its) (hz : ys.length ≤ sizeLine) :
    Inv X pins σ (upd H s.heap.objs.size (.lst ys)) { s with heap := s.heap.push { cls := .type "list", data := .seq its.toArray }, toks := t' } :=
  I.laid (fun _ _ q => Heap.get?_push_of_some _ q) (Nat.le_refl _) ⟨hz, its, 0, hv, Heap.get?_push_size _ rfl⟩
theorem Inv.fresh (I : Inv X pins σ H s) : H s.heap.objs.size = none := I.hok.fresh (Nat.le_refl _)
theorem Inv.lstM (I : Inv X pins σ H s) (hH : H l = some (.lst xs)) : xs.length ≤ sizeLine ∧ ∃ (its : List Value) (n : Nat), Vals xs its ∧ xs.length = its.length ∧ s.heap.get? l = some { cls := .type "list", data := .seq its.toArray n } := by
  obtain ⟨z, its, n, r, e⟩ := I.hok l _ hH
  exact ⟨z, its, n, r, r.length, e⟩
theorem notLongL {n : Nat} (h : n ≤ sizeLine) : Builtin.List.listTooLong n = false := by
  unfold Builtin.List.listTooLong
  exact decide_eq_false (by omega)
end
section
variable {X : Cx}
def rAppend : V → List V → Hp → VK → Prop := fun x vs H Q => ∃ l xs y, x = .ref l ∧ vs = [y] ∧ H l = some (.lst xs) ∧ xs.length < sizeLine ∧ Q .non (upd H l (.lst (xs ++ [y])))
theorem mt_append : MtM X "list.append" rAppend := by
  intro pins s σ H x vs v us Q I rx rv h
  obtain ⟨l, xs, y, rfl, rfl, hH, hz, q⟩ := h
  cases rx
  obtain ⟨u, rfl, ru⟩ := rv.one
  obtain ⟨z, its, n, r, hl, e⟩ := I.lstM hH
  refine call_meets F.slot_list_append ⟨_, e, rfl⟩ F.entry_list_append (F.args_list_append_2 _ _) (PySem.list_append l its.toArray n u (by rw [List.size_toArray]; omega)) ⟨e, ?_⟩
  refine ⟨.non, _, I.lset (its' := its ++ [u]) hH e (by simp) (r.append (.cons ru .nil)) ?_, rfl, q⟩
  rw [List.length_append, List.length_singleton]
  omega
def rExtend : V → List V → Hp → VK → Prop := fun x vs H Q => ∃ l b xs zs, x = .ref l ∧ vs = [.ref b] ∧ H l = some (.lst xs) ∧ H b = some (.lst zs) ∧ xs.length + zs.length ≤ sizeLine ∧ Q .non (upd H l (.lst (xs ++ zs)))
theorem mt_extend : MtM X "list.extend" rExtend := by
  intro pins s σ H x vs v us Q I rx rv h
  obtain ⟨l, b, xs, zs, rfl, rfl, hH, hB, hz, q⟩ := h
  cases rx
  obtain ⟨u, rfl, ru⟩ := rv.one
  cases ru
  obtain ⟨z, its, n, r, hl, e⟩ := I.lstM hH
  obtain ⟨z2, its2, n2, r2, hl2, e2⟩ := I.lstM hB
  have hsz : its.toArray.size + its2.toArray.size ≤ sizeLine := by rw [List.size_toArray, List.size_toArray]; omega
  have hlong : ¬ (!its.toArray.isEmpty && Builtin.List.listTooLong (its.toArray.size + its2.toArray.size)) = true := by
    rw [notLongL hsz, Bool.and_false]
    exact Bool.false_ne_true
  refine call_meets F.slot_list_extend ⟨_, e, rfl⟩ F.entry_list_extend (F.args_list_extend_2 _ _)
    (AutoSeq1.list_extend_list_list_0 l its.toArray n b its2.toArray n2 hlong (by rw [List.size_toArray]; omega) (by omega)) ⟨e, e2, ?_⟩
  refine ⟨.non, _, I.lset (its' := its ++ its2) hH e (by simp) (r.append r2) ?_, rfl, q⟩
  rw [List.length_append]
  omega
def rPop : V → List V → Hp → VK → Prop := fun x vs H Q => ∃ l xs y, x = .ref l ∧ vs = [] ∧ H l = some (.lst xs) ∧ xs[xs.length - 1]? = some y ∧ Q y (upd H l (.lst xs.dropLast))
theorem mt_pop : MtM X "list.pop" rPop := by
  intro pins s σ H x vs v us Q I rx rv h
  obtain ⟨l, xs, y, rfl, rfl, hH, hy, q⟩ := h
  cases rx
  have hus := rv.zero
  subst hus
  obtain ⟨z, its, n, r, hl, e⟩ := I.lstM hH
  obtain ⟨u, hu, ru⟩ := r.get hy
  have hy' : its.toArray[its.toArray.size - 1]? = some u := by
    show its.toArray[its.length - 1]? = some u
    rw [← Array.getElem?_toList, ← hl]
    exact hu
  refine call_meets F.slot_list_pop ⟨_, e, rfl⟩ F.entry_list_pop (F.args_list_pop_1 _) (MeetsSeq.list_pop_last l its.toArray n u hy' (by rw [List.size_toArray]; omega)) ⟨e, ?_⟩
  refine ⟨y, _, I.lset (its' := its.dropLast) hH e ?_ r.dropLast ?_, ru, q⟩
  · show its.toArray.eraseIdxIfInBounds (its.toArray.size - 1) = its.dropLast.toArray
    rw [List.size_toArray, List.eraseIdxIfInBounds_toArray, erase_last]
  · rw [List.length_dropLast]
    omega
def rClear : V → List V → Hp → VK → Prop := fun x vs H Q => ∃ l xs, x = .ref l ∧ vs = [] ∧ H l = some (.lst xs) ∧ Q .non (upd H l (.lst []))
theorem mt_clear : MtM X "list.clear" rClear := by
  intro pins s σ H x vs v us Q I rx rv h
  obtain ⟨l, xs, rfl, rfl, hH, q⟩ := h
  cases rx
  have hus := rv.zero
  subst hus
  obtain ⟨z, its, n, r, hl, e⟩ := I.lstM hH
  refine call_meets F.slot_list_clear ⟨_, e, rfl⟩ F.entry_list_clear (F.args_list_clear_1 _) (AutoSeq1.list_clear_list_0 l its.toArray n (by rw [List.size_toArray]; omega)) ⟨e, ?_⟩
  exact ⟨.non, _, I.lset (its' := []) (ys := []) hH e rfl .nil (Nat.zero_le _), rfl, q⟩
def rCat : R2 := fun x y H Q => ∃ l b xs zs, x = .ref l ∧ y = .ref b ∧ H l = some (.lst xs) ∧ H b = some (.lst zs) ∧ xs.length + zs.length ≤ sizeLine ∧ ∀ p, H p = none → Q (.ref p) (upd H p (.lst (xs ++ zs)))
theorem op_cat : OpR X (binaryOp .Add) rCat := by
  intro pins s σ H x y v u Q I rx ry h
  obtain ⟨l, b, xs, zs, rfl, rfl, hH, hB, hz, q⟩ := h
  cases rx
  cases ry
  obtain ⟨z, its, n, r, hl, e⟩ := I.lstM hH
  obtain ⟨z2, its2, n2, r2, hl2, e2⟩ := I.lstM hB
  refine PySem.P.add_list e e2 ?_ (by rw [List.size_toArray, List.size_toArray]; omega)
  have ea : its.toArray ++ its2.toArray = (its ++ its2).toArray := by simp
  rw [ea]
  exact ⟨.ref _, _, I.lnew (t' := s.toks) (r.append r2) (by rw [List.length_append]; omega), rfl, q _ I.fresh⟩
def rRep : R2 := fun x y H Q => ∃ l k xs, x = .ref l ∧ y = .int k ∧ H l = some (.lst xs) ∧ -(2 ^ 63) ≤ k ∧ k < 2 ^ 63 ∧ xs.length * k.toNat ≤ sizeLine ∧
  ∀ p, H p = none → Q (.ref p) (upd H p (.lst (List.replicate k.toNat xs).flatten))
theorem len_rep {α : Type} (xs : List α) (k : Nat) : (List.replicate k xs).flatten.length = k * xs.length := by
  induction k with
  | zero => simp
  | succ k ih => rw [List.replicate_succ, List.flatten_cons, List.length_append, ih, Nat.succ_mul, Nat.add_comm]
theorem op_rep : OpR X (binaryOp .Mult) rRep := by
  intro pins s σ H x y v u Q I rx ry h
  obtain ⟨l, k, xs, rfl, rfl, hH, h1, h2, hz, q⟩ := h
  cases rx
  obtain ⟨t, rfl⟩ := ry
  obtain ⟨z, its, n, r, hl, e⟩ := I.lstM hH
  have hlen : its.toArray.size * k.toNat ≤ sizeLine := by rw [List.size_toArray, ← hl]; exact hz
  have hcap : ¬ its.toArray.size * k.toNat > (2 ^ 63 - 1) / 8 := by
    have : (sizeLine : Nat) ≤ (2 ^ 63 - 1) / 8 := by decide
    omega
  have hfit : ¬ (!Builtin.List.listFitsIndex k) = true := by
    rw [fitsIndex_both h1 h2]
    exact Bool.false_ne_true
  have hlong : ¬ Builtin.List.listTooLong (its.toArray.size * k.toNat) = true := by
    rw [notLongL hlen]
    exact Bool.false_ne_true
  have hnew : List.foldl (fun x1 x2 => x1 ++ x2) #[] (List.replicate (if its.toArray.isEmpty = true then 0 else k.toNat) its.toArray) = (List.replicate k.toNat its).flatten.toArray := by
    have f0 : ∀ m : Nat, List.foldl (fun x1 x2 => x1 ++ x2) #[] (List.replicate m its.toArray) = (List.replicate m its).flatten.toArray := fun m => by
      have := foldl_rep its m []
      rw [List.nil_append] at this
      exact this
    rw [f0]
    cases its with
    | nil => simp
    | cons a r' => rw [if_neg (by simp)]
  refine wpAny_binaryOp_repeat_ref (T := "list") (U := "int") (by decide) ⟨_, e, rfl⟩ (fun s' => typeIs_int s' k t) noFill_list_mul F.fills_int_mul F.slot_int_rmul repeat_list F.slot_int_index.lookup
    (call_meets F.slot_int_rmul (typeIs_int s k t) F.entry_int_rmul (F.args_int_rmul_2 _ _) (int___rmul___int_list k t l its.toArray n)
      ⟨e, rfl, ⟨_, e, rfl⟩, call_meets F.slot_list_mul ⟨_, e, rfl⟩ F.entry_list_mul (F.args_list_mul_2 _ _) (AutoListH.list___mul___list_int_3 l its.toArray n k t hfit hcap hlong) ⟨e, ?_⟩⟩)
  rw [hnew]
  exact ⟨.ref _, _, I.lnew (t' := s.toks) (r.rep k.toNat) (by rw [len_rep, Nat.mul_comm]; exact hz), rfl, q _ I.fresh⟩
end
section
variable {prog : Program} {w : World} {A : Around} {E : Value → Shared → Prop} {s : Shared}
end
section
variable {X : Cx}
end
end L2
namespace Att
open PySem PySem.W PySem.Calls PyProof.Rows
theorem ints_of_wellAll {P : Params} {h : Heap} : ∀ (ns : List Int) (vs : List Value), WellAll P h vs (ns.map WData.int) → IntsAre vs ns := by
  intro ns
  induction ns with
  | nil =>
    intro vs w
    rw [List.map_nil] at w
    cases w
    exact .nil
  | cons n ns ih =>
    intro vs w
    rw [List.map_cons] at w
    cases w with
    | cons a b =>
      cases a
      exact .cons _ _ (ih _ b)
theorem script_of {l : OpenLaw} {n : Nat} (hn : l.most = some n) {P : Params} {h : Heap} {args : List WData} {vals : List Value}
    (hpre : l.row.toRowW.claim.pre args = true) (hwl : WellAll P h vals args) :
    ∃ a vs ns, vals = [Value.ref a] ∧ args = [WData.list (ns.map WData.int)] ∧ h.get? a = some { cls := .type "list", data := .seq vs.toArray } ∧ IntsAre vs ns ∧ ns.length ≤ n := by
  have hsh : WShape.hasAll [] args [.list .int] = true := (pre_splitW hpre).1
  have hc : l.pre.holds [] { args := args } = true := (pre_splitW hpre).2
  obtain ⟨d, r, rfl, h1, h2⟩ := hasAllW_cons hsh
  obtain rfl := hasAllW_nil h2
  obtain ⟨xs, rfl, h3⟩ := hasW_list h1
  obtain ⟨ns, rfl⟩ := items_int h3
  have hlen : ns.length ≤ n := by
    unfold OpenLaw.pre at hc
    have h4 : (WTm.not (.lt (.lit (.int (n : Int))) (.len (.arg 0)))).holds [] { args := [.list (ns.map .int)] } = true := by
      have h4 := (holds_andW hc).1
      rw [hn] at h4
      exact h4
    have h5 := condW_of h4 (w_not (w_lt w_lit (w_len_list (w_arg rfl))))
    rw [List.length_map] at h5
    refine Nat.le_of_not_lt fun q => ?_
    have q' : (n : Int) < ((ns.length : Nat) : Int) := by omega
    first
      | (rw [decide_eq_true q'] at h5; exact absurd h5 (by decide))
      | (simp at h5; omega)
  cases hwl with
  | cons w1 w2 =>
    cases w2
    cases w1 with
    | list ho hall => exact ⟨_, _, ns, rfl, rfl, ho, ints_of_wellAll ns _ hall, hlen⟩
theorem post_true (l : OpenLaw) (args : List WData) : l.row.toRowW.claim.post args (.bool true) args = true :=
  postW_of (r := l.row.toRowW) (X := (true == true))
    (show WShape.has [] (.bool true) .bool = true by first | rfl | decide | simp [WShape.has, WShape.arms, WShape.armsAll])
    (show (WTm.eq .res (.lit (.bool true))).value [] { args := args, res := some (.bool true), after := args } = some (.bool (true == true)) from w_eq_bool (w_res rfl) w_lit) rfl
theorem attach_call {l : OpenLaw} {n : Nat} {q : Program} {loose : List Str} {XP : (Str → Option Value) → Heap → Prop} {YP : World → Heap → Prop} {d : DefRec}
    (hn : l.most = some n) (hdf : d.params.defaults = [])
    (call : ∀ (w : World) (s₀ s₁ : Shared) (mg mb : Str → Option Value) (fa : Addr) (o : Obj) (pm cd doc : Value) (a : Addr) (vs : List Value) (ns : List Int),
      Ground q loose [] XP w s₀ mg mb s₁.heap → YP w s₁.heap →
      s₁.heap.get? fa = some o → o.data = .func (docDef d.name d.params d.body d.scope pm cd doc) → s₁.heap.CodeRec cd d.name → mg d.name = some (.ref fa) →
      s₁.heap.get? a = some { cls := .type "list", data := .seq vs.toArray } → IntsAre vs ns → ns.length ≤ n → s₁.gens = #[] →
      codeAny (model l.prog w) callerA (.call (.ref fa) ⟨[.ref a], []⟩) (fun r s' => r = .ok (.ret (.bool true)) ∧ OldK s₁.heap s'.heap ∧ s'.os = s₁.os ∧ AllBare s'.gens) s₁) :
    WalkO q loose XP YP l.row.toRowW d [] (fun f vs => PySem.call f vs) := by
  intro w s₀ s₁ mg mb G Y fa o pm cd doc dV kV ho hd hcd hD hmg hg args vals as hpre hlay hrd hwl hlo
  obtain rfl : dV = .none := Dflts.none hD hdf
  obtain rfl : kV = .none := Dflts.noKw hD
  obtain ⟨a, vs, ns, rfl, rfl, hobj, hints, hlen⟩ := script_of hn hpre hwl
  refine enter_call (codeAny_mono (call w s₀ s₁ mg mb fa o pm cd doc a vs ns G Y ho (fd_plain hd) hcd hmg hobj hints hlen hg) fun r s' hq => ?_)
  obtain ⟨rfl, h2, h3, h4⟩ := hq
  exact ⟨.inl ⟨.bool true, .bool true, [], rfl, fun _ => rfl, .bool true, post_true l _, fun _ => ⟨List.Pairwise.nil, fun _ hm => (nomatch hm)⟩⟩, h2, h3, h4⟩
section
variable {prog : Program} {w : World} {A : Around} {E : Value → Shared → Prop} {s : Shared} {K : Frag}
end
end Att
namespace L2
open PySem PySem.Spec PyProof.Rows
theorem vals_ints : ∀ {vs : List Value} {ns : List Int}, IntsAre vs ns → Vals (ns.map V.int) vs
  | _, _, .nil => .nil
  | _, _, .cons n t h => .cons ⟨t, rfl⟩ (vals_ints h)
def Only (H : Hp) : Prop := ∀ b, H b = none ∨ ∃ o xs, H b = some (.frz o (.lst xs))
theorem law_call {P : Program} {w : World} {K : PySem.W.Frag} {mg mb : Str → Option Value} {CX : CXT} {k : Nat} {fa a : Addr} {fd : FuncData} {x : Str} {sp : Sp} {s₁ : Shared} {vs : List Value} {ns : List Int}
    (KX : K.In s₁.heap) (hns : s₁.heap.Ns mainGlobals mg) (hb : s₁.heap.Ns builtinsNs mb) (hbb : ∀ x : Str, x ≠ "__name__" → mb x = bootBuiltins x) (hlim : s₁.heap.NoLimit) (hg : s₁.gens = #[])
    (ha : s₁.heap.get? a = some { cls := .type "list", data := .seq vs.toArray }) (hi : IntsAre vs ns) (hl : ns.length ≤ sizeLine) (hr : Room k callerA)
    (F : ∀ base : Heap, K.In base → base.Ns mainGlobals mg → FnOk P w K mg base CX k fa fd [x] sp) (hbind : ∀ (s : Shared) (u : Value), BindsTo s fd ⟨[u], []⟩ [(x, u)])
    (hsp : ∀ H : Hp, Only H → SqL K H a (ns.map V.int) → sp [.ref a] H (fun v _ => v = .bl true) fun _ _ _ => False)
    (hCX : ∀ H e s', CX [] H s₁ (fun _ _ _ => False) e s' → False) :
    codeAny (model P w) callerA (.call (.ref fa) ⟨[.ref a], []⟩) (fun r s' => r = .ok (.ret (.bool true)) ∧ OldK s₁.heap s'.heap ∧ s'.os = s₁.os ∧ AllBare s'.gens) s₁ := by
  have rv := vals_ints hi
  have lenV := hi.length
  have core : ∀ H : Hp, Only H → SqL K H a (ns.map V.int) → HOk P w H s₁.heap → (∀ b, H b ≠ none → b = a) → (H a ≠ none → K.lookup a = none) →
      codeAny (model P w) callerA (.call (.ref fa) ⟨[.ref a], []⟩) (fun r s' => r = .ok (.ret (.bool true)) ∧ OldK s₁.heap s'.heap ∧ s'.os = s₁.os ∧ AllBare s'.gens) s₁ := by
    intro H hO hS hok hA hK
    have base_of : ∀ {b : Addr} {o : Obj}, s₁.heap.get? b = some o → H b = none → (hidT s₁.heap H).get? b = some o := fun e n => hidT_get e n
    have noA : ∀ {b : Addr} {o : Obj} {es : Array DictEntry} {ep : Nat}, s₁.heap.get? b = some o → o.data = .dict es ep → H b = none := fun {b o es ep} e d => by
      cases q : H b with
      | none => rfl
      | some u =>
        have e' : b = a := hA b (by rw [q]; simp)
        subst e'
        rw [ha] at e; cases e
        have d' : Data.seq vs.toArray _ = Data.dict es ep := d
        cases d'
    have nsK : ∀ {b : Addr} {m : Str → Option Value}, s₁.heap.Ns b m → (hidT s₁.heap H).Ns b m := fun {b m} ⟨o, es, ep, e, d, r⟩ => ⟨o, es, ep, base_of e (noA e d), d, r⟩
    have hKb : K.In (hidT s₁.heap H) := fun b o e => base_of (KX b o e) (by
      cases q : H b with
      | none => rfl
      | some u =>
        have e' : b = a := hA b (by rw [q]; simp)
        subst e'
        rw [hK (by rw [q]; simp)] at e; cases e)
    have hM : Mod K mg (hidT s₁.heap H) := ⟨hKb, nsK hns, ⟨mb, nsK hb, hbb⟩, let ⟨mc, h1, h2⟩ := hlim; ⟨mc, nsK h1, h2⟩⟩
    have e0 : Env0 P w K mg (hidT s₁.heap H) callerA [] s₁ H := ⟨rfl, hM, fun b o e => of_hidT e, Nat.le_of_eq (hidT_size _ _), trivial, fun b hb => absurd (show b ∈ ([] : List Addr) from hb) (by simp), hok, .of_eq hg⟩
    refine codeAny_mono ((F _ hKb (nsK hns)).run callerA [] s₁ H ⟨[.ref a], []⟩ [.ref a] [.ref a] _ _ hr e0 (hbind s₁ (.ref a)) (.cons rfl .nil) (hsp H hO hS)) fun r s' h => ?_
    cases r with
    | error e => exact (hCX H e s' h).elim
    | ok fl =>
      cases fl with
      | next => exact False.elim h
      | brk => exact False.elim h
      | cont => exact False.elim h
      | ret u =>
        obtain ⟨v, H', os, bare, un, hok', r', q⟩ := h
        have q' : v = .bl true := q
        subst q'
        obtain rfl : u = Value.bool true := r'
        refine ⟨rfl, OldK.of_keep fun b o e => ?_, os, bare⟩
        cases q : H b with
        | none => exact un.keep b o e q (by intro z; exact absurd (show b ∈ ([] : List Addr) from z) (by simp)) (by simp)
        | some u =>
          rcases hO b with z | ⟨ob, xs, z⟩
          · rw [q] at z; cases z
          · have z2 := un.frzs b ob _ z
            obtain ⟨e1, _⟩ := hok b _ z
            obtain ⟨e2, _⟩ := hok' b _ z2
            rw [e] at e1; cases e1
            exact e2
  cases hk : K.lookup a with
  | some o =>
    have e := KX a o hk
    rw [ha] at e
    cases e
    refine core (fun _ => none) (fun _ => .inl rfl) (.inr ⟨_, vs.toArray, _, hk, rfl, rfl, rfl, by rw [List.size_toArray, lenV]; exact hl, by simpa using rv⟩) (fun b u z => by have z' : (none : Option HO) = some u := z; cases z') (fun b z => absurd rfl z) fun z => absurd rfl z
  | none =>
    refine core (fun b => if b = a then some (.frz { cls := .type "list", data := .seq vs.toArray } (.lst (ns.map V.int))) else none) (fun b => ?_) (.inl (.inr ⟨{ cls := .type "list", data := .seq vs.toArray }, if_pos rfl⟩)) (fun b u z => ?_) (fun b z => ?_) fun _ => hk
    · by_cases hb : b = a
      · exact .inr ⟨_, _, if_pos hb⟩
      · exact .inl (if_neg hb)
    · by_cases hb : b = a
      · have z' := (if_pos hb).symm.trans z
        cases z'
        subst hb
        exact ⟨ha, by rw [List.length_map]; exact hl, vs, _, rv, ha⟩
      · have z' := (if_neg hb).symm.trans z
        cases z'
    · by_cases hb : b = a
      · exact hb
      · exact absurd (if_neg hb) z
end L2
namespace L2
open PySem PySem.Spec PyProof.Rows
theorem walk_of {l : PySem.W.OpenLaw} {n k : Nat} {q : Program} {loose : List Str} {XP : (Str → Option Value) → Heap → Prop} {YP : World → Heap → Prop} {d : DefRec} {K : Params → PySem.W.Frag} {CX : World → CXT} {sp : World → Sp} {x : Str}
    (hn : l.most = some n) (hn2 : n ≤ sizeLine) (hdf : d.params.defaults = []) (hr : Room k callerA)
    (hY : ∀ (w : World) (h : Heap), YP w h → (K w.params).In h)
    (F : ∀ (w : World) (mg : Str → Option Value) (fa : Addr) (h : Heap), (K w.params).In h → h.Ns mainGlobals mg → mg d.name = some (.ref fa) →
      ∃ fd : FuncData, (∀ (s : Shared) (u : Value), BindsTo s fd ⟨[u], []⟩ [(x, u)]) ∧
        ∀ base : Heap, (K w.params).In base → base.Ns mainGlobals mg → FnOk l.prog w (K w.params) mg base (CX w) k fa fd [x] (sp w))
    (hsp : ∀ (w : World) (H : Hp) (a : Addr) (ns : List Int), ns.length ≤ n → Only H → SqL (K w.params) H a (ns.map V.int) → sp w [.ref a] H (fun v _ => v = .bl true) fun _ _ _ => False)
    (hCX : ∀ (w : World) (H : Hp) (s : Shared) (e : Value) (s' : Shared), CX w [] H s (fun _ _ _ => False) e s' → False) :
    PySem.W.WalkO q loose XP YP l.row.toRowW d [] (fun f vs => PySem.call f vs) := by
  refine Att.attach_call hn hdf fun w s₀ s₁ mg mb fa o pm cd doc a vs ns G Y ho hd hcd hmg hobj hints hlen hg => ?_
  have KX := hY w _ Y
  obtain ⟨fd, hb, hF⟩ := F w mg fa _ KX G.T.g hmg
  exact law_call KX G.T.g G.T.b G.T.builtins G.T.nolimit hg hobj hints (Nat.le_trans hlen hn2) hr hF hb (fun H hO hS => hsp w H a ns hlen hO hS) fun H e s' => hCX w H s₁ e s'
end L2
namespace L2
open PySem PySem.Spec PyProof.Rows
def defArgs (s : Stmt) : Arguments := match s with
  | .FunctionDef _ a _ _ _ _ _ _ _ _ => a
  | _ => { posonlyargs := [], args := [], vararg := none, kwonlyargs := [], kw_defaults := [], kwarg := none, defaults := [] }
def defBody (s : Stmt) : List Stmt := match s with
  | .FunctionDef _ _ b _ _ _ _ _ _ _ => b
  | _ => []
def defScope (s : Stmt) : Scope := match s with
  | .FunctionDef _ _ _ _ _ _ sc _ _ _ => sc
  | _ => { kind := .function, names := [], isGenerator := false, isCoroutine := false }
abbrev CX0 : CXT := fun _ _ _ _ _ _ => False
abbrev E0 : XK := fun _ _ _ => False
theorem pass0 {X : Cx} : Passes CX0 X E0 := fun _ _ _ _ _ _ _ h => h.elim
structure Fun (K : PySem.W.Frag) (x qual : Str) (st : Stmt) (f : Addr) (fd : FuncData) : Prop where
  ex : ∃ (oc : Value) (od : Option Addr) (kV doc pm : Value) (an : Option Addr) (cdv ct : Value) (osl : Array (Option Value)),
    fd = PySem.W.fnOf x qual (defArgs st) (defBody st) (defScope st) .none kV doc pm an cdv ct ∧ K.lookup f = some ⟨oc, od, .func fd, osl⟩ ∧ PySem.W.codeIn K cdv qual = true
  kp : PySem.W.keepIn K (.ref f) = true
section
variable {P : Program} {w : World} {K : PySem.W.Frag} {mg : Str → Option Value} {base : Heap}
theorem Fun.ok {x qual : Str} {st : Stmt} {f : Addr} {fd : FuncData} {N ps : List Str} {k : Nat} {sp : Sp} (F : Fun K x qual st f fd) (S : FnScope N ps (defScope st)) (len : ∀ vs H Q E, sp vs H Q E → vs.length = ps.length)
    (hbody : ∀ (cdv : Value) (A : Around) (outer : List Env) (s : Shared) (H : Hp) (vs : List V) (Q : VK) (E : XK), Room k (A.deeper (envOfC qual (defScope st) s.heap.objs.size f cdv)) → sp vs H Q E →
      ∃ t, PSs (cxOf CX0 P w K mg base N qual (defScope st) f cdv A outer s H E).nox (defBody st) t ∧ t { nx := fun _ H' => Q .non H', rt := Q } (start N vs) H) : FnOk P w K mg base CX0 (k + 1) f fd ps sp := by
  obtain ⟨oc, od, kV, doc, pm, an, cdv, ct, osl, rfl, lk, hcd⟩ := F.ex
  refine fn_of lk hcd S len fun A outer s H vs Q E hr hsp => ?_
  obtain ⟨t, h, q⟩ := hbody cdv A outer s H vs Q E hr hsp
  exact ⟨t, h.nox, q⟩
theorem Fun.binds {x qual : Str} {st : Stmt} {f : Addr} {fd : FuncData} {ps : List Str} (F : Fun K x qual st f fd)
    (h : ∀ (kV doc pm : Value) (an : Option Addr) (cdv ct : Value) (us : List Value), us.length = ps.length → bindArgs (PySem.W.fnOf x qual (defArgs st) (defBody st) (defScope st) .none kV doc pm an cdv ct) ⟨us, []⟩ = pure (ps.zip us)) : Binds K fd ps [] := by
  obtain ⟨oc, od, kV, doc, pm, an, cdv, ct, osl, rfl, lk, hcd⟩ := F.ex
  exact .all (h kV doc pm an cdv ct)
theorem fun_mk {x qual : Str} {st : Stmt} {f : Addr} {oc : Value} {od an : Option Addr} {osl : Array (Option Value)} {kV doc pm cdv ct : Value} (l : K.lookup f = some ⟨oc, od, .func (PySem.W.fnOf x qual (defArgs st) (defBody st) (defScope st) .none kV doc pm an cdv ct), osl⟩)
    (c : PySem.W.codeIn K cdv qual = true) (k : PySem.W.keepIn K (.ref f) = true) : Fun K x qual st f (PySem.W.fnOf x qual (defArgs st) (defBody st) (defScope st) .none kV doc pm an cdv ct) := ⟨⟨oc, od, kV, doc, pm, an, cdv, ct, osl, rfl, l, c⟩, k⟩
end
section
variable {X : Cx}
theorem pv (i : Nat) {x : Str} {pos : Pos} (hN : X.N[i]? = some x := by rfl) (hv : Vis X.env.scope x := by first | exact Or.inl rfl | exact Or.inr (Or.inl rfl) | exact Or.inr (Or.inr rfl)) (hd : (x == ("__debug__" : Str)) = false := by decide)
    (hcd : (x == ("__classdict__" : Str)) = false := by decide) : PE X (.Name x pos) (tVar i) := pe_var hN hv hd hcd
end
theorem iteF {A B : Prop} (h : B) : if false = true then A else B := by
  rw [if_neg Bool.false_ne_true]
  exact h
theorem iteT {A B : Prop} (h : A) : if true = true then A else B := by
  rw [if_pos rfl]
  exact h
theorem ite2 {c A B : Prop} [Decidable c] (h1 : c → A) (h2 : ¬ c → B) : if c then A else B := by
  by_cases h : c
  · rw [if_pos h]
    exact h1 h
  · rw [if_neg h]
    exact h2 h
def Same (H H' : Hp) : Prop := ∀ b o, H b = some o → H' b = some o
theorem Same.refl (H : Hp) : Same H H := fun _ _ h => h
theorem Same.trans {H H1 H2 : Hp} (a : Same H H1) (b : Same H1 H2) : Same H H2 := fun c o h => b c o (a c o h)
end L2
set_option Elab.async false
namespace FM
def gi (a b : Int) : Int := (Int.gcd a b : Int)
theorem gcd_step (a b : Int) : Int.gcd b (a.fmod b) = Int.gcd a b := by
  have e : a.fmod b = a - b * a.fdiv b := Int.fmod_def a b
  rw [e, Int.gcd_comm a b]
  exact Int.gcd_sub_mul_left_right b a (a.fdiv b)
theorem fmod_less (a b : Int) (hb : b ≠ 0) : (a.fmod b).natAbs < b.natAbs := by
  rcases Int.lt_or_gt_of_ne hb with h | h
  · have h1 : -(a.fmod b) = (-a).fmod (-b) := by
      rw [Int.fmod_def, Int.fmod_def, Int.neg_fdiv_neg]
      have : -b * a.fdiv b = -(b * a.fdiv b) := Int.neg_mul _ _
      omega
    have h2 := Int.fmod_nonneg_of_pos (-a) (show 0 < -b by omega)
    have h3 := Int.fmod_lt_of_pos (-a) (show 0 < -b by omega)
    omega
  · have h2 := Int.fmod_nonneg_of_pos a h
    have h3 := Int.fmod_lt_of_pos a h
    omega
theorem gi_pos {a b : Int} (hb : b ≠ 0) : 0 < gi a b := by
  have : 0 < Int.gcd a b := Int.gcd_pos_of_ne_zero_right a hb
  unfold gi; omega
theorem gi_le {a b : Int} (hb : b ≠ 0) : (gi a b).natAbs ≤ b.natAbs := by
  have h : Int.gcd a b ∣ b.natAbs := by
    have := Int.gcd_dvd_right a b
    exact Int.natAbs_dvd_natAbs.mpr this
  have h2 : 0 < b.natAbs := by omega
  have := Nat.le_of_dvd h2 h
  unfold gi; omega
def gs (t b : Int) : Int := if b < 0 then -gi t b else gi t b
theorem gs_ne {t b : Int} (hb : b ≠ 0) : gs t b ≠ 0 := by
  have := gi_pos (a := t) hb
  unfold gs; split <;> omega
theorem gs_le {t b : Int} (hb : b ≠ 0) : (gs t b).natAbs ≤ b.natAbs := by
  have := gi_le (a := t) hb
  unfold gs; split <;> omega
theorem fdiv_exact {g x k : Int} (hg : g ≠ 0) (e : x = g * k) : x.fdiv g = k := by
  subst e
  exact Int.mul_fdiv_cancel_left k hg
theorem gi_dvd_left (a b : Int) : gi a b ∣ a := Int.gcd_dvd_left a b
theorem gi_dvd_right (a b : Int) : gi a b ∣ b := Int.gcd_dvd_right a b
theorem num_eq {t b : Int} (hb : b ≠ 0) : t.fdiv (gs t b) = (Rat.divInt t b).num := by
  have hp := gi_pos (a := t) hb
  obtain ⟨k, hk⟩ := gi_dvd_left t b
  rw [Rat.num_divInt, Int.gcd_comm b t]
  show t.fdiv (gs t b) = b.sign * t / gi t b
  unfold gs
  generalize gi t b = g at hp hk ⊢
  rcases Int.lt_or_gt_of_ne hb with h | h
  · rw [if_pos h, Int.sign_eq_neg_one_of_neg h, fdiv_exact (k := -k) (by omega) (by rw [hk]; simp [Int.mul_neg, Int.neg_mul])]
    have : -1 * t = g * (-k) := by rw [hk]; simp [Int.mul_neg]
    rw [this, Int.mul_ediv_cancel_left _ (by omega)]
  · rw [if_neg (by omega), Int.sign_eq_one_of_pos h, fdiv_exact (k := k) (by omega) hk, Int.one_mul, hk, Int.mul_ediv_cancel_left _ (by omega)]
theorem den_eq {t b : Int} (hb : b ≠ 0) : b.fdiv (gs t b) = ((Rat.divInt t b).den : Int) := by
  have hp := gi_pos (a := t) hb
  obtain ⟨k, hk⟩ := gi_dvd_right t b
  rw [Rat.den_divInt, if_neg hb, Int.gcd_comm b t]
  have e : (((b.natAbs / Int.gcd t b : Nat)) : Int) = (b.natAbs : Int) / gi t b := by unfold gi; simp
  rw [e]
  unfold gs
  generalize gi t b = g at hp hk ⊢
  rcases Int.lt_or_gt_of_ne hb with h | h
  · rw [if_pos h, fdiv_exact (k := -k) (by omega) (by rw [Int.neg_mul_neg]; exact hk)]
    have : (b.natAbs : Int) = g * (-k) := by rw [Int.mul_neg, ← hk]; omega
    rw [this, Int.mul_ediv_cancel_left _ (by omega)]
  · rw [if_neg (by omega), fdiv_exact (k := k) (by omega) hk]
    have : (b.natAbs : Int) = g * k := by rw [← hk]; omega
    rw [this, Int.mul_ediv_cancel_left _ (by omega)]
theorem natAbs_fdiv_le' (a b : Int) : (a.fdiv b).natAbs ≤ a.natAbs := by
  cases a with
  | ofNat n =>
    cases n with
    | zero =>
      have e : Int.fdiv (.ofNat 0) b = 0 := Int.zero_fdiv b
      rw [e]; exact Nat.zero_le _
    | succ k =>
      cases b with
      | ofNat j => exact Nat.div_le_self (k + 1) j
      | negSucc j => exact Nat.succ_le_succ (Nat.div_le_self k (j + 1))
  | negSucc k =>
    cases b with
    | ofNat j =>
      cases j with
      | zero => exact Nat.zero_le _
      | succ j => exact Nat.succ_le_succ (Nat.div_le_self k (j + 1))
    | negSucc j => exact Nat.div_le_self (k + 1) (j + 1)
theorem num_le {t b : Int} (hb : b ≠ 0) : (Rat.divInt t b).num.natAbs ≤ t.natAbs := by
  rw [← num_eq hb]; exact natAbs_fdiv_le' _ _
theorem den_le {t b : Int} (hb : b ≠ 0) : (Rat.divInt t b).den ≤ b.natAbs := by
  have h := natAbs_fdiv_le' b (gs t b)
  rw [den_eq hb] at h
  simpa using h
theorem den_ne (p : Rat) : (p.den : Int) ≠ 0 := by
  have := p.den_nz
  omega
theorem divInt_self (p : Rat) : Rat.divInt p.num p.den = p := Rat.num_divInt_den p
theorem sum_eq (p q : Rat) : Rat.divInt (p.num * q.den + q.num * p.den) (p.den * q.den) = p + q := by
  rw [← Rat.divInt_add_divInt _ _ (den_ne p) (den_ne q), divInt_self, divInt_self]
theorem times_eq (p q : Rat) : Rat.divInt (p.num * q.num) (p.den * q.den) = p * q := by
  rw [← Rat.divInt_mul_divInt, divInt_self, divInt_self]
theorem prod_ne (p q : Rat) : (p.den : Int) * q.den ≠ 0 := Int.mul_ne_zero (den_ne p) (den_ne q)
theorem nb_mul {x y : Int} {m n : Nat} (hx : x.natAbs < 2 ^ m) (hy : y.natAbs < 2 ^ n) : (x * y).natAbs < 2 ^ (m + n) := by
  rw [Int.natAbs_mul, Nat.pow_add]
  exact Nat.mul_lt_mul'' hx hy
theorem nb_add {x y : Int} {n : Nat} (hx : x.natAbs < 2 ^ n) (hy : y.natAbs < 2 ^ n) : (x + y).natAbs < 2 ^ (n + 1) := by
  rw [Nat.pow_succ]; omega
theorem nb_mono {x : Nat} {m n : Nat} (hx : x < 2 ^ m) (h : m ≤ n) : x < 2 ^ n := Nat.lt_of_lt_of_le hx (Nat.pow_le_pow_right (by decide) h)
def Fits (p : Rat) (n : Nat) : Prop := p.num.natAbs < 2 ^ n ∧ p.den < 2 ^ n
theorem Fits.mono {p : Rat} {m n : Nat} (h : Fits p m) (l : m ≤ n) : Fits p n := ⟨nb_mono h.1 l, nb_mono h.2 l⟩
theorem Fits.d {p : Rat} {n : Nat} (h : Fits p n) : ((p.den : Int)).natAbs < 2 ^ n := by simpa using h.2
theorem Fits.of_div {t b : Int} {n : Nat} (hb : b ≠ 0) (h1 : t.natAbs < 2 ^ n) (h2 : b.natAbs < 2 ^ n) : Fits (Rat.divInt t b) n :=
  ⟨Nat.lt_of_le_of_lt (num_le hb) h1, Nat.lt_of_le_of_lt (den_le hb) h2⟩
theorem sum_top {p q : Rat} {m n : Nat} (h : Fits p m) (k : Fits q n) : (p.num * q.den + q.num * p.den).natAbs < 2 ^ (m + n + 1) :=
  nb_add (nb_mul h.1 k.d) (by have := nb_mul k.1 h.d; rwa [Nat.add_comm n m] at this)
theorem dd {p q : Rat} {m n : Nat} (h : Fits p m) (k : Fits q n) : ((p.den : Int) * q.den).natAbs < 2 ^ (m + n) := nb_mul h.d k.d
theorem nn {p q : Rat} {m n : Nat} (h : Fits p m) (k : Fits q n) : (p.num * q.num).natAbs < 2 ^ (m + n) := nb_mul h.1 k.1
theorem Fits.sum {p q : Rat} {m n : Nat} (h : Fits p m) (k : Fits q n) : Fits (p + q) (m + n + 1) := by
  rw [← sum_eq]; exact .of_div (prod_ne p q) (sum_top h k) (nb_mono (dd h k) (by omega))
theorem Fits.times {p q : Rat} {m n : Nat} (h : Fits p m) (k : Fits q n) : Fits (p * q) (m + n) := by
  rw [← times_eq]; exact .of_div (prod_ne p q) (nn h k) (dd h k)
end FM
namespace FM
theorem gcd_abs (a b : Int) : Int.gcd (if a < 0 then -a else a) (if b < 0 then -b else b) = Int.gcd a b := by
  split <;> split <;> simp [Int.gcd_neg, Int.neg_gcd]
theorem abs_nonneg (a : Int) : 0 ≤ (if a < 0 then -a else a) := by split <;> omega
theorem gi_end {g a b : Int} (h : Int.gcd g 0 = Int.gcd a b) (h0 : 0 ≤ g) : g = gi a b := by
  unfold gi
  rw [← h, Int.gcd_zero_right]
  omega
theorem fmod_nonneg {g l : Int} (hl : l ≠ 0) (h : 0 ≤ l) : 0 ≤ g.fmod l := Int.fmod_nonneg_of_pos g (by omega)
end FM
set_option Elab.async false
set_option linter.all false
set_option maxRecDepth 100000
namespace L2
open PySem PySem.Spec PyProof.Rows
section
variable {X : Cx}
def CMulW (i j : Int) : Prop := ∃ m : Nat, m ≤ 1000000 ∧ i.natAbs < 2 ^ m ∧ j.natAbs < 2 ^ m
theorem CMulW.ok {i j : Int} (h : CMulW i j) : IntMulOk i j := by
  obtain ⟨m, hm, h1, h2⟩ := h
  exact IntMulOk.of_le (intBits_le_iff.mpr h1) (intBits_le_iff.mpr h2) (by omega)
theorem op_mulW : OpR X (binaryOp .Mult) (rI (fun i j => CMul i j ∨ CMulW i j) fun i j => .int (i * j)) :=
  opI fun _ _ _ _ _ _ _ hc q => mul_int q (hc.elim (fun z => z.ok) fun z => z.ok)
def CDivW (_i j : Int) : Prop := j ≠ 0 ∧ ∃ m : Nat, m ≤ 9000 ∧ j.natAbs < 2 ^ m
theorem op_fdivW : OpR X (binaryOp .FloorDiv) (rI CDivW fun i j => .int (i.fdiv j)) := opI fun i j _ _ _ _ _ hc q => by
  obtain ⟨h0, m, hm, h1⟩ := hc
  refine floordiv_int h0 q (.inl (PyProof.noPylong_of_log2 ?_))
  have hne : j.natAbs ≠ 0 := by omega
  have : j.natAbs.log2 < m := (Nat.log2_lt hne).mpr h1
  omega
mutual
def Br (K : PySem.W.Frag) (H : Hp) : PyData → V → Prop
  | .none, v => v = .non
  | .bool b, v => v = .bl b
  | .int i, v => v = .int i
  | .str x, v => v = .str x
  | .tuple ds, v => ∃ a xs, v = .ref a ∧ SqT K H a xs ∧ BrAll K H ds xs
  | .list ds, v => ∃ a xs, v = .ref a ∧ SqL K H a xs ∧ BrAll K H ds xs
  | .dict _, _ => False
def BrAll (K : PySem.W.Frag) (H : Hp) : List PyData → List V → Prop
  | [], xs => xs = []
  | d :: ds, xs => ∃ x r, xs = x :: r ∧ Br K H d x ∧ BrAll K H ds r
end
theorem Same.tup {K : PySem.W.Frag} {H H' : Hp} {a : Addr} {xs : List V} (e : Same H H') (h : SqT K H a xs) : SqT K H' a xs := by
  rcases h with (h | ⟨o, h⟩) | h
  · exact .inl (.inl (e _ _ h))
  · exact .inl (.inr ⟨o, e _ _ h⟩)
  · exact .inr h
mutual
theorem Br.reads {pins : List (Addr × Obj)} {σ : St} {H : Hp} {s : Shared} (I : Inv X pins σ H s) : ∀ {d : PyData} {v : V} {u : Value}, Br X.K H d v → RelV v u → ∃ as, Reads s.heap u d as
  | .none, _, u, h, r => by rw [Br] at h; subst h; cases r; exact ⟨_, .none⟩
  | .bool b, _, u, h, r => by rw [Br] at h; subst h; cases r; exact ⟨_, .bool b⟩
  | .int i, _, u, h, r => by rw [Br] at h; subst h; obtain ⟨t, rfl⟩ := r; exact ⟨_, .int i t⟩
  | .str x, _, u, h, r => by rw [Br] at h; subst h; obtain ⟨t, rfl⟩ := r; exact ⟨_, .str x t⟩
  | .tuple ds, _, u, h, r => by
    rw [Br] at h
    obtain ⟨a, xs, e1, h1, h2⟩ := h
    subst e1
    cases r
    obtain ⟨its, rv, ⟨o, e, c, n, hd⟩, _⟩ := I.tuple h1
    obtain ⟨as, ra⟩ := BrAll.reads I h2 rv
    exact ⟨_, .tuple e c hd (by simpa using ra)⟩
  | .list ds, _, u, h, r => by
    rw [Br] at h
    obtain ⟨a, xs, e1, h1, h2⟩ := h
    subst e1
    cases r
    obtain ⟨its, rv, ⟨o, n, e, c, _, hd⟩, _⟩ := I.list h1
    obtain ⟨as, ra⟩ := BrAll.reads I h2 rv
    exact ⟨_, .list e c hd (by simpa using ra)⟩
  | .dict _, _, _, h, _ => by rw [Br] at h; exact h.elim
theorem BrAll.reads {pins : List (Addr × Obj)} {σ : St} {H : Hp} {s : Shared} (I : Inv X pins σ H s) : ∀ {ds : List PyData} {xs : List V} {us : List Value}, BrAll X.K H ds xs → Vals xs us → ∃ as, ReadsAll s.heap us ds as
  | [], _, us, h, r => by rw [BrAll] at h; subst h; cases r; exact ⟨_, .nil⟩
  | _ :: _, _, us, h, r => by
    rw [BrAll] at h
    obtain ⟨x, q, e1, h1, h2⟩ := h
    subst e1
    cases r with
    | cons r1 r2 =>
      obtain ⟨as, ra⟩ := Br.reads I h1 r1
      obtain ⟨bs, rb⟩ := BrAll.reads I h2 r2
      exact ⟨_, .cons ra rb⟩
end
def rEqD (K : PySem.W.Frag) (neg : Bool) : R2 := fun x y H Q => ∃ d e, Br K H d x ∧ Br K H e y ∧ SeqAt.shaped d = true ∧ SeqAt.shaped e = true ∧ Q (.bl (if neg then !PyData.eqv d e else PyData.eqv d e)) H
theorem op_eqD (hu : X.A.units + 64 < cLine) : OpR X (compareOp .Eq) (rEqD X.K false) := by
  intro pins s σ H x y v u Q I rx ry h
  obtain ⟨d, e, h1, h2, s1, s2, q⟩ := h
  obtain ⟨as, ra⟩ := Br.reads I h1 rx
  obtain ⟨bs, rb⟩ := Br.reads I h2 ry
  exact eq_dataH ra rb s1 s2 hu ⟨.bl _, H, I, rfl, q⟩
theorem op_neD (hu : X.A.units + 64 < cLine) : OpR X (compareOp .NotEq) (rEqD X.K true) := by
  intro pins s σ H x y v u Q I rx ry h
  obtain ⟨d, e, h1, h2, s1, s2, q⟩ := h
  obtain ⟨as, ra⟩ := Br.reads I h1 rx
  obtain ⟨bs, rb⟩ := Br.reads I h2 ry
  exact ne_dataH ra rb s1 s2 hu ⟨.bl _, H, I, rfl, q⟩
end
end L2
set_option Elab.async false
namespace L2
open PySem PySem.Spec PyProof.Rows
structure Fn (K : PySem.W.Frag) (mg : Str → Option Value) (x : Str) (st : Stmt) (ps : List Str) (f : Addr) (fd : FuncData) : Prop where
  F : Fun K x x st f fd
  b : Binds K fd ps []
  m : mg x = some (.ref f)
section
variable {X : Cx} {k : Nat} {f : Addr} {fd : FuncData} {ps : List Str} {sp : Sp} {x : Str} {st : Stmt} {p pos : Pos} {e : Expr} {es : List Expr} {t : TA}
theorem pe_fn (T : Fn X.K X.mg x st ps f fd) (G : FnOk X.prog X.w X.K X.mg X.base CX0 k f fd ps sp) (hr : Room k X.A) (hg : Gl X x) (ha : PA X (e :: es) t)
    (hdb : (x == ("__debug__" : Str)) = false := by decide) (he : starEach (e :: es) X.env = (false, eval e X.env) :: starEach es X.env := by rfl) (hpl : (backTo pos (starEach es X.env)).any (·.1) = false := by rfl) :
    PE X (.Call (.Name x p) (e :: es) [] pos) (tCall sp [] E0 t) := pe_call G hr hg T.m T.F.kp T.b .nil pass0 ha hdb he hpl
end
theorem seq_join {t u : TS} {D : Ends} {σ : St} {H : Hp} (P : St → Hp → Prop) (h1 : ∀ nx : St → Hp → Prop, (∀ σ' H', P σ' H' → nx σ' H') → t { D with nx := nx } σ H) (h2 : ∀ σ' H', P σ' H' → u D σ' H') : tSeq t u D σ H := h1 _ h2
theorem sz2 : 2 ≤ sizeLine := by decide
theorem same_new {H : Hp} {p : Addr} (h : H p = none) (o : HO) : Same H (upd H p o) := fun b u q => by rw [upd_ne (ne_of_none q h)]; exact q
def SameBut (l : Addr) (H H' : Hp) : Prop := ∀ b o, b ≠ l → H b = some o → H' b = some o
theorem SameBut.of {l : Addr} {H H' : Hp} (h : Same H H') : SameBut l H H' := fun b o _ q => h b o q
theorem SameBut.upd {l : Addr} {H : Hp} {o : HO} : SameBut l H (upd H l o) := fun b u n q => by rw [upd_ne n]; exact q
def ratV (p : Rat) : List V := [.int p.num, .int (p.den : Int)]
def Rt (K : PySem.W.Frag) (H : Hp) (p : Rat) (v : V) : Prop := ∃ a, v = .ref a ∧ SqT K H a (ratV p)
theorem Rt.of {K : PySem.W.Frag} {H : Hp} {p : Rat} {a : Addr} (h : H a = some (.tup (ratV p))) : Rt K H p (.ref a) := ⟨a, rfl, .of h⟩
def ratD (p : Rat) : PyData := .tuple [.int p.num, .int (p.den : Int)]
theorem mulW {i j : Int} {m n : Nat} (h1 : i.natAbs < 2 ^ m) (h2 : j.natAbs < 2 ^ n) (h : m + n ≤ 1000000) : CMul i j ∨ CMulW i j :=
  .inr ⟨m + n, h, FM.nb_mono h1 (Nat.le_add_right _ _), FM.nb_mono h2 (Nat.le_add_left _ _)⟩
end L2
set_option Elab.async false
set_option linter.all false
set_option maxRecDepth 100000
set_option maxHeartbeats 4000000
namespace L2
open PySem PySem.Spec PyProof.Rows
def PIf (X : Cx) (ifs : List Expr) (t : TT) : Prop :=
  ∀ (pins : List (Addr × Obj)) (s : Shared) (σ : St) (H : Hp) (Q : Bool → Hp → Prop), Inv X pins σ H s → t σ H Q →
    wpAny (model X.prog X.w) X.A (forIn ifs true fun c r => if r = true then do let ok ← isTrue c X.env (eval c X.env); pure (ForInStep.yield ok) else pure (ForInStep.yield r)) (TP X pins σ Q) X.xe s
def tNoIf : TT := fun _ H Q => Q true H
theorem pif_nil {X : Cx} : PIf X [] tNoIf := fun _ _ σ H _ I h => wpAny_tests_nil ⟨H, I, h⟩
theorem pif_one {X : Cx} {c : Expr} {t : TT} (h : PT X c t) : PIf X [c] t := by
  intro pins s σ H Q I hw
  simp only [List.forIn_cons, List.forIn_nil, if_true]
  refine wpAny_bind (wpAny_bind (thn (h pins s σ H Q I hw) fun b s1 q => ?_))
  exact wpAny_pure (wpAny_pure q)
def frOk (N XN : List Str) (sc xsc : Scope) : List (Option Nat) → Nat → Bool
  | [], _ => true
  | none :: r, i => frOk N XN sc xsc r (i + 1)
  | some j :: r, i => (match N[i]?, XN[j]? with
      | some n, some m => n == m && sc.names.lookup n == some .free && xsc.names.lookup n == some .cell
      | _, _ => false) && frOk N XN sc xsc r (i + 1)
theorem frOk_get {N XN : List Str} {sc xsc : Scope} : ∀ {fr : List (Option Nat)} {k : Nat}, frOk N XN sc xsc fr k = true → ∀ {i j : Nat}, fr[i]? = some (some j) →
    ∃ n, N[k + i]? = some n ∧ XN[j]? = some n ∧ sc.names.lookup n = some .free ∧ xsc.names.lookup n = some .cell
  | [], _, _, i, j, e => by simp at e
  | none :: r, k, h, 0, j, e => by simp at e
  | none :: r, k, h, i + 1, j, e => by
    have q := frOk_get (fr := r) (k := k + 1) h (i := i) (j := j) (by simpa using e)
    have z : k + (i + 1) = k + 1 + i := by omega
    rw [z]; exact q
  | some j' :: r, k, h, 0, j, e => by
    have e' : j' = j := by simpa using e
    subst e'
    rw [frOk, Bool.and_eq_true] at h
    have h1 := h.1
    split at h1
    · rename_i n m hn hm
      simp only [Bool.and_eq_true, beq_iff_eq] at h1
      obtain ⟨⟨rfl, h2⟩, h3⟩ := h1
      exact ⟨n, by simpa using hn, hm, h2, h3⟩
    · cases h1
  | some j' :: r, k, h, i + 1, j, e => by
    rw [frOk, Bool.and_eq_true] at h
    have q := frOk_get (fr := r) (k := k + 1) h.2 (i := i) (j := j) (by simpa using e)
    have z : k + (i + 1) = k + 1 + i := by omega
    rw [z]; exact q
def carry (fr : List (Option Nat)) (σ : St) : St := fr.map fun o => match o with
  | some j => (σ[j]?).join
  | none => none
theorem carry_get {fr : List (Option Nat)} {σ : St} {i : Nat} {v : V} (h : (carry fr σ)[i]? = some (some v)) : ∃ j, fr[i]? = some (some j) ∧ σ[j]? = some (some v) := by
  unfold carry at h
  rw [List.getElem?_map] at h
  cases e : fr[i]? with
  | none => rw [e] at h; cases h
  | some o =>
    rw [e] at h
    cases o with
    | none => simp at h
    | some j =>
      refine ⟨j, rfl, ?_⟩
      simp only [Option.map_some, Option.some.injEq] at h
      cases q : σ[j]? with
      | none => rw [q] at h; cases h
      | some w => rw [q] at h; simp at h; rw [h]
theorem closure_of {env : Env} : ∀ (names : List (Str × NameKind)) (cs : List (Str × Addr)), (∀ x ∈ names, x.2 = NameKind.free → ∃ c, env.cells.lookup x.1 = some c) → (∀ x c, cs.lookup x = some c → env.cells.lookup x = some c) →
    ∃ cl, (forIn names cs (fun (x : Str × NameKind) (r : List (Str × Addr)) => do if (x.2 == NameKind.free) = true then do let a ← cellOf env x.1; pure (ForInStep.yield ((x.1, a) :: r)) else pure (ForInStep.yield r)) : Sem (List (Str × Addr))) = pure cl ∧
      (∀ x c, cl.lookup x = some c → env.cells.lookup x = some c) ∧ (∀ x, (∃ c, cs.lookup x = some c) → ∃ c, cl.lookup x = some c) ∧ ∀ x ∈ names, x.2 = NameKind.free → ∃ c, cl.lookup x.1 = some c
  | [], cs, _, h2 => ⟨cs, rfl, h2, fun _ q => q, fun _ z => (by cases z)⟩
  | (n, k) :: r, cs, h1, h2 => by
    rw [List.forIn_cons]
    by_cases hk : (k == NameKind.free) = true
    · obtain ⟨c, hc⟩ := h1 (n, k) List.mem_cons_self (by simpa using hk)
      have h2' : ∀ x c', ((n, c) :: cs).lookup x = some c' → env.cells.lookup x = some c' := fun x c' e => by
        rw [List.lookup_cons] at e
        cases hx : x == n with
        | true => rw [hx] at e; have := beq_iff_eq.mp hx; subst this; simp at e; rw [← e]; exact hc
        | false => rw [hx] at e; exact h2 x c' e
      obtain ⟨cl, q1, q2, q3, q4⟩ := closure_of r ((n, c) :: cs) (fun x hx => h1 x (List.mem_cons_of_mem _ hx)) h2'
      have hn : ∃ c', cl.lookup n = some c' := q3 n ⟨c, by rw [List.lookup_cons, beq_self_eq_true]⟩
      refine ⟨cl, ?_, q2, fun x hx => ?_, fun x hx hf => ?_⟩
      · simp only [hk, if_true]
        unfold cellOf
        rw [hc]
        exact q1
      · refine q3 x ?_
        rw [List.lookup_cons]
        cases hxn : x == n with
        | true => exact ⟨c, rfl⟩
        | false => exact hx
      · rcases List.mem_cons.mp hx with e | hx
        · subst e; exact hn
        · exact q4 x hx hf
    · obtain ⟨cl, q1, q2, q3, q4⟩ := closure_of r cs (fun x hx => h1 x (List.mem_cons_of_mem _ hx)) h2
      refine ⟨cl, ?_, q2, q3, fun x hx hf => ?_⟩
      · simp only [hk]
        exact q1
      · rcases List.mem_cons.mp hx with e | hx
        · subst e; exact absurd (by simpa using hf) hk
        · exact q4 x hx hf
def cxComp (X : Cx) (scope : Scope) (cl : List (Str × Addr)) (N : List Str) (C : Addr) (s₀ : Shared) (H₀ : Hp) (fp : List Addr) : Cx where
  prog := X.prog
  w := X.w
  K := X.K
  mg := X.mg
  base := X.base
  A := X.A
  N := N
  s₀ := s₀
  H₀ := H₀
  env := compEnvC scope cl C X.env
  outer := X.stack
  stack := X.stack
  ex := fp
  fn := fun _ => false
  calm := X.calm
  pn := []
  xe := fun _ _ => False
def tComp (wi : TI) (fr : List (Option Nat)) (ix : Nat) (tif : TT) (te : TE) : TE := fun σ H Q => wi σ H fun J H1 => ∀ D, H1 D = none → ∃ W : Nat → Nat → List V → Hp → Prop, (∃ m, W 0 m [] (upd H1 D (.lst []))) ∧
  ∀ i m ys H, W i m ys H → H D = some (.lst ys) ∧ ((J.stop i H ∧ Q (.ref D) H) ∨ (J.go i H ∧ ys.length < sizeLine ∧ ∀ x H', J.yld i H x H' →
    tif ((carry fr σ).set ix (some x)) H' fun b H2 => if b = true then te ((carry fr σ).set ix (some x)) H2 fun y H3 => H3 D = some (.lst ys) ∧ ∃ m', m' < m ∧ W (i + 1) m' (ys ++ [y]) (upd H3 D (.lst (ys ++ [y])))
      else ∃ m', m' < m ∧ W (i + 1) m' ys H2))
structure CompScope (scope : Scope) (N : List Str) (x : Str) (ix : Nat) : Prop where
  kind : scope.kind = .function
  cell : ∀ y ∈ scope.names, y.2 ≠ .cell
  names : ∀ y ∈ scope.names, y.2 = .local → scope.names.lookup y.1 = some .local
  free : ∀ y ∈ scope.names, y.2 = .free → scope.names.lookup y.1 = some .free
  loc : scope.names.lookup x = some .local
  nd : N.Nodup
  at_ : N[ix]? = some x
theorem lookup_mem {names : List (Str × NameKind)} {n : Str} {k : NameKind} : names.lookup n = some k → (n, k) ∈ names := by
  induction names with
  | nil => intro h; cases h
  | cons y r ih =>
    intro h
    obtain ⟨m, j⟩ := y
    rw [List.lookup_cons] at h
    cases e : n == m with
    | true => rw [e] at h; have := beq_iff_eq.mp e; subst this; simp at h; subst h; exact List.mem_cons_self
    | false => rw [e] at h; exact List.mem_cons_of_mem _ (ih h)
theorem relabel_kind {scope : Scope} {env : Env} (hc : ∀ y ∈ scope.names, y.2 ≠ .cell) {n : Str} (h : (relabel scope env).names.lookup n = some .cell ∨ (relabel scope env).names.lookup n = some .free) : ∃ k, (n, k) ∈ scope.names ∧ k = NameKind.free := by
  have key : ∀ k', (relabel scope env).names.lookup n = some k' → (k' = .cell ∨ k' = .free) → ∃ k, (n, k) ∈ scope.names ∧ k = NameKind.free := fun k' h hk => by
    have hm := lookup_mem h
    unfold relabel at hm
    obtain ⟨⟨m, k⟩, hy, e⟩ := List.mem_map.mp hm
    dsimp only at e
    by_cases hcond : (k == NameKind.free && env.scope.kind == .function && env.kindOf m == some .cell) = true
    · rw [if_pos hcond] at e
      injection e with e1 e2
      subst e1
      refine ⟨k, hy, ?_⟩
      simp only [Bool.and_eq_true, beq_iff_eq] at hcond
      exact hcond.1.1
    · rw [if_neg hcond] at e
      injection e with e1 e2
      subst e1 e2
      rcases hk with rfl | rfl
      · exact absurd rfl (hc _ hy)
      · exact ⟨_, hy, rfl⟩
  rcases h with h | h
  · exact key _ h (.inl rfl)
  · exact key _ h (.inr rfl)
section
variable {X : Cx} {elt iter : Expr} {x : Str} {px pos : Pos} {ifs : List Expr} {scope : Scope} {wi : TI} {fr : List (Option Nat)} {ix : Nat} {tif : TT} {te : TE} {N : List Str}
theorem comp_block {pins : List (Addr × Obj)} {σ : St} {H2 : Hp} {s2 : Shared} {Q : VK} {it : Addr} {fp : List Addr} {tn : Nat → Heap → Prop} {J : It} {cl : List (Str × Addr)} {E : Value → Shared → Prop} {RR : Value → Addr → Result → Shared → Prop}
    (S : CompScope scope N x ix) (hcalm : X.calm = true) (hfr : frOk N X.N scope X.env.scope fr 0 = true) (hlen : fr.length = N.length)
    (hif : ∀ cl C s₀ H₀ fp, PIf (cxComp X scope cl N C s₀ H₀ fp) ifs tif) (he : ∀ cl C s₀ H₀ fp, PE (cxComp X scope cl N C s₀ H₀ fp) elt te)
    (I2 : Inv X pins σ H2 s2) (T : Turn X.prog X.w X.K (.Name x px) J fp it tn) (st2 : tn 0 s2.heap) (f2 : ∀ b ∈ fp, FpOk X pins H2 b)
    (c1 : ∀ x c, cl.lookup x = some c → X.env.cells.lookup x = some c) (c2 : ∀ x ∈ scope.names, x.2 = NameKind.free → ∃ c, cl.lookup x.1 = some c)
    (W : ∀ D, H2 D = none → ∃ W : Nat → Nat → List V → Hp → Prop, (∃ m, W 0 m [] (upd H2 D (.lst []))) ∧
      ∀ i m ys H, W i m ys H → H D = some (.lst ys) ∧ ((J.stop i H ∧ Q (.ref D) H) ∨ (J.go i H ∧ ys.length < sizeLine ∧ ∀ x H', J.yld i H x H' →
        tif ((carry fr σ).set ix (some x)) H' fun b H2 => if b = true then te ((carry fr σ).set ix (some x)) H2 fun y H3 => H3 D = some (.lst ys) ∧ ∃ m', m' < m ∧ W (i + 1) m' (ys ++ [y]) (upd H3 D (.lst (ys ++ [y])))
          else ∃ m', m' < m ∧ W (i + 1) m' ys H2)))
    (fin : ∀ (D C : Addr) (s' : Shared) (H' : Hp) m, s'.heap.Ns C m → Q (.ref D) H' → (∀ h', Heap.SameBut C s'.heap h' → Inv X pins σ H' { s' with heap := h' }) → C ≠ D → (∀ b o, s2.heap.get? b = some o → b ≠ C) → H' C = none → s2.heap.objs.size ≤ C → RR (.ref D) C (.ok .next) s') :
    wpAny (model X.prog X.w) X.A (newList []) (fun acc s₃ => wpAny (model X.prog X.w) X.A (newFunctionEnv scope X.env.globals cl [] X.env.qual none .none (some X.env)) (fun cenv s₄ =>
      codeAny (model X.prog X.w) X.A (.compStart (.ListComp elt [⟨.Name x px, iter, ifs, 0⟩] scope pos) 0 (.ref it) acc { cenv with scope := relabel scope X.env }) (RR acc cenv.locals) s₄) E s₃) E s2 := by
  refine wpAny_newObj_type (wpAny_newFunctionEnv S.cell (by intro y hy; simp at hy) (fun h₁ hns₁ hsb₁ => ?_) S.kind)
  dsimp only at hns₁ hsb₁ ⊢
  generalize hHp : s2.heap.push { cls := .type "list", dict := none, data := .seq ([] : List Value).toArray } = Hq at hns₁ hsb₁ ⊢
  have hC : Hq.objs.size = s2.heap.objs.size + 1 := by rw [← hHp, Heap.size_push]
  have hDC : s2.heap.objs.size ≠ Hq.objs.size := by rw [hC]; exact Nat.ne_of_lt (Nat.lt_succ_self _)
  have below : ∀ b, b < s2.heap.objs.size → b ≠ Hq.objs.size ∧ b ≠ s2.heap.objs.size := fun b hb => ⟨by rw [hC]; exact Nat.ne_of_lt (Nat.lt_succ_of_lt hb), Nat.ne_of_lt hb⟩
  have old : ∀ b o, s2.heap.get? b = some o → h₁.get? b = some o := fun b o e => hsb₁.extBut b o (below b (Heap.lt_size e)).1 (Heap.get?_push_of_some _ (hHp ▸ Heap.get?_push_of_some _ e))
  have hacc : h₁.get? s2.heap.objs.size = some { cls := .type "list", data := .seq ([] : List Value).toArray } := hsb₁.extBut _ _ hDC (Heap.get?_push_of_some _ (hHp ▸ Heap.get?_push_size _ rfl))
  have hD2 : H2 s2.heap.objs.size = none := I2.hok.fresh (Nat.le_refl _)
  have hC2 : H2 Hq.objs.size = none := I2.hok.fresh (by rw [hC]; exact Nat.le_succ _)
  have fpo : ∀ b ∈ fp, b < s2.heap.objs.size := fun b hb => by
    obtain ⟨o, e, _⟩ := T.obj _ _ st2 b hb
    exact Heap.lt_size e
  obtain ⟨W, ⟨m0, w0⟩, turn⟩ := W s2.heap.objs.size hD2
  have ok : (cxComp X scope cl N Hq.objs.size s2 H2 fp).Ok := by
    refine ⟨I2.ok.mod, S.kind, I2.ok.glob, I2.ok.blt, by show s2.heap.objs.size ≤ Hq.objs.size; rw [hC]; exact Nat.le_succ _, ?_, ?_, ?_, fun _ => I2.ok.hd hcalm, I2.ok.frames, .inl rfl, ?_, I2.bs, Nat.le_trans I2.ok.bsz I2.sz, ?_, ?_, I2.stack, I2.stkFree⟩
    · exact fun a b c h1 h2 => I2.ok.inj a b c (c1 _ _ h1) (c1 _ _ h2)
    · intro y hy
      obtain ⟨k, hm, rfl⟩ := relabel_kind S.cell hy
      exact c2 _ hm rfl
    · intro y c hf
      cases hf
    · intro b hb
      refine ⟨(below b (fpo b hb)).1, fun y c e => ?_⟩
      obtain ⟨_, _, _, _, f5, _⟩ := f2 b hb
      exact f5 y c (c1 _ _ e)
    · intro b o e hb
      obtain ⟨_, _, _, f4, _, _⟩ := f2 b hb
      rcases f4 with z | z
      · exact I2.ok.noex b o e z
      · exact absurd (Nat.lt_of_lt_of_le (Heap.lt_size e) (Nat.le_trans I2.ok.bsz z)) (Nat.lt_irrefl _)
    · intro b hb hs
      obtain ⟨_, f1, f3, _⟩ := f2 b hb
      rcases List.mem_cons.mp (I2.stkSub b hs) with z | z
      · exact f1 z
      · exact f3 z
  have I4 : Inv (cxComp X scope cl N Hq.objs.size s2 H2 fp) [] (carry fr σ) (upd H2 s2.heap.objs.size (.lst [])) { s2 with heap := h₁, toks := s2.toks + ([] : List (Str × Value)).length } := by
    refine ⟨ok, rfl, I2.bare, Un.laid old (Nat.le_refl _) hD2, ⟨_, hns₁, fun i y v h1 h2 h3 => ?_⟩, fun y c e => ?_, ?_, fun y c e => ?_, fun p hp => (by cases hp), I2.hok.laid old (Nat.le_refl _) ⟨Nat.zero_le _, [], 0, .nil, hacc⟩, ?_⟩
    · obtain ⟨j, e1, e2⟩ := carry_get h2
      obtain ⟨n, n1, n2, n3, n4⟩ := frOk_get hfr e1
      rw [Nat.zero_add] at n1
      have : y = n := by
        have h1' : N[i]? = some y := h1
        rw [h1'] at n1; exact Option.some.inj n1
      subst this
      obtain ⟨m, hn, hl⟩ := I2.loc
      obtain ⟨u, ru, lk⟩ := hl j y v n2 e2 (.inr (.inl n4))
      refine ⟨u, ru, ?_⟩
      obtain ⟨c, hc⟩ := c2 _ (lookup_mem n3) rfl
      rcases lk with ⟨k1, _⟩ | ⟨_, c', hc', hcell⟩
      · have k1' : X.env.scope.names.lookup y = some .local := k1
        rw [n4] at k1'; cases k1'
      · have := c1 _ _ hc
        rw [hc'] at this; cases this
        refine .inr ⟨?_, c, hc, hcell.keeps old⟩
        rcases h3 with z | z | z
        · obtain ⟨k, hm⟩ : ∃ k, (y, k) ∈ scope.names ∧ k = NameKind.local := by
            have hm := lookup_mem z
            have hm' : (y, NameKind.local) ∈ (relabel scope X.env).names := hm
            unfold relabel at hm'
            obtain ⟨⟨m', k⟩, hy, e⟩ := List.mem_map.mp hm'
            dsimp only at e
            by_cases hcond : (k == NameKind.free && X.env.scope.kind == .function && X.env.kindOf m' == some .cell) = true
            · rw [if_pos hcond] at e; injection e with _ e2'; cases e2'
            · rw [if_neg hcond] at e; injection e with e1' e2'; subst e1' e2'; exact ⟨_, hy, rfl⟩
          obtain ⟨hm, rfl⟩ := hm
          have := S.names _ hm rfl
          rw [n3] at this; cases this
        · exact .inl z
        · exact .inr z
    · obtain ⟨v, z⟩ := I2.cell y c (c1 _ _ e)
      exact ⟨v, z.keeps old⟩
    · show upd H2 s2.heap.objs.size _ Hq.objs.size = none
      rw [upd_ne (Ne.symm hDC)]; exact hC2
    · obtain ⟨v, o, ho, _⟩ := I2.cell y c (c1 _ _ e)
      rw [upd_ne (below c (Heap.lt_size ho)).2]
      exact I2.freeC y c (c1 _ _ e)
    · show (carry fr σ).length = N.length
      unfold carry
      rw [List.length_map]; exact hlen
  have fpX : ∀ (p : List (Addr × Obj)) (H' : Hp), (∀ q ∈ p, q.1 ∈ fp → False) → (∀ b ∈ fp, H' b = none) → ∀ b ∈ fp, FpOk (cxComp X scope cl N Hq.objs.size s2 H2 fp) p H' b := fun p H' hp hn b hb => by
    obtain ⟨_, f1, f3, f4, f5, _⟩ := f2 b hb
    refine ⟨hn b hb, (below b (fpo b hb)).1, fun hs => ok.exfs b hb hs, .inl hb, fun y c e => f5 y c (c1 _ _ e), fun q hq e => ?_⟩
    exact hp q hq (e ▸ hb)
  have hxv : (relabel scope X.env).names.lookup x = some .local := lookup_relabel_local S.loc
  have loop : ∀ s₃ : Shared, s₃ = { s2 with heap := h₁, toks := s2.toks + ([] : List (Str × Value)).length } →
      codeAny (model X.prog X.w) X.A (.compLoop (.ListComp elt [⟨.Name x px, iter, ifs, 0⟩] scope pos) 0 (.ref it) (.ref s2.heap.objs.size) (compEnvC scope cl Hq.objs.size X.env)) (RR (.ref s2.heap.objs.size) Hq.objs.size) s₃ := by
    rintro s₃ rfl
    refine codeAny_compLoop_tests (fun n s' => ∃ i ys σ' H', Inv (cxComp X scope cl N Hq.objs.size s2 H2 fp) [] σ' H' s' ∧ (∀ v, σ'.set ix v = (carry fr σ).set ix v) ∧ tn i s'.heap ∧ (∀ b ∈ fp, H' b = none) ∧ W i n ys H') ?_ m0
      ⟨0, [], carry fr σ, _, I4, fun _ => rfl, T.keep _ _ _ st2 fun b _ o e => old b o e, fun b hb => by rw [upd_ne (below b (fpo b hb)).2]; exact (f2 b hb).1, w0⟩
    rintro n s3 ⟨i, ys, σ3, H3, I3, hσ, st3, fr3, w3⟩
    obtain ⟨hD3, way⟩ := turn i n ys H3 w3
    rcases way with ⟨stop, qn⟩ | ⟨go, hsz, step⟩
    · refine wpAny_mono (T.done (cxComp X scope cl N Hq.objs.size s2 H2 fp) rfl rfl rfl hcalm i [] s3 σ3 H3 (fun _ _ => False) I3 (fpX [] H3 (fun _ z => by cases z) fr3) st3 stop) (fun r s4 ⟨hr, I5⟩ => ?_) fun _ _ z => z.elim
      subst hr
      obtain ⟨m, hn, _⟩ := id I5.loc
      refine fin _ _ s4 H3 m hn qn (fun h' hs' => ?_) (Ne.symm hDC) (fun b o e => (below b (Heap.lt_size e)).1) I5.free (by rw [hC]; exact Nat.le_succ _)
      have nC : ∀ b u, H3 b = some u → b ≠ Hq.objs.size := fun b u e z => by
        have := I5.free
        rw [show (cxComp X scope cl N Hq.objs.size s2 H2 fp).env.locals = Hq.objs.size from rfl, ← z, e] at this
        cases this
      have keepU : Un (frs X.stack) fp H2 H3 s2.heap h' := by
        have u := I5.base
        refine ⟨fun b o e n hb hx => ?_, fun b o e n hb hx => ?_, fun b o e n hx => u.free b o e n hx, fun b o e hx => ?_, u.tups, u.frzs, u.tbls⟩
        · exact (hs'.2 b (below b (Heap.lt_size e)).1).trans (u.keep b o e n hb hx)
        · obtain ⟨sl, e1⟩ := u.slot b o e n hb hx
          exact ⟨sl, (hs'.2 b (below b (Heap.lt_size e)).1).trans e1⟩
        · obtain ⟨o', e1⟩ := u.there b o e hx
          exact ⟨o', (hs'.2 b (below b (Heap.lt_size e)).1).trans e1⟩
      have hok' : HOk X.prog X.w H3 h' := fun b u e => (I5.hok b u e).stay (fun c v hc q => (hs'.2 c (by
        rcases hc with rfl | hc
        · exact nC _ _ e
        · exact nC _ _ hc)).trans q) (fun _ q => q) fun _ _ q => q
      refine I2.call' (s' := { s4 with heap := h' }) (ch := fp) I5.os keepU hok' I5.bare fun b hb => ?_
      obtain ⟨_, f1, _, f4, f5, f6⟩ := f2 b hb
      exact ⟨f4, f1, f5, f6⟩
    · refine wpAny_mono (T.item (cxComp X scope cl N Hq.objs.size s2 H2 fp) rfl rfl rfl hcalm i [] s3 σ3 H3 (fun _ _ => False) I3 (fpX [] H3 (fun _ z => by cases z) fr3) st3 go) (fun r s4 ⟨u, hr, h4⟩ => ?_) fun _ _ z => z.elim
      subst hr
      show wpAny (model X.prog X.w) X.A (letOwnedTupleGo (.Name x px) (.ref it) u >>= fun _ => assign (.Name x px) (compEnvC scope cl Hq.objs.size X.env) u) _ _ s4
      refine wpAny_bind (wpAny_mono h4 (fun _ s5 ⟨xv, H5, I5, r5, y5, st5, fr5⟩ => ?_) fun _ _ z => z.elim)
      have I5' := I5.pinned (fpX [] H5 (fun _ z => by cases z) fr5) (T.obj _ _ st5)
      refine wpAny_assign_Name (store_ok I5' S.nd S.at_ (.inl hxv) r5 (fun s6 I6 => ?_) (.inr hxv))
      rw [hσ] at I6
      refine wpAny_mono (hif _ _ _ _ _ _ s6 _ H5 _ I6 (step xv H5 y5)) (fun b s7 ⟨H7, I7, q7⟩ => ?_) fun _ _ z => z.elim
      have again : ∀ {s8 : Shared} {H8 : Hp} {k : Nat} {zs : List V}, Inv (cxComp X scope cl N Hq.objs.size s2 H2 fp) ([] ++ pinsAt fp s5.heap) ((carry fr σ).set ix (some xv)) H8 s8 → W (i + 1) k zs H8 → k < n →
          ∃ m, m < n ∧ ∃ i ys σ' H', Inv (cxComp X scope cl N Hq.objs.size s2 H2 fp) [] σ' H' s8 ∧ (∀ v, σ'.set ix v = (carry fr σ).set ix v) ∧ tn i s8.heap ∧ (∀ b ∈ fp, H' b = none) ∧ W i m ys H' := fun {s8 H8 k zs} I8 w8 hk => by
        refine ⟨k, hk, i + 1, zs, _, H8, I8.unpinned, fun v => by rw [List.set_set], T.keep _ _ _ st5 fun b hb o e => (I8.pin (b, o) (List.mem_append_right _ (List.mem_append_right _ (mem_pinsAt hb e)))).1, fun b hb => ?_, w8⟩
        obtain ⟨o, e, d⟩ := T.obj _ _ st5 b hb
        exact (I8.pin (b, o) (List.mem_append_right _ (List.mem_append_right _ (mem_pinsAt hb e)))).2.1
      cases b with
      | false =>
        rw [if_neg Bool.false_ne_true] at q7 ⊢
        obtain ⟨k, hk, w7⟩ := q7
        exact again I7 w7 hk
      | true =>
        rw [if_pos rfl] at q7 ⊢
        refine wpAny_mono (he _ _ _ _ _ _ s7 _ H7 _ I7 q7) (fun yv s8 ⟨y, H8, I8, r8, hD8, k, hk, w8⟩ => ?_) fun _ _ z => z.elim
        refine wpAny_mono (mt_append (X := cxComp X scope cl N Hq.objs.size s2 H2 fp) _ s8 _ H8 (.ref s2.heap.objs.size) [y] (.ref s2.heap.objs.size) [yv] (fun _ H9 => H9 = upd H8 s2.heap.objs.size (.lst (ys ++ [y]))) I8 rfl (.cons r8 .nil) ⟨_, ys, y, rfl, rfl, hD8, hsz, rfl⟩) (fun _ s9 ⟨_, H9, I9, _, e9⟩ => ?_) fun _ _ z => z.elim
        subst e9
        exact again I9 w8 hk
  exact codeAny_compStart_list (loop _ rfl) (T.self X.A 0 _ _ _ (T.keep _ _ _ st2 fun b _ o e => old b o e) (loop _ rfl))
theorem pe_comp (S : CompScope scope N x ix) (hcalm : X.calm = true) (hfr : frOk N X.N scope X.env.scope fr 0 = true) (hlen : fr.length = N.length) (hfree : ∀ y ∈ scope.names, y.2 = .free → X.env.scope.names.lookup y.1 = some .cell ∨ X.env.scope.names.lookup y.1 = some .free)
    (hi : PI X (.Name x px) iter wi) (hif : ∀ cl C s₀ H₀ fp, PIf (cxComp X scope cl N C s₀ H₀ fp) ifs tif) (he : ∀ cl C s₀ H₀ fp, PE (cxComp X scope cl N C s₀ H₀ fp) elt te)
    (hs : ∀ x, foldedSetIterable iter X.env x = pure x := by intro _; rfl) : PE X (.ListComp elt [⟨.Name x px, iter, ifs, 0⟩] scope pos) (tComp wi fr ix tif te) := by
  intro pins s σ H Q I hw
  obtain ⟨cl, hclos, c1, _, c2⟩ := closure_of (env := X.env) scope.names [] (fun y hy hf => I.ok.has y.1 (hfree y hy hf)) (fun y c z => by cases z)
  have hclos' : closureFor scope X.env = pure cl := by
    have e : closureFor scope X.env = ((forIn scope.names [] (fun (x : Str × NameKind) (r : List (Str × Addr)) => do if (x.2 == NameKind.free) = true then do let a ← cellOf X.env x.1; pure (ForInStep.yield ((x.1, a) :: r)) else pure (ForInStep.yield r)) : Sem (List (Str × Addr))) >>= fun cs => pure cs) := rfl
    rw [e, hclos]
    rfl
  rw [eval_ListComp]
  refine wpAny_comprehension_free (use := none) rfl hs hclos' S.kind S.names (thn (hi pins s σ H _ I hw) fun v s1 h1 => thn h1 fun itv s2 h2 => ?_)
  obtain ⟨it, fp, tn, J, H2, e, I2, T, st2, f2, W⟩ := h2
  subst e
  refine comp_block (RR := fun acc C => compPost (model X.prog X.w) X.A X.xe none (EP X pins σ Q) acc C) S hcalm hfr hlen hif he I2 T st2 f2 c1 c2 W ?_
  intro D C s' H' m hn q hI _ _ _ _
  exact ⟨m, hn, fun h' hs' => ⟨.ref D, H', hI h' hs', rfl, q⟩⟩
end
end L2
set_option Elab.async false
set_option linter.all false
set_option maxRecDepth 100000
set_option maxHeartbeats 4000000
namespace L2
open PySem PySem.Spec PyProof.Rows
section
variable {P : Program} {w : World} {K : PySem.W.Frag} {mg : Str → Option Value} {base : Heap} {N : List Str} {qual : Str} {scope : Scope} {f : Addr} {cd : Value} {A : Around} {outer : List Env} {s : Shared} {H : Hp} {E : XK}
end
section
variable {X : Cx} {x : Str} {C : Addr} {np cpos pos : Pos} {e : Expr} {te : TE} {E : XK}
end
end L2
set_option Elab.async false
set_option linter.all false
set_option maxRecDepth 100000
set_option maxHeartbeats 4000000
namespace L2
open PySem PySem.Spec PyProof.Rows
section
variable {X : Cx} {k : Nat} {f : Addr} {fd : FuncData} {ps : List Str} {sp : Sp} {x : Str} {st : Stmt} {p pos : Pos} {e : Expr} {es : List Expr} {t : TA}
end
end L2
set_option Elab.async false
set_option linter.all false
set_option maxRecDepth 100000
set_option maxHeartbeats 4000000
namespace L2
open PySem PySem.Spec PyProof.Rows
section
variable {X : Cx} {e : Expr} {t : TX} {x y z n : Str} {G : Addr} {py pz pn np spos tpos hpos pos : Pos} {i j k : Nat}
end
end L2
set_option Elab.async false
set_option linter.all false
set_option maxRecDepth 100000
set_option maxHeartbeats 4000000
namespace L2
open PySem PySem.Spec PyProof.Rows PySem.Builtin.ObjectAttr PySem.Builtin.Getset_descriptor
section
variable {prog : Program} {w : World} {A : Around} {E : Value → Shared → Prop} {K : PySem.W.Frag} {x C : Addr} {h : Heap} {g : Array GenState} {d : Drawn} {t : Nat} {os : OsState}
end
def clsV : V → Value
  | .ref C => .ref C
  | .ty n => .type n
  | _ => .none
theorem clsV_of {c : V} {u : Value} (r : RelV c u) (h : clsV c ≠ .none) : u = clsV c := by
  cases c with
  | ref C => exact r
  | ty n => exact r
  | _ => exact absurd rfl h
section
variable {X : Cx}
def rIsi (K : PySem.W.Frag) : List V → Hp → VK → Prop := fun xs H Q => ∃ x c t b, xs = [x, c] ∧ clsV c ≠ .none ∧ TyOf K H x t ∧ PySem.W.kitOne K t (clsV c) = some b ∧ Q (.bl b) H
theorem call_isi : CallR X (.builtin "isinstance") (rIsi X.K) := by
  intro pins s σ H xs us Q I r h
  obtain ⟨x, c, t, b, rfl, hc, ty, e, q⟩ := h
  obtain ⟨u, v, rfl, r1, r2⟩ := r.two
  rw [clsV_of r2 hc]
  exact isinst_ok I r1 ty e fun tk => ⟨.bl b, H, I.tok tk, rfl, q⟩
end
theorem kit_tt (K : PySem.W.Frag) : PySem.W.kitOne K (.type "tuple") (.type "tuple") = some true := rfl
theorem kit_ii (K : PySem.W.Frag) : PySem.W.kitOne K (.type "int") (.type "int") = some true := rfl
theorem kit_bb (K : PySem.W.Frag) : PySem.W.kitOne K (.type "bool") (.type "bool") = some true := rfl
theorem kit_ib (K : PySem.W.Frag) : PySem.W.kitOne K (.type "int") (.type "bool") = some false := by kernel_rfl
theorem kit_bi (K : PySem.W.Frag) : PySem.W.kitOne K (.type "bool") (.type "int") = some true := by kernel_rfl
theorem kit_lt (K : PySem.W.Frag) : PySem.W.kitOne K (.type "list") (.type "tuple") = some false := by kernel_rfl
theorem kit_tl (K : PySem.W.Frag) : PySem.W.kitOne K (.type "tuple") (.type "list") = some false := by kernel_rfl
theorem kit_ll (K : PySem.W.Frag) : PySem.W.kitOne K (.type "list") (.type "list") = some true := rfl
theorem kit_it (K : PySem.W.Frag) : PySem.W.kitOne K (.type "int") (.type "tuple") = some false := by kernel_rfl
theorem kit_bt (K : PySem.W.Frag) : PySem.W.kitOne K (.type "bool") (.type "tuple") = some false := by kernel_rfl
theorem kit_nt (K : PySem.W.Frag) : PySem.W.kitOne K (.type "NoneType") (.type "tuple") = some false := by kernel_rfl
theorem kit_st (K : PySem.W.Frag) : PySem.W.kitOne K (.type "str") (.type "tuple") = some false := by kernel_rfl
theorem kit_ti (K : PySem.W.Frag) : PySem.W.kitOne K (.type "tuple") (.type "int") = some false := by kernel_rfl
theorem kit_li (K : PySem.W.Frag) : PySem.W.kitOne K (.type "list") (.type "int") = some false := by kernel_rfl
theorem kit_ni (K : PySem.W.Frag) : PySem.W.kitOne K (.type "NoneType") (.type "int") = some false := by kernel_rfl
theorem kit_si (K : PySem.W.Frag) : PySem.W.kitOne K (.type "str") (.type "int") = some false := by kernel_rfl
theorem kit_il (K : PySem.W.Frag) : PySem.W.kitOne K (.type "int") (.type "list") = some false := by kernel_rfl
theorem kit_bl (K : PySem.W.Frag) : PySem.W.kitOne K (.type "bool") (.type "list") = some false := by kernel_rfl
theorem kit_nl (K : PySem.W.Frag) : PySem.W.kitOne K (.type "NoneType") (.type "list") = some false := by kernel_rfl
theorem kit_sl (K : PySem.W.Frag) : PySem.W.kitOne K (.type "str") (.type "list") = some false := by kernel_rfl
def freeOk (xsc : Scope) (names : List (Str × NameKind)) : Bool := names.all fun y => y.2 != .free || xsc.names.lookup y.1 == some .cell || xsc.names.lookup y.1 == some .free
theorem freeOk_of {xsc : Scope} {names : List (Str × NameKind)} (h : freeOk xsc names = true) : ∀ y ∈ names, y.2 = .free → xsc.names.lookup y.1 = some .cell ∨ xsc.names.lookup y.1 = some .free := fun y hy hf => by
  have q := List.all_eq_true.mp h y hy
  rw [hf] at q
  simp only [bne_self_eq_false, Bool.false_or, Bool.or_eq_true, beq_iff_eq] at q
  exact q
def compScopeOk (scope : Scope) (N : List Str) (x : Str) (ix : Nat) : Bool :=
  scope.kind == .function && (scope.names.all fun y => y.2 != .cell && (y.2 != .local || scope.names.lookup y.1 == some .local) && (y.2 != .free || scope.names.lookup y.1 == some .free)) && scope.names.lookup x == some .local && decide N.Nodup && N[ix]? == some x
theorem compScope_of {scope : Scope} {N : List Str} {x : Str} {ix : Nat} (h : compScopeOk scope N x ix = true) : CompScope scope N x ix := by
  unfold compScopeOk at h
  simp only [Bool.and_eq_true, beq_iff_eq, decide_eq_true_eq, List.all_eq_true, bne_iff_ne, Bool.or_eq_true] at h
  obtain ⟨⟨⟨⟨h1, h2⟩, h3⟩, h4⟩, h5⟩ := h
  exact ⟨h1, fun y hy => (h2 y hy).1.1, fun y hy hl => (h2 y hy).1.2.resolve_left fun z => z hl, fun y hy hl => (h2 y hy).2.resolve_left fun z => z hl, h3, h4, h5⟩
section
variable {X : Cx} {elt iter : Expr} {x : Str} {px pos : Pos} {ifs : List Expr} {scope : Scope} {wi : TI} {tif : TT} {te : TE}
theorem pe_compr (N : List Str) (ix : Nat) (fr : List (Option Nat)) (hi : PI X (.Name x px) iter wi) (hif : ∀ cl C s₀ H₀ fp, PIf (cxComp X scope cl N C s₀ H₀ fp) ifs tif) (he : ∀ cl C s₀ H₀ fp, PE (cxComp X scope cl N C s₀ H₀ fp) elt te)
    (h1 : compScopeOk scope N x ix = true := by decide +kernel) (h2 : X.calm = true := by rfl) (h3 : frOk N X.N scope X.env.scope fr 0 = true := by rfl) (h4 : fr.length = N.length := by rfl) (h5 : freeOk X.env.scope scope.names = true := by rfl)
    (hs : ∀ x, foldedSetIterable iter X.env x = pure x := by intro _; rfl) : PE X (.ListComp elt [⟨.Name x px, iter, ifs, 0⟩] scope pos) (tComp wi fr ix tif te) :=
  pe_comp (compScope_of h1) h2 h3 h4 (freeOk_of h5) hi hif he hs
end
end L2
set_option Elab.async false
set_option linter.all false
set_option maxRecDepth 100000
set_option maxHeartbeats 4000000
namespace L2
open PySem PySem.Spec PyProof.Rows
section
variable {X : Cx} {k : Nat} {f : Addr} {fd : FuncData} {ps : List Str} {sp : Sp} {x : Str} {st : Stmt} {p pos : Pos} {e : Expr} {es : List Expr} {t : TA} {E : XK}
end
end L2
set_option Elab.async false
namespace Tr
end Tr
set_option Elab.async false
set_option linter.all false
set_option maxRecDepth 100000
set_option maxHeartbeats 4000000
namespace SM
open PySem.W PyProof.Rows
section
variable {O : KeyOrd} {key : Nat → O.α} {n : Nat}
end
end SM
set_option Elab.async false
set_option linter.all false
set_option maxRecDepth 100000
set_option maxHeartbeats 4000000
namespace TH
open PySem PyProof.Rows PySem.SeqAt
section
open PySem.AutoSeq1 (wpAny_loadPart')
open PySem.MeetsSeq PySem.MeetsSeq2 PySem.MeetsSeq3
end
section
open PySem.AutoSeq1 (wpAny_loadPart')
open PySem.MeetsSeq PySem.MeetsSeq2 PySem.MeetsSeq3
end
end TH
set_option Elab.async false
set_option linter.all false
set_option maxRecDepth 100000
set_option maxHeartbeats 4000000
namespace Tr
end Tr
namespace TH
open PySem PySem.W PyProof.Rows PySem.SeqAt
section
variable {prog : Program} {w : World} {A : Around} {E : Value → Shared → Prop} {s : Shared} {t u : Tr} {a b : Addr} {its its' : List Value} {Q : Bool → Shared → Prop}
end
end TH
set_option Elab.async false
set_option linter.all false
set_option maxRecDepth 100000
set_option maxHeartbeats 4000000
namespace TH
open PySem PySem.W PyProof.Rows PySem.SeqAt
section
variable {prog : Program} {w : World} {A : Around} {E : Value → Shared → Prop} {s : Shared}
end
end TH
set_option Elab.async false
set_option linter.all false
set_option maxRecDepth 100000
set_option maxHeartbeats 4000000
namespace TH
open PySem PySem.W PyProof.Rows PySem.SeqAt
section
variable {prog : Program} {w : World} {A : Around} {E : Value → Shared → Prop} {s : Shared}
end
end TH
set_option Elab.async false
set_option linter.all false
set_option maxRecDepth 100000
namespace ET
open PySem
section
variable {prog : Program} {w : World} {A : Around} {E : Value → Shared → Prop} {s : Shared}
theorem next_item {it t : Addr} {i : Nat} {items} {x : Value} {Q : Value → Shared → Prop} (hit : s.heap.IsTupleIter it t i) (ht : s.heap.IsTuple t items) (hx : items[i]? = some x)
    (hQ : ∀ h', h'.IsTupleIter it t (i + 1) → Heap.SameBut it s.heap h' → Q x { s with heap := h' }) : wpAny (model prog w) A (Builtin.SmallTypes.nextOf (.ref it)) Q E s := by
  obtain ⟨o, ho, hc, hd⟩ := id hit
  obtain ⟨ol, hol, _, nl, hdl⟩ := ht
  unfold Builtin.SmallTypes.nextOf
  refine wpAny_bind (wpAny_callSpecial?_slot (name := Str.ofString "__next__") hit.typeIs F.slot_tuple_iterator_next
    (wpAny_call_entry F.slot_tuple_iterator_next hit.typeIs F.entry_tuple_iterator_next ?_ (F.args_tuple_iterator_next_1 _)))
  show wpAny _ _ (field (.ref it) 0 >>= _) _ _ s
  refine wpAny_bind (wpAny_field ho hd (x := .ref t) rfl ?_)
  show wpAny _ _ (if (Value.ref t == Value.none) = true then _ else _) _ _ s
  rw [if_neg (show ¬ ((Value.ref t == Value.none) = true) from Bool.false_ne_true)]
  show wpAny _ _ (field (.ref it) 1 >>= _) _ _ s
  refine wpAny_bind (wpAny_field ho hd (x := .int i 0) rfl ?_)
  show wpAny _ _ (seqItems? (.ref t) >>= _) _ _ s
  refine wpAny_bind (wpAny_seqItems hol hdl ?_)
  simp only [Int.toNat_natCast, hx]
  refine wpAny_bind (wpAny_setField ho hd (by simp) (wpAny_pure ⟨x, rfl, wpAny_pure (hQ _ ?_ (Heap.SameBut.update ..))⟩))
  exact ⟨_, Heap.get?_update_self _ ho (Obj.isFreed_of_fields (Obj.data_mapFields hd _)), (Obj.cls_mapFields ..).trans hc, by
    rw [Obj.data_mapFields hd]; simp [rawInt]⟩
theorem next_end {it t : Addr} {i : Nat} {items} {Q : Value → Shared → Prop} (hh : A.handled = none) (hit : s.heap.IsTupleIter it t i) (ht : s.heap.IsTuple t items) (hx : items[i]? = none)
    (hE : ∀ h' e, Heap.ExtBut it s.heap h' → (∃ o, h'.get? e = some o ∧ o.cls = .type "StopIteration") → E (.ref e) { s with heap := h' }) : wpAny (model prog w) A (Builtin.SmallTypes.nextOf (.ref it)) Q E s := by
  obtain ⟨o, ho, hc, hd⟩ := id hit
  obtain ⟨ol, hol, _, nl, hdl⟩ := ht
  unfold Builtin.SmallTypes.nextOf
  refine wpAny_bind (wpAny_callSpecial?_slot (name := Str.ofString "__next__") hit.typeIs F.slot_tuple_iterator_next
    (wpAny_call_entry F.slot_tuple_iterator_next hit.typeIs F.entry_tuple_iterator_next ?_ (F.args_tuple_iterator_next_1 _)))
  show wpAny _ _ (field (.ref it) 0 >>= _) _ _ s
  refine wpAny_bind (wpAny_field ho hd (x := .ref t) rfl ?_)
  show wpAny _ _ (if (Value.ref t == Value.none) = true then _ else _) _ _ s
  rw [if_neg (show ¬ ((Value.ref t == Value.none) = true) from Bool.false_ne_true)]
  show wpAny _ _ (field (.ref it) 1 >>= _) _ _ s
  refine wpAny_bind (wpAny_field ho hd (x := .int i 0) rfl ?_)
  show wpAny _ _ (seqItems? (.ref t) >>= _) _ _ s
  refine wpAny_bind (wpAny_seqItems hol hdl ?_)
  simp only [Int.toNat_natCast, hx]
  refine wpAny_bind (wpAny_rule (wpAny_bind (wpAny_setField ho hd (by simp) ?_)))
  show wpAny _ _ (newExc (.type "StopIteration") [] >>= _) _ _ _
  refine wpAny_bind ?_
  simp only [newExc, newTuple]
  refine wpAny_bind (wpAny_newObj_type ?_ (by size_fits))
  refine wpAny_bind (m := firstArgMember _ _) (wpAny_of_eq (a := Value.none) (by first | rfl | (simp only [firstArgMember]; rfl)) ?_)
  refine wpAny_newObj_type ?_ (by size_fits)
  simp only [raiseNew]
  refine wpAny_bind (wpAny_handled ?_)
  first | rw [show A.in1.handled = none from hh] | rw [hh]
  refine wpAny_bind (wpAny_pure (wpAny_throw ?_))
  exact hE _ _ (((Heap.SameBut.update ..).extBut.push _).push _) ⟨_, Heap.get?_push_size _ rfl, rfl⟩
end
section
open AutoSeq1 (wpAny_loadPart')
end
theorem draws {prog : Program} {w : World} {A : Around} (hh : A.handled = none) (it a : Addr) (its : List Value) (hne : a ≠ it) :
    Draws prog w A it [it, a] its.length (fun i x => its[i]? = some x) (fun i h => h.IsTupleIter it a i ∧ h.IsTuple a its.toArray) where
  live := fun i h st => let ⟨o, e, _⟩ := st.1; ⟨o, e⟩
  frame := fun i h h' st k => by
    obtain ⟨⟨o, e, r⟩, o2, e2, r2⟩ := st
    exact ⟨⟨o, k it (by simp) o e, r⟩, o2, k a (by simp) o2 e2, r2⟩
  item := fun i s Q E hi st hQ => next_item st.1 st.2 (x := its[i]) (by simp [hi]) fun h' st' sb =>
    hQ _ h' s.toks (by simp [hi]) ⟨st', let ⟨o, e, r⟩ := st.2; ⟨o, (sb.2 a hne).trans e, r⟩⟩ sb
  done := fun s Q E st hE => next_end hh st.1 st.2 (by simp) hE
end ET
set_option Elab.async false
set_option linter.all false
set_option maxRecDepth 100000
set_option maxHeartbeats 4000000
namespace L2
open PySem PySem.Spec PyProof.Rows
section
variable {X : Cx} {pins : List (Addr × Obj)} {σ : St} {H : Hp} {s : Shared}
end
end L2
set_option Elab.async false
set_option linter.all false
set_option maxRecDepth 100000
set_option maxHeartbeats 4000000
namespace L2
open PySem PySem.Spec PyProof.Rows
section
variable {X : Cx}
end
end L2
set_option Elab.async false
set_option linter.all false
set_option maxRecDepth 100000
set_option maxHeartbeats 4000000
namespace L2
open PySem PySem.Spec PyProof.Rows
def CW (Pv : Nat → List V → Hp → Prop) (n : Nat) (D : Addr) : Nat → Nat → List V → Hp → Prop := fun i m ys H => m = n - i ∧ i ≤ n ∧ H D = some (.lst ys) ∧ Pv i ys H
theorem cw_next {Pv : Nat → List V → Hp → Prop} {n i : Nat} {D : Addr} {ys : List V} {y : V} {H : Hp} (hi : i < n) (p : Pv (i + 1) (ys ++ [y]) (upd H D (.lst (ys ++ [y])))) : ∃ m', m' < n - i ∧ CW Pv n D (i + 1) m' (ys ++ [y]) (upd H D (.lst (ys ++ [y]))) :=
  ⟨n - (i + 1), by omega, rfl, hi, upd_same, p⟩
theorem cw_skip {Pv : Nat → List V → Hp → Prop} {n i : Nat} {D : Addr} {ys : List V} {H : Hp} (hi : i < n) (hD : H D = some (.lst ys)) (p : Pv (i + 1) ys H) : ∃ m', m' < n - i ∧ CW Pv n D (i + 1) m' ys H := ⟨n - (i + 1), by omega, rfl, hi, hD, p⟩
theorem comp_by {J : It} {n : Nat} {D : Addr} {H1 : Hp} {fr : List (Option Nat)} {σ : St} {ix : Nat} {tif : TT} {te : TE} {G : Hp → Prop} (Pv : Nat → List V → Hp → Prop) (h0 : Pv 0 [] (upd H1 D (.lst [])))
    (hgo : ∀ i ys H, i < n → Pv i ys H → H D = some (.lst ys) → J.go i H ∧ ys.length < sizeLine ∧ ∀ x H', J.yld i H x H' →
      tif ((carry fr σ).set ix (some x)) H' fun b H2 => if b = true then te ((carry fr σ).set ix (some x)) H2 fun y H3 => H3 D = some (.lst ys) ∧ ∃ m', m' < n - i ∧ CW Pv n D (i + 1) m' (ys ++ [y]) (upd H3 D (.lst (ys ++ [y])))
        else ∃ m', m' < n - i ∧ CW Pv n D (i + 1) m' ys H2)
    (hstop : ∀ ys H, Pv n ys H → H D = some (.lst ys) → J.stop n H ∧ G H) :
    ∃ W : Nat → Nat → List V → Hp → Prop, (∃ m, W 0 m [] (upd H1 D (.lst []))) ∧
      ∀ i m ys H, W i m ys H → H D = some (.lst ys) ∧ ((J.stop i H ∧ G H) ∨ (J.go i H ∧ ys.length < sizeLine ∧ ∀ x H', J.yld i H x H' →
        tif ((carry fr σ).set ix (some x)) H' fun b H2 => if b = true then te ((carry fr σ).set ix (some x)) H2 fun y H3 => H3 D = some (.lst ys) ∧ ∃ m', m' < m ∧ W (i + 1) m' (ys ++ [y]) (upd H3 D (.lst (ys ++ [y])))
          else ∃ m', m' < m ∧ W (i + 1) m' ys H2)) := by
  refine ⟨CW Pv n D, ⟨n, by simp, Nat.zero_le _, upd_same, h0⟩, ?_⟩
  rintro i m ys H ⟨rfl, hi, hH, p⟩
  refine ⟨hH, ?_⟩
  by_cases hlt : i < n
  · exact .inr (hgo i ys H hlt p hH)
  · have e : i = n := by omega
    subst e
    exact .inl (hstop ys H p hH)
section
variable {X : Cx}
theorem call_all (hc : X.calm = true) : CallR X (.builtin "all") (fun xs H Q => ∃ (p : Addr) (bs : List Bool), xs = [.ref p] ∧ SqL X.K H p (bs.map V.bl) ∧ Q (.bl (bs.all id)) H) := by
  intro pins s σ H xs us Q I r h
  obtain ⟨p, bs, rfl, hq, q⟩ := h
  obtain ⟨u, rfl, r1⟩ := r.one
  cases r1
  obtain ⟨its, rv, pl, hz⟩ := I.list hq
  have hl : s.heap.IsList p its.toArray := pl.isList
  have hlt : p < s.heap.objs.size := by obtain ⟨_, e, _⟩ := hl; exact Heap.lt_size e
  have hlen : its.length = bs.length := by rw [← rv.length, List.length_map]
  refine call_all_walk (wpAny_pyIter_list hl ?_)
  refine ⟨s.heap.objs.size, [s.heap.objs.size, p], [s.heap.objs.size], its.toArray.size, _, _, fun i => (bs[i]?).getD true, rfl, Walks.list (A := X.A.in1) (I.ok.hd hc) _ p (Nat.ne_of_lt hlt) its.toArray,
    ⟨⟨_, Heap.get?_push_size _ rfl, rfl, rfl⟩, hl.push _⟩, fun i v s' Q' E' hP hQ => ?_, fun h' tk hk => ?_⟩
  · have hv : its[i]? = some v := by simpa using hP
    have hi : i < bs.length := by rw [← hlen]; exact (List.getElem?_eq_some_iff.mp hv).1
    obtain ⟨u, h1, h2⟩ := rv.get (i := i) (x := .bl bs[i]) (by rw [List.getElem?_map, List.getElem?_eq_getElem hi]; rfl)
    rw [hv] at h1
    cases h1
    cases h2
    simp only [List.getElem?_eq_getElem hi, Option.getD_some] at hQ
    exact wpAny_truthy_bool hQ
  · have e : ((List.range its.toArray.size).all fun i => (bs[i]?).getD true) = bs.all id := by
      rw [List.size_toArray, hlen]; exact PyProof.Rows.LSm.range_all bs
    rw [e]
    exact ⟨.bl _, H, I.kept (t' := tk) (PyProof.Rows.LSm.kept_iter hk), rfl, q⟩
theorem call_sum (hc : X.calm = true) : CallR X (.builtin "sum") (fun xs H Q => ∃ (p : Addr) (ns : List Int), xs = [.ref p] ∧ SqL X.K H p (ns.map V.int) ∧ Q (.int ns.sum) H) := by
  intro pins s σ H xs us Q I r h
  obtain ⟨p, ns, rfl, hq, q⟩ := h
  obtain ⟨u, rfl, r1⟩ := r.one
  cases r1
  obtain ⟨its, rv, pl, hz⟩ := I.list hq
  have hi := intsAre_of rv
  obtain ⟨xs, hx⟩ := hi.allInts.items
  have hl' : s.heap.IsList p (intItems xs) := hx ▸ pl.isList
  refine sum_intListG (I.ok.hd hc) hl' fun h' tk t' hk => ?_
  have e1 : ns = xs.toList.map (·.1) := by
    rw [← nums_intItems, ← hx]
    exact (show numsOf its.toArray.toList = ns from hi.numsOf).symm
  have e2 : preSum (numAt xs) xs.size = ns.sum := by
    rw [preSum_eq, List.take_of_length_le (by simp), e1]
  rw [e2]
  exact ⟨.int _, H, I.kept (t' := tk) hk, ⟨t', rfl⟩, q⟩
end
end L2
set_option Elab.async false
set_option linter.all false
set_option maxRecDepth 100000
set_option maxHeartbeats 4000000
namespace L2
open PySem PySem.Spec PyProof.Rows
section
variable {X : Cx} {scope : Scope} {cl : List (Str × Addr)} {N : List Str} {C : Addr} {s₀ : Shared} {H₀ : Hp} {fp : List Addr}
theorem ix_listC : IxR (cxComp X scope cl N C s₀ H₀ fp) (rIxL X.K) := ix_list
theorem ix_tupC : IxR (cxComp X scope cl N C s₀ H₀ fp) (rIxT X.K) := ix_tup
theorem call_len_seqC : CallR (cxComp X scope cl N C s₀ H₀ fp) (.builtin "len") (fun xs H Q => ∃ p ys, xs = [.ref p] ∧ (SqL X.K H p ys ∨ SqT X.K H p ys) ∧ Q (.int ys.length) H) := call_len_seq
theorem call_isiC : CallR (cxComp X scope cl N C s₀ H₀ fp) (.builtin "isinstance") (rIsi X.K) := call_isi
end
end L2
set_option Elab.async false
set_option linter.all false
set_option maxRecDepth 100000
set_option maxHeartbeats 4000000
namespace L2
open PySem PySem.Spec PyProof.Rows
mutual
def Dt (l : Addr) (H : Hp) : PyData → V → Prop
  | .none, v => v = .non
  | .bool b, v => v = .bl b
  | .int i, v => v = .int i
  | .str x, v => v = .str x
  | .tuple ds, v => ∃ (a : Addr) (xs : List V), v = .ref a ∧ a ≠ l ∧ H a = some (.tup xs) ∧ DtAll l H ds xs
  | .list ds, v => ∃ (a : Addr) (xs : List V), v = .ref a ∧ a ≠ l ∧ H a = some (.lst xs) ∧ DtAll l H ds xs
  | .dict _, _ => False
def DtAll (l : Addr) (H : Hp) : List PyData → List V → Prop
  | [], xs => xs = []
  | d :: ds, xs => ∃ x r, xs = x :: r ∧ Dt l H d x ∧ DtAll l H ds r
end
mutual
theorem Dt.but {l : Addr} {H H' : Hp} (e : SameBut l H H') : ∀ {d : PyData} {v : V}, Dt l H d v → Dt l H' d v
  | .none, _, h => by rw [Dt] at h ⊢; exact h
  | .bool _, _, h => by rw [Dt] at h ⊢; exact h
  | .int _, _, h => by rw [Dt] at h ⊢; exact h
  | .str _, _, h => by rw [Dt] at h ⊢; exact h
  | .tuple _, _, h => by
    rw [Dt] at h ⊢
    obtain ⟨a, xs, e1, n, h1, h2⟩ := h
    exact ⟨a, xs, e1, n, e _ _ n h1, DtAll.but e h2⟩
  | .list _, _, h => by
    rw [Dt] at h ⊢
    obtain ⟨a, xs, e1, n, h1, h2⟩ := h
    exact ⟨a, xs, e1, n, e _ _ n h1, DtAll.but e h2⟩
  | .dict _, _, h => by rw [Dt] at h; exact h.elim
theorem DtAll.but {l : Addr} {H H' : Hp} (e : SameBut l H H') : ∀ {ds : List PyData} {xs : List V}, DtAll l H ds xs → DtAll l H' ds xs
  | [], _, h => by rw [DtAll] at h ⊢; exact h
  | _ :: _, _, h => by
    rw [DtAll] at h ⊢
    obtain ⟨x, r, e1, h1, h2⟩ := h
    exact ⟨x, r, e1, Dt.but e h1, DtAll.but e h2⟩
end
theorem Dt.same {l : Addr} {H H' : Hp} {d : PyData} {v : V} (h : Dt l H d v) (e : Same H H') : Dt l H' d v := Dt.but (.of e) h
theorem DtAll.same {l : Addr} {H H' : Hp} {d : List PyData} {v : List V} (h : DtAll l H d v) (e : Same H H') : DtAll l H' d v := DtAll.but (.of e) h
mutual
theorem Dt.br {K : PySem.W.Frag} {l : Addr} {H : Hp} : ∀ {d : PyData} {v : V}, Dt l H d v → Br K H d v
  | .none, _, h => by rw [Dt] at h; rw [Br]; exact h
  | .bool _, _, h => by rw [Dt] at h; rw [Br]; exact h
  | .int _, _, h => by rw [Dt] at h; rw [Br]; exact h
  | .str _, _, h => by rw [Dt] at h; rw [Br]; exact h
  | .tuple _, _, h => by
    rw [Dt] at h; rw [Br]
    obtain ⟨a, xs, e1, n, h1, h2⟩ := h
    exact ⟨a, xs, e1, SqT.of h1, DtAll.br h2⟩
  | .list _, _, h => by
    rw [Dt] at h; rw [Br]
    obtain ⟨a, xs, e1, n, h1, h2⟩ := h
    exact ⟨a, xs, e1, SqL.of h1, DtAll.br h2⟩
  | .dict _, _, h => by rw [Dt] at h; exact h.elim
theorem DtAll.br {K : PySem.W.Frag} {l : Addr} {H : Hp} : ∀ {ds : List PyData} {xs : List V}, DtAll l H ds xs → BrAll K H ds xs
  | [], _, h => by rw [DtAll] at h; rw [BrAll]; exact h
  | _ :: _, _, h => by
    rw [DtAll] at h; rw [BrAll]
    obtain ⟨x, r, e1, h1, h2⟩ := h
    exact ⟨x, r, e1, Dt.br h1, DtAll.br h2⟩
end
theorem DtAll.len {l : Addr} {H : Hp} : ∀ {ds : List PyData} {xs : List V}, DtAll l H ds xs → xs.length = ds.length
  | [], _, h => by rw [DtAll] at h; rw [h]; rfl
  | _ :: _, _, h => by
    rw [DtAll] at h
    obtain ⟨x, r, rfl, _, h2⟩ := h
    rw [List.length_cons, List.length_cons, DtAll.len h2]
theorem DtAll.get {l : Addr} {H : Hp} : ∀ {ds : List PyData} {xs : List V} {i : Nat} {v : V}, DtAll l H ds xs → xs[i]? = some v → ∃ d, ds[i]? = some d ∧ Dt l H d v
  | [], _, i, v, h, e => by rw [DtAll] at h; subst h; simp at e
  | d :: ds, _, i, v, h, e => by
    rw [DtAll] at h
    obtain ⟨x, r, rfl, h1, h2⟩ := h
    cases i with
    | zero => simp at e; subst e; exact ⟨d, rfl, h1⟩
    | succ i =>
      obtain ⟨c, q1, q2⟩ := h2.get (i := i) (v := v) (by simpa using e)
      exact ⟨c, by simpa using q1, q2⟩
theorem DtAll.nil {l : Addr} {H : Hp} : DtAll l H [] [] := by rw [DtAll]
theorem DtAll.cons {l : Addr} {H : Hp} {d : PyData} {ds : List PyData} {x : V} {xs : List V} (h : Dt l H d x) (k : DtAll l H ds xs) : DtAll l H (d :: ds) (x :: xs) := by
  rw [DtAll]; exact ⟨x, xs, rfl, h, k⟩
theorem DtAll.app {l : Addr} {H : Hp} : ∀ {ds es : List PyData} {xs ys : List V}, DtAll l H ds xs → DtAll l H es ys → DtAll l H (ds ++ es) (xs ++ ys)
  | [], _, _, _, h, k => by rw [DtAll] at h; subst h; exact k
  | d :: ds, es, _, ys, h, k => by
    rw [DtAll] at h
    obtain ⟨x, r, rfl, h1, h2⟩ := h
    exact .cons h1 (h2.app k)
theorem Dt.int {l : Addr} {H : Hp} {i : Int} : Dt l H (.int i) (.int i) := by rw [Dt]
theorem Dt.bool {l : Addr} {H : Hp} {b : Bool} : Dt l H (.bool b) (.bl b) := by rw [Dt]
theorem Dt.non {l : Addr} {H : Hp} : Dt l H .none .non := by rw [Dt]
theorem Dt.str {l : Addr} {H : Hp} {x : Str} : Dt l H (.str x) (.str x) := by rw [Dt]
theorem Dt.tup {l a : Addr} {H : Hp} {ds : List PyData} {xs : List V} (n : a ≠ l) (h : H a = some (.tup xs)) (k : DtAll l H ds xs) : Dt l H (.tuple ds) (.ref a) := by rw [Dt]; exact ⟨a, xs, rfl, n, h, k⟩
theorem Dt.lst {l a : Addr} {H : Hp} {ds : List PyData} {xs : List V} (n : a ≠ l) (h : H a = some (.lst xs)) (k : DtAll l H ds xs) : Dt l H (.list ds) (.ref a) := by rw [Dt]; exact ⟨a, xs, rfl, n, h, k⟩
def Ok (n : Nat) (d : PyData) : Prop := d.canLay0 = true ∧ d.depth ≤ n
def OkAll (n : Nat) (ds : List PyData) : Prop := PyData.canLayAll0 ds = true ∧ PyData.depthAll ds ≤ n
theorem Ok.shaped {n : Nat} {d : PyData} (h : Ok n d) (hn : n ≤ 64) : SeqAt.shaped d = true := by
  unfold SeqAt.shaped
  rw [h.1, Bool.true_and]
  exact decide_eq_true (Nat.le_trans h.2 hn)
theorem OkAll.nil {n : Nat} : OkAll n [] := ⟨by simp [PyData.canLayAll0], by simp [PyData.depthAll]⟩
theorem OkAll.cons {n : Nat} {d : PyData} {ds : List PyData} (h : Ok n d) (k : OkAll n ds) : OkAll n (d :: ds) := ⟨by simp [PyData.canLayAll0, h.1, k.1], by simp only [PyData.depthAll]; exact Nat.max_le.mpr ⟨h.2, k.2⟩⟩
theorem OkAll.of {n : Nat} : ∀ {ds : List PyData}, (∀ d ∈ ds, Ok n d) → OkAll n ds
  | [], _ => .nil
  | d :: ds, h => .cons (h d List.mem_cons_self) (OkAll.of fun e he => h e (List.mem_cons_of_mem _ he))
theorem Ok.tup {n : Nat} {ds : List PyData} (h : OkAll n ds) : Ok (n + 1) (.tuple ds) := ⟨by simp only [PyData.canLay0]; exact h.1, by simp only [PyData.depth]; exact Nat.succ_le_succ h.2⟩
theorem Ok.lst {n : Nat} {ds : List PyData} (h : OkAll n ds) : Ok (n + 1) (.list ds) := ⟨by simp only [PyData.canLay0]; exact h.1, by simp only [PyData.depth]; exact Nat.succ_le_succ h.2⟩
theorem Ok.int {n : Nat} {i : Int} : Ok n (.int i) := ⟨by simp [PyData.canLay0], by simp [PyData.depth]⟩
theorem Ok.bool {n : Nat} {b : Bool} : Ok n (.bool b) := ⟨by simp [PyData.canLay0], by simp [PyData.depth]⟩
theorem Ok.non {n : Nat} : Ok n .none := ⟨by simp [PyData.canLay0], by simp [PyData.depth]⟩
theorem Ok.str {n : Nat} {x : Str} (h : PyData.strOk x = true) : Ok n (.str x) := ⟨by simp [PyData.canLay0, h], by simp [PyData.depth]⟩
mutual
theorem eqv_self : ∀ d : PyData, d.canLay0 = true → PyData.eqv d d = true
  | .none, _ => by simp [PyData.eqv]
  | .bool _, _ => by simp [PyData.eqv]
  | .int _, _ => by simp [PyData.eqv]
  | .str _, _ => by simp [PyData.eqv]
  | .tuple ds, h => by simp only [PyData.eqv]; exact eqvAll_self ds (by simpa only [PyData.canLay0] using h)
  | .list ds, h => by simp only [PyData.eqv]; exact eqvAll_self ds (by simpa only [PyData.canLay0] using h)
  | .dict _, h => by simp [PyData.canLay0] at h
theorem eqvAll_self : ∀ ds : List PyData, PyData.canLayAll0 ds = true → PyData.eqvAll ds ds = true
  | [], _ => by simp [PyData.eqvAll]
  | d :: ds, h => by
    simp only [PyData.canLayAll0, Bool.and_eq_true] at h
    simp only [PyData.eqvAll, eqv_self d h.1, eqvAll_self ds h.2, Bool.and_self]
end
def tyOf : PyData → String
  | .none => "NoneType"
  | .bool _ => "bool"
  | .int _ => "int"
  | .str _ => "str"
  | .tuple _ => "tuple"
  | .list _ => "list"
  | .dict _ => "dict"
theorem Dt.ty {K : PySem.W.Frag} {l : Addr} {H : Hp} : ∀ {d : PyData} {v : V}, Dt l H d v → TyOf K H v (.type (tyOf d))
  | .none, _, h => by rw [Dt] at h; subst h; exact .non
  | .bool _, _, h => by rw [Dt] at h; subst h; exact .bl _
  | .int _, _, h => by rw [Dt] at h; subst h; exact .int _
  | .str _, _, h => by rw [Dt] at h; subst h; exact .str _
  | .tuple _, _, h => by rw [Dt] at h; obtain ⟨a, xs, rfl, _, h1, _⟩ := h; exact .tup h1
  | .list _, _, h => by rw [Dt] at h; obtain ⟨a, xs, rfl, _, h1, _⟩ := h; exact .lst h1
  | .dict _, _, h => by rw [Dt] at h; exact h.elim
def isTupD : PyData → Bool
  | .tuple _ => true
  | _ => false
def isLstD : PyData → Bool
  | .list _ => true
  | _ => false
def isIntD : PyData → Bool
  | .int _ => true
  | .bool _ => true
  | _ => false
def isBoolD : PyData → Bool
  | .bool _ => true
  | _ => false
theorem kit_tupD (K : PySem.W.Frag) : ∀ d : PyData, (∀ kv, d ≠ .dict kv) → PySem.W.kitOne K (.type (tyOf d)) (.type "tuple") = some (isTupD d)
  | .none, _ => kit_nt K
  | .bool _, _ => kit_bt K
  | .int _, _ => kit_it K
  | .str _, _ => kit_st K
  | .tuple _, _ => kit_tt K
  | .list _, _ => kit_lt K
  | .dict kv, h => absurd rfl (h kv)
theorem kit_lstD (K : PySem.W.Frag) : ∀ d : PyData, (∀ kv, d ≠ .dict kv) → PySem.W.kitOne K (.type (tyOf d)) (.type "list") = some (isLstD d)
  | .none, _ => kit_nl K
  | .bool _, _ => kit_bl K
  | .int _, _ => kit_il K
  | .str _, _ => kit_sl K
  | .tuple _, _ => kit_tl K
  | .list _, _ => kit_ll K
  | .dict kv, h => absurd rfl (h kv)
theorem kit_nb (K : PySem.W.Frag) : PySem.W.kitOne K (.type "NoneType") (.type "bool") = some false := by kernel_rfl
theorem kit_sb (K : PySem.W.Frag) : PySem.W.kitOne K (.type "str") (.type "bool") = some false := by kernel_rfl
theorem kit_tb (K : PySem.W.Frag) : PySem.W.kitOne K (.type "tuple") (.type "bool") = some false := by kernel_rfl
theorem kit_lb (K : PySem.W.Frag) : PySem.W.kitOne K (.type "list") (.type "bool") = some false := by kernel_rfl
theorem kit_intD (K : PySem.W.Frag) : ∀ d : PyData, (∀ kv, d ≠ .dict kv) → PySem.W.kitOne K (.type (tyOf d)) (.type "int") = some (isIntD d)
  | .none, _ => kit_ni K
  | .bool _, _ => kit_bi K
  | .int _, _ => kit_ii K
  | .str _, _ => kit_si K
  | .tuple _, _ => kit_ti K
  | .list _, _ => kit_li K
  | .dict kv, h => absurd rfl (h kv)
theorem kit_boolD (K : PySem.W.Frag) : ∀ d : PyData, (∀ kv, d ≠ .dict kv) → PySem.W.kitOne K (.type (tyOf d)) (.type "bool") = some (isBoolD d)
  | .none, _ => kit_nb K
  | .bool _, _ => kit_bb K
  | .int _, _ => kit_ib K
  | .str _, _ => kit_sb K
  | .tuple _, _ => kit_tb K
  | .list _, _ => kit_lb K
  | .dict kv, h => absurd rfl (h kv)
theorem Dt.nodict {l : Addr} {H : Hp} {d : PyData} {v : V} (h : Dt l H d v) : ∀ kv, d ≠ .dict kv := fun kv z => by subst z; rw [Dt] at h; exact h
end L2
set_option Elab.async false
namespace Tr
end Tr
set_option Elab.async false
set_option linter.all false
set_option maxRecDepth 100000
set_option maxHeartbeats 4000000
namespace L2
open PySem PySem.Spec PyProof.Rows
def leaf : PyData → Prop
  | .none => True
  | .bool _ => True
  | .int _ => True
  | .str x => PyData.strOk x = true
  | _ => False
def Sm : Nat → PyData → Prop
  | 0, d => leaf d
  | n + 1, d => leaf d ∨ ∃ ds, (d = .tuple ds ∨ d = .list ds) ∧ ds.length ≤ 60 ∧ ∀ e ∈ ds, Sm n e
theorem leaf.ok {n : Nat} : ∀ {d : PyData}, leaf d → Ok n d
  | .none, _ => .non
  | .bool _, _ => .bool
  | .int _, _ => .int
  | .str _, h => .str h
theorem leaf.sm {n : Nat} {d : PyData} (h : leaf d) : Sm n d := by
  cases n with
  | zero => exact h
  | succ n => exact .inl h
theorem Sm.ok : ∀ {n : Nat} {d : PyData}, Sm n d → Ok n d
  | 0, _, h => leaf.ok h
  | n + 1, d, h => by
    rcases h with h | ⟨ds, h1, _, h2⟩
    · exact h.ok
    · have := OkAll.of fun e he => (h2 e he).ok
      rcases h1 with rfl | rfl
      · exact .tup this
      · exact .lst this
theorem Sm.up : ∀ {n : Nat} {d : PyData}, Sm n d → Sm (n + 1) d
  | 0, _, h => .inl h
  | n + 1, d, h => by
    rcases h with h | ⟨ds, h1, h2, h3⟩
    · exact .inl h
    · exact .inr ⟨ds, h1, h2, fun e he => (h3 e he).up⟩
theorem Sm.tup {n : Nat} {ds : List PyData} (h : ds.length ≤ 60) (k : ∀ e ∈ ds, Sm n e) : Sm (n + 1) (.tuple ds) := .inr ⟨ds, .inl rfl, h, k⟩
theorem Sm.lst {n : Nat} {ds : List PyData} (h : ds.length ≤ 60) (k : ∀ e ∈ ds, Sm n e) : Sm (n + 1) (.list ds) := .inr ⟨ds, .inr rfl, h, k⟩
end L2
set_option Elab.async false
set_option linter.all false
set_option maxRecDepth 100000
set_option maxHeartbeats 4000000
namespace L2
open PySem PySem.Spec PyProof.Rows
section
variable {X : Cx}
end
end L2
set_option Elab.async false
set_option linter.all false
set_option maxRecDepth 100000
set_option maxHeartbeats 4000000
namespace L2
open PySem PySem.Spec PyProof.Rows
section
variable {X : Cx} {elt iter : Expr} {x y : Str} {px py tp pos : Pos} {tk : Nat} {ifs : List Expr} {scope : Scope} {wi : TI} {fr : List (Option Nat)} {ix iy : Nat} {tif : TT} {te : TE} {N : List Str}
end
section
variable {X : Cx} {elt iter : Expr} {x y : Str} {px py tp pos : Pos} {tk : Nat} {ifs : List Expr} {scope : Scope} {wi : TI} {tif : TT} {te : TE}
end
section
variable {X : Cx} {scope : Scope} {cl : List (Str × Addr)} {N : List Str} {C : Addr} {s₀ : Shared} {H₀ : Hp} {fp : List Addr}
end
end L2
set_option Elab.async false
set_option linter.all false
set_option maxRecDepth 100000
set_option maxHeartbeats 4000000
namespace ZT
open PySem PyProof.Rows
structure Apart (z TI TO i1 i2 : Addr) (f1 f2 : List Addr) : Prop where
  a1 : TI ≠ z ∧ TI ≠ TO ∧ TI ≠ i1 ∧ TI ≠ i2
  a2 : TO ≠ z ∧ TO ≠ i1 ∧ TO ≠ i2
  a3 : i1 ≠ z ∧ i2 ≠ z ∧ i1 ≠ i2
  b1 : z ∉ f1 ∧ TO ∉ f1 ∧ i2 ∉ f1
  b2 : z ∉ f2 ∧ TO ∉ f2 ∧ i1 ∉ f2
section
variable {prog : Program} {w : World} {A : Around} {E : Value → Shared → Prop} {s : Shared} {z TI TO i1 i2 : Addr} {f1 f2 : List Addr} {n1 n2 k : Nat} {P1 P2 : Nat → Value → Prop} {S1 S2 : Nat → Heap → Prop} {a b : Value}
theorem keep_in {f : List Addr} {x : Addr} {h h' : Heap} (hx : x ∉ f) (e : Heap.SameBut x h h') : ∀ c ∈ f, ∀ o, h.get? c = some o → h'.get? c = some o := fun c hc o q => (e.2 c fun y => hx (y ▸ hc)).trans q
theorem item {Q : Value → Shared → Prop} (D1 : Draws prog w A i1 f1 n1 P1 S1) (D2 : Draws prog w A i2 f2 n2 P2 S2) (ap : Apart z TI TO i1 i2 f1 f2) (hz : IsZip s.heap z TI TO .none) (hI : IsPair s.heap TI (.ref i1) (.ref i2)) (hO : IsPair s.heap TO a b)
    (t1 : S1 k s.heap) (t2 : S2 k s.heap) (l1 : k < n1) (l2 : k < n2)
    (q : ∀ x y h' tk, P1 k x → P2 k y → IsZip h' z TI TO (rawInt s.heap.objs.size) → IsPair h' TO x y → S1 (k + 1) h' → S2 (k + 1) h' → IsPair h' s.heap.objs.size x y → h'.objs.size = s.heap.objs.size + 1 →
      (∀ c o, c ≠ z → c ≠ TO → c ≠ i1 → c ≠ i2 → s.heap.get? c = some o → h'.get? c = some o) → Q (.ref s.heap.objs.size) { s with heap := h', toks := tk }) :
    wpAny (model prog w) A (Builtin.«zip.__next__» ⟨[.ref z], []⟩) (fun fin s' => ∃ v, fin = .done (.ret v) ∧ Q v s') E s := by
  obtain ⟨⟨c1, c2, c3, c4⟩, ⟨c5, c6, c7⟩, ⟨c8, c9, c10⟩, ⟨d1, d2, d3⟩, d4, d5, d6⟩ := ap
  show wpAny _ _ (field (.ref z) 2 >>= _) _ _ _
  refine wpAny_bind (wpAny_field hz rfl (x := .bool false) rfl ?_)
  show wpAny _ _ (field (.ref z) 3 >>= _) _ _ _
  refine wpAny_bind (wpAny_field hz rfl (x := .ref TI) rfl (wpAny_bind (wpAny_seqItems hI rfl ?_)))
  show wpAny _ _ (Builtin.SmallTypes.ownedTupleIsFree (.ref z) >>= _) _ _ _
  unfold Builtin.SmallTypes.ownedTupleIsFree
  refine wpAny_bind (wpAny_bind (wpAny_field hz rfl (x := .none) rfl (wpAny_pure ?_)))
  simp only [if_true]
  refine wpAny_bind (wpAny_rule (wpAny_bind (wpAny_field hz rfl (x := .ref TO) rfl (wpAny_bind (wpAny_setField_rec hz (by simp) fun g1 z1 m1 => wpAny_bind ?_)))))
  have m1 : Heap.SameBut z s.heap g1 := m1
  have z1 : IsZip g1 z TI TO .ellipsis := z1
  simp only [List.zipIdx_cons, List.zipIdx_nil, List.forIn_cons, List.forIn_nil]
  refine wpAny_bind (wpAny_bind (wpAny_onRaise ?_))
  show wpAny _ _ (Builtin.SmallTypes.nextOf (.ref i1) >>= _) _ _ _
  refine wpAny_bind (D1.item k _ _ _ l1 (D1.frame _ _ _ t1 (keep_in d1 m1)) fun x g2 tk2 p1 u1 m2 => wpAny_pure ?_)
  have o2 : IsPair g2 TO a b := (m2.2 _ c6).trans ((m1.2 _ c5).trans hO)
  refine wpAny_bind (wpAny_seqItems o2 rfl (wpAny_bind (wpAny_updateSeq_pair o2 fun g3 o3 m3 => wpAny_bind (wpAny_letGo (wpAny_pure ?_)))))
  have o3 : IsPair g3 TO x b := o3
  have t2' : S2 k g3 := D2.frame _ _ _ (D2.frame _ _ _ (D2.frame _ _ _ t2 (keep_in d4 m1)) (keep_in d6 m2)) (keep_in d5 m3)
  refine wpAny_bind (wpAny_bind (wpAny_onRaise ?_))
  show wpAny _ _ (Builtin.SmallTypes.nextOf (.ref i2) >>= _) _ _ _
  refine wpAny_bind (D2.item k _ _ _ l2 t2' fun y g4 tk4 p2 u2 m4 => wpAny_pure ?_)
  have m3 : Heap.SameBut TO g2 g3 := m3
  have m4 : Heap.SameBut i2 g3 g4 := m4
  have o4 : IsPair g4 TO x b := (m4.2 _ c7).trans o3
  refine wpAny_bind (wpAny_seqItems o4 rfl (wpAny_bind (wpAny_updateSeq_pair o4 fun g5 o5 m5 => wpAny_bind (wpAny_letGo (wpAny_pure (wpAny_pure ?_))))))
  have m5 : Heap.SameBut TO g4 g5 := m5
  have o5 : IsPair g5 TO x y := o5
  refine wpAny_bind (wpAny_seqItems o5 rfl (wpAny_bind (wpAny_newTuple ?_)))
  have m2 : Heap.SameBut i1 g1 g2 := m2
  have sz : g5.objs.size = s.heap.objs.size := by rw [m5.1, m4.1, m3.1, m2.1, m1.1]
  have z5 : IsZip g5 z TI TO .ellipsis := (m5.2 _ c5.symm).trans ((m4.2 _ c9.symm).trans ((m3.2 _ c5.symm).trans ((m2.2 _ c8.symm).trans z1)))
  have kp : ∀ c o, c ≠ z → c ≠ TO → c ≠ i1 → c ≠ i2 → s.heap.get? c = some o → g5.get? c = some o := fun c o e1 e2 e3 e4 e => (m5.2 _ e2).trans ((m4.2 _ e4).trans ((m3.2 _ e2).trans ((m2.2 _ e3).trans ((m1.2 _ e1).trans e))))
  have v1 : S1 (k + 1) g5 := D1.frame _ _ _ (D1.frame _ _ _ (D1.frame _ _ _ u1 (keep_in d2 m3)) (keep_in d3 m4)) (keep_in d2 m5)
  have v2 : S2 (k + 1) g5 := D2.frame _ _ _ u2 (keep_in d5 m5)
  show wpAny _ _ (Builtin.SmallTypes.ownedTupleHandOut (.ref z) (.ref g5.objs.size) >>= _) _ _ _
  unfold Builtin.SmallTypes.ownedTupleHandOut
  have z6 : IsZip (g5.push { cls := .type "tuple", data := .seq #[x, y] }) z TI TO .ellipsis := Heap.get?_push_of_some _ z5
  refine wpAny_bind (wpAny_bind (wpAny_setField_rec z6 (by simp) fun g7 z7 m7 => wpAny_setField_rec (show IsZip g7 z TI TO (rawInt g5.objs.size) from z7) (by simp) fun g8 z8 m8 => ?_))
  have z8 : IsZip g8 z TI TO (rawInt g5.objs.size) := z8
  have up : ∀ c o, c ≠ z → (g5.push { cls := .type "tuple", data := .seq #[x, y] }).get? c = some o → g8.get? c = some o := fun c o e1 e => (m8.2 _ e1).trans ((m7.2 _ e1).trans e)
  have zl : z < g5.objs.size := Heap.lt_size z5
  refine wpAny_pure ⟨_, rfl, ?_⟩
  show Q (.ref g5.objs.size) _
  have fin := q x y g8 tk4 p1 p2 (by rw [← sz]; exact z8) (up _ _ c5 (Heap.get?_push_of_some _ o5)) (D1.frame _ _ _ v1 fun c hc o e => up c o (fun y => d1 (y ▸ hc)) (Heap.get?_push_of_some _ e)) (D2.frame _ _ _ v2 fun c hc o e => up c o (fun y => d4 (y ▸ hc)) (Heap.get?_push_of_some _ e))
    (by rw [← sz]; exact up _ _ (Nat.ne_of_gt zl) (Heap.get?_push_size _ rfl)) (by rw [← sz, m8.1, m7.1, Heap.size_push]) fun c o e1 e2 e3 e4 e => up c o e1 (Heap.get?_push_of_some _ (kp c o e1 e2 e3 e4 e))
  rw [sz]
  exact fin
theorem ended {Q : Fin → Shared → Prop} (D1 : Draws prog w A i1 f1 n1 P1 S1) (D2 : Draws prog w A i2 f2 n2 P2 S2) (ap : Apart z TI TO i1 i2 f1 f2) (hz : IsZip s.heap z TI TO .none) (hI : IsPair s.heap TI (.ref i1) (.ref i2)) (hO : IsPair s.heap TO a b)
    (t1 : S1 k s.heap) (t2 : S2 k s.heap) (he : k = n1 ∨ (k < n1 ∧ k = n2))
    (q : ∀ h' e tk, (∀ c o, c ≠ z → c ≠ TO → c ≠ i1 → c ≠ i2 → s.heap.get? c = some o → h'.get? c = some o) → (∃ o, h'.get? e = some o ∧ o.cls = .type "StopIteration") → E (.ref e) { s with heap := h', toks := tk }) :
    wpAny (model prog w) A (Builtin.«zip.__next__» ⟨[.ref z], []⟩) Q E s := by
  obtain ⟨⟨c1, c2, c3, c4⟩, ⟨c5, c6, c7⟩, ⟨c8, c9, c10⟩, ⟨d1, d2, d3⟩, d4, d5, d6⟩ := ap
  show wpAny _ _ (field (.ref z) 2 >>= _) _ _ _
  refine wpAny_bind (wpAny_field hz rfl (x := .bool false) rfl ?_)
  show wpAny _ _ (field (.ref z) 3 >>= _) _ _ _
  refine wpAny_bind (wpAny_field hz rfl (x := .ref TI) rfl (wpAny_bind (wpAny_seqItems hI rfl ?_)))
  show wpAny _ _ (Builtin.SmallTypes.ownedTupleIsFree (.ref z) >>= _) _ _ _
  unfold Builtin.SmallTypes.ownedTupleIsFree
  refine wpAny_bind (wpAny_bind (wpAny_field hz rfl (x := .none) rfl (wpAny_pure ?_)))
  simp only [if_true]
  refine wpAny_bind (wpAny_rule (wpAny_bind (wpAny_field hz rfl (x := .ref TO) rfl (wpAny_bind (wpAny_setField_rec hz (by simp) fun g1 z1 m1 => wpAny_bind ?_)))))
  have m1 : Heap.SameBut z s.heap g1 := m1
  have z1 : IsZip g1 z TI TO .ellipsis := z1
  simp only [List.zipIdx_cons, List.zipIdx_nil, List.forIn_cons, List.forIn_nil]
  refine wpAny_bind (wpAny_bind (wpAny_onRaise ?_))
  show wpAny _ _ (Builtin.SmallTypes.nextOf (.ref i1) >>= _) _ _ _
  have t1' := D1.frame _ _ _ t1 (keep_in d1 m1)
  rcases he with he | ⟨he1, he2⟩
  · rw [he] at t1'
    refine wpAny_bind (D1.done _ _ _ t1' fun g2 e m2 ho => ?_)
    obtain ⟨o, ho, hc⟩ := ho
    have z2 : IsZip g2 z TI TO .ellipsis := m2 _ _ c8.symm z1
    have ez : e ≠ z := fun y => by subst y; rw [z2] at ho; cases ho; simp at hc
    exact wpAny_setField_rec z2 (by simp) fun g3 _ m3 => q g3 e _ (fun c o e1 e2 e3 e4 y => (m3.2 _ e1).trans (m2 _ _ e3 ((m1.2 _ e1).trans y))) ⟨o, (m3.2 _ ez).trans ho, hc⟩
  · refine wpAny_bind (D1.item k _ _ _ he1 t1' fun x g2 tk2 p1 u1 m2 => wpAny_pure ?_)
    have o2 : IsPair g2 TO a b := (m2.2 _ c6).trans ((m1.2 _ c5).trans hO)
    refine wpAny_bind (wpAny_seqItems o2 rfl (wpAny_bind (wpAny_updateSeq_pair o2 fun g3 o3 m3 => wpAny_bind (wpAny_letGo (wpAny_pure ?_)))))
    have t2' : S2 k g3 := D2.frame _ _ _ (D2.frame _ _ _ (D2.frame _ _ _ t2 (keep_in d4 m1)) (keep_in d6 m2)) (keep_in d5 m3)
    rw [he2] at t2'
    have m2 : Heap.SameBut i1 g1 g2 := m2
    have m3 : Heap.SameBut TO g2 g3 := m3
    refine wpAny_bind (wpAny_bind (wpAny_onRaise ?_))
    show wpAny _ _ (Builtin.SmallTypes.nextOf (.ref i2) >>= _) _ _ _
    refine wpAny_bind (D2.done _ _ _ t2' fun g4 e m4 ho => ?_)
    obtain ⟨o, ho, hc⟩ := ho
    have z4 : IsZip g4 z TI TO .ellipsis := m4 _ _ c9.symm ((m3.2 _ c5.symm).trans ((m2.2 _ c8.symm).trans z1))
    have ez : e ≠ z := fun y => by subst y; rw [z4] at ho; cases ho; simp at hc
    exact wpAny_setField_rec z4 (by simp) fun g5 _ m5 => q g5 e _ (fun c o e1 e2 e3 e4 y => (m5.2 _ e1).trans (m4 _ _ e4 ((m3.2 _ e2).trans ((m2.2 _ e3).trans ((m1.2 _ e1).trans y))))) ⟨o, (m5.2 _ ez).trans ho, hc⟩
theorem next_item {Q : Option Value → Shared → Prop} (D1 : Draws prog w A.in1 i1 f1 n1 P1 S1) (D2 : Draws prog w A.in1 i2 f2 n2 P2 S2) (ap : Apart z TI TO i1 i2 f1 f2) (hz : IsZip s.heap z TI TO .none) (hI : IsPair s.heap TI (.ref i1) (.ref i2)) (hO : IsPair s.heap TO a b)
    (t1 : S1 k s.heap) (t2 : S2 k s.heap) (l1 : k < n1) (l2 : k < n2)
    (q : ∀ x y h' tk, P1 k x → P2 k y → IsZip h' z TI TO (rawInt s.heap.objs.size) → IsPair h' TO x y → S1 (k + 1) h' → S2 (k + 1) h' → IsPair h' s.heap.objs.size x y → h'.objs.size = s.heap.objs.size + 1 →
      (∀ c o, c ≠ z → c ≠ TO → c ≠ i1 → c ≠ i2 → s.heap.get? c = some o → h'.get? c = some o) → Q (some (.ref s.heap.objs.size)) { s with heap := h', toks := tk }) :
    wpAny (model prog w) A (pyNext (.ref z)) Q E s := by
  have hT : s.TypeIs (.ref z) "zip" := ⟨_, hz, rfl⟩
  unfold pyNext
  exact wpAny_bind (wpAny_attempt (wpAny_callSpecial?_slot (name := Str.ofString "__next__") hT F.slot_zip_next
    (wpAny_call_entry F.slot_zip_next hT F.entry_zip_next (item D1 D2 ap hz hI hO t1 t2 l1 l2 fun x y h' tk r1 r2 r3 r4 r5 r6 r7 r8 r9 => wpAny_pure (q x y h' tk r1 r2 r3 r4 r5 r6 r7 r8 r9)) (F.args_zip_next_1 _))))
theorem next_end {Q : Option Value → Shared → Prop} (D1 : Draws prog w A.in1 i1 f1 n1 P1 S1) (D2 : Draws prog w A.in1 i2 f2 n2 P2 S2) (ap : Apart z TI TO i1 i2 f1 f2) (hz : IsZip s.heap z TI TO .none) (hI : IsPair s.heap TI (.ref i1) (.ref i2)) (hO : IsPair s.heap TO a b)
    (t1 : S1 k s.heap) (t2 : S2 k s.heap) (he : k = n1 ∨ (k < n1 ∧ k = n2))
    (q : ∀ h' tk, (∀ c o, c ≠ z → c ≠ TO → c ≠ i1 → c ≠ i2 → s.heap.get? c = some o → h'.get? c = some o) → Q none { s with heap := h', toks := tk }) :
    wpAny (model prog w) A (pyNext (.ref z)) Q E s := by
  have hT : s.TypeIs (.ref z) "zip" := ⟨_, hz, rfl⟩
  unfold pyNext
  refine wpAny_bind (wpAny_attempt (wpAny_callSpecial?_slot (name := Str.ofString "__next__") hT F.slot_zip_next
    (wpAny_call_entry F.slot_zip_next hT F.entry_zip_next (ended D1 D2 ap hz hI hO t1 t2 he fun h' e tk kp ho => ?_) (F.args_zip_next_1 _))))
  obtain ⟨o, ho, hc⟩ := ho
  exact wpAny_bind (wpAny_isInstance (T := "StopIteration") (b := true) ⟨o, ho, hc⟩ isSubtype_stop (wpAny_pure (q _ _ kp)))
end
end ZT
set_option Elab.async false
set_option linter.all false
set_option maxRecDepth 100000
set_option maxHeartbeats 4000000
namespace ZT
open PySem PyProof.Rows
def Sq (b : Bool) (h : Heap) (l : Addr) (xs : List Value) : Prop := if b then h.IsTuple l xs.toArray else h.IsList l xs.toArray
def itO (b : Bool) (l : Addr) : Obj := if b then { cls := .type "tuple_iterator", data := .fields #[.ref l, .int 0 0] } else { cls := .type "list_iterator", data := .fields #[.ref l, .int 0 0] }
def It1 (b : Bool) (h : Heap) (it l : Addr) (k : Nat) : Prop := if b then h.IsTupleIter it l k else h.IsListIter it l k
theorem Sq.push {b : Bool} {h : Heap} {l : Addr} {xs : List Value} (o : Obj) (x : Sq b h l xs) : Sq b (h.push o) l xs := by
  cases b with
  | true => obtain ⟨u, e, r⟩ := (show h.IsTuple l xs.toArray from x); exact (show (h.push o).IsTuple l xs.toArray from ⟨u, Heap.get?_push_of_some _ e, r⟩)
  | false => obtain ⟨u, e, r⟩ := (show h.IsList l xs.toArray from x); exact (show (h.push o).IsList l xs.toArray from ⟨u, Heap.get?_push_of_some _ e, r⟩)
section
variable {prog : Program} {w : World} {A : Around} {E : Value → Shared → Prop} {s : Shared}
theorem iter_sq {b : Bool} {l : Addr} {xs : List Value} {Q : Value → Shared → Prop} (x : Sq b s.heap l xs) (h : Q (.ref s.heap.objs.size) { s with heap := s.heap.push (itO b l) }) : wpAny (model prog w) A (pyIter (.ref l)) Q E s := by
  cases b with
  | true => exact wpAny_pyIter_tuple x h
  | false => exact wpAny_pyIter_list x h
theorem draws_sq (hh : A.handled = none) (b : Bool) (it l : Addr) (xs : List Value) (hne : l ≠ it) : Draws prog w A it [it, l] xs.length (fun i v => xs[i]? = some v) (fun i h => It1 b h it l i ∧ Sq b h l xs) := by
  cases b with
  | true => exact ET.draws hh it l xs hne
  | false =>
    have := Draws.list (prog := prog) (w := w) hh it l hne xs.toArray
    simpa [It1, Sq] using this
def zh (b1 b2 : Bool) (h : Heap) (l1 l2 : Addr) : Heap :=
  ((((h.push (itO b1 l1)).push (itO b2 l2)).push { cls := .type "tuple", data := .seq #[.ref h.objs.size, .ref (h.push (itO b1 l1)).objs.size] }).push { cls := .type "tuple", data := .seq #[.none, .none] }).push
    { cls := .type "zip", data := .fields #[.none, .bool false, .bool false, .ref ((h.push (itO b1 l1)).push (itO b2 l2)).objs.size, .ref (((h.push (itO b1 l1)).push (itO b2 l2)).push { cls := .type "tuple", data := .seq #[.ref h.objs.size, .ref (h.push (itO b1 l1)).objs.size] }).objs.size] }
theorem new_zip (b1 b2 : Bool) (l1 l2 : Addr) (xs ys : List Value) :
    Meets (Builtin.«zip.__new__» ⟨[.type "zip", .ref l1, .ref l2], []⟩) (fun _ R s => Sq b1 s.heap l1 xs ∧ Sq b2 s.heap l2 ys ∧
      R (.ok (.ret (.ref ((((s.heap.push (itO b1 l1)).push (itO b2 l2)).push { cls := .type "tuple", data := .seq #[.ref s.heap.objs.size, .ref (s.heap.push (itO b1 l1)).objs.size] }).push { cls := .type "tuple", data := .seq #[.none, .none] }).objs.size)) ) { s with heap := zh b1 b2 s.heap l1 l2 }) :=
  .of_wp fun prog w A R s h => by
    obtain ⟨hp, g, d, tk, os⟩ := s; obtain ⟨h1, h2, h⟩ := h
    have hsub := sub_zip
    have i1 : ∀ (A : Around) (E : Value → Shared → Prop) (Q : Value → Shared → Prop), Q (.ref hp.objs.size) ⟨hp.push (itO b1 l1), g, d, tk, os⟩ → wpAny (model prog w) A (pyIter (.ref l1)) Q E ⟨hp, g, d, tk, os⟩ := fun A E Q q => iter_sq (s := ⟨hp, g, d, tk, os⟩) h1 q
    have i2 : ∀ (A : Around) (E : Value → Shared → Prop) (Q : Value → Shared → Prop), Q (.ref (hp.push (itO b1 l1)).objs.size) ⟨(hp.push (itO b1 l1)).push (itO b2 l2), g, d, tk, os⟩ → wpAny (model prog w) A (pyIter (.ref l2)) Q E ⟨hp.push (itO b1 l1), g, d, tk, os⟩ := fun A E Q q => iter_sq (s := ⟨hp.push (itO b1 l1), g, d, tk, os⟩) (h2.push _) q
    wp_walk using i1, i2
    exact ⟨_, rfl, h⟩
theorem call_zip {b1 b2 : Bool} {l1 l2 : Addr} {xs ys : List Value} {Q : Value → Shared → Prop} (h1 : Sq b1 s.heap l1 xs) (h2 : Sq b2 s.heap l2 ys)
    (h : ∀ h', IsZip h' (s.heap.objs.size + 4) (s.heap.objs.size + 2) (s.heap.objs.size + 3) .none → IsPair h' (s.heap.objs.size + 2) (.ref s.heap.objs.size) (.ref (s.heap.objs.size + 1)) → IsPair h' (s.heap.objs.size + 3) .none .none →
      It1 b1 h' s.heap.objs.size l1 0 → It1 b2 h' (s.heap.objs.size + 1) l2 0 → (∀ c o, s.heap.get? c = some o → h'.get? c = some o) → Q (.ref (s.heap.objs.size + 4)) { s with heap := h' }) :
    wpAny (model prog w) A (call (.type "zip") [.ref l1, .ref l2]) Q E s := by
  refine callType_new F.called_zip (by decide) (F.typeCall_zip_2 _ _) (F.newCall_zip_2 _ _) (fun obj => F.args_object_init_3 obj _ _) F.entry_zip_new (new_zip b1 b2 l1 l2 xs ys) ⟨h1, h2, ?_⟩
  have n1 : (s.heap.push (itO b1 l1)).objs.size = s.heap.objs.size + 1 := Heap.size_push ..
  have up : ∀ (g : Heap) (o : Obj) (c : Addr) (u : Obj), g.get? c = some u → (g.push o).get? c = some u := fun g o c u e => Heap.get?_push_of_some _ e
  have a0 : (s.heap.push (itO b1 l1)).get? s.heap.objs.size = some (itO b1 l1) := Heap.get?_push_size _ (by cases b1 <;> rfl)
  generalize hg1 : s.heap.push (itO b1 l1) = g1 at n1 a0
  have k1 : ∀ c o, s.heap.get? c = some o → g1.get? c = some o := fun c o e => by rw [← hg1]; exact up _ _ _ _ e
  have n2 : (g1.push (itO b2 l2)).objs.size = s.heap.objs.size + 2 := by rw [Heap.size_push, n1]
  have a1 : (g1.push (itO b2 l2)).get? (s.heap.objs.size + 1) = some (itO b2 l2) := by rw [← n1]; exact Heap.get?_push_size _ (by cases b2 <;> rfl)
  generalize hg2 : g1.push (itO b2 l2) = g2 at n2 a1
  have k2 : ∀ c o, g1.get? c = some o → g2.get? c = some o := fun c o e => by rw [← hg2]; exact up _ _ _ _ e
  have n3 : (g2.push { cls := .type "tuple", data := .seq #[.ref s.heap.objs.size, .ref (s.heap.objs.size + 1)] }).objs.size = s.heap.objs.size + 3 := by rw [Heap.size_push, n2]
  have a2 : IsPair (g2.push { cls := .type "tuple", data := .seq #[.ref s.heap.objs.size, .ref (s.heap.objs.size + 1)] }) (s.heap.objs.size + 2) (.ref s.heap.objs.size) (.ref (s.heap.objs.size + 1)) := by rw [← n2]; exact Heap.get?_push_size _ rfl
  generalize hg3 : g2.push { cls := .type "tuple", data := .seq #[.ref s.heap.objs.size, .ref (s.heap.objs.size + 1)] } = g3 at n3 a2
  have k3 : ∀ c o, g2.get? c = some o → g3.get? c = some o := fun c o e => by rw [← hg3]; exact up _ _ _ _ e
  have n4 : (g3.push { cls := .type "tuple", data := .seq #[.none, .none] }).objs.size = s.heap.objs.size + 4 := by rw [Heap.size_push, n3]
  have a3 : IsPair (g3.push { cls := .type "tuple", data := .seq #[.none, .none] }) (s.heap.objs.size + 3) .none .none := by rw [← n3]; exact Heap.get?_push_size _ rfl
  generalize hg4 : g3.push { cls := .type "tuple", data := .seq #[.none, .none] } = g4 at n4 a3
  have k4 : ∀ c o, g3.get? c = some o → g4.get? c = some o := fun c o e => by rw [← hg4]; exact up _ _ _ _ e
  have ez : zh b1 b2 s.heap l1 l2 = g4.push { cls := .type "zip", data := .fields #[.none, .bool false, .bool false, .ref (s.heap.objs.size + 2), .ref (s.heap.objs.size + 3)] } := by
    unfold zh
    rw [hg1, hg2, n1, hg3, hg4, n2, n3]
  have a4 : IsZip (g4.push { cls := .type "zip", data := .fields #[.none, .bool false, .bool false, .ref (s.heap.objs.size + 2), .ref (s.heap.objs.size + 3)] }) (s.heap.objs.size + 4) (s.heap.objs.size + 2) (s.heap.objs.size + 3) .none := by rw [← n4]; exact Heap.get?_push_size _ rfl
  rw [n1, hg3, hg4, n4, ez]
  show _ ∧ _
  have k5 : ∀ c o, g4.get? c = some o → (g4.push { cls := .type "zip", data := .fields #[.none, .bool false, .bool false, .ref (s.heap.objs.size + 2), .ref (s.heap.objs.size + 3)] }).get? c = some o := fun c o e => up _ _ _ _ e
  refine ⟨⟨_, a4, rfl⟩, h _ a4 (k5 _ _ (k4 _ _ a2)) (k5 _ _ a3) ?_ ?_ fun c o e => k5 _ _ (k4 _ _ (k3 _ _ (k2 _ _ (k1 _ _ e))))⟩
  · have := k5 _ _ (k4 _ _ (k3 _ _ (k2 _ _ a0)))
    cases b1 with
    | true => exact ⟨_, this, rfl, rfl⟩
    | false => exact ⟨_, this, rfl, rfl⟩
  · have := k5 _ _ (k4 _ _ (k3 _ _ a1))
    cases b2 with
    | true => exact ⟨_, this, rfl, rfl⟩
    | false => exact ⟨_, this, rfl, rfl⟩
end
end ZT
set_option Elab.async false
set_option linter.all false
set_option maxRecDepth 100000
set_option maxHeartbeats 4000000
namespace L2
open PySem PySem.Spec PyProof.Rows
def SqH (b : Bool) (H : Hp) (a : Addr) (xs : List V) : Prop := if b then H a = some (.tup xs) else H a = some (.lst xs)
theorem SqH.inj {b : Bool} {H : Hp} {a : Addr} {xs ys : List V} (h : SqH b H a xs) (k : SqH b H a ys) : xs = ys := by
  cases b with
  | true => have h : H a = some (.tup xs) := h; have k : H a = some (.tup ys) := k; rw [h] at k; cases k; rfl
  | false => have h : H a = some (.lst xs) := h; have k : H a = some (.lst ys) := k; rw [h] at k; cases k; rfl
theorem SqH.none {b : Bool} {H : Hp} {a c : Addr} {xs : List V} (h : SqH b H a xs) (k : H c = none) : a ≠ c := fun z => by
  subst z
  cases b with
  | true => have h : H a = some (.tup xs) := h; rw [k] at h; cases h
  | false => have h : H a = some (.lst xs) := h; rw [k] at h; cases h
theorem SqH.raw {X : Cx} {pins : List (Addr × Obj)} {σ : St} {H : Hp} {s : Shared} (I : Inv X pins σ H s) {b : Bool} {a : Addr} {xs : List V} (h : SqH b H a xs) : ∃ its, Vals xs its ∧ ZT.Sq b s.heap a its := by
  cases b with
  | true =>
    obtain ⟨its, rv, p, _⟩ := I.tuple (SqT.of (K := X.K) (show H a = some (.tup xs) from h))
    exact ⟨its, rv, p⟩
  | false =>
    obtain ⟨its, rv, p, _⟩ := I.list (SqL.of (K := X.K) (show H a = some (.lst xs) from h))
    exact ⟨its, rv, p.isList⟩
def Itz (b1 b2 : Bool) (a1 a2 : Addr) : It :=
  ⟨fun i H => ∃ xs x ys y, SqH b1 H a1 xs ∧ SqH b2 H a2 ys ∧ xs[i]? = some x ∧ ys[i]? = some y,
   fun i H v H' => ∃ p x y, v = .ref p ∧ H p = none ∧ H' = upd H p (.tup [x, y]) ∧ (∀ xs, SqH b1 H a1 xs → xs[i]? = some x) ∧ ∀ ys, SqH b2 H a2 ys → ys[i]? = some y,
   fun i H => ∃ xs ys, SqH b1 H a1 xs ∧ SqH b2 H a2 ys ∧ (i = xs.length ∨ (i < xs.length ∧ i = ys.length))⟩
def tnZ (b1 b2 : Bool) (a1 a2 z TI TO i1 i2 : Addr) : Nat → Heap → Prop := fun i h => IsZip h z TI TO .none ∧ IsPair h TI (.ref i1) (.ref i2) ∧ (∃ a b, IsPair h TO a b) ∧ ZT.It1 b1 h i1 a1 i ∧ ZT.It1 b2 h i2 a2 i
theorem it1_obj {b : Bool} {h : Heap} {it l : Addr} {k : Nat} (x : ZT.It1 b h it l k) : ∃ o, h.get? it = some o ∧ ∀ v, o.data ≠ .cell v := by
  cases b with
  | true => obtain ⟨o, e, _, d⟩ := (show h.IsTupleIter it l k from x); exact ⟨o, e, fun v z => by rw [d] at z; cases z⟩
  | false => obtain ⟨o, e, _, d⟩ := (show h.IsListIter it l k from x); exact ⟨o, e, fun v z => by rw [d] at z; cases z⟩
theorem it1_keep {b : Bool} {h h' : Heap} {it l : Addr} {k : Nat} (x : ZT.It1 b h it l k) (e : ∀ o, h.get? it = some o → h'.get? it = some o) : ZT.It1 b h' it l k := by
  cases b with
  | true => obtain ⟨o, q, r⟩ := (show h.IsTupleIter it l k from x); exact (show h'.IsTupleIter it l k from ⟨o, e _ q, r⟩)
  | false => obtain ⟨o, q, r⟩ := (show h.IsListIter it l k from x); exact (show h'.IsListIter it l k from ⟨o, e _ q, r⟩)
theorem turn_zip {P : Program} {w : World} {K : PySem.W.Frag} {elts : List Expr} {x1} {pos : Pos} {b1 b2 : Bool} {a1 a2 z TI TO i1 i2 : Addr} (ne : [z, TI, TO, i1, i2].Nodup) :
    Turn P w K (.Tuple elts x1 pos) (Itz b1 b2 a1 a2) [z, TI, TO, i1, i2] z (tnZ b1 b2 a1 a2 z TI TO i1 i2) where
  mem := by simp
  obj := fun i h st b hb => by
    obtain ⟨h1, h2, ⟨u, v, h3⟩, h4, h5⟩ := st
    have hb : b = z ∨ b = TI ∨ b = TO ∨ b = i1 ∨ b = i2 := by simpa using hb
    rcases hb with rfl | rfl | rfl | rfl | rfl
    · exact ⟨_, h1, fun v y => by cases y⟩
    · exact ⟨_, h2, fun v y => by cases y⟩
    · exact ⟨_, h3, fun v y => by cases y⟩
    · exact it1_obj h4
    · exact it1_obj h5
  keep := fun i h h' st k => by
    obtain ⟨h1, h2, ⟨u, v, h3⟩, h4, h5⟩ := st
    exact ⟨k z (by simp) _ h1, k TI (by simp) _ h2, ⟨u, v, k TO (by simp) _ h3⟩, it1_keep h4 fun o e => k i1 (by simp) o e, it1_keep h5 fun o e => k i2 (by simp) o e⟩
  item := by
    intro X hP hw hK hc i pins s σ H E I hf st hg
    subst hP hw hK
    obtain ⟨xs, x, ys, y, q1, q2, hx, hy⟩ := hg
    obtain ⟨us, rv1, p1⟩ := q1.raw I
    obtain ⟨vs, rv2, p2⟩ := q2.raw I
    obtain ⟨u, hu, ru⟩ := rv1.get hx
    obtain ⟨v, hv, rv⟩ := rv2.get hy
    obtain ⟨t1, t2, ⟨ta, tb, t3⟩, t4, t5⟩ := st
    have e1 : ∀ b ∈ [z, TI, TO, i1, i2], a1 ≠ b := fun b hb => q1.none (hf b hb).1
    have e2 : ∀ b ∈ [z, TI, TO, i1, i2], a2 ≠ b := fun b hb => q2.none (hf b hb).1
    simp only [List.nodup_cons, List.mem_cons, List.not_mem_nil, or_false, not_or] at ne
    obtain ⟨⟨n1, n2, n3, n4⟩, ⟨n5, n6, n7⟩, ⟨n8, n9⟩, n10, _⟩ := ne
    have ap : ZT.Apart z TI TO i1 i2 [i1, a1] [i2, a2] := ⟨⟨Ne.symm n1, n5, n6, n7⟩, ⟨Ne.symm n2, n8, n9⟩, ⟨Ne.symm n3, Ne.symm n4, n10⟩,
      ⟨by simp [n3, Ne.symm (e1 z (by simp))], by simp [n8, Ne.symm (e1 TO (by simp))], by simp [Ne.symm n10, Ne.symm (e1 i2 (by simp))]⟩, ⟨by simp [n4, Ne.symm (e2 z (by simp))], by simp [n9, Ne.symm (e2 TO (by simp))], by simp [n10, Ne.symm (e2 i1 (by simp))]⟩⟩
    refine ZT.next_item (ZT.draws_sq (prog := X.prog) (w := X.w) (A := X.A.in1) (I.ok.hd hc) b1 i1 a1 us (e1 i1 (by simp))) (ZT.draws_sq (prog := X.prog) (w := X.w) (A := X.A.in1) (I.ok.hd hc) b2 i2 a2 vs (e2 i2 (by simp))) ap t1 t2 t3 ⟨t4, p1⟩ ⟨t5, p2⟩ (List.getElem?_eq_some_iff.mp hu).1 (List.getElem?_eq_some_iff.mp hv).1
      fun u' v' h' tk r1 r2 r3 r4 r5 r6 r7 r8 r9 => ⟨_, rfl, wpAny_letOwnedTupleGo_zip (s := { s with heap := h', toks := tk }) r3 fun h'' z'' sb => ?_⟩
    rw [hu] at r1
    rw [hv] at r2
    cases r1
    cases r2
    have keep : ∀ b o, b ∉ [z, TI, TO, i1, i2] → s.heap.get? b = some o → h''.get? b = some o := fun b o hb q => by
      simp only [List.mem_cons, List.not_mem_nil, or_false, not_or] at hb
      exact (sb.2 b hb.1).trans (r9 b o hb.1 hb.2.2.1 hb.2.2.2.1 hb.2.2.2.2 q)
    have lt : ∀ b ∈ [z, TI, TO, i1, i2], b < s.heap.objs.size := fun b hb => by
      have hb : b = z ∨ b = TI ∨ b = TO ∨ b = i1 ∨ b = i2 := by simpa using hb
      rcases hb with rfl | rfl | rfl | rfl | rfl
      · exact Heap.lt_size t1
      · exact Heap.lt_size t2
      · exact Heap.lt_size t3
      · obtain ⟨o, e, _⟩ := it1_obj t4; exact Heap.lt_size e
      · obtain ⟨o, e, _⟩ := it1_obj t5; exact Heap.lt_size e
    have hTn : H s.heap.objs.size = none := I.hok.fresh (Nat.le_refl _)
    have hT'' : h''.get? s.heap.objs.size = some { cls := .type "tuple", data := .seq #[u, v] } := (sb.2 _ (Nat.ne_of_gt (lt z (by simp)))).trans r7
    have neT : ∀ b o, s.heap.get? b = some o → b ≠ s.heap.objs.size := fun b o q => Nat.ne_of_lt (Heap.lt_size q)
    have trk : ∀ b o, H b = some o → b ∉ [z, TI, TO, i1, i2] := fun b o q hb => by rw [(hf b hb).1] at q; cases q
    refine ⟨.ref s.heap.objs.size, upd H s.heap.objs.size (.tup [x, y]), ?_, rfl, ⟨_, x, y, rfl, hTn, rfl, fun zs hz => by rw [hz.inj q1]; exact hx, fun zs hz => by rw [hz.inj q2]; exact hy⟩, ⟨z'', ?_, ⟨u, v, ?_⟩, ?_, ?_⟩, fun b hb => ?_⟩
    · show Inv X pins σ _ { s with heap := h'', gens := s.gens, drawn := s.drawn, toks := tk }
      refine I.step (h' := h'') (g' := s.gens) (d' := s.drawn) (t' := tk) (ch := [z, TI, TO, i1, i2]) (fun b hb => ?_) (fun b o _ _ hc q _ => keep b o hc q) (fun b o _ _ hc q _ => ⟨o.slots, keep b o hc q⟩)
        (fun b o _ q n => by rw [upd_ne (neT b o q)]; exact n) (fun b o hc q => ⟨o, keep b o hc q⟩) (fun b ys q => by rw [upd_ne (ne_of_none q hTn)]; exact q) (fun b o u q => by rw [upd_ne (ne_of_none q hTn)]; exact q)
        (fun b ps q => ⟨#[], by rw [upd_ne (ne_of_none q hTn), q]; simp⟩) (fun m hm => ?_) (fun b o q => ?_) I.bare
      · obtain ⟨_, f1, _, f3, f4, f5⟩ := hf b hb
        exact ⟨f3, f1, f4, f5⟩
      · obtain ⟨o, es, ep, ho, r⟩ := hm
        exact ⟨o, es, ep, keep _ o (fun hb => (hf _ hb).2.1 rfl) ho, r⟩
      · by_cases hb : b = s.heap.objs.size
        · subst hb
          rw [upd_same] at q
          cases q
          exact ⟨sz2, [u, v], .cons ru (.cons rv .nil), _, hT'', rfl, _, rfl⟩
        · rw [upd_ne hb] at q
          refine (I.hok b o q).stay (fun c w hc r => keep c w ?_ r) (fun c r => by rw [upd_ne (ne_of_none r hTn)]; exact r) fun c ys r => by rw [upd_ne (ne_of_none r hTn)]; exact r
          rcases hc with rfl | hc
          · exact trk _ _ q
          · exact trk _ _ hc
    · exact (sb.2 _ (Ne.symm n1)).trans (r9 _ _ (Ne.symm n1) n5 n6 n7 t2)
    · exact (sb.2 _ (Ne.symm n2)).trans r4
    · exact it1_keep r5.1 fun o e => (sb.2 _ (Ne.symm n3)).trans e
    · exact it1_keep r6.1 fun o e => (sb.2 _ (Ne.symm n4)).trans e
    · rw [upd_ne (Nat.ne_of_lt (lt b hb))]
      exact (hf b hb).1
  done := by
    intro X hP hw hK hc i pins s σ H E I hf st hg
    subst hP hw hK
    obtain ⟨xs, ys, q1, q2, he⟩ := hg
    obtain ⟨us, rv1, p1⟩ := q1.raw I
    obtain ⟨vs, rv2, p2⟩ := q2.raw I
    obtain ⟨t1, t2, ⟨ta, tb, t3⟩, t4, t5⟩ := st
    have e1 : ∀ b ∈ [z, TI, TO, i1, i2], a1 ≠ b := fun b hb => q1.none (hf b hb).1
    have e2 : ∀ b ∈ [z, TI, TO, i1, i2], a2 ≠ b := fun b hb => q2.none (hf b hb).1
    simp only [List.nodup_cons, List.mem_cons, List.not_mem_nil, or_false, not_or] at ne
    obtain ⟨⟨n1, n2, n3, n4⟩, ⟨n5, n6, n7⟩, ⟨n8, n9⟩, n10, _⟩ := ne
    have ap : ZT.Apart z TI TO i1 i2 [i1, a1] [i2, a2] := ⟨⟨Ne.symm n1, n5, n6, n7⟩, ⟨Ne.symm n2, n8, n9⟩, ⟨Ne.symm n3, Ne.symm n4, n10⟩,
      ⟨by simp [n3, Ne.symm (e1 z (by simp))], by simp [n8, Ne.symm (e1 TO (by simp))], by simp [Ne.symm n10, Ne.symm (e1 i2 (by simp))]⟩, ⟨by simp [n4, Ne.symm (e2 z (by simp))], by simp [n9, Ne.symm (e2 TO (by simp))], by simp [n10, Ne.symm (e2 i1 (by simp))]⟩⟩
    have he' : i = us.length ∨ (i < us.length ∧ i = vs.length) := by rw [← rv1.length, ← rv2.length]; exact he
    refine ZT.next_end (ZT.draws_sq (prog := X.prog) (w := X.w) (A := X.A.in1) (I.ok.hd hc) b1 i1 a1 us (e1 i1 (by simp))) (ZT.draws_sq (prog := X.prog) (w := X.w) (A := X.A.in1) (I.ok.hd hc) b2 i2 a2 vs (e2 i2 (by simp))) ap t1 t2 t3 ⟨t4, p1⟩ ⟨t5, p2⟩ he' fun h' tk kp => ⟨rfl, ?_⟩
    have keep : ∀ b o, b ∉ [z, TI, TO, i1, i2] → s.heap.get? b = some o → h'.get? b = some o := fun b o hb q => by
      simp only [List.mem_cons, List.not_mem_nil, or_false, not_or] at hb
      exact kp b o hb.1 hb.2.2.1 hb.2.2.2.1 hb.2.2.2.2 q
    have trk : ∀ b o, H b = some o → b ∉ [z, TI, TO, i1, i2] := fun b o q hb => by rw [(hf b hb).1] at q; cases q
    show Inv X pins σ _ { s with heap := h', gens := s.gens, drawn := s.drawn, toks := tk }
    refine I.step (h' := h') (g' := s.gens) (d' := s.drawn) (t' := tk) (ch := [z, TI, TO, i1, i2]) (fun b hb => ?_) (fun b o _ _ hc q _ => keep b o hc q) (fun b o _ _ hc q _ => ⟨o.slots, keep b o hc q⟩)
        (fun b o _ q n => n) (fun b o hc q => ⟨o, keep b o hc q⟩) (fun b ys q => q) (fun b o u q => q)
        (fun b ps q => ⟨#[], by rw [q]; simp⟩) (fun m hm => ?_) (fun b o q => ?_) I.bare
    · obtain ⟨_, f1, _, f3, f4, f5⟩ := hf b hb
      exact ⟨f3, f1, f4, f5⟩
    · obtain ⟨o, es, ep, ho, r⟩ := hm
      exact ⟨o, es, ep, keep _ o (fun hb => (hf _ hb).2.1 rfl) ho, r⟩
    · refine (I.hok b o q).stay (fun c w hc r => keep c w ?_ r) (fun c r => r) fun c ys r => r
      rcases hc with rfl | hc
      · exact trk _ _ q
      · exact trk _ _ hc
  self := fun _ _ _ _ _ st h => wpAny_pyIter_zip st.1 h
def iZip (ta : TA) : TI := fun σ H R => ta σ H fun vs H1 => ∃ (b1 b2 : Bool) (a1 a2 : Addr), vs = [.ref a1, .ref a2] ∧ (∃ xs, SqH b1 H1 a1 xs) ∧ (∃ ys, SqH b2 H1 a2 ys) ∧ R (Itz b1 b2 a1 a2) H1
theorem pi_zip {X : Cx} {elts : List Expr} {x1} {tpos : Pos} {a b : Expr} {ta : TA} {p pos : Pos} (hg : Gl X "zip") (hm : X.mg "zip" = none) (ha : PA X [a, b] ta) (hs : starEach [a, b] X.env = [(false, eval a X.env), (false, eval b X.env)] := by rfl) (hs2 : starEach [b] X.env = [(false, eval b X.env)] := by rfl) :
    PI X (.Tuple elts x1 tpos) (.Call (.Name "zip" p) [a, b] [] pos) (iZip ta) := by
  intro pins s σ H R I h
  refine Call_ (ld_blt I hg hm boot_zip (PyProof.Rows.callWith_type1 (thn (ha pos pins s σ H _ I h) fun us s1 ⟨vs, H1, I1, r1, q1⟩ => ?_) (by rw [hs, hs2]) (by rw [hs2]; rfl)))
  obtain ⟨b1, b2, l1, l2, e, ⟨xs, h1⟩, ⟨ys, h2⟩, q⟩ := q1
  subst e
  cases r1 with
  | cons r rr =>
    cases rr with
    | cons r' rr =>
      cases rr
      cases r
      cases r'
      obtain ⟨us, _, p1⟩ := h1.raw I1
      obtain ⟨vs, _, p2⟩ := h2.raw I1
      refine ZT.call_zip p1 p2 fun h' z1 z2 z3 z4 z5 hk => wpAny_pyIter_zip z1 ?_
      have I2 : Inv X pins σ H1 { s1 with heap := h' } := I1.kept (t' := s1.toks) hk
      refine ⟨_, [s1.heap.objs.size + 4, s1.heap.objs.size + 2, s1.heap.objs.size + 3, s1.heap.objs.size, s1.heap.objs.size + 1], _, _, H1, rfl, I2, turn_zip ?_, ⟨z1, z2, ⟨_, _, z3⟩, z4, z5⟩, fun b hb => ?_, q⟩
      · simp
      have hb' : s1.heap.objs.size ≤ b := by
        have hb2 : b = s1.heap.objs.size + 4 ∨ b = s1.heap.objs.size + 2 ∨ b = s1.heap.objs.size + 3 ∨ b = s1.heap.objs.size ∨ b = s1.heap.objs.size + 1 := by simpa using hb
        rcases hb2 with h | h | h | h | h <;> rw [h] <;> first | exact Nat.le_refl _ | exact Nat.le_add_right _ _
      exact I1.fpOk hb' (I1.hok.fresh hb')
end L2
set_option Elab.async false
set_option linter.all false
set_option maxRecDepth 100000
set_option maxHeartbeats 4000000
namespace L2
open PySem PySem.Spec PyProof.Rows
section
variable {X : Cx}
end
def ItE (K : PySem.W.Frag) (a : Addr) : It :=
  ⟨fun i H => ∃ xs x, SqL K H a xs ∧ xs[i]? = some x, fun i H v H' => ∃ p x, v = .ref p ∧ H p = none ∧ H' = upd H p (.tup [.int i, x]) ∧ ∀ xs, SqL K H a xs → xs[i]? = some x, fun i H => ∃ xs, SqL K H a xs ∧ xs.length = i⟩
theorem turn_enumL {P : Program} {w : World} {K : PySem.W.Frag} {elts : List Expr} {x1} {pos : Pos} (a e it : Addr) (hne : e ≠ it) :
    Turn P w K (.Tuple elts x1 pos) (ItE K a) [e, it] e (fun i h => (∃ old, IsEnum h e it (i : Nat) old) ∧ h.IsListIter it a i) where
  mem := by simp
  obj := fun i h st b hb => by
    rcases List.mem_cons.mp hb with rfl | hb
    · obtain ⟨⟨old, q⟩, _⟩ := st
      exact ⟨_, q, fun v z => by cases z⟩
    · have e2 : b = it := by simpa using hb
      subst e2
      obtain ⟨_, o, q, c, d⟩ := st
      exact ⟨o, q, fun v z => by rw [d] at z; cases z⟩
  keep := fun i h h' st k => by
    obtain ⟨⟨old, q⟩, o, q2, r⟩ := st
    exact ⟨⟨old, k e (by simp) _ q⟩, o, k it (by simp) _ q2, r⟩
  item := by
    intro X hP hw hK hc i pins s σ H E I hf st hg
    subst hP hw hK
    obtain ⟨xs, x, hq, hx⟩ := hg
    obtain ⟨its, rv, pL, hz⟩ := I.list hq
    have p := pL.isList
    obtain ⟨u, hu, ru⟩ := rv.get hx
    obtain ⟨⟨old, he⟩, hit⟩ := st
    have hai : a ≠ it := fun z => by
      obtain ⟨o, e1, c1, _⟩ := p
      obtain ⟨o2, e2, c2, _⟩ := hit
      rw [z, e2] at e1; cases e1
      rw [c1] at c2; exact absurd c2 (by decide)
    have hae : a ≠ e := fun z => by
      obtain ⟨o, e1, c1, _⟩ := p
      rw [z, he] at e1; cases e1
      exact absurd (show Value.type "enumerate" = Value.type "list" from c1) (by decide)
    have hlt : i < its.length := (List.getElem?_eq_some_iff.mp hu).1
    have hE0 := hf e (by simp)
    have hI0 := hf it (by simp)
    refine wpAny_pyNext_enum_itemD (Draws.list (prog := X.prog) (w := X.w) (A := X.A.in1) (I.ok.hd hc) it a hai its.toArray) he ⟨hit, p⟩ (by simpa using hlt) hne (by simp [hne, Ne.symm hae]) fun y h' tk hy ho hs' hT hsz hk => ⟨_, rfl, wpAny_letOwnedTupleGo_enum (s := { s with heap := h', toks := tk + 1 }) ho fun h'' he'' sb => ?_⟩
    have hyu : y = u := by
      have hy : its[i]? = some y := by simpa using hy
      rw [hu] at hy; exact (Option.some.inj hy).symm
    subst hyu
    have keep : ∀ b o, b ≠ e → b ≠ it → s.heap.get? b = some o → h''.get? b = some o := fun b o h1 h2 q => (sb.2 b h1).trans (hk b o h1 h2 q)
    have hTe : s.heap.objs.size ≠ e := Nat.ne_of_gt (Heap.lt_size he)
    have hTi : s.heap.objs.size ≠ it := let ⟨_, q, _⟩ := hit; Nat.ne_of_gt (Heap.lt_size q)
    have hT'' : h''.get? s.heap.objs.size = some { cls := .type "tuple", data := .seq #[.int i tk, y] } := (sb.2 _ hTe).trans hT
    have hTn : H s.heap.objs.size = none := I.hok.fresh (Nat.le_refl _)
    have neT : ∀ b o, s.heap.get? b = some o → b ≠ s.heap.objs.size := fun b o q => Nat.ne_of_lt (Heap.lt_size q)
    have trk : ∀ b o, H b = some o → b ≠ e ∧ b ≠ it := fun b o q => ⟨(fun z => by rw [z, hE0.1] at q; cases q), (fun z => by rw [z, hI0.1] at q; cases q)⟩
    refine ⟨.ref s.heap.objs.size, upd H s.heap.objs.size (.tup [.int i, x]), ?_, rfl, ⟨_, x, rfl, hTn, rfl, fun ys hy => by rw [I.list_inj hy hq]; exact hx⟩, ⟨⟨_, by simpa using he''⟩, ?_⟩, fun b hb => ?_⟩
    · show Inv X pins σ _ { s with heap := h'', gens := s.gens, drawn := s.drawn, toks := tk + 1 }
      refine I.step (h' := h'') (g' := s.gens) (d' := s.drawn) (t' := tk + 1) (ch := [e, it]) (fun b hb => ?_) (fun b o _ _ hc q _ => keep b o (fun z => hc (by simp [z])) (fun z => hc (by simp [z])) q) (fun b o _ _ hc q _ => ⟨o.slots, keep b o (fun z => hc (by simp [z])) (fun z => hc (by simp [z])) q⟩)
        (fun b o _ q n => by rw [upd_ne (neT b o q)]; exact n) (fun b o hc q => ⟨o, keep b o (fun z => hc (by simp [z])) (fun z => hc (by simp [z])) q⟩) (fun b ys q => by rw [upd_ne (ne_of_none q hTn)]; exact q) (fun b o u q => by rw [upd_ne (ne_of_none q hTn)]; exact q)
        (fun b ps q => ⟨#[], by rw [upd_ne (ne_of_none q hTn), q]; simp⟩) (fun m hm => ?_) (fun b o q => ?_) I.bare
      · rcases List.mem_cons.mp hb with rfl | hb
        · exact ⟨hE0.2.2.2.1, hE0.2.1, hE0.2.2.2.2.1, hE0.2.2.2.2.2⟩
        · have e2 : b = it := by simpa using hb
          subst e2
          exact ⟨hI0.2.2.2.1, hI0.2.1, hI0.2.2.2.2.1, hI0.2.2.2.2.2⟩
      · obtain ⟨o, es, ep, ho, r⟩ := hm
        exact ⟨o, es, ep, keep _ o (Ne.symm hE0.2.1) (Ne.symm hI0.2.1) ho, r⟩
      · by_cases hb : b = s.heap.objs.size
        · subst hb
          rw [upd_same] at q
          cases q
          exact ⟨sz2, [.int i tk, y], .cons ⟨tk, rfl⟩ (.cons ru .nil), _, hT'', rfl, _, rfl⟩
        · rw [upd_ne hb] at q
          refine (I.hok b o q).stay (fun c v hc r => keep c v ?_ ?_ r) (fun c r => by rw [upd_ne (ne_of_none r hTn)]; exact r) fun c ys r => by rw [upd_ne (ne_of_none r hTn)]; exact r
          · rcases hc with rfl | hc
            · exact (trk _ _ q).1
            · exact (trk _ _ hc).1
          · rcases hc with rfl | hc
            · exact (trk _ _ q).2
            · exact (trk _ _ hc).2
    · obtain ⟨⟨o, q, r⟩, _⟩ := hs'
      exact ⟨o, (sb.2 it (Ne.symm hne)).trans q, r⟩
    · rcases List.mem_cons.mp hb with rfl | hb
      · rw [upd_ne (Ne.symm hTe)]; exact hE0.1
      · have e2 : b = it := by simpa using hb
        subst e2
        rw [upd_ne (Ne.symm hTi)]; exact hI0.1
  done := by
    intro X hP hw hK hc i pins s σ H E I hf st hg
    subst hP hw hK
    obtain ⟨xs, hq, hx⟩ := hg
    obtain ⟨its, rv, pL, hz⟩ := I.list hq
    have p := pL.isList
    obtain ⟨⟨old, he⟩, hit⟩ := st
    have hai : a ≠ it := fun z => by
      obtain ⟨o, e1, c1, _⟩ := p
      obtain ⟨o2, e2, c2, _⟩ := hit
      rw [z, e2] at e1; cases e1
      rw [c1] at c2; exact absurd c2 (by decide)
    have hl : its.length = i := by rw [← rv.length]; exact hx
    subst hl
    obtain ⟨f0, f1, f2, f3, f4, f5⟩ := hf it (by simp)
    exact wpAny_pyNext_enum_endD (Draws.list (prog := X.prog) (w := X.w) (A := X.A.in1) (I.ok.hd hc) it a hai its.toArray) he ⟨hit, p⟩ fun h' eb => ⟨rfl, I.turned (t' := s.toks) (fun b o hb q => eb b o hb q) f0 f1 f3 f4 f5⟩
  self := fun _ _ _ _ _ st h => by
    obtain ⟨⟨old, he⟩, _⟩ := st
    exact wpAny_pyIter_enum he h
def iEnumL (K : PySem.W.Frag) (ta : TA) : TI := fun σ H R => ta σ H fun vs H1 => ∃ a, vs = [.ref a] ∧ (∃ xs, SqL K H1 a xs) ∧ R (ItE K a) H1
theorem pi_enumL {X : Cx} {elts : List Expr} {x1} {tpos : Pos} {a : Expr} {ta : TA} {p pos : Pos} (hg : Gl X "enumerate") (hm : X.mg "enumerate" = none) (ha : PA X [a] ta) (hs : starEach [a] X.env = [(false, eval a X.env)] := by rfl) :
    PI X (.Tuple elts x1 tpos) (.Call (.Name "enumerate" p) [a] [] pos) (iEnumL X.K ta) := by
  intro pins s σ H R I h
  refine Call_ (ld_blt I hg hm boot_enumerate (PyProof.Rows.callWith_type1 (thn (ha pos pins s σ H _ I h) fun us s1 ⟨vs, H1, I1, r1, q1⟩ => ?_) hs rfl))
  obtain ⟨t, e, ⟨xs, hq⟩, q⟩ := q1
  subst e
  cases r1 with
  | cons r rr =>
    cases rr
    cases r
    obtain ⟨its, rv, p', hz⟩ := I1.list hq
    refine call_enumerate_list (show s1.heap.IsList t its.toArray from p'.isList) fun h' he hit hsz hk => wpAny_pyIter_enum he ?_
    have I2 : Inv X pins σ H1 { s1 with heap := h' } := I1.kept (t' := s1.toks) hk
    have hn : s1.heap.objs.size + 1 ≠ s1.heap.objs.size := by omega
    refine ⟨s1.heap.objs.size + 1, [s1.heap.objs.size + 1, s1.heap.objs.size], _, _, H1, rfl, I2, turn_enumL t _ _ hn, ⟨⟨_, he⟩, hit⟩, fun b hb => ?_, q⟩
    have hb' : s1.heap.objs.size ≤ b := by
      have hb2 : b = s1.heap.objs.size + 1 ∨ b = s1.heap.objs.size := by simpa using hb
      rcases hb2 with z | z
      · rw [z]; exact Nat.le_succ _
      · rw [z]; exact Nat.le_refl _
    exact I1.fpOk hb' (I1.hok.fresh hb')
theorem for_enumL {K : PySem.W.Frag} {a : Addr} {xs : List V} {g : TG} {tb : TS} {D : Ends} {σ : St} {H : Hp} (Pv : Nat → St → Hp → Prop) (h0 : Pv 0 σ H) (hl : ∀ i σ H, i ≤ xs.length → Pv i σ H → SqL K H a xs)
    (hs : ∀ i x σ H, xs[i]? = some x → Pv i σ H → ∀ p, H p = none → g (.ref p) σ (upd H p (.tup [.int (i : Nat), x])) fun σ2 H2 => tb { D with nx := Pv (i + 1), ct := Pv (i + 1), bk := D.nx } σ2 H2) (hd : ∀ σ H, Pv xs.length σ H → D.nx σ H) :
    ∃ W : Nat → Nat → St → Hp → Prop, (∃ m, W 0 m σ H) ∧ ∀ i m σ H, W i m σ H →
      ((ItE K a).stop i H ∧ D.nx σ H) ∨ ((ItE K a).go i H ∧ ∃ N : St → Hp → Prop, (∀ σ' H', N σ' H' → ∃ m', m' < m ∧ W (i + 1) m' σ' H') ∧ ∀ x H', (ItE K a).yld i H x H' → g x σ H' fun σ2 H2 => tb { D with nx := N, ct := N, bk := D.nx } σ2 H2) := by
  refine ⟨fun i m σ H => m = xs.length - i ∧ i ≤ xs.length ∧ Pv i σ H, ⟨xs.length, by simp, Nat.zero_le _, h0⟩, ?_⟩
  rintro i m σ H ⟨rfl, hi, p⟩
  have q := hl i σ H hi p
  by_cases hlt : i < xs.length
  · refine .inr ⟨⟨xs, xs[i], q, by simp [hlt]⟩, Pv (i + 1), fun σ' H' p' => ⟨xs.length - (i + 1), by omega, rfl, hlt, p'⟩, fun x H' y => ?_⟩
    obtain ⟨pp, x', rfl, hn, rfl, y⟩ := y
    exact hs i x' σ _ (y xs q) p pp hn
  · have e : i = xs.length := by omega
    subst e
    exact .inl ⟨⟨xs, q, rfl⟩, hd σ H p⟩
end L2
set_option Elab.async false
set_option linter.all false
set_option maxRecDepth 100000
set_option maxHeartbeats 4000000
namespace L2
open PySem PySem.Spec PyProof.Rows
section
variable {X : Cx}
end
section
variable {X : Cx} {scope : Scope} {cl : List (Str × Addr)} {N : List Str} {C : Addr} {s₀ : Shared} {H₀ : Hp} {fp : List Addr}
theorem call_list_ofC : CallR (cxComp X scope cl N C s₀ H₀ fp) (.type "list") (fun xs H Q => ∃ p ys, xs = [.ref p] ∧ (SqL X.K H p ys ∨ SqT X.K H p ys) ∧ ∀ l, H l = none → Q (.ref l) (upd H l (.lst ys))) := call_list_of
end
end L2
set_option Elab.async false
set_option linter.all false
set_option maxRecDepth 100000
set_option maxHeartbeats 4000000
namespace Q62
open PySem L2
def top (i : Nat) : Stmt := PySem.Challenge.pw_stepgrove_k62_tables_sharpened.main.body.getD i (.Pass ⟨0, 0, 0, 0⟩)
abbrev s_fraction_of : Stmt := top 7
abbrev s_frac_times : Stmt := top 8
abbrev s_is_fraction : Stmt := top 9
abbrev s_are_fractions : Stmt := top 10
abbrev s_is_whole : Stmt := top 11
abbrev s_greatest_divisor : Stmt := top 12
abbrev s_power_of : Stmt := top 13
abbrev s_is_table : Stmt := top 16
abbrev s_refuse_no_table : Stmt := top 17
abbrev s_are_rows : Stmt := top 18
abbrev s_table_behind : Stmt := top 21
abbrev s_table_shrunk : Stmt := top 22
abbrev s_table_mixed : Stmt := top 23
abbrev s_table_sharpened : Stmt := top 24
abbrev s_refuse_too_many_rows : Stmt := top 25
abbrev s_scaled : Stmt := top 26
abbrev s__law_cell_at : Stmt := top 28
abbrev s__law_mixed : Stmt := top 29
abbrev s__law_rest : Stmt := top 30
abbrev s__law_ratio : Stmt := top 31
abbrev s__law_sum : Stmt := top 32
abbrev s__law_times : Stmt := top 33
abbrev s__law_table : Stmt := top 34
abbrev s__law_copy : Stmt := top 35
abbrev s__law_row : Stmt := top 36
abbrev s__law_good : Stmt := top 37
abbrev s__law_scaled : Stmt := top 38
abbrev s_law : Stmt := top 39
theorem nnt {n : String} : clsV (.ty n) ≠ .none := fun z => nomatch z
def spGd : Sp := fun vs H Q _ => ∃ a b, vs = [.int a, .int b] ∧ Q (.int (FM.gi a b)) H
def spFr : Sp := fun vs H Q _ => ∃ t b m, vs = [.int t, .int b] ∧ b ≠ 0 ∧ m ≤ 9000 ∧ b.natAbs < 2 ^ m ∧ ∀ l H', Same H H' → H' l = some (.tup (ratV (Rat.divInt t b))) → Q (.ref l) H'
def spOp (K : PySem.W.Frag) (op : Rat → Rat → Rat) (ok : Rat → Prop) : Sp := fun vs H Q _ => ∃ v w p q n, vs = [v, w] ∧ Rt K H p v ∧ Rt K H q w ∧ FM.Fits p n ∧ FM.Fits q n ∧ n ≤ 4000 ∧ ok q ∧
  ∀ l H', Same H H' → H' l = some (.tup (ratV (op p q))) → Q (.ref l) H'
section
variable {P : Program} {w : World} {K : PySem.W.Frag} {mg : Str → Option Value} {base : Heap} {f g : Addr} {fd gd : FuncData}
theorem sc_greatest_divisor : FnScope ["one", "other", "greater", "lesser", "rest"] ["one", "other"] (defScope s_greatest_divisor) := ⟨rfl, rfl, rfl, by decide +kernel, rfl, by decide +kernel, by decide +kernel⟩
def mu3 (σ : St) : Nat := match σ[3]? with | some (some (V.int l)) => l.natAbs | _ => 0
theorem ok_greatest_divisor (F : Fn K mg "greatest_divisor" s_greatest_divisor ["one", "other"] f fd) (z_abs : mg "abs" = none) : FnOk P w K mg base CX0 1 f fd ["one", "other"] spGd := by
  have sc := sc_greatest_divisor
  refine F.F.ok (k := 0) sc (fun vs H Q E h => ?_) (fun cdv A outer s H vs Q E hr h => ?_)
  · obtain ⟨a, b, rfl, _⟩ := h
    rfl
  obtain ⟨a, b, rfl, q⟩ := h
  refine ⟨_, (pss_cons (ps_set (i := 2) sc.nd rfl (Or.inl rfl) (pe_callB call_abs rfl z_abs PyProof.Rows.boot_abs (pa_cons (pv 0) pa_nil)))
  (pss_cons (ps_set (i := 3) sc.nd rfl (Or.inl rfl) (pe_callB call_abs rfl z_abs PyProof.Rows.boot_abs (pa_cons (pv 1) pa_nil)))
  (pss_cons (ps_while PassesOwn.never (pt_cmpR op_ne (pv 3) pe_int (nomark _))
    (pss_cons (ps_set (i := 4) sc.nd rfl (Or.inl rfl) (pe_op op_modN (pv 2) (pv 3)))
    (pss_cons (ps_set (i := 2) sc.nd rfl (Or.inl rfl) (pv 3))
    (pss_one (ps_set (i := 3) sc.nd rfl (Or.inl rfl) (pv 4))))))
  (pss_one (ps_ret (pv 2)))))), ?_⟩
  refine ⟨_, rfl, _, rfl, _, rfl, _, rfl, ?_⟩
  refine while_by (fun σ H' => ∃ g l r, σ = [some (.int a), some (.int b), some (.int g), some (.int l), r] ∧ H = H' ∧ Int.gcd g l = Int.gcd a b ∧ 0 ≤ g ∧ 0 ≤ l) (fun σ _ => mu3 σ) ?_ ?_ ?_
  · exact ⟨_, _, _, rfl, rfl, FM.gcd_abs a b, FM.abs_nonneg a, FM.abs_nonneg b⟩
  · rintro σ H' ⟨g, l, r, rfl, rfl, hg, h0, h1⟩
    refine ⟨_, rfl, rfl, _, rfl, ite2 (fun c => ?_) (fun c => ?_)⟩
    · have hl : l ≠ 0 := fun z => by subst z; simp at c
      refine ⟨_, rfl, _, rfl, _, _, rfl, rfl, hl, _, rfl, _, rfl, ⟨_, _, _, rfl, rfl, ?_, h1, FM.fmod_nonneg hl h1⟩, ?_⟩
      · rw [FM.gcd_step]; exact hg
      · exact FM.fmod_less g l hl
    · have hl : l = 0 := by simpa using c
      subst hl
      refine ⟨_, rfl, ?_⟩
      rw [FM.gi_end hg h0]
      exact q
  · exact fun σ H Q Q' hq ⟨v, e, s, k, e2, q⟩ => ⟨v, e, s, k, e2, hq _ _ q⟩
theorem sc_fraction_of : FnScope ["top", "bottom", "shared"] ["top", "bottom"] (defScope s_fraction_of) := ⟨rfl, rfl, rfl, by decide +kernel, rfl, by decide +kernel, by decide +kernel⟩
theorem ok_fraction_of (F : Fn K mg "fraction_of" s_fraction_of ["top", "bottom"] f fd) (T_greatest_divisor : Fn K mg "greatest_divisor" s_greatest_divisor ["one", "other"] g gd)
    (G_greatest_divisor : FnOk P w K mg base CX0 1 g gd ["one", "other"] spGd) : FnOk P w K mg base CX0 2 f fd ["top", "bottom"] spFr := by
  have sc := sc_fraction_of
  refine F.F.ok (k := 1) sc (fun vs H Q E h => ?_) (fun cdv A outer s H vs Q E hr h => ?_)
  · obtain ⟨t, b, m, rfl, _⟩ := h
    rfl
  obtain ⟨t, b, m, rfl, hb, hm, hs, q⟩ := h
  refine ⟨_, (pss_cons (ps_if (pt_cmpR op_eq (pv 1) pe_int (nomark _))
    (pss_one ps_never)
    pss_nil)
  (pss_cons (ps_set (i := 2) sc.nd rfl (Or.inl rfl) (pe_fn T_greatest_divisor G_greatest_divisor hr rfl (pa_cons (pv 0) (pa_cons (pv 1) pa_nil))))
  (pss_cons (ps_if (pt_cmpR op_lt (pv 1) pe_int (nomark _))
    (pss_one (ps_set (i := 2) sc.nd rfl (Or.inl rfl) (pe_un un_neg (pv 2))))
    pss_nil)
  (pss_one (ps_ret (pe_tup (pa_cons (pe_op op_fdivW (pv 0) (pv 2)) (pa_cons (pe_op op_fdivW (pv 1) (pv 2)) pa_nil)))))))), ?_⟩
  refine ⟨_, rfl, rfl, _, rfl, ite2 (fun c => absurd c (by simpa using hb)) (fun _ => ?_)⟩
  refine ⟨_, rfl, _, rfl, t, b, rfl, ?_⟩
  try dsimp only [gName]
  refine seq_join (fun σ' H' => σ' = [some (.int t), some (.int b), some (.int (FM.gs t b))] ∧ H = H') (fun nx hn => ?_) ?_
  · refine ⟨_, rfl, _, _, rfl, rfl, _, rfl, ite2 (fun c => ?_) (fun c => ?_)⟩
    · have c' : b < 0 := of_decide_eq_true c
      refine ⟨_, rfl, _, rfl, hn _ _ ⟨?_, rfl⟩⟩
      unfold FM.gs
      rw [if_pos c']
      rfl
    · have c' : ¬ b < 0 := of_decide_eq_false (Bool.eq_false_iff.mpr c)
      refine hn _ _ ⟨?_, rfl⟩
      unfold FM.gs
      rw [if_neg c']
      rfl
  · rintro σ' H' ⟨rfl, rfl⟩
    have h0 : FM.gs t b ≠ 0 := FM.gs_ne hb
    have h1 : (FM.gs t b).natAbs < 2 ^ m := Nat.lt_of_le_of_lt (FM.gs_le hb) hs
    refine ⟨_, rfl, _, rfl, _, _, rfl, rfl, ⟨h0, m, hm, h1⟩, _, rfl, _, rfl, _, _, rfl, rfl, ⟨h0, m, hm, h1⟩, sz2, fun p hp => ?_⟩
    refine q p _ (same_new hp _) ?_
    rw [upd_same]
    show some (HO.tup [V.int (t.fdiv (FM.gs t b)), V.int (b.fdiv (FM.gs t b))]) = _
    rw [FM.num_eq hb, FM.den_eq hb]
    rfl
theorem sc_frac_times : FnScope ["one", "other"] ["one", "other"] (defScope s_frac_times) := ⟨rfl, rfl, rfl, by decide +kernel, rfl, by decide +kernel, by decide +kernel⟩
theorem ok_frac_times (F : Fn K mg "frac_times" s_frac_times ["one", "other"] f fd) (T_fraction_of : Fn K mg "fraction_of" s_fraction_of ["top", "bottom"] g gd)
    (G_fraction_of : FnOk P w K mg base CX0 2 g gd ["top", "bottom"] spFr) : FnOk P w K mg base CX0 3 f fd ["one", "other"] (spOp K (fun p q => p * q) (fun _ => True)) := by
  have sc := sc_frac_times
  refine F.F.ok (k := 2) sc (fun vs H Q E h => ?_) (fun cdv A outer s H vs Q E hr h => ?_)
  · obtain ⟨v, w, p, q, n, rfl, _⟩ := h
    rfl
  obtain ⟨v, w, p, q, n, rfl, ⟨a, rfl, sp⟩, ⟨b, rfl, sq⟩, hp, hq, hn, hok, k⟩ := h
  refine ⟨_, (pss_one (ps_ret (pe_fn T_fraction_of G_fraction_of hr rfl (pa_cons (pe_op op_mulW (pe_ix ix_tup (pv 0) pe_int (fun _ _ => rfl)) (pe_ix ix_tup (pv 1) pe_int (fun _ _ => rfl))) (pa_cons (pe_op op_mulW (pe_ix ix_tup (pv 0) pe_int (fun _ _ => rfl)) (pe_ix ix_tup (pv 1) pe_int (fun _ _ => rfl))) pa_nil))))), ?_⟩
  refine ⟨_, rfl, _, _, _, _, rfl, rfl, sp, rfl, _, rfl, _, _, _, _, rfl, rfl, sq, rfl, _, _, rfl, rfl, mulW hp.1 hq.1 (by omega), _, rfl, _, _, _, _, rfl, rfl, sp, rfl, _, rfl, _, _, _, _, rfl, rfl, sq, rfl, _, _, rfl, rfl, mulW hp.d hq.d (by omega), _, _, n + n, rfl, FM.prod_ne p q, by omega, FM.dd hp hq, fun l H' e1 e2 => ?_⟩
  exact k l H' e1 (by rw [FM.times_eq p q] at e2; exact e2)
end
theorem mulC {i j : Int} (h1 : -18446744073709551616 < j) (h2 : j < 18446744073709551616) : CMul i j ∨ CMulW i j := .inl (.inr ⟨h1, h2⟩)
def spCell (K : PySem.W.Frag) : Sp := fun vs H Q _ => ∃ (a : Addr) (ns : List Int) (k : Int), vs = [.ref a, .int k] ∧ SqL K H a (ns.map V.int) ∧ 0 ≤ k ∧ ∀ c : Int, Q (.int c) H
def spMixT : Sp := fun vs H Q _ => ∃ c k, vs = [.int c, .int k] ∧ ∀ r : Int, 0 ≤ r → r < 2147483587 → Q (.int r) H
section
variable {P : Program} {w : World} {K : PySem.W.Frag} {mg : Str → Option Value} {base : Heap} {f g g1 g2 g3 g4 : Addr} {fd gd gd1 gd2 gd3 gd4 : FuncData}
theorem sc__law_cell_at : FnScope ["_law_script", "_law_k"] ["_law_script", "_law_k"] (defScope s__law_cell_at) := ⟨rfl, rfl, rfl, by decide +kernel, rfl, by decide +kernel, by decide +kernel⟩
theorem ok__law_cell_at (F : Fn K mg "_law_cell_at" s__law_cell_at ["_law_script", "_law_k"] f fd) (z_len : mg "len" = none) : FnOk P w K mg base CX0 1 f fd ["_law_script", "_law_k"] (spCell K) := by
  have sc := sc__law_cell_at
  refine F.F.ok (k := 0) sc (fun vs H Q E h => ?_) (fun cdv A outer s H vs Q E hr h => ?_)
  · obtain ⟨a, ns, k, rfl, _⟩ := h
    rfl
  obtain ⟨a, ns, k, rfl, hS, h0, q⟩ := h
  refine ⟨_, (pss_cons (ps_if (pt_cmpR op_lt (pv 1) (pe_callB call_len_seq rfl z_len PySem.boot_len (pa_cons (pv 0) pa_nil)) (nomark _))
    (pss_one (ps_ret (pe_ix ix_list (pv 0) (pv 1) (fun _ _ => rfl))))
    pss_nil)
  (pss_one (ps_ret pe_int))), ?_⟩
  refine ⟨_, rfl, _, rfl, a, _, rfl, .inl hS, _, _, rfl, rfl, _, rfl, ite2 (fun c => ?_) (fun _ => q _)⟩
  have c' : k < (((ns.map V.int).length : Nat) : Int) := of_decide_eq_true c
  rw [List.length_map] at c'
  have hk : k.toNat < ns.length := by omega
  have hat : atI (ns.map V.int) k = some (.int ns[k.toNat]) := by
    have z := atI_nat (xs := ns.map V.int) (j := k.toNat) (v := .int ns[k.toNat]) (by rw [List.getElem?_map, List.getElem?_eq_getElem hk]; rfl)
    rwa [show ((k.toNat : Nat) : Int) = k by omega] at z
  exact ⟨_, rfl, _, rfl, a, _, _, _, rfl, rfl, hS, hat, q _⟩
theorem sc__law_mixed : FnScope ["_law_cell", "_law_k", "_law_number"] ["_law_cell", "_law_k"] (defScope s__law_mixed) := ⟨rfl, rfl, rfl, by decide +kernel, rfl, by decide +kernel, by decide +kernel⟩
theorem ok__law_mixed (F : Fn K mg "_law_mixed" s__law_mixed ["_law_cell", "_law_k"] f fd) : FnOk P w K mg base CX0 1 f fd ["_law_cell", "_law_k"] spMixT := by
  have sc := sc__law_mixed
  refine F.F.ok (k := 0) sc (fun vs H Q E h => ?_) (fun cdv A outer s H vs Q E hr h => ?_)
  · obtain ⟨a, b, rfl, _⟩ := h
    rfl
  obtain ⟨c, k, rfl, q⟩ := h
  refine ⟨_, (pss_cons (ps_set (i := 2) sc.nd rfl (Or.inl rfl) (pe_op op_mod (pe_op op_add (pe_op op_add (pe_op op_mulW (pe_op op_mod (pv 0) pe_int) pe_int) (pe_op op_mulW (pv 1) pe_int)) pe_int) pe_int))
  (pss_cons (ps_set (i := 2) sc.nd rfl (Or.inl rfl) (pe_op op_mod (pe_op op_mulW (pv 2) (pv 2)) pe_int))
  (pss_one (ps_ret (pe_op op_mod (pe_op op_mulW (pv 2) (pv 2)) pe_int))))), ?_⟩
  refine ⟨_, rfl, _, _, rfl, rfl, (by show (0 : Int) < 2147483647; decide), _, _, rfl, rfl, mulC (by decide) (by decide), _, rfl, _, _, rfl, rfl, mulC (by decide) (by decide), _, _, rfl, rfl, _, _, rfl, rfl, _, _, rfl, rfl, (by show (0 : Int) < 2147483647; decide), ?_⟩
  generalize (c % 2147483647 * 48271 + k * 69621 + 11) = z
  have z0 : 0 ≤ z % 2147483647 := Int.emod_nonneg _ (by decide)
  have z1 : z % 2147483647 < 2147483647 := Int.emod_lt_of_pos _ (by decide)
  refine ⟨_, rfl, _, rfl, _, _, rfl, rfl, mulC (by omega) (by omega), _, _, rfl, rfl, (by show (0 : Int) < 2147483629; decide), ?_⟩
  generalize (z % 2147483647 * (z % 2147483647)) = y
  have y0 : 0 ≤ y % 2147483629 := Int.emod_nonneg _ (by decide)
  have y1 : y % 2147483629 < 2147483629 := Int.emod_lt_of_pos _ (by decide)
  refine ⟨_, rfl, _, rfl, _, _, rfl, rfl, mulC (by omega) (by omega), _, _, rfl, rfl, (by show (0 : Int) < 2147483587; decide), ?_⟩
  exact q _ (Int.emod_nonneg _ (by decide)) (Int.emod_lt_of_pos _ (by decide))
theorem sc__law_rest : FnScope ["_law_script", "_law_k", "_law_cell", "_law_big"] ["_law_script", "_law_k"] (defScope s__law_rest) := ⟨rfl, rfl, rfl, by decide +kernel, rfl, by decide +kernel, by decide +kernel⟩
theorem ok__law_rest (F : Fn K mg "_law_rest" s__law_rest ["_law_script", "_law_k"] f fd) (T__law_cell_at : Fn K mg "_law_cell_at" s__law_cell_at ["_law_script", "_law_k"] g1 gd1) (T__law_mixed : Fn K mg "_law_mixed" s__law_mixed ["_law_cell", "_law_k"] g2 gd2)
    (G__law_cell_at : FnOk P w K mg base CX0 1 g1 gd1 ["_law_script", "_law_k"] (spCell K)) (G__law_mixed : FnOk P w K mg base CX0 1 g2 gd2 ["_law_cell", "_law_k"] spMixT) (z_abs : mg "abs" = none) : FnOk P w K mg base CX0 2 f fd ["_law_script", "_law_k"] (spCell K) := by
  have sc := sc__law_rest
  refine F.F.ok (k := 1) sc (fun vs H Q E h => ?_) (fun cdv A outer s H vs Q E hr h => ?_)
  · obtain ⟨a, ns, k, rfl, _⟩ := h
    rfl
  obtain ⟨a, ns, k, rfl, hS, h0, q⟩ := h
  refine ⟨_, (pss_cons (ps_set (i := 2) sc.nd rfl (Or.inl rfl) (pe_fn T__law_cell_at G__law_cell_at hr rfl (pa_cons (pv 0) (pa_cons (pv 1) pa_nil))))
  (pss_cons (ps_if (pt_cmpR op_ge (pe_callB call_abs rfl z_abs PyProof.Rows.boot_abs (pa_cons (pv 2) pa_nil)) (pe_op op_pow pe_int pe_int) (nomark _))
    (pss_one (ps_ret (pv 2)))
    pss_nil)
  (pss_cons (ps_set (i := 3) sc.nd rfl (Or.inl rfl) (pe_op op_add (pe_fn T__law_mixed G__law_mixed hr rfl (pa_cons (pv 2) (pa_cons (pv 1) pa_nil))) (pe_op op_mulW (pe_fn T__law_mixed G__law_mixed hr rfl (pa_cons (pv 2) (pa_cons (pe_op op_add (pv 1) pe_int) pa_nil))) pe_int)))
  (pss_one (ps_ret (pe_op op_add (pv 3) (pe_op op_mulW (pe_op op_mulW (pe_fn T__law_mixed G__law_mixed hr rfl (pa_cons (pv 2) (pa_cons (pe_op op_add (pv 1) pe_int) pa_nil))) pe_int) pe_int))))))), ?_⟩
  refine ⟨_, rfl, _, rfl, a, ns, k, rfl, hS, h0, fun c => ?_⟩
  refine ⟨_, rfl, _, rfl, _, _, rfl, rfl, ⟨by decide, by decide, by decide⟩, _, _, rfl, rfl, _, rfl, ite2 (fun _ => ⟨_, rfl, q _⟩) (fun _ => ?_)⟩
  refine ⟨_, rfl, _, rfl, _, _, rfl, fun r1 a1 b1 => ⟨_, rfl, _, rfl, _, _, rfl, rfl, _, _, rfl, fun r2 a2 b2 => ⟨_, _, rfl, rfl, mulC (by decide) (by decide), _, _, rfl, rfl, ?_⟩⟩⟩
  exact ⟨_, rfl, _, rfl, _, rfl, _, _, rfl, rfl, _, _, rfl, fun r3 a3 b3 => ⟨_, _, rfl, rfl, mulC (by decide) (by decide), _, _, rfl, rfl, mulC (by decide) (by decide), _, _, rfl, rfl, q _⟩⟩
end
def isFrD : PyData → Bool
  | .tuple [.int a, .int b] => decide (1 ≤ b) && (FM.gi a b == 1)
  | _ => false
theorem isFrD_of {ds : List PyData} (h : ds.length ≠ 2 ∨ ∃ d0 d1, ds = [d0, d1] ∧ ((isIntD d0 && !isBoolD d0) = false ∨ (isIntD d1 && !isBoolD d1) = false)) : isFrD (.tuple ds) = false := by
  rcases h with h | ⟨d0, d1, rfl, h⟩
  · match ds, h with
    | [], _ => rfl
    | [a], _ => cases a <;> rfl
    | [_, _], h => exact absurd rfl h
    | a :: b :: _ :: _, _ => cases a <;> first | rfl | (cases b <;> rfl)
  · cases d0 <;> first | rfl | (cases d1 <;> first | rfl | (exfalso; rcases h with h | h <;> exact absurd h (by simp [isIntD, isBoolD])))
def spIsWh : Sp := fun vs H Q _ => ∃ l d v, vs = [v] ∧ Dt l H d v ∧ Q (.bl (isIntD d && !isBoolD d)) H
def spIsFr : Sp := fun vs H Q _ => ∃ l d v, vs = [v] ∧ Dt l H d v ∧ Q (.bl (isFrD d)) H
theorem whole_int {d : PyData} (h : (isIntD d && !isBoolD d) = true) : ∃ i, d = .int i := by
  cases d <;> first | exact ⟨_, rfl⟩ | (exact absurd h (by simp [isIntD, isBoolD])) | (rename_i b; cases b <;> exact absurd h (by decide))
section
variable {P : Program} {w : World} {K : PySem.W.Frag} {mg : Str → Option Value} {base : Heap} {f g g1 g2 g3 g4 g5 : Addr} {fd gd gd1 gd2 gd3 gd4 gd5 : FuncData}
theorem sc_is_whole : FnScope ["thing"] ["thing"] (defScope s_is_whole) := ⟨rfl, rfl, rfl, by decide +kernel, rfl, by decide +kernel, by decide +kernel⟩
theorem ok_is_whole (F : Fn K mg "is_whole" s_is_whole ["thing"] f fd) (z_isinstance : mg "isinstance" = none) (z_int : mg "int" = none) (z_bool : mg "bool" = none) : FnOk P w K mg base CX0 1 f fd ["thing"] spIsWh := by
  have sc := sc_is_whole
  refine F.F.ok (k := 0) sc (fun vs H Q E h => ?_) (fun cdv A outer s H vs Q E hr h => ?_)
  · obtain ⟨l, d, v, rfl, _⟩ := h
    rfl
  obtain ⟨l, d, v, rfl, hd, q⟩ := h
  refine ⟨_, (pss_one (ps_ret (pe_and (pe_callB call_isi rfl z_isinstance PyProof.Rows.boot_isinstance (pa_cons (pv 0) (pa_cons (pe_bltn (v := .ty "int") rfl z_int PyProof.Rows.boot_int rfl) pa_nil))) (pe_one (pe_not (pe_callB call_isi rfl z_isinstance PyProof.Rows.boot_isinstance (pa_cons (pv 0) (pa_cons (pe_bltn (v := .ty "bool") rfl z_bool PyProof.Rows.boot_bool rfl) pa_nil)))))))), ?_⟩
  refine ⟨_, rfl, _, _, _, _, rfl, nnt, hd.ty, kit_intD K d hd.nodict, _, rfl, ite2 (fun c => ⟨_, rfl, _, _, _, _, rfl, nnt, hd.ty, kit_boolD K d hd.nodict, _, rfl, ?_⟩) (fun c => ?_)⟩
  · rw [c, Bool.true_and] at q; exact q
  · rw [Bool.eq_false_iff.mpr c, Bool.false_and] at q; exact q
theorem sc_is_fraction : FnScope ["thing"] ["thing"] (defScope s_is_fraction) := ⟨rfl, rfl, rfl, by decide +kernel, rfl, by decide +kernel, by decide +kernel⟩
theorem ok_is_fraction (F : Fn K mg "is_fraction" s_is_fraction ["thing"] f fd) (T_is_whole : Fn K mg "is_whole" s_is_whole ["thing"] g1 gd1) (T_greatest_divisor : Fn K mg "greatest_divisor" s_greatest_divisor ["one", "other"] g2 gd2)
    (G_is_whole : FnOk P w K mg base CX0 1 g1 gd1 ["thing"] spIsWh) (G_greatest_divisor : FnOk P w K mg base CX0 1 g2 gd2 ["one", "other"] spGd) (z_isinstance : mg "isinstance" = none) (z_tuple : mg "tuple" = none) (z_len : mg "len" = none) : FnOk P w K mg base CX0 2 f fd ["thing"] spIsFr := by
  have sc := sc_is_fraction
  refine F.F.ok (k := 1) sc (fun vs H Q E h => ?_) (fun cdv A outer s H vs Q E hr h => ?_)
  · obtain ⟨l, d, v, rfl, _⟩ := h
    rfl
  obtain ⟨l, d, v, rfl, hd, q⟩ := h
  refine ⟨_, (pss_cons (ps_if (PW.pt (pw_or (pt_not (pt_val (pe_callB call_isi rfl z_isinstance PyProof.Rows.boot_isinstance (pa_cons (pv 0) (pa_cons (pe_bltn (v := .ty "tuple") rfl z_tuple PyProof.Rows.boot_tuple rfl) pa_nil))))) (pw_or1 (pt_cmpR op_ne (pe_callB call_len_seq rfl z_len PySem.boot_len (pa_cons (pv 0) pa_nil)) pe_int (nomark _)))))
    (pss_one (ps_ret pe_bl))
    pss_nil)
  (pss_cons (ps_if (PW.pt (pw_or (pt_not (pt_val (pe_fn T_is_whole G_is_whole hr rfl (pa_cons (pe_ix ix_tup (pv 0) pe_int (fun _ _ => rfl)) pa_nil)))) (pw_or1 (pt_not (pt_val (pe_fn T_is_whole G_is_whole hr rfl (pa_cons (pe_ix ix_tup (pv 0) pe_int (fun _ _ => rfl)) pa_nil)))))))
    (pss_one (ps_ret pe_bl))
    pss_nil)
  (pss_one (ps_ret (pe_and (pe_cmpR op_ge (pe_ix ix_tup (pv 0) pe_int (fun _ _ => rfl)) pe_int (nomark _)) (pe_one (pe_cmpR op_eq (pe_fn T_greatest_divisor G_greatest_divisor hr rfl (pa_cons (pe_ix ix_tup (pv 0) pe_int (fun _ _ => rfl)) (pa_cons (pe_ix ix_tup (pv 0) pe_int (fun _ _ => rfl)) pa_nil))) pe_int (nomark _)))))))), ?_⟩
  refine ⟨_, rfl, _, _, _, _, rfl, nnt, hd.ty, kit_tupD K d hd.nodict, _, rfl, ?_⟩
  have no : isTupD d = false → isFrD d = false := fun z => by cases d <;> first | rfl | exact absurd z (by simp [isTupD])
  by_cases ht : isTupD d = true
  · rw [ht]
    obtain ⟨ds, rfl⟩ : ∃ ds, d = .tuple ds := by cases d <;> first | exact ⟨_, rfl⟩ | exact absurd ht (by simp [isTupD])
    rw [Dt] at hd
    obtain ⟨a, xs, rfl, na, ha, hx⟩ := hd
    have hlen := hx.len
    have s1 : SqT K H a xs := SqT.of ha
    refine iteF ⟨_, rfl, a, xs, rfl, .inr s1, rfl, _, rfl, ite2 (fun c => ?_) (fun c => ?_)⟩
    · have : ds.length ≠ 2 := by
        rw [← hlen]
        intro z
        rw [z] at c
        exact absurd c (by decide)
      rw [isFrD_of (.inl this)] at q
      exact q
    · have h2 : xs.length = 2 := by
        by_cases z : xs.length = 2
        · exact z
        · exfalso
          refine c ?_
          have : ¬ (V.int (xs.length : Nat) = V.int 2) := by simp; omega
          rw [decide_eq_false this]; rfl
      obtain ⟨d0, d1, rfl⟩ : ∃ d0 d1, ds = [d0, d1] := by
        match ds, (show ds.length = 2 by omega) with
        | [x, y], _ => exact ⟨x, y, rfl⟩
      rw [DtAll] at hx
      obtain ⟨x0, r, rfl, hx0, hx⟩ := hx
      rw [DtAll] at hx
      obtain ⟨x1, r, rfl, hx1, hx⟩ := hx
      rw [DtAll] at hx
      subst hx
      refine ⟨_, rfl, _, _, _, _, rfl, rfl, s1, rfl, l, d0, x0, rfl, hx0, _, rfl, ite2 (fun c0 => ?_) (fun c0 => ?_)⟩
      · rw [isFrD_of (.inr ⟨d0, d1, rfl, .inl (by simp at c0; rcases c0 with c | c <;> simp [c])⟩)] at q
        exact q
      refine ⟨_, rfl, _, _, _, _, rfl, rfl, s1, rfl, l, d1, x1, rfl, hx1, _, rfl, ite2 (fun c1 => ?_) (fun c1 => ?_)⟩
      · rw [isFrD_of (.inr ⟨d0, d1, rfl, .inr (by simp at c1; rcases c1 with c | c <;> simp [c])⟩)] at q
        exact q
      obtain ⟨i, rfl⟩ := whole_int (d := d0) (by simpa using c0)
      obtain ⟨j, rfl⟩ := whole_int (d := d1) (by simpa using c1)
      rw [Dt] at hx0 hx1
      subst hx0 hx1
      refine ⟨_, rfl, _, _, _, _, rfl, rfl, s1, rfl, _, _, rfl, rfl, _, rfl, ite2 (fun c => ?_) (fun c => ?_)⟩
      · refine ⟨_, rfl, _, _, _, _, rfl, rfl, s1, rfl, _, rfl, _, _, _, _, rfl, rfl, s1, rfl, i, j, rfl, rfl, ?_⟩
        have hj : 1 ≤ j := by have := of_decide_eq_true c; omega
        have e : isFrD (.tuple [.int i, .int j]) = decide (V.int (FM.gi i j) = V.int 1) := by
          rw [isFrD, decide_eq_true hj, Bool.true_and, Bool.eq_iff_iff]
          simp
        rw [e] at q
        exact q
      · have hj : ¬ 1 ≤ j := fun z => c (decide_eq_true (by omega))
        have e : isFrD (.tuple [.int i, .int j]) = false := by rw [isFrD, decide_eq_false hj, Bool.false_and]
        rw [e] at q
        exact q
  · rw [Bool.eq_false_iff.mpr ht]
    rw [no (Bool.eq_false_iff.mpr ht)] at q
    exact iteT (iteT q)
end
def areFrD : PyData → Bool
  | .list ds => ds.all isFrD
  | _ => false
def lenD : PyData → Nat
  | .list ds => ds.length
  | _ => 0
def rowAt (ds : List PyData) (i : Nat) : Bool := match ds[i]? with
  | some d => areFrD d && decide (lenD d = i)
  | none => true
def rowsOk (ds : List PyData) : Bool := (List.range ds.length).all (rowAt ds)
def areRowsD : PyData → Bool
  | .list ds => decide (1 ≤ ds.length) && (decide (ds.length ≤ 40) && rowsOk ds)
  | _ => false
def isTabD : PyData → Bool
  | .tuple [r, l] => areRowsD r && (areFrD l && decide (lenD l = lenD r))
  | _ => false
theorem areFrD_no {d : PyData} (h : isLstD d = false) : areFrD d = false := by cases d <;> first | rfl | exact absurd h (by simp [isLstD])
theorem areRowsD_no {d : PyData} (h : isLstD d = false) : areRowsD d = false := by cases d <;> first | rfl | exact absurd h (by simp [isLstD])
theorem isTabD_no {d : PyData} (h : isTupD d = false) : isTabD d = false := by cases d <;> first | rfl | exact absurd h (by simp [isTupD])
theorem isTabD_len {ds : List PyData} (h : ds.length ≠ 2) : isTabD (.tuple ds) = false := by
  match ds, h with
  | [], _ => rfl
  | [_], _ => rfl
  | [_, _], h => exact absurd rfl h
  | _ :: _ :: _ :: _, _ => rfl
theorem isLst_of {d : PyData} (h : isLstD d = true) : ∃ ds, d = .list ds := by cases d <;> first | exact ⟨_, rfl⟩ | exact absurd h (by simp [isLstD])
theorem isTup_of {d : PyData} (h : isTupD d = true) : ∃ ds, d = .tuple ds := by cases d <;> first | exact ⟨_, rfl⟩ | exact absurd h (by simp [isTupD])
theorem areFrD_lst {d : PyData} (h : areFrD d = true) : isLstD d = true := by cases d <;> first | rfl | exact absurd h (by simp [areFrD])
theorem areRowsD_lst {d : PyData} (h : areRowsD d = true) : isLstD d = true := by cases d <;> first | rfl | exact absurd h (by simp [areRowsD])
theorem rowsOk_of {ds : List PyData} (h : ∀ j, j < ds.length → rowAt ds j = true) : rowsOk ds = true := by
  unfold rowsOk
  rw [List.all_eq_true]
  intro j hj
  exact h j (List.mem_range.mp hj)
theorem rowsOk_no {ds : List PyData} {i : Nat} (hi : i < ds.length) (h : rowAt ds i = false) : rowsOk ds = false := by
  refine Bool.eq_false_iff.mpr fun z => ?_
  unfold rowsOk at z
  rw [List.all_eq_true] at z
  rw [z i (List.mem_range.mpr hi)] at h
  cases h
theorem rowAt_eq {ds : List PyData} {i : Nat} {d : PyData} (h : ds[i]? = some d) : rowAt ds i = (areFrD d && decide (lenD d = i)) := by unfold rowAt; rw [h]
def spAreFr : Sp := fun vs H Q _ => ∃ l d v, vs = [v] ∧ Dt l H d v ∧ Q (.bl (areFrD d)) H
def spRows : Sp := fun vs H Q _ => ∃ l d v, vs = [v] ∧ Dt l H d v ∧ ∀ H', Same H H' → Q (.bl (areRowsD d)) H'
def spIsTab : Sp := fun vs H Q _ => ∃ l d v, vs = [v] ∧ Dt l H d v ∧ ∀ H', Same H H' → Q (.bl (isTabD d)) H'
section
variable {P : Program} {w : World} {K : PySem.W.Frag} {mg : Str → Option Value} {base : Heap} {f g g1 g2 g3 g4 g5 : Addr} {fd gd gd1 gd2 gd3 gd4 gd5 : FuncData}
theorem sc_are_fractions : FnScope ["thing", "part"] ["thing"] (defScope s_are_fractions) := ⟨rfl, rfl, rfl, by decide +kernel, rfl, by decide +kernel, by decide +kernel⟩
theorem ok_are_fractions (F : Fn K mg "are_fractions" s_are_fractions ["thing"] f fd) (T_is_fraction : Fn K mg "is_fraction" s_is_fraction ["thing"] g1 gd1)
    (G_is_fraction : FnOk P w K mg base CX0 2 g1 gd1 ["thing"] spIsFr) (z_isinstance : mg "isinstance" = none) (z_list : mg "list" = none) : FnOk P w K mg base CX0 3 f fd ["thing"] spAreFr := by
  have sc := sc_are_fractions
  refine F.F.ok (k := 2) sc (fun vs H Q E h => ?_) (fun cdv A outer s H vs Q E hr h => ?_)
  · obtain ⟨l, d, v, rfl, _⟩ := h
    rfl
  obtain ⟨l, d, v, rfl, hd, q⟩ := h
  refine ⟨_, (pss_cons (ps_if (pt_not (pt_val (pe_callB call_isi rfl z_isinstance PyProof.Rows.boot_isinstance (pa_cons (pv 0) (pa_cons (pe_bltn (v := .ty "list") rfl z_list PyProof.Rows.boot_list rfl) pa_nil)))))
    (pss_one (ps_ret pe_bl))
    pss_nil)
  (pss_cons (ps_for PassesOwn.never rfl (pi_list (pv 0)) (pg_name (i := 1) sc.nd rfl (Or.inl rfl))
    (pss_one (ps_if (pt_not (pt_val (pe_fn T_is_fraction G_is_fraction hr rfl (pa_cons (pv 1) pa_nil))))
      (pss_one (ps_ret pe_bl))
      pss_nil)))
  (pss_one (ps_ret pe_bl)))), ?_⟩
  refine ⟨_, rfl, _, _, _, _, rfl, nnt, hd.ty, kit_lstD K d hd.nodict, _, rfl, ?_⟩
  by_cases hL : isLstD d = false
  · rw [hL]
    rw [areFrD_no hL] at q
    exact iteT q
  have hL : isLstD d = true := by simpa using hL
  rw [hL]
  refine iteF ?_
  obtain ⟨ds, rfl⟩ := isLst_of hL
  rw [Dt] at hd
  obtain ⟨a, xs, rfl, na, ha, ht⟩ := hd
  have hlen := ht.len
  refine ⟨_, rfl, a, rfl, ⟨_, SqL.of ha⟩, for_list (xs := xs) (fun i σ H' => ∃ r1, σ = [some (.ref a), r1] ∧ H = H' ∧ ∀ j c, j < i → ds[j]? = some c → isFrD c = true) ?_ ?_ ?_ ?_⟩
  · exact ⟨_, rfl, rfl, fun j c h => absurd h (Nat.not_lt_zero _)⟩
  · rintro i σ H' _ ⟨r1, rfl, rfl, _⟩
    exact SqL.of ha
  · rintro i x σ H' hx ⟨r1, rfl, rfl, hf⟩
    obtain ⟨c, hc, tc⟩ := ht.get hx
    refine ⟨_, rfl, l, c, x, rfl, tc, _, rfl, ite2 (fun b => ?_) (fun b => ?_)⟩
    · have hb : isFrD c = false := by simpa using b
      have e : areFrD (.list ds) = false := Bool.eq_false_iff.mpr fun z => by
        rw [areFrD, List.all_eq_true] at z
        rw [z c (List.mem_of_getElem? hc)] at hb
        cases hb
      rw [e] at q
      exact q
    · have hb : isFrD c = true := by simpa using b
      refine ⟨_, rfl, rfl, fun j e hj he => ?_⟩
      by_cases z : j = i
      · subst z; rw [hc] at he; cases he; exact hb
      · exact hf j e (by omega) he
  · rintro σ H' ⟨r1, rfl, rfl, hf⟩
    have e : areFrD (.list ds) = true := by
      rw [areFrD, List.all_eq_true]
      intro c hc
      obtain ⟨j, hj⟩ := List.getElem?_of_mem hc
      exact hf j c (by rw [hlen]; exact (List.getElem?_eq_some_iff.mp hj).1) hj
    rw [e] at q
    exact q
theorem sc_are_rows : FnScope ["thing", "k", "row"] ["thing"] (defScope s_are_rows) := ⟨rfl, rfl, rfl, by decide +kernel, rfl, by decide +kernel, by decide +kernel⟩
theorem ok_are_rows {tk : Tok} (F : Fn K mg "are_rows" s_are_rows ["thing"] f fd) (T_are_fractions : Fn K mg "are_fractions" s_are_fractions ["thing"] g1 gd1)
    (G_are_fractions : FnOk P w K mg base CX0 3 g1 gd1 ["thing"] spAreFr) (m_MOST_ROWS : mg "MOST_ROWS" = some (.int 40 tk)) (z_isinstance : mg "isinstance" = none) (z_list : mg "list" = none) (z_len : mg "len" = none) (z_enumerate : mg "enumerate" = none) : FnOk P w K mg base CX0 4 f fd ["thing"] spRows := by
  have sc := sc_are_rows
  refine F.F.ok (k := 3) sc (fun vs H Q E h => ?_) (fun cdv A outer s H vs Q E hr h => ?_)
  · obtain ⟨l, d, v, rfl, _⟩ := h
    rfl
  obtain ⟨l, d, v, rfl, hd, q⟩ := h
  refine ⟨_, (pss_cons (ps_if (PW.pt (pw_or (pt_not (pt_val (pe_callB call_isi rfl z_isinstance PyProof.Rows.boot_isinstance (pa_cons (pv 0) (pa_cons (pe_bltn (v := .ty "list") rfl z_list PyProof.Rows.boot_list rfl) pa_nil))))) (pw_or (pt_cmpR op_lt (pe_callB call_len_seq rfl z_len PySem.boot_len (pa_cons (pv 0) pa_nil)) pe_int (nomark _)) (pw_or1 (pt_cmpR op_gt (pe_callB call_len_seq rfl z_len PySem.boot_len (pa_cons (pv 0) pa_nil)) (pe_glob (v := .int 40) rfl m_MOST_ROWS ⟨_, rfl⟩) (nomark _))))))
    (pss_one (ps_ret pe_bl))
    pss_nil)
  (pss_cons (ps_for PassesOwn.never rfl (pi_enumL rfl z_enumerate (pa_cons (pv 0) pa_nil)) (pg_tup rfl (pgs_cons (pg_name (i := 1) sc.nd rfl (Or.inl rfl)) (pgs_cons (pg_name (i := 2) sc.nd rfl (Or.inl rfl)) pgs_nil)))
    (pss_one (ps_if (PW.pt (pw_or (pt_not (pt_val (pe_fn T_are_fractions G_are_fractions hr rfl (pa_cons (pv 2) pa_nil)))) (pw_or1 (pt_cmpR op_ne (pe_callB call_len_seq rfl z_len PySem.boot_len (pa_cons (pv 2) pa_nil)) (pv 1) (nomark _)))))
      (pss_one (ps_ret pe_bl))
      pss_nil)))
  (pss_one (ps_ret pe_bl)))), ?_⟩
  refine ⟨_, rfl, _, _, _, _, rfl, nnt, hd.ty, kit_lstD K d hd.nodict, _, rfl, ?_⟩
  by_cases hL : isLstD d = false
  · rw [hL]
    have := q H (.refl H)
    rw [areRowsD_no hL] at this
    exact iteT (iteT this)
  have hL : isLstD d = true := by simpa using hL
  rw [hL]
  refine iteF ?_
  obtain ⟨ds, rfl⟩ := isLst_of hL
  rw [Dt] at hd
  obtain ⟨a, xs, rfl, na, ha, ht⟩ := hd
  have hlen := ht.len
  refine ⟨_, rfl, a, xs, rfl, .inl (SqL.of ha), _, _, rfl, rfl, _, rfl, ite2 (fun c => ?_) (fun c => ?_)⟩
  · have e : areRowsD (.list ds) = false := by
      have : ¬ 1 ≤ ds.length := by rw [← hlen]; have := of_decide_eq_true c; omega
      rw [areRowsD, decide_eq_false this, Bool.false_and]
    have := q H (.refl H)
    rw [e] at this
    exact iteT this
  have h1 : 1 ≤ ds.length := by rw [← hlen]; have := of_decide_eq_false (Bool.eq_false_iff.mpr c); omega
  refine ⟨_, rfl, a, xs, rfl, .inl (SqL.of ha), _, _, rfl, rfl, _, rfl, ite2 (fun c => ?_) (fun c => ?_)⟩
  · have e : areRowsD (.list ds) = false := by
      have : ¬ ds.length ≤ 40 := by rw [← hlen]; have := of_decide_eq_true c; omega
      rw [areRowsD, decide_eq_false this, Bool.false_and, Bool.and_false]
    have := q H (.refl H)
    rw [e] at this
    exact this
  have h2 : ds.length ≤ 40 := by rw [← hlen]; have := of_decide_eq_false (Bool.eq_false_iff.mpr c); omega
  have e : areRowsD (.list ds) = rowsOk ds := by rw [areRowsD, decide_eq_true h1, decide_eq_true h2, Bool.true_and, Bool.true_and]
  rw [e] at q
  refine ⟨_, rfl, a, rfl, ⟨_, SqL.of ha⟩, for_enumL (xs := xs) (fun i σ H' => ∃ r1 r2, σ = [some (.ref a), r1, r2] ∧ Same H H' ∧ ∀ j, j < i → rowAt ds j = true) ?_ ?_ ?_ ?_⟩
  · exact ⟨_, _, rfl, .refl _, fun j h => absurd h (Nat.not_lt_zero _)⟩
  · rintro i σ H' _ ⟨r1, r2, rfl, e, _⟩
    exact SqL.of (e _ _ ha)
  · rintro i x σ H0 hx ⟨r1, r2, rfl, e0, hf⟩ p hp
    obtain ⟨c, hc, tc⟩ := ht.get hx
    have hi : i < ds.length := (List.getElem?_eq_some_iff.mp hc).1
    have s1 := same_new hp (.tup [.int (i : Nat), x])
    have e1 := e0.trans s1
    have hp' : (upd H0 p (.tup [.int (i : Nat), x])) p = some (.tup [.int (i : Nat), x]) := upd_same
    generalize upd H0 p (.tup [.int (i : Nat), x]) = H1 at s1 e1 hp'
    have tc := tc.same e1
    refine ⟨p, _, rfl, SqT.of hp', rfl, _, _, rfl, _, _, rfl, rfl, ?_⟩
    refine ⟨_, rfl, l, c, x, rfl, tc, _, rfl, ite2 (fun b => ?_) (fun b => ?_)⟩
    · have hb : areFrD c = false := by simpa using b
      have := q H1 e1
      rw [rowsOk_no hi (by rw [rowAt_eq hc, hb, Bool.false_and])] at this
      exact iteT this
    have hb : areFrD c = true := by simpa using b
    obtain ⟨cs, rfl⟩ := isLst_of (areFrD_lst hb)
    rw [Dt] at tc
    obtain ⟨b, ys, rfl, nb, hb', hy⟩ := tc
    refine ⟨_, rfl, b, ys, rfl, .inl (SqL.of hb'), _, rfl, rfl, _, rfl, ite2 (fun z => ?_) (fun z => ?_)⟩
    · have hne : ¬ lenD (.list cs) = i := by
        rw [lenD, ← hy.len]
        intro zz
        rw [zz] at z
        simp at z
      have := q H1 e1
      rw [rowsOk_no hi (by rw [rowAt_eq hc, hb, decide_eq_false hne, Bool.and_false])] at this
      exact this
    · have hne : lenD (.list cs) = i := by
        rw [lenD, ← hy.len]
        by_cases zz : ys.length = i
        · exact zz
        · exfalso
          refine z ?_
          have : ¬ (V.int (ys.length : Nat) = V.int (i : Nat)) := by simp; omega
          rw [decide_eq_false this]; rfl
      refine ⟨_, _, rfl, e1, fun j hj => ?_⟩
      by_cases zz : j = i
      · subst zz; rw [rowAt_eq hc, hb, decide_eq_true hne, Bool.and_self]
      · exact hf j (by omega)
  · rintro σ H' ⟨r1, r2, rfl, e1, hf⟩
    have := q H' e1
    rw [rowsOk_of fun j hj => hf j (by rw [hlen]; exact hj)] at this
    exact this
theorem sc_is_table : FnScope ["thing"] ["thing"] (defScope s_is_table) := ⟨rfl, rfl, rfl, by decide +kernel, rfl, by decide +kernel, by decide +kernel⟩
theorem ok_is_table (F : Fn K mg "is_table" s_is_table ["thing"] f fd) (T_are_rows : Fn K mg "are_rows" s_are_rows ["thing"] g1 gd1) (T_are_fractions : Fn K mg "are_fractions" s_are_fractions ["thing"] g2 gd2)
    (G_are_rows : FnOk P w K mg base CX0 4 g1 gd1 ["thing"] spRows) (G_are_fractions : FnOk P w K mg base CX0 4 g2 gd2 ["thing"] spAreFr) (z_isinstance : mg "isinstance" = none) (z_tuple : mg "tuple" = none) (z_len : mg "len" = none) : FnOk P w K mg base CX0 5 f fd ["thing"] spIsTab := by
  have sc := sc_is_table
  refine F.F.ok (k := 4) sc (fun vs H Q E h => ?_) (fun cdv A outer s H vs Q E hr h => ?_)
  · obtain ⟨l, d, v, rfl, _⟩ := h
    rfl
  obtain ⟨l, d, v, rfl, hd, q⟩ := h
  refine ⟨_, (pss_cons (ps_if (PW.pt (pw_or (pt_not (pt_val (pe_callB call_isi rfl z_isinstance PyProof.Rows.boot_isinstance (pa_cons (pv 0) (pa_cons (pe_bltn (v := .ty "tuple") rfl z_tuple PyProof.Rows.boot_tuple rfl) pa_nil))))) (pw_or1 (pt_cmpR op_ne (pe_callB call_len_seq rfl z_len PySem.boot_len (pa_cons (pv 0) pa_nil)) pe_int (nomark _)))))
    (pss_one (ps_ret pe_bl))
    pss_nil)
  (pss_one (ps_ret (pe_and (pe_fn T_are_rows G_are_rows hr rfl (pa_cons (pe_ix ix_tup (pv 0) pe_int (fun _ _ => rfl)) pa_nil)) (pe_and (pe_fn T_are_fractions G_are_fractions hr rfl (pa_cons (pe_ix ix_tup (pv 0) pe_int (fun _ _ => rfl)) pa_nil)) (pe_one (pe_cmpR op_eq (pe_callB call_len_seq rfl z_len PySem.boot_len (pa_cons (pe_ix ix_tup (pv 0) pe_int (fun _ _ => rfl)) pa_nil)) (pe_callB call_len_seq rfl z_len PySem.boot_len (pa_cons (pe_ix ix_tup (pv 0) pe_int (fun _ _ => rfl)) pa_nil)) (nomark _)))))))), ?_⟩
  refine ⟨_, rfl, _, _, _, _, rfl, nnt, hd.ty, kit_tupD K d hd.nodict, _, rfl, ?_⟩
  by_cases hL : isTupD d = false
  · rw [hL]
    have := q H (.refl H)
    rw [isTabD_no hL] at this
    exact iteT (iteT this)
  have hL : isTupD d = true := by simpa using hL
  rw [hL]
  refine iteF ?_
  obtain ⟨ds, rfl⟩ := isTup_of hL
  rw [Dt] at hd
  obtain ⟨a, xs, rfl, na, ha, hx⟩ := hd
  have hlen := hx.len
  have s1 : SqT K H a xs := SqT.of ha
  refine ⟨_, rfl, a, xs, rfl, .inr s1, rfl, _, rfl, ite2 (fun c => ?_) (fun c => ?_)⟩
  · have : ds.length ≠ 2 := by
      rw [← hlen]
      intro z
      rw [z] at c
      exact absurd c (by decide)
    have q := q H (.refl H)
    rw [isTabD_len this] at q
    exact q
  have h2 : xs.length = 2 := by
    by_cases z : xs.length = 2
    · exact z
    · exfalso
      refine c ?_
      have : ¬ (V.int (xs.length : Nat) = V.int 2) := by simp; omega
      rw [decide_eq_false this]; rfl
  obtain ⟨d0, d1, rfl⟩ : ∃ d0 d1, ds = [d0, d1] := by
    match ds, (show ds.length = 2 by omega) with
    | [x, y], _ => exact ⟨x, y, rfl⟩
  rw [DtAll] at hx
  obtain ⟨x0, r, rfl, hx0, hx⟩ := hx
  rw [DtAll] at hx
  obtain ⟨x1, r, rfl, hx1, hx⟩ := hx
  rw [DtAll] at hx
  subst hx
  rw [isTabD] at q
  refine ⟨_, rfl, _, _, _, _, rfl, rfl, s1, rfl, l, d0, x0, rfl, hx0, fun H1 e1 => ⟨_, rfl, ite2 (fun c0 => ?_) (fun c0 => ?_)⟩⟩
  · rw [c0] at q
    refine ⟨_, rfl, _, _, _, _, rfl, rfl, e1.tup s1, rfl, l, d1, x1, rfl, hx1.same e1, _, rfl, ite2 (fun c1 => ?_) (fun c1 => ?_)⟩
    · rw [c1] at q
      obtain ⟨r0, rfl⟩ := isLst_of (areRowsD_lst c0)
      obtain ⟨r1, rfl⟩ := isLst_of (areFrD_lst c1)
      have hx0 := hx0.same e1
      have hx1 := hx1.same e1
      rw [Dt] at hx0 hx1
      obtain ⟨a0, y0, rfl, _, ha0, hy0⟩ := hx0
      obtain ⟨a1, y1, rfl, _, ha1, hy1⟩ := hx1
      refine ⟨_, rfl, _, _, _, _, rfl, rfl, e1.tup s1, rfl, a1, y1, rfl, .inl (SqL.of ha1), _, rfl, _, _, _, _, rfl, rfl, e1.tup s1, rfl, a0, y0, rfl, .inl (SqL.of ha0), rfl, ?_⟩
      have := q H1 e1
      rw [Bool.true_and, Bool.true_and, lenD, lenD, ← hy0.len, ← hy1.len] at this
      have e : decide (V.int (y1.length : Nat) = V.int (y0.length : Nat)) = decide (y1.length = y0.length) := by
        rw [Bool.eq_iff_iff]; simp; omega
      rw [← e] at this
      exact this
    · rw [Bool.eq_false_iff.mpr c1, Bool.false_and, Bool.and_false] at q
      exact q H1 e1
  · rw [Bool.eq_false_iff.mpr c0, Bool.false_and] at q
    exact q H1 e1
end
mutual
theorem dt_fresh {l p : Addr} {H : Hp} (hp : H p = none) : ∀ {d : PyData} {v : V}, Dt l H d v → Dt p H d v
  | .none, _, h => by rw [Dt] at h ⊢; exact h
  | .bool _, _, h => by rw [Dt] at h ⊢; exact h
  | .int _, _, h => by rw [Dt] at h ⊢; exact h
  | .str _, _, h => by rw [Dt] at h ⊢; exact h
  | .tuple _, _, h => by
    rw [Dt] at h ⊢
    obtain ⟨a, xs, e1, n, h1, h2⟩ := h
    exact ⟨a, xs, e1, ne_of_none h1 hp, h1, dtAll_fresh hp h2⟩
  | .list _, _, h => by
    rw [Dt] at h ⊢
    obtain ⟨a, xs, e1, n, h1, h2⟩ := h
    exact ⟨a, xs, e1, ne_of_none h1 hp, h1, dtAll_fresh hp h2⟩
  | .dict _, _, h => by rw [Dt] at h; exact h.elim
theorem dtAll_fresh {l p : Addr} {H : Hp} (hp : H p = none) : ∀ {ds : List PyData} {xs : List V}, DtAll l H ds xs → DtAll p H ds xs
  | [], _, h => by rw [DtAll] at h ⊢; exact h
  | _ :: _, _, h => by
    rw [DtAll] at h ⊢
    obtain ⟨x, r, e1, h1, h2⟩ := h
    exact ⟨x, r, e1, dt_fresh hp h1, dtAll_fresh hp h2⟩
end
def DU (H : Hp) (d : PyData) (v : V) : Prop := ∃ N : Nat, ∀ l, N ≤ l → Dt l H d v
def DUs (H : Hp) (ds : List PyData) (xs : List V) : Prop := ∃ N : Nat, ∀ l, N ≤ l → DtAll l H ds xs
theorem DU.same {H H' : Hp} {d : PyData} {v : V} (h : DU H d v) (e : Same H H') : DU H' d v := let ⟨N, k⟩ := h; ⟨N, fun l hl => (k l hl).same e⟩
theorem DUs.same {H H' : Hp} {d : List PyData} {v : List V} (h : DUs H d v) (e : Same H H') : DUs H' d v := let ⟨N, k⟩ := h; ⟨N, fun l hl => (k l hl).same e⟩
theorem DU.int {H : Hp} {i : Int} : DU H (.int i) (.int i) := ⟨0, fun _ _ => .int⟩
theorem DU.bool {H : Hp} {i : Bool} : DU H (.bool i) (.bl i) := ⟨0, fun _ _ => .bool⟩
theorem DU.non {H : Hp} : DU H .none .non := ⟨0, fun _ _ => .non⟩
theorem DU.str {H : Hp} {x : Str} : DU H (.str x) (.str x) := ⟨0, fun _ _ => .str⟩
theorem DUs.nil {H : Hp} : DUs H [] [] := ⟨0, fun _ _ => .nil⟩
theorem DUs.cons {H : Hp} {d : PyData} {ds : List PyData} {x : V} {xs : List V} (h : DU H d x) (k : DUs H ds xs) : DUs H (d :: ds) (x :: xs) :=
  let ⟨N, a⟩ := h; let ⟨M, b⟩ := k; ⟨max N M, fun l hl => .cons (a l (by omega)) (b l (by omega))⟩
theorem DUs.app {H : Hp} {ds es : List PyData} {xs ys : List V} (h : DUs H ds xs) (k : DUs H es ys) : DUs H (ds ++ es) (xs ++ ys) :=
  let ⟨N, a⟩ := h; let ⟨M, b⟩ := k; ⟨max N M, fun l hl => (a l (by omega)).app (b l (by omega))⟩
theorem DUs.len {H : Hp} {ds : List PyData} {xs : List V} (h : DUs H ds xs) : xs.length = ds.length := let ⟨N, a⟩ := h; (a N (Nat.le_refl _)).len
theorem DUs.get {H : Hp} {ds : List PyData} {xs : List V} {i : Nat} {d : PyData} (h : DUs H ds xs) (e : ds[i]? = some d) : ∃ v, xs[i]? = some v ∧ DU H d v := by
  have hl := h.len
  have hi : i < xs.length := by rw [hl]; exact (List.getElem?_eq_some_iff.mp e).1
  have hx : xs[i]? = some xs[i] := by simp [hi]
  obtain ⟨N, a⟩ := h
  refine ⟨xs[i], hx, N, fun l hl => ?_⟩
  obtain ⟨d', h1, h2⟩ := (a l hl).get hx
  rw [e] at h1; cases h1
  exact h2
theorem DU.lst {H : Hp} {a : Addr} {ds : List PyData} {xs : List V} (h : H a = some (.lst xs)) (k : DUs H ds xs) : DU H (.list ds) (.ref a) :=
  let ⟨N, b⟩ := k; ⟨max N (a + 1), fun l hl => .lst (Nat.ne_of_lt (show a < l from Nat.lt_of_lt_of_le (Nat.lt_succ_self a) (Nat.le_trans (Nat.le_max_right _ _) hl))) h (b l (by omega))⟩
theorem DU.tup {H : Hp} {a : Addr} {ds : List PyData} {xs : List V} (h : H a = some (.tup xs)) (k : DUs H ds xs) : DU H (.tuple ds) (.ref a) :=
  let ⟨N, b⟩ := k; ⟨max N (a + 1), fun l hl => .tup (Nat.ne_of_lt (show a < l from Nat.lt_of_lt_of_le (Nat.lt_succ_self a) (Nat.le_trans (Nat.le_max_right _ _) hl))) h (b l (by omega))⟩
theorem DU.unL {H : Hp} {ds : List PyData} {v : V} (h : DU H (.list ds) v) : ∃ a xs, v = .ref a ∧ H a = some (.lst xs) ∧ DUs H ds xs := by
  obtain ⟨N, b⟩ := h
  have h0 := b N (Nat.le_refl _)
  rw [Dt] at h0
  obtain ⟨a, xs, rfl, _, ha, _⟩ := h0
  refine ⟨a, xs, rfl, ha, N, fun l hl => ?_⟩
  have h1 := b l hl
  rw [Dt] at h1
  obtain ⟨a', xs', e, _, ha', hx'⟩ := h1
  cases e
  rw [ha] at ha'; cases ha'
  exact hx'
theorem DU.unT {H : Hp} {ds : List PyData} {v : V} (h : DU H (.tuple ds) v) : ∃ a xs, v = .ref a ∧ H a = some (.tup xs) ∧ DUs H ds xs := by
  obtain ⟨N, b⟩ := h
  have h0 := b N (Nat.le_refl _)
  rw [Dt] at h0
  obtain ⟨a, xs, rfl, _, ha, _⟩ := h0
  refine ⟨a, xs, rfl, ha, N, fun l hl => ?_⟩
  have h1 := b l hl
  rw [Dt] at h1
  obtain ⟨a', xs', e, _, ha', hx'⟩ := h1
  cases e
  rw [ha] at ha'; cases ha'
  exact hx'
theorem DUs.un2 {H : Hp} {d e : PyData} {xs : List V} (h : DUs H [d, e] xs) : ∃ x y, xs = [x, y] ∧ DU H d x ∧ DU H e y := by
  obtain ⟨x, h1, h2⟩ := h.get (i := 0) rfl
  obtain ⟨y, h3, h4⟩ := h.get (i := 1) rfl
  have := h.len
  match xs, this with
  | [a, b], _ =>
    simp at h1 h3
    subst h1 h3
    exact ⟨a, b, rfl, h2, h4⟩
mutual
theorem dt_du {c : Addr} {H : Hp} : ∀ {d : PyData} {v : V}, Dt c H d v → DU H d v
  | .none, _, h => by rw [Dt] at h; subst h; exact .non
  | .bool _, _, h => by rw [Dt] at h; subst h; exact .bool
  | .int _, _, h => by rw [Dt] at h; subst h; exact .int
  | .str _, _, h => by rw [Dt] at h; subst h; exact .str
  | .tuple _, _, h => by
    rw [Dt] at h
    obtain ⟨a, xs, rfl, n, h1, h2⟩ := h
    exact .tup h1 (dtAll_du h2)
  | .list _, _, h => by
    rw [Dt] at h
    obtain ⟨a, xs, rfl, n, h1, h2⟩ := h
    exact .lst h1 (dtAll_du h2)
  | .dict _, _, h => by rw [Dt] at h; exact h.elim
theorem dtAll_du {c : Addr} {H : Hp} : ∀ {ds : List PyData} {xs : List V}, DtAll c H ds xs → DUs H ds xs
  | [], _, h => by rw [DtAll] at h; subst h; exact .nil
  | _ :: _, _, h => by
    rw [DtAll] at h
    obtain ⟨x, r, rfl, h1, h2⟩ := h
    exact .cons (dt_du h1) (dtAll_du h2)
end
theorem DU.br {K : PySem.W.Frag} {H : Hp} {d : PyData} {v : V} (h : DU H d v) : Br K H d v := let ⟨N, b⟩ := h; (b N (Nat.le_refl _)).br
theorem DU.ints {H : Hp} {ps : List Int} {v : V} (h : DU H (.tuple (ps.map .int)) v) : ∃ a, v = .ref a ∧ H a = some (.tup (ps.map V.int)) := by
  obtain ⟨a, xs, rfl, ha, hx⟩ := h.unT
  refine ⟨a, rfl, ?_⟩
  rw [ha]
  congr 2
  obtain ⟨N, b⟩ := hx
  have := b N (Nat.le_refl _)
  clear b ha h
  induction ps generalizing xs with
  | nil => rw [List.map_nil, DtAll] at this; exact this
  | cons p ps ih =>
    rw [List.map_cons, DtAll] at this
    obtain ⟨x, r, rfl, h1, h2⟩ := this
    rw [Dt] at h1
    subst h1
    rw [List.map_cons, ih r h2]
section
variable {P : Program} {w : World} {K : PySem.W.Frag} {mg : Str → Option Value} {base : Heap} {f g : Addr} {fd gd : FuncData}
theorem sc__law_ratio : FnScope ["_law_top", "_law_bottom", "_law_one", "_law_other"] ["_law_top", "_law_bottom"] (defScope s__law_ratio) := ⟨rfl, rfl, rfl, by decide +kernel, rfl, by decide +kernel, by decide +kernel⟩
theorem ok__law_ratio (F : Fn K mg "_law_ratio" s__law_ratio ["_law_top", "_law_bottom"] f fd) (z_abs : mg "abs" = none) : FnOk P w K mg base CX0 1 f fd ["_law_top", "_law_bottom"] spFr := by
  have sc := sc__law_ratio
  refine F.F.ok (k := 0) sc (fun vs H Q E h => ?_) (fun cdv A outer s H vs Q E hr h => ?_)
  · obtain ⟨t, b, m, rfl, _⟩ := h
    rfl
  obtain ⟨t, b, m, rfl, hb, hm, hs, q⟩ := h
  refine ⟨_, (pss_cons (ps_set (i := 2) sc.nd rfl (Or.inl rfl) (pe_callB call_abs rfl z_abs PyProof.Rows.boot_abs (pa_cons (pv 0) pa_nil)))
  (pss_cons (ps_set (i := 3) sc.nd rfl (Or.inl rfl) (pe_callB call_abs rfl z_abs PyProof.Rows.boot_abs (pa_cons (pv 1) pa_nil)))
  (pss_cons (ps_while PassesOwn.never (pt_cmpR op_gt (pv 3) pe_int (nomark _))
    (pss_one (ps_par (i := 2) (j := 3) rfl sc.nd rfl rfl (by decide) rfl rfl (pa_cons (pv 3) (pa_cons (pe_op op_modN (pv 2) (pv 3)) pa_nil)) rfl)))
  (pss_cons (ps_if (pt_cmpR op_lt (pv 1) pe_int (nomark _))
    (pss_one (ps_set (i := 2) sc.nd rfl (Or.inl rfl) (pe_op op_sub pe_int (pv 2))))
    pss_nil)
  (pss_one (ps_ret (pe_tup (pa_cons (pe_op op_fdivW (pv 0) (pv 2)) (pa_cons (pe_op op_fdivW (pv 1) (pv 2)) pa_nil))))))))), ?_⟩
  refine ⟨_, rfl, _, rfl, _, rfl, _, rfl, ?_⟩
  refine while_by (fun σ H' => ∃ g l, σ = [some (.int t), some (.int b), some (.int g), some (.int l)] ∧ H = H' ∧ Int.gcd g l = Int.gcd t b ∧ 0 ≤ g ∧ 0 ≤ l) (fun σ _ => mu3 σ) ?_ ?_ ?_
  · exact ⟨_, _, rfl, rfl, FM.gcd_abs t b, FM.abs_nonneg t, FM.abs_nonneg b⟩
  · rintro σ H' ⟨g, l, rfl, rfl, hg, h0, h1⟩
    refine ⟨_, rfl, _, _, rfl, rfl, _, rfl, ite2 (fun c => ?_) (fun c => ?_)⟩
    · have hl' : 0 < l := of_decide_eq_true c
      have hl : l ≠ 0 := by omega
      refine ⟨_, rfl, _, rfl, _, rfl, _, _, rfl, rfl, hl, _, _, rfl, ⟨_, _, rfl, rfl, ?_, h1, FM.fmod_nonneg hl h1⟩, ?_⟩
      · rw [FM.gcd_step]; exact hg
      · exact FM.fmod_less g l hl
    · have hl' : ¬ 0 < l := of_decide_eq_false (Bool.eq_false_iff.mpr c)
      have hl : l = 0 := by omega
      subst hl
      rw [FM.gi_end hg h0]
      try dsimp only [gName]
      refine seq_join (fun σ' H' => σ' = [some (.int t), some (.int b), some (.int (FM.gs t b)), some (.int 0)] ∧ H = H') (fun nx hn => ?_) ?_
      · refine ⟨_, rfl, _, _, rfl, rfl, _, rfl, ite2 (fun c => ?_) (fun c => ?_)⟩
        · have c' : b < 0 := of_decide_eq_true c
          refine ⟨_, rfl, _, _, rfl, rfl, hn _ _ ⟨?_, rfl⟩⟩
          show [some (V.int t), some (V.int b), some (V.int (0 - FM.gi t b)), some (V.int 0)] = _
          unfold FM.gs
          rw [if_pos c', Int.zero_sub]
        · have c' : ¬ b < 0 := of_decide_eq_false (Bool.eq_false_iff.mpr c)
          refine hn _ _ ⟨?_, rfl⟩
          unfold FM.gs
          rw [if_neg c']
      · rintro σ' H' ⟨rfl, rfl⟩
        have h0 : FM.gs t b ≠ 0 := FM.gs_ne hb
        have h1 : (FM.gs t b).natAbs < 2 ^ m := Nat.lt_of_le_of_lt (FM.gs_le hb) hs
        refine ⟨_, rfl, _, rfl, _, _, rfl, rfl, ⟨h0, m, hm, h1⟩, _, rfl, _, rfl, _, _, rfl, rfl, ⟨h0, m, hm, h1⟩, sz2, fun p hp => ?_⟩
        refine q p _ (same_new hp _) ?_
        rw [upd_same]
        show some (HO.tup [V.int (t.fdiv (FM.gs t b)), V.int (b.fdiv (FM.gs t b))]) = _
        rw [FM.num_eq hb, FM.den_eq hb]
        rfl
  · exact fun σ H Q Q' hq ⟨v, e, i, j, e1, e2, k, e3, q⟩ => ⟨v, e, i, j, e1, e2, k, e3, hq _ _ q⟩
theorem sc__law_sum : FnScope ["_law_one", "_law_other"] ["_law_one", "_law_other"] (defScope s__law_sum) := ⟨rfl, rfl, rfl, by decide +kernel, rfl, by decide +kernel, by decide +kernel⟩
theorem ok__law_sum (F : Fn K mg "_law_sum" s__law_sum ["_law_one", "_law_other"] f fd) (T__law_ratio : Fn K mg "_law_ratio" s__law_ratio ["_law_top", "_law_bottom"] g gd)
    (G__law_ratio : FnOk P w K mg base CX0 2 g gd ["_law_top", "_law_bottom"] spFr) : FnOk P w K mg base CX0 3 f fd ["_law_one", "_law_other"] (spOp K (fun p q => p + q) (fun _ => True)) := by
  have sc := sc__law_sum
  refine F.F.ok (k := 2) sc (fun vs H Q E h => ?_) (fun cdv A outer s H vs Q E hr h => ?_)
  · obtain ⟨v, w, p, q, n, rfl, _⟩ := h
    rfl
  obtain ⟨v, w, p, q, n, rfl, ⟨a, rfl, sp⟩, ⟨b, rfl, sq⟩, hp, hq, hn, hok, k⟩ := h
  refine ⟨_, (pss_one (ps_ret (pe_fn T__law_ratio G__law_ratio hr rfl (pa_cons (pe_op op_add (pe_op op_mulW (pe_ix ix_tup (pv 0) pe_int (fun _ _ => rfl)) (pe_ix ix_tup (pv 1) pe_int (fun _ _ => rfl))) (pe_op op_mulW (pe_ix ix_tup (pv 1) pe_int (fun _ _ => rfl)) (pe_ix ix_tup (pv 0) pe_int (fun _ _ => rfl)))) (pa_cons (pe_op op_mulW (pe_ix ix_tup (pv 0) pe_int (fun _ _ => rfl)) (pe_ix ix_tup (pv 1) pe_int (fun _ _ => rfl))) pa_nil))))), ?_⟩
  refine ⟨_, rfl, _, _, _, _, rfl, rfl, sp, rfl, _, rfl, _, _, _, _, rfl, rfl, sq, rfl, _, _, rfl, rfl, mulW hp.1 hq.d (by omega), _, rfl, _, _, _, _, rfl, rfl, sq, rfl, _, rfl, _, _, _, _, rfl, rfl, sp, rfl, _, _, rfl, rfl, mulW hq.1 hp.d (by omega), _, _, rfl, rfl, _, rfl, _, _, _, _, rfl, rfl, sp, rfl, _, rfl, _, _, _, _, rfl, rfl, sq, rfl, _, _, rfl, rfl, mulW hp.d hq.d (by omega), _, _, n + n, rfl, FM.prod_ne p q, by omega, FM.dd hp hq, fun l H' e1 e2 => ?_⟩
  exact k l H' e1 (by rw [FM.sum_eq p q] at e2; exact e2)
end
theorem du_l {p : Addr} {H H' : Hp} {xs : List V} {ds : List PyData} (hH : upd H p (.lst xs) = H') (hp : H p = none) (k : DUs H ds xs) : Same H H' ∧ DU H' (.list ds) (.ref p) ∧ H' p = some (.lst xs) := by
  subst hH
  have es := same_new hp (.lst xs)
  exact ⟨es, .lst upd_same (k.same es), upd_same⟩
theorem rat_fr (r : Rat) : isFrD (ratD r) = true := by
  have h := r.den_nz
  have k := r.reduced
  rw [ratD, isFrD, decide_eq_true (show (1 : Int) ≤ (r.den : Int) by omega), Bool.true_and]
  rw [beq_iff_eq]
  unfold FM.gi
  unfold Nat.Coprime at k
  rw [show r.num.gcd (r.den : Int) = 1 from k]
  rfl
theorem sz60 {i n : Nat} (h : i < n) (hn : n ≤ 60) : i < sizeLine := Nat.lt_of_lt_of_le (show i < 60 by omega) (by rw [sizeLine_eq]; decide)
theorem sz60' {n : Nat} (hn : n ≤ 60) : n ≤ sizeLine := Nat.le_trans hn (by rw [sizeLine_eq]; decide)
structure Tb where
  rs : List (List Rat)
  ls : List Rat
def fracsD (r : List Rat) : List PyData := r.map ratD
def rowD (r : List Rat) : PyData := .list (fracsD r)
def rowsD (rs : List (List Rat)) : List PyData := rs.map rowD
def tabD (t : Tb) : PyData := .tuple [.list (rowsD t.rs), .list (fracsD t.ls)]
structure Tb.Ok (m : Nat) (t : Tb) : Prop where
  one : 1 ≤ t.rs.length
  most : t.rs.length ≤ m
  last : t.ls.length = t.rs.length
  row : ∀ (i : Nat) r, t.rs[i]? = some r → r.length = i
theorem fracs_fr (r : List Rat) : ∀ e ∈ fracsD r, isFrD e = true := fun e he => by
  obtain ⟨q, _, rfl⟩ := List.mem_map.mp he
  exact rat_fr q
theorem fracs_len (r : List Rat) : (fracsD r).length = r.length := List.length_map _
theorem rows_len (r : List (List Rat)) : (rowsD r).length = r.length := List.length_map _
theorem rat_sm (q : Rat) : Sm 1 (ratD q) := by
  refine .tup (Nat.le_of_ble_eq_true rfl) fun x hx => ?_
  rcases List.mem_cons.mp hx with rfl | hx
  · exact leaf.sm trivial
  · rw [List.mem_singleton.mp hx]; exact leaf.sm trivial
theorem row_sm {r : List Rat} (h : r.length ≤ 60) : Sm 2 (rowD r) := by
  refine .lst (by rw [fracs_len]; omega) fun x hx => ?_
  obtain ⟨q, _, rfl⟩ := List.mem_map.mp hx
  exact rat_sm q
theorem Tb.Ok.lens {m : Nat} {t : Tb} (h : t.Ok m) : ∀ r ∈ t.rs, r.length < t.rs.length := fun r hr => by
  obtain ⟨i, hi⟩ := List.getElem?_of_mem hr
  rw [h.row i r hi]
  exact (List.getElem?_eq_some_iff.mp hi).1
theorem Tb.Ok.sm {m : Nat} (hm : m ≤ 60) {t : Tb} (h : t.Ok m) : Sm 4 (tabD t) := by
  have h1 := h.most
  have h2 := h.last
  refine .tup (Nat.le_of_ble_eq_true rfl) fun x hx => ?_
  rcases List.mem_cons.mp hx with rfl | hx
  · refine .lst (by rw [rows_len]; omega) fun r hr => ?_
    obtain ⟨q, hq, rfl⟩ := List.mem_map.mp hr
    exact row_sm (by have := h.lens q hq; omega)
  · rw [List.mem_singleton.mp hx]
    exact (row_sm (r := t.ls) (by omega)).up
theorem Tb.Ok.is {m : Nat} (hm : m ≤ 40) {t : Tb} (h : t.Ok m) : isTabD (tabD t) = true := by
  have h1 := h.one
  have h2 := h.most
  rw [tabD, isTabD, areRowsD, lenD, lenD, rows_len, fracs_len, decide_eq_true h1, decide_eq_true (show t.rs.length ≤ 40 by omega), decide_eq_true h.last, areFrD, Bool.true_and, Bool.true_and, Bool.and_true, List.all_eq_true.mpr (fracs_fr _), Bool.and_true]
  refine rowsOk_of fun j hj => ?_
  rw [rows_len] at hj
  have hr : t.rs[j]? = some t.rs[j] := by simp [hj]
  rw [rowAt_eq (d := rowD t.rs[j]) (by rw [rowsD, List.getElem?_map, hr]; rfl), rowD, lenD, fracs_len, decide_eq_true (h.row j _ hr), areFrD, Bool.and_true, List.all_eq_true.mpr (fracs_fr _)]
def Tb.behind (a b : Tb) : Tb := ⟨a.rs ++ b.rs.map (a.ls ++ ·), a.ls ++ b.ls⟩
theorem Tb.Ok.behind {m n : Nat} {a b : Tb} (h : a.Ok m) (k : b.Ok n) : (a.behind b).Ok (m + n) := by
  have h1 := h.one
  have h2 := h.most
  have k2 := k.most
  refine ⟨?_, ?_, ?_, fun i r hr => ?_⟩
  · simp [Tb.behind]; omega
  · simp [Tb.behind]; omega
  · simp [Tb.behind, h.last, k.last]
  · unfold Tb.behind at hr
    simp only at hr
    by_cases hi : i < a.rs.length
    · rw [List.getElem?_append_left hi] at hr
      exact h.row i r hr
    · rw [List.getElem?_append_right (by omega), List.getElem?_map] at hr
      cases hb : b.rs[i - a.rs.length]? with
      | none => rw [hb] at hr; cases hr
      | some z =>
        rw [hb] at hr
        cases hr
        rw [List.length_append, h.last, k.row _ _ hb]
        omega
mutual
theorem dt_both {l c : Addr} {H H' : Hp} (e : SameBut c H H') : ∀ {d : PyData} {v : V}, Dt l H d v → Dt c H d v → Dt l H' d v
  | .none, _, h, _ => by rw [Dt] at h ⊢; exact h
  | .bool _, _, h, _ => by rw [Dt] at h ⊢; exact h
  | .int _, _, h, _ => by rw [Dt] at h ⊢; exact h
  | .str _, _, h, _ => by rw [Dt] at h ⊢; exact h
  | .tuple _, _, h, k => by
    rw [Dt] at h k ⊢
    obtain ⟨a, xs, e1, n, h1, h2⟩ := h
    obtain ⟨a', xs', e1', n', h1', h2'⟩ := k
    subst e1
    cases e1'
    rw [h1] at h1'
    cases h1'
    exact ⟨a, xs, rfl, n, e _ _ n' h1, dtAll_both e h2 h2'⟩
  | .list _, _, h, k => by
    rw [Dt] at h k ⊢
    obtain ⟨a, xs, e1, n, h1, h2⟩ := h
    obtain ⟨a', xs', e1', n', h1', h2'⟩ := k
    subst e1
    cases e1'
    rw [h1] at h1'
    cases h1'
    exact ⟨a, xs, rfl, n, e _ _ n' h1, dtAll_both e h2 h2'⟩
  | .dict _, _, h, _ => by rw [Dt] at h; exact h.elim
theorem dtAll_both {l c : Addr} {H H' : Hp} (e : SameBut c H H') : ∀ {ds : List PyData} {xs : List V}, DtAll l H ds xs → DtAll c H ds xs → DtAll l H' ds xs
  | [], _, h, _ => by rw [DtAll] at h ⊢; exact h
  | _ :: _, _, h, k => by
    rw [DtAll] at h k ⊢
    obtain ⟨x, r, e1, h1, h2⟩ := h
    obtain ⟨x', r', e1', h1', h2'⟩ := k
    subst e1
    cases e1'
    exact ⟨x, r, rfl, dt_both e h1 h1', dtAll_both e h2 h2'⟩
end
theorem DUs.unC {H : Hp} {d : PyData} {ds : List PyData} {xs : List V} (h : DUs H (d :: ds) xs) : ∃ x r, xs = x :: r ∧ DU H d x ∧ DUs H ds r := by
  obtain ⟨N, b⟩ := h
  have h0 := b N (Nat.le_refl _)
  rw [DtAll] at h0
  obtain ⟨x, r, rfl, _, _⟩ := h0
  refine ⟨x, r, rfl, ⟨N, fun l hl => ?_⟩, ⟨N, fun l hl => ?_⟩⟩
  · have := b l hl
    rw [DtAll] at this
    obtain ⟨_, _, e, h1, _⟩ := this
    cases e
    exact h1
  · have := b l hl
    rw [DtAll] at this
    obtain ⟨_, _, e, _, h1⟩ := this
    cases e
    exact h1
theorem DU.rat {H : Hp} {q : Rat} {v : V} (h : DU H (ratD q) v) : ∃ p, v = .ref p ∧ H p = some (.tup (ratV q)) := h.ints (ps := [q.num, (q.den : Int)])
theorem du_rat {H : Hp} {q : Rat} {p : Addr} (h : H p = some (.tup (ratV q))) : DU H (ratD q) (.ref p) := .tup h (.cons .int (.cons .int .nil))
theorem fracs_at {c : Addr} {zs : List V} {H : Hp} (hc : H c = some (.lst zs)) : ∀ {qs : List Rat} {xs : List V}, DUs H (fracsD qs) xs → DtAll c H (fracsD qs) xs
  | [], xs, h => by
    have := h.len
    rw [show fracsD [] = [] from rfl, List.length_nil] at this
    rw [List.eq_nil_of_length_eq_zero this]
    exact .nil
  | q :: qs, xs, h => by
    obtain ⟨x, r, rfl, h1, h2⟩ := DUs.unC h
    obtain ⟨p, rfl, hp⟩ := h1.rat
    exact .cons (.tup (fun z => by subst z; rw [hp] at hc; cases hc) hp (.cons .int (.cons .int .nil))) (fracs_at hc h2)
theorem fracs_but {c : Addr} {zs : List V} {H H' : Hp} (hc : H c = some (.lst zs)) (e : SameBut c H H') {qs : List Rat} {xs : List V} (h : DUs H (fracsD qs) xs) : DUs H' (fracsD qs) xs := dtAll_du (.but e (fracs_at hc h))
theorem row_at {c a : Addr} {zs xs : List V} {H : Hp} {qs : List Rat} (hc : H c = some (.lst zs)) (n : a ≠ c) (ha : H a = some (.lst xs)) (h : DUs H (fracsD qs) xs) : Dt c H (rowD qs) (.ref a) := .lst n ha (fracs_at hc h)
theorem DUs.set {H : Hp} {d : PyData} {v : V} (hv : DU H d v) : ∀ {ds : List PyData} {xs : List V} {j : Nat}, DUs H ds xs → DUs H (ds.set j d) (xs.set j v)
  | [], xs, j, h => by
    have := h.len
    rw [List.length_nil] at this
    rw [List.eq_nil_of_length_eq_zero this]
    exact .nil
  | e :: es, xs, j, h => by
    obtain ⟨x, r, rfl, h1, h2⟩ := h.unC
    cases j with
    | zero => exact .cons hv h2
    | succ j => exact .cons h1 (DUs.set (j := j) hv h2)
theorem DU.tab {H : Hp} {t : Tb} {v : V} (h : DU H (tabD t) v) : ∃ p R L xs ys, v = .ref p ∧ H p = some (.tup [.ref R, .ref L]) ∧ H R = some (.lst xs) ∧ DUs H (rowsD t.rs) xs ∧ H L = some (.lst ys) ∧ DUs H (fracsD t.ls) ys := by
  obtain ⟨p, zs, rfl, hp, h1⟩ := h.unT
  obtain ⟨x, y, rfl, h2, h3⟩ := h1.un2
  obtain ⟨R, xs, rfl, hR, h4⟩ := h2.unL
  obtain ⟨L, ys, rfl, hL, h5⟩ := h3.unL
  exact ⟨p, R, L, xs, ys, rfl, hp, hR, h4, hL, h5⟩
theorem du_tab {H : Hp} {t : Tb} {p R L : Addr} {xs ys : List V} (hp : H p = some (.tup [.ref R, .ref L])) (hR : H R = some (.lst xs)) (h4 : DUs H (rowsD t.rs) xs) (hL : H L = some (.lst ys)) (h5 : DUs H (fracsD t.ls) ys) : DU H (tabD t) (.ref p) :=
  .tup hp (.cons (.lst hR h4) (.cons (.lst hL h5) .nil))
theorem rows_get {H : Hp} {rs : List (List Rat)} {xs : List V} {i : Nat} {r : List Rat} (h : DUs H (rowsD rs) xs) (hr : rs[i]? = some r) : ∃ a ys, xs[i]? = some (.ref a) ∧ H a = some (.lst ys) ∧ DUs H (fracsD r) ys := by
  obtain ⟨v, h1, h2⟩ := h.get (i := i) (d := rowD r) (by rw [rowsD, List.getElem?_map, hr]; rfl)
  obtain ⟨a, ys, rfl, h3, h4⟩ := h2.unL
  exact ⟨a, ys, h1, h3, h4⟩
def Made (H0 : Hp) (D : Addr) (rs : List (List Rat)) (i : Nat) (ys : List V) (H : Hp) : Prop :=
  Same H0 H ∧ ys.length = i ∧ DtAll D H (rowsD (rs.take i)) ys ∧ ∀ y ∈ ys, ∃ a zs, y = .ref a ∧ a ≠ D ∧ H0 a = none ∧ H a = some (.lst zs)
theorem made_0 {H0 : Hp} {D : Addr} {rs : List (List Rat)} (hD : H0 D = none) : Made H0 D rs 0 [] (upd H0 D (.lst [])) := ⟨same_new hD _, rfl, .nil, fun _ z => (List.not_mem_nil z).elim⟩
theorem made_step {H0 H : Hp} {D l : Addr} {rs : List (List Rat)} {i : Nat} {ys zs : List V} {r : List Rat} (hD : H0 D = none) (m : Made H0 D rs i ys H) (hH : H D = some (.lst ys)) (hr : rs[i]? = some r) (hl : H l = none) (hz : DUs H (fracsD r) zs) :
    upd H l (.lst zs) D = some (.lst ys) ∧ Made H0 D rs (i + 1) (ys ++ [.ref l]) (upd (upd H l (.lst zs)) D (.lst (ys ++ [.ref l]))) := by
  obtain ⟨e, hyl, d, n⟩ := m
  have nl : l ≠ D := fun z => by subst z; rw [hH] at hl; cases hl
  have e1 := same_new hl (.lst zs)
  have hl1 : upd H l (.lst zs) l = some (.lst zs) := upd_same
  generalize upd H l (.lst zs) = H1 at e1 hl1
  have hD1 := e1 _ _ hH
  have hl0 : H0 l = none := by
    cases hx : H0 l with
    | none => rfl
    | some o => have := e _ _ hx; rw [hl] at this; cases this
  refine ⟨hD1, fun b o z => ?_, by simp [hyl], ?_, fun y hy => ?_⟩
  · rw [upd_ne (ne_of_none z hD)]
    exact e1 _ _ (e _ _ z)
  · rw [List.take_add_one, hr, rowsD, List.map_append]
    exact .but .upd ((d.same e1).app (.cons (row_at hD1 nl hl1 (hz.same e1)) .nil))
  · rcases List.mem_append.mp hy with hy | hy
    · obtain ⟨a, ws, rfl, na, h0, h1⟩ := n y hy
      exact ⟨a, ws, rfl, na, h0, by rw [upd_ne na]; exact e1 _ _ h1⟩
    · rw [List.mem_singleton.mp hy]
      exact ⟨l, zs, rfl, nl, hl0, by rw [upd_ne nl]; exact hl1⟩
def Anew (H H' : Hp) (v : V) : Prop := ∃ t R L xs zs, v = .ref t ∧ H' t = some (.tup [.ref R, .ref L]) ∧ H' R = some (.lst xs) ∧ H R = none ∧ H' L = some (.lst zs) ∧ H L = none ∧ ∀ x ∈ xs, ∃ r ws, x = .ref r ∧ r ≠ R ∧ H r = none ∧ H' r = some (.lst ws)
theorem fracs_app (a b : List Rat) : fracsD (a ++ b) = fracsD a ++ fracsD b := List.map_append
def spRefTab : Sp := fun vs H Q _ => ∃ (v : V) (t : Tb) (m : Nat), vs = [v] ∧ DU H (tabD t) v ∧ t.Ok m ∧ m ≤ 40 ∧ ∀ H', Same H H' → Q .non H'
def spRefMany : Sp := fun vs H Q _ => ∃ (p : Addr) (ts : List Tb) (xs : List V), vs = [.ref p] ∧ H p = some (.lst xs) ∧ DUs H (ts.map tabD) xs ∧ ts.length ≤ 40 ∧ (ts.map fun t => (t.rs.length : Int)).sum ≤ 40 ∧ ∀ H', Same H H' → Q .non H'
section
variable {P : Program} {w : World} {K : PySem.W.Frag} {mg : Str → Option Value} {base : Heap} {f g g1 g2 g3 : Addr} {fd gd gd1 gd2 gd3 : FuncData}
theorem sc_refuse_no_table : FnScope ["thing"] ["thing"] (defScope s_refuse_no_table) := ⟨rfl, rfl, rfl, by decide +kernel, rfl, by decide +kernel, by decide +kernel⟩
theorem ok_refuse_no_table (F : Fn K mg "refuse_no_table" s_refuse_no_table ["thing"] f fd) (T_is_table : Fn K mg "is_table" s_is_table ["thing"] g1 gd1)
    (G_is_table : FnOk P w K mg base CX0 5 g1 gd1 ["thing"] spIsTab) : FnOk P w K mg base CX0 6 f fd ["thing"] spRefTab := by
  have sc := sc_refuse_no_table
  refine F.F.ok (k := 5) sc (fun vs H Q E h => ?_) (fun cdv A outer s H vs Q E hr h => ?_)
  · obtain ⟨v, t, m, rfl, _⟩ := h
    rfl
  obtain ⟨v, t, m, rfl, ⟨N, b⟩, ok, hm, q⟩ := h
  refine ⟨_, (pss_one (ps_if (pt_not (pt_val (pe_fn T_is_table G_is_table hr rfl (pa_cons (pv 0) pa_nil))))
    (pss_one ps_never)
    pss_nil)), ?_⟩
  refine ⟨_, rfl, N, tabD t, v, rfl, b N (Nat.le_refl _), fun H' e => ?_⟩
  rw [ok.is hm]
  exact ⟨_, rfl, iteF (q H' e)⟩
theorem sc_refuse_too_many_rows : FnScope ["tables"] ["tables"] (defScope s_refuse_too_many_rows) := ⟨rfl, rfl, rfl, by decide +kernel, rfl, by decide +kernel, by decide +kernel⟩
theorem ok_refuse_too_many_rows {tk : Tok} (F : Fn K mg "refuse_too_many_rows" s_refuse_too_many_rows ["tables"] f fd) (m_MOST_ROWS : mg "MOST_ROWS" = some (.int 40 tk)) (z_sum : mg "sum" = none) (z_len : mg "len" = none) : FnOk P w K mg base CX0 1 f fd ["tables"] spRefMany := by
  have sc := sc_refuse_too_many_rows
  refine F.F.ok (k := 0) sc (fun vs H Q E h => ?_) (fun cdv A outer s H vs Q E hr h => ?_)
  · obtain ⟨p, ts, xs, rfl, _⟩ := h
    rfl
  obtain ⟨p, ts, xs, rfl, hp, du, hl, hs, q⟩ := h
  have hxl : xs.length = ts.length := by rw [du.len, List.length_map]
  refine ⟨_, (pss_one (ps_if (pt_cmpR op_gt (pe_callB (call_sum rfl) rfl z_sum PyProof.Rows.boot_sum (pa_cons (pe_compr [".0", "table"] 1 [none, none] (pi_list (pv 0)) (fun _ _ _ _ _ => pif_nil) (fun _ _ _ _ _ => (pe_callB call_len_seqC rfl z_len PySem.boot_len (pa_cons (pe_ix ix_tupC (pv 1) pe_int (fun _ _ => rfl)) pa_nil)))) pa_nil)) (pe_glob (v := .int 40) rfl m_MOST_ROWS ⟨_, rfl⟩) (nomark _))
    (pss_one ps_never)
    pss_nil)), ?_⟩
  refine ⟨_, rfl, p, rfl, ⟨_, SqL.of hp⟩, fun D hD => comp_by (n := xs.length) (fun i ys H' => Same H H' ∧ ys = ((ts.take i).map fun t => (t.rs.length : Int)).map V.int) ?_ ?_ ?_⟩
  · exact ⟨same_new hD _, rfl⟩
  · rintro i ys H1 hi ⟨e1, rfl⟩ hD1
    obtain ⟨t, ht⟩ : ∃ t, ts[i]? = some t := ⟨ts[i]'(by omega), List.getElem?_eq_getElem _⟩
    obtain ⟨v, hv, dv⟩ := du.get (i := i) (d := tabD t) (by rw [List.getElem?_map, ht]; rfl)
    obtain ⟨a, R, L, rs, ls, rfl, ha, hR, dR, hL, dL⟩ := dv.tab
    refine ⟨⟨xs, .ref a, SqL.of (e1 _ _ hp), hv⟩, sz60 (n := 60) (by simp; omega) (by decide), fun x H' y => ?_⟩
    obtain ⟨rfl, y⟩ := y
    have hx := y xs (SqL.of (e1 _ _ hp))
    rw [hv] at hx
    cases hx
    unfold tNoIf
    refine iteT ⟨_, rfl, _, _, _, _, rfl, rfl, SqT.of (e1 _ _ ha), rfl, _, _, rfl, .inl (SqL.of (e1 _ _ hR)), hD1, cw_next hi ⟨fun b o z => ?_, ?_⟩⟩
    · rw [upd_ne (ne_of_none z hD)]
      exact e1 _ _ z
    · rw [List.take_add_one, ht, List.map_append, List.map_append, dR.len, rows_len]
      rfl
  · rintro ys H1 ⟨e1, rfl⟩ hD1
    rw [hxl, List.take_length] at hD1
    refine ⟨⟨xs, SqL.of (e1 _ _ hp), Nat.le_refl _⟩, _, _, rfl, SqL.of hD1, _, _, rfl, rfl, _, rfl, ite2 (fun c => ?_) (fun _ => q _ e1)⟩
    have c' : (40 : Int) < (ts.map fun t => (t.rs.length : Int)).sum := of_decide_eq_true c
    omega
end
def spBehind : Sp := fun vs H Q _ => ∃ (v w : V) (a b : Tb) (m n : Nat), vs = [v, w] ∧ DU H (tabD a) v ∧ DU H (tabD b) w ∧ a.Ok m ∧ b.Ok n ∧ m + n ≤ 40 ∧ ∀ v' H', Same H H' → Anew H H' v' → DU H' (tabD (a.behind b)) v' → Q v' H'
def spCopy : Sp := fun vs H Q _ => ∃ (v : V) (a : Tb) (m : Nat), vs = [v] ∧ DU H (tabD a) v ∧ a.Ok m ∧ m ≤ 40 ∧ ∀ v' H', Same H H' → DU H' (tabD a) v' → Q v' H'
theorem nback {H H' : Hp} {a : Addr} (e : Same H H') (h : H' a = none) : H a = none := by
  cases hx : H a with
  | none => rfl
  | some o => have := e _ _ hx; rw [h] at this; cases this
theorem sm_le {a b : Nat} (h : a + b ≤ 60) : a + b ≤ sizeLine := sz60' h
section
variable {P : Program} {w : World} {K : PySem.W.Frag} {mg : Str → Option Value} {base : Heap} {f g g1 g2 g3 : Addr} {fd gd gd1 gd2 gd3 : FuncData}
theorem sc_table_behind : FnScope ["one", "other", "rows"] ["one", "other"] (defScope s_table_behind) := ⟨rfl, rfl, rfl, by decide +kernel, rfl, by decide +kernel, by decide +kernel⟩
theorem ok_table_behind (F : Fn K mg "table_behind" s_table_behind ["one", "other"] f fd) (T_refuse_no_table : Fn K mg "refuse_no_table" s_refuse_no_table ["thing"] g1 gd1) (T_refuse_too_many_rows : Fn K mg "refuse_too_many_rows" s_refuse_too_many_rows ["tables"] g2 gd2)
    (G_refuse_no_table : FnOk P w K mg base CX0 6 g1 gd1 ["thing"] spRefTab) (G_refuse_too_many_rows : FnOk P w K mg base CX0 6 g2 gd2 ["tables"] spRefMany) (z_list : mg "list" = none) : FnOk P w K mg base CX0 7 f fd ["one", "other"] spBehind := by
  have sc := sc_table_behind
  refine F.F.ok (k := 6) sc (fun vs H Q E h => ?_) (fun cdv A outer s H vs Q E hr h => ?_)
  · obtain ⟨v, w, a, b, m, n, rfl, _⟩ := h
    rfl
  obtain ⟨v, w, a, b, m, n, rfl, da, db, oa, ob, hmn, q⟩ := h
  refine ⟨_, (pss_cons (ps_expr (pe_fn T_refuse_no_table G_refuse_no_table hr rfl (pa_cons (pv 0) pa_nil)))
  (pss_cons (ps_expr (pe_fn T_refuse_no_table G_refuse_no_table hr rfl (pa_cons (pv 1) pa_nil)))
  (pss_cons (ps_expr (pe_fn T_refuse_too_many_rows G_refuse_too_many_rows hr rfl (pa_cons (pe_lst (pa_cons (pv 0) (pa_cons (pv 1) pa_nil))) pa_nil)))
  (pss_cons (ps_set (i := 2) sc.nd rfl (Or.inl rfl) (pe_op op_cat (pe_compr [".0", "row"] 1 [none, none] (pi_list (pe_ix ix_tup (pv 0) pe_int (fun _ _ => rfl))) (fun _ _ _ _ _ => pif_nil) (fun _ _ _ _ _ => (pe_callTy call_list_ofC rfl z_list PyProof.Rows.boot_list (pa_cons (pv 1) pa_nil)))) (pe_compr [".0", "row", "one"] 1 [none, none, some 0] (pi_list (pe_ix ix_tup (pv 1) pe_int (fun _ _ => rfl))) (fun _ _ _ _ _ => pif_nil) (fun _ _ _ _ _ => (pe_op op_cat (pe_ix ix_tupC (pv 2) pe_int (fun _ _ => rfl)) (pv 1))))))
  (pss_one (ps_ret (pe_tup (pa_cons (pv 2) (pa_cons (pe_op op_cat (pe_ix ix_tup (pv 0) pe_int (fun _ _ => rfl)) (pe_ix ix_tup (pv 1) pe_int (fun _ _ => rfl))) pa_nil))))))))), ?_⟩
  refine ⟨_, rfl, v, a, m, rfl, da, oa, by omega, fun H1 e1 => ?_⟩
  refine ⟨_, rfl, w, b, n, rfl, db.same e1, ob, by omega, fun H2 e2 => ?_⟩
  refine ⟨_, rfl, _, rfl, sz60' (show 2 ≤ 60 by decide), fun p hp => ?_⟩
  have E2 := e1.trans e2
  generalize hH : upd _ p _ = H3
  obtain ⟨e3, _, h3⟩ := du_l hH hp (.cons (da.same E2) (.cons (db.same E2) .nil))
  clear hH hp
  have E3 := E2.trans e3
  refine ⟨p, [a, b], _, rfl, h3, .cons (da.same E3) (.cons (db.same E3) .nil), (show 2 ≤ 40 by decide), ?_, fun H4 e4 => ?_⟩
  · have h1 := oa.most
    have h2 := ob.most
    simp only [List.map_cons, List.map_nil, List.sum_cons, List.sum_nil]
    omega
  have E4 := E3.trans e4
  obtain ⟨p1, R1, L1, xs1, ys1, rfl, hp1, hR1, dR1, hL1, dL1⟩ := (da.same E4).tab
  obtain ⟨p2, R2, L2, xs2, ys2, rfl, hp2, hR2, dR2, hL2, dL2⟩ := (db.same E4).tab
  clear e1 e2 e3 e4 E2 E3 h3 da db
  have l1 : xs1.length = a.rs.length := by rw [dR1.len, rows_len]
  have l2 : xs2.length = b.rs.length := by rw [dR2.len, rows_len]
  have y1 : ys1.length = a.rs.length := by rw [dL1.len, fracs_len, oa.last]
  have y2 : ys2.length = b.rs.length := by rw [dL2.len, fracs_len, ob.last]
  have ma := oa.most
  have mb := ob.most
  refine ⟨_, rfl, _, _, _, _, rfl, rfl, SqT.of hp1, rfl, R1, rfl, ⟨_, SqL.of hR1⟩, fun D hD => comp_by (n := xs1.length) (Made H4 D a.rs) (made_0 hD) ?_ ?_⟩
  · rintro i ys H5 hi mk hD5
    have e5 := mk.1
    have hr : a.rs[i]? = some (a.rs[i]'(by omega)) := List.getElem?_eq_getElem _
    obtain ⟨r, zs, g1, g2, g3⟩ := rows_get dR1 hr
    refine ⟨⟨xs1, .ref r, SqL.of (e5 _ _ hR1), g1⟩, sz60 (n := 60) (by rw [mk.2.1]; omega) (by decide), fun x H' y => ?_⟩
    obtain ⟨rfl, y⟩ := y
    have hx := y xs1 (SqL.of (e5 _ _ hR1))
    rw [g1] at hx
    cases hx
    unfold tNoIf
    refine iteT ⟨_, rfl, r, zs, rfl, .inl (SqL.of (e5 _ _ g2)), fun l hl => ?_⟩
    obtain ⟨k1, k2⟩ := made_step hD mk hD5 hr hl (g3.same e5)
    exact ⟨k1, cw_next hi k2⟩
  rintro zs1 H5 ⟨e5, zl1, d5, n5⟩ hD5
  refine ⟨⟨xs1, SqL.of (e5 _ _ hR1), Nat.le_refl _⟩, ?_⟩
  rw [l1, List.take_length] at d5
  have d5 := dtAll_du d5
  refine ⟨_, rfl, _, _, _, _, rfl, rfl, SqT.of (e5 _ _ hp2), rfl, R2, rfl, ⟨_, SqL.of (e5 _ _ hR2)⟩, fun D2 hD2 => comp_by (n := xs2.length) (Made H5 D2 (b.rs.map (a.ls ++ ·))) (made_0 hD2) ?_ ?_⟩
  · rintro i ys H6 hi mk hD6
    have e6 := mk.1
    have E6 := e5.trans e6
    have hr : b.rs[i]? = some (b.rs[i]'(by omega)) := List.getElem?_eq_getElem _
    have hrl := ob.row _ _ hr
    obtain ⟨r, zs, g1, g2, g3⟩ := rows_get dR2 hr
    refine ⟨⟨xs2, .ref r, SqL.of (E6 _ _ hR2), g1⟩, sz60 (n := 60) (by rw [mk.2.1]; omega) (by decide), fun x H' y => ?_⟩
    obtain ⟨rfl, y⟩ := y
    have hx := y xs2 (SqL.of (E6 _ _ hR2))
    rw [g1] at hx
    cases hx
    unfold tNoIf
    refine iteT ⟨_, rfl, _, _, _, _, rfl, rfl, SqT.of (E6 _ _ hp1), rfl, _, rfl, L1, r, ys1, zs, rfl, rfl, E6 _ _ hL1, E6 _ _ g2, sm_le (by rw [g3.len, fracs_len]; omega), fun l hl => ?_⟩
    obtain ⟨k1, k2⟩ := made_step (r := a.ls ++ b.rs[i]'(by omega)) hD2 mk hD6 (by rw [List.getElem?_map, hr]; rfl) hl (by rw [fracs_app]; exact (dL1.same E6).app (g3.same E6))
    exact ⟨k1, cw_next hi k2⟩
  rintro zs2 H6 ⟨e6, zl2, d6, n6⟩ hD6
  have E6 := e5.trans e6
  refine ⟨⟨xs2, SqL.of (E6 _ _ hR2), Nat.le_refl _⟩, ?_⟩
  rw [l2, ← List.length_map (f := (a.ls ++ ·)) (as := b.rs), List.take_length] at d6
  have d6 := dtAll_du d6
  refine ⟨D, D2, zs1, zs2, rfl, rfl, e6 _ _ hD5, hD6, sm_le (by omega), fun R hR => ?_⟩
  generalize hH : upd _ R _ = H7
  obtain ⟨e7, _, h7⟩ := du_l hH hR ((d5.same e6).app d6)
  clear hH
  have E7 := E6.trans e7
  refine ⟨_, rfl, _, rfl, _, _, _, _, rfl, rfl, SqT.of (E7 _ _ hp1), rfl, _, rfl, _, _, _, _, rfl, rfl, SqT.of (E7 _ _ hp2), rfl, L1, L2, ys1, ys2, rfl, rfl, E7 _ _ hL1, E7 _ _ hL2, sm_le (by omega), fun L hL => ?_⟩
  generalize hH : upd _ L _ = H8
  obtain ⟨e8, _, h8⟩ := du_l hH hL ((dL1.same E7).app (dL2.same E7))
  clear hH
  refine ⟨sz60' (show 2 ≤ 60 by decide), fun t ht => ?_⟩
  have e9 := same_new ht (.tup [V.ref R, V.ref L])
  have h9 : upd H8 t (.tup [V.ref R, V.ref L]) t = some (.tup [V.ref R, V.ref L]) := upd_same
  generalize upd H8 t (.tup [V.ref R, V.ref L]) = H9 at e9 h9
  have E8 := E7.trans e8
  refine q _ H9 (E4.trans (E8.trans e9)) ⟨t, R, L, _, _, rfl, h9, e9 _ _ (e8 _ _ h7), nback E4 (nback E6 hR), e9 _ _ h8, nback E4 (nback E7 hL), fun x hx => ?_⟩ (du_tab h9 (e9 _ _ (e8 _ _ h7)) ?_ (e9 _ _ h8) ?_)
  · rcases List.mem_append.mp hx with hx | hx
    · obtain ⟨r, ws, rfl, _, g1, g2⟩ := n5 x hx
      have g3 := e6 _ _ g2
      exact ⟨r, ws, rfl, ne_of_none g3 hR, nback E4 g1, e9 _ _ (e8 _ _ (e7 _ _ g3))⟩
    · obtain ⟨r, ws, rfl, _, g1, g2⟩ := n6 x hx
      exact ⟨r, ws, rfl, ne_of_none g2 hR, nback E4 (nback e5 g1), e9 _ _ (e8 _ _ (e7 _ _ g2))⟩
  · show DUs H9 (rowsD (a.rs ++ b.rs.map (a.ls ++ ·))) _
    rw [rowsD, List.map_append]
    exact ((d5.same e6).app d6).same (e7.trans (e8.trans e9))
  · show DUs H9 (fracsD (a.ls ++ b.ls)) _
    rw [fracs_app]
    exact ((dL1.same E7).app (dL2.same E7)).same (e8.trans e9)
theorem sc__law_copy : FnScope ["_law_table_here"] ["_law_table_here"] (defScope s__law_copy) := ⟨rfl, rfl, rfl, by decide +kernel, rfl, by decide +kernel, by decide +kernel⟩
theorem ok__law_copy (F : Fn K mg "_law_copy" s__law_copy ["_law_table_here"] f fd) (z_list : mg "list" = none) : FnOk P w K mg base CX0 1 f fd ["_law_table_here"] spCopy := by
  have sc := sc__law_copy
  refine F.F.ok (k := 0) sc (fun vs H Q E h => ?_) (fun cdv A outer s H vs Q E hr h => ?_)
  · obtain ⟨v, a, m, rfl, _⟩ := h
    rfl
  obtain ⟨v, a, m, rfl, da, oa, hm, q⟩ := h
  refine ⟨_, (pss_one (ps_ret (pe_tup (pa_cons (pe_compr [".0", "_law_row_here"] 1 [none, none] (pi_list (pe_ix ix_tup (pv 0) pe_int (fun _ _ => rfl))) (fun _ _ _ _ _ => pif_nil) (fun _ _ _ _ _ => (pe_callTy call_list_ofC rfl z_list PyProof.Rows.boot_list (pa_cons (pv 1) pa_nil)))) (pa_cons (pe_callTy call_list_of rfl z_list PyProof.Rows.boot_list (pa_cons (pe_ix ix_tup (pv 0) pe_int (fun _ _ => rfl)) pa_nil)) pa_nil))))), ?_⟩
  obtain ⟨p1, R1, L1, xs1, ys1, rfl, hp1, hR1, dR1, hL1, dL1⟩ := da.tab
  have l1 : xs1.length = a.rs.length := by rw [dR1.len, rows_len]
  have ma := oa.most
  refine ⟨_, rfl, _, _, _, _, rfl, rfl, SqT.of hp1, rfl, R1, rfl, ⟨_, SqL.of hR1⟩, fun D hD => comp_by (n := xs1.length) (Made H D a.rs) (made_0 hD) ?_ ?_⟩
  · rintro i ys H5 hi mk hD5
    have e5 := mk.1
    have hr : a.rs[i]? = some (a.rs[i]'(by omega)) := List.getElem?_eq_getElem _
    obtain ⟨r, zs, g1, g2, g3⟩ := rows_get dR1 hr
    refine ⟨⟨xs1, .ref r, SqL.of (e5 _ _ hR1), g1⟩, sz60 (n := 60) (by rw [mk.2.1]; omega) (by decide), fun x H' y => ?_⟩
    obtain ⟨rfl, y⟩ := y
    have hx := y xs1 (SqL.of (e5 _ _ hR1))
    rw [g1] at hx
    cases hx
    unfold tNoIf
    refine iteT ⟨_, rfl, r, zs, rfl, .inl (SqL.of (e5 _ _ g2)), fun l hl => ?_⟩
    obtain ⟨k1, k2⟩ := made_step hD mk hD5 hr hl (g3.same e5)
    exact ⟨k1, cw_next hi k2⟩
  rintro zs1 H5 ⟨e5, zl1, d5, n5⟩ hD5
  refine ⟨⟨xs1, SqL.of (e5 _ _ hR1), Nat.le_refl _⟩, ?_⟩
  rw [l1, List.take_length] at d5
  have d5 := dtAll_du d5
  refine ⟨_, rfl, _, _, _, _, rfl, rfl, SqT.of (e5 _ _ hp1), rfl, L1, ys1, rfl, .inl (SqL.of (e5 _ _ hL1)), fun L hL => ?_⟩
  generalize hH : upd _ L _ = H8
  obtain ⟨e8, _, h8⟩ := du_l hH hL (dL1.same e5)
  clear hH
  refine ⟨sz60' (show 2 ≤ 60 by decide), fun t ht => ?_⟩
  have e9 := same_new ht (.tup [V.ref D, V.ref L])
  have h9 : upd H8 t (.tup [V.ref D, V.ref L]) t = some (.tup [V.ref D, V.ref L]) := upd_same
  generalize upd H8 t (.tup [V.ref D, V.ref L]) = H9 at e9 h9
  exact q _ H9 (e5.trans (e8.trans e9)) (du_tab h9 (e9 _ _ (e8 _ _ hD5)) (d5.same (e8.trans e9)) (e9 _ _ h8) (dL1.same (e5.trans (e8.trans e9))))
end
def spRow : Sp := fun vs H Q _ => ∃ (v w : V) (r : List Rat), vs = [v, w] ∧ DU H (rowD r) v ∧ DU H (rowD r) w ∧ r.length ≤ 60 ∧ ∀ H', Same H H' → Q (.bl true) H'
def spGoodT : Sp := fun vs H Q _ => ∃ (v w : V) (t : Tb) (m : Nat), vs = [v, w] ∧ DU H (tabD t) v ∧ DU H (tabD t) w ∧ t.Ok m ∧ m ≤ 40 ∧ ∀ H', Same H H' → Q (.bl true) H'
theorem fracs_get {H : Hp} {qs : List Rat} {xs : List V} {i : Nat} {x : V} (h : DUs H (fracsD qs) xs) (hx : xs[i]? = some x) : ∃ q p, x = .ref p ∧ qs[i]? = some q ∧ H p = some (.tup (ratV q)) := by
  have hl := h.len
  rw [fracs_len] at hl
  have hi : i < qs.length := by rw [← hl]; exact (List.getElem?_eq_some_iff.mp hx).1
  have hq : qs[i]? = some qs[i] := by simp [hi]
  obtain ⟨v, h1, h2⟩ := h.get (i := i) (d := ratD qs[i]) (by rw [fracsD, List.getElem?_map, hq]; rfl)
  rw [hx] at h1
  cases h1
  obtain ⟨p, rfl, hp⟩ := h2.rat
  exact ⟨_, p, rfl, hq, hp⟩
theorem nil_ok : Ok 1 (.list []) := (Sm.lst (n := 0) (ds := []) (Nat.le_of_ble_eq_true rfl) fun _ z => (List.not_mem_nil z).elim).ok
section
variable {P : Program} {w : World} {K : PySem.W.Frag} {mg : Str → Option Value} {base : Heap} {f g g1 g2 g3 : Addr} {fd gd gd1 gd2 gd3 : FuncData}
theorem sc__law_row : FnScope ["_law_found", "_law_due", "_law_part"] ["_law_found", "_law_due"] (defScope s__law_row) := ⟨rfl, rfl, rfl, by decide +kernel, rfl, by decide +kernel, by decide +kernel⟩
theorem ok__law_row (F : Fn K mg "_law_row" s__law_row ["_law_found", "_law_due"] f fd) (z_isinstance : mg "isinstance" = none) (z_list : mg "list" = none) (z_tuple : mg "tuple" = none) (z_int : mg "int" = none) (z_bool : mg "bool" = none) : FnOk P w K mg base CX0 1 f fd ["_law_found", "_law_due"] spRow := by
  have sc := sc__law_row
  refine F.F.ok (k := 0) sc (fun vs H Q E h => ?_) (fun cdv A outer s H vs Q E hr h => ?_)
  · obtain ⟨v, w, r, rfl, _⟩ := h
    rfl
  obtain ⟨v, w, r, rfl, dv, dw, hr6, q⟩ := h
  refine ⟨_, (pss_cons (ps_if (PW.pt (pw_or (pt_not (pt_val (pe_callB call_isi rfl z_isinstance PyProof.Rows.boot_isinstance (pa_cons (pv 0) (pa_cons (pe_bltn (v := .ty "list") rfl z_list PyProof.Rows.boot_list rfl) pa_nil))))) (pw_or1 (pt_cmpR (op_neD (by have := hr.units; exact this)) (pv 0) (pv 1) (nomark _)))))
    (pss_one (ps_ret pe_bl))
    pss_nil)
  (pss_cons (ps_for PassesOwn.never rfl (pi_list (pv 0)) (pg_name (i := 2) sc.nd rfl (Or.inl rfl))
    (pss_cons (ps_if (pt_not (pt_val (pe_callB call_isi rfl z_isinstance PyProof.Rows.boot_isinstance (pa_cons (pv 2) (pa_cons (pe_bltn (v := .ty "tuple") rfl z_tuple PyProof.Rows.boot_tuple rfl) pa_nil)))))
      (pss_one (ps_ret pe_bl))
      pss_nil)
    (pss_one (ps_if (pt_cmpR (op_neD (by have := hr.units; exact this)) (pe_compr [".0", "_law_one"] 1 [none, none] (pi_tup (pv 2)) (fun _ _ _ _ _ => (pif_one (PW.pt (pw_or (pt_not (pt_val (pe_callB call_isiC rfl z_isinstance PyProof.Rows.boot_isinstance (pa_cons (pv 1) (pa_cons (pe_bltn (v := .ty "int") rfl z_int PyProof.Rows.boot_int rfl) pa_nil))))) (pw_or1 (pt_val (pe_callB call_isiC rfl z_isinstance PyProof.Rows.boot_isinstance (pa_cons (pv 1) (pa_cons (pe_bltn (v := .ty "bool") rfl z_bool PyProof.Rows.boot_bool rfl) pa_nil))))))))) (fun _ _ _ _ _ => (pv 1))) (pe_lst pa_nil) (nomark _))
      (pss_one (ps_ret pe_bl))
      pss_nil))))
  (pss_one (ps_ret pe_bl)))), ?_⟩
  have sm := row_sm hr6
  have z := eqv_self _ sm.ok.1
  obtain ⟨a, xs, rfl, ha, dx⟩ := dv.unL
  refine ⟨_, rfl, _, _, _, _, rfl, nnt, TyOf.lst ha, kit_ll K, true, rfl, iteF ⟨_, rfl, _, rfl, _, _, dv.br, dw.br, sm.ok.shaped (by decide), sm.ok.shaped (by decide), _, rfl, ?_⟩⟩
  have z' : (if true = true then !PyData.eqv (rowD r) (rowD r) else PyData.eqv (rowD r) (rowD r)) = false := by rw [z]; rfl
  first
    | rw [z']
    | rw [z]
    | skip
  refine iteF ⟨_, rfl, a, rfl, ⟨_, SqL.of ha⟩, for_list (xs := xs) (fun i σ H' => ∃ r2, σ = [some (.ref a), some w, r2] ∧ Same H H') ?_ ?_ ?_ ?_⟩
  · exact ⟨_, rfl, .refl _⟩
  · rintro i σ H' _ ⟨r2, rfl, e⟩
    exact SqL.of (e _ _ ha)
  · rintro i x σ H1 hx ⟨r2, rfl, e1⟩
    obtain ⟨qq, p, rfl, _, hp⟩ := fracs_get dx hx
    have hp := e1 _ _ hp
    refine ⟨_, rfl, _, _, _, _, rfl, nnt, TyOf.tup hp, kit_tt K, true, rfl, iteF ?_⟩
    refine ⟨_, rfl, p, rfl, ⟨_, SqT.of hp⟩, fun D hD => comp_by (n := 2) (fun i ys H' => Same H1 H' ∧ ys = []) ?_ ?_ ?_⟩
    · exact ⟨same_new hD _, rfl⟩
    · rintro j ys H2 hj ⟨e2, rfl⟩ hD2
      have hc : ∃ c : Int, (ratV qq)[j]? = some (.int c) := by
        match j, hj with
        | 0, _ => exact ⟨_, rfl⟩
        | 1, _ => exact ⟨_, rfl⟩
      obtain ⟨c, hc⟩ := hc
      refine ⟨⟨ratV qq, .int c, SqT.of (e2 _ _ hp), hc⟩, sz60 (n := 60) (by decide) (by decide), fun x H' y => ?_⟩
      obtain ⟨rfl, y⟩ := y
      have hx := y _ (SqT.of (e2 _ _ hp))
      rw [hc] at hx
      cases hx
      refine ⟨_, rfl, _, _, _, _, rfl, nnt, TyOf.int _, kit_ii K, true, rfl, iteF ⟨_, rfl, _, _, _, _, rfl, nnt, TyOf.int _, kit_ib K, _, rfl, iteF ?_⟩⟩
      exact cw_skip hj hD2 ⟨e2, rfl⟩
    · rintro ys H2 ⟨e2, rfl⟩ hD2
      refine ⟨⟨ratV qq, SqT.of (e2 _ _ hp), Nat.le_refl _⟩, sz60' (show 0 ≤ 60 by decide), fun p2 hp2 => ?_⟩
      generalize hH : upd _ p2 _ = H3
      obtain ⟨e3, d3, _⟩ := du_l hH hp2 DUs.nil
      clear hH hp2
      refine ⟨_, _, (DU.lst (e3 _ _ hD2) DUs.nil).br, d3.br, nil_ok.shaped (by decide), nil_ok.shaped (by decide), _, rfl, iteF ?_⟩
      exact ⟨_, rfl, e1.trans (e2.trans e3)⟩
  · rintro σ H1 ⟨r2, rfl, e1⟩
    exact q _ e1
theorem sc__law_good : FnScope ["_law_found", "_law_due"] ["_law_found", "_law_due"] (defScope s__law_good) := ⟨rfl, rfl, rfl, by decide +kernel, rfl, by decide +kernel, by decide +kernel⟩
theorem ok__law_good (F : Fn K mg "_law_good" s__law_good ["_law_found", "_law_due"] f fd) (T__law_row : Fn K mg "_law_row" s__law_row ["_law_found", "_law_due"] g1 gd1) (G__law_row : FnOk P w K mg base CX0 1 g1 gd1 ["_law_found", "_law_due"] spRow)
    (z_isinstance : mg "isinstance" = none) (z_list : mg "list" = none) (z_tuple : mg "tuple" = none) (z_len : mg "len" = none) (z_range : mg "range" = none) (z_all : mg "all" = none) : FnOk P w K mg base CX0 2 f fd ["_law_found", "_law_due"] spGoodT := by
  have sc := sc__law_good
  refine F.F.ok (k := 1) sc (fun vs H Q E h => ?_) (fun cdv A outer s H vs Q E hr h => ?_)
  · obtain ⟨v, w, t, m, rfl, _⟩ := h
    rfl
  obtain ⟨v, w, t, m, rfl, dv, dw, ok, hm, q⟩ := h
  refine ⟨_, (pss_cons (ps_if (PW.pt (pw_or (pt_not (pt_val (pe_callB call_isi rfl z_isinstance PyProof.Rows.boot_isinstance (pa_cons (pv 0) (pa_cons (pe_bltn (v := .ty "tuple") rfl z_tuple PyProof.Rows.boot_tuple rfl) pa_nil))))) (pw_or (pt_cmpR op_ne (pe_callB call_len_seq rfl z_len PySem.boot_len (pa_cons (pv 0) pa_nil)) pe_int (nomark _)) (pw_or1 (pt_not (pt_val (pe_callB call_isi rfl z_isinstance PyProof.Rows.boot_isinstance (pa_cons (pe_ix ix_tup (pv 0) pe_int (fun _ _ => rfl)) (pa_cons (pe_bltn (v := .ty "list") rfl z_list PyProof.Rows.boot_list rfl) pa_nil)))))))))
    (pss_one (ps_ret pe_bl))
    pss_nil)
  (pss_cons (ps_if (PW.pt (pw_or (pt_cmpR op_ne (pe_callB call_len_seq rfl z_len PySem.boot_len (pa_cons (pe_ix ix_tup (pv 0) pe_int (fun _ _ => rfl)) pa_nil)) (pe_callB call_len_seq rfl z_len PySem.boot_len (pa_cons (pe_ix ix_tup (pv 1) pe_int (fun _ _ => rfl)) pa_nil)) (nomark _)) (pw_or1 (pt_not (pt_val (pe_fn T__law_row G__law_row hr rfl (pa_cons (pe_ix ix_tup (pv 0) pe_int (fun _ _ => rfl)) (pa_cons (pe_ix ix_tup (pv 1) pe_int (fun _ _ => rfl)) pa_nil))))))))
    (pss_one (ps_ret pe_bl))
    pss_nil)
  (pss_one (ps_ret (pe_callB (call_all rfl) rfl z_all PyProof.Rows.boot_all (pa_cons (pe_compr [".0", "_law_k", "_law_found", "_law_due"] 1 [none, none, some 0, some 1] (pi_range1 rfl z_range (pa_cons (pe_callB call_len_seq rfl z_len PySem.boot_len (pa_cons (pe_ix ix_tup (pv 1) pe_int (fun _ _ => rfl)) pa_nil)) pa_nil)) (fun _ _ _ _ _ => pif_nil) (fun _ _ _ _ _ => (pe_fn T__law_row G__law_row hr rfl (pa_cons (pe_ix ix_listC (pe_ix ix_tupC (pv 2) pe_int (fun _ _ => rfl)) (pv 1) (fun _ _ => rfl)) (pa_cons (pe_ix ix_listC (pe_ix ix_tupC (pv 3) pe_int (fun _ _ => rfl)) (pv 1) (fun _ _ => rfl)) pa_nil))))) pa_nil)))))), ?_⟩
  obtain ⟨p1, R1, L1, xs1, ys1, rfl, hp1, hR1, dR1, hL1, dL1⟩ := dv.tab
  obtain ⟨p2, R2, L2, xs2, ys2, rfl, hp2, hR2, dR2, hL2, dL2⟩ := dw.tab
  have l1 : xs1.length = t.rs.length := by rw [dR1.len, rows_len]
  have l2 : xs2.length = t.rs.length := by rw [dR2.len, rows_len]
  have mt := ok.most
  have ml := ok.last
  refine ⟨_, rfl, _, _, _, _, rfl, nnt, TyOf.tup hp1, kit_tt K, true, rfl, iteF ⟨_, rfl, p1, _, rfl, .inr (SqT.of hp1), rfl, _, rfl, iteF ⟨_, rfl, _, _, _, _, rfl, rfl, SqT.of hp1, rfl, _, _, _, _, rfl, nnt, TyOf.lst hR1, kit_ll K, true, rfl, iteF ?_⟩⟩⟩
  refine ⟨_, rfl, _, _, _, _, rfl, rfl, SqT.of hp1, rfl, _, _, rfl, .inl (SqL.of hR1), _, rfl, _, _, _, _, rfl, rfl, SqT.of hp2, rfl, _, _, rfl, .inl (SqL.of hR2), rfl, _, rfl, ?_⟩
  rw [l1, l2, show (!decide (V.int (t.rs.length : Nat) = V.int (t.rs.length : Nat))) = false by simp]
  refine iteF ⟨_, rfl, _, _, _, _, rfl, rfl, SqT.of hp1, rfl, _, rfl, _, _, _, _, rfl, rfl, SqT.of hp2, rfl, _, _, t.ls, rfl, .lst hL1 dL1, .lst hL2 dL2, by omega, fun H1 e1 => ⟨_, rfl, iteF ?_⟩⟩
  refine ⟨_, rfl, _, _, _, _, rfl, rfl, SqT.of (e1 _ _ hp2), rfl, _, _, rfl, .inl (SqL.of (e1 _ _ hR2)), (xs2.length : Int), rfl, by omega, by omega, fun D hD => comp_by (n := (xs2.length : Int).toNat) (fun i ys H' => Same H1 H' ∧ ys = (List.replicate i true).map V.bl) ?_ ?_ ?_⟩
  · exact ⟨same_new hD _, rfl⟩
  · rintro i ys H2 hi ⟨e2, rfl⟩ hD2
    have E2 := e1.trans e2
    have hi' : i < t.rs.length := by omega
    have hr : t.rs[i]? = some t.rs[i] := by simp [hi']
    have hrl := ok.row _ _ hr
    obtain ⟨r1, zs1, g1, g2, g3⟩ := rows_get dR1 hr
    obtain ⟨r2, zs2, k1, k2, k3⟩ := rows_get dR2 hr
    refine ⟨hi, sz60 (n := 60) (by simp; omega) (by decide), fun x H' y => ?_⟩
    obtain ⟨rfl, rfl⟩ := y
    unfold tNoIf
    rw [Int.zero_add]
    refine iteT ⟨_, rfl, _, _, _, _, rfl, rfl, SqT.of (E2 _ _ hp1), rfl, _, rfl, _, _, _, _, rfl, rfl, SqL.of (E2 _ _ hR1), atI_nat g1, _, rfl, _, _, _, _, rfl, rfl, SqT.of (E2 _ _ hp2), rfl, _, rfl, _, _, _, _, rfl, rfl, SqL.of (E2 _ _ hR2), atI_nat k1, _, _, t.rs[i], rfl, .lst (E2 _ _ g2) (g3.same E2), .lst (E2 _ _ k2) (k3.same E2), by omega, fun H3 e3 => ?_⟩
    refine ⟨e3 _ _ hD2, cw_next hi ⟨fun b o z => ?_, ?_⟩⟩
    · rw [upd_ne (ne_of_none z hD)]
      exact e3 _ _ (e2 _ _ z)
    · rw [List.replicate_succ', List.map_append]
      rfl
  · rintro ys H2 ⟨e2, rfl⟩ hD2
    refine ⟨Nat.le_refl _, _, _, rfl, SqL.of hD2, ?_⟩
    rw [show (List.replicate (xs2.length : Int).toNat true).all id = true by simp]
    exact q _ (e1.trans e2)
end
def Small (t : Tb) : Prop := (∀ r ∈ t.rs, ∀ q ∈ r, FM.Fits q 60) ∧ ∀ q ∈ t.ls, FM.Fits q 60
def spTab60 : Sp := fun vs H Q _ => ∃ (x : Int) (most : Nat), vs = [.int x, .int most] ∧ 1 ≤ most ∧ most ≤ 5 ∧ ∀ v H' t, Same H H' → DU H' (tabD t) v → t.Ok most → Small t → Q v H'
def Rows (H0 : Hp) (R : Addr) (H : Hp) (i : Nat) : Prop := ∃ rs xs, H R = some (.lst xs) ∧ DtAll R H (rowsD rs) xs ∧ rs.length = i ∧ (∀ (j : Nat) r, rs[j]? = some r → r.length = j) ∧ (∀ r ∈ rs, ∀ q ∈ r, FM.Fits q 60) ∧
  (i ≠ 0 → ∃ rs0 xs0 qs ys A, rs = rs0 ++ [qs] ∧ xs = xs0 ++ [.ref A] ∧ H0 A = none ∧ A ≠ R ∧ H A = some (.lst ys) ∧ DUs H (fracsD qs) ys ∧ (∀ q ∈ qs, FM.Fits q 3) ∧ DtAll R H (rowsD rs0) xs0 ∧ DtAll A H (rowsD rs0) xs0)
theorem rows_0 {H0 : Hp} {R : Addr} {H : Hp} (h : H R = some (.lst [])) : Rows H0 R H 0 := ⟨[], [], h, .nil, rfl, fun j r z => by simp at z, fun r z => (List.not_mem_nil z).elim, fun z => absurd rfl z⟩
theorem rows_step {R A : Addr} {H0 H2 H' : Hp} {xs ys : List V} {rs : List (List Rat)} {qs : List Rat} {i : Nat} (hR : H2 R = some (.lst xs)) (d : DtAll R H2 (rowsD rs) xs) (hl : rs.length = i) (hj : ∀ (j : Nat) r, rs[j]? = some r → r.length = j)
    (hf : ∀ r ∈ rs, ∀ q ∈ r, FM.Fits q 60) (hA0 : H0 A = none) (hA : H2 A = none) (e : Same H2 H') (hA' : H' A = some (.lst ys)) (dy : DUs H' (fracsD qs) ys) (hq : qs.length = i) (hqf : ∀ q ∈ qs, FM.Fits q 3) :
    Rows H0 R (upd H' R (.lst (xs ++ [.ref A]))) (i + 1) := by
  have nA : A ≠ R := fun z => by subst z; rw [hR] at hA; cases hA
  have hR' := e _ _ hR
  have dR := d.same e
  have dA := (dtAll_fresh hA d).same e
  have u : SameBut R H' (upd H' R (.lst (xs ++ [.ref A]))) := .upd
  refine ⟨rs ++ [qs], xs ++ [.ref A], upd_same, ?_, by simp [hl], fun j r hr => ?_, fun r hr q hq => ?_, fun _ => ⟨rs, xs, qs, ys, A, rfl, rfl, hA0, nA, by rw [upd_ne nA]; exact hA', fracs_but hR' u dy, hqf, dR.but u, dtAll_both u dA dR⟩⟩
  · rw [rowsD, List.map_append]
    exact .but u (dR.app (.cons (row_at hR' nA hA' dy) .nil))
  · by_cases z : j < rs.length
    · rw [List.getElem?_append_left z] at hr
      exact hj j r hr
    · rw [List.getElem?_append_right (by omega)] at hr
      have := (List.getElem?_eq_some_iff.mp hr).1
      rw [List.length_singleton] at this
      rw [show j - rs.length = 0 by omega] at hr
      cases hr
      omega
  · rcases List.mem_append.mp hr with hr | hr
    · exact hf r hr q hq
    · rw [List.mem_singleton.mp hr] at hq
      exact (hqf q hq).mono (by decide)
theorem cut_mem {xs : List V} {lo hi : Option Int} {x : V} (h : x ∈ cutV xs lo hi) : x ∈ xs := List.mem_of_mem_drop (List.mem_of_mem_take h)
theorem fits_neg {p : Rat} {n : Nat} (h : FM.Fits p n) : FM.Fits (-p) n := by
  refine ⟨?_, ?_⟩
  · rw [Rat.neg_num, Int.natAbs_neg]; exact h.1
  · rw [Rat.neg_den]; exact h.2
theorem rat_neg (p : Rat) : [V.int (0 - p.num), V.int (p.den : Int)] = ratV (-p) := by
  rw [ratV, Rat.neg_num, Rat.neg_den, Int.zero_sub]
theorem rat_0 : [V.int 0, V.int 1] = ratV 0 := rfl
theorem rat_1 : [V.int 1, V.int 1] = ratV 1 := rfl
theorem fits_0 : FM.Fits 0 4 := ⟨by decide, by decide⟩
theorem fits_1 : FM.Fits 1 4 := ⟨by decide, by decide⟩
section
variable {P : Program} {w : World} {K : PySem.W.Frag} {mg : Str → Option Value} {base : Heap} {f g g1 g2 g3 : Addr} {fd gd gd1 gd2 gd3 : FuncData}
theorem sc__law_table : FnScope ["_law_rest_here", "_law_most", "_law_many", "_law_mode", "_law_rows", "_law_k", "_law_row_here", "_law_j", "_law_last", "_law_total", "_law_part"] ["_law_rest_here", "_law_most"] (defScope s__law_table) := ⟨rfl, rfl, rfl, by decide +kernel, rfl, by decide +kernel, by decide +kernel⟩
theorem ok__law_table (F : Fn K mg "_law_table" s__law_table ["_law_rest_here", "_law_most"] f fd) (T__law_ratio : Fn K mg "_law_ratio" s__law_ratio ["_law_top", "_law_bottom"] g1 gd1) (T__law_sum : Fn K mg "_law_sum" s__law_sum ["_law_one", "_law_other"] g2 gd2)
    (G__law_ratio : FnOk P w K mg base CX0 3 g1 gd1 ["_law_top", "_law_bottom"] spFr) (G__law_sum : FnOk P w K mg base CX0 3 g2 gd2 ["_law_one", "_law_other"] (spOp K (fun p q => p + q) (fun _ => True))) (z_range : mg "range" = none) : FnOk P w K mg base CX0 4 f fd ["_law_rest_here", "_law_most"] spTab60 := by
  have sc := sc__law_table
  refine F.F.ok (k := 3) sc (fun vs H Q E h => ?_) (fun cdv A outer s H vs Q E hr h => ?_)
  · obtain ⟨x, most, rfl, _⟩ := h
    rfl
  obtain ⟨x, most, rfl, hm1, hm5, q⟩ := h
  refine ⟨_, (pss_cons (ps_set (i := 2) sc.nd rfl (Or.inl rfl) (pe_op op_add pe_int (pe_op op_modN (pv 0) (pv 1))))
  (pss_cons (ps_set (i := 3) sc.nd rfl (Or.inl rfl) (pe_op op_mod (pe_op op_fdivW (pv 0) (pv 1)) pe_int))
  (pss_cons (ps_set (i := 0) sc.nd rfl (Or.inl rfl) (pe_op op_fdivW (pv 0) (pe_op op_mulW pe_int (pv 1))))
  (pss_cons (ps_set (i := 4) sc.nd rfl (Or.inl rfl) (pe_lst pa_nil))
  (pss_cons (ps_for PassesOwn.never rfl (pi_range1 rfl z_range (pa_cons (pe_op op_add (pv 2) pe_int) pa_nil)) (pg_name (i := 5) sc.nd rfl (Or.inl rfl))
    (pss_cons (ps_set (i := 6) sc.nd rfl (Or.inl rfl) (pe_lst pa_nil))
    (pss_cons (ps_for PassesOwn.never rfl (pi_range1 rfl z_range (pa_cons (pv 5) pa_nil)) (pg_name (i := 7) sc.nd rfl (Or.inl rfl))
      (pss_cons (ps_expr (pe_bm PySem.F.plainAttrs_list PySem.F.slot_list_append PySem.F.type_list_append mt_append (pv 6) (pa_cons (pe_fn T__law_ratio G__law_ratio hr rfl (pa_cons (pe_op op_sub (pe_op op_mod (pv 0) pe_int) pe_int) (pa_cons (pe_op op_add pe_int (pe_op op_mod (pe_op op_fdiv (pv 0) pe_int) pe_int)) pa_nil))) pa_nil)))
      (pss_one (ps_set (i := 0) sc.nd rfl (Or.inl rfl) (pe_op op_fdiv (pv 0) pe_int)))))
    (pss_one (ps_expr (pe_bm PySem.F.plainAttrs_list PySem.F.slot_list_append PySem.F.type_list_append mt_append (pv 4) (pa_cons (pv 6) pa_nil)))))))
  (pss_cons (ps_set (i := 8) sc.nd rfl (Or.inl rfl) (pe_bm0 PySem.F.plainAttrs_list PySem.F.slot_list_pop PySem.F.type_list_pop mt_pop (pv 4)))
  (pss_cons (ps_if (pt_cmpR op_gt (pv 3) pe_int (nomark _))
    (pss_cons (ps_set (i := 9) sc.nd rfl (Or.inl rfl) (pe_tup (pa_cons pe_int (pa_cons pe_int pa_nil))))
    (pss_cons (ps_for PassesOwn.never rfl (pi_list (pe_slice sl_list (pv 8) po_none (po_some (pe_un un_neg pe_int)))) (pg_name (i := 10) sc.nd rfl (Or.inl rfl))
      (pss_one (ps_set (i := 9) sc.nd rfl (Or.inl rfl) (pe_fn T__law_sum G__law_sum hr rfl (pa_cons (pv 9) (pa_cons (pv 10) pa_nil))))))
    (pss_one (ps_asg (pe_fn T__law_sum G__law_sum hr rfl (pa_cons (pe_tup (pa_cons pe_int (pa_cons pe_int pa_nil))) (pa_cons (pe_tup (pa_cons (pe_op op_sub pe_int (pe_ix ix_tup (pv 9) pe_int (fun _ _ => rfl))) (pa_cons (pe_ix ix_tup (pv 9) pe_int (fun _ _ => rfl)) pa_nil))) pa_nil))) (pg_sub (pv 8) (pe_un un_neg pe_int) set_list)))))
    pss_nil)
  (pss_one (ps_ret (pe_tup (pa_cons (pv 4) (pa_cons (pv 8) pa_nil)))))))))))), ?_⟩
  have m0 : (most : Int) ≠ 0 := by omega
  refine ⟨_, rfl, _, rfl, _, _, rfl, rfl, m0, _, _, rfl, rfl, ?_⟩
  obtain ⟨many, hn1, hn5, em⟩ : ∃ many : Nat, 1 ≤ many ∧ many ≤ most ∧ 1 + x.fmod most = (many : Int) := by
    have e := Int.fmod_eq_emod_of_nonneg x (show (0 : Int) ≤ (most : Int) by omega)
    have a := Int.emod_nonneg x m0
    have b := Int.emod_lt_of_pos x (show (0 : Int) < (most : Int) by omega)
    exact ⟨(1 + x.fmod most).toNat, by omega, by omega, by omega⟩
  rw [show ((fun i j : Int => V.int (i + j)) 1 (x.fmod most)) = V.int (many : Int) from congrArg V.int em]
  refine ⟨_, rfl, _, rfl, _, _, rfl, rfl, ⟨m0, 8, by decide, by omega⟩, _, _, rfl, rfl, (by show (0 : Int) < 4; decide), ?_⟩
  obtain ⟨md, hmd⟩ : ∃ md, md = x.fdiv most % 4 := ⟨_, rfl⟩
  refine ⟨_, rfl, _, rfl, _, _, rfl, rfl, mulC (by omega) (by omega), _, _, rfl, rfl, ⟨by omega, 8, by decide, by omega⟩, ?_⟩
  refine ⟨sz60' (show 0 ≤ 60 by decide), fun R hR => ?_⟩
  have e1 := same_new hR (.lst [])
  have hR1 : upd H R (.lst []) R = some (.lst []) := upd_same
  generalize upd H R (.lst []) = H1 at e1 hR1
  refine ⟨_, rfl, _, _, rfl, rfl, (many : Int) + 1, rfl, by omega, by omega, for_range (n := ((many : Int) + 1).toNat) (fun i σ H' => ∃ (y : Int) (r5 r6 r7 : Option V), σ = [some (.int y), some (.int most), some (.int many), some (.int md), some (.ref R), r5, r6, r7, none, none, none] ∧ Same H H' ∧ Rows H R H' i) ?_ ?_ ?_⟩
  · subst hmd
    exact ⟨_, _, _, _, rfl, e1, rows_0 hR1⟩
  · rintro i σ H2 hi ⟨y, r5, r6, r7, rfl, e2, rs, xs, hR2, dx, hrl, hrj, hrf, _⟩
    refine ⟨sz60' (show 0 ≤ 60 by decide), fun A hA => ?_⟩
    have e3 := same_new hA (.lst [])
    have hA3 : upd H2 A (.lst []) A = some (.lst []) := upd_same
    generalize upd H2 A (.lst []) = H3 at e3 hA3
    refine ⟨_, rfl, 0 + (i : Int), rfl, by omega, by omega, for_range (n := (0 + (i : Int)).toNat) (fun j σ H' => ∃ (y : Int) (r7 : Option V), σ = [some (.int y), some (.int most), some (.int many), some (.int md), some (.ref R), some (.int (0 + (i : Int))), some (.ref A), r7, none, none, none] ∧ Same H2 H' ∧ ∃ qs ys, H' A = some (.lst ys) ∧ DUs H' (fracsD qs) ys ∧ qs.length = j ∧ ∀ q ∈ qs, FM.Fits q 3) ?_ ?_ ?_⟩
    · exact ⟨_, _, rfl, e3, [], [], hA3, .nil, rfl, fun _ z => (List.not_mem_nil z).elim⟩
    · rintro j σ H4 hj ⟨y, r7, rfl, e4, qs, ys, hA4, dy, hql, hqf⟩
      have hyl : ys.length = j := by rw [dy.len, fracs_len, hql]
      refine ⟨_, rfl, .inl ⟨rfl, _, SqL.of hA4⟩, _, rfl, _, _, rfl, rfl, (by show (0 : Int) < 13; decide), _, _, rfl, rfl, _, rfl, _, _, rfl, rfl, ⟨by decide, by decide⟩, _, _, rfl, rfl, (by show (0 : Int) < 6; decide), _, _, rfl, rfl, ?_⟩
      refine ⟨y % 13 - 6, 1 + y / 13 % 6, 3, rfl, by omega, by decide, by omega, fun l H5 e5 hl => ?_⟩
      have hA5 := e5 _ _ hA4
      have ft : FM.Fits (Rat.divInt (y % 13 - 6) (1 + y / 13 % 6)) 3 := .of_div (by omega) (by omega) (by omega)
      refine ⟨A, ys, _, rfl, rfl, hA5, sz60 (n := 60) (by omega) (by decide), ?_⟩
      refine ⟨_, rfl, _, _, rfl, rfl, ⟨by decide, by decide⟩, _, _, rfl, fun b o zz => ?_, qs ++ [Rat.divInt (y % 13 - 6) (1 + y / 13 % 6)], ys ++ [.ref l], upd_same, ?_, by simp [hql], fun q' hq' => ?_⟩
      · rw [upd_ne (ne_of_none zz hA)]
        exact e5 _ _ (e4 _ _ zz)
      · have dn : DUs H5 (fracsD (qs ++ [Rat.divInt (y % 13 - 6) (1 + y / 13 % 6)])) (ys ++ [.ref l]) := by
          rw [fracs_app]
          exact (dy.same e5).app (.cons (du_rat hl) .nil)
        exact fracs_but hA5 .upd dn
      · rcases List.mem_append.mp hq' with h | h
        · exact hqf _ h
        · rw [List.mem_singleton.mp h]; exact ft
    · rintro σ H4 ⟨y, r7, rfl, e4, qs, ys, hA4, dy, hql, hqf⟩
      have hxl : xs.length = i := by rw [dx.len, rows_len, hrl]
      have hR4 := e4 _ _ hR2
      refine ⟨_, rfl, .inl ⟨rfl, _, SqL.of hR4⟩, _, rfl, R, xs, _, rfl, rfl, hR4, sz60 (n := 60) (by omega) (by decide), ?_⟩
      refine ⟨_, _, _, _, rfl, fun b o zz => ?_, rows_step hR2 dx hrl hrj hrf (nback e2 hA) hA e4 hA4 dy (by omega) hqf⟩
      rw [upd_ne (ne_of_none zz hR)]
      exact e4 _ _ (e2 _ _ zz)
  rintro σ H2 ⟨y, r5, r6, r7, rfl, e2, rs, xs, hR2, dx, hrl, hrj, hrf, hlast⟩
  obtain ⟨rs0, xs0, qs, ys, A, rfl, rfl, hAn, nA, hA2, dy, hqf, d0, dA⟩ := hlast (by omega)
  have hl0 : rs0.length = many := by simp at hrl; omega
  have hx0 : xs0.length = many := by rw [d0.len, rows_len, hl0]
  have hql : qs.length = many := hrj many qs (by rw [List.getElem?_append_right (by omega), hl0, Nat.sub_self]; rfl)
  have hyl : ys.length = many := by rw [dy.len, fracs_len, hql]
  refine ⟨_, rfl, .inl ⟨rfl, _, SqL.of hR2⟩, R, xs0 ++ [.ref A], .ref A, rfl, rfl, hR2, by simp, ?_⟩
  rw [List.dropLast_concat]
  have u : SameBut R H2 (upd H2 R (.lst xs0)) := .upd
  have hR3 : upd H2 R (.lst xs0) R = some (.lst xs0) := upd_same
  have e3 : Same H (upd H2 R (.lst xs0)) := fun b o zz => by rw [upd_ne (ne_of_none zz hR)]; exact e2 _ _ zz
  have hA3 : upd H2 R (.lst xs0) A = some (.lst ys) := by rw [upd_ne nA]; exact hA2
  have dy := fracs_but hR2 u dy
  have dA := dtAll_both u dA d0
  have d0 := d0.but u
  clear dx hR2 hA2 e2 u
  generalize upd H2 R (.lst xs0) = H3 at hR3 e3 hA3 dy dA d0
  have ok : ∀ ls : List Rat, ls.length = many → (Tb.mk rs0 ls).Ok most := fun ls hls => ⟨by show 1 ≤ rs0.length; omega, by show rs0.length ≤ most; omega, by show ls.length = rs0.length; omega, fun i r hr => hrj i r (by rw [List.getElem?_append_left (List.getElem?_eq_some_iff.mp hr).1]; exact hr)⟩
  have sm0 : ∀ r ∈ rs0, ∀ q ∈ r, FM.Fits q 60 := fun r hr => hrf r (List.mem_append_left _ hr)
  refine ⟨_, rfl, _, _, rfl, rfl, _, rfl, ite2 (fun c => ?_) (fun c => ?_)⟩
  · refine ⟨sz60' (show 2 ≤ 60 by decide), fun p hp => ?_⟩
    rw [rat_0]
    have e4 := same_new hp (.tup (ratV 0))
    have hp4 : upd H3 p (.tup (ratV 0)) p = some (.tup (ratV 0)) := upd_same
    generalize upd H3 p (.tup (ratV 0)) = H4 at e4 hp4
    refine ⟨_, rfl, _, rfl, _, rfl, A, ys, rfl, SqL.of (e4 _ _ hA3), fun C hC => ?_⟩
    have hcl : (cutV ys none (some (-1))).length ≤ 5 := Nat.le_trans (cutV_length _ _ _) (by omega)
    have hcm : ∀ x ∈ cutV ys none (some (-1)), x ∈ ys := fun x hx => cut_mem hx
    generalize cutV ys none (some (-1)) = cs at hcl hcm
    have e5 := same_new hC (.lst cs)
    have hC5 : upd H4 C (.lst cs) C = some (.lst cs) := upd_same
    generalize upd H4 C (.lst cs) = H5 at e5 hC5
    refine ⟨C, rfl, ⟨_, SqL.of hC5⟩, for_list (xs := cs) (fun i σ H' => ∃ (l : Addr) (t : Rat) (r10 : Option V), σ = [some (.int y), some (.int most), some (.int many), some (.int md), some (.ref R), r5, r6, r7, some (.ref A), some (.ref l), r10] ∧ Same H5 H' ∧ H' l = some (.tup (ratV t)) ∧ FM.Fits t (4 + 5 * i)) ?_ ?_ ?_ ?_⟩
    · exact ⟨p, 0, _, rfl, .refl _, e5 _ _ hp4, fits_0⟩
    · rintro i σ H6 _ ⟨l, t, r10, rfl, e6, _⟩
      exact SqL.of (e6 _ _ hC5)
    · rintro i v σ H6 hx ⟨l, t, r10, rfl, e6, hl, ft⟩
      have hi : i < cs.length := (List.getElem?_eq_some_iff.mp hx).1
      obtain ⟨j, hj⟩ := List.getElem?_of_mem (hcm v (List.mem_of_getElem? hx))
      obtain ⟨q', pq, rfl, hq', hpq⟩ := fracs_get dy hj
      have E6 := e4.trans (e5.trans e6)
      have f' := hqf q' (List.mem_of_getElem? hq')
      refine ⟨_, rfl, _, rfl, _, _, t, q', 40, rfl, Rt.of hl, Rt.of (E6 _ _ hpq), ft.mono (by omega), f'.mono (by decide), by decide, trivial, fun l2 H7 e7 hl2 => ?_⟩
      exact ⟨l2, _, _, rfl, e6.trans e7, hl2, (ft.sum f').mono (by omega)⟩
    · rintro σ H6 ⟨l, t, r10, rfl, e6, hl, ft⟩
      have E6 := e4.trans (e5.trans e6)
      refine ⟨sz60' (show 2 ≤ 60 by decide), fun p1 hp1 => ?_⟩
      rw [rat_1]
      have e7 := same_new hp1 (.tup (ratV 1))
      have h7 : upd H6 p1 (.tup (ratV 1)) p1 = some (.tup (ratV 1)) := upd_same
      generalize upd H6 p1 (.tup (ratV 1)) = H7 at e7 h7
      refine ⟨_, rfl, _, _, _, _, rfl, rfl, SqT.of (e7 _ _ hl), rfl, _, _, rfl, rfl, _, rfl, _, _, _, _, rfl, rfl, SqT.of (e7 _ _ hl), rfl, sz60' (show 2 ≤ 60 by decide), fun p2 hp2 => ?_⟩
      have hw : ([V.int (0 - t.num), V.int (t.den : Int)] : List V) = ratV (-t) := rat_neg t
      first
        | rw [hw]
        | skip
      have e8 := same_new hp2 (.tup (ratV (-t)))
      have h8 : upd H7 p2 (.tup (ratV (-t))) p2 = some (.tup (ratV (-t))) := upd_same
      generalize upd H7 p2 (.tup (ratV (-t))) = H8 at e8 h8
      have ft : FM.Fits t 40 := ft.mono (by omega)
      refine ⟨_, _, 1, -t, 40, rfl, Rt.of (e8 _ _ h7), Rt.of h8, fits_1.mono (by decide), fits_neg ft, by decide, trivial, fun l2 H9 e9 hl2 => ?_⟩
      have E9 := E6.trans (e7.trans (e8.trans e9))
      have hA9 := E9 _ _ hA3
      have ft2 : FM.Fits (1 + -t) 60 := (fits_1.sum (fits_neg ft)).mono (by decide)
      refine ⟨_, rfl, _, rfl, A, ys, -1, many - 1, rfl, rfl, hA9, ?_, ?_⟩
      · unfold ixN
        rw [if_neg (by decide), if_pos (by omega)]
        congr 1
        omega
      have u : SameBut A H9 (upd H9 A (.lst (ys.set (many - 1) (.ref l2)))) := .upd
      have hA10 : upd H9 A (.lst (ys.set (many - 1) (.ref l2))) A = some (.lst (ys.set (many - 1) (.ref l2))) := upd_same
      have hR10 : upd H9 A (.lst (ys.set (many - 1) (.ref l2))) R = some (.lst xs0) := by rw [upd_ne nA.symm]; exact E9 _ _ hR3
      have d10 : DUs (upd H9 A (.lst (ys.set (many - 1) (.ref l2)))) (rowsD rs0) xs0 := dtAll_du ((dA.same E9).but u)
      have dn : DUs H9 (fracsD (qs.set (many - 1) (1 + -t))) (ys.set (many - 1) (.ref l2)) := by
        rw [fracsD, List.map_set]
        exact DUs.set (du_rat hl2) (dy.same E9)
      have dn := fracs_but hA9 u dn
      have e10 : Same H (upd H9 A (.lst (ys.set (many - 1) (.ref l2)))) := fun b o zz => by rw [upd_ne (ne_of_none zz hAn)]; exact E9 _ _ (e3 _ _ zz)
      generalize upd H9 A (.lst (ys.set (many - 1) (.ref l2))) = H10 at hA10 hR10 d10 dn e10
      refine ⟨_, rfl, _, rfl, sz60' (show 2 ≤ 60 by decide), fun t0 ht => ?_⟩
      have e11 := same_new ht (.tup [V.ref R, V.ref A])
      have h11 : upd H10 t0 (.tup [V.ref R, V.ref A]) t0 = some (.tup [V.ref R, V.ref A]) := upd_same
      generalize upd H10 t0 (.tup [V.ref R, V.ref A]) = H11 at e11 h11
      refine q _ H11 ⟨rs0, qs.set (many - 1) (1 + -t)⟩ (e10.trans e11) (du_tab h11 (e11 _ _ hR10) (d10.same e11) (e11 _ _ hA10) (dn.same e11)) (ok _ (by rw [List.length_set]; exact hql)) ⟨sm0, fun q' hq' => ?_⟩
      rcases List.mem_or_eq_of_mem_set hq' with h | rfl
      · exact (hqf q' h).mono (by decide)
      · exact ft2
  · refine ⟨_, rfl, _, rfl, sz60' (show 2 ≤ 60 by decide), fun t0 ht => ?_⟩
    have e11 := same_new ht (.tup [V.ref R, V.ref A])
    have h11 : upd H3 t0 (.tup [V.ref R, V.ref A]) t0 = some (.tup [V.ref R, V.ref A]) := upd_same
    generalize upd H3 t0 (.tup [V.ref R, V.ref A]) = H11 at e11 h11
    exact q _ H11 ⟨rs0, qs⟩ (e3.trans e11) (du_tab h11 (e11 _ _ hR3) ((dtAll_du d0).same e11) (e11 _ _ hA3) (dy.same e11)) (ok _ hql) ⟨sm0, fun q' hq' => (hqf q' hq').mono (by decide)⟩
end
theorem for_by {J : It} {g : TG} {tb : TS} {D : Ends} {σ : St} {H : Hp} (n : Nat) (Pv : Nat → St → Hp → Prop) (h0 : Pv 0 σ H)
    (hs : ∀ i σ H, i < n → Pv i σ H → J.go i H ∧ ∀ x H', J.yld i H x H' → g x σ H' fun σ2 H2 => tb { D with nx := Pv (i + 1), ct := Pv (i + 1), bk := D.nx } σ2 H2) (hd : ∀ σ H, Pv n σ H → J.stop n H ∧ D.nx σ H) :
    ∃ W : Nat → Nat → St → Hp → Prop, (∃ m, W 0 m σ H) ∧ ∀ i m σ H, W i m σ H →
      (J.stop i H ∧ D.nx σ H) ∨ (J.go i H ∧ ∃ N : St → Hp → Prop, (∀ σ' H', N σ' H' → ∃ m', m' < m ∧ W (i + 1) m' σ' H') ∧ ∀ x H', J.yld i H x H' → g x σ H' fun σ2 H2 => tb { D with nx := N, ct := N, bk := D.nx } σ2 H2) := by
  refine ⟨fun i m σ H => m = n - i ∧ i ≤ n ∧ Pv i σ H, ⟨n, by simp, Nat.zero_le _, h0⟩, ?_⟩
  rintro i m σ H ⟨rfl, hi, p⟩
  by_cases hlt : i < n
  · obtain ⟨k1, k2⟩ := hs i σ H hlt p
    exact .inr ⟨k1, Pv (i + 1), fun σ' H' p' => ⟨n - (i + 1), by omega, rfl, hlt, p'⟩, k2⟩
  · have e : i = n := by omega
    subst e
    exact .inl (hd σ H p)
def Tb.Fit (n : Nat) (t : Tb) : Prop := (∀ r ∈ t.rs, ∀ q ∈ r, FM.Fits q n) ∧ ∀ q ∈ t.ls, FM.Fits q n
def Tb.shrunk (a : Tb) (p : Rat) : Tb := ⟨a.rs.map fun r => r.map (· * p), a.ls.map (· * p)⟩
def mixStep (acc : Tb) (z : Tb × Rat) : Tb := ⟨acc.rs ++ z.1.rs.map (List.replicate acc.ls.length 0 ++ ·), acc.ls ++ z.1.ls.map (· * z.2)⟩
def mixed (zs : List (Tb × Rat)) : Tb := zs.foldl mixStep ⟨[], []⟩
theorem Tb.Ok.shrunk {m : Nat} {a : Tb} (h : a.Ok m) (p : Rat) : (a.shrunk p).Ok m := by
  refine ⟨?_, ?_, ?_, fun i r hr => ?_⟩
  · simp [Tb.shrunk]; exact h.one
  · simp [Tb.shrunk]; exact h.most
  · simp [Tb.shrunk]; exact h.last
  · unfold Tb.shrunk at hr
    simp only [List.getElem?_map] at hr
    cases hb : a.rs[i]? with
    | none => rw [hb] at hr; cases hr
    | some z => rw [hb] at hr; cases hr; rw [List.length_map]; exact h.row _ _ hb
theorem fit_map {n k : Nat} {r : List Rat} {p : Rat} (h : ∀ q ∈ r, FM.Fits q n) (hp : FM.Fits p k) : ∀ q ∈ r.map (· * p), FM.Fits q (n + k) := fun q hq => by
  obtain ⟨z, hz, rfl⟩ := List.mem_map.mp hq
  exact (h z hz).times hp
theorem Tb.Fit.shrunk {n k : Nat} {a : Tb} {p : Rat} (h : a.Fit n) (hp : FM.Fits p k) : (a.shrunk p).Fit (n + k) := by
  refine ⟨fun r hr => ?_, fit_map h.2 hp⟩
  obtain ⟨z, hz, rfl⟩ := List.mem_map.mp hr
  exact fit_map (h.1 z hz) hp
theorem Tb.Fit.behind {n : Nat} {a b : Tb} (h : a.Fit n) (k : b.Fit n) : (a.behind b).Fit n := by
  refine ⟨fun r hr => ?_, fun q hq => ?_⟩
  · rcases List.mem_append.mp hr with hr | hr
    · exact h.1 r hr
    · obtain ⟨z, hz, rfl⟩ := List.mem_map.mp hr
      intro q hq
      rcases List.mem_append.mp hq with hq | hq
      · exact h.2 q hq
      · exact k.1 z hz q hq
  · rcases List.mem_append.mp hq with hq | hq
    · exact h.2 q hq
    · exact k.2 q hq
theorem Tb.Fit.mono {n m : Nat} {a : Tb} (h : a.Fit n) (l : n ≤ m) : a.Fit m := ⟨fun r hr q hq => (h.1 r hr q hq).mono l, fun q hq => (h.2 q hq).mono l⟩
structure MixOk (t : Tb) (n : Nat) : Prop where
  len : t.rs.length = n
  last : t.ls.length = n
  row : ∀ (i : Nat) r, t.rs[i]? = some r → r.length = i
theorem mix_ok {acc : Tb} {n m : Nat} {t : Tb} {p : Rat} (h : MixOk acc n) (k : t.Ok m) : MixOk (mixStep acc (t, p)) (n + t.rs.length) := by
  refine ⟨?_, ?_, fun i r hr => ?_⟩
  · simp [mixStep, h.len]
  · simp [mixStep, h.last, k.last]
  · unfold mixStep at hr
    simp only at hr
    by_cases hi : i < acc.rs.length
    · rw [List.getElem?_append_left hi] at hr
      exact h.row i r hr
    · rw [List.getElem?_append_right (by omega), List.getElem?_map] at hr
      cases hb : t.rs[i - acc.rs.length]? with
      | none => rw [hb] at hr; cases hr
      | some z =>
        rw [hb] at hr
        cases hr
        have := h.len
        rw [List.length_append, List.length_replicate, h.last, k.row _ _ hb]
        omega
theorem fracs_rep {H : Hp} {x : V} {q : Rat} (h : DU H (ratD q) x) : ∀ n, DUs H (fracsD (List.replicate n q)) (List.replicate n x)
  | 0 => .nil
  | n + 1 => by
    rw [List.replicate_succ, List.replicate_succ]
    exact .cons h (fracs_rep h n)
theorem made_call {H0 H H1 : Hp} {D l : Addr} {rs : List (List Rat)} {i : Nat} {ys zs : List V} {r : List Rat} (hD : H0 D = none) (m : Made H0 D rs i ys H) (hH : H D = some (.lst ys)) (hr : rs[i]? = some r) (e1 : Same H H1) (hl : H l = none) (hl1 : H1 l = some (.lst zs)) (hz : DUs H1 (fracsD r) zs) :
    H1 D = some (.lst ys) ∧ Made H0 D rs (i + 1) (ys ++ [.ref l]) (upd H1 D (.lst (ys ++ [.ref l]))) := by
  obtain ⟨e, hyl, d, n⟩ := m
  have nl : l ≠ D := fun z => by subst z; rw [hH] at hl; cases hl
  have hD1 := e1 _ _ hH
  have hl0 : H0 l = none := nback e hl
  refine ⟨hD1, fun b o z => ?_, by simp [hyl], ?_, fun y hy => ?_⟩
  · rw [upd_ne (ne_of_none z hD)]
    exact e1 _ _ (e _ _ z)
  · rw [List.take_add_one, hr, rowsD, List.map_append]
    exact .but .upd ((d.same e1).app (.cons (row_at hD1 nl hl1 hz) .nil))
  · rcases List.mem_append.mp hy with hy | hy
    · obtain ⟨a, ws, rfl, na, h0, h1⟩ := n y hy
      exact ⟨a, ws, rfl, na, h0, by rw [upd_ne na]; exact e1 _ _ h1⟩
    · rw [List.mem_singleton.mp hy]
      exact ⟨l, zs, rfl, nl, hl0, by rw [upd_ne nl]; exact hl1⟩
def spScaled : Sp := fun vs H Q _ => ∃ (a c : Addr) (xs : List V) (qs : List Rat) (p : Rat) (n : Nat), vs = [.ref a, .ref c] ∧ H a = some (.lst xs) ∧ DUs H (fracsD qs) xs ∧ H c = some (.tup (ratV p)) ∧ qs.length ≤ 40 ∧ (∀ q ∈ qs, FM.Fits q n) ∧ FM.Fits p n ∧ n ≤ 2000 ∧
  ∀ D H' zs, Same H H' → H D = none → H' D = some (.lst zs) → DUs H' (fracsD (qs.map (· * p))) zs → Q (.ref D) H'
def spShrunk : Sp := fun vs H Q _ => ∃ (v : V) (c : Addr) (a : Tb) (p : Rat) (m n : Nat), vs = [v, .ref c] ∧ DU H (tabD a) v ∧ H c = some (.tup (ratV p)) ∧ a.Ok m ∧ m ≤ 40 ∧ a.Fit n ∧ FM.Fits p n ∧ n ≤ 2000 ∧ ∀ v' H', Same H H' → Anew H H' v' → DU H' (tabD (a.shrunk p)) v' → Q v' H'
section
variable {P : Program} {w : World} {K : PySem.W.Frag} {mg : Str → Option Value} {base : Heap} {f g g1 g2 g3 : Addr} {fd gd gd1 gd2 gd3 : FuncData}
theorem sc__law_times : FnScope ["_law_one", "_law_other"] ["_law_one", "_law_other"] (defScope s__law_times) := ⟨rfl, rfl, rfl, by decide +kernel, rfl, by decide +kernel, by decide +kernel⟩
theorem ok__law_times (F : Fn K mg "_law_times" s__law_times ["_law_one", "_law_other"] f fd) (T__law_ratio : Fn K mg "_law_ratio" s__law_ratio ["_law_top", "_law_bottom"] g gd)
    (G__law_ratio : FnOk P w K mg base CX0 2 g gd ["_law_top", "_law_bottom"] spFr) : FnOk P w K mg base CX0 3 f fd ["_law_one", "_law_other"] (spOp K (fun p q => p * q) (fun _ => True)) := by
  have sc := sc__law_times
  refine F.F.ok (k := 2) sc (fun vs H Q E h => ?_) (fun cdv A outer s H vs Q E hr h => ?_)
  · obtain ⟨v, w, p, q, n, rfl, _⟩ := h
    rfl
  obtain ⟨v, w, p, q, n, rfl, ⟨a, rfl, sp⟩, ⟨b, rfl, sq⟩, hp, hq, hn, hok, k⟩ := h
  refine ⟨_, (pss_one (ps_ret (pe_fn T__law_ratio G__law_ratio hr rfl (pa_cons (pe_op op_mulW (pe_ix ix_tup (pv 0) pe_int (fun _ _ => rfl)) (pe_ix ix_tup (pv 1) pe_int (fun _ _ => rfl))) (pa_cons (pe_op op_mulW (pe_ix ix_tup (pv 0) pe_int (fun _ _ => rfl)) (pe_ix ix_tup (pv 1) pe_int (fun _ _ => rfl))) pa_nil))))), ?_⟩
  refine ⟨_, rfl, _, _, _, _, rfl, rfl, sp, rfl, _, rfl, _, _, _, _, rfl, rfl, sq, rfl, _, _, rfl, rfl, mulW hp.1 hq.1 (by omega), _, rfl, _, _, _, _, rfl, rfl, sp, rfl, _, rfl, _, _, _, _, rfl, rfl, sq, rfl, _, _, rfl, rfl, mulW hp.d hq.d (by omega), _, _, n + n, rfl, FM.prod_ne p q, by omega, FM.dd hp hq, fun l H' e1 e2 => ?_⟩
  exact k l H' e1 (by rw [FM.times_eq p q] at e2; exact e2)
theorem sc_scaled : FnScope ["row", "part"] ["row", "part"] (defScope s_scaled) := ⟨rfl, rfl, rfl, by decide +kernel, rfl, by decide +kernel, by decide +kernel⟩
theorem ok_scaled (F : Fn K mg "scaled" s_scaled ["row", "part"] f fd) (T_frac_times : Fn K mg "frac_times" s_frac_times ["one", "other"] g gd)
    (G_frac_times : FnOk P w K mg base CX0 3 g gd ["one", "other"] (spOp K (fun p q => p * q) (fun _ => True))) : FnOk P w K mg base CX0 4 f fd ["row", "part"] spScaled := by
  have sc := sc_scaled
  refine F.F.ok (k := 3) sc (fun vs H Q E h => ?_) (fun cdv A outer s H vs Q E hr h => ?_)
  · obtain ⟨a, c, xs, qs, p, n, rfl, _⟩ := h
    rfl
  obtain ⟨a, c, xs, qs, p, n, rfl, ha, dx, hc, hl, fq, fp, hn, q⟩ := h
  have hxl : xs.length = qs.length := by rw [dx.len, fracs_len]
  refine ⟨_, (pss_one (ps_ret (pe_compr [".0", "one", "part"] 1 [none, none, some 1] (pi_list (pv 0)) (fun _ _ _ _ _ => pif_nil) (fun _ _ _ _ _ => (pe_fn T_frac_times G_frac_times hr rfl (pa_cons (pv 1) (pa_cons (pv 2) pa_nil))))))), ?_⟩
  refine ⟨_, rfl, a, rfl, ⟨_, SqL.of ha⟩, fun D hD => comp_by (n := xs.length) (fun i ys H' => Same H H' ∧ ys.length = i ∧ DUs H' (fracsD ((qs.take i).map (· * p))) ys) ⟨same_new hD _, rfl, .nil⟩ ?_ ?_⟩
  · rintro i ys H1 hi ⟨e1, hyl, dy⟩ hD1
    obtain ⟨z, hz⟩ : ∃ z, xs[i]? = some z := ⟨xs[i], List.getElem?_eq_getElem _⟩
    obtain ⟨q', pq, rfl, hq', hpq⟩ := fracs_get dx hz
    refine ⟨⟨xs, .ref pq, SqL.of (e1 _ _ ha), hz⟩, sz60 (n := 60) (by omega) (by decide), fun x H' y => ?_⟩
    obtain ⟨rfl, y⟩ := y
    have hx := y xs (SqL.of (e1 _ _ ha))
    rw [hz] at hx
    cases hx
    unfold tNoIf
    refine iteT ⟨_, rfl, _, rfl, _, _, q', p, n, rfl, Rt.of (e1 _ _ hpq), Rt.of (e1 _ _ hc), fq q' (List.mem_of_getElem? hq'), fp, by omega, trivial, fun l H2 e2 hl2 => ?_⟩
    have hD2 := e2 _ _ hD1
    refine ⟨hD2, cw_next hi ⟨fun b o zz => ?_, by simp [hyl], ?_⟩⟩
    · rw [upd_ne (ne_of_none zz hD)]
      exact e2 _ _ (e1 _ _ zz)
    · rw [List.take_add_one, hq', List.map_append]
      have dn : DUs H2 (fracsD ((qs.take i).map (· * p) ++ [q' * p])) (ys ++ [.ref l]) := by
        rw [fracs_app]
        exact (dy.same e2).app (.cons (du_rat hl2) .nil)
      exact fracs_but hD2 .upd dn
  · rintro ys H1 ⟨e1, hyl, dy⟩ hD1
    rw [hxl, List.take_length] at dy
    exact ⟨⟨xs, SqL.of (e1 _ _ ha), Nat.le_refl _⟩, q D H1 ys e1 hD hD1 dy⟩
theorem sc__law_scaled : FnScope ["_law_row_here", "_law_part"] ["_law_row_here", "_law_part"] (defScope s__law_scaled) := ⟨rfl, rfl, rfl, by decide +kernel, rfl, by decide +kernel, by decide +kernel⟩
theorem ok__law_scaled (F : Fn K mg "_law_scaled" s__law_scaled ["_law_row_here", "_law_part"] f fd) (T__law_times : Fn K mg "_law_times" s__law_times ["_law_one", "_law_other"] g gd)
    (G__law_times : FnOk P w K mg base CX0 3 g gd ["_law_one", "_law_other"] (spOp K (fun p q => p * q) (fun _ => True))) : FnOk P w K mg base CX0 4 f fd ["_law_row_here", "_law_part"] spScaled := by
  have sc := sc__law_scaled
  refine F.F.ok (k := 3) sc (fun vs H Q E h => ?_) (fun cdv A outer s H vs Q E hr h => ?_)
  · obtain ⟨a, c, xs, qs, p, n, rfl, _⟩ := h
    rfl
  obtain ⟨a, c, xs, qs, p, n, rfl, ha, dx, hc, hl, fq, fp, hn, q⟩ := h
  have hxl : xs.length = qs.length := by rw [dx.len, fracs_len]
  refine ⟨_, (pss_one (ps_ret (pe_compr [".0", "_law_one", "_law_part"] 1 [none, none, some 1] (pi_list (pv 0)) (fun _ _ _ _ _ => pif_nil) (fun _ _ _ _ _ => (pe_fn T__law_times G__law_times hr rfl (pa_cons (pv 1) (pa_cons (pv 2) pa_nil))))))), ?_⟩
  refine ⟨_, rfl, a, rfl, ⟨_, SqL.of ha⟩, fun D hD => comp_by (n := xs.length) (fun i ys H' => Same H H' ∧ ys.length = i ∧ DUs H' (fracsD ((qs.take i).map (· * p))) ys) ⟨same_new hD _, rfl, .nil⟩ ?_ ?_⟩
  · rintro i ys H1 hi ⟨e1, hyl, dy⟩ hD1
    obtain ⟨z, hz⟩ : ∃ z, xs[i]? = some z := ⟨xs[i], List.getElem?_eq_getElem _⟩
    obtain ⟨q', pq, rfl, hq', hpq⟩ := fracs_get dx hz
    refine ⟨⟨xs, .ref pq, SqL.of (e1 _ _ ha), hz⟩, sz60 (n := 60) (by omega) (by decide), fun x H' y => ?_⟩
    obtain ⟨rfl, y⟩ := y
    have hx := y xs (SqL.of (e1 _ _ ha))
    rw [hz] at hx
    cases hx
    unfold tNoIf
    refine iteT ⟨_, rfl, _, rfl, _, _, q', p, n, rfl, Rt.of (e1 _ _ hpq), Rt.of (e1 _ _ hc), fq q' (List.mem_of_getElem? hq'), fp, by omega, trivial, fun l H2 e2 hl2 => ?_⟩
    have hD2 := e2 _ _ hD1
    refine ⟨hD2, cw_next hi ⟨fun b o zz => ?_, by simp [hyl], ?_⟩⟩
    · rw [upd_ne (ne_of_none zz hD)]
      exact e2 _ _ (e1 _ _ zz)
    · rw [List.take_add_one, hq', List.map_append]
      have dn : DUs H2 (fracsD ((qs.take i).map (· * p) ++ [q' * p])) (ys ++ [.ref l]) := by
        rw [fracs_app]
        exact (dy.same e2).app (.cons (du_rat hl2) .nil)
      exact fracs_but hD2 .upd dn
  · rintro ys H1 ⟨e1, hyl, dy⟩ hD1
    rw [hxl, List.take_length] at dy
    exact ⟨⟨xs, SqL.of (e1 _ _ ha), Nat.le_refl _⟩, q D H1 ys e1 hD hD1 dy⟩
theorem sc_table_shrunk : FnScope ["table", "part"] ["table", "part"] (defScope s_table_shrunk) := ⟨rfl, rfl, rfl, by decide +kernel, rfl, by decide +kernel, by decide +kernel⟩
theorem ok_table_shrunk (F : Fn K mg "table_shrunk" s_table_shrunk ["table", "part"] f fd) (T_refuse_no_table : Fn K mg "refuse_no_table" s_refuse_no_table ["thing"] g1 gd1) (T_scaled : Fn K mg "scaled" s_scaled ["row", "part"] g2 gd2)
    (G_refuse_no_table : FnOk P w K mg base CX0 6 g1 gd1 ["thing"] spRefTab) (G_scaled : FnOk P w K mg base CX0 6 g2 gd2 ["row", "part"] spScaled) : FnOk P w K mg base CX0 7 f fd ["table", "part"] spShrunk := by
  have sc := sc_table_shrunk
  refine F.F.ok (k := 6) sc (fun vs H Q E h => ?_) (fun cdv A outer s H vs Q E hr h => ?_)
  · obtain ⟨v, c, a, p, m, n, rfl, _⟩ := h
    rfl
  obtain ⟨v, c, a, p, m, n, rfl, da, hc, oa, hm, fa, fp, hn, q⟩ := h
  refine ⟨_, (pss_cons (ps_expr (pe_fn T_refuse_no_table G_refuse_no_table hr rfl (pa_cons (pv 0) pa_nil)))
  (pss_one (ps_ret (pe_tup (pa_cons (pe_compr [".0", "row", "part"] 1 [none, none, some 1] (pi_list (pe_ix ix_tup (pv 0) pe_int (fun _ _ => rfl))) (fun _ _ _ _ _ => pif_nil) (fun _ _ _ _ _ => (pe_fn T_scaled G_scaled hr rfl (pa_cons (pv 1) (pa_cons (pv 2) pa_nil))))) (pa_cons (pe_fn T_scaled G_scaled hr rfl (pa_cons (pe_ix ix_tup (pv 0) pe_int (fun _ _ => rfl)) (pa_cons (pv 1) pa_nil))) pa_nil)))))), ?_⟩
  refine ⟨_, rfl, v, a, m, rfl, da, oa, hm, fun H4 E4 => ?_⟩
  obtain ⟨p1, R1, L1, xs1, ys1, rfl, hp1, hR1, dR1, hL1, dL1⟩ := (da.same E4).tab
  have hc := E4 _ _ hc
  have l1 : xs1.length = a.rs.length := by rw [dR1.len, rows_len]
  have ma := oa.most
  have la := oa.last
  refine ⟨_, rfl, _, _, _, _, rfl, rfl, SqT.of hp1, rfl, R1, rfl, ⟨_, SqL.of hR1⟩, fun D hD => comp_by (n := xs1.length) (Made H4 D (a.rs.map fun r => r.map (· * p))) (made_0 hD) ?_ ?_⟩
  · rintro i ys H5 hi mk hD5
    have e5 := mk.1
    have hr : a.rs[i]? = some (a.rs[i]'(by omega)) := List.getElem?_eq_getElem _
    have hrl := oa.row _ _ hr
    obtain ⟨r, zs, g1, g2, g3⟩ := rows_get dR1 hr
    refine ⟨⟨xs1, .ref r, SqL.of (e5 _ _ hR1), g1⟩, sz60 (n := 60) (by rw [mk.2.1]; omega) (by decide), fun x H' y => ?_⟩
    obtain ⟨rfl, y⟩ := y
    have hx := y xs1 (SqL.of (e5 _ _ hR1))
    rw [g1] at hx
    cases hx
    unfold tNoIf
    refine iteT ⟨_, rfl, _, rfl, r, c, zs, _, p, n, rfl, e5 _ _ g2, g3.same e5, e5 _ _ hc, by omega, fa.1 _ (List.mem_of_getElem? hr), fp, hn, fun l H6 ws e6 hl hl6 dw => ?_⟩
    obtain ⟨k1, k2⟩ := made_call hD mk hD5 (by rw [List.getElem?_map, hr]; rfl) e6 hl hl6 dw
    exact ⟨k1, cw_next hi k2⟩
  rintro zs1 H5 ⟨e5, zl1, d5, n5⟩ hD5
  refine ⟨⟨xs1, SqL.of (e5 _ _ hR1), Nat.le_refl _⟩, ?_⟩
  rw [l1, ← List.length_map (f := fun r : List Rat => r.map (· * p)) (as := a.rs), List.take_length] at d5
  have d5 := dtAll_du d5
  refine ⟨_, rfl, _, _, _, _, rfl, rfl, SqT.of (e5 _ _ hp1), rfl, _, rfl, L1, c, ys1, a.ls, p, n, rfl, e5 _ _ hL1, dL1.same e5, e5 _ _ hc, by omega, fa.2, fp, hn, fun L H8 ws e8 hL h8 dw => ?_⟩
  refine ⟨sz60' (show 2 ≤ 60 by decide), fun t ht => ?_⟩
  have e9 := same_new ht (.tup [V.ref D, V.ref L])
  have h9 : upd H8 t (.tup [V.ref D, V.ref L]) t = some (.tup [V.ref D, V.ref L]) := upd_same
  generalize upd H8 t (.tup [V.ref D, V.ref L]) = H9 at e9 h9
  refine q _ H9 (E4.trans (e5.trans (e8.trans e9))) ⟨t, D, L, _, _, rfl, h9, e9 _ _ (e8 _ _ hD5), nback E4 hD, e9 _ _ h8, nback E4 (nback e5 hL), fun x hx => ?_⟩ (du_tab h9 (e9 _ _ (e8 _ _ hD5)) (d5.same (e8.trans e9)) (e9 _ _ h8) (dw.same e9))
  obtain ⟨r, us, rfl, g0, g1, g2⟩ := n5 x hx
  exact ⟨r, us, rfl, g0, nback E4 g1, e9 _ _ (e8 _ _ g2)⟩
end
def tot (ts : List Tb) : Nat := (ts.map fun t => t.rs.length).sum
theorem tot_int (ts : List Tb) : (ts.map fun t => (t.rs.length : Int)).sum = (tot ts : Int) := by
  induction ts with
  | nil => rfl
  | cons t ts ih =>
    unfold tot at ih ⊢
    rw [List.map_cons, List.map_cons, List.sum_cons, List.sum_cons, ih]
    omega
theorem tot_snoc (ts : List Tb) (t : Tb) : tot (ts ++ [t]) = tot ts + t.rs.length := by
  unfold tot
  rw [List.map_append, List.sum_append]
  simp
theorem tot_take (ts : List Tb) (i : Nat) : tot (ts.take i) ≤ tot ts := by
  have : tot ts = tot (ts.take i) + tot (ts.drop i) := by
    unfold tot
    rw [← List.sum_append, ← List.map_append, List.take_append_drop]
  omega
theorem mixed_snoc (zs : List (Tb × Rat)) (z : Tb × Rat) : mixed (zs ++ [z]) = mixStep (mixed zs) z := by
  unfold mixed
  rw [List.foldl_append]
  rfl
theorem rows_at {c : Addr} {ws : List V} {H : Hp} (hc : H c = some (.lst ws)) : ∀ {rs : List (List Rat)} {zs : List V}, DUs H (rowsD rs) zs → (∀ y ∈ zs, y ≠ .ref c) → DtAll c H (rowsD rs) zs
  | [], zs, h, _ => by
    have := h.len
    rw [show rowsD [] = [] from rfl, List.length_nil] at this
    rw [List.eq_nil_of_length_eq_zero this]
    exact .nil
  | r :: rs, zs, h, n => by
    obtain ⟨x, t, rfl, h1, h2⟩ := DUs.unC h
    obtain ⟨a, xs, rfl, ha, dx⟩ := DU.unL h1
    exact .cons (row_at hc (fun z => n (.ref a) List.mem_cons_self (by rw [z])) ha dx) (rows_at hc h2 fun y hy => n y (List.mem_cons_of_mem _ hy))
theorem rows_but {c : Addr} {ws : List V} {H H' : Hp} (hc : H c = some (.lst ws)) (e : SameBut c H H') {rs : List (List Rat)} {zs : List V} (h : DUs H (rowsD rs) zs) (n : ∀ y ∈ zs, y ≠ .ref c) : DUs H' (rowsD rs) zs := dtAll_du (.but e (rows_at hc h n))
structure Mixing (H0 : Hp) (R Z : Addr) (acc : Tb) (rws lzs : List V) (H : Hp) : Prop where
  same : Same H0 H
  ne : R ≠ Z
  r0 : H0 R = none
  z0 : H0 Z = none
  rAt : H R = some (.lst rws)
  zAt : H Z = some (.lst lzs)
  rows : DUs H (rowsD acc.rs) rws
  last : DUs H (fracsD acc.ls) lzs
  new : ∀ x ∈ rws, ∃ r ws, x = .ref r ∧ r ≠ R ∧ r ≠ Z ∧ H0 r = none ∧ H r = some (.lst ws)
theorem Mixing.go {H0 H H' : Hp} {R Z : Addr} {acc : Tb} {rws lzs : List V} (m : Mixing H0 R Z acc rws lzs H) (e : Same H H') : Mixing H0 R Z acc rws lzs H' :=
  ⟨m.same.trans e, m.ne, m.r0, m.z0, e _ _ m.rAt, e _ _ m.zAt, m.rows.same e, m.last.same e, fun x hx => let ⟨r, ws, a, b, c, d, f⟩ := m.new x hx; ⟨r, ws, a, b, c, d, e _ _ f⟩⟩
theorem mixing_rows {H0 H H2 : Hp} {R Z : Addr} {acc : Tb} {rws lzs zs : List V} {rs : List (List Rat)} (m : Mixing H0 R Z acc rws lzs H) (e : Same H H2) (dz : DUs H2 (rowsD rs) zs) (n : ∀ y ∈ zs, ∃ a us, y = .ref a ∧ H a = none ∧ H2 a = some (.lst us)) :
    Mixing H0 R Z ⟨acc.rs ++ rs, acc.ls⟩ (rws ++ zs) lzs (upd H2 R (.lst (rws ++ zs))) := by
  have m2 := m.go e
  have u : SameBut R H2 (upd H2 R (.lst (rws ++ zs))) := .upd
  have nz : ∀ y ∈ zs, ∃ a us, y = .ref a ∧ a ≠ R ∧ a ≠ Z ∧ H0 a = none ∧ H2 a = some (.lst us) := fun y hy => by
    obtain ⟨a, us, rfl, h1, h2⟩ := n y hy
    exact ⟨a, us, rfl, (fun z => by subst z; rw [m.rAt] at h1; cases h1), (fun z => by subst z; rw [m.zAt] at h1; cases h1), nback m.same h1, h2⟩
  have all : ∀ x ∈ rws ++ zs, ∃ r ws, x = .ref r ∧ r ≠ R ∧ r ≠ Z ∧ H0 r = none ∧ H2 r = some (.lst ws) := fun x hx => by
    rcases List.mem_append.mp hx with hx | hx
    · exact m2.new x hx
    · exact nz x hx
  refine ⟨fun b o zz => by rw [upd_ne (ne_of_none zz m.r0)]; exact m2.same _ _ zz, m.ne, m.r0, m.z0, upd_same, by rw [upd_ne m.ne.symm]; exact m2.zAt, ?_, fracs_but m2.rAt u m2.last, fun x hx => ?_⟩
  · refine rows_but m2.rAt u ?_ fun y hy => ?_
    · show DUs H2 (rowsD (acc.rs ++ rs)) _
      rw [rowsD, List.map_append]
      exact m2.rows.app dz
    · obtain ⟨r, ws, rfl, k1, _⟩ := all y hy
      exact fun z => k1 (by cases z; rfl)
  · obtain ⟨r, ws, rfl, k1, k2, k3, k4⟩ := all x hx
    exact ⟨r, ws, rfl, k1, k2, k3, by rw [upd_ne k1]; exact k4⟩
theorem mixing_last {H0 H : Hp} {R Z : Addr} {acc : Tb} {rws lzs zs : List V} {ls : List Rat} (m : Mixing H0 R Z acc rws lzs H) (dz : DUs H (fracsD ls) zs) :
    Mixing H0 R Z ⟨acc.rs, acc.ls ++ ls⟩ rws (lzs ++ zs) (upd H Z (.lst (lzs ++ zs))) := by
  have u : SameBut Z H (upd H Z (.lst (lzs ++ zs))) := .upd
  refine ⟨fun b o zz => by rw [upd_ne (ne_of_none zz m.z0)]; exact m.same _ _ zz, m.ne, m.r0, m.z0, by rw [upd_ne m.ne]; exact m.rAt, upd_same, rows_but m.zAt u m.rows fun y hy => ?_, ?_, fun x hx => ?_⟩
  · obtain ⟨r, ws, rfl, _, k2, _⟩ := m.new y hy
    exact fun z => k2 (by cases z; rfl)
  · have dn : DUs H (fracsD (acc.ls ++ ls)) (lzs ++ zs) := by
      rw [fracs_app]
      exact m.last.app dz
    exact fracs_but m.zAt u dn
  · obtain ⟨r, ws, rfl, k1, k2, k3, k4⟩ := m.new x hx
    exact ⟨r, ws, rfl, k1, k2, k3, by rw [upd_ne k2]; exact k4⟩
def spMixT2 : Sp := fun vs H Q _ => ∃ (p pp : Addr) (ts : List Tb) (xs : List V) (ps : List Rat) (ys : List V) (m n : Nat), vs = [.ref p, .ref pp] ∧ H p = some (.lst xs) ∧ DUs H (ts.map tabD) xs ∧ H pp = some (.lst ys) ∧ DUs H (fracsD ps) ys ∧ ps.length = ts.length ∧ 1 ≤ ts.length ∧ ts.length ≤ 8 ∧
  (∀ t ∈ ts, t.Ok m ∧ t.Fit n) ∧ m ≤ 40 ∧ (∀ q ∈ ps, FM.Fits q n) ∧ n ≤ 2000 ∧ tot ts ≤ 40 ∧ ∀ v' H', Same H H' → Anew H H' v' → DU H' (tabD (mixed (ts.zip ps))) v' → Q v' H'
section
variable {P : Program} {w : World} {K : PySem.W.Frag} {mg : Str → Option Value} {base : Heap} {f g g1 g2 g3 : Addr} {fd gd gd1 gd2 gd3 : FuncData}
theorem sc_table_mixed : FnScope ["tables", "parts", "table", "rows", "last", "part", "unread"] ["tables", "parts"] (defScope s_table_mixed) := ⟨rfl, rfl, rfl, by decide +kernel, rfl, by decide +kernel, by decide +kernel⟩
theorem ok_table_mixed (F : Fn K mg "table_mixed" s_table_mixed ["tables", "parts"] f fd) (T_refuse_no_table : Fn K mg "refuse_no_table" s_refuse_no_table ["thing"] g1 gd1) (T_refuse_too_many_rows : Fn K mg "refuse_too_many_rows" s_refuse_too_many_rows ["tables"] g2 gd2) (T_scaled : Fn K mg "scaled" s_scaled ["row", "part"] g3 gd3)
    (G_refuse_no_table : FnOk P w K mg base CX0 6 g1 gd1 ["thing"] spRefTab) (G_refuse_too_many_rows : FnOk P w K mg base CX0 6 g2 gd2 ["tables"] spRefMany) (G_scaled : FnOk P w K mg base CX0 6 g3 gd3 ["row", "part"] spScaled) (z_len : mg "len" = none) (z_zip : mg "zip" = none) : FnOk P w K mg base CX0 7 f fd ["tables", "parts"] spMixT2 := by
  have sc := sc_table_mixed
  refine F.F.ok (k := 6) sc (fun vs H Q E h => ?_) (fun cdv A outer s H vs Q E hr h => ?_)
  · obtain ⟨p, pp, ts, xs, ps, ys, m, n, rfl, _⟩ := h
    rfl
  obtain ⟨p, pp, ts, xs, ps, ys, m, n, rfl, hp, dx, hpp, dy, hpl, ht1, ht8, hts, hm, hps, hn, htot, q⟩ := h
  have hxl : xs.length = ts.length := by rw [dx.len, List.length_map]
  have hyl : ys.length = ts.length := by rw [dy.len, fracs_len, hpl]
  have tget : ∀ (i : Nat) (x : V), xs[i]? = some x → ∃ t, ts[i]? = some t ∧ DU H (tabD t) x := fun i x hx => by
    have hi : i < ts.length := by rw [← hxl]; exact (List.getElem?_eq_some_iff.mp hx).1
    have ht : ts[i]? = some ts[i] := by simp [hi]
    obtain ⟨v, h1, h2⟩ := dx.get (i := i) (d := tabD ts[i]) (by rw [List.getElem?_map, ht]; rfl)
    rw [hx] at h1
    cases h1
    exact ⟨_, ht, h2⟩
  refine ⟨_, (pss_cons (ps_for PassesOwn.never rfl (pi_list (pv 0)) (pg_name (i := 2) sc.nd rfl (Or.inl rfl))
    (pss_one (ps_expr (pe_fn T_refuse_no_table G_refuse_no_table hr rfl (pa_cons (pv 2) pa_nil)))))
  (pss_cons (ps_if (PW.pt (pw_or (pt_cmpR op_eq (pe_callB call_len_seq rfl z_len PySem.boot_len (pa_cons (pv 0) pa_nil)) pe_int (nomark _)) (pw_or1 (pt_cmpR op_ne (pe_callB call_len_seq rfl z_len PySem.boot_len (pa_cons (pv 0) pa_nil)) (pe_callB call_len_seq rfl z_len PySem.boot_len (pa_cons (pv 1) pa_nil)) (nomark _)))))
    (pss_one ps_never)
    pss_nil)
  (pss_cons (ps_expr (pe_fn T_refuse_too_many_rows G_refuse_too_many_rows hr rfl (pa_cons (pv 0) pa_nil)))
  (pss_cons (ps_set (i := 3) sc.nd rfl (Or.inl rfl) (pe_lst pa_nil))
  (pss_cons (ps_set (i := 4) sc.nd rfl (Or.inl rfl) (pe_lst pa_nil))
  (pss_cons (ps_for PassesOwn.never rfl (pi_zip rfl z_zip (pa_cons (pv 0) (pa_cons (pv 1) pa_nil))) (pg_tup rfl (pgs_cons (pg_name (i := 2) sc.nd rfl (Or.inl rfl)) (pgs_cons (pg_name (i := 5) sc.nd rfl (Or.inl rfl)) pgs_nil)))
    (pss_cons (ps_set (i := 6) sc.nd rfl (Or.inr rfl) (pe_op op_rep (pe_lst (pa_cons (pe_tup (pa_cons pe_int (pa_cons pe_int pa_nil))) pa_nil)) (pe_callB call_len_seq rfl z_len PySem.boot_len (pa_cons (pv 4) pa_nil))))
    (pss_cons (ps_expr (pe_bm PySem.F.plainAttrs_list PySem.F.slot_list_extend PySem.F.type_list_extend mt_extend (pv 3) (pa_cons (pe_compr [".0", "row", "unread"] 1 [none, none, some 6] (pi_list (pe_ix ix_tup (pv 2) pe_int (fun _ _ => rfl))) (fun _ _ _ _ _ => pif_nil) (fun _ _ _ _ _ => (pe_op op_cat (pv 2) (pv 1)))) pa_nil)))
    (pss_one (ps_expr (pe_bm PySem.F.plainAttrs_list PySem.F.slot_list_extend PySem.F.type_list_extend mt_extend (pv 4) (pa_cons (pe_fn T_scaled G_scaled hr rfl (pa_cons (pe_ix ix_tup (pv 2) pe_int (fun _ _ => rfl)) (pa_cons (pv 5) pa_nil))) pa_nil)))))))
  (pss_one (ps_ret (pe_tup (pa_cons (pv 3) (pa_cons (pv 4) pa_nil))))))))))), ?_⟩
  refine ⟨_, rfl, p, rfl, ⟨_, SqL.of hp⟩, for_list (xs := xs) (fun i σ H' => ∃ r2, σ = [some (.ref p), some (.ref pp), r2, none, none, none, none] ∧ Same H H') ?_ ?_ ?_ ?_⟩
  · exact ⟨_, rfl, .refl _⟩
  · rintro i σ H' _ ⟨r2, rfl, e⟩
    exact SqL.of (e _ _ hp)
  · rintro i x σ H1 hx ⟨r2, rfl, e1⟩
    obtain ⟨t, ht, dt⟩ := tget i x hx
    exact ⟨_, rfl, x, t, m, rfl, dt.same e1, (hts t (List.mem_of_getElem? ht)).1, hm, fun H2 e2 => ⟨_, rfl, e1.trans e2⟩⟩
  rintro σ H1 ⟨r2, rfl, e1⟩
  refine ⟨_, rfl, p, xs, rfl, .inl (SqL.of (e1 _ _ hp)), rfl, _, rfl, ?_⟩
  rw [show decide (V.int (xs.length : Nat) = V.int 0) = false by simp; rintro rfl; simp at hxl; omega]
  refine iteF ⟨_, rfl, p, xs, rfl, .inl (SqL.of (e1 _ _ hp)), _, rfl, pp, ys, rfl, .inl (SqL.of (e1 _ _ hpp)), rfl, _, rfl, ?_⟩
  rw [show (!decide (V.int (xs.length : Nat) = V.int (ys.length : Nat))) = false by rw [hxl, hyl]; simp]
  refine iteF ⟨_, rfl, p, ts, xs, rfl, e1 _ _ hp, dx.same e1, by omega, by rw [tot_int]; omega, fun H2 e2 => ?_⟩
  have E2 := e1.trans e2
  refine ⟨sz60' (show 0 ≤ 60 by decide), fun R hR => ?_⟩
  have e3 := same_new hR (.lst [])
  have hR3 : upd H2 R (.lst []) R = some (.lst []) := upd_same
  generalize upd H2 R (.lst []) = H3 at e3 hR3
  refine ⟨sz60' (show 0 ≤ 60 by decide), fun Z hZ => ?_⟩
  have e4 := same_new hZ (.lst [])
  have hZ4 : upd H3 Z (.lst []) Z = some (.lst []) := upd_same
  generalize upd H3 Z (.lst []) = H4 at e4 hZ4
  have mx0 : Mixing H R Z (mixed ((ts.zip ps).take 0)) [] [] H4 := ⟨E2.trans (e3.trans e4), ne_of_none hR3 hZ, nback E2 hR, nback E2 (nback e3 hZ), e4 _ _ hR3, hZ4, .nil, .nil, fun _ z => (List.not_mem_nil z).elim⟩
  refine ⟨_, rfl, _, rfl, false, false, p, pp, rfl, ⟨_, mx0.same _ _ hp⟩, ⟨_, mx0.same _ _ hpp⟩, for_by ts.length (fun i σ H' => ∃ (r2 r5 r6 : Option V) (rws lzs : List V), σ = [some (.ref p), some (.ref pp), r2, some (.ref R), some (.ref Z), r5, r6] ∧ Mixing H R Z (mixed ((ts.zip ps).take i)) rws lzs H' ∧ MixOk (mixed ((ts.zip ps).take i)) (tot (ts.take i))) ?_ ?_ ?_⟩
  · exact ⟨_, _, _, _, _, rfl, mx0, ⟨rfl, rfl, fun i r z => by simp [mixed] at z⟩⟩
  · rintro i σ H5 hi ⟨r2, r5, r6, rws, lzs, rfl, mx, mo⟩
    have e5 := mx.same
    obtain ⟨x, hx⟩ : ∃ x, xs[i]? = some x := ⟨xs[i], List.getElem?_eq_getElem (by omega)⟩
    obtain ⟨y, hy⟩ : ∃ y, ys[i]? = some y := ⟨ys[i], List.getElem?_eq_getElem (by omega)⟩
    obtain ⟨t, ht, dt⟩ := tget i x hx
    obtain ⟨q', c, rfl, hq', hc⟩ := fracs_get dy hy
    obtain ⟨ot, ft⟩ := hts t (List.mem_of_getElem? ht)
    have fq := hps q' (List.mem_of_getElem? hq')
    obtain ⟨p1, R1, L1, xs1, ys1, rfl, hp1, hR1, dR1, hL1, dL1⟩ := dt.tab
    refine ⟨⟨_, _, _, _, e5 _ _ hp, e5 _ _ hpp, hx, hy⟩, fun v H' yl => ?_⟩
    obtain ⟨pq, x1, x2, rfl, np, rfl, q1, q2⟩ := yl
    have w1 := q1 _ (e5 _ _ hp)
    have w2 := q2 _ (e5 _ _ hpp)
    rw [hx] at w1
    rw [hy] at w2
    cases w1
    cases w2
    have e6 := same_new np (.tup [.ref p1, .ref c])
    refine ⟨pq, _, rfl, SqT.of upd_same, rfl, _, _, rfl, _, _, rfl, rfl, ?_⟩
    generalize upd H5 pq (.tup [.ref p1, .ref c]) = H6 at e6
    have mx := mx.go e6
    clear e5
    have e5 := mx.same
    generalize hacc : mixed ((ts.zip ps).take i) = acc at mx mo
    have hstep : mixed ((ts.zip ps).take (i + 1)) = mixStep acc (t, q') := by
      rw [List.take_add_one, (List.getElem?_zip_eq_some (z := (t, q'))).mpr ⟨ht, hq'⟩, ← hacc]
      exact mixed_snoc _ _
    have mo2 := mix_ok (p := q') mo ot
    have htk : tot (ts.take (i + 1)) = tot (ts.take i) + t.rs.length := by
      rw [List.take_add_one, ht]
      exact tot_snoc _ _
    have hle := tot_take ts (i + 1)
    have hlz : lzs.length = tot (ts.take i) := by rw [mx.last.len, fracs_len, mo.last]
    have hrw : rws.length = tot (ts.take i) := by rw [mx.rows.len, rows_len, mo.len]
    have mt := ot.most
    have lt := ot.last
    refine ⟨sz60' (show 2 ≤ 60 by decide), fun b1 hb1 => ?_⟩
    rw [rat_0]
    have e7 := same_new hb1 (.tup (ratV 0))
    have h7 : upd H6 b1 (.tup (ratV 0)) b1 = some (.tup (ratV 0)) := upd_same
    generalize upd H6 b1 (.tup (ratV 0)) = H7 at e7 h7
    refine ⟨sz60' (show 1 ≤ 60 by decide), fun b2 hb2 => ?_⟩
    have e8 := same_new hb2 (.lst [V.ref b1])
    have h8 : upd H7 b2 (.lst [V.ref b1]) b2 = some (.lst [V.ref b1]) := upd_same
    generalize upd H7 b2 (.lst [V.ref b1]) = H8 at e8 h8
    have mx := mx.go (e7.trans e8)
    refine ⟨_, rfl, Z, lzs, rfl, .inl (SqL.of mx.zAt), b2, _, _, rfl, rfl, h8, by omega, by omega, sz60' (by simp; omega), fun U hU => ?_⟩
    rw [List.flatten_replicate_singleton, show ((lzs.length : Nat) : Int).toNat = acc.ls.length by rw [mo.last, hlz]; rfl]
    have dU : DUs H8 (fracsD (List.replicate acc.ls.length 0)) (List.replicate acc.ls.length (V.ref b1)) := fracs_rep (du_rat (e8 _ _ h7)) _
    generalize hH : upd _ U _ = H9
    obtain ⟨e9, _, h9⟩ := du_l hH hU dU
    clear hH
    have dU := dU.same e9
    have mx := mx.go e9
    have E9 := mx.same
    clear e5
    refine ⟨_, rfl, .inl ⟨rfl, _, SqL.of mx.rAt⟩, _, rfl, _, _, _, _, rfl, rfl, SqT.of (E9 _ _ hp1), rfl, R1, rfl, ⟨_, SqL.of (E9 _ _ hR1)⟩, fun D hD => comp_by (n := xs1.length) (Made H9 D (t.rs.map (List.replicate acc.ls.length 0 ++ ·))) (made_0 hD) ?_ ?_⟩
    · rintro j zs H10 hj mk hD10
      have e10 := mk.1
      have E10 := E9.trans e10
      have l1 : xs1.length = t.rs.length := by rw [dR1.len, rows_len]
      have hr : t.rs[j]? = some (t.rs[j]'(by omega)) := List.getElem?_eq_getElem _
      have hrl := ot.row _ _ hr
      obtain ⟨r, us, g1, g2, g3⟩ := rows_get dR1 hr
      refine ⟨⟨xs1, .ref r, SqL.of (E10 _ _ hR1), g1⟩, sz60 (n := 60) (by rw [mk.2.1]; omega) (by decide), fun x H' yy => ?_⟩
      obtain ⟨rfl, yy⟩ := yy
      have hx := yy xs1 (SqL.of (E10 _ _ hR1))
      rw [g1] at hx
      cases hx
      unfold tNoIf
      refine iteT ⟨_, rfl, _, rfl, U, r, _, us, rfl, rfl, e10 _ _ h9, E10 _ _ g2, sm_le (by rw [g3.len, fracs_len, List.length_replicate, mo.last]; omega), fun l hl => ?_⟩
      obtain ⟨k1, k2⟩ := made_step (r := List.replicate acc.ls.length 0 ++ t.rs[j]'(by omega)) hD mk hD10 (by rw [List.getElem?_map, hr]; rfl) hl (by rw [fracs_app]; exact (dU.same e10).app (g3.same E10))
      exact ⟨k1, cw_next hj k2⟩
    · rintro zs H10 ⟨e10, zl, d10, n10⟩ hD10
      have E10 := E9.trans e10
      refine ⟨⟨xs1, SqL.of (E10 _ _ hR1), Nat.le_refl _⟩, ?_⟩
      have l1 : xs1.length = t.rs.length := by rw [dR1.len, rows_len]
      rw [l1, ← List.length_map (f := (List.replicate acc.ls.length (0 : Rat) ++ ·)) (as := t.rs), List.take_length] at d10
      refine ⟨R, D, rws, zs, rfl, rfl, e10 _ _ mx.rAt, hD10, sm_le (by omega), ?_⟩
      have mx := mixing_rows mx e10 (dtAll_du d10) fun yv hyv => by
        obtain ⟨aa, us, h1, _, h3, h4⟩ := n10 yv hyv
        exact ⟨aa, us, h1, h3, h4⟩
      generalize upd H10 R (.lst (rws ++ zs)) = H11 at mx
      have E11 := mx.same
      refine ⟨_, rfl, .inl ⟨rfl, _, SqL.of mx.zAt⟩, _, rfl, _, _, _, _, rfl, rfl, SqT.of (E11 _ _ hp1), rfl, _, rfl, L1, c, ys1, t.ls, q', n, rfl, E11 _ _ hL1, dL1.same E11, E11 _ _ hc, by omega, ft.2, fq, hn, fun D2 H12 zs2 e12 _ hD2 d2 => ?_⟩
      have mx := mx.go e12
      have z2 : zs2.length = t.rs.length := by rw [d2.len, fracs_len, List.length_map, lt]
      refine ⟨Z, D2, lzs, zs2, rfl, rfl, mx.zAt, hD2, sm_le (by omega), ?_⟩
      have mx := mixing_last mx d2
      refine ⟨_, _, _, rws ++ zs, lzs ++ zs2, rfl, ?_, ?_⟩
      · rw [hstep]; exact mx
      · rw [hstep, htk]; exact mo2
  · rintro σ H5 ⟨r2, r5, r6, rws, lzs, rfl, mx, mo⟩
    have e5 := mx.same
    refine ⟨⟨xs, ys, e5 _ _ hp, e5 _ _ hpp, .inl hxl.symm⟩, ?_⟩
    rw [List.take_of_length_le (by rw [List.length_zip, hpl, Nat.min_self]; exact Nat.le_refl _)] at mx
    refine ⟨_, rfl, _, rfl, sz60' (show 2 ≤ 60 by decide), fun t ht => ?_⟩
    have e9 := same_new ht (.tup [V.ref R, V.ref Z])
    have h9 : upd H5 t (.tup [V.ref R, V.ref Z]) t = some (.tup [V.ref R, V.ref Z]) := upd_same
    generalize upd H5 t (.tup [V.ref R, V.ref Z]) = H9 at e9 h9
    have mx := mx.go e9
    refine q _ H9 mx.same ⟨t, R, Z, rws, lzs, rfl, h9, mx.rAt, mx.r0, mx.zAt, mx.z0, fun x hx => ?_⟩ (du_tab h9 mx.rAt mx.rows mx.zAt mx.last)
    obtain ⟨r, us, k0, k1, _, k3, k4⟩ := mx.new x hx
    exact ⟨r, us, k0, k1, k3, k4⟩
end
def spPow : Sp := fun vs H Q _ => ∃ (b : Int) (p k : Nat), vs = [.int b, .int p] ∧ b.natAbs < 2 ^ k ∧ k * p ≤ 4000 ∧ Q (.int (b ^ p)) H
theorem pow_nb {b : Int} {k e p : Nat} (hb : b.natAbs < 2 ^ k) (he : e ≤ p) : (b ^ e).natAbs < 2 ^ (k * p + 1) := by
  rw [Int.natAbs_pow]
  have h1 : b.natAbs ^ e ≤ (2 ^ k) ^ e := Nat.pow_le_pow_left (Nat.le_of_lt hb) e
  rw [← Nat.pow_mul] at h1
  exact Nat.lt_of_le_of_lt h1 (Nat.pow_lt_pow_right (by decide) (Nat.lt_succ_of_le (Nat.mul_le_mul_left k he)))
def mu4 (σ : St) : Nat := match σ[4]? with | some (some (V.int l)) => l.natAbs | _ => 0
section
variable {P : Program} {w : World} {K : PySem.W.Frag} {mg : Str → Option Value} {base : Heap} {f g g1 g2 : Addr} {fd gd gd1 gd2 : FuncData}
theorem sc_power_of : FnScope ["base", "power", "product", "square", "left"] ["base", "power"] (defScope s_power_of) := ⟨rfl, rfl, rfl, by decide +kernel, rfl, by decide +kernel, by decide +kernel⟩
theorem ok_power_of (F : Fn K mg "power_of" s_power_of ["base", "power"] f fd) : FnOk P w K mg base CX0 1 f fd ["base", "power"] spPow := by
  have sc := sc_power_of
  refine F.F.ok (k := 0) sc (fun vs H Q E h => ?_) (fun cdv A outer s H vs Q E hr h => ?_)
  · obtain ⟨b, p, k, rfl, _⟩ := h
    rfl
  obtain ⟨b, p, k, rfl, hb, hk, q⟩ := h
  refine ⟨_, (pss_cons (ps_set (i := 2) sc.nd rfl (Or.inl rfl) pe_int)
  (pss_cons (ps_set (i := 3) sc.nd rfl (Or.inl rfl) (pv 0))
  (pss_cons (ps_set (i := 4) sc.nd rfl (Or.inl rfl) (pv 1))
  (pss_cons (ps_while PassesOwn.never (pt_cmpR op_gt (pv 4) pe_int (nomark _))
    (pss_cons (ps_if (pt_cmpR op_eq (pe_op op_mod (pv 4) pe_int) pe_int (nomark _))
      (pss_one (ps_set (i := 2) sc.nd rfl (Or.inl rfl) (pe_op op_mulW (pv 2) (pv 3))))
      pss_nil)
    (pss_cons (ps_set (i := 4) sc.nd rfl (Or.inl rfl) (pe_op op_fdiv (pv 4) pe_int))
    (pss_one (ps_if (pt_cmpR op_gt (pv 4) pe_int (nomark _))
      (pss_one (ps_set (i := 3) sc.nd rfl (Or.inl rfl) (pe_op op_mulW (pv 3) (pv 3))))
      pss_nil)))))
  (pss_one (ps_ret (pv 2))))))), ?_⟩
  refine ⟨_, rfl, _, rfl, ?_⟩
  refine while_by (fun σ H' => ∃ e f l : Nat, σ = [some (.int b), some (.int p), some (.int (b ^ e)), some (.int (b ^ f)), some (.int l)] ∧ H = H' ∧ e + f * l = p) (fun σ _ => mu4 σ) ?_ ?_ ?_
  · refine ⟨0, 1, p, ?_, rfl, by omega⟩
    rw [Int.pow_zero, Int.pow_succ, Int.pow_zero, Int.one_mul]
    rfl
  · rintro σ H' ⟨e, f, l, rfl, rfl, he⟩
    refine ⟨_, rfl, _, _, rfl, rfl, _, rfl, ite2 (fun c => ?_) (fun c => ?_)⟩
    · have hl : 0 < l := by have := of_decide_eq_true c; omega
      have hfp : f ≤ p := by
        have : f * 1 ≤ f * l := Nat.mul_le_mul_left f hl
        omega
      try dsimp only [gName]
      refine seq_join (fun σ' H' => ∃ e' : Nat, σ' = [some (.int b), some (.int p), some (.int (b ^ e')), some (.int (b ^ f)), some (.int l)] ∧ H = H' ∧ e' + f * (2 * (l / 2)) = p) (fun nx hnx => ?_) ?_
      · refine ⟨_, rfl, _, _, rfl, rfl, (by show (0 : Int) < 2; decide), rfl, _, rfl, ite2 (fun c => ?_) (fun c => ?_)⟩
        · have hodd : l % 2 = 1 := by have : ((l : Int) % 2) = 1 := by simpa using c
                                      omega
          refine ⟨_, rfl, _, rfl, _, _, rfl, rfl, mulW (pow_nb hb (show e ≤ p by omega)) (pow_nb hb hfp) (by omega), hnx _ _ ⟨e + f, ?_, rfl, ?_⟩⟩
          · show [some (V.int b), some (V.int p), some (V.int (b ^ e * b ^ f)), some (V.int (b ^ f)), some (V.int l)] = _
            rw [← Int.pow_add]
          · have : l = 2 * (l / 2) + 1 := by omega
            rw [← he]
            conv => rhs; rw [this, Nat.mul_add, Nat.mul_one]
            omega
        · have hev : l % 2 = 0 := by have : ¬ ((l : Int) % 2) = 1 := by simpa using c
                                     omega
          refine hnx _ _ ⟨e, rfl, rfl, ?_⟩
          rw [show 2 * (l / 2) = l by omega]; exact he
      · rintro σ' _ ⟨e', rfl, rfl, he'⟩
        refine ⟨_, rfl, _, _, rfl, rfl, ⟨by decide, by decide⟩, ?_⟩
        have el : ((l : Int) / 2) = ((l / 2 : Nat) : Int) := by omega
        refine ⟨_, rfl, _, _, rfl, rfl, _, rfl, ite2 (fun c => ?_) (fun c => ?_)⟩
        · refine ⟨_, rfl, _, rfl, _, _, rfl, rfl, mulW (pow_nb hb hfp) (pow_nb hb hfp) (by omega), ⟨e', f + f, l / 2, ?_, rfl, ?_⟩, ?_⟩
          · show [some (V.int b), some (V.int p), some (V.int (b ^ e')), some (V.int (b ^ f * b ^ f)), some (V.int ((l : Int) / 2))] = _
            rw [el, ← Int.pow_add]
          · rw [← he', ← Nat.two_mul, Nat.mul_assoc, Nat.mul_left_comm]
          · show ((l : Int) / 2).natAbs < ((l : Nat) : Int).natAbs
            omega
        · refine ⟨⟨e', f, l / 2, ?_, rfl, ?_⟩, ?_⟩
          · show [some (V.int b), some (V.int p), some (V.int (b ^ e')), some (V.int (b ^ f)), some (V.int ((l : Int) / 2))] = _
            rw [el]
          · have : l / 2 = 0 := by have := of_decide_eq_false (Bool.eq_false_iff.mpr c); omega
            rw [this] at he' ⊢
            simpa using he'
          · show ((l : Int) / 2).natAbs < ((l : Nat) : Int).natAbs
            omega
    · have hl : l = 0 := by have := of_decide_eq_false (Bool.eq_false_iff.mpr c); omega
      subst hl
      rw [Nat.mul_zero, Nat.add_zero] at he
      subst he
      exact ⟨_, rfl, q⟩
  · exact fun σ H Q Q' hq ⟨v, e, s, k, e2, e3, e4, q1, q2⟩ => ⟨v, e, s, k, e2, e3, e4, q1, hq _ _ q2⟩
end
def spLaw (K : PySem.W.Frag) : Sp := fun vs H Q _ => ∃ (a : Addr) (ns : List Int), vs = [.ref a] ∧ SqL K H a (ns.map V.int) ∧ ns.length ≤ 63 ∧ ∀ H', Q (.bl true) H'
def Cleared (Hb : Hp) (t R L : Addr) (xs : List V) (H : Hp) : Prop := Same Hb H ∧ H t = some (.tup [.ref R, .ref L]) ∧ H R = some (.lst xs) ∧ (∃ zs, H L = some (.lst zs)) ∧ ∀ x ∈ xs, ∃ r ws, x = .ref r ∧ r ≠ R ∧ Hb r = none ∧ H r = some (.lst ws)
theorem clear_step {Hb H : Hp} {t R L r : Addr} {xs : List V} (h : Cleared Hb t R L xs H) (hr : V.ref r ∈ xs) : Cleared Hb t R L xs (upd H r (.lst [])) := by
  obtain ⟨e, h1, h2, ⟨zs, h3⟩, h4⟩ := h
  obtain ⟨r', ws, e', n, k1, k2⟩ := h4 _ hr
  cases e'
  refine ⟨fun b o z => by rw [upd_ne (ne_of_none z k1)]; exact e _ _ z, ?_, by rw [upd_ne n.symm]; exact h2, ?_, fun x hx => ?_⟩
  · rw [upd_ne (fun z => by subst z; rw [h1] at k2; cases k2)]
    exact h1
  · by_cases z : L = r
    · subst z; exact ⟨_, upd_same⟩
    · exact ⟨zs, by rw [upd_ne z]; exact h3⟩
  · obtain ⟨a, us, rfl, m1, m2, m3⟩ := h4 x hx
    by_cases z : a = r
    · subst z; exact ⟨a, _, rfl, m1, m2, upd_same⟩
    · exact ⟨a, us, rfl, m1, m2, by rw [upd_ne z]; exact m3⟩
def half : Rat := ⟨1, 2, by decide, by decide⟩
theorem fits_half : FM.Fits half 4 := ⟨by decide, by decide⟩
theorem rat_half : [V.int 1, V.int 2] = ratV half := rfl
def great (o : Nat) : Int := 2 ^ o
theorem great_is {o : Nat} (h1 : 1 ≤ o) (h6 : o ≤ 6) : 2 ≤ great o ∧ great o ≤ 64 := by
  match o, h1, h6 with
  | 1, _, _ => exact ⟨by decide, by decide⟩
  | 2, _, _ => exact ⟨by decide, by decide⟩
  | 3, _, _ => exact ⟨by decide, by decide⟩
  | 4, _, _ => exact ⟨by decide, by decide⟩
  | 5, _, _ => exact ⟨by decide, by decide⟩
  | 6, _, _ => exact ⟨by decide, by decide⟩
def pg (o : Nat) : Rat := Rat.divInt (great o) (great o - 1)
def ph (o : Nat) : Rat := Rat.divInt (-1) (great o - 1)
theorem pg_fits {o : Nat} (h1 : 1 ≤ o) (h6 : o ≤ 6) : FM.Fits (pg o) 8 := by
  have := great_is h1 h6
  exact .of_div (by omega) (by omega) (by omega)
theorem ph_fits {o : Nat} (h1 : 1 ≤ o) (h6 : o ≤ 6) : FM.Fits (ph o) 8 := by
  have := great_is h1 h6
  exact .of_div (by omega) (by decide) (by omega)
def Tb.halves (t : Tb) : Tb := (t.shrunk half).behind (t.shrunk half)
def sharpened (t : Tb) (o : Nat) : Tb := mixed [(t.halves, pg o), (t, ph o)]
theorem sharp_eq {t : Tb} {m : Nat} (h : t.Ok m) (o : Nat) : sharpened t o = ⟨t.halves.rs ++ t.rs.map (List.replicate t.halves.rs.length 0 ++ ·), t.halves.ls.map (· * pg o) ++ t.ls.map (· * ph o)⟩ := by
  have hb := ((h.shrunk half).behind (h.shrunk half)).last
  show mixStep (mixStep ⟨[], []⟩ (t.halves, pg o)) (t, ph o) = _
  unfold mixStep
  simp only [List.nil_append, List.length_nil, List.replicate_zero, List.map_id', List.length_map, List.map_id_fun', List.map_id]
  rw [show t.halves.ls.length = t.halves.rs.length from hb]
theorem sharp_ok {t : Tb} {m : Nat} (h : t.Ok m) (o : Nat) : (sharpened t o).Ok (3 * m) := by
  have h0 : MixOk ⟨[], []⟩ 0 := ⟨rfl, rfl, fun i r z => by simp at z⟩
  have hb : t.halves.Ok (m + m) := (h.shrunk half).behind (h.shrunk half)
  have h1 := mix_ok (p := pg o) h0 hb
  have h2 := mix_ok (p := ph o) h1 h
  have a1 := h.one
  have a2 := h.most
  have a3 := hb.most
  have e : sharpened t o = mixStep (mixStep ⟨[], []⟩ (t.halves, pg o)) (t, ph o) := rfl
  rw [e]
  exact ⟨by rw [h2.len]; omega, by rw [h2.len]; omega, by rw [h2.last, h2.len], h2.row⟩
theorem Anew.back {H H1 H' : Hp} {v : V} (e : Same H H1) (h : Anew H1 H' v) : Anew H H' v := by
  obtain ⟨t, R, L, xs, zs, h0, h1, h2, h3, h4, h5, h6⟩ := h
  exact ⟨t, R, L, xs, zs, h0, h1, h2, nback e h3, h4, nback e h5, fun x hx => let ⟨r, ws, a, b, c, d⟩ := h6 x hx; ⟨r, ws, a, b, nback e c, d⟩⟩
def spSharp : Sp := fun vs H Q _ => ∃ (v : V) (t : Tb) (o m n : Nat), vs = [v, .int (o : Nat)] ∧ DU H (tabD t) v ∧ t.Ok m ∧ 3 * m ≤ 40 ∧ t.Fit n ∧ n ≤ 500 ∧ 1 ≤ o ∧ o ≤ 6 ∧ ∀ v' H', Same H H' → Anew H H' v' → DU H' (tabD (sharpened t o)) v' → Q v' H'
section
variable {P : Program} {w : World} {K : PySem.W.Frag} {mg : Str → Option Value} {base : Heap} {f g g1 g2 g3 g4 g5 g6 g7 : Addr} {fd gd gd1 gd2 gd3 gd4 gd5 gd6 gd7 : FuncData}
theorem sc_table_sharpened : FnScope ["table", "order", "halved", "power", "parts"] ["table", "order"] (defScope s_table_sharpened) := ⟨rfl, rfl, rfl, by decide +kernel, rfl, by decide +kernel, by decide +kernel⟩
theorem ok_table_sharpened {tk : Tok} (F : Fn K mg "table_sharpened" s_table_sharpened ["table", "order"] f fd) (T_refuse_no_table : Fn K mg "refuse_no_table" s_refuse_no_table ["thing"] g1 gd1) (T_table_shrunk : Fn K mg "table_shrunk" s_table_shrunk ["table", "part"] g2 gd2) (T_power_of : Fn K mg "power_of" s_power_of ["base", "power"] g3 gd3) (T_fraction_of : Fn K mg "fraction_of" s_fraction_of ["top", "bottom"] g4 gd4) (T_table_behind : Fn K mg "table_behind" s_table_behind ["one", "other"] g5 gd5) (T_table_mixed : Fn K mg "table_mixed" s_table_mixed ["tables", "parts"] g6 gd6)
    (G_refuse_no_table : FnOk P w K mg base CX0 7 g1 gd1 ["thing"] spRefTab) (G_table_shrunk : FnOk P w K mg base CX0 7 g2 gd2 ["table", "part"] spShrunk) (G_power_of : FnOk P w K mg base CX0 7 g3 gd3 ["base", "power"] spPow) (G_fraction_of : FnOk P w K mg base CX0 7 g4 gd4 ["top", "bottom"] spFr) (G_table_behind : FnOk P w K mg base CX0 7 g5 gd5 ["one", "other"] spBehind) (G_table_mixed : FnOk P w K mg base CX0 7 g6 gd6 ["tables", "parts"] spMixT2)
    (m_MOST_SHARPENED : mg "MOST_SHARPENED" = some (.int 6 tk)) : FnOk P w K mg base CX0 8 f fd ["table", "order"] spSharp := by
  have sc := sc_table_sharpened
  refine F.F.ok (k := 7) sc (fun vs H Q E h => ?_) (fun cdv A outer s H vs Q E hr h => ?_)
  · obtain ⟨v, t, o, m, n, rfl, _⟩ := h
    rfl
  obtain ⟨v, t, o, m, n, rfl, dt, ot, hm, ft, hn, ho1, ho6, q⟩ := h
  have hg := great_is ho1 ho6
  refine ⟨_, (pss_cons (ps_expr (pe_fn T_refuse_no_table G_refuse_no_table hr rfl (pa_cons (pv 0) pa_nil)))
  (pss_cons (ps_if (PW.pt (pw_or (pt_cmpR op_lt (pv 1) pe_int (nomark _)) (pw_or1 (pt_cmpR op_gt (pv 1) (pe_glob (v := .int 6) rfl m_MOST_SHARPENED ⟨_, rfl⟩) (nomark _)))))
    (pss_one ps_never)
    pss_nil)
  (pss_cons (ps_set (i := 2) sc.nd rfl (Or.inl rfl) (pe_fn T_table_shrunk G_table_shrunk hr rfl (pa_cons (pv 0) (pa_cons (pe_tup (pa_cons pe_int (pa_cons pe_int pa_nil))) pa_nil))))
  (pss_cons (ps_set (i := 3) sc.nd rfl (Or.inl rfl) (pe_fn T_power_of G_power_of hr rfl (pa_cons pe_int (pa_cons (pv 1) pa_nil))))
  (pss_cons (ps_set (i := 4) sc.nd rfl (Or.inl rfl) (pe_lst (pa_cons (pe_fn T_fraction_of G_fraction_of hr rfl (pa_cons (pv 3) (pa_cons (pe_op op_sub (pv 3) pe_int) pa_nil))) (pa_cons (pe_fn T_fraction_of G_fraction_of hr rfl (pa_cons (pe_un un_neg pe_int) (pa_cons (pe_op op_sub (pv 3) pe_int) pa_nil))) pa_nil))))
  (pss_one (ps_ret (pe_fn T_table_mixed G_table_mixed hr rfl (pa_cons (pe_lst (pa_cons (pe_fn T_table_behind G_table_behind hr rfl (pa_cons (pv 2) (pa_cons (pv 2) pa_nil))) (pa_cons (pv 0) pa_nil))) (pa_cons (pv 4) pa_nil)))))))))), ?_⟩
  refine ⟨_, rfl, v, t, m, rfl, dt, ot, by omega, fun H1 e1 => ?_⟩
  refine ⟨_, rfl, _, _, rfl, rfl, _, rfl, ite2 (fun c => absurd (of_decide_eq_true c) (by omega)) fun _ => ⟨_, rfl, _, _, rfl, rfl, _, rfl, ite2 (fun c => absurd (of_decide_eq_true c) (by omega)) fun _ => ?_⟩⟩
  refine ⟨_, rfl, sz60' (show 2 ≤ 60 by decide), fun p hp => ?_⟩
  rw [rat_half]
  have e2 := same_new hp (.tup (ratV half))
  have h2 : upd H1 p (.tup (ratV half)) p = some (.tup (ratV half)) := upd_same
  generalize upd H1 p (.tup (ratV half)) = H2 at e2 h2
  have E2 := e1.trans e2
  refine ⟨v, p, t, half, m, n + 4, rfl, dt.same E2, h2, ot, by omega, ft.mono (by omega), fits_half.mono (by omega), by omega, fun v2 H3 e3 _ d2 => ?_⟩
  have E3 := E2.trans e3
  have o2 := ot.shrunk half
  refine ⟨_, rfl, 2, o, 2, rfl, by decide, by omega, ?_⟩
  rw [show ((2 : Int) ^ o) = great o from rfl]
  refine ⟨_, rfl, _, rfl, _, _, rfl, rfl, great o, great o - 1, 8, rfl, by omega, by decide, by omega, fun l1 H4 e4 h4 => ?_⟩
  refine ⟨_, rfl, _, rfl, _, _, rfl, rfl, -1, great o - 1, 8, rfl, by omega, by decide, by omega, fun l2 H5 e5 h5 => ?_⟩
  refine ⟨sz60' (show 2 ≤ 60 by decide), fun pp hpp => ?_⟩
  generalize hH : upd _ pp _ = H6
  obtain ⟨e6, _, h6⟩ := du_l hH hpp (.cons (du_rat (q := pg o) (e5 _ _ h4)) (.cons (du_rat (q := ph o) h5) .nil))
  clear hH hpp
  have e46 := e4.trans (e5.trans e6)
  have dps : DUs H6 (fracsD [pg o, ph o]) [.ref l1, .ref l2] := .cons (du_rat (q := pg o) (e6 _ _ (e5 _ _ h4))) (.cons (du_rat (q := ph o) (e6 _ _ h5)) .nil)
  have E6 := E3.trans e46
  have d2 := d2.same e46
  refine ⟨_, rfl, _, rfl, v2, v2, t.shrunk half, t.shrunk half, m, m, rfl, d2, d2, o2, o2, by omega, fun v3 H7 e7 _ d3 => ?_⟩
  have E7 := E6.trans e7
  refine ⟨_, rfl, sz60' (show 2 ≤ 60 by decide), fun pt hpt => ?_⟩
  generalize hH : upd _ pt _ = H8
  obtain ⟨e8, _, h8⟩ := du_l hH hpt (.cons d3 (.cons (dt.same E7) .nil))
  clear hH hpt
  have E8 := E7.trans e8
  have ob := o2.behind o2
  have fb := (ft.shrunk fits_half).behind (ft.shrunk fits_half)
  have m1 := ob.most
  have m2 := ot.most
  refine ⟨_, rfl, pt, pp, [t.halves, t], _, [pg o, ph o], _, m + m, n + 12, rfl, h8, .cons (d3.same e8) (.cons (dt.same E8) .nil), e8 _ _ (e7 _ _ h6), dps.same (e7.trans e8), rfl, (show 1 ≤ 2 by decide), (show 2 ≤ 8 by decide), fun t' ht' => ?_, by omega, fun q' hq' => ?_, by omega, ?_, fun v' H9 e9 an d9 => ?_⟩
  · rcases List.mem_cons.mp ht' with rfl | ht'
    · exact ⟨ob, fb.mono (by omega)⟩
    · rw [List.mem_singleton.mp ht']
      exact ⟨⟨ot.one, by omega, ot.last, ot.row⟩, ft.mono (by omega)⟩
  · rcases List.mem_cons.mp hq' with rfl | hq'
    · exact (pg_fits ho1 ho6).mono (by omega)
    · rw [List.mem_singleton.mp hq']
      exact (ph_fits ho1 ho6).mono (by omega)
  · show t.halves.rs.length + (t.rs.length + 0) ≤ 40
    unfold Tb.halves
    omega
  · exact q v' H9 (E8.trans e9) (an.back E8) d9
end
section
variable {P : Program} {w : World} {K : PySem.W.Frag} {mg : Str → Option Value} {base : Heap} {f g g1 g2 g3 g4 g5 g6 g7 : Addr} {fd gd gd1 gd2 gd3 gd4 gd5 gd6 gd7 : FuncData}
theorem sc_law : FnScope ["_law_script", "_law_rest_here", "_law_order", "_law_table_here", "_law_great", "_law_rows", "_law_last", "_law_halves", "_law_due", "_law_handed", "_law_found", "_law_row_here"] ["_law_script"] (defScope s_law) := ⟨rfl, rfl, rfl, by decide +kernel, rfl, by decide +kernel, by decide +kernel⟩
theorem ok_law (F : Fn K mg "law" s_law ["_law_script"] f fd) (T__law_rest : Fn K mg "_law_rest" s__law_rest ["_law_script", "_law_k"] g1 gd1) (T__law_table : Fn K mg "_law_table" s__law_table ["_law_rest_here", "_law_most"] g2 gd2) (T__law_copy : Fn K mg "_law_copy" s__law_copy ["_law_table_here"] g3 gd3) (T_table_sharpened : Fn K mg "table_sharpened" s_table_sharpened ["table", "order"] g4 gd4) (T__law_good : Fn K mg "_law_good" s__law_good ["_law_found", "_law_due"] g5 gd5) (T__law_scaled : Fn K mg "_law_scaled" s__law_scaled ["_law_row_here", "_law_part"] g6 gd6) (T__law_ratio : Fn K mg "_law_ratio" s__law_ratio ["_law_top", "_law_bottom"] g7 gd7)
    (G__law_rest : FnOk P w K mg base CX0 8 g1 gd1 ["_law_script", "_law_k"] (spCell K)) (G__law_table : FnOk P w K mg base CX0 8 g2 gd2 ["_law_rest_here", "_law_most"] spTab60) (G__law_copy : FnOk P w K mg base CX0 8 g3 gd3 ["_law_table_here"] spCopy) (G_table_sharpened : FnOk P w K mg base CX0 8 g4 gd4 ["table", "order"] spSharp) (G__law_good : FnOk P w K mg base CX0 8 g5 gd5 ["_law_found", "_law_due"] spGoodT) (G__law_scaled : FnOk P w K mg base CX0 8 g6 gd6 ["_law_row_here", "_law_part"] spScaled) (G__law_ratio : FnOk P w K mg base CX0 8 g7 gd7 ["_law_top", "_law_bottom"] spFr)
    (z_len : mg "len" = none) : FnOk P w K mg base CX0 9 f fd ["_law_script"] (spLaw K) := by
  have sc := sc_law
  refine F.F.ok (k := 8) sc (fun vs H Q E h => ?_) (fun cdv A outer s H vs Q E hr h => ?_)
  · obtain ⟨a, ns, rfl, _⟩ := h
    rfl
  obtain ⟨a, ns, rfl, hS, h63, q⟩ := h
  refine ⟨_, (pss_cons (ps_set (i := 1) sc.nd rfl (Or.inl rfl) (pe_fn T__law_rest G__law_rest hr rfl (pa_cons (pv 0) (pa_cons pe_int pa_nil))))
  (pss_cons (ps_set (i := 2) sc.nd rfl (Or.inl rfl) (pe_op op_add pe_int (pe_op op_mod (pv 1) pe_int)))
  (pss_cons (ps_set (i := 3) sc.nd rfl (Or.inl rfl) (pe_fn T__law_table G__law_table hr rfl (pa_cons (pe_fn T__law_rest G__law_rest hr rfl (pa_cons (pv 0) (pa_cons pe_int pa_nil))) (pa_cons pe_int pa_nil))))
  (pss_cons (ps_set (i := 4) sc.nd rfl (Or.inl rfl) (pe_op op_shl pe_int (pv 2)))
  (pss_cons (ps_set (i := 5) sc.nd rfl (Or.inr rfl) (pe_compr [".0", "_law_row_here"] 1 [none, none] (pi_list (pe_ix ix_tup (pv 3) pe_int (fun _ _ => rfl))) (fun _ _ _ _ _ => pif_nil) (fun _ _ _ _ _ => (pe_fn T__law_scaled G__law_scaled hr rfl (pa_cons (pv 1) (pa_cons (pe_tup (pa_cons pe_int (pa_cons pe_int pa_nil))) pa_nil))))))
  (pss_cons (ps_set (i := 6) sc.nd rfl (Or.inr rfl) (pe_fn T__law_scaled G__law_scaled hr rfl (pa_cons (pe_ix ix_tup (pv 3) pe_int (fun _ _ => rfl)) (pa_cons (pe_tup (pa_cons pe_int (pa_cons pe_int pa_nil))) pa_nil))))
  (pss_cons (ps_set (i := 5) sc.nd rfl (Or.inr rfl) (pe_op op_cat (pv 5) (pe_compr [".0", "_law_row_here", "_law_last"] 1 [none, none, some 6] (pi_list (pv 5)) (fun _ _ _ _ _ => pif_nil) (fun _ _ _ _ _ => (pe_op op_cat (pv 2) (pv 1))))))
  (pss_cons (ps_set (i := 5) sc.nd rfl (Or.inr rfl) (pe_op op_cat (pv 5) (pe_compr [".0", "_law_row_here", "_law_rows"] 1 [none, none, some 5] (pi_list (pe_ix ix_tup (pv 3) pe_int (fun _ _ => rfl))) (fun _ _ _ _ _ => pif_nil) (fun _ _ _ _ _ => (pe_op op_cat (pe_op op_rep (pe_lst (pa_cons (pe_tup (pa_cons pe_int (pa_cons pe_int pa_nil))) pa_nil)) (pe_callB call_len_seqC rfl z_len PySem.boot_len (pa_cons (pv 2) pa_nil))) (pv 1))))))
  (pss_cons (ps_set (i := 7) sc.nd rfl (Or.inl rfl) (pe_fn T__law_scaled G__law_scaled hr rfl (pa_cons (pe_op op_cat (pv 6) (pv 6)) (pa_cons (pe_fn T__law_ratio G__law_ratio hr rfl (pa_cons (pv 4) (pa_cons (pe_op op_sub (pv 4) pe_int) pa_nil))) pa_nil))))
  (pss_cons (ps_set (i := 8) sc.nd rfl (Or.inl rfl) (pe_tup (pa_cons (pv 5) (pa_cons (pe_op op_cat (pv 7) (pe_fn T__law_scaled G__law_scaled hr rfl (pa_cons (pe_ix ix_tup (pv 3) pe_int (fun _ _ => rfl)) (pa_cons (pe_fn T__law_ratio G__law_ratio hr rfl (pa_cons (pe_un un_neg pe_int) (pa_cons (pe_op op_sub (pv 4) pe_int) pa_nil))) pa_nil)))) pa_nil))))
  (pss_cons (ps_set (i := 9) sc.nd rfl (Or.inl rfl) (pe_fn T__law_copy G__law_copy hr rfl (pa_cons (pv 3) pa_nil)))
  (pss_cons (ps_set (i := 10) sc.nd rfl (Or.inl rfl) (pe_fn T_table_sharpened G_table_sharpened hr rfl (pa_cons (pv 9) (pa_cons (pv 2) pa_nil))))
  (pss_cons (ps_if (PW.pt (pw_or (pt_not (pt_val (pe_fn T__law_good G__law_good hr rfl (pa_cons (pv 10) (pa_cons (pv 8) pa_nil))))) (pw_or1 (pt_cmpR (op_neD (by have := hr.units; exact this)) (pv 9) (pv 3) (nomark _)))))
    (pss_one (ps_ret pe_bl))
    pss_nil)
  (pss_cons (ps_for PassesOwn.never rfl (pi_list (pe_ix ix_tup (pv 10) pe_int (fun _ _ => rfl))) (pg_name (i := 11) sc.nd rfl (Or.inl rfl))
    (pss_one (ps_expr (pe_bm0 PySem.F.plainAttrs_list PySem.F.slot_list_clear PySem.F.type_list_clear mt_clear (pv 11)))))
  (pss_cons (ps_expr (pe_bm0 PySem.F.plainAttrs_list PySem.F.slot_list_clear PySem.F.type_list_clear mt_clear (pe_ix ix_tup (pv 10) pe_int (fun _ _ => rfl))))
  (pss_one (ps_ret (pe_and (pe_fn T__law_good G__law_good hr rfl (pa_cons (pe_fn T_table_sharpened G_table_sharpened hr rfl (pa_cons (pv 9) (pa_cons (pv 2) pa_nil))) (pa_cons (pv 8) pa_nil))) (pe_one (pe_cmpR (op_eqD (by have := hr.units; exact this)) (pv 9) (pv 3) (nomark _))))))))))))))))))))), ?_⟩
  refine ⟨_, rfl, a, ns, 0, rfl, hS, by decide, fun x0 => ?_⟩
  refine ⟨_, rfl, _, _, rfl, rfl, (by show (0 : Int) < 6; decide), _, _, rfl, rfl, ?_⟩
  obtain ⟨o, ho1, ho6, eo⟩ : ∃ o : Nat, 1 ≤ o ∧ o ≤ 6 ∧ 1 + x0 % 6 = (o : Int) := ⟨(1 + x0 % 6).toNat, by omega, by omega, by omega⟩
  rw [show ((fun i j : Int => V.int (i + j)) 1 (x0 % 6)) = V.int (o : Int) from congrArg V.int eo]
  refine ⟨_, rfl, a, ns, 1, rfl, hS, by decide, fun x1 => ⟨x1, 5, rfl, by decide, by decide, fun v1 H1 t e1 d1 o1 sm => ?_⟩⟩
  clear hS h63 e1 eo
  have ft : t.Fit 60 := sm
  have hg := great_is ho1 ho6
  refine ⟨_, rfl, _, _, rfl, rfl, ⟨by omega, by omega, by decide⟩, ?_⟩
  rw [show ((fun i j : Int => V.int (i * 2 ^ j.toNat)) 1 (o : Int)) = V.int (great o) from congrArg V.int (show (1 : Int) * 2 ^ (o : Int).toNat = great o by rw [Int.one_mul, Int.toNat_natCast]; rfl)]
  obtain ⟨p1, R1, L1, xs1, ys1, rfl, hp1, hR1, dR1, hL1, dL1⟩ := d1.tab
  have l1 : xs1.length = t.rs.length := by rw [dR1.len, rows_len]
  have y1 : ys1.length = t.rs.length := by rw [dL1.len, fracs_len, o1.last]
  have m1 := o1.most
  have la := o1.last
  have o2 := o1.shrunk half
  have oh : t.halves.Ok 10 := o2.behind o2
  have fh : t.halves.Fit 64 := (ft.shrunk fits_half).behind (ft.shrunk fits_half)
  have lsh : (t.shrunk half).rs.length = t.rs.length := by show (t.rs.map _).length = _; rw [List.length_map]
  have lsl : (t.shrunk half).ls.length = t.rs.length := by show (t.ls.map _).length = _; rw [List.length_map, la]
  have lhr : t.halves.rs.length = t.rs.length + t.rs.length := by unfold Tb.halves Tb.behind; simp [lsh]
  have lhl : t.halves.ls.length = t.rs.length + t.rs.length := by unfold Tb.halves Tb.behind; simp [lsl]
  refine ⟨_, rfl, _, _, _, _, rfl, rfl, SqT.of hp1, rfl, R1, rfl, ⟨_, SqL.of hR1⟩, fun D hD => comp_by (n := xs1.length) (Made H1 D (t.shrunk half).rs) (made_0 hD) ?_ ?_⟩
  · rintro i ys H5 hi mk hD5
    have e5 := mk.1
    have hr : t.rs[i]? = some (t.rs[i]'(by omega)) := List.getElem?_eq_getElem _
    have hrl := o1.row _ _ hr
    obtain ⟨r, zs, k1, k2, k3⟩ := rows_get dR1 hr
    refine ⟨⟨_, .ref r, SqL.of (e5 _ _ hR1), k1⟩, sz60 (n := 60) (by rw [mk.2.1]; omega) (by decide), fun x H' y => ?_⟩
    obtain ⟨rfl, y⟩ := y
    have hx := y _ (SqL.of (e5 _ _ hR1))
    rw [k1] at hx
    cases hx
    unfold tNoIf
    refine iteT ⟨_, rfl, sz60' (show 2 ≤ 60 by decide), fun b hb => ?_⟩
    rw [rat_half]
    have e6 := same_new hb (.tup (ratV half))
    have h6 : upd H' b (.tup (ratV half)) b = some (.tup (ratV half)) := upd_same
    generalize upd H' b (.tup (ratV half)) = H6 at e6 h6
    have E6 := e5.trans e6
    refine ⟨r, b, zs, _, half, 60, rfl, E6 _ _ k2, k3.same E6, h6, by omega, ft.1 _ (List.mem_of_getElem? hr), fits_half.mono (by decide), by decide, fun l H7 ws e7 hl hl7 dw => ?_⟩
    obtain ⟨j1, j2⟩ := made_call hD mk hD5 (by show (t.rs.map _)[i]? = _; rw [List.getElem?_map, hr]; rfl) (e6.trans e7) (nback e6 hl) hl7 dw
    exact ⟨j1, cw_next hi j2⟩
  rintro zs0 H2 ⟨e2, zl0, dz0, _⟩ hD2
  refine ⟨⟨_, SqL.of (e2 _ _ hR1), Nat.le_refl _⟩, ?_⟩
  rw [List.take_of_length_le (by omega)] at dz0
  have dz0 := dtAll_du dz0
  refine ⟨_, rfl, _, _, _, _, rfl, rfl, SqT.of (e2 _ _ hp1), rfl, sz60' (show 2 ≤ 60 by decide), fun b hb => ?_⟩
  rw [rat_half]
  have e3 := same_new hb (.tup (ratV half))
  have h3 : upd H2 b (.tup (ratV half)) b = some (.tup (ratV half)) := upd_same
  generalize upd H2 b (.tup (ratV half)) = H3 at e3 h3
  have E3 := e2.trans e3
  refine ⟨L1, b, ys1, t.ls, half, 60, rfl, E3 _ _ hL1, dL1.same E3, h3, by omega, ft.2, fits_half.mono (by decide), by decide, fun L0 H4 ls0 e4 _ hL0 dl0 => ?_⟩
  have E4 := E3.trans e4
  have dz0 := dz0.same (e3.trans e4)
  have hD4 := e4 _ _ (e3 _ _ hD2)
  have dl0 : DUs H4 (fracsD (t.shrunk half).ls) ls0 := dl0
  have ll0 : ls0.length = t.rs.length := by rw [dl0.len, fracs_len, lsl]
  clear e2 e3 e4 E3 h3 hD2 hD hb
  refine ⟨_, rfl, _, rfl, D, rfl, ⟨_, SqL.of hD4⟩, fun D2 hD2 => comp_by (n := zs0.length) (Made H4 D2 ((t.shrunk half).rs.map ((t.shrunk half).ls ++ ·))) (made_0 hD2) ?_ ?_⟩
  · rintro i ys H5 hi mk hD5
    have e5 := mk.1
    have hr : (t.shrunk half).rs[i]? = some ((t.shrunk half).rs[i]'(by omega)) := List.getElem?_eq_getElem _
    have hrl := o2.row _ _ hr
    obtain ⟨r, zs, k1, k2, k3⟩ := rows_get dz0 hr
    refine ⟨⟨_, .ref r, SqL.of (e5 _ _ hD4), k1⟩, sz60 (n := 60) (by rw [mk.2.1]; omega) (by decide), fun x H' y => ?_⟩
    obtain ⟨rfl, y⟩ := y
    have hx := y _ (SqL.of (e5 _ _ hD4))
    rw [k1] at hx
    cases hx
    unfold tNoIf
    refine iteT ⟨_, rfl, _, rfl, L0, r, ls0, zs, rfl, rfl, e5 _ _ hL0, e5 _ _ k2, sm_le (by rw [k3.len, fracs_len]; omega), fun l hl => ?_⟩
    obtain ⟨j1, j2⟩ := made_step (r := (t.shrunk half).ls ++ (t.shrunk half).rs[i]'(by omega)) hD2 mk hD5 (by rw [List.getElem?_map, hr]; rfl) hl (by rw [fracs_app]; exact (dl0.same e5).app (k3.same e5))
    exact ⟨j1, cw_next hi j2⟩
  rintro zs1 H5 ⟨e5, zl1, dz1, _⟩ hD5
  refine ⟨⟨_, SqL.of (e5 _ _ hD4), Nat.le_refl _⟩, ?_⟩
  rw [List.take_of_length_le (by rw [List.length_map]; omega)] at dz1
  have dz1 := dtAll_du dz1
  refine ⟨D, D2, zs0, zs1, rfl, rfl, e5 _ _ hD4, hD5, sm_le (by omega), fun RB hRB => ?_⟩
  generalize hH : upd _ RB _ = H6
  obtain ⟨e6, _, hRB6⟩ := du_l hH hRB ((dz0.same e5).app dz1)
  have dB : DUs H6 (rowsD t.halves.rs) (zs0 ++ zs1) := by
    unfold Tb.halves Tb.behind
    show DUs H6 (rowsD ((t.shrunk half).rs ++ (t.shrunk half).rs.map ((t.shrunk half).ls ++ ·))) _
    rw [rowsD, List.map_append]
    exact ((dz0.same e5).app dz1).same e6
  have lB : (zs0 ++ zs1).length = t.halves.rs.length := by rw [dB.len, rows_len]
  generalize zs0 ++ zs1 = xsB at hRB6 dB lB
  have E6 := E4.trans (e5.trans e6)
  have hL0 := e6 _ _ (e5 _ _ hL0)
  have dl0 := dl0.same (e5.trans e6)
  clear hH hRB dz1 hD5 dz0 hD4 hD2 e5 e6 E4 zl0 zl1
  refine ⟨_, rfl, _, rfl, _, _, _, _, rfl, rfl, SqT.of (E6 _ _ hp1), rfl, R1, rfl, ⟨_, SqL.of (E6 _ _ hR1)⟩, fun D3 hD3 => comp_by (n := xs1.length) (Made H6 D3 (t.rs.map (List.replicate t.halves.rs.length 0 ++ ·))) (made_0 hD3) ?_ ?_⟩
  · rintro i ys H7 hi mk hD7
    have e7 := mk.1
    have E7 := E6.trans e7
    have hr : t.rs[i]? = some (t.rs[i]'(by omega)) := List.getElem?_eq_getElem _
    have hrl := o1.row _ _ hr
    obtain ⟨r, zs, k1, k2, k3⟩ := rows_get dR1 hr
    refine ⟨⟨_, .ref r, SqL.of (E7 _ _ hR1), k1⟩, sz60 (n := 60) (by rw [mk.2.1]; omega) (by decide), fun x H' y => ?_⟩
    obtain ⟨rfl, y⟩ := y
    have hx := y _ (SqL.of (E7 _ _ hR1))
    rw [k1] at hx
    cases hx
    unfold tNoIf
    refine iteT ⟨sz60' (show 2 ≤ 60 by decide), fun b1 hb1 => ?_⟩
    rw [rat_0]
    have e8 := same_new hb1 (.tup (ratV 0))
    have h8 : upd H' b1 (.tup (ratV 0)) b1 = some (.tup (ratV 0)) := upd_same
    generalize upd H' b1 (.tup (ratV 0)) = H8 at e8 h8
    refine ⟨sz60' (show 1 ≤ 60 by decide), fun b2 hb2 => ?_⟩
    have e9 := same_new hb2 (.lst [V.ref b1])
    have h9 : upd H8 b2 (.lst [V.ref b1]) b2 = some (.lst [V.ref b1]) := upd_same
    generalize upd H8 b2 (.lst [V.ref b1]) = H9 at e9 h9
    have e79 := e8.trans e9
    refine ⟨_, rfl, RB, xsB, rfl, .inl (SqL.of (e79 _ _ (e7 _ _ hRB6))), b2, _, _, rfl, rfl, h9, by omega, by omega, sz60' (by simp; omega), fun U hU => ?_⟩
    rw [List.flatten_replicate_singleton, show ((xsB.length : Nat) : Int).toNat = t.halves.rs.length by rw [lB]; rfl]
    have dU : DUs H9 (fracsD (List.replicate t.halves.rs.length 0)) (List.replicate t.halves.rs.length (V.ref b1)) := fracs_rep (du_rat (e9 _ _ h8)) _
    generalize hH : upd _ U _ = H10
    obtain ⟨e10, _, h10⟩ := du_l hH hU dU
    have dU := dU.same e10
    have e710 := e79.trans e10
    have E10 := E7.trans e710
    refine ⟨_, rfl, U, r, _, zs, rfl, rfl, h10, E10 _ _ k2, sm_le (by rw [k3.len, fracs_len, List.length_replicate]; omega), fun l hl => ?_⟩
    have e11 := same_new hl (.lst (List.replicate t.halves.rs.length (V.ref b1) ++ zs))
    have dw : DUs (upd H10 l (.lst (List.replicate t.halves.rs.length (V.ref b1) ++ zs))) (fracsD (List.replicate t.halves.rs.length 0 ++ t.rs[i]'(by omega))) (List.replicate t.halves.rs.length (V.ref b1) ++ zs) := by
      rw [fracs_app]
      exact (dU.app (k3.same E10)).same e11
    obtain ⟨j1, j2⟩ := made_call hD3 mk hD7 (by rw [List.getElem?_map, hr]; rfl) (e710.trans e11) (nback e710 hl) upd_same dw
    exact ⟨j1, cw_next hi j2⟩
  rintro zs3 H7 ⟨e7, zl3, dz3, _⟩ hD7
  refine ⟨⟨_, SqL.of (e7 _ _ (E6 _ _ hR1)), Nat.le_refl _⟩, ?_⟩
  rw [List.take_of_length_le (by rw [List.length_map]; omega)] at dz3
  have dz3 := dtAll_du dz3
  refine ⟨RB, D3, xsB, zs3, rfl, rfl, e7 _ _ hRB6, hD7, sm_le (by omega), fun RC hRC => ?_⟩
  generalize hH : upd _ RC _ = H8
  obtain ⟨e8, _, hRC8⟩ := du_l hH hRC ((dB.same e7).app dz3)
  have dC : DUs H8 (rowsD (t.halves.rs ++ t.rs.map (List.replicate t.halves.rs.length 0 ++ ·))) (xsB ++ zs3) := by
    rw [rowsD, List.map_append]
    exact ((dB.same e7).app dz3).same e8
  generalize xsB ++ zs3 = xsC at hRC8 dC
  have E8 := E6.trans (e7.trans e8)
  have hL0 := e8 _ _ (e7 _ _ hL0)
  have dl0 := dl0.same (e7.trans e8)
  clear hH hRC dz3 hD7 dB hRB6 hD3 e7 e8 E6 zl3 lB
  refine ⟨_, rfl, _, rfl, L0, L0, ls0, ls0, rfl, rfl, hL0, hL0, sm_le (by omega), fun LL hLL => ?_⟩
  generalize hH : upd _ LL _ = H9
  obtain ⟨e9, _, hLL9⟩ := du_l hH hLL (dl0.app dl0)
  have dLL : DUs H9 (fracsD t.halves.ls) (ls0 ++ ls0) := by
    unfold Tb.halves Tb.behind
    show DUs H9 (fracsD ((t.shrunk half).ls ++ (t.shrunk half).ls)) _
    rw [fracs_app]
    exact (dl0.app dl0).same e9
  clear hH hLL
  have E9 := E8.trans e9
  refine ⟨_, rfl, _, rfl, _, _, rfl, rfl, great o, great o - 1, 8, rfl, by omega, by decide, by omega, fun c1 H10 e10 hc1 => ?_⟩
  refine ⟨LL, c1, _, t.halves.ls, pg o, 64, rfl, e10 _ _ hLL9, dLL.same e10, hc1, by omega, fh.2, (pg_fits ho1 ho6).mono (by decide), by decide, fun HL H11 hls e11 _ hHL dHL => ?_⟩
  have E11 := E9.trans (e10.trans e11)
  have lHL : hls.length = t.rs.length + t.rs.length := by rw [dHL.len, fracs_len, List.length_map, lhl]
  refine ⟨_, rfl, _, rfl, _, rfl, _, _, _, _, rfl, rfl, SqT.of (E11 _ _ hp1), rfl, _, rfl, _, rfl, _, _, rfl, rfl, -1, great o - 1, 8, rfl, by omega, by decide, by omega, fun c2 H12 e12 hc2 => ?_⟩
  have E12 := E11.trans e12
  refine ⟨L1, c2, ys1, t.ls, ph o, 60, rfl, E12 _ _ hL1, dL1.same E12, hc2, by omega, ft.2, (ph_fits ho1 ho6).mono (by decide), by decide, fun LT H13 lts e13 _ hLT dLT => ?_⟩
  have E13 := E12.trans e13
  have lLT : lts.length = t.rs.length := by rw [dLT.len, fracs_len, List.length_map, la]
  refine ⟨HL, LT, hls, lts, rfl, rfl, e13 _ _ (e12 _ _ hHL), hLT, sm_le (by omega), fun LD hLD => ?_⟩
  generalize hH : upd _ LD _ = H14
  obtain ⟨e14, _, hLD14⟩ := du_l hH hLD ((dHL.same (e12.trans e13)).app dLT)
  have dLD := ((dHL.same (e12.trans e13)).app dLT).same e14
  clear hH hLD
  refine ⟨sz60' (show 2 ≤ 60 by decide), fun u hu => ?_⟩
  have e15 := same_new hu (.tup [V.ref RC, V.ref LD])
  have h15 : upd H14 u (.tup [V.ref RC, V.ref LD]) u = some (.tup [V.ref RC, V.ref LD]) := upd_same
  generalize upd H14 u (.tup [V.ref RC, V.ref LD]) = H15 at e15 h15
  have e815 := e9.trans (e10.trans (e11.trans (e12.trans (e13.trans (e14.trans e15)))))
  have E15 := E8.trans e815
  have due : DU H15 (tabD (sharpened t o)) (.ref u) := by
    rw [sharp_eq o1 o]
    refine du_tab h15 (e815 _ _ hRC8) (dC.same e815) (e15 _ _ hLD14) ?_
    show DUs H15 (fracsD (t.halves.ls.map (· * pg o) ++ t.ls.map (· * ph o))) _
    rw [fracs_app]
    exact dLD.same e15
  have d1 := d1.same E15
  clear e9 e10 e11 e12 e13 e14 e15 e815 E8 E9 E11 E12 E13 E15 h15 hu dLD hLD14 dLT hLT dHL hHL dLL hLL9 dC hRC8 dl0 hL0 hp1 hR1 dR1 hL1 dL1 hc1 hc2
  have smx := o1.sm (show 5 ≤ 60 by decide)
  have z := eqv_self _ smx.ok.1
  have os := sharp_ok o1 o
  refine ⟨_, rfl, _, t, 5, rfl, d1, o1, by decide, fun w1 H16 e16 c1' => ?_⟩
  have d1 := d1.same e16
  have due := due.same e16
  refine ⟨_, rfl, _, rfl, w1, t, o, 5, 60, rfl, c1', o1, by decide, ft, by decide, ho1, ho6, fun v3 H17 e17 an d3 => ?_⟩
  refine ⟨_, rfl, _, rfl, v3, _, sharpened t o, 15, rfl, d3, due.same e17, os, by decide, fun H18 e18 => ⟨_, rfl, iteF ⟨_, rfl, _, rfl, _, _, (c1'.same (e17.trans e18)).br, (d1.same (e17.trans e18)).br, smx.ok.shaped (by decide), smx.ok.shaped (by decide), _, rfl, ?_⟩⟩⟩
  have z' : (if true = true then !PyData.eqv (tabD t) (tabD t) else PyData.eqv (tabD t) (tabD t)) = false := by rw [z]; rfl
  first
    | rw [z']
    | rw [z]
    | skip
  refine iteF ?_
  obtain ⟨tt, R, L, xs, zs, rfl, ht, hR, hRn, hL, hLn, hrows⟩ := an
  have cl : Cleared H16 tt R L xs H18 := ⟨e17.trans e18, e18 _ _ ht, e18 _ _ hR, ⟨_, e18 _ _ hL⟩, fun x hx => by
    obtain ⟨r, ws, rfl, k1, k2, k3⟩ := hrows x hx
    exact ⟨r, ws, rfl, k1, k2, e18 _ _ k3⟩⟩
  refine ⟨_, rfl, _, _, _, _, rfl, rfl, SqT.of cl.2.1, rfl, R, rfl, ⟨_, SqL.of cl.2.2.1⟩, for_list (xs := xs) (fun i σ H' => ∃ (r1 r5 r6 r7 r11 : Option V), σ = [some (.ref a), r1, some (.int (o : Int)), some (.ref p1), some (.int (great o)), r5, r6, r7, some (.ref u), some w1, some (.ref tt), r11] ∧ Cleared H16 tt R L xs H') ?_ ?_ ?_ ?_⟩
  · exact ⟨_, _, _, _, _, rfl, cl⟩
  · rintro i σ H' _ ⟨r1, r5, r6, r7, r11, rfl, c⟩
    exact SqL.of c.2.2.1
  · rintro i x σ H' hx ⟨r1, r5, r6, r7, r11, rfl, c⟩
    have hm := List.mem_of_getElem? hx
    obtain ⟨r, ws, rfl, _, _, k3⟩ := c.2.2.2.2 x hm
    exact ⟨_, rfl, .inl ⟨rfl, _, SqL.of k3⟩, r, ws, rfl, rfl, k3, _, _, _, _, _, rfl, clear_step c hm⟩
  rintro σ H19 ⟨r1, r5, r6, r7, r11, rfl, e19, ct, _, ⟨zs', cL⟩, _⟩
  refine ⟨_, rfl, _, _, _, _, rfl, rfl, SqT.of ct, rfl, .inl ⟨rfl, _, SqL.of cL⟩, L, zs', rfl, rfl, cL, ?_⟩
  have E20 : Same H16 (upd H19 L (.lst [])) := fun b o zz => by rw [upd_ne (ne_of_none zz hLn)]; exact e19 _ _ zz
  generalize upd H19 L (.lst []) = H20 at E20
  refine ⟨_, rfl, _, rfl, w1, t, o, 5, 60, rfl, c1'.same E20, o1, by decide, ft, by decide, ho1, ho6, fun v4 H21 e21 _ d4 => ?_⟩
  have E21 := E20.trans e21
  refine ⟨_, rfl, v4, _, sharpened t o, 15, rfl, d4, due.same E21, os, by decide, fun H22 e22 => ?_⟩
  have E22 := E21.trans e22
  refine ⟨_, rfl, iteT ⟨_, rfl, _, rfl, _, _, (c1'.same E22).br, (d1.same E22).br, smx.ok.shaped (by decide), smx.ok.shaped (by decide), ?_⟩⟩
  have z' : (if false = true then !PyData.eqv (tabD t) (tabD t) else PyData.eqv (tabD t) (tabD t)) = true := by rw [z]; rfl
  first
    | rw [z']
    | rw [z]
    | skip
  exact q H22
end
set_option maxHeartbeats 4000000 in
theorem all_mk {l : PySem.W.OpenLaw} {w : World} {K : PySem.W.Frag} {h : Heap} {mg : Str → Option Value} {fa f_fraction_of f_frac_times f_is_fraction f_are_fractions f_is_whole f_greatest_divisor f_power_of f_is_table f_refuse_no_table f_are_rows f_table_behind f_table_shrunk f_table_mixed f_table_sharpened f_refuse_too_many_rows f_scaled f__law_cell_at f__law_mixed f__law_rest f__law_ratio f__law_sum f__law_times f__law_table f__law_copy f__law_row f__law_good f__law_scaled f_law : Addr} (X : K.In h) (G : h.Ns mainGlobals mg) (hfa : mg "law" = some (.ref fa))
    {od_fraction_of an_fraction_of : Option Addr} {sl_fraction_of : Array (Option Value)} {oc_fraction_of kV_fraction_of dc_fraction_of pm_fraction_of cd_fraction_of ct_fraction_of : Value}
    (a_fraction_of : PySem.W.nsIn K mainGlobals "fraction_of" = some (some (.ref f_fraction_of))) (l_fraction_of : K.lookup f_fraction_of = some ⟨oc_fraction_of, od_fraction_of, .func (PySem.W.fnOf "fraction_of" "fraction_of" (defArgs s_fraction_of) (defBody s_fraction_of) (defScope s_fraction_of) .none kV_fraction_of dc_fraction_of pm_fraction_of an_fraction_of cd_fraction_of ct_fraction_of), sl_fraction_of⟩) (c_fraction_of : PySem.W.codeIn K cd_fraction_of "fraction_of" = true) (k_fraction_of : PySem.W.keepIn K (.ref f_fraction_of) = true)
    {od_frac_times an_frac_times : Option Addr} {sl_frac_times : Array (Option Value)} {oc_frac_times kV_frac_times dc_frac_times pm_frac_times cd_frac_times ct_frac_times : Value}
    (a_frac_times : PySem.W.nsIn K mainGlobals "frac_times" = some (some (.ref f_frac_times))) (l_frac_times : K.lookup f_frac_times = some ⟨oc_frac_times, od_frac_times, .func (PySem.W.fnOf "frac_times" "frac_times" (defArgs s_frac_times) (defBody s_frac_times) (defScope s_frac_times) .none kV_frac_times dc_frac_times pm_frac_times an_frac_times cd_frac_times ct_frac_times), sl_frac_times⟩) (c_frac_times : PySem.W.codeIn K cd_frac_times "frac_times" = true) (k_frac_times : PySem.W.keepIn K (.ref f_frac_times) = true)
    {od_is_fraction an_is_fraction : Option Addr} {sl_is_fraction : Array (Option Value)} {oc_is_fraction kV_is_fraction dc_is_fraction pm_is_fraction cd_is_fraction ct_is_fraction : Value}
    (a_is_fraction : PySem.W.nsIn K mainGlobals "is_fraction" = some (some (.ref f_is_fraction))) (l_is_fraction : K.lookup f_is_fraction = some ⟨oc_is_fraction, od_is_fraction, .func (PySem.W.fnOf "is_fraction" "is_fraction" (defArgs s_is_fraction) (defBody s_is_fraction) (defScope s_is_fraction) .none kV_is_fraction dc_is_fraction pm_is_fraction an_is_fraction cd_is_fraction ct_is_fraction), sl_is_fraction⟩) (c_is_fraction : PySem.W.codeIn K cd_is_fraction "is_fraction" = true) (k_is_fraction : PySem.W.keepIn K (.ref f_is_fraction) = true)
    {od_are_fractions an_are_fractions : Option Addr} {sl_are_fractions : Array (Option Value)} {oc_are_fractions kV_are_fractions dc_are_fractions pm_are_fractions cd_are_fractions ct_are_fractions : Value}
    (a_are_fractions : PySem.W.nsIn K mainGlobals "are_fractions" = some (some (.ref f_are_fractions))) (l_are_fractions : K.lookup f_are_fractions = some ⟨oc_are_fractions, od_are_fractions, .func (PySem.W.fnOf "are_fractions" "are_fractions" (defArgs s_are_fractions) (defBody s_are_fractions) (defScope s_are_fractions) .none kV_are_fractions dc_are_fractions pm_are_fractions an_are_fractions cd_are_fractions ct_are_fractions), sl_are_fractions⟩) (c_are_fractions : PySem.W.codeIn K cd_are_fractions "are_fractions" = true) (k_are_fractions : PySem.W.keepIn K (.ref f_are_fractions) = true)
    {od_is_whole an_is_whole : Option Addr} {sl_is_whole : Array (Option Value)} {oc_is_whole kV_is_whole dc_is_whole pm_is_whole cd_is_whole ct_is_whole : Value}
    (a_is_whole : PySem.W.nsIn K mainGlobals "is_whole" = some (some (.ref f_is_whole))) (l_is_whole : K.lookup f_is_whole = some ⟨oc_is_whole, od_is_whole, .func (PySem.W.fnOf "is_whole" "is_whole" (defArgs s_is_whole) (defBody s_is_whole) (defScope s_is_whole) .none kV_is_whole dc_is_whole pm_is_whole an_is_whole cd_is_whole ct_is_whole), sl_is_whole⟩) (c_is_whole : PySem.W.codeIn K cd_is_whole "is_whole" = true) (k_is_whole : PySem.W.keepIn K (.ref f_is_whole) = true)
    {od_greatest_divisor an_greatest_divisor : Option Addr} {sl_greatest_divisor : Array (Option Value)} {oc_greatest_divisor kV_greatest_divisor dc_greatest_divisor pm_greatest_divisor cd_greatest_divisor ct_greatest_divisor : Value}
    (a_greatest_divisor : PySem.W.nsIn K mainGlobals "greatest_divisor" = some (some (.ref f_greatest_divisor))) (l_greatest_divisor : K.lookup f_greatest_divisor = some ⟨oc_greatest_divisor, od_greatest_divisor, .func (PySem.W.fnOf "greatest_divisor" "greatest_divisor" (defArgs s_greatest_divisor) (defBody s_greatest_divisor) (defScope s_greatest_divisor) .none kV_greatest_divisor dc_greatest_divisor pm_greatest_divisor an_greatest_divisor cd_greatest_divisor ct_greatest_divisor), sl_greatest_divisor⟩) (c_greatest_divisor : PySem.W.codeIn K cd_greatest_divisor "greatest_divisor" = true) (k_greatest_divisor : PySem.W.keepIn K (.ref f_greatest_divisor) = true)
    {od_power_of an_power_of : Option Addr} {sl_power_of : Array (Option Value)} {oc_power_of kV_power_of dc_power_of pm_power_of cd_power_of ct_power_of : Value}
    (a_power_of : PySem.W.nsIn K mainGlobals "power_of" = some (some (.ref f_power_of))) (l_power_of : K.lookup f_power_of = some ⟨oc_power_of, od_power_of, .func (PySem.W.fnOf "power_of" "power_of" (defArgs s_power_of) (defBody s_power_of) (defScope s_power_of) .none kV_power_of dc_power_of pm_power_of an_power_of cd_power_of ct_power_of), sl_power_of⟩) (c_power_of : PySem.W.codeIn K cd_power_of "power_of" = true) (k_power_of : PySem.W.keepIn K (.ref f_power_of) = true)
    {od_is_table an_is_table : Option Addr} {sl_is_table : Array (Option Value)} {oc_is_table kV_is_table dc_is_table pm_is_table cd_is_table ct_is_table : Value}
    (a_is_table : PySem.W.nsIn K mainGlobals "is_table" = some (some (.ref f_is_table))) (l_is_table : K.lookup f_is_table = some ⟨oc_is_table, od_is_table, .func (PySem.W.fnOf "is_table" "is_table" (defArgs s_is_table) (defBody s_is_table) (defScope s_is_table) .none kV_is_table dc_is_table pm_is_table an_is_table cd_is_table ct_is_table), sl_is_table⟩) (c_is_table : PySem.W.codeIn K cd_is_table "is_table" = true) (k_is_table : PySem.W.keepIn K (.ref f_is_table) = true)
    {od_refuse_no_table an_refuse_no_table : Option Addr} {sl_refuse_no_table : Array (Option Value)} {oc_refuse_no_table kV_refuse_no_table dc_refuse_no_table pm_refuse_no_table cd_refuse_no_table ct_refuse_no_table : Value}
    (a_refuse_no_table : PySem.W.nsIn K mainGlobals "refuse_no_table" = some (some (.ref f_refuse_no_table))) (l_refuse_no_table : K.lookup f_refuse_no_table = some ⟨oc_refuse_no_table, od_refuse_no_table, .func (PySem.W.fnOf "refuse_no_table" "refuse_no_table" (defArgs s_refuse_no_table) (defBody s_refuse_no_table) (defScope s_refuse_no_table) .none kV_refuse_no_table dc_refuse_no_table pm_refuse_no_table an_refuse_no_table cd_refuse_no_table ct_refuse_no_table), sl_refuse_no_table⟩) (c_refuse_no_table : PySem.W.codeIn K cd_refuse_no_table "refuse_no_table" = true) (k_refuse_no_table : PySem.W.keepIn K (.ref f_refuse_no_table) = true)
    {od_are_rows an_are_rows : Option Addr} {sl_are_rows : Array (Option Value)} {oc_are_rows kV_are_rows dc_are_rows pm_are_rows cd_are_rows ct_are_rows : Value}
    (a_are_rows : PySem.W.nsIn K mainGlobals "are_rows" = some (some (.ref f_are_rows))) (l_are_rows : K.lookup f_are_rows = some ⟨oc_are_rows, od_are_rows, .func (PySem.W.fnOf "are_rows" "are_rows" (defArgs s_are_rows) (defBody s_are_rows) (defScope s_are_rows) .none kV_are_rows dc_are_rows pm_are_rows an_are_rows cd_are_rows ct_are_rows), sl_are_rows⟩) (c_are_rows : PySem.W.codeIn K cd_are_rows "are_rows" = true) (k_are_rows : PySem.W.keepIn K (.ref f_are_rows) = true)
    {od_table_behind an_table_behind : Option Addr} {sl_table_behind : Array (Option Value)} {oc_table_behind kV_table_behind dc_table_behind pm_table_behind cd_table_behind ct_table_behind : Value}
    (a_table_behind : PySem.W.nsIn K mainGlobals "table_behind" = some (some (.ref f_table_behind))) (l_table_behind : K.lookup f_table_behind = some ⟨oc_table_behind, od_table_behind, .func (PySem.W.fnOf "table_behind" "table_behind" (defArgs s_table_behind) (defBody s_table_behind) (defScope s_table_behind) .none kV_table_behind dc_table_behind pm_table_behind an_table_behind cd_table_behind ct_table_behind), sl_table_behind⟩) (c_table_behind : PySem.W.codeIn K cd_table_behind "table_behind" = true) (k_table_behind : PySem.W.keepIn K (.ref f_table_behind) = true)
    {od_table_shrunk an_table_shrunk : Option Addr} {sl_table_shrunk : Array (Option Value)} {oc_table_shrunk kV_table_shrunk dc_table_shrunk pm_table_shrunk cd_table_shrunk ct_table_shrunk : Value}
    (a_table_shrunk : PySem.W.nsIn K mainGlobals "table_shrunk" = some (some (.ref f_table_shrunk))) (l_table_shrunk : K.lookup f_table_shrunk = some ⟨oc_table_shrunk, od_table_shrunk, .func (PySem.W.fnOf "table_shrunk" "table_shrunk" (defArgs s_table_shrunk) (defBody s_table_shrunk) (defScope s_table_shrunk) .none kV_table_shrunk dc_table_shrunk pm_table_shrunk an_table_shrunk cd_table_shrunk ct_table_shrunk), sl_table_shrunk⟩) (c_table_shrunk : PySem.W.codeIn K cd_table_shrunk "table_shrunk" = true) (k_table_shrunk : PySem.W.keepIn K (.ref f_table_shrunk) = true)
    {od_table_mixed an_table_mixed : Option Addr} {sl_table_mixed : Array (Option Value)} {oc_table_mixed kV_table_mixed dc_table_mixed pm_table_mixed cd_table_mixed ct_table_mixed : Value}
    (a_table_mixed : PySem.W.nsIn K mainGlobals "table_mixed" = some (some (.ref f_table_mixed))) (l_table_mixed : K.lookup f_table_mixed = some ⟨oc_table_mixed, od_table_mixed, .func (PySem.W.fnOf "table_mixed" "table_mixed" (defArgs s_table_mixed) (defBody s_table_mixed) (defScope s_table_mixed) .none kV_table_mixed dc_table_mixed pm_table_mixed an_table_mixed cd_table_mixed ct_table_mixed), sl_table_mixed⟩) (c_table_mixed : PySem.W.codeIn K cd_table_mixed "table_mixed" = true) (k_table_mixed : PySem.W.keepIn K (.ref f_table_mixed) = true)
    {od_table_sharpened an_table_sharpened : Option Addr} {sl_table_sharpened : Array (Option Value)} {oc_table_sharpened kV_table_sharpened dc_table_sharpened pm_table_sharpened cd_table_sharpened ct_table_sharpened : Value}
    (a_table_sharpened : PySem.W.nsIn K mainGlobals "table_sharpened" = some (some (.ref f_table_sharpened))) (l_table_sharpened : K.lookup f_table_sharpened = some ⟨oc_table_sharpened, od_table_sharpened, .func (PySem.W.fnOf "table_sharpened" "table_sharpened" (defArgs s_table_sharpened) (defBody s_table_sharpened) (defScope s_table_sharpened) .none kV_table_sharpened dc_table_sharpened pm_table_sharpened an_table_sharpened cd_table_sharpened ct_table_sharpened), sl_table_sharpened⟩) (c_table_sharpened : PySem.W.codeIn K cd_table_sharpened "table_sharpened" = true) (k_table_sharpened : PySem.W.keepIn K (.ref f_table_sharpened) = true)
    {od_refuse_too_many_rows an_refuse_too_many_rows : Option Addr} {sl_refuse_too_many_rows : Array (Option Value)} {oc_refuse_too_many_rows kV_refuse_too_many_rows dc_refuse_too_many_rows pm_refuse_too_many_rows cd_refuse_too_many_rows ct_refuse_too_many_rows : Value}
    (a_refuse_too_many_rows : PySem.W.nsIn K mainGlobals "refuse_too_many_rows" = some (some (.ref f_refuse_too_many_rows))) (l_refuse_too_many_rows : K.lookup f_refuse_too_many_rows = some ⟨oc_refuse_too_many_rows, od_refuse_too_many_rows, .func (PySem.W.fnOf "refuse_too_many_rows" "refuse_too_many_rows" (defArgs s_refuse_too_many_rows) (defBody s_refuse_too_many_rows) (defScope s_refuse_too_many_rows) .none kV_refuse_too_many_rows dc_refuse_too_many_rows pm_refuse_too_many_rows an_refuse_too_many_rows cd_refuse_too_many_rows ct_refuse_too_many_rows), sl_refuse_too_many_rows⟩) (c_refuse_too_many_rows : PySem.W.codeIn K cd_refuse_too_many_rows "refuse_too_many_rows" = true) (k_refuse_too_many_rows : PySem.W.keepIn K (.ref f_refuse_too_many_rows) = true)
    {od_scaled an_scaled : Option Addr} {sl_scaled : Array (Option Value)} {oc_scaled kV_scaled dc_scaled pm_scaled cd_scaled ct_scaled : Value}
    (a_scaled : PySem.W.nsIn K mainGlobals "scaled" = some (some (.ref f_scaled))) (l_scaled : K.lookup f_scaled = some ⟨oc_scaled, od_scaled, .func (PySem.W.fnOf "scaled" "scaled" (defArgs s_scaled) (defBody s_scaled) (defScope s_scaled) .none kV_scaled dc_scaled pm_scaled an_scaled cd_scaled ct_scaled), sl_scaled⟩) (c_scaled : PySem.W.codeIn K cd_scaled "scaled" = true) (k_scaled : PySem.W.keepIn K (.ref f_scaled) = true)
    {od__law_cell_at an__law_cell_at : Option Addr} {sl__law_cell_at : Array (Option Value)} {oc__law_cell_at kV__law_cell_at dc__law_cell_at pm__law_cell_at cd__law_cell_at ct__law_cell_at : Value}
    (a__law_cell_at : PySem.W.nsIn K mainGlobals "_law_cell_at" = some (some (.ref f__law_cell_at))) (l__law_cell_at : K.lookup f__law_cell_at = some ⟨oc__law_cell_at, od__law_cell_at, .func (PySem.W.fnOf "_law_cell_at" "_law_cell_at" (defArgs s__law_cell_at) (defBody s__law_cell_at) (defScope s__law_cell_at) .none kV__law_cell_at dc__law_cell_at pm__law_cell_at an__law_cell_at cd__law_cell_at ct__law_cell_at), sl__law_cell_at⟩) (c__law_cell_at : PySem.W.codeIn K cd__law_cell_at "_law_cell_at" = true) (k__law_cell_at : PySem.W.keepIn K (.ref f__law_cell_at) = true)
    {od__law_mixed an__law_mixed : Option Addr} {sl__law_mixed : Array (Option Value)} {oc__law_mixed kV__law_mixed dc__law_mixed pm__law_mixed cd__law_mixed ct__law_mixed : Value}
    (a__law_mixed : PySem.W.nsIn K mainGlobals "_law_mixed" = some (some (.ref f__law_mixed))) (l__law_mixed : K.lookup f__law_mixed = some ⟨oc__law_mixed, od__law_mixed, .func (PySem.W.fnOf "_law_mixed" "_law_mixed" (defArgs s__law_mixed) (defBody s__law_mixed) (defScope s__law_mixed) .none kV__law_mixed dc__law_mixed pm__law_mixed an__law_mixed cd__law_mixed ct__law_mixed), sl__law_mixed⟩) (c__law_mixed : PySem.W.codeIn K cd__law_mixed "_law_mixed" = true) (k__law_mixed : PySem.W.keepIn K (.ref f__law_mixed) = true)
    {od__law_rest an__law_rest : Option Addr} {sl__law_rest : Array (Option Value)} {oc__law_rest kV__law_rest dc__law_rest pm__law_rest cd__law_rest ct__law_rest : Value}
    (a__law_rest : PySem.W.nsIn K mainGlobals "_law_rest" = some (some (.ref f__law_rest))) (l__law_rest : K.lookup f__law_rest = some ⟨oc__law_rest, od__law_rest, .func (PySem.W.fnOf "_law_rest" "_law_rest" (defArgs s__law_rest) (defBody s__law_rest) (defScope s__law_rest) .none kV__law_rest dc__law_rest pm__law_rest an__law_rest cd__law_rest ct__law_rest), sl__law_rest⟩) (c__law_rest : PySem.W.codeIn K cd__law_rest "_law_rest" = true) (k__law_rest : PySem.W.keepIn K (.ref f__law_rest) = true)
    {od__law_ratio an__law_ratio : Option Addr} {sl__law_ratio : Array (Option Value)} {oc__law_ratio kV__law_ratio dc__law_ratio pm__law_ratio cd__law_ratio ct__law_ratio : Value}
    (a__law_ratio : PySem.W.nsIn K mainGlobals "_law_ratio" = some (some (.ref f__law_ratio))) (l__law_ratio : K.lookup f__law_ratio = some ⟨oc__law_ratio, od__law_ratio, .func (PySem.W.fnOf "_law_ratio" "_law_ratio" (defArgs s__law_ratio) (defBody s__law_ratio) (defScope s__law_ratio) .none kV__law_ratio dc__law_ratio pm__law_ratio an__law_ratio cd__law_ratio ct__law_ratio), sl__law_ratio⟩) (c__law_ratio : PySem.W.codeIn K cd__law_ratio "_law_ratio" = true) (k__law_ratio : PySem.W.keepIn K (.ref f__law_ratio) = true)
    {od__law_sum an__law_sum : Option Addr} {sl__law_sum : Array (Option Value)} {oc__law_sum kV__law_sum dc__law_sum pm__law_sum cd__law_sum ct__law_sum : Value}
    (a__law_sum : PySem.W.nsIn K mainGlobals "_law_sum" = some (some (.ref f__law_sum))) (l__law_sum : K.lookup f__law_sum = some ⟨oc__law_sum, od__law_sum, .func (PySem.W.fnOf "_law_sum" "_law_sum" (defArgs s__law_sum) (defBody s__law_sum) (defScope s__law_sum) .none kV__law_sum dc__law_sum pm__law_sum an__law_sum cd__law_sum ct__law_sum), sl__law_sum⟩) (c__law_sum : PySem.W.codeIn K cd__law_sum "_law_sum" = true) (k__law_sum : PySem.W.keepIn K (.ref f__law_sum) = true)
    {od__law_times an__law_times : Option Addr} {sl__law_times : Array (Option Value)} {oc__law_times kV__law_times dc__law_times pm__law_times cd__law_times ct__law_times : Value}
    (a__law_times : PySem.W.nsIn K mainGlobals "_law_times" = some (some (.ref f__law_times))) (l__law_times : K.lookup f__law_times = some ⟨oc__law_times, od__law_times, .func (PySem.W.fnOf "_law_times" "_law_times" (defArgs s__law_times) (defBody s__law_times) (defScope s__law_times) .none kV__law_times dc__law_times pm__law_times an__law_times cd__law_times ct__law_times), sl__law_times⟩) (c__law_times : PySem.W.codeIn K cd__law_times "_law_times" = true) (k__law_times : PySem.W.keepIn K (.ref f__law_times) = true)
    {od__law_table an__law_table : Option Addr} {sl__law_table : Array (Option Value)} {oc__law_table kV__law_table dc__law_table pm__law_table cd__law_table ct__law_table : Value}
    (a__law_table : PySem.W.nsIn K mainGlobals "_law_table" = some (some (.ref f__law_table))) (l__law_table : K.lookup f__law_table = some ⟨oc__law_table, od__law_table, .func (PySem.W.fnOf "_law_table" "_law_table" (defArgs s__law_table) (defBody s__law_table) (defScope s__law_table) .none kV__law_table dc__law_table pm__law_table an__law_table cd__law_table ct__law_table), sl__law_table⟩) (c__law_table : PySem.W.codeIn K cd__law_table "_law_table" = true) (k__law_table : PySem.W.keepIn K (.ref f__law_table) = true)
    {od__law_copy an__law_copy : Option Addr} {sl__law_copy : Array (Option Value)} {oc__law_copy kV__law_copy dc__law_copy pm__law_copy cd__law_copy ct__law_copy : Value}
    (a__law_copy : PySem.W.nsIn K mainGlobals "_law_copy" = some (some (.ref f__law_copy))) (l__law_copy : K.lookup f__law_copy = some ⟨oc__law_copy, od__law_copy, .func (PySem.W.fnOf "_law_copy" "_law_copy" (defArgs s__law_copy) (defBody s__law_copy) (defScope s__law_copy) .none kV__law_copy dc__law_copy pm__law_copy an__law_copy cd__law_copy ct__law_copy), sl__law_copy⟩) (c__law_copy : PySem.W.codeIn K cd__law_copy "_law_copy" = true) (k__law_copy : PySem.W.keepIn K (.ref f__law_copy) = true)
    {od__law_row an__law_row : Option Addr} {sl__law_row : Array (Option Value)} {oc__law_row kV__law_row dc__law_row pm__law_row cd__law_row ct__law_row : Value}
    (a__law_row : PySem.W.nsIn K mainGlobals "_law_row" = some (some (.ref f__law_row))) (l__law_row : K.lookup f__law_row = some ⟨oc__law_row, od__law_row, .func (PySem.W.fnOf "_law_row" "_law_row" (defArgs s__law_row) (defBody s__law_row) (defScope s__law_row) .none kV__law_row dc__law_row pm__law_row an__law_row cd__law_row ct__law_row), sl__law_row⟩) (c__law_row : PySem.W.codeIn K cd__law_row "_law_row" = true) (k__law_row : PySem.W.keepIn K (.ref f__law_row) = true)
    {od__law_good an__law_good : Option Addr} {sl__law_good : Array (Option Value)} {oc__law_good kV__law_good dc__law_good pm__law_good cd__law_good ct__law_good : Value}
    (a__law_good : PySem.W.nsIn K mainGlobals "_law_good" = some (some (.ref f__law_good))) (l__law_good : K.lookup f__law_good = some ⟨oc__law_good, od__law_good, .func (PySem.W.fnOf "_law_good" "_law_good" (defArgs s__law_good) (defBody s__law_good) (defScope s__law_good) .none kV__law_good dc__law_good pm__law_good an__law_good cd__law_good ct__law_good), sl__law_good⟩) (c__law_good : PySem.W.codeIn K cd__law_good "_law_good" = true) (k__law_good : PySem.W.keepIn K (.ref f__law_good) = true)
    {od__law_scaled an__law_scaled : Option Addr} {sl__law_scaled : Array (Option Value)} {oc__law_scaled kV__law_scaled dc__law_scaled pm__law_scaled cd__law_scaled ct__law_scaled : Value}
    (a__law_scaled : PySem.W.nsIn K mainGlobals "_law_scaled" = some (some (.ref f__law_scaled))) (l__law_scaled : K.lookup f__law_scaled = some ⟨oc__law_scaled, od__law_scaled, .func (PySem.W.fnOf "_law_scaled" "_law_scaled" (defArgs s__law_scaled) (defBody s__law_scaled) (defScope s__law_scaled) .none kV__law_scaled dc__law_scaled pm__law_scaled an__law_scaled cd__law_scaled ct__law_scaled), sl__law_scaled⟩) (c__law_scaled : PySem.W.codeIn K cd__law_scaled "_law_scaled" = true) (k__law_scaled : PySem.W.keepIn K (.ref f__law_scaled) = true)
    {od_law an_law : Option Addr} {sl_law : Array (Option Value)} {oc_law kV_law dc_law pm_law cd_law ct_law : Value}
    (a_law : PySem.W.nsIn K mainGlobals "law" = some (some (.ref f_law))) (l_law : K.lookup f_law = some ⟨oc_law, od_law, .func (PySem.W.fnOf "law" "law" (defArgs s_law) (defBody s_law) (defScope s_law) .none kV_law dc_law pm_law an_law cd_law ct_law), sl_law⟩) (c_law : PySem.W.codeIn K cd_law "law" = true) (k_law : PySem.W.keepIn K (.ref f_law) = true)
    (y_len : PySem.W.nsIn K mainGlobals "len" = some none)
    (y_range : PySem.W.nsIn K mainGlobals "range" = some none)
    (y_abs : PySem.W.nsIn K mainGlobals "abs" = some none)
    (y_isinstance : PySem.W.nsIn K mainGlobals "isinstance" = some none)
    (y_int : PySem.W.nsIn K mainGlobals "int" = some none)
    (y_bool : PySem.W.nsIn K mainGlobals "bool" = some none)
    (y_tuple : PySem.W.nsIn K mainGlobals "tuple" = some none)
    (y_list : PySem.W.nsIn K mainGlobals "list" = some none)
    (y_all : PySem.W.nsIn K mainGlobals "all" = some none)
    (y_enumerate : PySem.W.nsIn K mainGlobals "enumerate" = some none)
    (y_sum : PySem.W.nsIn K mainGlobals "sum" = some none)
    (y_zip : PySem.W.nsIn K mainGlobals "zip" = some none)
    {tk7 tk8 : Tok} (a_MOST : PySem.W.nsIn K mainGlobals "MOST_ROWS" = some (some (.int 40 tk7))) (a_SHARP : PySem.W.nsIn K mainGlobals "MOST_SHARPENED" = some (some (.int 6 tk8)))
    : ∃ fd : FuncData, (∀ (s : Shared) (v : Value), BindsTo s fd ⟨[v], []⟩ [("_law_script", v)]) ∧ ∀ base : Heap, K.In base → base.Ns mainGlobals mg → FnOk l.prog w K mg base CX0 9 fa fd ["_law_script"] (spLaw K) := by
  have e := hfa.symm.trans (PySem.W.mg_of X G a_law)
  cases e
  have T_fraction_of : Fn K mg "fraction_of" s_fraction_of ["top", "bottom"] _ _ := ⟨fun_mk (st := s_fraction_of) l_fraction_of c_fraction_of k_fraction_of, (fun_mk (st := s_fraction_of) l_fraction_of c_fraction_of k_fraction_of).binds (ps := ["top", "bottom"]) (fun _ _ _ _ _ _ us hl => match us, hl with | [_, _], _ => rfl), PySem.W.mg_of X G a_fraction_of⟩
  have T_frac_times : Fn K mg "frac_times" s_frac_times ["one", "other"] _ _ := ⟨fun_mk (st := s_frac_times) l_frac_times c_frac_times k_frac_times, (fun_mk (st := s_frac_times) l_frac_times c_frac_times k_frac_times).binds (ps := ["one", "other"]) (fun _ _ _ _ _ _ us hl => match us, hl with | [_, _], _ => rfl), PySem.W.mg_of X G a_frac_times⟩
  have T_is_fraction : Fn K mg "is_fraction" s_is_fraction ["thing"] _ _ := ⟨fun_mk (st := s_is_fraction) l_is_fraction c_is_fraction k_is_fraction, (fun_mk (st := s_is_fraction) l_is_fraction c_is_fraction k_is_fraction).binds (ps := ["thing"]) (fun _ _ _ _ _ _ us hl => match us, hl with | [_], _ => rfl), PySem.W.mg_of X G a_is_fraction⟩
  have T_are_fractions : Fn K mg "are_fractions" s_are_fractions ["thing"] _ _ := ⟨fun_mk (st := s_are_fractions) l_are_fractions c_are_fractions k_are_fractions, (fun_mk (st := s_are_fractions) l_are_fractions c_are_fractions k_are_fractions).binds (ps := ["thing"]) (fun _ _ _ _ _ _ us hl => match us, hl with | [_], _ => rfl), PySem.W.mg_of X G a_are_fractions⟩
  have T_is_whole : Fn K mg "is_whole" s_is_whole ["thing"] _ _ := ⟨fun_mk (st := s_is_whole) l_is_whole c_is_whole k_is_whole, (fun_mk (st := s_is_whole) l_is_whole c_is_whole k_is_whole).binds (ps := ["thing"]) (fun _ _ _ _ _ _ us hl => match us, hl with | [_], _ => rfl), PySem.W.mg_of X G a_is_whole⟩
  have T_greatest_divisor : Fn K mg "greatest_divisor" s_greatest_divisor ["one", "other"] _ _ := ⟨fun_mk (st := s_greatest_divisor) l_greatest_divisor c_greatest_divisor k_greatest_divisor, (fun_mk (st := s_greatest_divisor) l_greatest_divisor c_greatest_divisor k_greatest_divisor).binds (ps := ["one", "other"]) (fun _ _ _ _ _ _ us hl => match us, hl with | [_, _], _ => rfl), PySem.W.mg_of X G a_greatest_divisor⟩
  have T_power_of : Fn K mg "power_of" s_power_of ["base", "power"] _ _ := ⟨fun_mk (st := s_power_of) l_power_of c_power_of k_power_of, (fun_mk (st := s_power_of) l_power_of c_power_of k_power_of).binds (ps := ["base", "power"]) (fun _ _ _ _ _ _ us hl => match us, hl with | [_, _], _ => rfl), PySem.W.mg_of X G a_power_of⟩
  have T_is_table : Fn K mg "is_table" s_is_table ["thing"] _ _ := ⟨fun_mk (st := s_is_table) l_is_table c_is_table k_is_table, (fun_mk (st := s_is_table) l_is_table c_is_table k_is_table).binds (ps := ["thing"]) (fun _ _ _ _ _ _ us hl => match us, hl with | [_], _ => rfl), PySem.W.mg_of X G a_is_table⟩
  have T_refuse_no_table : Fn K mg "refuse_no_table" s_refuse_no_table ["thing"] _ _ := ⟨fun_mk (st := s_refuse_no_table) l_refuse_no_table c_refuse_no_table k_refuse_no_table, (fun_mk (st := s_refuse_no_table) l_refuse_no_table c_refuse_no_table k_refuse_no_table).binds (ps := ["thing"]) (fun _ _ _ _ _ _ us hl => match us, hl with | [_], _ => rfl), PySem.W.mg_of X G a_refuse_no_table⟩
  have T_are_rows : Fn K mg "are_rows" s_are_rows ["thing"] _ _ := ⟨fun_mk (st := s_are_rows) l_are_rows c_are_rows k_are_rows, (fun_mk (st := s_are_rows) l_are_rows c_are_rows k_are_rows).binds (ps := ["thing"]) (fun _ _ _ _ _ _ us hl => match us, hl with | [_], _ => rfl), PySem.W.mg_of X G a_are_rows⟩
  have T_table_behind : Fn K mg "table_behind" s_table_behind ["one", "other"] _ _ := ⟨fun_mk (st := s_table_behind) l_table_behind c_table_behind k_table_behind, (fun_mk (st := s_table_behind) l_table_behind c_table_behind k_table_behind).binds (ps := ["one", "other"]) (fun _ _ _ _ _ _ us hl => match us, hl with | [_, _], _ => rfl), PySem.W.mg_of X G a_table_behind⟩
  have T_table_shrunk : Fn K mg "table_shrunk" s_table_shrunk ["table", "part"] _ _ := ⟨fun_mk (st := s_table_shrunk) l_table_shrunk c_table_shrunk k_table_shrunk, (fun_mk (st := s_table_shrunk) l_table_shrunk c_table_shrunk k_table_shrunk).binds (ps := ["table", "part"]) (fun _ _ _ _ _ _ us hl => match us, hl with | [_, _], _ => rfl), PySem.W.mg_of X G a_table_shrunk⟩
  have T_table_mixed : Fn K mg "table_mixed" s_table_mixed ["tables", "parts"] _ _ := ⟨fun_mk (st := s_table_mixed) l_table_mixed c_table_mixed k_table_mixed, (fun_mk (st := s_table_mixed) l_table_mixed c_table_mixed k_table_mixed).binds (ps := ["tables", "parts"]) (fun _ _ _ _ _ _ us hl => match us, hl with | [_, _], _ => rfl), PySem.W.mg_of X G a_table_mixed⟩
  have T_table_sharpened : Fn K mg "table_sharpened" s_table_sharpened ["table", "order"] _ _ := ⟨fun_mk (st := s_table_sharpened) l_table_sharpened c_table_sharpened k_table_sharpened, (fun_mk (st := s_table_sharpened) l_table_sharpened c_table_sharpened k_table_sharpened).binds (ps := ["table", "order"]) (fun _ _ _ _ _ _ us hl => match us, hl with | [_, _], _ => rfl), PySem.W.mg_of X G a_table_sharpened⟩
  have T_refuse_too_many_rows : Fn K mg "refuse_too_many_rows" s_refuse_too_many_rows ["tables"] _ _ := ⟨fun_mk (st := s_refuse_too_many_rows) l_refuse_too_many_rows c_refuse_too_many_rows k_refuse_too_many_rows, (fun_mk (st := s_refuse_too_many_rows) l_refuse_too_many_rows c_refuse_too_many_rows k_refuse_too_many_rows).binds (ps := ["tables"]) (fun _ _ _ _ _ _ us hl => match us, hl with | [_], _ => rfl), PySem.W.mg_of X G a_refuse_too_many_rows⟩
  have T_scaled : Fn K mg "scaled" s_scaled ["row", "part"] _ _ := ⟨fun_mk (st := s_scaled) l_scaled c_scaled k_scaled, (fun_mk (st := s_scaled) l_scaled c_scaled k_scaled).binds (ps := ["row", "part"]) (fun _ _ _ _ _ _ us hl => match us, hl with | [_, _], _ => rfl), PySem.W.mg_of X G a_scaled⟩
  have T__law_cell_at : Fn K mg "_law_cell_at" s__law_cell_at ["_law_script", "_law_k"] _ _ := ⟨fun_mk (st := s__law_cell_at) l__law_cell_at c__law_cell_at k__law_cell_at, (fun_mk (st := s__law_cell_at) l__law_cell_at c__law_cell_at k__law_cell_at).binds (ps := ["_law_script", "_law_k"]) (fun _ _ _ _ _ _ us hl => match us, hl with | [_, _], _ => rfl), PySem.W.mg_of X G a__law_cell_at⟩
  have T__law_mixed : Fn K mg "_law_mixed" s__law_mixed ["_law_cell", "_law_k"] _ _ := ⟨fun_mk (st := s__law_mixed) l__law_mixed c__law_mixed k__law_mixed, (fun_mk (st := s__law_mixed) l__law_mixed c__law_mixed k__law_mixed).binds (ps := ["_law_cell", "_law_k"]) (fun _ _ _ _ _ _ us hl => match us, hl with | [_, _], _ => rfl), PySem.W.mg_of X G a__law_mixed⟩
  have T__law_rest : Fn K mg "_law_rest" s__law_rest ["_law_script", "_law_k"] _ _ := ⟨fun_mk (st := s__law_rest) l__law_rest c__law_rest k__law_rest, (fun_mk (st := s__law_rest) l__law_rest c__law_rest k__law_rest).binds (ps := ["_law_script", "_law_k"]) (fun _ _ _ _ _ _ us hl => match us, hl with | [_, _], _ => rfl), PySem.W.mg_of X G a__law_rest⟩
  have T__law_ratio : Fn K mg "_law_ratio" s__law_ratio ["_law_top", "_law_bottom"] _ _ := ⟨fun_mk (st := s__law_ratio) l__law_ratio c__law_ratio k__law_ratio, (fun_mk (st := s__law_ratio) l__law_ratio c__law_ratio k__law_ratio).binds (ps := ["_law_top", "_law_bottom"]) (fun _ _ _ _ _ _ us hl => match us, hl with | [_, _], _ => rfl), PySem.W.mg_of X G a__law_ratio⟩
  have T__law_sum : Fn K mg "_law_sum" s__law_sum ["_law_one", "_law_other"] _ _ := ⟨fun_mk (st := s__law_sum) l__law_sum c__law_sum k__law_sum, (fun_mk (st := s__law_sum) l__law_sum c__law_sum k__law_sum).binds (ps := ["_law_one", "_law_other"]) (fun _ _ _ _ _ _ us hl => match us, hl with | [_, _], _ => rfl), PySem.W.mg_of X G a__law_sum⟩
  have T__law_times : Fn K mg "_law_times" s__law_times ["_law_one", "_law_other"] _ _ := ⟨fun_mk (st := s__law_times) l__law_times c__law_times k__law_times, (fun_mk (st := s__law_times) l__law_times c__law_times k__law_times).binds (ps := ["_law_one", "_law_other"]) (fun _ _ _ _ _ _ us hl => match us, hl with | [_, _], _ => rfl), PySem.W.mg_of X G a__law_times⟩
  have T__law_table : Fn K mg "_law_table" s__law_table ["_law_rest_here", "_law_most"] _ _ := ⟨fun_mk (st := s__law_table) l__law_table c__law_table k__law_table, (fun_mk (st := s__law_table) l__law_table c__law_table k__law_table).binds (ps := ["_law_rest_here", "_law_most"]) (fun _ _ _ _ _ _ us hl => match us, hl with | [_, _], _ => rfl), PySem.W.mg_of X G a__law_table⟩
  have T__law_copy : Fn K mg "_law_copy" s__law_copy ["_law_table_here"] _ _ := ⟨fun_mk (st := s__law_copy) l__law_copy c__law_copy k__law_copy, (fun_mk (st := s__law_copy) l__law_copy c__law_copy k__law_copy).binds (ps := ["_law_table_here"]) (fun _ _ _ _ _ _ us hl => match us, hl with | [_], _ => rfl), PySem.W.mg_of X G a__law_copy⟩
  have T__law_row : Fn K mg "_law_row" s__law_row ["_law_found", "_law_due"] _ _ := ⟨fun_mk (st := s__law_row) l__law_row c__law_row k__law_row, (fun_mk (st := s__law_row) l__law_row c__law_row k__law_row).binds (ps := ["_law_found", "_law_due"]) (fun _ _ _ _ _ _ us hl => match us, hl with | [_, _], _ => rfl), PySem.W.mg_of X G a__law_row⟩
  have T__law_good : Fn K mg "_law_good" s__law_good ["_law_found", "_law_due"] _ _ := ⟨fun_mk (st := s__law_good) l__law_good c__law_good k__law_good, (fun_mk (st := s__law_good) l__law_good c__law_good k__law_good).binds (ps := ["_law_found", "_law_due"]) (fun _ _ _ _ _ _ us hl => match us, hl with | [_, _], _ => rfl), PySem.W.mg_of X G a__law_good⟩
  have T__law_scaled : Fn K mg "_law_scaled" s__law_scaled ["_law_row_here", "_law_part"] _ _ := ⟨fun_mk (st := s__law_scaled) l__law_scaled c__law_scaled k__law_scaled, (fun_mk (st := s__law_scaled) l__law_scaled c__law_scaled k__law_scaled).binds (ps := ["_law_row_here", "_law_part"]) (fun _ _ _ _ _ _ us hl => match us, hl with | [_, _], _ => rfl), PySem.W.mg_of X G a__law_scaled⟩
  have T_law : Fn K mg "law" s_law ["_law_script"] _ _ := ⟨fun_mk (st := s_law) l_law c_law k_law, (fun_mk (st := s_law) l_law c_law k_law).binds (ps := ["_law_script"]) (fun _ _ _ _ _ _ us hl => match us, hl with | [_], _ => rfl), PySem.W.mg_of X G a_law⟩
  have z_len := PySem.W.mg_none_of X G y_len
  have z_range := PySem.W.mg_none_of X G y_range
  have z_abs := PySem.W.mg_none_of X G y_abs
  have z_isinstance := PySem.W.mg_none_of X G y_isinstance
  have z_int := PySem.W.mg_none_of X G y_int
  have z_bool := PySem.W.mg_none_of X G y_bool
  have z_tuple := PySem.W.mg_none_of X G y_tuple
  have z_list := PySem.W.mg_none_of X G y_list
  have z_all := PySem.W.mg_none_of X G y_all
  have z_enumerate := PySem.W.mg_none_of X G y_enumerate
  have z_sum := PySem.W.mg_none_of X G y_sum
  have z_zip := PySem.W.mg_none_of X G y_zip
  refine ⟨PySem.W.fnOf "law" "law" (defArgs s_law) (defBody s_law) (defScope s_law) .none kV_law dc_law pm_law an_law cd_law ct_law, fun s v => .of_eq rfl, fun base _ _ => ?_⟩
  have m_MOST_ROWS := PySem.W.mg_of X G a_MOST
  have m_SHARP := PySem.W.mg_of X G a_SHARP
  have g_gd := ok_greatest_divisor (P := l.prog) (w := w) (base := base) T_greatest_divisor z_abs
  have g_fr := ok_fraction_of T_fraction_of T_greatest_divisor g_gd
  have g_ti := ok_frac_times T_frac_times T_fraction_of g_fr
  have g_wh := ok_is_whole (P := l.prog) (w := w) (base := base) T_is_whole z_isinstance z_int z_bool
  have g_isfr := ok_is_fraction T_is_fraction T_is_whole T_greatest_divisor g_wh g_gd z_isinstance z_tuple z_len
  have g_af := ok_are_fractions T_are_fractions T_is_fraction g_isfr z_isinstance z_list
  have g_ar := ok_are_rows T_are_rows T_are_fractions g_af m_MOST_ROWS z_isinstance z_list z_len z_enumerate
  have g_it := ok_is_table T_is_table T_are_rows T_are_fractions g_ar (g_af.mono (by decide)) z_isinstance z_tuple z_len
  have g_rt := ok_refuse_no_table T_refuse_no_table T_is_table (g_it.mono (by decide))
  have g_rm := ok_refuse_too_many_rows (P := l.prog) (w := w) (base := base) T_refuse_too_many_rows m_MOST_ROWS z_sum z_len
  have g_be := ok_table_behind T_table_behind T_refuse_no_table T_refuse_too_many_rows g_rt (g_rm.mono (by decide)) z_list
  have g_sc := ok_scaled T_scaled T_frac_times g_ti
  have g_sh := ok_table_shrunk T_table_shrunk T_refuse_no_table T_scaled g_rt (g_sc.mono (by decide))
  have g_mx := ok_table_mixed T_table_mixed T_refuse_no_table T_refuse_too_many_rows T_scaled g_rt (g_rm.mono (by decide)) (g_sc.mono (by decide)) z_len z_zip
  have g_pow := ok_power_of (P := l.prog) (w := w) (base := base) T_power_of
  have g_shp := ok_table_sharpened T_table_sharpened T_refuse_no_table T_table_shrunk T_power_of T_fraction_of T_table_behind T_table_mixed (g_rt.mono (by decide)) g_sh (g_pow.mono (by decide)) (g_fr.mono (by decide)) g_be g_mx m_SHARP
  have g_co := ok__law_copy (P := l.prog) (w := w) (base := base) T__law_copy z_list
  have g_ro := ok__law_row (P := l.prog) (w := w) (base := base) T__law_row z_isinstance z_list z_tuple z_int z_bool
  have g_go := ok__law_good T__law_good T__law_row g_ro z_isinstance z_list z_tuple z_len z_range z_all
  have g_ca := ok__law_cell_at (P := l.prog) (w := w) (base := base) T__law_cell_at z_len
  have g_mi := ok__law_mixed (P := l.prog) (w := w) (base := base) T__law_mixed
  have g_re := ok__law_rest T__law_rest T__law_cell_at T__law_mixed g_ca g_mi z_abs
  have g_ra := ok__law_ratio (P := l.prog) (w := w) (base := base) T__law_ratio z_abs
  have g_su := ok__law_sum T__law_sum T__law_ratio (g_ra.mono (by decide))
  have g_lt := ok__law_times T__law_times T__law_ratio (g_ra.mono (by decide))
  have g_ls := ok__law_scaled T__law_scaled T__law_times g_lt
  have g_ta := ok__law_table T__law_table T__law_ratio T__law_sum (g_ra.mono (by decide)) g_su z_range
  exact ok_law T_law T__law_rest T__law_table T__law_copy T_table_sharpened T__law_good T__law_scaled T__law_ratio (g_re.mono (by decide)) (g_ta.mono (by decide)) (g_co.mono (by decide)) g_shp (g_go.mono (by decide)) (g_ls.mono (by decide)) (g_ra.mono (by decide)) z_len
theorem walk {l : PySem.W.OpenLaw} {q : Program} {loose : List Str} {XP : (Str → Option Value) → Heap → Prop} {YP : World → Heap → Prop} {d : DefRec} {K : Params → PySem.W.Frag} (hn : l.most = some 63) (hdf : d.params.defaults = [])
    (hY : ∀ (w : World) (h : Heap), YP w h → (K w.params).In h)
    (F : ∀ (w : World) (mg : Str → Option Value) (fa : Addr) (h : Heap), (K w.params).In h → h.Ns mainGlobals mg → mg d.name = some (.ref fa) →
      ∃ fd : FuncData, (∀ (s : Shared) (u : Value), BindsTo s fd ⟨[u], []⟩ [("_law_script", u)]) ∧ ∀ base : Heap, (K w.params).In base → base.Ns mainGlobals mg → FnOk l.prog w (K w.params) mg base CX0 9 fa fd ["_law_script"] (spLaw (K w.params))) :
    PySem.W.WalkO q loose XP YP l.row.toRowW d [] (fun f vs => PySem.call f vs) :=
  L2.walk_of (n := 63) (k := 9) (x := "_law_script") (CX := fun _ => CX0) (sp := fun w => spLaw (K w.params)) hn (by decide) hdf ⟨rfl, by decide, by decide⟩ hY F (fun _ _ a ns hl _ hS => ⟨a, ns, rfl, hS, hl, fun _ => rfl⟩) fun _ _ _ _ _ z => z
end Q62
open PySem PySem.W PyProof.Rows
set_option maxRecDepth 100000 in
set_option maxHeartbeats 0 in
theorem PySem.Challenge.cw_stepgrove_k62_tables_sharpened_holds : PySem.Challenge.rw_stepgrove_k62_tables_sharpened.Holds := by
  w_on; o_law; k_head; (case hw => w_witness2)
  k_fill
  refine Q62.walk (l := PySem.Challenge.rw_stepgrove_k62_tables_sharpened) rfl rfl (fun w h Y => PySem.W.kIn_of Y) ?F
  case F =>
    intro w mg fa h KX G hmg
    refine' Q62.all_mk KX G hmg ?a_fraction_of ?l_fraction_of ?c_fraction_of ?k_fraction_of ?a_frac_times ?l_frac_times ?c_frac_times ?k_frac_times ?a_is_fraction ?l_is_fraction ?c_is_fraction ?k_is_fraction ?a_are_fractions ?l_are_fractions ?c_are_fractions ?k_are_fractions ?a_is_whole ?l_is_whole ?c_is_whole ?k_is_whole ?a_greatest_divisor ?l_greatest_divisor ?c_greatest_divisor ?k_greatest_divisor ?a_power_of ?l_power_of ?c_power_of ?k_power_of ?a_is_table ?l_is_table ?c_is_table ?k_is_table ?a_refuse_no_table ?l_refuse_no_table ?c_refuse_no_table ?k_refuse_no_table ?a_are_rows ?l_are_rows ?c_are_rows ?k_are_rows ?a_table_behind ?l_table_behind ?c_table_behind ?k_table_behind ?a_table_shrunk ?l_table_shrunk ?c_table_shrunk ?k_table_shrunk ?a_table_mixed ?l_table_mixed ?c_table_mixed ?k_table_mixed ?a_table_sharpened ?l_table_sharpened ?c_table_sharpened ?k_table_sharpened ?a_refuse_too_many_rows ?l_refuse_too_many_rows ?c_refuse_too_many_rows ?k_refuse_too_many_rows ?a_scaled ?l_scaled ?c_scaled ?k_scaled ?a__law_cell_at ?l__law_cell_at ?c__law_cell_at ?k__law_cell_at ?a__law_mixed ?l__law_mixed ?c__law_mixed ?k__law_mixed ?a__law_rest ?l__law_rest ?c__law_rest ?k__law_rest ?a__law_ratio ?l__law_ratio ?c__law_ratio ?k__law_ratio ?a__law_sum ?l__law_sum ?c__law_sum ?k__law_sum ?a__law_times ?l__law_times ?c__law_times ?k__law_times ?a__law_table ?l__law_table ?c__law_table ?k__law_table ?a__law_copy ?l__law_copy ?c__law_copy ?k__law_copy ?a__law_row ?l__law_row ?c__law_row ?k__law_row ?a__law_good ?l__law_good ?c__law_good ?k__law_good ?a__law_scaled ?l__law_scaled ?c__law_scaled ?k__law_scaled ?a_law ?l_law ?c_law ?k_law ?y_len ?y_range ?y_abs ?y_isinstance ?y_int ?y_bool ?y_tuple ?y_list ?y_all ?y_enumerate ?y_sum ?y_zip ?a_MOST ?a_SHARP
    (case a_fraction_of => k_is); (case l_fraction_of => k_is); (case c_fraction_of => k_is); (case k_fraction_of => k_is)
    (case a_frac_times => k_is); (case l_frac_times => k_is); (case c_frac_times => k_is); (case k_frac_times => k_is)
    (case a_is_fraction => k_is); (case l_is_fraction => k_is); (case c_is_fraction => k_is); (case k_is_fraction => k_is)
    (case a_are_fractions => k_is); (case l_are_fractions => k_is); (case c_are_fractions => k_is); (case k_are_fractions => k_is)
    (case a_is_whole => k_is); (case l_is_whole => k_is); (case c_is_whole => k_is); (case k_is_whole => k_is)
    (case a_greatest_divisor => k_is); (case l_greatest_divisor => k_is); (case c_greatest_divisor => k_is); (case k_greatest_divisor => k_is)
    (case a_power_of => k_is); (case l_power_of => k_is); (case c_power_of => k_is); (case k_power_of => k_is)
    (case a_is_table => k_is); (case l_is_table => k_is); (case c_is_table => k_is); (case k_is_table => k_is)
    (case a_refuse_no_table => k_is); (case l_refuse_no_table => k_is); (case c_refuse_no_table => k_is); (case k_refuse_no_table => k_is)
    (case a_are_rows => k_is); (case l_are_rows => k_is); (case c_are_rows => k_is); (case k_are_rows => k_is)
    (case a_table_behind => k_is); (case l_table_behind => k_is); (case c_table_behind => k_is); (case k_table_behind => k_is)
    (case a_table_shrunk => k_is); (case l_table_shrunk => k_is); (case c_table_shrunk => k_is); (case k_table_shrunk => k_is)
    (case a_table_mixed => k_is); (case l_table_mixed => k_is); (case c_table_mixed => k_is); (case k_table_mixed => k_is)
    (case a_table_sharpened => k_is); (case l_table_sharpened => k_is); (case c_table_sharpened => k_is); (case k_table_sharpened => k_is)
    (case a_refuse_too_many_rows => k_is); (case l_refuse_too_many_rows => k_is); (case c_refuse_too_many_rows => k_is); (case k_refuse_too_many_rows => k_is)
    (case a_scaled => k_is); (case l_scaled => k_is); (case c_scaled => k_is); (case k_scaled => k_is)
    (case a__law_cell_at => k_is); (case l__law_cell_at => k_is); (case c__law_cell_at => k_is); (case k__law_cell_at => k_is)
    (case a__law_mixed => k_is); (case l__law_mixed => k_is); (case c__law_mixed => k_is); (case k__law_mixed => k_is)
    (case a__law_rest => k_is); (case l__law_rest => k_is); (case c__law_rest => k_is); (case k__law_rest => k_is)
    (case a__law_ratio => k_is); (case l__law_ratio => k_is); (case c__law_ratio => k_is); (case k__law_ratio => k_is)
    (case a__law_sum => k_is); (case l__law_sum => k_is); (case c__law_sum => k_is); (case k__law_sum => k_is)
    (case a__law_times => k_is); (case l__law_times => k_is); (case c__law_times => k_is); (case k__law_times => k_is)
    (case a__law_table => k_is); (case l__law_table => k_is); (case c__law_table => k_is); (case k__law_table => k_is)
    (case a__law_copy => k_is); (case l__law_copy => k_is); (case c__law_copy => k_is); (case k__law_copy => k_is)
    (case a__law_row => k_is); (case l__law_row => k_is); (case c__law_row => k_is); (case k__law_row => k_is)
    (case a__law_good => k_is); (case l__law_good => k_is); (case c__law_good => k_is); (case k__law_good => k_is)
    (case a__law_scaled => k_is); (case l__law_scaled => k_is); (case c__law_scaled => k_is); (case k__law_scaled => k_is)
    (case a_law => k_is); (case l_law => k_is); (case c_law => k_is); (case k_law => k_is)
    (case y_len => k_is)
    (case y_range => k_is)
    (case y_abs => k_is)
    (case y_isinstance => k_is)
    (case y_int => k_is)
    (case y_bool => k_is)
    (case y_tuple => k_is)
    (case y_list => k_is)
    (case y_all => k_is)
    (case y_enumerate => k_is)
    (case y_sum => k_is)
    (case y_zip => k_is)
    (case a_MOST => k_is)
    (case a_SHARP => k_is)
#print axioms PySem.Challenge.cw_stepgrove_k62_tables_sharpened_holds
