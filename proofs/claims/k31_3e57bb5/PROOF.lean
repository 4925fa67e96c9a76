import PyProof.Rows.All
import Wide.All
import OpenK.AllK
import Wide.FinOn
import Lean
import PyProof.EqAt
import PyProof.EqKinds
import PyProof.TupleCall
import PySem.Challenge.RW_stepgrove_k31_tables_of_many_rows
set_option Elab.async false
set_option linter.all false
set_option maxRecDepth 100000
namespace L2
open PySem PySem.Spec PyProof.Rows
abbrev Key := Sum Int Str
def keyIs : Key → Value → Bool
  | .inl k, v => Value.isInt k v
  | .inr x, v => Value.isStrOf x v
def keyH (w : World) : Key → Int
  | .inl k => hashInt k
  | .inr x => hashStr w x
theorem keyIs_shape : ∀ {k : Key} {v : Value}, keyIs k v = true → (∃ i t, k = Sum.inl i ∧ v = Value.int i t) ∨ (∃ x t, k = Sum.inr x ∧ v = Value.str x t)
  | .inl i, v, h => by
    obtain ⟨t, e⟩ := Value.isInt_shape (k := i) (v := v) h
    exact .inl ⟨i, t, rfl, e⟩
  | .inr x, v, h => by
    obtain ⟨t, e⟩ := Value.isStrOf_shape (x := x) (v := v) h
    exact .inr ⟨x, t, rfl, e⟩
theorem key_ll (a b : Int) : decide ((Sum.inl a : Key) = Sum.inl b) = (a == b) := by
  by_cases e : a = b
  · subst e; simp
  · have h : ¬ (Sum.inl a : Key) = Sum.inl b := fun q => e (Sum.inl.inj q)
    rw [decide_eq_false h]
    exact (beq_eq_false_iff_ne.mpr e).symm
theorem key_rr (a b : Str) : decide ((Sum.inr a : Key) = Sum.inr b) = decide (a = b) := by
  by_cases e : a = b
  · subst e; simp
  · have h : ¬ (Sum.inr a : Key) = Sum.inr b := fun q => e (Sum.inr.inj q)
    rw [decide_eq_false h, decide_eq_false e]
theorem key_lr (a : Int) (b : Str) : decide ((Sum.inl a : Key) = Sum.inr b) = false := decide_eq_false (fun q => nomatch q)
theorem key_rl (a : Str) (b : Int) : decide ((Sum.inr a : Key) = Sum.inl b) = false := decide_eq_false (fun q => nomatch q)
def mixKind (prog : Program) (w : World) : PySem.KeyKind prog w Key where
  is := keyIs
  hash := keyH w
  inj := fun v a b ha hb => by
    rcases keyIs_shape ha with ⟨i, t, rfl, rfl⟩ | ⟨x, t, rfl, rfl⟩
    · rcases keyIs_shape hb with ⟨j, u, rfl, e⟩ | ⟨y, u, rfl, e⟩
      · injection e with e1 _; rw [e1]
      · exact nomatch e
    · rcases keyIs_shape hb with ⟨j, u, rfl, e⟩ | ⟨y, u, rfl, e⟩
      · exact nomatch e
      · injection e with e1 _; rw [e1]
  byValue := fun k v h => by
    rcases keyIs_shape h with ⟨i, t, rfl, rfl⟩ | ⟨x, t, rfl, rfl⟩ <;> rfl
  pyHash := fun hv h => by
    rcases keyIs_shape hv with ⟨i, t, rfl, rfl⟩ | ⟨x, t, rfl, rfl⟩
    · exact wpAny_pyHash_int h
    · exact wpAny_pyHash_str h
  eqBool := fun hu hv h => by
    rcases keyIs_shape hu with ⟨i, t, rfl, rfl⟩ | ⟨x, t, rfl, rfl⟩
    · rcases keyIs_shape hv with ⟨j, u, rfl, rfl⟩ | ⟨y, u, rfl, rfl⟩
      · rw [key_ll] at h; exact wpAny_eqBool_int h
      · rw [key_lr] at h; exact SeqAt.EqAt.int_str i t y u _ _ _ _ h
    · rcases keyIs_shape hv with ⟨j, u, rfl, rfl⟩ | ⟨y, u, rfl, rfl⟩
      · rw [key_rl] at h; exact SeqAt.EqAt.str_int x t j u _ _ _ _ h
      · rw [key_rr] at h; exact wpAny_eqBool_str h
  «strs» := fun k x t v h => by
    rcases keyIs_shape h with ⟨i, u, rfl, e⟩ | ⟨y, u, rfl, e⟩
    · exact nomatch e
    · injection e with e1 _
      subst e1
      cases v <;> rfl
end L2
namespace L2
open PySem PySem.Spec PyProof.Rows
inductive V where
  | non | bl (b : Bool) | int (i : Int) | str (x : Str) | byt (b : Array UInt8) | flt (b : UInt64) | ref (a : Addr) | ty (n : String)
  deriving DecidableEq
def RelV : V → Value → Prop
  | .non, u => u = Value.none
  | .bl b, u => u = Value.bool b
  | .int i, u => ∃ t, u = Value.int i t
  | .str x, u => ∃ t, u = Value.str x t
  | .byt b, u => ∃ t, u = Value.bytes b t
  | .flt b, u => ∃ t, u = Value.float b t
  | .ref a, u => u = Value.ref a
  | .ty n, u => u = Value.type n
abbrev Vals : List V → List Value → Prop := Paired RelV
theorem Vals.length {xs : List V} {us : List Value} (r : Vals xs us) : xs.length = us.length := Paired.length r
theorem Vals.get : ∀ {xs : List V} {us : List Value} {i : Nat} {x : V}, Vals xs us → xs[i]? = some x → ∃ u, us[i]? = some u ∧ RelV x u
  | _, _, _, _, .nil, e => by simp at e
  | _, _, 0, _, .cons r _, e => by simp at e; subst e; exact ⟨_, rfl, r⟩
  | _, _, i + 1, x, .cons _ t, e => by
    obtain ⟨u, h1, h2⟩ := Vals.get (i := i) (x := x) t (by simpa using e)
    exact ⟨u, by simpa using h1, h2⟩
theorem Vals.set {x : V} {u : Value} (r : RelV x u) : ∀ {xs : List V} {us : List Value} (i : Nat), Vals xs us → Vals (xs.set i x) (us.set i u)
  | _, _, _, .nil => .nil
  | _, _, 0, .cons _ t => .cons r t
  | _, _, i + 1, .cons q t => .cons q (Vals.set r i t)
theorem Vals.append : ∀ {xs ys : List V} {us ws : List Value}, Vals xs us → Vals ys ws → Vals (xs ++ ys) (us ++ ws)
  | _, _, _, _, .nil, s => s
  | _, _, _, _, .cons r t, s => .cons r (Vals.append t s)
def RelO : Option V → Option Value → Prop
  | some v, some u => RelV v u
  | none, none => True
  | _, _ => False
def KV {κ : Type} : List (κ × V) → List (κ × Value) → Prop := Paired fun (p : κ × V) (q : κ × Value) => p.1 = q.1 ∧ RelV p.2 q.2
def kV : Key → V
  | .inl i => .int i
  | .inr x => .str x
inductive HO where
  | lst (xs : List V)
  | tup (xs : List V)
  | dK (kvs : List (Key × V)) | dT (kvs : List (List Key × V))
  | set (S : Int → Bool) (n : Nat)
  | ins (C dx : Addr) (fs : List (Str × V))
  | own (x : Addr)
  | xd (fs : List (Str × V))
  | met (f x : Addr)
  | rng (lo hi : Int)
  | frz (o : Obj) (u : HO)
  | tbl (ps : Array Value)
  | ext (φ : Heap → Prop)
abbrev Hp := Addr → Option HO
def upd (H : Hp) (a : Addr) (o : HO) : Hp := fun b => if b = a then some o else H b
theorem upd_same {H : Hp} {a : Addr} {o : HO} : upd H a o a = some o := by unfold upd; rw [if_pos rfl]
theorem upd_ne {H : Hp} {a b : Addr} {o : HO} (h : b ≠ a) : upd H a o b = H b := by unfold upd; rw [if_neg h]
theorem ne_of_none {H : Hp} {a b : Addr} {o : HO} (h : H a = some o) (h' : H b = none) : a ≠ b := by
  intro e; subst e; rw [h] at h'; cases h'
section
variable (P : Program) (w : World)
def ObjOk (H : Hp) (h : Heap) (a : Addr) : HO → Prop
  | .lst xs => xs.length ≤ sizeLine ∧ ∃ (its : List Value) (n : Nat), Vals xs its ∧ h.get? a = some { cls := .type "list", data := .seq its.toArray n }
  | .tup xs => xs.length ≤ sizeLine ∧ ∃ its : List Value, Vals xs its ∧ IsTup h a its.toArray
  | .dK kvs => kvs.length ≤ sizeLine ∧ (a == sysModules) = false ∧ ∃ vs, KV kvs vs ∧ h.DictOf (mixKind P w) a vs
  | .dT kvs => kvs.length ≤ sizeLine ∧ (a == sysModules) = false ∧ ∃ xs : List (List Key × Addr × Value),
      Paired (fun (p : List Key × V) (q : List Key × Addr × Value) => p.1 = q.1 ∧ H q.2.1 = some (.tup (p.1.map kV)) ∧ RelV p.2 q.2.2) kvs xs ∧
      ∃ o es ep, h.get? a = some o ∧ o.ExactDict ∧ o.data = .dict es ep ∧ es.toList = xs.map (entryOfKey (tupleKind (mixKind P w))) ∧ (xs.map (·.1)).Nodup
  | .set S n => h.SetOf (intKind P w) a S n
  | .ins C dx fs => H dx = some (.own a) ∧ fs.length ≤ 1000 ∧ dx ≠ a ∧ h.get? a = some (PySem.W.instObj C dx) ∧
      ∃ mA, h.Ns1 dx mA ∧ (∀ f, RelO (fs.lookup f) (mA f)) ∧ PySem.Within mA (fs.map (·.1))
  | .own _ => ∃ o, h.get? a = some o
  | .xd fs => ∃ mA, h.Ns1 a mA ∧ ∀ f, RelO (fs.lookup f) (mA f)
  | .rng lo hi => ∃ t u v, h.get? a = some { cls := .type "range", data := .fields #[.int lo t, .int hi u, .int 1 v] }
  | .frz o u => h.get? a = some o ∧ ObjOk H h a u
  | .tbl ps => h.get? a = some { cls := .none, data := .fields ps }
  | .met f x => h.get? a = some (PySem.W.methodObj (.ref f) (.ref x))
  | .ext φ => φ h ∧ (∃ o, h.get? a = some o) ∧ ∀ h1 h2 : Heap, φ h1 → (∀ o, h1.get? a = some o → h2.get? a = some o) → φ h2
def HOk (H : Hp) (h : Heap) : Prop := ∀ a o, H a = some o → ObjOk P w H h a o
end
section
variable {P : Program} {w : World} {H H' : Hp} {h h' : Heap} {a : Addr} {o : HO}
theorem ObjOk.lt (x : ObjOk P w H h a o) : a < h.objs.size := by
  cases o with
  | lst xs => obtain ⟨_, _, _, _, e⟩ := x; exact Heap.lt_size e
  | tup xs => obtain ⟨_, _, _, p⟩ := x; exact p.lt
  | dK kvs => obtain ⟨_, _, _, _, o, _, _, e, _⟩ := x; exact Heap.lt_size e
  | dT kvs => obtain ⟨_, _, _, _, o, _, _, e, _⟩ := x; exact Heap.lt_size e
  | set S n => obtain ⟨o, _, _, _, e, _⟩ := x; exact Heap.lt_size e
  | ins C dx fs => obtain ⟨_, _, _, e, _⟩ := x; exact Heap.lt_size e
  | own y => obtain ⟨_, e⟩ := x; exact Heap.lt_size e
  | xd fs => obtain ⟨_, ⟨_, _, _, e, _⟩, _⟩ := x; exact Heap.lt_size e
  | rng lo hi => obtain ⟨_, _, _, e⟩ := x; exact Heap.lt_size e
  | frz ob u => obtain ⟨e, _⟩ := x; exact Heap.lt_size e
  | tbl ps => exact Heap.lt_size (show h.get? a = some _ from x)
  | met f y => exact Heap.lt_size (show h.get? a = some _ from x)
  | ext φ => obtain ⟨_, ⟨_, e⟩, _⟩ := x; exact Heap.lt_size e
theorem Paired.mapP {α β : Type} {F G : α → β → Prop} : ∀ {l₁ : List α} {l₂ : List β}, Paired F l₁ l₂ → (∀ a b, F a b → G a b) → Paired G l₁ l₂
  | _, _, .nil, _ => .nil
  | _, _, .cons r t, f => .cons (f _ _ r) (Paired.mapP t f)
theorem ObjOk.stay (x : ObjOk P w H h a o) (k : ∀ b u, (b = a ∨ H b = some (.own a)) → h.get? b = some u → h'.get? b = some u)
    (ho : ∀ b, H b = some (.own a) → H' b = some (.own a)) (ht : ∀ b xs, H b = some (.tup xs) → H' b = some (.tup xs)) : ObjOk P w H' h' a o := by
  induction o with
  | lst xs => obtain ⟨z, its, n, r, e⟩ := x; exact ⟨z, its, n, r, k _ _ (.inl rfl) e⟩
  | tup xs => obtain ⟨z, its, r, ob, e, c⟩ := x; exact ⟨z, its, r, ob, k _ _ (.inl rfl) e, c⟩
  | dK kvs => obtain ⟨z, y, vs, r, ob, es, ep, e, c⟩ := x; exact ⟨z, y, vs, r, ob, es, ep, k _ _ (.inl rfl) e, c⟩
  | dT kvs =>
    obtain ⟨z, y, xs, r, ob, es, ep, e, c⟩ := x
    exact ⟨z, y, xs, Paired.mapP r fun p q z => ⟨z.1, ht _ _ z.2.1, z.2.2⟩, ob, es, ep, k _ _ (.inl rfl) e, c⟩
  | set S n => obtain ⟨ob, es, ep, t, e, c⟩ := x; exact ⟨ob, es, ep, t, k _ _ (.inl rfl) e, c⟩
  | ins C dx fs =>
    obtain ⟨d, z, ne, e, mA, ⟨od, es, ep, e2, c⟩, r⟩ := x
    exact ⟨ho _ d, z, ne, k _ _ (.inl rfl) e, mA, ⟨od, es, ep, k _ _ (.inr d) e2, c⟩, r⟩
  | own y => obtain ⟨ob, e⟩ := x; exact ⟨ob, k _ _ (.inl rfl) e⟩
  | xd fs => obtain ⟨mA, ⟨od, es, ep, e, c⟩, r⟩ := x; exact ⟨mA, ⟨od, es, ep, k _ _ (.inl rfl) e, c⟩, r⟩
  | rng lo hi => obtain ⟨t, u, v, e⟩ := x; exact ⟨t, u, v, k _ _ (.inl rfl) e⟩
  | frz ob u ih => obtain ⟨e, q⟩ := x; exact ⟨k _ _ (.inl rfl) e, ih q⟩
  | tbl ps =>
    have e : h.get? a = some { cls := .none, data := .fields ps } := x
    show h'.get? a = some { cls := .none, data := .fields ps }
    exact k a _ (.inl rfl) e
  | met f y =>
    have e : h.get? a = some (PySem.W.methodObj (.ref f) (.ref y)) := x
    show h'.get? a = some (PySem.W.methodObj (.ref f) (.ref y))
    exact k a _ (.inl rfl) e
  | ext φ => obtain ⟨p, ⟨o, e⟩, st⟩ := x; exact ⟨st _ _ p fun o q => k _ _ (.inl rfl) q, ⟨o, k _ _ (.inl rfl) e⟩, st⟩
theorem HOk.lt (x : HOk P w H h) (e : H a = some o) : a < h.objs.size := (x a o e).lt
theorem HOk.fresh (x : HOk P w H h) (e : h.objs.size ≤ a) : H a = none := by
  cases q : H a with
  | none => rfl
  | some u => exact absurd (Nat.lt_of_lt_of_le (x.lt q) e) (Nat.lt_irrefl _)
theorem HOk.kept (x : HOk P w H h) (k : ∀ b u, h.get? b = some u → h'.get? b = some u) : HOk P w H h' := fun a o e =>
  (x a o e).stay (fun b u _ q => k b u q) (fun _ q => q) fun _ _ q => q
theorem HOk.laid (x : HOk P w H h) (k : ∀ b u, h.get? b = some u → h'.get? b = some u) (hp : h.objs.size ≤ a) (new : ObjOk P w (upd H a o) h' a o) : HOk P w (upd H a o) h' := fun b u e => by
  have hn := x.fresh hp
  by_cases hb : b = a
  · subst hb; rw [upd_same] at e; cases e; exact new
  · rw [upd_ne hb] at e
    exact (x b u e).stay (fun c v _ q => k c v q) (fun c q => by rw [upd_ne (ne_of_none q hn)]; exact q) fun c xs q => by rw [upd_ne (ne_of_none q hn)]; exact q
end
def Rd (H : Hp) (a : Addr) (u : HO) : Prop := H a = some u ∨ ∃ o, H a = some (.frz o u)
theorem Rd.ok {P : Program} {w : World} {H : Hp} {h : Heap} {a : Addr} {u : HO} (r : Rd H a u) (x : HOk P w H h) : ObjOk P w H h a u := by
  rcases r with r | ⟨o, r⟩
  · exact x a u r
  · obtain ⟨_, q⟩ := x a _ r
    exact q
def Mut : Option HO → Prop
  | some (.lst _) => True
  | some (.dK _) => True
  | some (.dT _) => True
  | some (.set _ _) => True
  | some (.ins _ _ _) => True
  | some (.ext _) => True
  | _ => False
section
variable {P : Program} {w : World} {H : Hp} {h h' : Heap} {x e : Addr} {o' : HO}
theorem HOk.write (ok : HOk P w H h) (mu : Mut (H x)) (he : e = x ∨ H e = some (.own x)) (k : ∀ b u, b ≠ e → h.get? b = some u → h'.get? b = some u) (heo : ∃ u, h'.get? e = some u)
    (new : ObjOk P w (upd H x o') h' x o') : HOk P w (upd H x o') h' := fun b u q => by
  have nown : ∀ c y, H c = some (.own y) → c ≠ x := fun c y r z => by subst z; rw [r] at mu; exact mu
  have ntup : ∀ c xs, H c = some (.tup xs) → c ≠ x := fun c xs r z => by subst z; rw [r] at mu; exact mu
  by_cases hb : b = x
  · subst hb; rw [upd_same] at q; cases q; exact new
  · rw [upd_ne hb] at q
    by_cases hbe : b = e
    · have q' : H b = some (.own x) := by
        rcases he with z | z
        · exact absurd (hbe.trans z) hb
        · rw [hbe]; exact z
      rw [q] at q'; cases q'
      obtain ⟨v, hv⟩ := heo
      exact ⟨v, by rw [hbe]; exact hv⟩
    · refine (ok b u q).stay (fun c v hc r => k c v ?_ r) (fun c r => by rw [upd_ne (nown c b r)]; exact r) fun c xs r => by rw [upd_ne (ntup c xs r)]; exact r
      rcases hc with rfl | hc
      · exact hbe
      · rintro rfl
        rcases he with z | z
        · exact nown c b hc z
        · rw [hc] at z; cases z; exact hb rfl
end
structure Un (fs ex : List Addr) (H H' : Hp) (h h' : Heap) : Prop where
  keep : ∀ b o, h.get? b = some o → H b = none → b ∉ fs → b ∉ ex → h'.get? b = some o
  slot : ∀ b o, h.get? b = some o → H b = none → b ∈ fs → b ∉ ex → ∃ sl, h'.get? b = some { o with slots := sl }
  free : ∀ b o, h.get? b = some o → H b = none → b ∉ ex → H' b = none
  there : ∀ b o, h.get? b = some o → b ∉ ex → ∃ o', h'.get? b = some o'
  tups : ∀ b xs, H b = some (.tup xs) → H' b = some (.tup xs)
  frzs : ∀ b o u, H b = some (.frz o u) → H' b = some (.frz o u)
  tbls : ∀ b ps, H b = some (.tbl ps) → ∃ more, H' b = some (.tbl (ps ++ more))
section
variable {fs fs' ex ex' : List Addr} {H H1 H2 : Hp} {h h1 h2 h' : Heap} {a x e : Addr} {o : HO}
theorem Un.any (u : Un fs ex H H1 h h1) {b : Addr} {ob : Obj} (q : h.get? b = some ob) (n : H b = none) (hx : b ∉ ex) : ∃ sl, h1.get? b = some { ob with slots := sl } := by
  by_cases hb : b ∈ fs
  · exact u.slot b ob q n hb hx
  · exact ⟨ob.slots, u.keep b ob q n hb hx⟩
theorem Un.kept (k : ∀ b u, h.get? b = some u → h'.get? b = some u) : Un fs ex H H h h' :=
  ⟨fun b ob q _ _ _ => k b ob q, fun b ob q _ _ _ => ⟨ob.slots, k b ob q⟩, fun _ _ _ n _ => n, fun b ob q _ => ⟨ob, k b ob q⟩, fun _ _ q => q, fun _ _ _ q => q, fun _ ps q => ⟨#[], by rw [q]; simp⟩⟩
theorem Un.refl : Un fs ex H H h h := Un.kept fun _ _ q => q
theorem Un.laid (k : ∀ b u, h.get? b = some u → h'.get? b = some u) (hp : h.objs.size ≤ a) (hn : H a = none) : Un fs ex H (upd H a o) h h' where
  keep := fun b u q _ _ _ => k b u q
  slot := fun b u q _ _ _ => ⟨u.slots, k b u q⟩
  free := fun b u q n _ => by rw [upd_ne (Nat.ne_of_lt (Nat.lt_of_lt_of_le (Heap.lt_size q) hp))]; exact n
  there := fun b u q _ => ⟨u, k b u q⟩
  tups := fun b xs q => by rw [upd_ne (ne_of_none q hn)]; exact q
  frzs := fun b u xs q => by rw [upd_ne (ne_of_none q hn)]; exact q
  tbls := fun b ps q => ⟨#[], by rw [upd_ne (ne_of_none q hn), q]; simp⟩
theorem Un.write (mu : Mut (H x)) (he : e = x ∨ H e = some (.own x)) (k : ∀ b u, b ≠ e → h.get? b = some u → h'.get? b = some u) (heo : ∃ u, h'.get? e = some u) : Un fs ex H (upd H x o) h h' := by
  have hx : ∀ b, H b = none → b ≠ x := fun b n z => by subst z; rw [n] at mu; exact mu
  have hb : ∀ b, H b = none → b ≠ e := fun b n z => by
    subst z
    rcases he with r | r
    · exact hx b n r
    · rw [n] at r; cases r
  have hm : ∀ b u, H b = some u → ¬ Mut (some u) → b ≠ x := fun b u q nm z => by subst z; rw [q] at mu; exact nm mu
  refine ⟨fun b u q n _ _ => k b u (hb b n) q, fun b u q n _ _ => ⟨u.slots, k b u (hb b n) q⟩, fun b u q n _ => by rw [upd_ne (hx b n)]; exact n, fun b u q _ => ?_,
    fun b xs q => by rw [upd_ne (hm b _ q fun z => z)]; exact q, fun b u xs q => by rw [upd_ne (hm b _ q fun z => z)]; exact q, fun b ps q => ⟨#[], by rw [upd_ne (hm b _ q fun z => z), q]; simp⟩⟩
  by_cases hbe : b = e
  · subst hbe; exact heo
  · exact ⟨u, k b u hbe q⟩
end
def trk (h : Heap) (H : Hp) : List Addr := (List.range h.objs.size).filter fun a => (H a).isSome
def hidT (h : Heap) (H : Hp) : Heap := PySem.W.hideAll h (trk h H)
theorem hidT_size (h : Heap) (H : Hp) : (hidT h H).objs.size = h.objs.size := PySem.W.hideAll_size _ _
theorem hidT_get {h : Heap} {H : Hp} {b : Addr} {o : Obj} (e : h.get? b = some o) (n : H b = none) : (hidT h H).get? b = some o :=
  PySem.W.hideAll_get _ e fun hm => by
    have q : (H b).isSome = true := (List.mem_filter.mp hm).2
    rw [n] at q; simp at q
theorem of_hidT {h : Heap} {H : Hp} {b : Addr} {o : Obj} (e : (hidT h H).get? b = some o) : h.get? b = some o ∧ H b = none := by
  have e' : h.get? b = some o := PySem.W.of_hideAll (trk h H) e
  refine ⟨e', ?_⟩
  cases q : H b with
  | none => rfl
  | some x =>
    have hm : b ∈ trk h H := List.mem_filter.mpr ⟨List.mem_range.mpr (Heap.lt_size e'), by simp [q]⟩
    have z : (hidT h H).get? b = none := PySem.W.hideAll_none (trk h H) hm
    rw [z] at e; cases e
end L2
namespace L2
open PySem PySem.Spec PyProof.Rows
structure Mod (K : PySem.W.Frag) (mg : Str → Option Value) (base : Heap) : Prop where
  kin : K.In base
  glob : base.Ns mainGlobals mg
  blt : ∃ mb, base.Ns builtinsNs mb ∧ ∀ x : Str, x ≠ "__name__" → mb x = bootBuiltins x
  nolimit : base.NoLimit
structure Cx where
  prog : Program
  w : World
  K : PySem.W.Frag
  mg : Str → Option Value
  base : Heap
  A : Around
  N : List Str
  s₀ : Shared
  H₀ : Hp
  env : Env
  outer : List Env
  stack : List Env
  ex : List Addr
  fn : Str → Bool
  calm : Bool
  pn : List (Addr × Obj)
  xe : Value → Shared → Prop
def frs (l : List Env) : List Addr := l.filterMap (·.frame)
abbrev Cx.fs (X : Cx) : List Addr := frs X.outer
def Vis (sc : Scope) (x : Str) : Prop := sc.names.lookup x = some .local ∨ sc.names.lookup x = some .cell ∨ sc.names.lookup x = some .free
def Loc (sc : Scope) (x : Str) : Prop := sc.names.lookup x = some .local ∨ sc.names.lookup x = some .cell
def Look (env : Env) (h : Heap) (m : Str → Option Value) (x : Str) (u : Value) : Prop :=
  (env.kindOf x = some .local ∧ m x = some u) ∨ ((env.kindOf x = some .cell ∨ env.kindOf x = some .free) ∧ ∃ c, env.cells.lookup x = some c ∧ h.IsCell c (some u))
structure Cx.Ok (X : Cx) : Prop where
  mod : Mod X.K X.mg X.base
  kind : X.env.scope.kind = .function
  glob : X.env.globals = mainGlobals
  blt : X.env.builtins = builtinsNs
  above : X.s₀.heap.objs.size ≤ X.env.locals
  inj : ∀ x y c, X.env.cells.lookup x = some c → X.env.cells.lookup y = some c → x = y
  has : ∀ x, (X.env.kindOf x = some .cell ∨ X.env.kindOf x = some .free) → ∃ c, X.env.cells.lookup x = some c
  cab : ∀ x c, X.fn x = true → X.env.cells.lookup x = some c → X.s₀.heap.objs.size ≤ c
  hd : X.calm = true → X.A.handled = none
  frames : X.A.frames = some X.stack
  stk : X.stack = X.outer ∨ (X.stack = X.env :: X.outer ∧ X.env.frame = some X.env.locals)
  exf : ∀ b ∈ X.ex, b ≠ X.env.locals ∧ ∀ x c, X.env.cells.lookup x = some c → c ≠ b
  bs : ∀ b o, X.base.get? b = some o → X.s₀.heap.get? b = some o ∧ X.H₀ b = none
  bsz : X.base.objs.size ≤ X.s₀.heap.objs.size
  noex : ∀ b o, X.base.get? b = some o → b ∉ X.ex
  exfs : ∀ b ∈ X.ex, b ∉ X.fs
  funs : X.s₀.heap.FunFrames X.base X.outer
  frf : ∀ b ∈ X.fs, X.H₀ b = none
structure Inv (X : Cx) (pins : List (Addr × Obj)) (σ : List (Option V)) (H : Hp) (s : Shared) : Prop where
  ok : X.Ok
  os : s.os = X.s₀.os
  bare : AllBare s.gens
  base : Un X.fs X.ex X.H₀ H X.s₀.heap s.heap
  loc : ∃ m, s.heap.Ns X.env.locals m ∧ ∀ (i : Nat) (x : Str) (v : V), X.N[i]? = some x → σ[i]? = some (some v) → Vis X.env.scope x → ∃ u, RelV v u ∧ Look X.env s.heap m x u
  cell : ∀ x c, X.env.cells.lookup x = some c → ∃ v, s.heap.IsCell c v
  free : H X.env.locals = none
  freeC : ∀ x c, X.env.cells.lookup x = some c → H c = none
  pin : ∀ p ∈ X.pn ++ pins, s.heap.get? p.1 = some p.2 ∧ H p.1 = none ∧ p.1 ≠ X.env.locals ∧ p.1 ∉ X.fs ∧ ∀ v, p.2.data ≠ .cell v
  hok : HOk X.prog X.w H s.heap
  len : σ.length = X.N.length
section
variable {X : Cx} {pins : List (Addr × Obj)} {σ : List (Option V)} {H H' : Hp} {s : Shared} {h' : Heap}
theorem Cx.Ok.nofr (ok : X.Ok) {b : Addr} {o : Obj} (e : X.base.get? b = some o) : b ∉ X.fs := fun hb => by
  have := (ok.funs.mem hb).1
  rw [e] at this; cases this
theorem Inv.bs (I : Inv X pins σ H s) : ∀ b o, X.base.get? b = some o → s.heap.get? b = some o ∧ H b = none := fun b o e =>
  ⟨I.base.keep b o (I.ok.bs b o e).1 (I.ok.bs b o e).2 (I.ok.nofr e) (I.ok.noex b o e), I.base.free b o (I.ok.bs b o e).1 (I.ok.bs b o e).2 (I.ok.noex b o e)⟩
theorem Inv.bk (I : Inv X pins σ H s) : ∀ b o, X.base.get? b = some o → s.heap.get? b = some o := fun b o e => (I.bs b o e).1
theorem Inv.mod (I : Inv X pins σ H s) : Mod X.K X.mg X.base := I.ok.mod
theorem Inv.kIn (I : Inv X pins σ H s) : X.K.In s.heap := I.ok.mod.kin.keeps I.bk
theorem Inv.lt (I : Inv X pins σ H s) : X.env.locals < s.heap.objs.size := let ⟨_, hn, _⟩ := I.loc; hn.lt
theorem Inv.sz (I : Inv X pins σ H s) : X.s₀.heap.objs.size ≤ s.heap.objs.size := Nat.le_trans I.ok.above (Nat.le_of_lt I.lt)
theorem Inv.nofs (I : Inv X pins σ H s) {a : Addr} (h : s.heap.objs.size ≤ a) : a ∉ X.fs := fun hb => by
  obtain ⟨_, o, ho, _⟩ := I.ok.funs.mem hb
  exact absurd (Nat.lt_of_lt_of_le (Heap.lt_size ho) (Nat.le_trans I.sz h)) (Nat.lt_irrefl _)
theorem Inv.cne (I : Inv X pins σ H s) : ∀ x c, X.env.cells.lookup x = some c → c ≠ X.env.locals := fun x c e z => by
  obtain ⟨v, o, ho, hd⟩ := I.cell x c e
  obtain ⟨m, ⟨o', es, ep, ho', hd', _⟩, _⟩ := I.loc
  rw [z, ho'] at ho; cases ho; rw [hd'] at hd; cases hd
theorem Inv.funs (I : Inv X pins σ H s) : s.heap.FunFrames X.base X.outer := by
  have all : ∀ (l : List Env), (∀ b ∈ frs l, b ∈ X.fs) → X.s₀.heap.FunFrames X.base l → s.heap.FunFrames X.base l := by
    intro l
    induction l with
    | nil => intro _ _; trivial
    | cons env r ih =>
      intro hs hl
      obtain ⟨hk, ⟨L, o, hf, hn, ho, hd⟩, hr⟩ := hl
      have hL : L ∈ X.fs := hs L (by unfold frs; rw [List.filterMap_cons, hf]; exact List.mem_cons_self)
      obtain ⟨sl, e⟩ := I.base.slot L o ho (I.ok.frf L hL) hL fun z => I.ok.exfs L z hL
      exact ⟨hk, ⟨L, _, hf, hn, e, hd⟩, ih (fun b hb => hs b (by unfold frs; rw [List.filterMap_cons, hf]; exact List.mem_cons_of_mem _ hb)) hr⟩
  exact all X.outer (fun _ hb => hb) I.ok.funs
theorem Inv.stack (I : Inv X pins σ H s) : s.heap.FunFrames X.base X.stack := by
  rcases I.ok.stk with e | ⟨e, hf⟩
  · rw [e]; exact I.funs
  · rw [e]
    obtain ⟨m, hn, _⟩ := I.loc
    refine .cons (by rw [I.ok.kind]; decide) hf hn ?_ I.funs
    exact Heap.get?_none_of_le (Nat.le_trans I.ok.bsz I.ok.above)
theorem Inv.stkSub (I : Inv X pins σ H s) : ∀ b ∈ frs X.stack, b ∈ X.env.locals :: X.fs := fun b hb => by
  rcases I.ok.stk with e | ⟨e, hf⟩
  · rw [e] at hb; exact List.mem_cons_of_mem _ hb
  · rw [e] at hb
    unfold frs at hb
    rw [List.filterMap_cons, hf] at hb
    exact hb
theorem Inv.stkFree (I : Inv X pins σ H s) : ∀ b ∈ frs X.stack, H b = none := fun b hb => by
  rcases List.mem_cons.mp (I.stkSub b hb) with e | hb
  · rw [e]; exact I.free
  · obtain ⟨_, o, ho, _⟩ := I.ok.funs.mem hb
    exact I.base.free b o ho (I.ok.frf b hb) fun z => I.ok.exfs b z hb
theorem Inv.step {g' : Array GenState} {t' : Nat} {d' : Drawn} {ch : List Addr} (I : Inv X pins σ H s)
    (hch : ∀ b ∈ ch, (b ∈ X.ex ∨ X.s₀.heap.objs.size ≤ b) ∧ b ≠ X.env.locals ∧ (∀ x c, X.env.cells.lookup x = some c → c ≠ b) ∧ ∀ p ∈ X.pn ++ pins, p.1 ≠ b)
    (keep : ∀ b o, b ≠ X.env.locals → b ∉ X.fs → b ∉ ch → s.heap.get? b = some o → H b = none → h'.get? b = some o)
    (slot : ∀ b o, b ≠ X.env.locals → b ∈ X.fs → b ∉ ch → s.heap.get? b = some o → H b = none → ∃ sl, h'.get? b = some { o with slots := sl }) (free : ∀ b o, b ∉ ch → s.heap.get? b = some o → H b = none → H' b = none)
    (there : ∀ b o, b ∉ ch → s.heap.get? b = some o → ∃ o', h'.get? b = some o')
    (tups : ∀ b xs, H b = some (.tup xs) → H' b = some (.tup xs)) (frzs : ∀ b o u, H b = some (.frz o u) → H' b = some (.frz o u)) (tbls : ∀ b ps, H b = some (.tbl ps) → ∃ more, H' b = some (.tbl (ps ++ more)))
    (ns : ∀ m, s.heap.Ns X.env.locals m → h'.Ns X.env.locals m) (hok : HOk X.prog X.w H' h') (hg : AllBare g') :
    Inv X pins σ H' { s with heap := h', gens := g', drawn := d', toks := t' } := by
  have neL : ∀ b o, X.s₀.heap.get? b = some o → b ≠ X.env.locals := fun b o e => Nat.ne_of_lt (Nat.lt_of_lt_of_le (Heap.lt_size e) I.ok.above)
  have neC : ∀ b o, X.s₀.heap.get? b = some o → b ∉ X.ex → b ∉ ch := fun b o e hx hb => by
    rcases (hch b hb).1 with z | z
    · exact hx z
    · exact absurd (Nat.lt_of_lt_of_le (Heap.lt_size e) z) (Nat.lt_irrefl _)
  have cellK : ∀ x c, X.env.cells.lookup x = some c → ∀ v, s.heap.IsCell c v → h'.IsCell c v := fun x c e v ⟨o, ho, hd⟩ => by
    have nch : c ∉ ch := fun z => (hch c z).2.2.1 x c e rfl
    by_cases hc : c ∈ X.fs
    · obtain ⟨sl, q⟩ := slot c o (I.cne x c e) hc nch ho (I.freeC x c e)
      exact ⟨_, q, hd⟩
    · exact ⟨o, keep c o (I.cne x c e) hc nch ho (I.freeC x c e), hd⟩
  refine ⟨I.ok, I.os, hg, ⟨fun b o e n hb hx => ?_, fun b o e n hb hx => ?_, fun b o e n hx => ?_, fun b o e hx => ?_, fun b xs e => tups b xs (I.base.tups b xs e), fun b o xs e => frzs b o xs (I.base.frzs b o xs e), fun b ps e => ?_⟩, ?_, fun x c e => ?_, ?_, fun x c e => ?_, fun p hp => ?_, hok, I.len⟩
  · exact keep b o (neL b o e) hb (neC b o e hx) (I.base.keep b o e n hb hx) (I.base.free b o e n hx)
  · obtain ⟨sl, e1⟩ := I.base.slot b o e n hb hx
    obtain ⟨sl', e2⟩ := slot b _ (neL b o e) hb (neC b o e hx) e1 (I.base.free b o e n hx)
    exact ⟨sl', e2⟩
  · obtain ⟨o', e1⟩ := I.base.there b o e hx
    exact free b o' (neC b o e hx) e1 (I.base.free b o e n hx)
  · obtain ⟨o', e1⟩ := I.base.there b o e hx
    exact there b o' (neC b o e hx) e1
  · obtain ⟨m1, e1⟩ := I.base.tbls b ps e
    obtain ⟨m2, e2⟩ := tbls b _ e1
    exact ⟨m1 ++ m2, by rw [e2, Array.append_assoc]⟩
  · obtain ⟨m, hn, hl⟩ := I.loc
    refine ⟨m, ns m hn, fun i x v e1 e2 e3 => ?_⟩
    obtain ⟨u, r, l⟩ := hl i x v e1 e2 e3
    refine ⟨u, r, ?_⟩
    rcases l with l | ⟨k, c, e, z⟩
    · exact .inl l
    · exact .inr ⟨k, c, e, cellK x c e _ z⟩
  · obtain ⟨v, z⟩ := I.cell x c e
    exact ⟨v, cellK x c e v z⟩
  · obtain ⟨m, ⟨o, _, _, ho, _⟩, _⟩ := I.loc
    exact free _ o (fun z => (hch _ z).2.1 rfl) ho I.free
  · obtain ⟨v, o, ho, hd⟩ := I.cell x c e
    exact free c o (fun z => (hch c z).2.2.1 x c e rfl) ho (I.freeC x c e)
  · obtain ⟨e, n, ne, nf, d⟩ := I.pin p hp
    have nch : p.1 ∉ ch := fun z => (hch p.1 z).2.2.2 p hp rfl
    exact ⟨keep p.1 p.2 ne nf nch e n, free p.1 p.2 nch e n, ne, nf, d⟩
theorem Inv.un {t' : Nat} (I : Inv X pins σ H s) (u : Un X.fs [] H H' s.heap h') (hok : HOk X.prog X.w H' h') : Inv X pins σ H' { s with heap := h', toks := t' } := by
  obtain ⟨m, ⟨o, es, ep, ho, r⟩, _⟩ := id I.loc
  obtain ⟨sl, hL⟩ := u.any ho I.free (by simp)
  exact I.step (g' := s.gens) (d' := s.drawn) (ch := []) (fun _ z => nomatch z) (fun b o _ hb _ e n => u.keep b o e n hb (by simp)) (fun b o _ hb _ e n => u.slot b o e n hb (by simp)) (fun b o _ e n => u.free b o e n (by simp)) (fun b o _ e => u.there b o e (by simp)) u.tups u.frzs u.tbls (fun m' hm => by
    obtain ⟨o', es', ep', ho', r'⟩ := hm
    rw [ho] at ho'; cases ho'
    exact ⟨_, es', ep', hL, r'⟩) hok I.bare
theorem Inv.call {g' : Array GenState} {t' : Nat} {d' : Drawn} {ch : List Addr} (I : Inv X pins σ H s) (u : Un (frs X.stack) ch H H' s.heap h') (hok : HOk X.prog X.w H' h') (hg : AllBare g')
    (hch : ∀ b ∈ ch, (b ∈ X.ex ∨ X.s₀.heap.objs.size ≤ b) ∧ b ≠ X.env.locals ∧ (∀ x c, X.env.cells.lookup x = some c → c ≠ b) ∧ ∀ p ∈ X.pn ++ pins, p.1 ≠ b) :
    Inv X pins σ H' { s with heap := h', gens := g', drawn := d', toks := t' } := by
  obtain ⟨m, ⟨o, es, ep, ho, r⟩, _⟩ := id I.loc
  obtain ⟨sl, hL⟩ := u.any ho I.free fun z => (hch _ z).2.1 rfl
  exact I.step (ch := ch) hch (fun b o hL hb hc e n => u.keep b o e n (fun z => (List.mem_cons.mp (I.stkSub b z)).elim hL hb) hc) (fun b o _ _ hc e n => u.any e n hc) (fun b o hc e n => u.free b o e n hc) (fun b o hc e => u.there b o e hc) u.tups u.frzs u.tbls (fun m' hm => by
    obtain ⟨o', es', ep', ho', r'⟩ := hm
    rw [ho] at ho'; cases ho'
    exact ⟨_, es', ep', hL, r'⟩) hok hg
theorem Inv.turned {t' : Nat} {it : Addr} (I : Inv X pins σ H s) (k : ∀ b o, b ≠ it → s.heap.get? b = some o → h'.get? b = some o) (hn : H it = none) (hL : it ≠ X.env.locals)
    (h1 : it ∈ X.ex ∨ X.s₀.heap.objs.size ≤ it) (h2 : ∀ x c, X.env.cells.lookup x = some c → c ≠ it) (h3 : ∀ p ∈ X.pn ++ pins, p.1 ≠ it) : Inv X pins σ H { s with heap := h', toks := t' } := by
  have nit : ∀ b u, H b = some u → b ≠ it := fun b u e z => by rw [z, hn] at e; cases e
  refine I.step (g' := s.gens) (d' := s.drawn) (ch := [it]) (fun b hb => ?_) (fun b o _ _ hc e _ => k b o (fun z => hc (by simp [z])) e) (fun b o _ _ hc e _ => ⟨o.slots, k b o (fun z => hc (by simp [z])) e⟩) (fun _ _ _ _ n => n)
    (fun b o hc e => ⟨o, k b o (fun z => hc (by simp [z])) e⟩) (fun _ _ e => e) (fun _ _ _ e => e) (fun b ps e => ⟨#[], by rw [e]; simp⟩) (fun m hm => ?_) (fun b u e => ?_) I.bare
  · have e : b = it := by simpa using hb
    subst e
    exact ⟨h1, hL, h2, h3⟩
  · obtain ⟨o, es, ep, ho, r⟩ := hm
    exact ⟨o, es, ep, k _ o (Ne.symm hL) ho, r⟩
  · refine (I.hok b u e).stay (fun c v hc q => k c v ?_ q) (fun _ q => q) fun _ _ q => q
    rcases hc with z | z
    · rw [z]; exact nit b u e
    · exact nit c _ z
theorem Inv.tok (I : Inv X pins σ H s) (t : Nat) : Inv X pins σ H { s with toks := t } := I.un (h' := s.heap) (t' := t) Un.refl I.hok
theorem Inv.kept {t' : Nat} (I : Inv X pins σ H s) (k : ∀ b u, s.heap.get? b = some u → h'.get? b = some u) : Inv X pins σ H { s with heap := h', toks := t' } := I.un (Un.kept k) (I.hok.kept k)
theorem Inv.laid {a : Addr} {o : HO} {t' : Nat} (I : Inv X pins σ H s) (k : ∀ b u, s.heap.get? b = some u → h'.get? b = some u) (hp : s.heap.objs.size ≤ a) (new : ObjOk X.prog X.w (upd H a o) h' a o) :
    Inv X pins σ (upd H a o) { s with heap := h', toks := t' } := I.un (Un.laid k hp (I.hok.fresh hp)) (I.hok.laid k hp new)
theorem Inv.write {x e : Addr} {o : HO} {t' : Nat} (I : Inv X pins σ H s) (mu : Mut (H x)) (he : e = x ∨ H e = some (.own x)) (k : ∀ b u, b ≠ e → s.heap.get? b = some u → h'.get? b = some u) (heo : ∃ u, h'.get? e = some u)
    (new : ObjOk X.prog X.w (upd H x o) h' x o) : Inv X pins σ (upd H x o) { s with heap := h', toks := t' } := I.un (Un.write mu he k heo) (I.hok.write mu he k heo new)
theorem Inv.pins_of {pins' : List (Addr × Obj)} (I : Inv X pins σ H s) (h : ∀ p ∈ pins', s.heap.get? p.1 = some p.2 ∧ H p.1 = none ∧ p.1 ≠ X.env.locals ∧ p.1 ∉ X.fs ∧ ∀ v, p.2.data ≠ .cell v) : Inv X pins' σ H s :=
  ⟨I.ok, I.os, I.bare, I.base, I.loc, I.cell, I.free, I.freeC, fun p hp => (List.mem_append.mp hp).elim (fun z => I.pin p (List.mem_append_left _ z)) (h p), I.hok, I.len⟩
theorem nodup_ix {N : List Str} (hN : N.Nodup) {i j : Nat} {x : Str} (a : N[i]? = some x) (b : N[j]? = some x) : i = j := by
  obtain ⟨h1, e1⟩ := List.getElem?_eq_some_iff.mp a
  obtain ⟨h2, e2⟩ := List.getElem?_eq_some_iff.mp b
  exact (List.getElem_inj hN).mp (e1.trans e2.symm)
theorem store_ok2 {M : Model} {A : Around} {E : Value → Shared → Prop} {i : Nat} {x : Str} {v : V} {u : Value} {Q : Unit → Shared → Prop} (I : Inv X pins σ H s) (hN : X.N.Nodup) (hi : X.N[i]? = some x) (hx : Loc X.env.scope x) (r : RelV v u)
    (h : ∀ s', Inv X pins (σ.set i (some v)) H s' → (∃ a, Heap.SameBut a s.heap s'.heap ∧ (a = X.env.locals ∨ X.env.cells.lookup x = some a)) → Q () s') (hf : X.fn x = true ∨ X.env.scope.names.lookup x = some .local := by first | exact .inl rfl | exact .inr rfl | assumption) : wpAny M A (storeName X.env x u) Q E s := by
  obtain ⟨m, hn, hl⟩ := id I.loc
  have hcls : (X.env.scope.kind == .class || (X.env.scope.kind == .module && X.env.locals != X.env.globals)) = false := by rw [I.ok.kind]; rfl
  have hiσ : i < σ.length := by rw [I.len]; exact (List.getElem?_eq_some_iff.mp hi).1
  have cne := I.cne
  have tracked : ∀ {a : Addr} {h' : Heap}, (∃ o, s.heap.get? a = some o ∧ H a = none) → Heap.SameBut a s.heap h' → HOk X.prog X.w H h' := fun {a h'} ha hs b ob e => by
    obtain ⟨_, _, hfree⟩ := ha
    refine (I.hok b ob e).stay (fun c w' hc q => (hs.2 c ?_).trans q) (fun _ q => q) fun _ _ q => q
    rintro rfl
    rcases hc with rfl | hc
    · rw [hfree] at e; cases e
    · rw [hfree] at hc; cases hc
  rcases hx with hk | hk
  · refine wpAny_storeName_local hk hn (fun h' hn' hs => ?_) hcls
    obtain ⟨oL, _, _, hoL, _⟩ := id hn
    refine h _ ⟨I.ok, I.os, I.bare, ⟨fun b o e n hb hx => ?_, fun b o e n hb hx => ?_, I.base.free, fun b o e hx => ?_, I.base.tups, I.base.frzs, I.base.tbls⟩, ⟨_, hn', fun j y v' e1 e2 e3 => ?_⟩, fun y c e => ?_, I.free, I.freeC, fun p hp => ?_, tracked ⟨oL, hoL, I.free⟩ hs, by simpa using I.len⟩ ⟨_, hs, .inl rfl⟩
    · exact (hs.2 b (Nat.ne_of_lt (Nat.lt_of_lt_of_le (Heap.lt_size e) I.ok.above))).trans (I.base.keep b o e n hb hx)
    · obtain ⟨sl, e1⟩ := I.base.slot b o e n hb hx
      exact ⟨sl, (hs.2 b (Nat.ne_of_lt (Nat.lt_of_lt_of_le (Heap.lt_size e) I.ok.above))).trans e1⟩
    · obtain ⟨o', e1⟩ := I.base.there b o e hx
      exact ⟨o', (hs.2 b (Nat.ne_of_lt (Nat.lt_of_lt_of_le (Heap.lt_size e) I.ok.above))).trans e1⟩
    · by_cases hj : j = i
      · subst hj
        rw [hi] at e1; cases e1
        rw [List.getElem?_set_self hiσ] at e2
        cases e2
        exact ⟨u, r, .inl ⟨hk, by simp⟩⟩
      · rw [List.getElem?_set_ne (Ne.symm hj)] at e2
        obtain ⟨u', r', q⟩ := hl j y v' e1 e2 e3
        refine ⟨u', r', ?_⟩
        rcases q with ⟨k, e⟩ | ⟨k, c, e, z⟩
        · refine .inl ⟨k, ?_⟩
          have : y ≠ x := fun e => hj (nodup_ix hN e1 (e ▸ hi))
          simp [this, e]
        · exact .inr ⟨k, c, e, z.sameBut hs (cne y c e)⟩
    · obtain ⟨w', z⟩ := I.cell y c e
      exact ⟨w', z.sameBut hs (cne y c e)⟩
    · obtain ⟨e, n, ne, nf, d⟩ := I.pin p hp
      exact ⟨(hs.2 p.1 ne).trans e, n, ne, nf, d⟩
  · have hfn : X.fn x = true := by
      rcases hf with z | z
      · exact z
      · rw [z] at hk; cases hk
    obtain ⟨c, hc⟩ := I.ok.has x (.inl hk)
    obtain ⟨w', z⟩ := I.cell x c hc
    refine wpAny_storeName_cell I.ok.kind hk hc z (fun h' hc' hs => ?_)
    obtain ⟨oc, hoc, hocd⟩ := id z
    refine h { s with heap := h' } ⟨I.ok, I.os, I.bare, ⟨fun b o e n hb hx => ?_, fun b o e n hb hx => ?_, I.base.free, fun b o e hx => ?_, I.base.tups, I.base.frzs, I.base.tbls⟩, ⟨m, hn.sameBut hs (Ne.symm (cne x c hc)), fun j y v' e1 e2 e3 => ?_⟩, fun y c' e => ?_, I.free, I.freeC, fun p hp => ?_, tracked ⟨oc, hoc, I.freeC x c hc⟩ hs, by simpa using I.len⟩ ⟨c, hs, .inr hc⟩
    · exact (hs.2 b (Nat.ne_of_lt (Nat.lt_of_lt_of_le (Heap.lt_size e) (I.ok.cab x c hfn hc)))).trans (I.base.keep b o e n hb hx)
    · obtain ⟨sl, e1⟩ := I.base.slot b o e n hb hx
      exact ⟨sl, (hs.2 b (Nat.ne_of_lt (Nat.lt_of_lt_of_le (Heap.lt_size e) (I.ok.cab x c hfn hc)))).trans e1⟩
    · obtain ⟨o', e1⟩ := I.base.there b o e hx
      exact ⟨o', (hs.2 b (Nat.ne_of_lt (Nat.lt_of_lt_of_le (Heap.lt_size e) (I.ok.cab x c hfn hc)))).trans e1⟩
    · by_cases hj : j = i
      · subst hj
        rw [hi] at e1; cases e1
        rw [List.getElem?_set_self hiσ] at e2
        cases e2
        exact ⟨u, r, .inr ⟨.inl hk, c, hc, hc'⟩⟩
      · rw [List.getElem?_set_ne (Ne.symm hj)] at e2
        obtain ⟨u', r', q⟩ := hl j y v' e1 e2 e3
        refine ⟨u', r', ?_⟩
        rcases q with q | ⟨k, c', e, z'⟩
        · exact .inl q
        · refine .inr ⟨k, c', e, z'.sameBut hs ?_⟩
          rintro rfl
          exact hj (nodup_ix hN e1 (I.ok.inj _ _ _ e hc ▸ hi))
    · by_cases hcc : c' = c
      · subst hcc; exact ⟨_, hc'⟩
      · obtain ⟨w2, z2⟩ := I.cell y c' e
        exact ⟨w2, z2.sameBut hs hcc⟩
    · obtain ⟨e, n, ne, nf, d⟩ := I.pin p hp
      refine ⟨(hs.2 p.1 ?_).trans e, n, ne, nf, d⟩
      intro q
      rw [q, hoc] at e
      have q' : oc = p.2 := Option.some.inj e
      exact d w' (by rw [← q']; exact hocd)
theorem store_ok {M : Model} {A : Around} {E : Value → Shared → Prop} {i : Nat} {x : Str} {v : V} {u : Value} {Q : Unit → Shared → Prop} (I : Inv X pins σ H s) (hN : X.N.Nodup) (hi : X.N[i]? = some x) (hx : Loc X.env.scope x) (r : RelV v u)
    (h : ∀ s', Inv X pins (σ.set i (some v)) H s' → Q () s') (hf : X.fn x = true ∨ X.env.scope.names.lookup x = some .local := by first | exact .inl rfl | exact .inr rfl | assumption) : wpAny M A (storeName X.env x u) Q E s :=
  store_ok2 I hN hi hx r (fun s' I' _ => h s' I') hf
theorem Inv.call' {s' : Shared} {ch : List Addr} (I : Inv X pins σ H s) (ho : s'.os = s.os) (u : Un (frs X.stack) ch H H' s.heap s'.heap) (hok : HOk X.prog X.w H' s'.heap) (hg : AllBare s'.gens)
    (hch : ∀ b ∈ ch, (b ∈ X.ex ∨ X.s₀.heap.objs.size ≤ b) ∧ b ≠ X.env.locals ∧ (∀ x c, X.env.cells.lookup x = some c → c ≠ b) ∧ ∀ p ∈ X.pn ++ pins, p.1 ≠ b) : Inv X pins σ H' s' := by
  obtain ⟨h', g', d', t', o'⟩ := s'
  have e : o' = s.os := ho
  subst e
  exact I.call (g' := g') (t' := t') (d' := d') u hok hg hch
end
abbrev XK := Value → Option Addr → Hp → Prop
abbrev St := List (Option V)
abbrev VK := V → Hp → Prop
abbrev TE := St → Hp → VK → Prop
abbrev TT := St → Hp → (Bool → Hp → Prop) → Prop
abbrev TA := St → Hp → (List V → Hp → Prop) → Prop
structure Ends where
  nx : St → Hp → Prop
  rt : VK
  bk : St → Hp → Prop := fun _ _ => False
  ct : St → Hp → Prop := fun _ _ => False
abbrev TS := Ends → St → Hp → Prop
def EP (X : Cx) (pins : List (Addr × Obj)) (σ : St) (Q : VK) (u : Value) (s' : Shared) : Prop := ∃ v H', Inv X pins σ H' s' ∧ RelV v u ∧ Q v H'
def TP (X : Cx) (pins : List (Addr × Obj)) (σ : St) (Q : Bool → Hp → Prop) (b : Bool) (s' : Shared) : Prop := ∃ H', Inv X pins σ H' s' ∧ Q b H'
def AP (X : Cx) (pins : List (Addr × Obj)) (σ : St) (Q : List V → Hp → Prop) (us : List Value) (s' : Shared) : Prop := ∃ vs H', Inv X pins σ H' s' ∧ Vals vs us ∧ Q vs H'
def SP (X : Cx) (pins : List (Addr × Obj)) (D : Ends) (f : Flow) (s' : Shared) : Prop :=
  match f with
  | .next => ∃ σ' H', Inv X pins σ' H' s' ∧ D.nx σ' H'
  | .brk => ∃ σ' H', Inv X pins σ' H' s' ∧ D.bk σ' H'
  | .cont => ∃ σ' H', Inv X pins σ' H' s' ∧ D.ct σ' H'
  | .ret u => ∃ v σ' H', Inv X pins σ' H' s' ∧ RelV v u ∧ D.rt v H'
def PE (X : Cx) (e : Expr) (t : TE) : Prop :=
  ∀ (pins : List (Addr × Obj)) (s : Shared) (σ : St) (H : Hp) (Q : VK), Inv X pins σ H s → t σ H Q → wpAny (model X.prog X.w) X.A (eval e X.env) (EP X pins σ Q) X.xe s
def PT (X : Cx) (e : Expr) (t : TT) : Prop :=
  ∀ (pins : List (Addr × Obj)) (s : Shared) (σ : St) (H : Hp) (Q : Bool → Hp → Prop), Inv X pins σ H s → t σ H Q → wpAny (model X.prog X.w) X.A (isTrue e X.env (eval e X.env)) (TP X pins σ Q) X.xe s
def PW (X : Cx) (e : Expr) (t : TT) : Prop :=
  ∀ (whole : Sem Value) (pins : List (Addr × Obj)) (s : Shared) (σ : St) (H : Hp) (Q : Bool → Hp → Prop), Inv X pins σ H s → t σ H Q → wpAny (model X.prog X.w) X.A (isTrue e X.env whole) (TP X pins σ Q) X.xe s
theorem PW.pt {X : Cx} {e : Expr} {t : TT} (h : PW X e t) : PT X e t := h _
def PA (X : Cx) (es : List Expr) (t : TA) : Prop :=
  ∀ (pos : Pos) (pins : List (Addr × Obj)) (s : Shared) (σ : St) (H : Hp) (Q : List V → Hp → Prop), Inv X pins σ H s → t σ H Q → wpAny (model X.prog X.w) X.A (spliced (backTo pos (starEach es X.env))) (AP X pins σ Q) X.xe s
def PS (X : Cx) (st : Stmt) (t : TS) : Prop :=
  ∀ (pins : List (Addr × Obj)) (s : Shared) (σ : St) (H : Hp) (D : Ends), Inv X pins σ H s → t D σ H → wpAny (model X.prog X.w) X.A (exec st X.env) (SP X pins D) X.xe s
def PSs (X : Cx) (st : List Stmt) (t : TS) : Prop :=
  ∀ (pins : List (Addr × Obj)) (s : Shared) (σ : St) (H : Hp) (D : Ends), Inv X pins σ H s → t D σ H → wpAny (model X.prog X.w) X.A (execs st X.env) (SP X pins D) X.xe s
theorem thn {α : Type} {t : Sem α} {Q Q' : α → Shared → Prop} {M : Model} {A : Around} {E : Value → Shared → Prop} {s : Shared} (h : wpAny M A t Q E s) (hQ : ∀ a s, Q a s → Q' a s) : wpAny M A t Q' E s := wpAny_mono h hQ fun _ _ x => x
end L2
namespace L2
open PySem PySem.Spec PyProof.Rows
section
variable {X : Cx}
def tVar (i : Nat) : TE := fun σ H Q => ∃ v, σ[i]? = some (some v) ∧ Q v H
def tC (v : V) : TE := fun _ H Q => Q v H
theorem pe_var {i : Nat} {x : Str} {pos : Pos} (hN : X.N[i]? = some x) (hv : Vis X.env.scope x) (hd : (x == ("__debug__" : Str)) = false := by decide) (hcd : (x == ("__classdict__" : Str)) = false := by decide) : PE X (.Name x pos) (tVar i) := by
  intro pins s σ H Q I h
  obtain ⟨v, e, h⟩ := h
  obtain ⟨m, hn, hl⟩ := I.loc
  obtain ⟨u, r, l⟩ := hl i x v hN e hv
  have fin : EP X pins σ Q u s := ⟨v, H, I, r, h⟩
  rcases l with ⟨hk, hm⟩ | ⟨hk, c, hc, hcell⟩
  · exact wpAny_Name (wpAny_loadName_local I.ok.kind hk hn hm fin) hd
  · rcases hk with hk | hk
    · exact wpAny_Name (wpAny_loadName_cell I.ok.kind hk hc hcell fin) hd
    · exact wpAny_Name (wpAny_loadName_free I.ok.kind hk hc hcell fin hcd) hd
theorem pe_int {i j pos} : PE X (.Constant (.int i) j pos) (tC (.int i)) := fun _ _ _ H _ I h => wpAny_Constant_int ⟨.int i, H, I.tok _, ⟨_, rfl⟩, h⟩
theorem pe_bl {b j pos} : PE X (.Constant (.bool b) j pos) (tC (.bl b)) := fun _ _ _ H _ I h => Constant_bool ⟨.bl b, H, I, rfl, h⟩
theorem pe_non {j pos} : PE X (.Constant .none j pos) (tC .non) := fun _ _ _ H _ I h => Constant_none ⟨.non, H, I, rfl, h⟩
theorem pe_str {x j pos} : PE X (.Constant (.str x) j pos) (tC (.str x)) := fun _ _ _ H _ I h => Calls.Constant_str ⟨.str x, H, I.tok _, ⟨_, rfl⟩, h⟩
def Gl (X : Cx) (x : Str) : Prop := X.env.kindOf x = some .globalImplicit
theorem ld_glob {E : Value → Shared → Prop} {pins : List (Addr × Obj)} {s : Shared} {σ : St} {H : Hp} {x : Str} {u : Value} {pos : Pos} {Q : Value → Shared → Prop} (I : Inv X pins σ H s) (hg : Gl X x) (hm : X.mg x = some u) (h : Q u s)
    (hd : (x == ("__debug__" : Str)) = false := by decide) : wpAny (model X.prog X.w) X.A (eval (.Name x pos) X.env) Q E s :=
  Calls.Name_function_global I.ok.kind hg (Calls.loadGlobal_global (by rw [I.ok.glob]; exact I.mod.glob.keeps I.bk) hm h) hd
theorem ld_blt {E : Value → Shared → Prop} {pins : List (Addr × Obj)} {s : Shared} {σ : St} {H : Hp} {x : Str} {u : Value} {pos : Pos} {Q : Value → Shared → Prop} (I : Inv X pins σ H s) (hg : Gl X x) (hm : X.mg x = none) (hv : bootBuiltins x = some u) (h : Q u s)
    (hn : x ≠ "__name__" := by decide) (hd : (x == ("__debug__" : Str)) = false := by decide) : wpAny (model X.prog X.w) X.A (eval (.Name x pos) X.env) Q E s := by
  obtain ⟨mb, h1, h2⟩ := I.mod.blt
  exact Calls.Name_function_global I.ok.kind hg (Calls.loadGlobal_builtin (by rw [I.ok.glob]; exact I.mod.glob.keeps I.bk) hm (by rw [I.ok.blt]; exact h1.keeps I.bk) ((h2 x hn).trans hv) h) hd
theorem pe_glob {x : Str} {v : V} {u : Value} {pos : Pos} (hg : Gl X x) (hm : X.mg x = some u) (r : RelV v u) (hd : (x == ("__debug__" : Str)) = false := by decide) : PE X (.Name x pos) (tC v) :=
  fun _ _ _ H _ I h => ld_glob I hg hm ⟨v, H, I, r, h⟩ hd
theorem pe_bltn {x : Str} {v : V} {u : Value} {pos : Pos} (hg : Gl X x) (hm : X.mg x = none) (hv : bootBuiltins x = some u) (r : RelV v u) (hn : x ≠ "__name__" := by decide) (hd : (x == ("__debug__" : Str)) = false := by decide) : PE X (.Name x pos) (tC v) :=
  fun _ _ _ H _ I h => ld_blt I hg hm hv ⟨v, H, I, r, h⟩ hn hd
variable {a b : Expr} {ta tb : TE} {pos : Pos}
def tB (t : TE) : TT := fun σ H Q => t σ H fun x H1 => ∃ c, x = .bl c ∧ Q c H1
theorem pt_val {e : Expr} {t : TE} (h : PE X e t) (he : ∀ whole, isTrue e X.env whole = (do let v ← whole; standAt e.pos; holding [v] (truthy v)) := by intro _; rfl) : PT X e (tB t) := by
  intro pins s σ H Q I hw
  refine isTrue_plain (thn (h pins s σ H _ I hw) fun v s1 ⟨x, H1, I1, r1, q1⟩ => ?_) (he _)
  obtain ⟨d, rfl, q⟩ := q1
  cases r1
  exact wpAny_truthy_bool ⟨H1, I1, q⟩
variable {tA tB' : TT} {rest : List Expr}
def tAnd (t u : TT) : TT := fun σ H Q => t σ H fun c H1 => if c = true then u σ H1 Q else Q false H1
def tOr (t u : TT) : TT := fun σ H Q => t σ H fun c H1 => if c = true then Q true H1 else u σ H1 Q
def tNot (t : TT) : TT := fun σ H Q => t σ H fun c H1 => Q (!c) H1
theorem pw_and1 (ha : PT X a tA) : PW X (.BoolOp .And [a] pos) tA := by
  intro wh pins s σ H Q I h
  refine isTrue_and (thn (ha pins s σ H Q I h) fun c s1 e => ?_)
  cases c with
  | true => exact isTrue_and_nil e
  | false => exact e
theorem pw_or1 (ha : PT X a tA) : PW X (.BoolOp .Or [a] pos) tA := by
  intro wh pins s σ H Q I h
  refine isTrue_or (thn (ha pins s σ H Q I h) fun c s1 e => ?_)
  cases c with
  | false => exact isTrue_or_nil e
  | true => exact e
theorem pw_and (ha : PT X a tA) (hb : PW X (.BoolOp .And (b :: rest) pos) tB') : PW X (.BoolOp .And (a :: b :: rest) pos) (tAnd tA tB') := by
  intro wh pins s σ H Q I h
  refine isTrue_and (thn (ha pins s σ H _ I h) fun c s1 ⟨H1, I1, q1⟩ => ?_)
  cases c with
  | true => exact hb wh pins s1 σ H1 Q I1 q1
  | false => exact ⟨H1, I1, q1⟩
theorem pw_or (ha : PT X a tA) (hb : PW X (.BoolOp .Or (b :: rest) pos) tB') : PW X (.BoolOp .Or (a :: b :: rest) pos) (tOr tA tB') := by
  intro wh pins s σ H Q I h
  refine isTrue_or (thn (ha pins s σ H _ I h) fun c s1 ⟨H1, I1, q1⟩ => ?_)
  cases c with
  | true => exact ⟨H1, I1, q1⟩
  | false => exact hb wh pins s1 σ H1 Q I1 q1
theorem pt_not (ha : PT X a tA) : PT X (.UnaryOp .Not a pos) (tNot tA) := by
  intro pins s σ H Q I h
  exact isTrue_not (ha pins s σ H (fun c H1 => Q (!c) H1) I h)
def tAndV (ta tb : TE) : TE := fun σ H Q => ta σ H fun x H1 => ∃ c, x = .bl c ∧ if c = true then tb σ H1 Q else Q (.bl false) H1
def tNotV (ta : TE) : TE := fun σ H Q => ta σ H fun x H1 => ∃ c, x = .bl c ∧ Q (.bl (!c)) H1
theorem pe_one {op} {t : TE} (h : PE X a t) : PE X (.BoolOp op [a] pos) t := fun pins s σ H Q I hw => BoolOp_one (h pins s σ H Q I hw)
theorem pe_and (ha : PE X a ta) (hb : PE X (.BoolOp .And (b :: rest) pos) tb) : PE X (.BoolOp .And (a :: b :: rest) pos) (tAndV ta tb) := by
  intro pins s σ H Q I h
  refine BoolOp_and (thn (ha pins s σ H _ I h) fun v s1 ⟨x, H1, I1, r1, q1⟩ => ?_)
  obtain ⟨c, rfl, q1⟩ := q1
  cases r1
  refine wpAny_truthy_bool ?_
  cases c with
  | true => exact hb pins s1 σ H1 Q I1 q1
  | false => exact ⟨.bl false, H1, I1, rfl, q1⟩
theorem pe_not (ha : PE X a ta) : PE X (.UnaryOp .Not a pos) (tNotV ta) := by
  intro pins s σ H Q I h
  refine UnaryOp_ (thn (ha pins s σ H _ I h) fun v s1 ⟨x, H1, I1, r1, q1⟩ => ?_)
  obtain ⟨c, rfl, q1⟩ := q1
  cases r1
  exact not_of (wpAny_truthy_bool ⟨.bl (!c), H1, I1, rfl, q1⟩)
end
end L2
namespace L2
open PySem PySem.Spec PyProof.Rows
def SqL (K : PySem.W.Frag) (H : Hp) (a : Addr) (xs : List V) : Prop :=
  Rd H a (.lst xs) ∨
    ∃ (o : Obj) (its : Array Value) (n : Nat), K.lookup a = some o ∧ o.cls = .type "list" ∧ o.dict = none ∧ o.data = .seq its n ∧ its.size ≤ sizeLine ∧ Vals xs its.toList
def SqT (K : PySem.W.Frag) (H : Hp) (a : Addr) (xs : List V) : Prop :=
  Rd H a (.tup xs) ∨
    ∃ (o : Obj) (its : Array Value) (n : Nat), K.lookup a = some o ∧ o.cls = .type "tuple" ∧ o.data = .seq its n ∧ its.size ≤ sizeLine ∧ Vals xs its.toList
def absV : Value → Option V
  | .none => some .non
  | .bool b => some (.bl b)
  | .int i _ => some (.int i)
  | .str x _ => some (.str x)
  | .bytes b _ => some (.byt b)
  | .float b _ => some (.flt b)
  | .ref a => some (.ref a)
  | .type n => some (.ty n)
  | _ => none
theorem RelV.abs {x : V} {u : Value} (r : RelV x u) : absV u = some x := by
  cases x with
  | non => cases r; rfl
  | bl _ => cases r; rfl
  | int _ => obtain ⟨t, rfl⟩ := r; rfl
  | str _ => obtain ⟨t, rfl⟩ := r; rfl
  | byt _ => obtain ⟨t, rfl⟩ := r; rfl
  | flt _ => obtain ⟨t, rfl⟩ := r; rfl
  | ref _ => cases r; rfl
  | ty _ => cases r; rfl
theorem RelV.inj {x y : V} {u : Value} (r : RelV x u) (q : RelV y u) : x = y := Option.some.inj (r.abs.symm.trans q.abs)
theorem Vals.inj : ∀ {xs ys : List V} {us : List Value}, Vals xs us → Vals ys us → xs = ys
  | _, _, _, .nil, .nil => rfl
  | _, _, _, .cons r t, .cons r' t' => by rw [r.inj r', Vals.inj t t']
section
variable {X : Cx} {pins : List (Addr × Obj)} {σ : St} {H : Hp} {s : Shared} {a : Addr} {xs ys : List V}
theorem SqL.of {K : PySem.W.Frag} (h : H a = some (.lst xs)) : SqL K H a xs := .inl (.inl h)
theorem SqT.of {K : PySem.W.Frag} (h : H a = some (.tup xs)) : SqT K H a xs := .inl (.inl h)
theorem Inv.list (I : Inv X pins σ H s) (h : SqL X.K H a xs) : ∃ its : List Value, Vals xs its ∧ PlainL s.heap a its.toArray ∧ xs.length ≤ sizeLine := by
  rcases h with h | ⟨o, its, n, hk, hc, hd, hs, hz, r⟩
  · obtain ⟨z, its, n, r, e⟩ := h.ok I.hok
    exact ⟨its, r, ⟨_, n, e, rfl, rfl, rfl⟩, z⟩
  · refine ⟨its.toList, r, ⟨o, n, I.kIn a o hk, hc, hd, by simpa using hs⟩, ?_⟩
    have e := r.length
    simp only [Array.length_toList] at e
    omega
theorem Inv.tuple (I : Inv X pins σ H s) (h : SqT X.K H a xs) : ∃ its : List Value, Vals xs its ∧ IsTup s.heap a its.toArray ∧ xs.length ≤ sizeLine := by
  rcases h with h | ⟨o, its, n, hk, hc, hs, hz, r⟩
  · obtain ⟨z, its, r, p⟩ := h.ok I.hok
    exact ⟨its, r, p, z⟩
  · refine ⟨its.toList, r, ⟨o, I.kIn a o hk, hc, n, by simpa using hs⟩, ?_⟩
    have e := r.length
    simp only [Array.length_toList] at e
    omega
theorem Inv.list_inj (I : Inv X pins σ H s) (h : SqL X.K H a xs) (h' : SqL X.K H a ys) : xs = ys := by
  obtain ⟨its, r, ⟨o, n, e, _, _, d⟩, _⟩ := I.list h
  obtain ⟨its', r', ⟨o', n', e', _, _, d'⟩, _⟩ := I.list h'
  rw [e] at e'; cases e'
  rw [d] at d'
  injection d' with d1 _
  have : its = its' := by simpa using congrArg Array.toList d1
  subst this
  exact r.inj r'
end
abbrev Cx.wish (X : Cx) (E : Value → Shared → Prop) : Cx := { X with xe := E }
abbrev Cx.nox (X : Cx) : Cx := X.wish fun _ _ => False
theorem Cx.Ok.wish {X : Cx} (ok : X.Ok) (E : Value → Shared → Prop) : (X.wish E).Ok :=
  ⟨ok.mod, ok.kind, ok.glob, ok.blt, ok.above, ok.inj, ok.has, ok.cab, ok.hd, ok.frames, ok.stk, ok.exf, ok.bs, ok.bsz, ok.noex, ok.exfs, ok.funs, ok.frf⟩
theorem Cx.Ok.unwish {X : Cx} {E : Value → Shared → Prop} (ok : (X.wish E).Ok) : X.Ok :=
  ⟨ok.mod, ok.kind, ok.glob, ok.blt, ok.above, ok.inj, ok.has, ok.cab, ok.hd, ok.frames, ok.stk, ok.exf, ok.bs, ok.bsz, ok.noex, ok.exfs, ok.funs, ok.frf⟩
section
variable {X : Cx} {pins : List (Addr × Obj)} {σ : St} {H : Hp} {s : Shared} {E : Value → Shared → Prop}
theorem Inv.wish (I : Inv X pins σ H s) (E : Value → Shared → Prop) : Inv (X.wish E) pins σ H s := ⟨I.ok.wish E, I.os, I.bare, I.base, I.loc, I.cell, I.free, I.freeC, I.pin, I.hok, I.len⟩
theorem Inv.unwish (I : Inv (X.wish E) pins σ H s) : Inv X pins σ H s := ⟨I.ok.unwish, I.os, I.bare, I.base, I.loc, I.cell, I.free, I.freeC, I.pin, I.hok, I.len⟩
theorem SP.unwish {D : Ends} {f : Flow} {s' : Shared} (h : SP (X.wish E) pins D f s') : SP X pins D f s' := by
  cases f with
  | next => obtain ⟨σ', H', I, q⟩ := h; exact ⟨σ', H', I.unwish, q⟩
  | brk => obtain ⟨σ', H', I, q⟩ := h; exact ⟨σ', H', I.unwish, q⟩
  | cont => obtain ⟨σ', H', I, q⟩ := h; exact ⟨σ', H', I.unwish, q⟩
  | ret u => obtain ⟨v, σ', H', I, r, q⟩ := h; exact ⟨v, σ', H', I.unwish, r, q⟩
theorem PSs.nox {st : List Stmt} {t : TS} (h : PSs X.nox st t) : PSs X st t := fun pins s σ H D I hw =>
  wpAny_mono (h pins s σ H D (I.wish _) hw) (fun _ _ q => q.unwish) fun _ _ z => False.elim z
end
section
variable {X : Cx} {st : Stmt} {rest : List Stmt} {t u : TS} {e : Expr} {te : TE} {pos : Pos}
def tNext : TS := fun D σ H => D.nx σ H
def tSeq (t u : TS) : TS := fun D σ H => t { D with nx := u D } σ H
theorem pss_nil : PSs X [] tNext := fun _ _ σ H _ I h => wpAny_execs_nil ⟨σ, H, I, h⟩
theorem pss_cons (h1 : PS X st t) (h2 : PSs X rest u) : PSs X (st :: rest) (tSeq t u) := by
  intro pins s σ H D I h
  refine wpAny_execs_cons (thn (h1 pins s σ H { D with nx := u D } I h) fun f s1 q => ?_)
  cases f with
  | next =>
    obtain ⟨σ', H', I', q⟩ := q
    exact h2 pins s1 σ' H' D I' q
  | ret v => exact q
  | brk => exact q
  | cont => exact q
theorem pss_one (h1 : PS X st t) : PSs X [st] t := by
  intro pins s σ H D I h
  refine wpAny_execs_cons (thn (h1 pins s σ H D I h) fun f s1 q => ?_)
  cases f with
  | next => exact wpAny_execs_nil q
  | ret v => exact q
  | brk => exact q
  | cont => exact q
theorem Inv.quiet {pins : List (Addr × Obj)} {σ : St} {H : Hp} {s : Shared} (I : Inv X pins σ H s) : interactive X.env = false := by simp [interactive, I.ok.kind]
def tDrop (te : TE) : TS := fun D σ H => te σ H fun _ H1 => D.nx σ H1
theorem ps_expr (he : PE X e te) (hs : swapsWith e none pos.line X.env = pure false := by rfl) : PS X (.Expr e pos) (tDrop te) := by
  intro pins s σ H D I h
  exact wpAny_Expr_any (thn (he pins s σ H _ I h) fun v s1 ⟨x, H1, I1, r1, q1⟩ => ⟨σ, H1, I1, q1⟩) I.quiet hs
def tRet (te : TE) : TS := fun D σ H => te σ H D.rt
theorem ps_ret (he : PE X e te) : PS X (.Return (some e) pos) (tRet te) := by
  intro pins s σ H D I h
  exact wpAny_Return_some (thn (he pins s σ H _ I h) fun v s1 ⟨x, H1, I1, r1, q1⟩ => ⟨x, σ, H1, I1, r1, q1⟩)
def tIfS (c : TT) (t u : TS) : TS := fun D σ H => c σ H fun b H1 => if b = true then t D σ H1 else u D σ H1
theorem ps_if {c : Expr} {a b : List Stmt} {tc : TT} (hc : PT X c tc) (ha : PSs X a t) (hb : PSs X b u) : PS X (.If c a b pos) (tIfS tc t u) := by
  intro pins s σ H D I h
  refine wpAny_If (thn (hc pins s σ H _ I h) fun d s1 ⟨H1, I1, q1⟩ => ?_)
  cases d with
  | true => exact ha pins s1 σ H1 D I1 q1
  | false => exact hb pins s1 σ H1 D I1 q1
end
abbrev TG := V → St → Hp → (St → Hp → Prop) → Prop
abbrev TGs := List V → St → Hp → (St → Hp → Prop) → Prop
def PG (X : Cx) (target : Expr) (t : TG) : Prop :=
  ∀ (pins : List (Addr × Obj)) (s : Shared) (σ : St) (H : Hp) (v : V) (u : Value) (Q : St → Hp → Prop), Inv X pins σ H s → RelV v u → t v σ H Q →
    wpAny (model X.prog X.w) X.A (assign target X.env u) (fun _ s' => ∃ σ' H', Inv X pins σ' H' s' ∧ Q σ' H') X.xe s
def PGs (X : Cx) (ts : List Expr) (t : TGs) : Prop :=
  ∀ (pins : List (Addr × Obj)) (s : Shared) (σ : St) (H : Hp) (vs : List V) (us : List Value) (Q : St → Hp → Prop), Inv X pins σ H s → Vals vs us → t vs σ H Q →
    wpAny (model X.prog X.w) X.A (assignInOrder ((assignEach ts X.env).map (·.2)) us) (fun _ s' => ∃ σ' H', Inv X pins σ' H' s' ∧ Q σ' H') X.xe s
abbrev TSet := V → V → V → Hp → (Hp → Prop) → Prop
def PSet (X : Cx) (t : TSet) : Prop :=
  ∀ (pins : List (Addr × Obj)) (s : Shared) (σ : St) (H : Hp) (o i v : V) (ov iv u : Value) (Q : Hp → Prop), Inv X pins σ H s → RelV o ov → RelV i iv → RelV v u → t o i v H Q →
    wpAny (model X.prog X.w) X.A (setItem ov iv u) (fun _ s' => ∃ H', Inv X pins σ H' s' ∧ Q H') X.xe s
section
variable {X : Cx} {pos : Pos}
def gName (i : Nat) : TG := fun v σ H Q => Q (σ.set i (some v)) H
theorem pg_name {i : Nat} {x : Str} (hN : X.N.Nodup) (hi : X.N[i]? = some x) (hx : Loc X.env.scope x) (hf : X.fn x = true ∨ X.env.scope.names.lookup x = some .local := by first | exact .inl rfl | exact .inr rfl | assumption) : PG X (.Name x pos) (gName i) := by
  intro pins s σ H v u Q I r h
  exact wpAny_assign_Name (store_ok I hN hi hx r (fun s' I' => ⟨_, H, I', h⟩) hf)
def gNil : TGs := fun vs σ H Q => vs = [] ∧ Q σ H
def gCons (t : TG) (u : TGs) : TGs := fun vs σ H Q => ∃ v r, vs = v :: r ∧ t v σ H fun σ' H' => u r σ' H' Q
theorem pgs_nil : PGs X [] gNil := by
  intro pins s σ H vs us Q I r h
  obtain ⟨e, h⟩ := h
  subst e
  cases r
  exact assignInOrder_nil ⟨σ, H, I, h⟩
theorem pgs_cons {e : Expr} {es : List Expr} {t : TG} {u : TGs} (h1 : PG X e t) (h2 : PGs X es u)
    (hs : (assignEach (e :: es) X.env).map (·.2) = assign e X.env :: (assignEach es X.env).map (·.2) := by rfl) : PGs X (e :: es) (gCons t u) := by
  intro pins s σ H vs us Q I r h
  obtain ⟨v, vr, e1, h⟩ := h
  subst e1
  cases r with
  | cons r rr =>
    rw [hs]
    refine assignInOrder_cons (thn (h1 pins s σ H _ _ _ I r h) fun _ s1 ⟨σ1, H1, I1, q1⟩ => ?_)
    exact h2 pins s1 σ1 H1 _ _ Q I1 rr q1
def gTup (K : PySem.W.Frag) (n : Nat) (t : TGs) : TG := fun v σ H Q => ∃ a xs, v = .ref a ∧ SqT K H a xs ∧ xs.length = n ∧ t xs σ H Q
theorem pg_tup {es : List Expr} {k : Nat} {t : TGs} {n : Nat} (hc : X.calm = true) (h : PGs X es t)
    (hn : (assignEach es X.env).length = n := by rfl) (hst : (assignEach es X.env).findIdx? (·.1) = none := by rfl) : PG X (.Tuple es k pos) (gTup X.K n t) := by
  intro pins s σ H v u Q I r hw
  obtain ⟨a, xs, e1, hq, hl, hw⟩ := hw
  subst e1
  cases r
  obtain ⟨its, rv, ht, hz⟩ := I.tuple hq
  refine assign_Tuple_tuple (I.ok.hd hc) ht (by simp [hn, ← hl, rv.length]) hst fun h' hx => ?_
  have I1 : Inv X pins σ H { s with heap := h' } := I.kept (t' := s.toks) fun b o e => hx b o (Nat.ne_of_lt (Heap.lt_size e)) e
  exact h pins _ σ H xs _ Q I1 (by simpa using rv) hw
def gSub (to ti : TE) (t : TSet) : TG := fun v σ H Q => to σ H fun o H1 => ti σ H1 fun i H2 => t o i v H2 fun H3 => Q σ H3
theorem pg_sub {o i : Expr} {to ti : TE} {t : TSet} (ho : PE X o to) (hi : PE X i ti) (hs : PSet X t)
    (ha : ∀ v, assign (.Subscript o i pos) X.env v = (do
      let ov ← holding [v] (eval o X.env)
      let iv ← holding [v, ov] (eval i X.env)
      standAt pos
      holding [v, ov, iv] (setItem ov iv v)
      release [v, ov, iv] []) := by intro _; rfl) : PG X (.Subscript o i pos) (gSub to ti t) := by
  intro pins s σ H v u Q I r h
  rw [ha]
  refine wpAny_bind (wpAny_holding (thn (ho pins s σ H _ I h) fun ov s1 ⟨x, H1, I1, r1, q1⟩ => ?_))
  refine wpAny_bind (wpAny_holding (thn (hi pins s1 σ H1 _ I1 q1) fun iv s2 ⟨y, H2, I2, r2, q2⟩ => ?_))
  refine wpAny_bind (wpAny_standAt (wpAny_bind (wpAny_holding (thn (hs pins s2 σ H2 x y v ov iv u _ I2 r1 r2 r q2) fun _ s3 ⟨H3, I3, q3⟩ => ?_))))
  exact wpAny_release ⟨σ, H3, I3, q3⟩
def tAsg (te : TE) (g : TG) : TS := fun D σ H => te σ H fun x H1 => g x σ H1 D.nx
theorem ps_asg {tg e : Expr} {te : TE} {g : TG} (he : PE X e te) (hg : PG X tg g) (hs : swapsWithSole [tg] e pos.line X.env = pure false := by rfl) (hw : swappedStores [tg] e X.env = pure none := by rfl)
    (h1 : (assignEach [tg] X.env).map (·.2) = [assign tg X.env] := by rfl) : PS X (.Assign [tg] e pos) (tAsg te g) := by
  intro pins s σ H D I h
  refine wpAny_Assign_stores (thn (he pins s σ H _ I h) fun v s1 ⟨x, H1, I1, r1, q1⟩ => ?_) hs hw
  rw [h1]
  exact thn (hg pins s1 σ H1 x v _ I1 r1 q1) fun _ s2 q => q
theorem ps_set {i : Nat} {x : Str} {e : Expr} {te : TE} {pos' : Pos} (hN : X.N.Nodup) (hi : X.N[i]? = some x) (hx : Loc X.env.scope x) (he : PE X e te) (hs : swapsWith e (some (.Name x pos')) pos.line X.env = pure false := by rfl) (hf : X.fn x = true ∨ X.env.scope.names.lookup x = some .local := by first | exact .inl rfl | exact .inr rfl | assumption) :
    PS X (.Assign [.Name x pos'] e pos) (tAsg te (gName i)) := by
  intro pins s σ H D I h
  refine wpAny_Assign_Name (thn (he pins s σ H _ I h) fun v s1 ⟨y, H1, I1, r1, q1⟩ => ?_) hs
  exact store_ok I1 hN hi hx r1 (fun s2 I2 => ⟨_, H1, I2, q1⟩) hf
def tPar (i j : Nat) (ta : TA) : TS := fun D σ H => ta σ H fun vs H1 => ∃ v w, vs = [v, w] ∧ D.nx ((σ.set i (some v)).set j (some w)) H1
theorem ps_par {i j : Nat} {x y : Str} {a b : Expr} {ta : TA} {px py pt : Pos} {kt k2 pt2} (hc : X.calm = true) (hN : X.N.Nodup) (hi : X.N[i]? = some x) (hj : X.N[j]? = some y) (hij : i ≠ j)
    (hx : X.env.scope.names.lookup x = some .local) (hy : X.env.scope.names.lookup y = some .local) (ha : PA X [a, b] ta)
    (hw : swappedStores [.Tuple [.Name x px, .Name y py] kt pt] (.Tuple [a, b] k2 pt2) X.env = pure (some [x, y]))
    (hs : swapsWithSole [.Tuple [.Name x px, .Name y py] kt pt] (.Tuple [a, b] k2 pt2) pos.line X.env = pure false := by rfl) :
    PS X (.Assign [.Tuple [.Name x px, .Name y py] kt pt] (.Tuple [a, b] k2 pt2) pos) (tPar i j ta) := by
  intro pins s σ H D I h
  rw [exec_Assign_arm]
  refine wpAny_bind (wpAny_standAt ?_)
  rw [hs]
  refine wpAny_bind (wpAny_pure ?_)
  rw [if_neg (by decide)]
  refine wpAny_bind (Tuple_ (thn (ha _ pins s σ H _ I h) fun us s1 ⟨vs, H1, I1, r1, q1⟩ => ?_))
  obtain ⟨v, w, e1, q1⟩ := q1
  subst e1
  obtain ⟨u1, u2, rfl, rv, rw'⟩ : ∃ u1 u2, us = [u1, u2] ∧ RelV v u1 ∧ RelV w u2 := by
    cases r1 with
    | cons p q =>
      cases q with
      | cons p' q' =>
        cases q'
        exact ⟨_, _, rfl, p, p'⟩
  refine wpAny_newObj_type ?_ (by show 2 ≤ sizeLine; decide)
  have I2 : Inv X pins σ H1 { s1 with heap := s1.heap.push { cls := .type "tuple", data := .seq [u1, u2].toArray } } := I1.kept (t' := s1.toks) fun b o e => Heap.get?_push_of_some _ e
  rw [hw]
  refine wpAny_bind (wpAny_pure ?_)
  show wpAny (model X.prog X.w) X.A (do rule "assign.swapped-stores"; let items ← unpackItems (.ref s1.heap.objs.size) 2 none; assignInOrder [fun v => bindName X.env y v, fun v => bindName X.env x v] items.reverse; pure Flow.next) _ _ _
  refine wpAny_bind (wpAny_rule (wpAny_bind (unpackItems_tuple (items := #[u1, u2]) (I.ok.hd hc) (IsTup.new s1.heap _) fun h' hx' => ?_)))
  have I3 := I2.kept (h' := h') (t' := s1.toks) fun b o e => hx' b o (Nat.ne_of_lt (Heap.lt_size e)) e
  show wpAny _ _ (assignInOrder [fun v => bindName X.env y v, fun v => bindName X.env x v] [u2, u1] >>= fun _ => pure Flow.next) _ _ _
  refine wpAny_bind (assignInOrder_cons (wpAny_bindName (store_ok I3 hN hj (.inl hy) rw' (fun s2 I4 => ?_) (.inr hy))))
  refine assignInOrder_cons (wpAny_bindName (store_ok I4 hN hi (.inl hx) rv (fun s3 I5 => assignInOrder_nil (wpAny_pure ?_)) (.inr hx)))
  rw [List.set_comm _ _ (Ne.symm hij)] at I5
  exact ⟨_, H1, I5, q1⟩
end
section
variable {X : Cx} {pos : Pos}
def tWhile (c : TT) (tb : TS) : TS := fun D σ H => ∃ W : Nat → St → Hp → Prop, (∃ m, W m σ H) ∧ ∀ m σ H, W m σ H →
  c σ H fun b H1 => if b = true then ∃ N : St → Hp → Prop, (∀ σ' H', N σ' H' → ∃ m', m' < m ∧ W m' σ' H') ∧ tb { D with nx := N, ct := N, bk := D.nx } σ H1 else D.nx σ H1
theorem ps_while {c : Expr} {body : List Stmt} {tc : TT} {tb : TS} (hp : PassesOwn (model X.prog X.w) X.A X.env X.xe) (hc : PT X c tc) (hb : PSs X body tb) : PS X (.While c body [] pos) (tWhile tc tb) := by
  intro pins s σ H D I h
  obtain ⟨W, ⟨m0, w0⟩, turn⟩ := h
  refine wpAny_While (codeAny_whileLoop (fun n s' => ∃ σ' H', Inv X pins σ' H' s' ∧ W n σ' H') ?_ m0 ⟨σ, H, I, w0⟩)
  rintro n s1 ⟨σ1, H1, I1, w1⟩
  refine wpAny_passesOwn hp (thn (hc pins s1 σ1 H1 _ I1 (turn n σ1 H1 w1)) fun b s2 ⟨H2, I2, q2⟩ => ?_)
  cases b with
  | true =>
    obtain ⟨N, hN, q2⟩ := q2
    rw [if_pos rfl]
    refine wpAny_passesOwn hp (thn (hb pins s2 σ1 H2 _ I2 q2) fun f s3 q3 => ?_)
    cases f with
    | next =>
      obtain ⟨σ3, H3, I3, n3⟩ := q3
      obtain ⟨m', hm, w3⟩ := hN σ3 H3 n3
      exact ⟨m', hm, σ3, H3, I3, w3⟩
    | cont =>
      obtain ⟨σ3, H3, I3, n3⟩ := q3
      obtain ⟨m', hm, w3⟩ := hN σ3 H3 n3
      exact ⟨m', hm, σ3, H3, I3, w3⟩
    | brk => exact q3
    | ret v => exact q3
  | false =>
    rw [if_neg Bool.false_ne_true]
    exact wpAny_execs_nil ⟨σ1, H2, I2, q2⟩
end
structure It where
  go : Nat → Hp → Prop
  yld : Nat → Hp → V → Hp → Prop
  stop : Nat → Hp → Prop
def FpOk (X : Cx) (pins : List (Addr × Obj)) (H : Hp) (b : Addr) : Prop :=
  H b = none ∧ b ≠ X.env.locals ∧ b ∉ X.fs ∧ (b ∈ X.ex ∨ X.s₀.heap.objs.size ≤ b) ∧ (∀ x c, X.env.cells.lookup x = some c → c ≠ b) ∧ ∀ p ∈ X.pn ++ pins, p.1 ≠ b
theorem Inv.fpOk {X : Cx} {pins : List (Addr × Obj)} {σ : St} {H H' : Hp} {s : Shared} {b : Addr} (I : Inv X pins σ H s) (hb : s.heap.objs.size ≤ b) (hn : H' b = none) : FpOk X pins H' b := by
  refine ⟨hn, Nat.ne_of_gt (Nat.lt_of_lt_of_le I.lt hb), I.nofs hb, .inr (Nat.le_trans I.sz hb), fun x c e z => ?_, fun p hp z => ?_⟩
  · obtain ⟨v, q⟩ := I.cell x c e
    exact absurd (Nat.lt_of_lt_of_le q.lt (by rw [z]; exact hb)) (Nat.lt_irrefl _)
  · exact absurd (Nat.lt_of_lt_of_le (Heap.lt_size (I.pin p hp).1) (by rw [z]; exact hb)) (Nat.lt_irrefl _)
structure Turn (P : Program) (w : World) (K : PySem.W.Frag) (tg : Expr) (J : It) (fp : List Addr) (it : Addr) (tn : Nat → Heap → Prop) : Prop where
  mem : it ∈ fp
  obj : ∀ i h, tn i h → ∀ b ∈ fp, ∃ o, h.get? b = some o ∧ ∀ v, o.data ≠ .cell v
  keep : ∀ i h h', tn i h → (∀ b ∈ fp, ∀ o, h.get? b = some o → h'.get? b = some o) → tn i h'
  item : ∀ (X : Cx), X.prog = P → X.w = w → X.K = K → X.calm = true → ∀ (i : Nat) (pins : List (Addr × Obj)) (s : Shared) (σ : St) (H : Hp) (E : Value → Shared → Prop), Inv X pins σ H s → (∀ b ∈ fp, FpOk X pins H b) → tn i s.heap → J.go i H →
    wpAny (model P w) X.A (pyNext (.ref it)) (fun r s1 => ∃ u, r = some u ∧
      wpAny (model P w) X.A (letOwnedTupleGo tg (.ref it) u) (fun _ s2 => ∃ x H', Inv X pins σ H' s2 ∧ RelV x u ∧ J.yld i H x H' ∧ tn (i + 1) s2.heap ∧ ∀ b ∈ fp, H' b = none) E s1) E s
  done : ∀ (X : Cx), X.prog = P → X.w = w → X.K = K → X.calm = true → ∀ (i : Nat) (pins : List (Addr × Obj)) (s : Shared) (σ : St) (H : Hp) (E : Value → Shared → Prop), Inv X pins σ H s → (∀ b ∈ fp, FpOk X pins H b) → tn i s.heap → J.stop i H →
    wpAny (model P w) X.A (pyNext (.ref it)) (fun r s1 => r = none ∧ Inv X pins σ H s1) E s
  self : ∀ (A : Around) (i : Nat) (s : Shared) (Q : Value → Shared → Prop) (E : Value → Shared → Prop), tn i s.heap → Q (.ref it) s → wpAny (model P w) A (pyIter (.ref it)) Q E s
abbrev TI := St → Hp → (It → Hp → Prop) → Prop
def PIE (X : Cx) (pins : List (Addr × Obj)) (σ : St) (tg : Expr) (R : It → Hp → Prop) (itv : Value) (s2 : Shared) : Prop :=
  ∃ (it : Addr) (fp : List Addr) (tn : Nat → Heap → Prop) (J : It) (H' : Hp), itv = .ref it ∧ Inv X pins σ H' s2 ∧ Turn X.prog X.w X.K tg J fp it tn ∧ tn 0 s2.heap ∧ (∀ b ∈ fp, FpOk X pins H' b) ∧ R J H'
def PI (X : Cx) (tg iter : Expr) (wi : TI) : Prop :=
  ∀ (pins : List (Addr × Obj)) (s : Shared) (σ : St) (H : Hp) (R : It → Hp → Prop), Inv X pins σ H s → wi σ H R →
    wpAny (model X.prog X.w) X.A (eval iter X.env) (fun v s1 => wpAny (model X.prog X.w) X.A (pyIter v) (PIE X pins σ tg R) X.xe s1) X.xe s
theorem go_of {M : Model} {A : Around} {E : Value → Shared → Prop} {s : Shared} {tg : Expr} {it : Addr} {u : Value} {o : Obj} {n : String} {vs : Array Value} {Q : Unit → Shared → Prop} (ho : s.heap.get? it = some o) (hc : o.cls = .type n) (hd : o.data = .fields vs)
    (hn : ["enumerate", "zip", "dict_itemiterator", "dict_reverseitemiterator", "odict_iterator", "itertools.zip_longest", "itertools.pairwise"].contains n = false) (hQ : Q () s) : wpAny M A (letOwnedTupleGo tg (.ref it) u) Q E s := by
  unfold letOwnedTupleGo
  cases tg <;> first
    | exact wpAny_pure hQ
    | (cases u <;> first
        | exact wpAny_pure hQ
        | (refine wpAny_bind (wpAny_load ho ?_)
           rw [hc, hd]
           show wpAny M A (if (["enumerate", "zip", "dict_itemiterator", "dict_reverseitemiterator", "odict_iterator", "itertools.zip_longest", "itertools.pairwise"].contains n && vs[0]? == some (rawInt _)) = true then _ else _) Q E s
           rw [if_neg (by intro h; rw [hn, Bool.false_and] at h; cases h)]
           exact wpAny_pure hQ))
def Itl (K : PySem.W.Frag) (a : Addr) : It :=
  ⟨fun i H => ∃ xs x, SqL K H a xs ∧ xs[i]? = some x, fun i H x H' => H' = H ∧ ∀ xs, SqL K H a xs → xs[i]? = some x, fun i H => ∃ xs, SqL K H a xs ∧ xs.length ≤ i⟩
def Itr (lo : Int) (n : Nat) : It := ⟨fun i _ => i < n, fun i H x H' => H' = H ∧ x = .int (lo + i), fun i _ => n ≤ i⟩
theorem turn_list {P : Program} {w : World} {K : PySem.W.Frag} {tg : Expr} (a it : Addr) : Turn P w K tg (Itl K a) [it] it (fun i h => h.IsListIter it a i) where
  mem := by simp
  obj := fun i h st b hb => by
    have e : b = it := by simpa using hb
    subst e
    obtain ⟨o, e, c, d⟩ := st
    exact ⟨o, e, fun v z => by rw [d] at z; cases z⟩
  keep := fun i h h' st k => st.at fun o e => k it (by simp) o e
  item := by
    intro X hP hw hK hc i pins s σ H E I hf st hg
    subst hP hw hK
    obtain ⟨xs, x, hq, hx⟩ := hg
    obtain ⟨its, rv, p, hz⟩ := I.list hq
    obtain ⟨u, hu, ru⟩ := rv.get hx
    obtain ⟨f0, f1, f2, f3, f4, f5⟩ := hf it (by simp)
    refine wpAny_pyNext_list_item st p.isList (x := u) (by simpa using hu) fun h' st' sb => ?_
    have I1 : Inv X pins σ H { s with heap := h' } := I.turned (t' := s.toks) (fun b o hb e => (sb.2 b hb).trans e) f0 f1 f3 f4 f5
    obtain ⟨o, e, c, d⟩ := id st'
    exact ⟨u, rfl, go_of (s := { s with heap := h' }) e c d (by decide) ⟨x, H, I1, ru, ⟨rfl, fun ys hy => by rw [I.list_inj hy hq]; exact hx⟩, st', fun b hb => (hf b hb).1⟩⟩
  done := by
    intro X hP hw hK hc i pins s σ H E I hf st hg
    subst hP hw hK
    obtain ⟨xs, hq, hx⟩ := hg
    obtain ⟨its, rv, p, hz⟩ := I.list hq
    obtain ⟨f0, f1, f2, f3, f4, f5⟩ := hf it (by simp)
    have hl := rv.length
    exact wpAny_pyNext_list_end (I.ok.hd hc) st p.isList (by simp; omega) fun h' eb => ⟨rfl, I.turned (t' := s.toks) (fun b o hb e => eb b o hb e) f0 f1 f3 f4 f5⟩
  self := fun _ _ _ _ _ st h => wpAny_pyIter_listiter st h
theorem turn_range {P : Program} {w : World} {K : PySem.W.Frag} {tg : Expr} (it : Addr) (lo : Int) (n : Nat) : Turn P w K tg (Itr lo n) [it] it (fun i h => IsRangeIter h it (lo + (i : Nat) * 1) ((n : Int) - (i : Nat)) 1) where
  mem := by simp
  obj := fun i h st b hb => by
    have e : b = it := by simpa using hb
    subst e
    exact ⟨_, st, fun v z => by
      have z' : Data.fields _ = Data.cell v := z
      cases z'⟩
  keep := fun i h h' st k => k it (by simp) _ st
  item := by
    intro X hP hw hK hc i pins s σ H E I hf st hg
    subst hP hw hK
    obtain ⟨f0, f1, f2, f3, f4, f5⟩ := hf it (by simp)
    have W := Walks.range (prog := X.prog) (w := X.w) (I.ok.hd hc) it lo 1 n
    refine W.item i s _ _ hg st fun v h' tk hv st' kk => ?_
    obtain ⟨t, rfl⟩ := hv
    have I1 : Inv X pins σ H { s with heap := h', toks := tk } := I.turned (fun b o hb e => kk b o (by simpa using hb) e) f0 f1 f3 f4 f5
    refine ⟨_, rfl, go_of (s := { s with heap := h', toks := tk }) (n := "range_iterator") st' rfl rfl (by decide) ⟨.int (lo + i), H, I1, ⟨t, ?_⟩, ⟨rfl, rfl⟩, st', fun b hb => (hf b hb).1⟩⟩
    rw [Int.mul_one]
  done := by
    intro X hP hw hK hc i pins s σ H E I hf st hg
    subst hP hw hK
    obtain ⟨f0, f1, f2, f3, f4, f5⟩ := hf it (by simp)
    exact wpAny_pyNext_range_end (I.ok.hd hc) st (by have : n ≤ i := hg; omega) fun h' eb => ⟨rfl, I.turned (t' := s.toks) (fun b o hb e => eb b o hb e) f0 f1 f3 f4 f5⟩
  self := fun _ _ _ _ _ st h => wpAny_pyIter_rangeiter st h
end L2
namespace L2
open PySem PySem.Spec PyProof.Rows
section
variable {X : Cx} {tg : Expr}
def iList (K : PySem.W.Frag) (tl : TE) : TI := fun σ H R => tl σ H fun x H1 => ∃ a, x = .ref a ∧ (∃ xs, SqL K H1 a xs) ∧ R (Itl K a) H1
theorem pi_list {l : Expr} {tl : TE} (hl : PE X l tl) : PI X tg l (iList X.K tl) := by
  intro pins s σ H R I h
  refine thn (hl pins s σ H _ I h) fun v s1 ⟨x, H1, I1, r1, q1⟩ => ?_
  obtain ⟨a, e, ⟨xs, hq⟩, q⟩ := q1
  subst e
  cases r1
  obtain ⟨its, rv, p, hz⟩ := I1.list hq
  refine wpAny_pyIter_list p.isList ?_
  refine ⟨s1.heap.objs.size, [s1.heap.objs.size], _, _, H1, rfl, I1.kept (t' := s1.toks) fun b o e => Heap.get?_push_of_some _ e, turn_list a _, ⟨_, Heap.get?_push_size _ rfl, rfl, rfl⟩, fun b hb => ?_, q⟩
  have e : b = s1.heap.objs.size := by simpa using hb
  subst e
  exact I1.fpOk (Nat.le_refl _) (I1.hok.fresh (Nat.le_refl _))
theorem range_it {pins : List (Addr × Obj)} {σ : St} {H : Hp} {s : Shared} {R : It → Hp → Prop} {E : Value → Shared → Prop} {lo hi : Int} {t u v : Tok} {tk : Nat} (I : Inv X pins σ H s) (h1 : -(2 ^ 62) ≤ lo) (h2 : lo < 2 ^ 62) (h3 : -(2 ^ 62) ≤ hi) (h4 : hi < 2 ^ 62)
    (q : R (Itr lo (hi - lo).toNat) H) : wpAny (model X.prog X.w) X.A (pyIter (.ref s.heap.objs.size)) (PIE X pins σ tg R) E { s with heap := s.heap.push { cls := .type "range", data := .fields #[.int lo t, .int hi u, .int 1 v] }, toks := tk } := by
  refine wpAny_pyIter_range (IsRange.new ..) (small_one h1 h2 h3 h4) ?_
  have I1 : Inv X pins σ H { s with heap := s.heap.push { cls := .type "range", data := .fields #[.int lo t, .int hi u, .int 1 v] }, toks := tk } := I.kept fun b o e => Heap.get?_push_of_some _ e
  refine ⟨(s.heap.push { cls := .type "range", data := .fields #[.int lo t, .int hi u, .int 1 v] }).objs.size, [(s.heap.push { cls := .type "range", data := .fields #[.int lo t, .int hi u, .int 1 v] }).objs.size], _, _, H, rfl,
    I1.kept (t' := tk) fun b o e => Heap.get?_push_of_some _ e, turn_range _ lo (hi - lo).toNat, ?_, fun b hb => ?_, q⟩
  · have e1 : lo + ((0 : Nat) : Int) * 1 = lo := by simp
    have e2 : (((hi - lo).toNat : Nat) : Int) - ((0 : Nat) : Int) = Builtin.Range.rangeSize lo hi 1 := by rw [rangeSize_one]; split <;> omega
    show IsRangeIter _ _ (lo + ((0 : Nat) : Int) * 1) ((((hi - lo).toNat : Nat) : Int) - ((0 : Nat) : Int)) 1
    rw [e1, e2]
    exact Heap.get?_push_size _ rfl
  · have e : b = (s.heap.push { cls := .type "range", data := .fields #[.int lo t, .int hi u, .int 1 v] }).objs.size := by simpa using hb
    subst e
    exact I1.fpOk (Nat.le_refl _) (I1.hok.fresh (Nat.le_refl _))
def iRng1 (ta : TA) : TI := fun σ H R => ta σ H fun vs H1 => ∃ j : Int, vs = [.int j] ∧ -(2 ^ 62) ≤ j ∧ j < 2 ^ 62 ∧ R (Itr 0 j.toNat) H1
theorem pi_range1 {a : Expr} {ta : TA} {p pos : Pos} (hg : Gl X "range") (hm : X.mg "range" = none) (ha : PA X [a] ta) (hs : starEach [a] X.env = [(false, eval a X.env)] := by rfl) : PI X tg (.Call (.Name "range" p) [a] [] pos) (iRng1 ta) := by
  intro pins s σ H R I h
  refine Call_ (ld_blt I hg hm boot_range (PyProof.Rows.callWith_type1 (thn (ha pos pins s σ H _ I h) fun us s1 ⟨vs, H1, I1, r1, q1⟩ => ?_) hs rfl))
  obtain ⟨j, e, q1, q2, q⟩ := q1
  subst e
  cases r1 with
  | cons r rr =>
    cases rr
    obtain ⟨t, rfl⟩ := r
    exact call_range_1 (range_it I1 (by omega) (by omega) q1 q2 (by simpa using q))
def tFor (wi : TI) (g : TG) (tb : TS) : TS := fun D σ H => wi σ H fun J H1 => ∃ W : Nat → Nat → St → Hp → Prop, (∃ m, W 0 m σ H1) ∧ ∀ i m σ H, W i m σ H →
  (J.stop i H ∧ D.nx σ H) ∨ (J.go i H ∧ ∃ N : St → Hp → Prop, (∀ σ' H', N σ' H' → ∃ m', m' < m ∧ W (i + 1) m' σ' H') ∧ ∀ x H', J.yld i H x H' → g x σ H' fun σ2 H2 => tb { D with nx := N, ct := N, bk := D.nx } σ2 H2)
def pinsAt (fp : List Addr) (h : Heap) : List (Addr × Obj) := fp.filterMap fun b => (h.get? b).map fun o => (b, o)
theorem mem_pinsAt {fp : List Addr} {h : Heap} {b : Addr} {o : Obj} (hb : b ∈ fp) (e : h.get? b = some o) : (b, o) ∈ pinsAt fp h := List.mem_filterMap.mpr ⟨b, hb, by rw [e]; rfl⟩
theorem of_pinsAt {fp : List Addr} {h : Heap} {p : Addr × Obj} (hp : p ∈ pinsAt fp h) : p.1 ∈ fp ∧ h.get? p.1 = some p.2 := by
  obtain ⟨b, hb, e⟩ := List.mem_filterMap.mp hp
  cases q : h.get? b with
  | none => rw [q] at e; cases e
  | some o =>
    rw [q] at e
    have e' : (b, o) = p := Option.some.inj e
    subst e'
    exact ⟨hb, q⟩
theorem Inv.pinned {pins : List (Addr × Obj)} {σ : St} {H : Hp} {s : Shared} {fp : List Addr} (I : Inv X pins σ H s) (hf : ∀ b ∈ fp, FpOk X pins H b) (ho : ∀ b ∈ fp, ∃ o, s.heap.get? b = some o ∧ ∀ v, o.data ≠ .cell v) : Inv X (pins ++ pinsAt fp s.heap) σ H s :=
  I.pins_of fun p hp => (List.mem_append.mp hp).elim (fun z => I.pin p (List.mem_append_right _ z)) fun z => by
    obtain ⟨hb, e⟩ := of_pinsAt z
    obtain ⟨f0, f1, f2, _⟩ := hf p.1 hb
    obtain ⟨o, e', d⟩ := ho p.1 hb
    rw [e] at e'; cases e'
    exact ⟨e, f0, f1, f2, d⟩
theorem Inv.unpinned {pins pl : List (Addr × Obj)} {σ : St} {H : Hp} {s : Shared} (I : Inv X (pins ++ pl) σ H s) : Inv X pins σ H s := I.pins_of fun p hp => I.pin p (List.mem_append_right _ (List.mem_append_left _ hp))
theorem ps_for {iter : Expr} {body : List Stmt} {wi : TI} {g : TG} {tb : TS} {pos : Pos} (hp : PassesOwn (model X.prog X.w) X.A X.env X.xe) (hc : X.calm = true) (hi : PI X tg iter wi) (hg : PG X tg g) (hb : PSs X body tb)
    (hs : ∀ x, foldedSetIterable iter X.env x = pure x := by intro _; rfl) : PS X (.For tg iter body [] pos) (tFor wi g tb) := by
  intro pins s σ H D I h
  refine wpAny_For (thn (hi pins s σ H _ I h) fun v s1 h1 => thn h1 fun itv s2 h2 => ?_) hs
  obtain ⟨it, fp, tn, J, H2, e, I2, T, st2, f2, W, ⟨m0, w0⟩, turn⟩ := h2
  subst e
  have stat : ∀ {H' : Hp}, (∀ b ∈ fp, H' b = none) → ∀ b ∈ fp, FpOk X pins H' b := fun hn b hb => ⟨hn b hb, (f2 b hb).2⟩
  refine codeAny_forLoop_any (fun n s' => ∃ i σ' H', Inv X pins σ' H' s' ∧ tn i s'.heap ∧ (∀ b ∈ fp, H' b = none) ∧ W i n σ' H') ?_ m0 ⟨0, σ, H2, I2, st2, fun b hb => (f2 b hb).1, w0⟩
  rintro n s3 ⟨i, σ3, H3, I3, st3, fr3, w3⟩
  rcases turn i n σ3 H3 w3 with ⟨stop, qn⟩ | ⟨go, N, hN, step⟩
  · refine wpAny_passesOwn hp (thn (T.done X rfl rfl rfl hc i pins s3 σ3 H3 X.xe I3 (stat fr3) st3 stop) fun r s4 ⟨hr, I4⟩ => ?_)
    subst hr
    exact wpAny_execs_nil ⟨σ3, H3, I4, qn⟩
  · refine wpAny_passesOwn hp (thn (T.item X rfl rfl rfl hc i pins s3 σ3 H3 X.xe I3 (stat fr3) st3 go) fun r s4 ⟨u, hr, h4⟩ => ?_)
    subst hr
    refine wpAny_passesOwn hp (thn h4 fun _ s5 ⟨x, H5, I5, r5, y5, st5, fr5⟩ => ?_)
    have I5' := I5.pinned (stat fr5) (T.obj _ _ st5)
    refine wpAny_passesOwn hp (thn (hg _ s5 σ3 H5 x u _ I5' r5 (step x H5 y5)) fun _ s6 ⟨σ6, H6, I6, q6⟩ => ?_)
    refine wpAny_passesOwn hp (thn (hb _ s6 σ6 H6 _ I6 q6) fun f s7 q7 => ?_)
    have again : ∀ {σ7 : St} {H7 : Hp}, Inv X (pins ++ pinsAt fp s5.heap) σ7 H7 s7 → N σ7 H7 → ∃ m, m < n ∧ ∃ i σ' H', Inv X pins σ' H' s7 ∧ tn i s7.heap ∧ (∀ b ∈ fp, H' b = none) ∧ W i m σ' H' := fun {σ7 H7} I7 n7 => by
      obtain ⟨m', hm, w7⟩ := hN σ7 H7 n7
      refine ⟨m', hm, i + 1, σ7, H7, I7.unpinned, T.keep _ _ _ st5 fun b hb o e => (I7.pin (b, o) (List.mem_append_right _ (List.mem_append_right _ (mem_pinsAt hb e)))).1, fun b hb => ?_, w7⟩
      obtain ⟨o, e, d⟩ := T.obj _ _ st5 b hb
      exact (I7.pin (b, o) (List.mem_append_right _ (List.mem_append_right _ (mem_pinsAt hb e)))).2.1
    cases f with
    | next => obtain ⟨σ7, H7, I7, n7⟩ := q7; exact again I7 n7
    | cont => obtain ⟨σ7, H7, I7, n7⟩ := q7; exact again I7 n7
    | brk => obtain ⟨σ7, H7, I7, q7⟩ := q7; exact ⟨σ7, H7, I7.unpinned, q7⟩
    | ret v => obtain ⟨x7, σ7, H7, I7, r7, q7⟩ := q7; exact ⟨x7, σ7, H7, I7.unpinned, r7, q7⟩
end
theorem for_list {K : PySem.W.Frag} {a : Addr} {xs : List V} {g : TG} {tb : TS} {D : Ends} {σ : St} {H : Hp} (Pv : Nat → St → Hp → Prop) (h0 : Pv 0 σ H) (hl : ∀ i σ H, i ≤ xs.length → Pv i σ H → SqL K H a xs)
    (hs : ∀ i x σ H, xs[i]? = some x → Pv i σ H → g x σ H fun σ2 H2 => tb { D with nx := Pv (i + 1), ct := Pv (i + 1), bk := D.nx } σ2 H2) (hd : ∀ σ H, Pv xs.length σ H → D.nx σ H) :
    ∃ W : Nat → Nat → St → Hp → Prop, (∃ m, W 0 m σ H) ∧ ∀ i m σ H, W i m σ H →
      ((Itl K a).stop i H ∧ D.nx σ H) ∨ ((Itl K a).go i H ∧ ∃ N : St → Hp → Prop, (∀ σ' H', N σ' H' → ∃ m', m' < m ∧ W (i + 1) m' σ' H') ∧ ∀ x H', (Itl K a).yld i H x H' → g x σ H' fun σ2 H2 => tb { D with nx := N, ct := N, bk := D.nx } σ2 H2) := by
  refine ⟨fun i m σ H => m = xs.length - i ∧ i ≤ xs.length ∧ Pv i σ H, ⟨xs.length, by simp, Nat.zero_le _, h0⟩, ?_⟩
  rintro i m σ H ⟨rfl, hi, p⟩
  have q := hl i σ H hi p
  by_cases hlt : i < xs.length
  · refine .inr ⟨⟨xs, xs[i], q, by simp [hlt]⟩, Pv (i + 1), fun σ' H' p' => ⟨xs.length - (i + 1), by omega, rfl, hlt, p'⟩, fun x H' y => ?_⟩
    obtain ⟨e, y⟩ := y
    subst e
    exact hs i x σ _ (y xs q) p
  · have e : i = xs.length := by omega
    subst e
    exact .inl ⟨⟨xs, q, Nat.le_refl _⟩, hd σ H p⟩
theorem for_range {lo : Int} {n : Nat} {g : TG} {tb : TS} {D : Ends} {σ : St} {H : Hp} (Pv : Nat → St → Hp → Prop) (h0 : Pv 0 σ H)
    (hs : ∀ i σ H, i < n → Pv i σ H → g (.int (lo + i)) σ H fun σ2 H2 => tb { D with nx := Pv (i + 1), ct := Pv (i + 1), bk := D.nx } σ2 H2) (hd : ∀ σ H, Pv n σ H → D.nx σ H) :
    ∃ W : Nat → Nat → St → Hp → Prop, (∃ m, W 0 m σ H) ∧ ∀ i m σ H, W i m σ H →
      ((Itr lo n).stop i H ∧ D.nx σ H) ∨ ((Itr lo n).go i H ∧ ∃ N : St → Hp → Prop, (∀ σ' H', N σ' H' → ∃ m', m' < m ∧ W (i + 1) m' σ' H') ∧ ∀ x H', (Itr lo n).yld i H x H' → g x σ H' fun σ2 H2 => tb { D with nx := N, ct := N, bk := D.nx } σ2 H2) := by
  refine ⟨fun i m σ H => m = n - i ∧ i ≤ n ∧ Pv i σ H, ⟨n, by simp, Nat.zero_le _, h0⟩, ?_⟩
  rintro i m σ H ⟨rfl, hi, p⟩
  by_cases hlt : i < n
  · refine .inr ⟨hlt, Pv (i + 1), fun σ' H' p' => ⟨n - (i + 1), by omega, rfl, hlt, p'⟩, fun x H' y => ?_⟩
    obtain ⟨e, y⟩ := y
    subst e y
    exact hs i σ _ hlt p
  · have e : i = n := by omega
    subst e
    exact .inl ⟨Nat.le_refl _, hd σ H p⟩
theorem while_by {c : TT} {tb : TS} {D : Ends} {σ : St} {H : Hp} (Pv : St → Hp → Prop) (μ : St → Hp → Nat) (h0 : Pv σ H)
    (hs : ∀ σ H, Pv σ H → c σ H fun b H1 => if b = true then tb { D with nx := fun σ' H' => Pv σ' H' ∧ μ σ' H' < μ σ H, ct := fun σ' H' => Pv σ' H' ∧ μ σ' H' < μ σ H, bk := D.nx } σ H1 else D.nx σ H1)
    (mono : ∀ σ H Q Q', (∀ b H1, Q b H1 → Q' b H1) → c σ H Q → c σ H Q') : tWhile c tb D σ H := by
  refine ⟨fun m σ H => m = μ σ H ∧ Pv σ H, ⟨_, rfl, h0⟩, ?_⟩
  rintro m σ H ⟨rfl, p⟩
  refine mono σ H _ _ (fun b H1 q => ?_) (hs σ H p)
  cases b with
  | true => exact ⟨_, fun σ' H' ⟨p', l⟩ => ⟨_, l, rfl, p'⟩, q⟩
  | false => exact q
end L2
namespace L2
open PySem PySem.Spec PyProof.Rows
abbrev R2 := V → V → Hp → VK → Prop
def OpR (X : Cx) (f : Value → Value → Sem Value) (r : R2) : Prop :=
  ∀ (pins : List (Addr × Obj)) (s : Shared) (σ : St) (H : Hp) (x y : V) (v u : Value) (Q : VK), Inv X pins σ H s → RelV x v → RelV y u → r x y H Q →
    wpAny (model X.prog X.w) X.A (f v u) (EP X pins σ Q) X.xe s
def CallR (X : Cx) (f : Value) (r : List V → Hp → VK → Prop) : Prop :=
  ∀ (pins : List (Addr × Obj)) (s : Shared) (σ : St) (H : Hp) (xs : List V) (us : List Value) (Q : VK), Inv X pins σ H s → Vals xs us → r xs H Q →
    wpAny (model X.prog X.w) X.A (call f us) (EP X pins σ Q) X.xe s
def tOp (r : R2) (ta tb : TE) : TE := fun σ H Q => ta σ H fun x H1 => tb σ H1 fun y H2 => r x y H2 Q
def rI (C : Int → Int → Prop) (g : Int → Int → V) : R2 := fun x y H Q => ∃ i j, x = .int i ∧ y = .int j ∧ C i j ∧ Q (g i j) H
def rI0 (g : Int → Int → V) : R2 := fun x y H Q => ∃ i j, x = .int i ∧ y = .int j ∧ Q (g i j) H
section
variable {X : Cx} {a b c : Expr} {ta tb tc : TE} {pos : Pos}
theorem binT (ha : PE X a ta) (hb : PE X b tb) {pins : List (Addr × Obj)} {s : Shared} {σ : St} {H : Hp} {R : V → V → Hp → Prop} (I : Inv X pins σ H s)
    (h : ta σ H fun x H1 => tb σ H1 fun y H2 => R x y H2) {Q : Value → Shared → Prop} {f : Value → Value → Sem Value}
    (hf : ∀ v u s2 x y H2, Inv X pins σ H2 s2 → RelV x v → RelV y u → R x y H2 → wpAny (model X.prog X.w) X.A (f v u) Q X.xe s2) :
    wpAny (model X.prog X.w) X.A (eval a X.env) (fun v s₁ => wpAny (model X.prog X.w) X.A (eval b X.env) (fun u s₂ => wpAny (model X.prog X.w) X.A (f v u) Q X.xe s₂) X.xe s₁) X.xe s := by
  refine thn (ha pins s σ H _ I h) fun v s1 ⟨x, H1, I1, r1, q1⟩ => ?_
  refine thn (hb pins s1 σ H1 _ I1 q1) fun u s2 ⟨y, H2, I2, r2, q2⟩ => ?_
  exact hf v u s2 x y H2 I2 r1 r2 q2
theorem pe_op {op : Operator} {r : R2} (ho : OpR X (binaryOp op) r) (ha : PE X a ta) (hb : PE X b tb) : PE X (.BinOp a op b pos) (tOp r ta tb) := by
  intro pins s σ H Q I h
  exact wpAny_BinOp (binT ha hb I h fun v u s2 x y H2 I2 rx ry q => ho pins s2 σ H2 x y v u Q I2 rx ry q)
theorem opI {f : Value → Value → Sem Value} {C : Int → Int → Prop} {g : Int → Int → Int}
    (rule : ∀ (i j : Int) (t u : Tok) (s : Shared) (Q : Value → Shared → Prop) (E : Value → Shared → Prop), C i j → Q (.int (g i j) s.toks) { s with toks := s.toks + 1 } → wpAny (model X.prog X.w) X.A (f (.int i t) (.int j u)) Q E s) :
    OpR X f (rI C fun i j => .int (g i j)) := by
  intro pins s σ H x y v u Q I rx ry h
  obtain ⟨i, j, rfl, rfl, hc, q⟩ := h
  obtain ⟨t, rfl⟩ := rx
  obtain ⟨t', rfl⟩ := ry
  exact rule i j t t' s _ _ hc ⟨.int (g i j), H, I.tok _, ⟨_, rfl⟩, q⟩
theorem opI0 {f : Value → Value → Sem Value} {g : Int → Int → Int}
    (rule : ∀ (i j : Int) (t u : Tok) (s : Shared) (Q : Value → Shared → Prop) (E : Value → Shared → Prop), Q (.int (g i j) s.toks) { s with toks := s.toks + 1 } → wpAny (model X.prog X.w) X.A (f (.int i t) (.int j u)) Q E s) :
    OpR X f (rI0 fun i j => .int (g i j)) := by
  intro pins s σ H x y v u Q I rx ry h
  obtain ⟨i, j, rfl, rfl, q⟩ := h
  obtain ⟨t, rfl⟩ := rx
  obtain ⟨t', rfl⟩ := ry
  exact rule i j t t' s _ _ ⟨.int (g i j), H, I.tok _, ⟨_, rfl⟩, q⟩
theorem opB0 {f : Value → Value → Sem Value} {g : Int → Int → Bool}
    (rule : ∀ (i j : Int) (t u : Tok) (s : Shared) (Q : Value → Shared → Prop) (E : Value → Shared → Prop), Q (.bool (g i j)) s → wpAny (model X.prog X.w) X.A (f (.int i t) (.int j u)) Q E s) :
    OpR X f (rI0 fun i j => .bl (g i j)) := by
  intro pins s σ H x y v u Q I rx ry h
  obtain ⟨i, j, rfl, rfl, q⟩ := h
  obtain ⟨t, rfl⟩ := rx
  obtain ⟨t', rfl⟩ := ry
  exact rule i j t t' s _ _ ⟨.bl (g i j), H, I, rfl, q⟩
def CPow (i j : Int) : Prop := 0 ≤ j ∧ j ≤ 1000000 ∧ i.natAbs < 2 ^ 64
def CMul (i j : Int) : Prop := (-(2 ^ 64) < i ∧ i < 2 ^ 64) ∨ (-(2 ^ 64) < j ∧ j < 2 ^ 64)
theorem CMul.ok {i j : Int} (h : CMul i j) : IntMulOk i j := by
  rcases h with ⟨h1, h2⟩ | ⟨h1, h2⟩
  · exact .of_left (intBits_le_64 h1 h2)
  · exact .of_right (intBits_le_64 h1 h2)
theorem op_add : OpR X (binaryOp .Add) (rI0 fun i j => .int (i + j)) := opI0 fun _ _ _ _ _ _ _ q => add_int q
theorem op_sub : OpR X (binaryOp .Sub) (rI0 fun i j => .int (i - j)) := opI0 fun _ _ _ _ _ _ _ q => sub_int q
theorem op_mod : OpR X (binaryOp .Mod) (rI (fun _ j => 0 < j) fun i j => .int (i % j)) := opI fun i j _ _ _ _ _ hc q => by
  have h1 : (0 : Int) < j := hc
  exact mod_int' (by omega) (by rw [Int.fmod_eq_emod_of_nonneg i (by omega)]; exact q)
theorem op_modN : OpR X (binaryOp .Mod) (rI (fun _ j => j ≠ 0) fun i j => .int (i.fmod j)) := opI fun _ _ _ _ _ _ _ hc q => mod_int' hc q
theorem op_pow : OpR X (binaryOp .Pow) (rI CPow fun i j => .int (i ^ j.toNat)) := opI fun _ _ _ _ _ _ _ hc q => pow_int_small hc.1 hc.2.1 hc.2.2 q
end
def scal : V → V → Bool
  | .non, .non => true | .non, .int _ => true | .int _, .non => true | .non, .bl _ => true | .bl _, .non => true | .non, .str _ => true | .str _, .non => true
  | .int _, .int _ => true | .bl _, .bl _ => true | .str _, .str _ => true | .byt _, .byt _ => true
  | .int _, .str _ => true | .str _, .int _ => true | .bl _, .str _ => true | .str _, .bl _ => true
  | _, _ => false
def rEq : R2 := fun x y H Q => scal x y = true ∧ Q (.bl (decide (x = y))) H
def rNe : R2 := fun x y H Q => scal x y = true ∧ Q (.bl (!decide (x = y))) H
theorem dec_int {i j : Int} : decide (V.int i = V.int j) = (i == j) := by
  rw [Bool.eq_iff_iff]
  simp
theorem dec_bl {i j : Bool} : decide (V.bl i = V.bl j) = (i == j) := by
  rw [Bool.eq_iff_iff]
  simp
theorem dec_str {i j : Str} : decide (V.str i = V.str j) = (i == j) := by
  rw [Bool.eq_iff_iff]
  simp
theorem dec_byt {i j : Array UInt8} : decide (V.byt i = V.byt j) = (i.toList == j.toList) := by
  rw [Bool.eq_iff_iff]
  cases i
  cases j
  simp
section
variable {X : Cx} {a b c : Expr} {ta tb tc : TE} {pos : Pos}
theorem fin_bl {pins : List (Addr × Obj)} {σ : St} {H : Hp} {s : Shared} {Q : VK} {k k' : Bool} (I : Inv X pins σ H s) (q : Q (.bl k) H) (e : k = k') : EP X pins σ Q (.bool k') s := by
  subst e
  exact ⟨.bl k, H, I, rfl, q⟩
theorem op_eq : OpR X (compareOp .Eq) rEq := by
  intro pins s σ H x y v u Q I rx ry h
  obtain ⟨hs, q⟩ := h
  cases x with
  | non =>
    cases rx
    cases y with
    | non => cases ry; exact PySem.EqNone.eq_none_none (fin_bl I q (by simp))
    | bl j => cases ry; exact PySem.EqNone.eq_none_bool (fin_bl I q (by simp))
    | int j => obtain ⟨t', rfl⟩ := ry; exact PySem.EqNone.eq_none_int (fin_bl I q (by simp))
    | str j => obtain ⟨t', rfl⟩ := ry; exact PySem.EqNone.eq_none_str (fin_bl I q (by simp))
    | _ => exact absurd (show false = true from hs) Bool.false_ne_true
  | bl i =>
    cases rx
    cases y with
    | non => cases ry; exact PySem.EqNone.eq_bool_none (fin_bl I q (by simp))
    | bl j => cases ry; exact eq_bool (fin_bl I q dec_bl)
    | str j => obtain ⟨t', rfl⟩ := ry; exact PySem.EqMixed.eq_bool_str (fin_bl I q (by simp))
    | _ => exact absurd (show false = true from hs) Bool.false_ne_true
  | int i =>
    obtain ⟨t, rfl⟩ := rx
    cases y with
    | non => cases ry; exact PySem.EqNone.eq_int_none (fin_bl I q (by simp))
    | int j => obtain ⟨t', rfl⟩ := ry; exact eq_int (fin_bl I q dec_int)
    | str j => obtain ⟨t', rfl⟩ := ry; exact PySem.EqMixed.eq_int_str (fin_bl I q (by simp))
    | _ => exact absurd (show false = true from hs) Bool.false_ne_true
  | str i =>
    obtain ⟨t, rfl⟩ := rx
    cases y with
    | non => cases ry; exact PySem.EqNone.eq_str_none (fin_bl I q (by simp))
    | bl j => cases ry; exact PySem.EqMixed.eq_str_bool (fin_bl I q (by simp))
    | int j => obtain ⟨t', rfl⟩ := ry; exact PySem.EqMixed.eq_str_int (fin_bl I q (by simp))
    | str j => obtain ⟨t', rfl⟩ := ry; exact eq_str (fin_bl I q dec_str)
    | _ => exact absurd (show false = true from hs) Bool.false_ne_true
  | byt i =>
    obtain ⟨t, rfl⟩ := rx
    cases y with
    | byt j => obtain ⟨t', rfl⟩ := ry; exact PySem.W.eq_bytes (fin_bl I q dec_byt)
    | _ => exact absurd (show false = true from hs) Bool.false_ne_true
  | _ => cases y <;> exact absurd (show false = true from hs) Bool.false_ne_true
theorem op_ne : OpR X (compareOp .NotEq) rNe := by
  intro pins s σ H x y v u Q I rx ry h
  obtain ⟨hs, q⟩ := h
  cases x with
  | non =>
    cases rx
    cases y with
    | non => cases ry; exact PySem.EqNone.ne_none_none (fin_bl I q (by simp))
    | bl j => cases ry; exact PySem.EqNone.ne_none_bool (fin_bl I q (by simp))
    | int j => obtain ⟨t', rfl⟩ := ry; exact PySem.EqNone.ne_none_int (fin_bl I q (by simp))
    | str j => obtain ⟨t', rfl⟩ := ry; exact PySem.EqNone.ne_none_str (fin_bl I q (by simp))
    | _ => exact absurd (show false = true from hs) Bool.false_ne_true
  | bl i =>
    cases rx
    cases y with
    | non => cases ry; exact PySem.EqNone.ne_bool_none (fin_bl I q (by simp))
    | bl j => cases ry; exact ne_bool (fin_bl I q (congrArg not dec_bl))
    | str j => obtain ⟨t', rfl⟩ := ry; exact PySem.EqMixed.ne_bool_str (fin_bl I q (by simp))
    | _ => exact absurd (show false = true from hs) Bool.false_ne_true
  | int i =>
    obtain ⟨t, rfl⟩ := rx
    cases y with
    | non => cases ry; exact PySem.EqNone.ne_int_none (fin_bl I q (by simp))
    | int j => obtain ⟨t', rfl⟩ := ry; exact ne_int (fin_bl I q (congrArg not dec_int))
    | str j => obtain ⟨t', rfl⟩ := ry; exact PySem.EqMixed.ne_int_str (fin_bl I q (by simp))
    | _ => exact absurd (show false = true from hs) Bool.false_ne_true
  | str i =>
    obtain ⟨t, rfl⟩ := rx
    cases y with
    | non => cases ry; exact PySem.EqNone.ne_str_none (fin_bl I q (by simp))
    | bl j => cases ry; exact PySem.EqMixed.ne_str_bool (fin_bl I q (by simp))
    | int j => obtain ⟨t', rfl⟩ := ry; exact PySem.EqMixed.ne_str_int (fin_bl I q (by simp))
    | str j => obtain ⟨t', rfl⟩ := ry; exact ne_str (fin_bl I q (congrArg not dec_str))
    | _ => exact absurd (show false = true from hs) Bool.false_ne_true
  | byt i =>
    obtain ⟨t, rfl⟩ := rx
    cases y with
    | byt j => obtain ⟨t', rfl⟩ := ry; exact PySem.W.ne_bytes (fin_bl I q (congrArg not dec_byt))
    | _ => exact absurd (show false = true from hs) Bool.false_ne_true
  | _ => cases y <;> exact absurd (show false = true from hs) Bool.false_ne_true
theorem op_lt : OpR X (compareOp .Lt) (rI0 fun i j => .bl (decide (i < j))) := opB0 fun _ _ _ _ _ _ _ q => lt_int q
theorem op_gt : OpR X (compareOp .Gt) (rI0 fun i j => .bl (decide (j < i))) := opB0 fun _ _ _ _ _ _ _ q => gt_int q
theorem op_ge : OpR X (compareOp .GtE) (rI0 fun i j => .bl (decide (j ≤ i))) := opB0 fun _ _ _ _ _ _ _ q => ge_int q
theorem nomark (b : Expr) {op : CmpOp} (h : op ≠ .In := by decide) (h2 : op ≠ .NotIn := by decide) : behindInMarks op b = false := by
  have e1 : (op == CmpOp.In) = false := by cases op <;> first | rfl | exact absurd rfl h
  have e2 : (op == CmpOp.NotIn) = false := by cases op <;> first | rfl | exact absurd rfl h2
  cases b <;> simp [behindInMarks, e1, e2]
theorem pe_cmpR {op : CmpOp} {r : R2} (ho : OpR X (compareOp op) r) (ha : PE X a ta) (hb : PE X b tb) (hm : behindInMarks op b = false) : PE X (.Compare a [op] [b] pos) (tOp r ta tb) := by
  intro pins s σ H Q I h
  exact wpAny_Compare1 (binT ha hb I h fun v u s2 x y H2 I2 rx ry q => ho pins s2 σ H2 x y v u Q I2 rx ry q) hm
def tTest (t : TE) : TT := fun σ H Q => t σ H fun x H' => ∃ k, x = .bl k ∧ Q k H'
theorem pt_cmpR {op : CmpOp} {r : R2} (ho : OpR X (compareOp op) r) (ha : PE X a ta) (hb : PE X b tb) (hm : behindInMarks op b = false) : PT X (.Compare a [op] [b] pos) (tTest (tOp r ta tb)) := by
  intro pins s σ H Q I h
  refine wpAny_isTrue_Compare1 (thn (ha pins s σ H _ I h) fun v s1 ⟨x, H1, I1, r1, q1⟩ => thn (hb pins s1 σ H1 _ I1 q1) fun u s2 ⟨y, H2, I2, r2, q2⟩ =>
    thn (ho pins s2 σ H2 x y v u _ I2 r1 r2 q2) fun c s3 ⟨z, H3, I3, r3, k, e, q3⟩ => ?_) hm
  subst e
  cases r3
  exact wpAny_truthy_bool ⟨H3, I3, q3⟩
theorem line63 : (sizeLine : Nat) < 2 ^ 63 := by rw [sizeLine_eq]; decide
theorem vals1 {x : V} {us : List Value} (r : Vals [x] us) : ∃ u, us = [u] ∧ RelV x u := by
  cases r with
  | cons r1 r2 => cases r2; exact ⟨_, rfl, r1⟩
theorem vals2 {x y : V} {us : List Value} (r : Vals [x, y] us) : ∃ u w', us = [u, w'] ∧ RelV x u ∧ RelV y w' := by
  cases r with
  | cons r1 r2 =>
    cases r2 with
    | cons r3 r4 => cases r4; exact ⟨_, _, rfl, r1, r3⟩
theorem call_abs : CallR X (.builtin "abs") (fun xs H Q => ∃ i, xs = [.int i] ∧ Q (.int (if i < 0 then -i else i)) H) := by
  intro pins s σ H xs us Q I r h
  obtain ⟨i, rfl, q⟩ := h
  obtain ⟨u, rfl, t, rfl⟩ := vals1 r
  exact call_abs_int fun u tk => ⟨.int (if i < 0 then -i else i), H, I.tok _, ⟨_, rfl⟩, q⟩
theorem call_max2 (hc : X.calm = true) : CallR X (.builtin "max") (fun xs H Q => ∃ i j, xs = [.int i, .int j] ∧ Q (.int (if j > i then j else i)) H) := by
  intro pins s σ H xs us Q I r h
  obtain ⟨i, j, rfl, q⟩ := h
  obtain ⟨u, w', rfl, ⟨t, rfl⟩, ⟨t', rfl⟩⟩ := vals2 r
  refine max_two_ints (I.ok.hd hc) fun h' tk k => ⟨_, H, I.kept k, ?_, q⟩
  by_cases hj : j > i
  · rw [if_pos hj, if_pos hj]; exact ⟨_, rfl⟩
  · rw [if_neg hj, if_neg hj]; exact ⟨_, rfl⟩
theorem call_min2 (hc : X.calm = true) : CallR X (.builtin "min") (fun xs H Q => ∃ i j, xs = [.int i, .int j] ∧ Q (.int (if j < i then j else i)) H) := by
  intro pins s σ H xs us Q I r h
  obtain ⟨i, j, rfl, q⟩ := h
  obtain ⟨u, w', rfl, ⟨t, rfl⟩, ⟨t', rfl⟩⟩ := vals2 r
  refine min_two_ints (I.ok.hd hc) fun h' tk k => ⟨_, H, I.kept k, ?_, q⟩
  by_cases hj : j < i
  · rw [if_pos hj, if_pos hj]; exact ⟨_, rfl⟩
  · rw [if_neg hj, if_neg hj]; exact ⟨_, rfl⟩
end
end L2
namespace L2
open PySem PySem.Spec PyProof.Rows
structure ObjM (h : Heap) (x dx C : Addr) (mA : Str → Option Value) : Prop where
  obj : h.get? x = some (PySem.W.instObj C dx)
  ns : h.Ns1 dx mA
  ne : dx ≠ x
theorem lookIn_ns {h : Heap} {dx : Addr} {mA : Str → Option Value} (n : h.Ns1 dx mA) : ∃ od, h.get? dx = some od ∧ ∀ name, PySem.W.lookIn name od = some (mA name) := by
  obtain ⟨o, es, ep, ho, hd, hk, _, hm⟩ := n
  refine ⟨o, ho, fun name => ?_⟩
  have e := hm name
  unfold nsFind findBy at e
  rw [← Array.find?_toList] at e
  unfold PySem.W.lookIn
  rw [hd]
  dsimp only
  split
  · rename_i y q
    rw [q] at e
    exact congrArg some e
  · rename_i q
    rw [q] at e
    have a : es.toList.any (·.refKey) = false := by
      rw [List.any_eq_false]
      intro y hy
      obtain ⟨z, t, hkey⟩ := hk y (Array.mem_toList_iff.mp hy)
      simp [DictEntry.refKey, hkey]
    have a' : ¬ es.toList.any (·.refKey) = true := by rw [a]; exact Bool.false_ne_true
    rw [if_neg a']
    exact congrArg some e
theorem ObjM.look {h : Heap} {x dx C : Addr} {mA : Str → Option Value} (I : ObjM h x dx C mA) : ∃ od, PySem.W.InstAt h x (PySem.W.instObj C dx) C (some od) ∧ ∀ name, PySem.W.lookIn name od = some (mA name) :=
  let ⟨od, ho, hl⟩ := lookIn_ns I.ns
  ⟨od, ⟨I.obj, rfl, rfl, ho⟩, hl⟩
section
variable {prog : Program} {w : World} {A : Around} {E : Value → Shared → Prop} {s : Shared} {K : PySem.W.Frag} {x dx C f : Addr} {mA : Str → Option Value} {name : Str} {v : Value}
end
section
variable {P : Program} {w : World} {H H' : Hp} {h h' : Heap} {a C dx : Addr} {fs fs' : List (Str × V)}
theorem ins_get (hok : HOk P w H h) (e : H a = some (.ins C dx fs)) : ∃ mA, ObjM h a dx C mA ∧ (∀ f, RelO (fs.lookup f) (mA f)) ∧ PySem.Within mA (fs.map (·.1)) ∧ fs.length ≤ 1000 ∧ H dx = some (.own a) := by
  obtain ⟨d, z, ne, ob, mA, n, r, q⟩ := (show ObjOk P w H h a (.ins C dx fs) from hok a _ e)
  exact ⟨mA, ⟨ob, n, ne⟩, r, q, z, d⟩
end
structure Cls (K : PySem.W.Frag) (C : Addr) : Prop where
  pg : PySem.W.plainGet K C Str.empty = true
  hd : PySem.W.hasDictIn K C = true
  po : PySem.W.plainOver K C = true
  sa : PySem.W.findIn K (.ref C) "__setattr__" = some (some (.builtin "object.__setattr__"))
theorem Cls.get {K : PySem.W.Frag} {C : Addr} (c : Cls K C) (f : Str) : PySem.W.plainGet K C f = true := c.pg
section
variable {X : Cx} {pins : List (Addr × Obj)} {σ : St} {H : Hp} {s : Shared} {a C dx : Addr} {fs : List (Str × V)} {f : Str} {v : V} {A : Around} {E : Value → Shared → Prop}
end
section
variable {X : Cx} {o e value : Expr} {f : Str} {pos pos' tpos : Pos} {ta tv : TE}
end
section
variable {X : Cx} {pins : List (Addr × Obj)} {σ : St} {H : Hp} {s : Shared} {A : Around} {E : Value → Shared → Prop} {Q : Value → Shared → Prop} {c : Value} {b : Bool}
inductive TyOf (K : PySem.W.Frag) (H : Hp) : V → Value → Prop where
  | non : TyOf K H .non (.type "NoneType")
  | bl (x : Bool) : TyOf K H (.bl x) (.type "bool")
  | int (i : Int) : TyOf K H (.int i) (.type "int")
  | str (x : Str) : TyOf K H (.str x) (.type "str")
  | flt (x : UInt64) : TyOf K H (.flt x) (.type "float")
  | lst {a : Addr} {xs : List V} (e : H a = some (.lst xs)) : TyOf K H (.ref a) (.type "list")
  | frz {a : Addr} {o : Obj} {xs : List V} (e : H a = some (.frz o (.lst xs))) : TyOf K H (.ref a) (.type "list")
  | tup {a : Addr} {xs : List V} (e : H a = some (.tup xs)) : TyOf K H (.ref a) (.type "tuple")
  | dK {a : Addr} {kvs : List (Key × V)} (e : H a = some (.dK kvs)) : TyOf K H (.ref a) (.type "dict")
  | dT {a : Addr} {kvs : List (List Key × V)} (e : H a = some (.dT kvs)) : TyOf K H (.ref a) (.type "dict")
  | ins {a C dx : Addr} {fs : List (Str × V)} (e : H a = some (.ins C dx fs)) (cl : Cls K C) (ha : PySem.W.findIn K (.ref C) "__class__" = some (some (.builtin "object.__class__")))
      (hn : PySem.W.specialIn K (.builtin "object.__class__") "__get__" = some (some (.builtin "getset_descriptor.__get__"))) (htk : PySem.W.takesIn K (.builtin "object.__class__") = some true)
      (hm : PySem.W.mroIn K C (.type "object") = some true) : TyOf K H (.ref a) (.ref C)
theorem isinst_ok {x : V} {u t : Value} (I : Inv X pins σ H s) (rx : RelV x u) (ty : TyOf X.K H x t) (e : PySem.W.kitOne X.K t c = some b) (h : ∀ tk, Q (.bool b) { s with toks := tk }) :
    wpAny (model X.prog X.w) A (call (.builtin "isinstance") [u, c]) Q E s := by
  cases ty with
  | non => cases (show u = Value.none from rx); exact PySem.W.kia_one PySem.W.kitx_none I.kIn True.intro e (fun z => nomatch z) h
  | bl y => cases (show u = Value.bool y from rx); exact PySem.W.kia_one PySem.W.kitx_bool I.kIn True.intro e (fun z => nomatch z) h
  | int i => obtain ⟨t, q⟩ := (show ∃ t, u = Value.int i t from rx); cases q; exact PySem.W.kia_one PySem.W.kitx_int I.kIn True.intro e (fun z => nomatch z) h
  | str y => obtain ⟨t, q⟩ := (show ∃ t, u = Value.str y t from rx); cases q; exact PySem.W.kia_one PySem.W.kitx_str I.kIn True.intro e (fun z => nomatch z) h
  | flt y => obtain ⟨t, q⟩ := (show ∃ t, u = Value.float y t from rx); cases q; exact PySem.W.kia_one PySem.W.kitx_float I.kIn True.intro e (fun z => nomatch z) h
  | @lst a xs ea =>
    cases (show u = Value.ref a from rx)
    obtain ⟨_, _, n, _, h1⟩ := (show ObjOk X.prog X.w H s.heap a (.lst xs) from I.hok a _ ea)
    exact PySem.W.kia_one PySem.W.kitx_list I.kIn ⟨_, h1, rfl⟩ e (fun z => nomatch z) h
  | @frz a ob xs ea =>
    cases (show u = Value.ref a from rx)
    obtain ⟨_, _, _, n, _, h1⟩ := (show ObjOk X.prog X.w H s.heap a (.frz ob (.lst xs)) from I.hok a _ ea)
    exact PySem.W.kia_one PySem.W.kitx_list I.kIn ⟨_, h1, rfl⟩ e (fun z => nomatch z) h
  | @tup a xs ea =>
    cases (show u = Value.ref a from rx)
    obtain ⟨_, _, _, p⟩ := (show ObjOk X.prog X.w H s.heap a (.tup xs) from I.hok a _ ea)
    obtain ⟨o, h1, h2, _⟩ := p
    exact PySem.W.kia_one PySem.W.kitx_tuple I.kIn ⟨o, h1, h2⟩ e (fun z => nomatch z) h
  | @dK a kvs ea =>
    cases (show u = Value.ref a from rx)
    obtain ⟨_, _, vs, _, p⟩ := (show ObjOk X.prog X.w H s.heap a (.dK kvs) from I.hok a _ ea)
    obtain ⟨o, es, ep, h1, h2, _⟩ := p
    exact PySem.W.kia_one PySem.W.kitx_dict I.kIn ⟨o, h1, h2.1⟩ e (fun z => nomatch z) h
  | @dT a kvs ea =>
    cases (show u = Value.ref a from rx)
    obtain ⟨_, _, xs, _, o, es, ep, h1, h2, _⟩ := (show ObjOk X.prog X.w H s.heap a (.dT kvs) from I.hok a _ ea)
    exact PySem.W.kia_one PySem.W.kitx_dict I.kIn ⟨o, h1, h2.1⟩ e (fun z => nomatch z) h
  | @ins a C dx fs ea cl ha hn htk hm =>
    cases (show u = Value.ref a from rx)
    obtain ⟨mA, O, _⟩ := ins_get I.hok ea
    obtain ⟨od, J, _⟩ := O.look
    exact PySem.W.kia_one (PySem.W.kitx_own (cl.get _) cl.hd ha hn htk hm) I.kIn J e (fun z => nomatch z) h
end
end L2
namespace L2
open PySem PySem.Spec PyProof.Rows
structure Room (k : Nat) (A : Around) : Prop where
  hd : A.handled = none
  dp : A.depth + 3 * k + 5 < recursionLimit
  un : A.units + 16 * k + 200 < cLine
theorem Room.mono {j k : Nat} {A : Around} (r : Room k A) (h : j ≤ k) : Room j A := ⟨r.hd, by have := r.dp; omega, by have := r.un; omega⟩
theorem Room.deeper {k : Nat} {A : Around} (r : Room (k + 1) A) (env : Env) : Room k (A.deeper env) :=
  ⟨r.hd, by have := r.dp; show A.depth + 1 + 3 * k + 5 < _; omega, by have := r.un; show A.units + 3 + 16 * k + 200 < _; omega⟩
theorem Room.depth {k : Nat} {A : Around} (r : Room k A) : A.depth < recursionLimit := by have := r.dp; omega
theorem Room.units {k : Nat} {A : Around} (r : Room k A) : A.units + 64 < cLine := by have := r.un; omega
def tNil : TA := fun _ H Q => Q [] H
def tCons (ta : TE) (tr : TA) : TA := fun σ H Q => ta σ H fun x H1 => tr σ H1 fun xs H2 => Q (x :: xs) H2
section
variable {X : Cx} {e : Expr} {es : List Expr} {te : TE} {t : TA} {pos : Pos}
theorem pa_nil : PA X [] tNil := fun _ _ _ _ H Q I h => Calls.spliced_nil ⟨[], H, I, .nil, h⟩
theorem pa_cons (ha : PE X e te) (hr : PA X es t) (hs : starEach (e :: es) X.env = (false, eval e X.env) :: starEach es X.env := by rfl) : PA X (e :: es) (tCons te t) := by
  intro pos pins s σ H Q I h
  rw [hs]
  show wpAny _ _ (spliced ((false, eval e X.env) :: backTo pos (starEach es X.env))) _ _ s
  refine Calls.spliced_cons (thn (ha pins s σ H _ I h) fun u s1 ⟨x, H1, I1, r1, q1⟩ => ?_)
  exact thn (hr pos pins s1 σ H1 _ I1 q1) fun us s2 ⟨xs, H2, I2, r2, q2⟩ => ⟨x :: xs, H2, I2, .cons r1 r2, q2⟩
def tTup (t : TA) : TE := fun σ H Q => t σ H fun xs H1 => xs.length ≤ sizeLine ∧ ∀ p, H1 p = none → Q (.ref p) (upd H1 p (.tup xs))
def tLst (t : TA) : TE := fun σ H Q => t σ H fun xs H1 => xs.length ≤ sizeLine ∧ ∀ p, H1 p = none → Q (.ref p) (upd H1 p (.lst xs))
theorem pe_tup {x1} (h : PA X es t) : PE X (.Tuple es x1 pos) (tTup t) := by
  intro pins s σ H Q I hq
  refine wpAny_Tuple_spliced (thn (h pos pins s σ H _ I hq) fun us s1 ⟨xs, H1, I1, r, z, q⟩ => ⟨by rw [← r.length]; exact z, ?_⟩)
  have hf : H1 s1.heap.objs.size = none := I1.hok.fresh (Nat.le_refl _)
  refine ⟨.ref s1.heap.objs.size, upd H1 s1.heap.objs.size (.tup xs), I1.laid (t' := s1.toks) (fun b u e => Heap.get?_push_of_some _ e) (Nat.le_refl _) ?_, rfl, q _ hf⟩
  exact ⟨z, us, r, ⟨_, Heap.get?_push_size _ rfl, rfl, _, rfl⟩⟩
theorem pe_lst (h : PA X es t) : PE X (.List es pos) (tLst t) := by
  intro pins s σ H Q I hq
  refine wpAny_List_spliced (thn (h pos pins s σ H _ I hq) fun us s1 ⟨xs, H1, I1, r, z, q⟩ => ⟨by rw [← r.length]; exact z, ?_⟩)
  have hf : H1 s1.heap.objs.size = none := I1.hok.fresh (Nat.le_refl _)
  refine ⟨.ref s1.heap.objs.size, upd H1 s1.heap.objs.size (.lst xs), I1.laid (t' := s1.toks) (fun b u e => Heap.get?_push_of_some _ e) (Nat.le_refl _) ?_, rfl, q _ hf⟩
  exact ⟨z, us, 0, r, Heap.get?_push_size _ rfl⟩
end
abbrev Sp := List V → Hp → VK → XK → Prop
abbrev CXT := List Env → Hp → Shared → XK → Value → Shared → Prop
structure Env0 (P : Program) (w : World) (K : PySem.W.Frag) (mg : Str → Option Value) (base : Heap) (A : Around) (outer : List Env) (s : Shared) (H : Hp) : Prop where
  frames : A.frames = some outer
  mod : Mod K mg base
  bs : ∀ b o, base.get? b = some o → s.heap.get? b = some o ∧ H b = none
  bsz : base.objs.size ≤ s.heap.objs.size
  funs : s.heap.FunFrames base outer
  frf : ∀ b ∈ frs outer, H b = none
  hok : HOk P w H s.heap
  bare : AllBare s.gens
def CE (outer : List Env) (P : Program) (w : World) (H : Hp) (s : Shared) (Q : VK) (u : Value) (s' : Shared) : Prop :=
  ∃ v H', s'.os = s.os ∧ AllBare s'.gens ∧ Un (frs outer) [] H H' s.heap s'.heap ∧ HOk P w H' s'.heap ∧ RelV v u ∧ Q v H'
def CR (CX : CXT) (outer : List Env) (P : Program) (w : World) (H : Hp) (s : Shared) (Q : VK) (E : XK) (r : Result) (s' : Shared) : Prop :=
  match r with
  | .ok (.ret u) => CE outer P w H s Q u s'
  | .ok _ => False
  | .error e => CX outer H s E e s'
structure FnOk (P : Program) (w : World) (K : PySem.W.Frag) (mg : Str → Option Value) (base : Heap) (CX : CXT) (k : Nat) (f : Addr) (fd : FuncData) (ps : List Str) (sp : Sp) : Prop where
  len : ∀ vs H Q E, sp vs H Q E → vs.length = ps.length
  run : ∀ (A : Around) (outer : List Env) (s : Shared) (H : Hp) (args : Args) (us : List Value) (vs : List V) (Q : VK) (E : XK), Room k A → Env0 P w K mg base A outer s H → BindsTo s fd args (ps.zip us) → Vals vs us → sp vs H Q E →
    codeAny (model P w) A (.call (.ref f) args) (CR CX outer P w H s Q E) s
theorem FnOk.mono {P : Program} {w : World} {K : PySem.W.Frag} {mg : Str → Option Value} {base : Heap} {CX : CXT} {j k : Nat} {f : Addr} {fd : FuncData} {ps : List Str} {sp : Sp} (F : FnOk P w K mg base CX j f fd ps sp) (h : j ≤ k) :
    FnOk P w K mg base CX k f fd ps sp := ⟨F.len, fun A outer s H args us vs Q E hr => F.run A outer s H args us vs Q E (hr.mono h)⟩
section
variable {X : Cx} {pins : List (Addr × Obj)} {σ : St} {H : Hp} {s s' : Shared}
theorem Inv.env0 (I : Inv X pins σ H s) : Env0 X.prog X.w X.K X.mg X.base X.A X.stack s H :=
  ⟨I.ok.frames, I.ok.mod, I.bs, Nat.le_trans I.ok.bsz I.sz, I.stack, I.stkFree, I.hok, I.bare⟩
theorem Inv.after {Q : VK} {u : Value} (I : Inv X pins σ H s) (h : CE X.stack X.prog X.w H s Q u s') : EP X pins σ Q u s' := by
  obtain ⟨v, H', os, bare, un, hok, r, q⟩ := h
  obtain ⟨hh, g, d, t, os'⟩ := s'
  obtain rfl : os' = s.os := os
  exact ⟨v, H', I.call (h' := hh) (g' := g) (d' := d) (t' := t) (ch := []) un hok bare (fun b z => absurd z (by simp)), r, q⟩
end
def tCall (sp : Sp) (dvs : List V) (E : XK) (t : TA) : TE := fun σ H Q => t σ H fun vs H1 => sp (vs ++ dvs) H1 Q E
def Binds (K : PySem.W.Frag) (fd : FuncData) (ps : List Str) (ds : List Value) : Prop :=
  ∀ (s : Shared) (us : List Value), K.In s.heap → (us ++ ds).length = ps.length → BindsTo s fd ⟨us, []⟩ (ps.zip (us ++ ds))
theorem Binds.all {K : PySem.W.Frag} {fd : FuncData} {ps : List Str} (h : ∀ us : List Value, us.length = ps.length → bindArgs fd ⟨us, []⟩ = pure (ps.zip us)) : Binds K fd ps [] := fun s us _ hl => by
  rw [List.append_nil] at hl ⊢
  exact .of_eq (h us hl)
def Passes (CX : CXT) (X : Cx) (E : XK) : Prop := ∀ (pins : List (Addr × Obj)) (σ : St) (H : Hp) (s : Shared) (e : Value) (s' : Shared), Inv X pins σ H s → CX X.stack H s E e s' → X.xe e s'
section
variable {X : Cx} {CX : CXT} {k : Nat} {f C : Addr} {fd : FuncData} {ps : List Str} {sp : Sp} {dvs : List V} {ds : List Value} {E : XK} {x m : Str} {p pos apos : Pos} {e o : Expr} {es : List Expr} {ta : TE} {t : TA}
theorem run_fn {pins : List (Addr × Obj)} {σ : St} {H : Hp} {s : Shared} {Q : VK} {us : List Value} {vs : List V} (F : FnOk X.prog X.w X.K X.mg X.base CX k f fd ps sp) (hr : Room k X.A) (hb : Binds X.K fd ps ds) (hd : Vals dvs ds) (hx : Passes CX X E)
    (I : Inv X pins σ H s) (r : Vals vs us) (h : sp (vs ++ dvs) H Q E) : wpAny (model X.prog X.w) X.A (call (.ref f) us) (EP X pins σ Q) X.xe s := by
  have r2 : Vals (vs ++ dvs) (us ++ ds) := r.append hd
  have hl : (us ++ ds).length = ps.length := by rw [← r2.length]; exact F.len _ _ _ _ h
  refine wpAny_call (codeAny_mono (F.run X.A X.stack s H ⟨us, []⟩ (us ++ ds) (vs ++ dvs) Q E hr I.env0 (hb s us I.kIn hl) r2 h) fun r s' hq => ?_)
  cases r with
  | error e => exact hx pins σ H s e s' I hq
  | ok fl =>
    cases fl with
    | ret u => exact I.after hq
    | next => exact False.elim hq
    | brk => exact False.elim hq
    | cont => exact False.elim hq
theorem pe_call (F : FnOk X.prog X.w X.K X.mg X.base CX k f fd ps sp) (hr : Room k X.A) (hg : Gl X x) (hm : X.mg x = some (.ref f)) (hk : PySem.W.keepIn X.K (.ref f) = true) (hb : Binds X.K fd ps ds) (hd : Vals dvs ds) (hx : Passes CX X E)
    (ha : PA X (e :: es) t) (hdb : (x == ("__debug__" : Str)) = false := by decide) (he : starEach (e :: es) X.env = (false, eval e X.env) :: starEach es X.env := by rfl) (hpl : (backTo pos (starEach es X.env)).any (·.1) = false := by rfl) :
    PE X (.Call (.Name x p) (e :: es) [] pos) (tCall sp dvs E t) := by
  intro pins s σ H Q I h
  refine wpAny_Call_Name_kw (ld_glob I hg hm ?_ hdb)
  refine PySem.W.callWith_K (h₀ := X.base) I.ok.mod.kin hk (thn (ha pos pins s σ H _ I h) fun us s1 ⟨vs, H1, I1, r, q⟩ => ⟨I1.kIn, ?_⟩) he hpl
  exact run_fn F hr hb hd hx I1 r q
end
section
variable {X : Cx} {CX : CXT} {k : Nat} {f C : Addr} {fd : FuncData} {ps ks : List Str} {sp : Sp} {E : XK} {x m : Str} {p pos apos kpos : Pos} {e o : Expr} {es : List Expr} {kws : List Keyword} {te ta : TE} {t tk : TA} {nm : Option Str}
variable {g : List Value → List Value → List Value} {gV : List V → List V → List V}
end
structure FnScope (N P : List Str) (sc : Scope) : Prop where
  kind : sc.kind = .function
  co : sc.isCoroutine = false
  gen : sc.isGenerator = false
  nd : N.Nodup
  pre : N.take P.length = P
  par : ∀ x ∈ P, sc.names.lookup x = some .local ∨ sc.names.lookup x = some .cell
  nofree : ∀ y ∈ sc.names, y.2 ≠ .free
theorem bindL_out {kindOf : Str → Option NameKind} {x : Str} : ∀ {binds : List (Str × Value)} {m : Str → Option Value}, (∀ v, (x, v) ∉ binds) → bindL kindOf binds m x = m x
  | [], _, _ => rfl
  | (n, v) :: r, m, h => by
    unfold bindL
    rw [bindL_out fun w hw => h w (List.mem_cons_of_mem _ hw)]
    split
    · have : x ≠ n := by rintro rfl; exact h v List.mem_cons_self
      simp [this]
    · rfl
theorem bindC_out {kindOf : Str → Option NameKind} {x : Str} : ∀ {binds : List (Str × Value)} {m : Str → Option Value}, (∀ v, (x, v) ∉ binds) → bindC kindOf binds m x = m x
  | [], _, _ => rfl
  | (n, v) :: r, m, h => by
    unfold bindC
    rw [bindC_out fun w hw => h w (List.mem_cons_of_mem _ hw)]
    split
    · rfl
    · have : x ≠ n := by rintro rfl; exact h v List.mem_cons_self
      simp [this]
theorem bindL_get {kindOf : Str → Option NameKind} {x : Str} {v : Value} : ∀ {P : List Str} {vs : List Value} {i : Nat} {m : Str → Option Value}, P.Nodup → P[i]? = some x → vs[i]? = some v → kindOf x = some .local →
    bindL kindOf (P.zip vs) m x = some v
  | [], _, _, _, _, h, _, _ => by simp at h
  | _ :: _, [], _, _, _, _, h, _ => by simp at h
  | p :: P, w :: vs, 0, m, nd, h1, h2, hk => by
    simp at h1 h2; subst h1; subst h2
    show bindL kindOf ((p, w) :: P.zip vs) m p = _
    unfold bindL
    rw [bindL_out fun v hv => (List.nodup_cons.mp nd).1 (List.of_mem_zip hv).1, if_pos hk]
    simp
  | p :: P, w :: vs, i + 1, m, nd, h1, h2, hk => by
    show bindL kindOf ((p, w) :: P.zip vs) m x = _
    unfold bindL
    exact bindL_get (i := i) (List.nodup_cons.mp nd).2 (by simpa using h1) (by simpa using h2) hk
theorem bindC_get {kindOf : Str → Option NameKind} {x : Str} {v : Value} : ∀ {P : List Str} {vs : List Value} {i : Nat} {m : Str → Option Value}, P.Nodup → P[i]? = some x → vs[i]? = some v → kindOf x ≠ some .local →
    bindC kindOf (P.zip vs) m x = some v
  | [], _, _, _, _, h, _, _ => by simp at h
  | _ :: _, [], _, _, _, _, h, _ => by simp at h
  | p :: P, w :: vs, 0, m, nd, h1, h2, hk => by
    simp at h1 h2; subst h1; subst h2
    show bindC kindOf ((p, w) :: P.zip vs) m p = _
    unfold bindC
    rw [bindC_out fun v hv => (List.nodup_cons.mp nd).1 (List.of_mem_zip hv).1, if_neg hk]
    simp
  | p :: P, w :: vs, i + 1, m, nd, h1, h2, hk => by
    show bindC kindOf ((p, w) :: P.zip vs) m x = _
    unfold bindC
    exact bindC_get (i := i) (List.nodup_cons.mp nd).2 (by simpa using h1) (by simpa using h2) hk
def start (N : List Str) (vs : List V) : St := vs.map some ++ List.replicate (N.length - vs.length) none
def cxOf (CX : CXT) (P : Program) (w : World) (K : PySem.W.Frag) (mg : Str → Option Value) (base : Heap) (N : List Str) (qual : Str) (scope : Scope) (f : Addr) (cd : Value) (A : Around) (outer : List Env) (s : Shared) (H : Hp) (E : XK) : Cx where
  prog := P
  w := w
  K := K
  mg := mg
  base := base
  A := A.deeper (envOfC qual scope s.heap.objs.size f cd)
  N := N
  s₀ := s
  H₀ := H
  env := envOfC qual scope s.heap.objs.size f cd
  outer := outer
  stack := envOfC qual scope s.heap.objs.size f cd :: outer
  ex := []
  calm := true
  fn := fun _ => true
  pn := []
  xe := fun e s' => wpAny (model P w) (A.deeper (envOfC qual scope s.heap.objs.size f cd)) (leaving (envOfC qual scope s.heap.objs.size f cd) e) (fun _ s'' => CX outer H s E e s'') (fun e' s'' => CX outer H s E e' s'') s'
theorem cell_has {sc : Scope} {n : Nat} {x : Str} (h : sc.names.lookup x = some .cell) : ∃ c, (cellsFrom n sc.names []).lookup x = some c := by
  have q := PySem.W.cellsFrom_some sc.names n [] (.inl h)
  exact Option.isSome_iff_exists.mp q
theorem inv_start {CX : CXT} {P : Program} {w : World} {K : PySem.W.Frag} {mg : Str → Option Value} {base : Heap} {N ps : List Str} {qual : Str} {scope : Scope} {f : Addr} {cd : Value} {A : Around} {outer : List Env} {s s1 : Shared} {H : Hp} {E : XK} {us : List Value} {vs : List V}
    (S : FnScope N ps scope) (hd : A.handled = none) (e0 : Env0 P w K mg base A outer s H) (hl : vs.length = ps.length) (r : Vals vs us)
    (x : InCallC s s.heap.objs.size (bindL (envOfC qual scope s.heap.objs.size f cd).kindOf (ps.zip us) fun _ => none) (cellsFrom (s.heap.objs.size + 1) scope.names []) (bindC (envOfC qual scope s.heap.objs.size f cd).kindOf (ps.zip us) fun _ => none) s1) :
    Inv (cxOf CX P w K mg base N qual scope f cd A outer s H E) [] (start N vs) H s1 := by
  have hpl : ps.length ≤ N.length := by have := congrArg List.length S.pre; rw [List.length_take] at this; omega
  obtain ⟨h1, tk, rfl, hk⟩ := x.done
  have noA : ∀ b : Addr, b ∉ (cxOf CX P w K mg base N qual scope f cd A outer s H E).ex := fun b z => absurd (show b ∈ ([] : List Addr) from z) (by simp)
  refine ⟨⟨e0.mod, S.kind, rfl, rfl, Nat.le_refl _, fun y z c h1 h2 => ?_, fun y hy => ?_, fun y c _ h => ?_, fun _ => hd, Around.frames_deeper e0.frames, .inr ⟨rfl, rfl⟩, fun b z => absurd z (noA b), e0.bs, e0.bsz, fun b _ _ => noA b, fun b z => absurd z (noA b), e0.funs, e0.frf⟩,
    rfl, e0.bare, Un.kept hk, ⟨_, x.toInCall.ns, fun i y v h1 h2 h3 => ?_⟩, fun y c h => ⟨_, x.cell y c h⟩, e0.hok.fresh (Nat.le_refl _), fun y c h => ?_, fun p hp => absurd (show p ∈ ([] : List (Addr × Obj)) from hp) (by simp), e0.hok.kept hk, ?_⟩
  · exact name_of_addr x.apart (PySem.mem_of_lookup h1) (PySem.mem_of_lookup h2)
  · have hy : scope.names.lookup y = some .cell ∨ scope.names.lookup y = some .free := hy
    rcases hy with hy | hy
    · exact cell_has hy
    · exact absurd rfl (S.nofree _ (PySem.mem_of_lookup hy))
  · exact Nat.le_of_lt (x.above y c (PySem.mem_of_lookup h))
  · have hi : i < vs.length := by
      unfold start at h2
      by_cases hi : i < vs.length
      · exact hi
      · rw [List.getElem?_append_right (by simpa using hi)] at h2
        rw [List.getElem?_replicate] at h2
        split at h2 <;> cases h2
    have ha : vs[i]? = some v := by
      unfold start at h2
      rw [List.getElem?_append_left (by simpa using hi), List.getElem?_map] at h2
      cases e : vs[i]? with
      | none => rw [e] at h2; cases h2
      | some a => rw [e] at h2; cases h2; rfl
    obtain ⟨u, hu, rv⟩ := r.get ha
    have hp : ps[i]? = some y := by
      rw [← S.pre, List.getElem?_take_of_lt (by omega)]; exact h1
    have ndP : ps.Nodup := by rw [← S.pre]; exact S.nd.sublist (List.take_sublist _ _)
    refine ⟨u, rv, ?_⟩
    rcases S.par y (List.mem_of_getElem? hp) with k | k
    · exact .inl ⟨k, bindL_get ndP hp hu k⟩
    · obtain ⟨c, e⟩ := cell_has (n := s.heap.objs.size + 1) k
      refine .inr ⟨.inl k, c, e, ?_⟩
      have q := x.cell y c e
      rw [bindC_get ndP hp hu (by show scope.names.lookup y ≠ _; rw [k]; decide)] at q
      exact q
  · exact e0.hok.fresh (Nat.le_of_lt (x.above y c (PySem.mem_of_lookup h)))
  · unfold start
    show _ = N.length
    rw [List.length_append, List.length_map, List.length_replicate]
    omega
theorem fn_of {CX : CXT} {P : Program} {w : World} {K : PySem.W.Frag} {mg : Str → Option Value} {base : Heap} {k : Nat} {f : Addr} {name qual : Str} {params : Arguments} {body : List Stmt} {scope : Scope} {dV kV doc pm cdv ct oc : Value} {an od : Option Addr}
    {osl : Array (Option Value)} {N ps : List Str} {sp : Sp} (lk : K.lookup f = some ⟨oc, od, .func (PySem.W.fnOf name qual params body scope dV kV doc pm an cdv ct), osl⟩) (hcd : PySem.W.codeIn K cdv qual = true) (S : FnScope N ps scope)
    (len : ∀ vs H Q E, sp vs H Q E → vs.length = ps.length)
    (hbody : ∀ (A : Around) (outer : List Env) (s : Shared) (H : Hp) (vs : List V) (Q : VK) (E : XK), Room k (A.deeper (envOfC qual scope s.heap.objs.size f cdv)) → sp vs H Q E →
      ∃ t, PSs (cxOf CX P w K mg base N qual scope f cdv A outer s H E) body t ∧ t { nx := fun _ H' => Q .non H', rt := Q } (start N vs) H) :
    FnOk P w K mg base CX (k + 1) f (PySem.W.fnOf name qual params body scope dV kV doc pm an cdv ct) ps sp := by
  refine ⟨len, fun A outer s H args us vs Q E hr e0 hb r hsp => ?_⟩
  have hl := len _ _ _ _ hsp
  have KX : K.In s.heap := e0.mod.kin.keeps fun b o e => (e0.bs b o e).1
  have lim : s.heap.NoLimit := e0.mod.nolimit.keeps fun b o e => (e0.bs b o e).1
  have hkind : ∀ y ∈ ps.zip us, scope.names.lookup y.1 = some .local ∨ (scope.names.lookup y.1 = some .cell ∧ ((cellsFrom (s.heap.objs.size + 1) scope.names []).lookup y.1).isSome = true) := fun ⟨n, v⟩ hy => by
    rcases S.par n (List.of_mem_zip hy).1 with q | q
    · exact .inl q
    · exact .inr ⟨q, PySem.W.cellsFrom_some _ _ _ (.inl q)⟩
  refine codeAny_call_function hr.depth (KX _ _ lk) rfl S.co S.gen rfl (PySem.W.codeRec_of KX hcd) (hb _ _ _ _ ?_)
  refine wpAny_newFunctionEnv_cells S.kind hkind fun env he s1 x => ?_
  subst he
  refine ⟨lim.keeps x.toInCall.keep, codeAny_func ?_⟩
  obtain ⟨t, ht, hq⟩ := hbody A outer s H vs Q E (hr.deeper _) hsp
  have I : Inv (cxOf CX P w K mg base N qual scope f cdv A outer s H E) [] (start N vs) H s1 := inv_start S hr.hd e0 hl r x
  refine wpAny_mono (ht [] s1 (start N vs) H _ I hq) (fun fl s' hs => ?_) fun e s' hs => hs
  have fin : ∀ {σ' : St} {H' : Hp} {v : V} {u : Value}, Inv (cxOf CX P w K mg base N qual scope f cdv A outer s H E) [] σ' H' s' → RelV v u → Q v H' → CE outer P w H s Q u s' :=
    fun {σ' H' v u} J rv q => ⟨v, H', J.os, J.bare, J.base, J.hok, rv, q⟩
  cases fl with
  | ret u =>
    obtain ⟨v, σ', H', J, rv, q⟩ := hs
    exact fin J rv q
  | next =>
    obtain ⟨σ', H', J, q⟩ := hs
    exact fin (v := V.non) (u := Value.none) J rfl q
  | brk =>
    obtain ⟨_, _, _, q⟩ := hs
    exact False.elim q
  | cont =>
    obtain ⟨_, _, _, q⟩ := hs
    exact False.elim q
end L2
namespace L2
open PySem PySem.Spec PyProof.Rows
section
variable {X : Cx} {x : Str} {p pos : Pos} {e : Expr} {es : List Expr} {t : TA} {id T : String} {r : List V → Hp → VK → Prop}
def tCB (r : List V → Hp → VK → Prop) (t : TA) : TE := fun σ H Q => t σ H fun vs H1 => r vs H1 Q
theorem pe_callB (hc : CallR X (.builtin id) r) (hg : Gl X x) (hm : X.mg x = none) (hv : bootBuiltins x = some (.builtin id)) (ha : PA X (e :: es) t) (hn : x ≠ "__name__" := by decide) (hdb : (x == ("__debug__" : Str)) = false := by decide)
    (he : starEach (e :: es) X.env = (false, eval e X.env) :: starEach es X.env := by rfl) (hpl : (backTo pos (starEach es X.env)).any (·.1) = false := by rfl) : PE X (.Call (.Name x p) (e :: es) [] pos) (tCB r t) := by
  intro pins s σ H Q I h
  refine wpAny_Call_Name_kw (ld_blt I hg hm hv ?_ hn hdb)
  exact PyProof.Rows.callWith_builtin1 (thn (ha pos pins s σ H _ I h) fun us s1 ⟨vs, H1, I1, r1, q1⟩ => hc pins s1 σ H1 vs us Q I1 r1 q1) he hpl
theorem pe_callTy (hc : CallR X (.type T) r) (hg : Gl X x) (hm : X.mg x = none) (hv : bootBuiltins x = some (.type T)) (ha : PA X (e :: es) t) (hn : x ≠ "__name__" := by decide) (hdb : (x == ("__debug__" : Str)) = false := by decide)
    (he : starEach (e :: es) X.env = (false, eval e X.env) :: starEach es X.env := by rfl) (hpl : (backTo pos (starEach es X.env)).any (·.1) = false := by rfl) : PE X (.Call (.Name x p) (e :: es) [] pos) (tCB r t) := by
  intro pins s σ H Q I h
  refine wpAny_Call_Name_kw (ld_blt I hg hm hv ?_ hn hdb)
  exact PyProof.Rows.callWith_type1 (thn (ha pos pins s σ H _ I h) fun us s1 ⟨vs, H1, I1, r1, q1⟩ => hc pins s1 σ H1 vs us Q I1 r1 q1) he hpl
end
end L2
namespace HT
open PySem PyProof.Rows
section
open PySem.SeqAt
open PySem.AutoSeq1 (wpAny_loadPart')
open PySem.MeetsSeq PySem.MeetsSeq2 PySem.MeetsSeq3
end
section
variable {prog : Program} {w : World} {A : Around} {E : Value → Shared → Prop} {s : Shared}
end
end HT
namespace L2
open PySem PySem.Spec PyProof.Rows
section
variable {X : Cx} {e : Expr} {te : TE} {lo hi : Option Expr} {tl th : TO} {pos p2 : Pos}
end
end L2
namespace L2
open PySem PySem.Spec PyProof.Rows
def ixN (n : Nat) (i : Int) : Option Nat := if 0 ≤ i then (if i < n then some i.toNat else none) else if -(n : Int) ≤ i then some (i + n).toNat else none
def atI {α : Type} (xs : List α) (i : Int) : Option α := (ixN xs.length i).bind fun j => xs[j]?
theorem ixN_seq {n : Nat} {i : Int} {j : Nat} (h : ixN n i = some j) : seqIndex? i n = some j ∧ j < n ∧ -(n : Int) ≤ i ∧ i < n := by
  unfold ixN at h
  by_cases h0 : 0 ≤ i
  · rw [if_pos h0] at h
    by_cases h1 : i < n
    · rw [if_pos h1] at h
      have e : i.toNat = j := Option.some.inj h
      exact ⟨by rw [seqIndex_of h0 h1, e], by omega, by omega, h1⟩
    · rw [if_neg h1] at h; cases h
  · rw [if_neg h0] at h
    by_cases h1 : -(n : Int) ≤ i
    · rw [if_pos h1] at h
      have e : (i + n).toNat = j := Option.some.inj h
      exact ⟨by rw [seqIndex_neg (by omega) h1, e], by omega, h1, by omega⟩
    · rw [if_neg h1] at h; cases h
theorem atI_get {α : Type} {xs : List α} {i : Int} {v : α} (h : atI xs i = some v) : ∃ j, seqIndex? i xs.length = some j ∧ xs[j]? = some v ∧ j < xs.length ∧ -(xs.length : Int) ≤ i ∧ i < xs.length := by
  unfold atI at h
  cases e : ixN xs.length i with
  | none => rw [e] at h; cases h
  | some j =>
    rw [e] at h
    obtain ⟨h1, h2, h3, h4⟩ := ixN_seq e
    exact ⟨j, h1, h, h2, h3, h4⟩
theorem atI_nat {α : Type} {xs : List α} {j : Nat} {v : α} (h : xs[j]? = some v) : atI xs (j : Int) = some v := by
  have hj : j < xs.length := (List.getElem?_eq_some_iff.mp h).1
  have e : ixN xs.length (j : Int) = some j := by
    unfold ixN
    rw [if_pos (by omega), if_pos (by omega)]; simp
  unfold atI; rw [e]; exact h
def PlainIx (b : Expr) : Prop := ∀ o i, subscripted b false o i = operate [o, i] (getItem o i)
def IxR (X : Cx) (r : R2) : Prop :=
  ∀ (value slice : Expr) (pins : List (Addr × Obj)) (s : Shared) (σ : St) (H : Hp) (x y : V) (v u : Value) (Q : VK), Inv X pins σ H s → RelV x v → RelV y u → r x y H Q →
    subscripted slice false v u = operate [v, u] (getItem v u) → wpAny (model X.prog X.w) X.A (subscriptTail value slice v u) (EP X pins σ Q) X.xe s
def MtR (X : Cx) (id : String) (r : V → List V → Hp → VK → Prop) : Prop :=
  ∀ (pins : List (Addr × Obj)) (s : Shared) (σ : St) (H : Hp) (x : V) (xs : List V) (v : Value) (us : List Value) (Q : VK), Inv X pins σ H s → RelV x v → Vals xs us → r x xs H Q →
    wpAny (model X.prog X.w) X.A (call (.builtin id) (v :: us)) (EP X pins σ Q) X.xe s
section
variable {X : Cx} {a b : Expr} {ta tb : TE} {pos : Pos}
theorem pe_ix {r : R2} (hr : IxR X r) (ha : PE X a ta) (hb : PE X b tb) (hs : PlainIx b) : PE X (.Subscript a b pos) (tOp r ta tb) := by
  intro pins s σ H Q I h
  exact Subscript_ (binT ha hb I h fun v u s2 x y H2 I2 rx ry q => hr a b pins s2 σ H2 x y v u Q I2 rx ry q (hs _ _))
def rIxL (K : PySem.W.Frag) : R2 := fun x y H Q => ∃ p xs i v, x = .ref p ∧ y = .int i ∧ SqL K H p xs ∧ atI xs i = some v ∧ Q v H
def rIxT (K : PySem.W.Frag) : R2 := fun x y H Q => ∃ p xs i v, x = .ref p ∧ y = .int i ∧ SqT K H p xs ∧ atI xs i = some v ∧ Q v H
theorem ix_list : IxR X (rIxL X.K) := by
  intro value slice pins s σ H x y v u Q I rx ry h hs
  obtain ⟨p, xs, i, z, rfl, rfl, hq, he, q⟩ := h
  cases rx
  obtain ⟨t, rfl⟩ := ry
  obtain ⟨its, r, pl, hz⟩ := I.list hq
  obtain ⟨j, h1, h2, h3, h4, h5⟩ := atI_get he
  obtain ⟨w, ew, rw'⟩ := r.get h2
  have hl := r.length
  have hn := line63
  have fin : EP X pins σ Q w s := ⟨z, H, I, rw', q⟩
  by_cases h0 : 0 ≤ i
  · have hj : i.toNat = j := by
      rw [seqIndex_of h0 h5] at h1
      exact Option.some.inj h1
    exact item_listR pl.isList h0 (by omega) (by rw [hj]; simpa using ew) fin hs
  · have hj : (i + (its.toArray.size : Int)).toNat = j := by
      rw [seqIndex_neg (by omega) h4] at h1
      rw [List.size_toArray, ← hl]
      exact Option.some.inj h1
    exact subscriptTail_builtinR (x := w) pl.isList.typeIs slot_list_getitem.lookup
      (wpAny_getItem_list_neg (Q := fun r s' => r = w ∧ EP X pins σ Q r s') pl.isList (by omega) (by rw [List.size_toArray] <;> omega) (by omega) (by rw [hj]; simpa using ew) ⟨rfl, fin⟩) hs
theorem ix_tup : IxR X (rIxT X.K) := by
  intro value slice pins s σ H x y v u Q I rx ry h hs
  obtain ⟨p, xs, i, z, rfl, rfl, hq, he, q⟩ := h
  cases rx
  obtain ⟨t, rfl⟩ := ry
  obtain ⟨its, r, pl, hz⟩ := I.tuple hq
  obtain ⟨j, h1, h2, h3, h4, h5⟩ := atI_get he
  obtain ⟨w, ew, rw'⟩ := r.get h2
  have hl := r.length
  have hn := line63
  have fin : EP X pins σ Q w s := ⟨z, H, I, rw', q⟩
  exact subscriptTail_builtinR (x := w) pl.typeIs slot_tuple_getitem.lookup
    (getItem_tuple (j := j) (Q := fun r s' => r = w ∧ EP X pins σ Q r s') pl (by omega) (by omega) (by rw [List.size_toArray, ← hl]; exact h1) (by simpa using ew) ⟨rfl, fin⟩) hs
theorem mapSeq_set (its : List Value) (n j : Nat) (u : Value) : Obj.mapSeq (·.setIfInBounds j u) { cls := .type "list", data := .seq its.toArray n } = { cls := .type "list", data := .seq (its.set j u).toArray n } := by
  simp [Obj.mapSeq]
theorem Inv.lst {pins : List (Addr × Obj)} {σ : St} {H : Hp} {s : Shared} {p : Addr} {xs : List V} (I : Inv X pins σ H s) (h : H p = some (.lst xs)) :
    ∃ (its : List Value) (n : Nat), Vals xs its ∧ s.heap.get? p = some { cls := .type "list", data := .seq its.toArray n } ∧ xs.length ≤ sizeLine := by
  obtain ⟨z, its, n, r, e⟩ := I.hok p _ h
  exact ⟨its, n, r, e, z⟩
theorem Inv.lstUpd {pins : List (Addr × Obj)} {σ : St} {H : Hp} {s : Shared} {p : Addr} {xs ys : List V} {its its' : List Value} {n n' : Nat} {f : Obj → Obj} (I : Inv X pins σ H s) (h : H p = some (.lst xs))
    (ho : s.heap.get? p = some { cls := .type "list", data := .seq its.toArray n }) (hf : f { cls := .type "list", data := .seq its.toArray n } = { cls := .type "list", data := .seq its'.toArray n' }) (r : Vals ys its') (hz : ys.length ≤ sizeLine) (t : Nat) :
    Inv X pins σ (upd H p (.lst ys)) { s with heap := s.heap.update p f, toks := t } := by
  have e : (s.heap.update p f).get? p = some { cls := .type "list", data := .seq its'.toArray n' } := by
    rw [Heap.get?_update_self f ho (by rw [hf] <;> rfl), hf]
  refine I.write (x := p) (e := p) (by rw [h]; trivial) (.inl rfl) (fun b u hb q => (Heap.get?_update_other _ _ (Ne.symm hb)).trans q) ⟨_, e⟩ ?_
  exact ⟨hz, its', n', r, e⟩
def rSetL : V → V → V → Hp → (Hp → Prop) → Prop := fun o i v H Q => ∃ p xs k j, o = .ref p ∧ i = .int k ∧ H p = some (.lst xs) ∧ ixN xs.length k = some j ∧ Q (upd H p (.lst (xs.set j v)))
theorem set_list : PSet X rSetL := by
  intro pins s σ H o i v ov iv u Q I ro ri rv h
  obtain ⟨p, xs, k, j, rfl, rfl, hp, hj, q⟩ := h
  cases ro
  obtain ⟨t, rfl⟩ := ri
  obtain ⟨its, n, r, ho, hz⟩ := I.lst hp
  obtain ⟨h1, h2, h3, h4⟩ := ixN_seq hj
  have hl := r.length
  have hn := line63
  have I' : Inv X pins σ (upd H p (.lst (xs.set j v))) { s with heap := s.heap.update p (Obj.mapSeq (·.setIfInBounds j u)) } :=
    I.lstUpd hp ho (mapSeq_set its n j u) (r.set rv j) (by rw [List.length_set]; exact hz) s.toks
  by_cases h0 : 0 ≤ k
  · have hk : k.toNat = j := by
      rw [seqIndex_of h0 h4] at h1
      exact Option.some.inj h1
    exact PySem.W.ki_setAt ho h0 (by omega) (by rw [List.size_toArray, ← hl]; exact h4) (by rw [hk]; exact ⟨_, I', q⟩)
  · have hk : (k + (its.toArray.size : Int)).toNat = j := by
      rw [seqIndex_neg (by omega) h3] at h1
      rw [List.size_toArray, ← hl]
      exact Option.some.inj h1
    exact PySem.W.ki_setBack ho (by omega) (by rw [List.size_toArray, ← hl]; exact h3) (by omega) (by rw [hk]; exact ⟨_, I', q⟩)
theorem call_len_seq : CallR X (.builtin "len") (fun xs H Q => ∃ p ys, xs = [.ref p] ∧ (SqL X.K H p ys ∨ SqT X.K H p ys) ∧ Q (.int ys.length) H) := by
  intro pins s σ H xs us Q I r h
  obtain ⟨p, ys, rfl, hq, q⟩ := h
  obtain ⟨u, rfl, rx⟩ := vals1 r
  cases rx
  have hn := line63
  rcases hq with hq | hq
  · obtain ⟨its, r', pl, hz⟩ := I.list hq
    have hlen := r'.length
    exact Calls.call_len_list pl.isList (by simp only [List.size_toArray] <;> omega) ⟨.int ys.length, H, I.tok _, ⟨s.toks + 1, by rw [List.size_toArray, hlen]⟩, q⟩
  · obtain ⟨its, r', pl, hz⟩ := I.tuple hq
    have hlen := r'.length
    exact len_tuple pl (by simp only [List.size_toArray] <;> omega) ⟨.int ys.length, H, I.tok _, ⟨s.toks + 1, by rw [List.size_toArray, hlen]⟩, q⟩
theorem call_list_of : CallR X (.type "list") (fun xs H Q => ∃ p ys, xs = [.ref p] ∧ (SqL X.K H p ys ∨ SqT X.K H p ys) ∧ ∀ l, H l = none → Q (.ref l) (upd H l (.lst ys))) := by
  intro pins s σ H xs us Q I r h
  obtain ⟨p, ys, rfl, hq, q⟩ := h
  obtain ⟨u, rfl, rx⟩ := vals1 r
  cases rx
  have fin : ∀ (its : List Value), Vals ys its → ys.length ≤ sizeLine → ∀ (h' : Heap) (c' : Nat), (∀ b o', s.heap.get? b = some o' → h'.get? b = some o') →
      h'.get? s.heap.objs.size = some { cls := .type "list", dict := none, data := .seq its.toArray c', slots := #[] } → EP X pins σ Q (.ref s.heap.objs.size) { s with heap := h' } := fun its r' hz h' c' kp e =>
    ⟨.ref s.heap.objs.size, _, I.laid (t' := s.toks) kp (Nat.le_refl _) (show ObjOk X.prog X.w _ h' _ (.lst ys) from ⟨hz, its, c', r', e⟩), rfl, q _ (I.hok.fresh (Nat.le_refl _))⟩
  rcases hq with hq | hq
  · obtain ⟨its, r', pl, hz⟩ := I.list hq
    have hlen := r'.length
    obtain ⟨o, ho, hc, n, hd⟩ := pl.isList
    exact call_list_seq p (.inl rfl) ho hc hd (fun h' c' kp e => fin its r' hz h' c' kp e) (by simp only [List.size_toArray] <;> omega)
  · obtain ⟨its, r', pl, hz⟩ := I.tuple hq
    have hlen := r'.length
    obtain ⟨o, ho, hc, n, hd⟩ := pl
    exact call_list_seq p (.inr rfl) ho hc hd (fun h' c' kp e => fin its r' hz h' c' kp e) (by simp only [List.size_toArray] <;> omega)
def tyV (K : PySem.W.Frag) (T : String) (x : V) (H : Hp) : Prop := match x with
  | .str _ => T = "str"
  | .int _ => T = "int"
  | .ref p => (T = "list" ∧ ∃ xs, SqL K H p xs) ∨ (T = "tuple" ∧ ∃ o, K.lookup p = some o ∧ o.cls = .type "tuple" ∧ o.dict = none) ∨
      (T = "dict" ∧ ((∃ kvs, H p = some (.dK kvs)) ∨ ∃ kvs, H p = some (.dT kvs))) ∨ (T = "set" ∧ ∃ S n, H p = some (.set S n))
  | _ => False
theorem tyV_is {pins : List (Addr × Obj)} {σ : St} {H : Hp} {s : Shared} {T : String} {x : V} {v : Value} (I : Inv X pins σ H s) (r : RelV x v) (ty : tyV X.K T x H) :
    s.TypeIs v T ∧ ∀ a, v = .ref a → ∃ ob, s.heap.get? a = some ob ∧ ob.dict = none := by
  cases x with
  | str z =>
    obtain ⟨t, rfl⟩ := r
    cases (show T = "str" from ty)
    exact ⟨typeIs_str s z t, fun _ e => nomatch e⟩
  | int i =>
    obtain ⟨t, rfl⟩ := r
    cases (show T = "int" from ty)
    exact ⟨typeIs_int s i t, fun _ e => nomatch e⟩
  | ref p =>
    cases r
    rcases ty with ⟨rfl, xs, hq⟩ | ⟨rfl, o, hk, hc, hd⟩ | ⟨rfl, hk⟩ | ⟨rfl, S, n, hk⟩
    · obtain ⟨its, _, pl, _⟩ := I.list hq
      refine ⟨pl.isList.typeIs, fun a e => ?_⟩
      cases e
      obtain ⟨o, n, e, c, hd, _⟩ := pl
      exact ⟨o, e, hd⟩
    · refine ⟨⟨o, I.kIn p o hk, hc⟩, fun a e => ?_⟩
      cases e
      exact ⟨o, I.kIn _ o hk, hd⟩
    · have z : ∃ o, s.heap.get? p = some o ∧ o.ExactDict := by
        rcases hk with ⟨kvs, hk⟩ | ⟨kvs, hk⟩
        · obtain ⟨_, _, _, _, o, _, _, e, ex, _⟩ := I.hok p _ hk
          exact ⟨o, e, ex⟩
        · obtain ⟨_, _, _, _, o, _, _, e, ex, _⟩ := I.hok p _ hk
          exact ⟨o, e, ex⟩
      obtain ⟨o, e, ex⟩ := z
      refine ⟨⟨o, e, ex.1⟩, fun a e2 => ?_⟩
      cases e2
      exact ⟨o, e, ex.2.1⟩
    · obtain ⟨o, _, _, _, e, ex, _⟩ := I.hok p _ hk
      refine ⟨⟨o, e, ex.1⟩, fun a e2 => ?_⟩
      cases e2
      exact ⟨o, e, ex.2.1⟩
  | _ => exact False.elim ty
def tBM (K : PySem.W.Frag) (T : String) (r : V → List V → Hp → VK → Prop) (to : TE) (t : TA) : TE := fun σ H Q => to σ H fun x H1 => tyV K T x H1 ∧ t σ H1 fun xs H2 => r x xs H2 Q
variable {o e : Expr} {es : List Expr} {to : TE} {t : TA} {name : Str} {apos cpos : Pos} {T id : String} {r : V → List V → Hp → VK → Prop}
theorem pe_bm (pa : PlainAttrs T) (slot : Slot T name id) (hty : typeOf (.builtin id) = pure (.type "method_descriptor")) (hm : MtR X id r) (ho : PE X o to) (ha : PA X (e :: es) t)
    (hbase : attributeBase o name X.env (eval o X.env) = eval o X.env := by rfl)
    (hfew : ((backTo cpos (starEach (e :: es) X.env)).all (fun x => !x.1) && (backToKw cpos (keywordEach [] X.env)).all (fun x => x.1.isSome)
      && decide ((e :: es).length + ([] : List Keyword).length + (if ([] : List Keyword).isEmpty then 0 else 1) < 30)) = true := by rfl)
    (hline : (apos.endLine == cpos.line) = true := by rfl) (hs : starEach (e :: es) X.env = (false, eval e X.env) :: starEach es X.env := by rfl) (hplain : (backTo cpos (starEach es X.env)).any (·.1) = false := by rfl) :
    PE X (.Call (.Attribute o name apos) (e :: es) [] cpos) (tBM X.K T r to t) := by
  intro pins s σ H Q I h
  refine wpAny_Call_method_late hbase hfew hline rfl (thn (ho pins s σ H _ I h) fun v s1 ⟨x, H1, I1, r1, ty, q1⟩ => ?_)
  obtain ⟨h1, h2⟩ := tyV_is I1 r1 ty
  refine ⟨T, id, pa, slot, hty, h1, h2, ?_⟩
  have hA := ha cpos pins s1 σ H1 _ I1 q1
  rw [hs] at hA ⊢
  refine Calls.callWith_builtin (by show (false || (backTo cpos (starEach es X.env)).any (·.1)) = false; rw [hplain] <;> rfl) (Calls.evalArgs_plain ?_)
  exact thn hA fun us s2 ⟨vs, H2, I2, r2, q2⟩ => hm pins s2 σ H2 x vs v us Q I2 r1 r2 q2
end
end L2
namespace L2
open PySem PySem.Spec PyProof.Rows
def MtM (X : Cx) (id : String) (r : V → List V → Hp → VK → Prop) : Prop :=
  ∀ (pins : List (Addr × Obj)) (s : Shared) (σ : St) (H : Hp) (x : V) (xs : List V) (v : Value) (us : List Value) (Q : VK), Inv X pins σ H s → RelV x v → Vals xs us → r x xs H Q →
    wpAny (model X.prog X.w) X.A (call (.builtin id) (v :: us)) (EP X pins σ Q) X.xe s
theorem Vals.one : ∀ {x : V} {us : List Value}, Vals [x] us → ∃ u, us = [u] ∧ RelV x u
  | _, _, .cons r .nil => ⟨_, rfl, r⟩
theorem Vals.two : ∀ {x y : V} {us : List Value}, Vals [x, y] us → ∃ u v, us = [u, v] ∧ RelV x u ∧ RelV y v
  | _, _, _, .cons r (.cons q .nil) => ⟨_, _, rfl, r, q⟩
theorem Vals.rep {xs : List V} {us : List Value} (h : Vals xs us) : ∀ k : Nat, Vals (List.replicate k xs).flatten (List.replicate k us).flatten
  | 0 => .nil
  | k + 1 => by
    rw [List.replicate_succ, List.replicate_succ, List.flatten_cons, List.flatten_cons]
    exact Vals.append h (Vals.rep h k)
theorem foldl_rep (its : List Value) : ∀ (k : Nat) (acc : List Value),
    List.foldl (fun x1 x2 => x1 ++ x2) acc.toArray (List.replicate k its.toArray) = (acc ++ (List.replicate k its).flatten).toArray
  | 0, acc => by simp
  | k + 1, acc => by
    have e : acc.toArray ++ its.toArray = (acc ++ its).toArray := by simp
    have e2 : (acc ++ its) ++ (List.replicate k its).flatten = acc ++ (List.replicate (k + 1) its).flatten := by
      rw [List.replicate_succ, List.flatten_cons, List.append_assoc]
    rw [← e2, ← foldl_rep its k (acc ++ its), ← e, List.replicate_succ, List.foldl_cons]
section
variable {X : Cx} {pins : List (Addr × Obj)} {σ : St} {H : Hp} {s : Shared} {l b : Addr} {xs ys zs : List V}
theorem Inv.lset {its its' : List Value} {n : Nat} {f : Array Value → Array Value} {t' : Nat} (I : Inv X pins σ H s) (hH : H l = some (.lst xs))
    (e : s.heap.get? l = some { cls := .type "list", data := .seq its.toArray n }) (hf : f its.toArray = its'.toArray) (hv : Vals ys its') (hz : ys.length ≤ sizeLine) :
    Inv X pins σ (upd H l (.lst ys)) { s with heap := s.heap.update l (Obj.mapSeq f), toks := t' } := by
  have q := PySem.IsL.update e f
  rw [hf] at q
  refine I.write (x := l) (e := l) (by rw [hH]; exact trivial) (.inl rfl) (fun b' u hb hu => (Heap.get?_update_other s.heap (Obj.mapSeq f) (Ne.symm hb)).trans hu) ⟨_, q⟩ ?_
  exact ⟨hz, its', _, hv, q⟩
theorem Inv.lnew {its : List Value} {t' : Nat} (I : Inv X pins σ H s) (hv : Vals ys its) (hz : ys.length ≤ sizeLine) :
    Inv X pins σ (upd H s.heap.objs.size (.lst ys)) { s with heap := s.heap.push { cls := .type "list", data := .seq its.toArray }, toks := t' } :=
  I.laid (fun _ _ q => Heap.get?_push_of_some _ q) (Nat.le_refl _) ⟨hz, its, 0, hv, Heap.get?_push_size _ rfl⟩
theorem Inv.fresh (I : Inv X pins σ H s) : H s.heap.objs.size = none := I.hok.fresh (Nat.le_refl _)
theorem Inv.lstM (I : Inv X pins σ H s) (hH : H l = some (.lst xs)) : xs.length ≤ sizeLine ∧ ∃ (its : List Value) (n : Nat), Vals xs its ∧ xs.length = its.length ∧ s.heap.get? l = some { cls := .type "list", data := .seq its.toArray n } := by
  obtain ⟨z, its, n, r, e⟩ := I.hok l _ hH
  exact ⟨z, its, n, r, r.length, e⟩
theorem notLongL {n : Nat} (h : n ≤ sizeLine) : Builtin.List.listTooLong n = false := by
  unfold Builtin.List.listTooLong
  exact decide_eq_false (by omega)
end
section
variable {X : Cx}
def rAppend : V → List V → Hp → VK → Prop := fun x vs H Q => ∃ l xs y, x = .ref l ∧ vs = [y] ∧ H l = some (.lst xs) ∧ xs.length < sizeLine ∧ Q .non (upd H l (.lst (xs ++ [y])))
theorem mt_append : MtM X "list.append" rAppend := by
  intro pins s σ H x vs v us Q I rx rv h
  obtain ⟨l, xs, y, rfl, rfl, hH, hz, q⟩ := h
  cases rx
  obtain ⟨u, rfl, ru⟩ := rv.one
  obtain ⟨z, its, n, r, hl, e⟩ := I.lstM hH
  refine call_meets F.slot_list_append ⟨_, e, rfl⟩ F.entry_list_append (F.args_list_append_2 _ _) (PySem.list_append l its.toArray n u (by rw [List.size_toArray]; omega)) ⟨e, ?_⟩
  refine ⟨.non, _, I.lset (its' := its ++ [u]) hH e (by simp) (r.append (.cons ru .nil)) ?_, rfl, q⟩
  rw [List.length_append, List.length_singleton]
  omega
def rRep : R2 := fun x y H Q => ∃ l k xs, x = .ref l ∧ y = .int k ∧ H l = some (.lst xs) ∧ -(2 ^ 63) ≤ k ∧ k < 2 ^ 63 ∧ xs.length * k.toNat ≤ sizeLine ∧
  ∀ p, H p = none → Q (.ref p) (upd H p (.lst (List.replicate k.toNat xs).flatten))
theorem len_rep {α : Type} (xs : List α) (k : Nat) : (List.replicate k xs).flatten.length = k * xs.length := by
  induction k with
  | zero => simp
  | succ k ih => rw [List.replicate_succ, List.flatten_cons, List.length_append, ih, Nat.succ_mul, Nat.add_comm]
theorem op_rep : OpR X (binaryOp .Mult) rRep := by
  intro pins s σ H x y v u Q I rx ry h
  obtain ⟨l, k, xs, rfl, rfl, hH, h1, h2, hz, q⟩ := h
  cases rx
  obtain ⟨t, rfl⟩ := ry
  obtain ⟨z, its, n, r, hl, e⟩ := I.lstM hH
  have hlen : its.toArray.size * k.toNat ≤ sizeLine := by rw [List.size_toArray, ← hl]; exact hz
  have hcap : ¬ its.toArray.size * k.toNat > (2 ^ 63 - 1) / 8 := by
    have : (sizeLine : Nat) ≤ (2 ^ 63 - 1) / 8 := by decide
    omega
  have hfit : ¬ (!Builtin.List.listFitsIndex k) = true := by
    rw [fitsIndex_both h1 h2]
    exact Bool.false_ne_true
  have hlong : ¬ Builtin.List.listTooLong (its.toArray.size * k.toNat) = true := by
    rw [notLongL hlen]
    exact Bool.false_ne_true
  have hnew : List.foldl (fun x1 x2 => x1 ++ x2) #[] (List.replicate (if its.toArray.isEmpty = true then 0 else k.toNat) its.toArray) = (List.replicate k.toNat its).flatten.toArray := by
    have f0 : ∀ m : Nat, List.foldl (fun x1 x2 => x1 ++ x2) #[] (List.replicate m its.toArray) = (List.replicate m its).flatten.toArray := fun m => by
      have := foldl_rep its m []
      rw [List.nil_append] at this
      exact this
    rw [f0]
    cases its with
    | nil => simp
    | cons a r' => rw [if_neg (by simp)]
  refine wpAny_binaryOp_repeat_ref (T := "list") (U := "int") (by decide) ⟨_, e, rfl⟩ (fun s' => typeIs_int s' k t) noFill_list_mul F.fills_int_mul F.slot_int_rmul repeat_list F.slot_int_index.lookup
    (call_meets F.slot_int_rmul (typeIs_int s k t) F.entry_int_rmul (F.args_int_rmul_2 _ _) (int___rmul___int_list k t l its.toArray n)
      ⟨e, rfl, ⟨_, e, rfl⟩, call_meets F.slot_list_mul ⟨_, e, rfl⟩ F.entry_list_mul (F.args_list_mul_2 _ _) (AutoListH.list___mul___list_int_3 l its.toArray n k t hfit hcap hlong) ⟨e, ?_⟩⟩)
  rw [hnew]
  exact ⟨.ref _, _, I.lnew (t' := s.toks) (r.rep k.toNat) (by rw [len_rep, Nat.mul_comm]; exact hz), rfl, q _ I.fresh⟩
end
section
variable {prog : Program} {w : World} {A : Around} {E : Value → Shared → Prop} {s : Shared}
end
section
variable {X : Cx}
end
end L2
namespace Att
open PySem PySem.W PySem.Calls PyProof.Rows
theorem ints_of_wellAll {P : Params} {h : Heap} : ∀ (ns : List Int) (vs : List Value), WellAll P h vs (ns.map WData.int) → IntsAre vs ns := by
  intro ns
  induction ns with
  | nil =>
    intro vs w
    rw [List.map_nil] at w
    cases w
    exact .nil
  | cons n ns ih =>
    intro vs w
    rw [List.map_cons] at w
    cases w with
    | cons a b =>
      cases a
      exact .cons _ _ (ih _ b)
theorem script_of {l : OpenLaw} {n : Nat} (hn : l.most = some n) {P : Params} {h : Heap} {args : List WData} {vals : List Value}
    (hpre : l.row.toRowW.claim.pre args = true) (hwl : WellAll P h vals args) :
    ∃ a vs ns, vals = [Value.ref a] ∧ args = [WData.list (ns.map WData.int)] ∧ h.get? a = some { cls := .type "list", data := .seq vs.toArray } ∧ IntsAre vs ns ∧ ns.length ≤ n := by
  have hsh : WShape.hasAll [] args [.list .int] = true := (pre_splitW hpre).1
  have hc : l.pre.holds [] { args := args } = true := (pre_splitW hpre).2
  obtain ⟨d, r, rfl, h1, h2⟩ := hasAllW_cons hsh
  obtain rfl := hasAllW_nil h2
  obtain ⟨xs, rfl, h3⟩ := hasW_list h1
  obtain ⟨ns, rfl⟩ := items_int h3
  have hlen : ns.length ≤ n := by
    unfold OpenLaw.pre at hc
    have h4 : (WTm.not (.lt (.lit (.int (n : Int))) (.len (.arg 0)))).holds [] { args := [.list (ns.map .int)] } = true := by
      have h4 := (holds_andW hc).1
      rw [hn] at h4
      exact h4
    have h5 := condW_of h4 (w_not (w_lt w_lit (w_len_list (w_arg rfl))))
    rw [List.length_map] at h5
    refine Nat.le_of_not_lt fun q => ?_
    have q' : (n : Int) < ((ns.length : Nat) : Int) := by omega
    first
      | (rw [decide_eq_true q'] at h5; exact absurd h5 (by decide))
      | (simp at h5; omega)
  cases hwl with
  | cons w1 w2 =>
    cases w2
    cases w1 with
    | list ho hall => exact ⟨_, _, ns, rfl, rfl, ho, ints_of_wellAll ns _ hall, hlen⟩
theorem post_true (l : OpenLaw) (args : List WData) : l.row.toRowW.claim.post args (.bool true) args = true :=
  postW_of (r := l.row.toRowW) (X := (true == true))
    (show WShape.has [] (.bool true) .bool = true by first | rfl | decide | simp [WShape.has, WShape.arms, WShape.armsAll])
    (show (WTm.eq .res (.lit (.bool true))).value [] { args := args, res := some (.bool true), after := args } = some (.bool (true == true)) from w_eq_bool (w_res rfl) w_lit) rfl
theorem attach_call {l : OpenLaw} {n : Nat} {q : Program} {loose : List Str} {XP : (Str → Option Value) → Heap → Prop} {YP : World → Heap → Prop} {d : DefRec}
    (hn : l.most = some n) (hdf : d.params.defaults = [])
    (call : ∀ (w : World) (s₀ s₁ : Shared) (mg mb : Str → Option Value) (fa : Addr) (o : Obj) (pm cd doc : Value) (a : Addr) (vs : List Value) (ns : List Int),
      Ground q loose [] XP w s₀ mg mb s₁.heap → YP w s₁.heap →
      s₁.heap.get? fa = some o → o.data = .func (docDef d.name d.params d.body d.scope pm cd doc) → s₁.heap.CodeRec cd d.name → mg d.name = some (.ref fa) →
      s₁.heap.get? a = some { cls := .type "list", data := .seq vs.toArray } → IntsAre vs ns → ns.length ≤ n → s₁.gens = #[] →
      codeAny (model l.prog w) callerA (.call (.ref fa) ⟨[.ref a], []⟩) (fun r s' => r = .ok (.ret (.bool true)) ∧ OldK s₁.heap s'.heap ∧ s'.os = s₁.os ∧ AllBare s'.gens) s₁) :
    WalkO q loose XP YP l.row.toRowW d [] (fun f vs => PySem.call f vs) := by
  intro w s₀ s₁ mg mb G Y fa o pm cd doc dV kV ho hd hcd hD hmg hg args vals as hpre hlay hrd hwl hlo
  obtain rfl : dV = .none := Dflts.none hD hdf
  obtain rfl : kV = .none := Dflts.noKw hD
  obtain ⟨a, vs, ns, rfl, rfl, hobj, hints, hlen⟩ := script_of hn hpre hwl
  refine enter_call (codeAny_mono (call w s₀ s₁ mg mb fa o pm cd doc a vs ns G Y ho (fd_plain hd) hcd hmg hobj hints hlen hg) fun r s' hq => ?_)
  obtain ⟨rfl, h2, h3, h4⟩ := hq
  exact ⟨.inl ⟨.bool true, .bool true, [], rfl, fun _ => rfl, .bool true, post_true l _, fun _ => ⟨List.Pairwise.nil, fun _ hm => (nomatch hm)⟩⟩, h2, h3, h4⟩
section
variable {prog : Program} {w : World} {A : Around} {E : Value → Shared → Prop} {s : Shared} {K : Frag}
end
end Att
namespace L2
open PySem PySem.Spec PyProof.Rows
theorem vals_ints : ∀ {vs : List Value} {ns : List Int}, IntsAre vs ns → Vals (ns.map V.int) vs
  | _, _, .nil => .nil
  | _, _, .cons n t h => .cons ⟨t, rfl⟩ (vals_ints h)
def Only (H : Hp) : Prop := ∀ b, H b = none ∨ ∃ o xs, H b = some (.frz o (.lst xs))
theorem law_call {P : Program} {w : World} {K : PySem.W.Frag} {mg mb : Str → Option Value} {CX : CXT} {k : Nat} {fa a : Addr} {fd : FuncData} {x : Str} {sp : Sp} {s₁ : Shared} {vs : List Value} {ns : List Int}
    (KX : K.In s₁.heap) (hns : s₁.heap.Ns mainGlobals mg) (hb : s₁.heap.Ns builtinsNs mb) (hbb : ∀ x : Str, x ≠ "__name__" → mb x = bootBuiltins x) (hlim : s₁.heap.NoLimit) (hg : s₁.gens = #[])
    (ha : s₁.heap.get? a = some { cls := .type "list", data := .seq vs.toArray }) (hi : IntsAre vs ns) (hl : ns.length ≤ sizeLine) (hr : Room k callerA)
    (F : ∀ base : Heap, K.In base → base.Ns mainGlobals mg → FnOk P w K mg base CX k fa fd [x] sp) (hbind : ∀ (s : Shared) (u : Value), BindsTo s fd ⟨[u], []⟩ [(x, u)])
    (hsp : ∀ H : Hp, Only H → SqL K H a (ns.map V.int) → sp [.ref a] H (fun v _ => v = .bl true) fun _ _ _ => False)
    (hCX : ∀ H e s', CX [] H s₁ (fun _ _ _ => False) e s' → False) :
    codeAny (model P w) callerA (.call (.ref fa) ⟨[.ref a], []⟩) (fun r s' => r = .ok (.ret (.bool true)) ∧ OldK s₁.heap s'.heap ∧ s'.os = s₁.os ∧ AllBare s'.gens) s₁ := by
  have rv := vals_ints hi
  have lenV := hi.length
  have core : ∀ H : Hp, Only H → SqL K H a (ns.map V.int) → HOk P w H s₁.heap → (∀ b, H b ≠ none → b = a) → (H a ≠ none → K.lookup a = none) →
      codeAny (model P w) callerA (.call (.ref fa) ⟨[.ref a], []⟩) (fun r s' => r = .ok (.ret (.bool true)) ∧ OldK s₁.heap s'.heap ∧ s'.os = s₁.os ∧ AllBare s'.gens) s₁ := by
    intro H hO hS hok hA hK
    have base_of : ∀ {b : Addr} {o : Obj}, s₁.heap.get? b = some o → H b = none → (hidT s₁.heap H).get? b = some o := fun e n => hidT_get e n
    have noA : ∀ {b : Addr} {o : Obj} {es : Array DictEntry} {ep : Nat}, s₁.heap.get? b = some o → o.data = .dict es ep → H b = none := fun {b o es ep} e d => by
      cases q : H b with
      | none => rfl
      | some u =>
        have e' : b = a := hA b (by rw [q]; simp)
        subst e'
        rw [ha] at e; cases e
        have d' : Data.seq vs.toArray _ = Data.dict es ep := d
        cases d'
    have nsK : ∀ {b : Addr} {m : Str → Option Value}, s₁.heap.Ns b m → (hidT s₁.heap H).Ns b m := fun {b m} ⟨o, es, ep, e, d, r⟩ => ⟨o, es, ep, base_of e (noA e d), d, r⟩
    have hKb : K.In (hidT s₁.heap H) := fun b o e => base_of (KX b o e) (by
      cases q : H b with
      | none => rfl
      | some u =>
        have e' : b = a := hA b (by rw [q]; simp)
        subst e'
        rw [hK (by rw [q]; simp)] at e; cases e)
    have hM : Mod K mg (hidT s₁.heap H) := ⟨hKb, nsK hns, ⟨mb, nsK hb, hbb⟩, let ⟨mc, h1, h2⟩ := hlim; ⟨mc, nsK h1, h2⟩⟩
    have e0 : Env0 P w K mg (hidT s₁.heap H) callerA [] s₁ H := ⟨rfl, hM, fun b o e => of_hidT e, Nat.le_of_eq (hidT_size _ _), trivial, fun b hb => absurd (show b ∈ ([] : List Addr) from hb) (by simp), hok, .of_eq hg⟩
    refine codeAny_mono ((F _ hKb (nsK hns)).run callerA [] s₁ H ⟨[.ref a], []⟩ [.ref a] [.ref a] _ _ hr e0 (hbind s₁ (.ref a)) (.cons rfl .nil) (hsp H hO hS)) fun r s' h => ?_
    cases r with
    | error e => exact (hCX H e s' h).elim
    | ok fl =>
      cases fl with
      | next => exact False.elim h
      | brk => exact False.elim h
      | cont => exact False.elim h
      | ret u =>
        obtain ⟨v, H', os, bare, un, hok', r', q⟩ := h
        have q' : v = .bl true := q
        subst q'
        obtain rfl : u = Value.bool true := r'
        refine ⟨rfl, OldK.of_keep fun b o e => ?_, os, bare⟩
        cases q : H b with
        | none => exact un.keep b o e q (by intro z; exact absurd (show b ∈ ([] : List Addr) from z) (by simp)) (by simp)
        | some u =>
          rcases hO b with z | ⟨ob, xs, z⟩
          · rw [q] at z; cases z
          · have z2 := un.frzs b ob _ z
            obtain ⟨e1, _⟩ := hok b _ z
            obtain ⟨e2, _⟩ := hok' b _ z2
            rw [e] at e1; cases e1
            exact e2
  cases hk : K.lookup a with
  | some o =>
    have e := KX a o hk
    rw [ha] at e
    cases e
    refine core (fun _ => none) (fun _ => .inl rfl) (.inr ⟨_, vs.toArray, _, hk, rfl, rfl, rfl, by rw [List.size_toArray, lenV]; exact hl, by simpa using rv⟩) (fun b u z => by have z' : (none : Option HO) = some u := z; cases z') (fun b z => absurd rfl z) fun z => absurd rfl z
  | none =>
    refine core (fun b => if b = a then some (.frz { cls := .type "list", data := .seq vs.toArray } (.lst (ns.map V.int))) else none) (fun b => ?_) (.inl (.inr ⟨{ cls := .type "list", data := .seq vs.toArray }, if_pos rfl⟩)) (fun b u z => ?_) (fun b z => ?_) fun _ => hk
    · by_cases hb : b = a
      · exact .inr ⟨_, _, if_pos hb⟩
      · exact .inl (if_neg hb)
    · by_cases hb : b = a
      · have z' := (if_pos hb).symm.trans z
        cases z'
        subst hb
        exact ⟨ha, by rw [List.length_map]; exact hl, vs, _, rv, ha⟩
      · have z' := (if_neg hb).symm.trans z
        cases z'
    · by_cases hb : b = a
      · exact hb
      · exact absurd (if_neg hb) z
end L2
namespace L2
open PySem PySem.Spec PyProof.Rows
theorem walk_of {l : PySem.W.OpenLaw} {n k : Nat} {q : Program} {loose : List Str} {XP : (Str → Option Value) → Heap → Prop} {YP : World → Heap → Prop} {d : DefRec} {K : Params → PySem.W.Frag} {CX : World → CXT} {sp : World → Sp} {x : Str}
    (hn : l.most = some n) (hn2 : n ≤ sizeLine) (hdf : d.params.defaults = []) (hr : Room k callerA)
    (hY : ∀ (w : World) (h : Heap), YP w h → (K w.params).In h)
    (F : ∀ (w : World) (mg : Str → Option Value) (fa : Addr) (h : Heap), (K w.params).In h → h.Ns mainGlobals mg → mg d.name = some (.ref fa) →
      ∃ fd : FuncData, (∀ (s : Shared) (u : Value), BindsTo s fd ⟨[u], []⟩ [(x, u)]) ∧
        ∀ base : Heap, (K w.params).In base → base.Ns mainGlobals mg → FnOk l.prog w (K w.params) mg base (CX w) k fa fd [x] (sp w))
    (hsp : ∀ (w : World) (H : Hp) (a : Addr) (ns : List Int), ns.length ≤ n → Only H → SqL (K w.params) H a (ns.map V.int) → sp w [.ref a] H (fun v _ => v = .bl true) fun _ _ _ => False)
    (hCX : ∀ (w : World) (H : Hp) (s : Shared) (e : Value) (s' : Shared), CX w [] H s (fun _ _ _ => False) e s' → False) :
    PySem.W.WalkO q loose XP YP l.row.toRowW d [] (fun f vs => PySem.call f vs) := by
  refine Att.attach_call hn hdf fun w s₀ s₁ mg mb fa o pm cd doc a vs ns G Y ho hd hcd hmg hobj hints hlen hg => ?_
  have KX := hY w _ Y
  obtain ⟨fd, hb, hF⟩ := F w mg fa _ KX G.T.g hmg
  exact law_call KX G.T.g G.T.b G.T.builtins G.T.nolimit hg hobj hints (Nat.le_trans hlen hn2) hr hF hb (fun H hO hS => hsp w H a ns hlen hO hS) fun H e s' => hCX w H s₁ e s'
end L2
namespace L2
open PySem PySem.Spec PyProof.Rows
def defArgs (s : Stmt) : Arguments := match s with
  | .FunctionDef _ a _ _ _ _ _ _ _ _ => a
  | _ => { posonlyargs := [], args := [], vararg := none, kwonlyargs := [], kw_defaults := [], kwarg := none, defaults := [] }
def defBody (s : Stmt) : List Stmt := match s with
  | .FunctionDef _ _ b _ _ _ _ _ _ _ => b
  | _ => []
def defScope (s : Stmt) : Scope := match s with
  | .FunctionDef _ _ _ _ _ _ sc _ _ _ => sc
  | _ => { kind := .function, names := [], isGenerator := false, isCoroutine := false }
abbrev CX0 : CXT := fun _ _ _ _ _ _ => False
abbrev E0 : XK := fun _ _ _ => False
theorem pass0 {X : Cx} : Passes CX0 X E0 := fun _ _ _ _ _ _ _ h => h.elim
structure Fun (K : PySem.W.Frag) (x qual : Str) (st : Stmt) (f : Addr) (fd : FuncData) : Prop where
  ex : ∃ (oc : Value) (od : Option Addr) (kV doc pm : Value) (an : Option Addr) (cdv ct : Value) (osl : Array (Option Value)),
    fd = PySem.W.fnOf x qual (defArgs st) (defBody st) (defScope st) .none kV doc pm an cdv ct ∧ K.lookup f = some ⟨oc, od, .func fd, osl⟩ ∧ PySem.W.codeIn K cdv qual = true
  kp : PySem.W.keepIn K (.ref f) = true
section
variable {P : Program} {w : World} {K : PySem.W.Frag} {mg : Str → Option Value} {base : Heap}
theorem Fun.ok {x qual : Str} {st : Stmt} {f : Addr} {fd : FuncData} {N ps : List Str} {k : Nat} {sp : Sp} (F : Fun K x qual st f fd) (S : FnScope N ps (defScope st)) (len : ∀ vs H Q E, sp vs H Q E → vs.length = ps.length)
    (hbody : ∀ (cdv : Value) (A : Around) (outer : List Env) (s : Shared) (H : Hp) (vs : List V) (Q : VK) (E : XK), Room k (A.deeper (envOfC qual (defScope st) s.heap.objs.size f cdv)) → sp vs H Q E →
      ∃ t, PSs (cxOf CX0 P w K mg base N qual (defScope st) f cdv A outer s H E).nox (defBody st) t ∧ t { nx := fun _ H' => Q .non H', rt := Q } (start N vs) H) : FnOk P w K mg base CX0 (k + 1) f fd ps sp := by
  obtain ⟨oc, od, kV, doc, pm, an, cdv, ct, osl, rfl, lk, hcd⟩ := F.ex
  refine fn_of lk hcd S len fun A outer s H vs Q E hr hsp => ?_
  obtain ⟨t, h, q⟩ := hbody cdv A outer s H vs Q E hr hsp
  exact ⟨t, h.nox, q⟩
theorem Fun.binds {x qual : Str} {st : Stmt} {f : Addr} {fd : FuncData} {ps : List Str} (F : Fun K x qual st f fd)
    (h : ∀ (kV doc pm : Value) (an : Option Addr) (cdv ct : Value) (us : List Value), us.length = ps.length → bindArgs (PySem.W.fnOf x qual (defArgs st) (defBody st) (defScope st) .none kV doc pm an cdv ct) ⟨us, []⟩ = pure (ps.zip us)) : Binds K fd ps [] := by
  obtain ⟨oc, od, kV, doc, pm, an, cdv, ct, osl, rfl, lk, hcd⟩ := F.ex
  exact .all (h kV doc pm an cdv ct)
theorem fun_mk {x qual : Str} {st : Stmt} {f : Addr} {oc : Value} {od an : Option Addr} {osl : Array (Option Value)} {kV doc pm cdv ct : Value} (l : K.lookup f = some ⟨oc, od, .func (PySem.W.fnOf x qual (defArgs st) (defBody st) (defScope st) .none kV doc pm an cdv ct), osl⟩)
    (c : PySem.W.codeIn K cdv qual = true) (k : PySem.W.keepIn K (.ref f) = true) : Fun K x qual st f (PySem.W.fnOf x qual (defArgs st) (defBody st) (defScope st) .none kV doc pm an cdv ct) := ⟨⟨oc, od, kV, doc, pm, an, cdv, ct, osl, rfl, l, c⟩, k⟩
end
section
variable {X : Cx}
theorem pv (i : Nat) {x : Str} {pos : Pos} (hN : X.N[i]? = some x := by rfl) (hv : Vis X.env.scope x := by first | exact Or.inl rfl | exact Or.inr (Or.inl rfl) | exact Or.inr (Or.inr rfl)) (hd : (x == ("__debug__" : Str)) = false := by decide)
    (hcd : (x == ("__classdict__" : Str)) = false := by decide) : PE X (.Name x pos) (tVar i) := pe_var hN hv hd hcd
end
theorem iteF {A B : Prop} (h : B) : if false = true then A else B := by
  rw [if_neg Bool.false_ne_true]
  exact h
theorem iteT {A B : Prop} (h : A) : if true = true then A else B := by
  rw [if_pos rfl]
  exact h
theorem ite2 {c A B : Prop} [Decidable c] (h1 : c → A) (h2 : ¬ c → B) : if c then A else B := by
  by_cases h : c
  · rw [if_pos h]
    exact h1 h
  · rw [if_neg h]
    exact h2 h
def Same (H H' : Hp) : Prop := ∀ b o, H b = some o → H' b = some o
theorem Same.refl (H : Hp) : Same H H := fun _ _ h => h
theorem Same.trans {H H1 H2 : Hp} (a : Same H H1) (b : Same H1 H2) : Same H H2 := fun c o h => b c o (a c o h)
theorem Same.free {H H' : Hp} (e : Same H H') {l : Addr} (h : H' l = Option.none) : H l = Option.none := by
  cases q : H l with
  | none => rfl
  | some o =>
    rw [e l o q] at h
    cases h
theorem Same.seq {K : PySem.W.Frag} {H H' : Hp} {a : Addr} {xs : List V} (e : Same H H') (h : SqL K H a xs) : SqL K H' a xs := by
  rcases h with (h | ⟨o, h⟩) | h
  · exact .inl (.inl (e _ _ h))
  · exact .inl (.inr ⟨o, e _ _ h⟩)
  · exact .inr h
end L2
set_option Elab.async false
namespace FM
def gi (a b : Int) : Int := (Int.gcd a b : Int)
theorem gcd_step (a b : Int) : Int.gcd b (a.fmod b) = Int.gcd a b := by
  have e : a.fmod b = a - b * a.fdiv b := Int.fmod_def a b
  rw [e, Int.gcd_comm a b]
  exact Int.gcd_sub_mul_left_right b a (a.fdiv b)
theorem fmod_less (a b : Int) (hb : b ≠ 0) : (a.fmod b).natAbs < b.natAbs := by
  rcases Int.lt_or_gt_of_ne hb with h | h
  · have h1 : -(a.fmod b) = (-a).fmod (-b) := by
      rw [Int.fmod_def, Int.fmod_def, Int.neg_fdiv_neg]
      have : -b * a.fdiv b = -(b * a.fdiv b) := Int.neg_mul _ _
      omega
    have h2 := Int.fmod_nonneg_of_pos (-a) (show 0 < -b by omega)
    have h3 := Int.fmod_lt_of_pos (-a) (show 0 < -b by omega)
    omega
  · have h2 := Int.fmod_nonneg_of_pos a h
    have h3 := Int.fmod_lt_of_pos a h
    omega
theorem gi_pos {a b : Int} (hb : b ≠ 0) : 0 < gi a b := by
  have : 0 < Int.gcd a b := Int.gcd_pos_of_ne_zero_right a hb
  unfold gi; omega
theorem gi_le {a b : Int} (hb : b ≠ 0) : (gi a b).natAbs ≤ b.natAbs := by
  have h : Int.gcd a b ∣ b.natAbs := by
    have := Int.gcd_dvd_right a b
    exact Int.natAbs_dvd_natAbs.mpr this
  have h2 : 0 < b.natAbs := by omega
  have := Nat.le_of_dvd h2 h
  unfold gi; omega
def gs (t b : Int) : Int := if b < 0 then -gi t b else gi t b
theorem gs_ne {t b : Int} (hb : b ≠ 0) : gs t b ≠ 0 := by
  have := gi_pos (a := t) hb
  unfold gs; split <;> omega
theorem gs_le {t b : Int} (hb : b ≠ 0) : (gs t b).natAbs ≤ b.natAbs := by
  have := gi_le (a := t) hb
  unfold gs; split <;> omega
theorem fdiv_exact {g x k : Int} (hg : g ≠ 0) (e : x = g * k) : x.fdiv g = k := by
  subst e
  exact Int.mul_fdiv_cancel_left k hg
theorem gi_dvd_left (a b : Int) : gi a b ∣ a := Int.gcd_dvd_left a b
theorem gi_dvd_right (a b : Int) : gi a b ∣ b := Int.gcd_dvd_right a b
theorem num_eq {t b : Int} (hb : b ≠ 0) : t.fdiv (gs t b) = (Rat.divInt t b).num := by
  have hp := gi_pos (a := t) hb
  obtain ⟨k, hk⟩ := gi_dvd_left t b
  rw [Rat.num_divInt, Int.gcd_comm b t]
  show t.fdiv (gs t b) = b.sign * t / gi t b
  unfold gs
  generalize gi t b = g at hp hk ⊢
  rcases Int.lt_or_gt_of_ne hb with h | h
  · rw [if_pos h, Int.sign_eq_neg_one_of_neg h, fdiv_exact (k := -k) (by omega) (by rw [hk]; simp [Int.mul_neg, Int.neg_mul])]
    have : -1 * t = g * (-k) := by rw [hk]; simp [Int.mul_neg]
    rw [this, Int.mul_ediv_cancel_left _ (by omega)]
  · rw [if_neg (by omega), Int.sign_eq_one_of_pos h, fdiv_exact (k := k) (by omega) hk, Int.one_mul, hk, Int.mul_ediv_cancel_left _ (by omega)]
theorem den_eq {t b : Int} (hb : b ≠ 0) : b.fdiv (gs t b) = ((Rat.divInt t b).den : Int) := by
  have hp := gi_pos (a := t) hb
  obtain ⟨k, hk⟩ := gi_dvd_right t b
  rw [Rat.den_divInt, if_neg hb, Int.gcd_comm b t]
  have e : (((b.natAbs / Int.gcd t b : Nat)) : Int) = (b.natAbs : Int) / gi t b := by unfold gi; simp
  rw [e]
  unfold gs
  generalize gi t b = g at hp hk ⊢
  rcases Int.lt_or_gt_of_ne hb with h | h
  · rw [if_pos h, fdiv_exact (k := -k) (by omega) (by rw [Int.neg_mul_neg]; exact hk)]
    have : (b.natAbs : Int) = g * (-k) := by rw [Int.mul_neg, ← hk]; omega
    rw [this, Int.mul_ediv_cancel_left _ (by omega)]
  · rw [if_neg (by omega), fdiv_exact (k := k) (by omega) hk]
    have : (b.natAbs : Int) = g * k := by rw [← hk]; omega
    rw [this, Int.mul_ediv_cancel_left _ (by omega)]
end FM
namespace FM
theorem gcd_abs (a b : Int) : Int.gcd (if a < 0 then -a else a) (if b < 0 then -b else b) = Int.gcd a b := by
  split <;> split <;> simp [Int.gcd_neg, Int.neg_gcd]
theorem abs_nonneg (a : Int) : 0 ≤ (if a < 0 then -a else a) := by split <;> omega
theorem gi_end {g a b : Int} (h : Int.gcd g 0 = Int.gcd a b) (h0 : 0 ≤ g) : g = gi a b := by
  unfold gi
  rw [← h, Int.gcd_zero_right]
  omega
theorem gi_end' {g a b : Int} (h : Int.gcd g 0 = Int.gcd a b) : (if g < 0 then -g else g) = gi a b := by
  unfold gi
  rw [← h, Int.gcd_zero_right]
  split <;> omega
theorem fmod_nonneg {g l : Int} (hl : l ≠ 0) (h : 0 ≤ l) : 0 ≤ g.fmod l := Int.fmod_nonneg_of_pos g (by omega)
end FM
set_option Elab.async false
set_option linter.all false
set_option maxRecDepth 100000
namespace L2
open PySem PySem.Spec PyProof.Rows
section
variable {X : Cx}
def CMulW (i j : Int) : Prop := ∃ m : Nat, m ≤ 1000000 ∧ i.natAbs < 2 ^ m ∧ j.natAbs < 2 ^ m
theorem CMulW.ok {i j : Int} (h : CMulW i j) : IntMulOk i j := by
  obtain ⟨m, hm, h1, h2⟩ := h
  exact IntMulOk.of_le (intBits_le_iff.mpr h1) (intBits_le_iff.mpr h2) (by omega)
theorem op_mulW : OpR X (binaryOp .Mult) (rI (fun i j => CMul i j ∨ CMulW i j) fun i j => .int (i * j)) :=
  opI fun _ _ _ _ _ _ _ hc q => mul_int q (hc.elim (fun z => z.ok) fun z => z.ok)
def CDivW (_i j : Int) : Prop := j ≠ 0 ∧ ∃ m : Nat, m ≤ 9000 ∧ j.natAbs < 2 ^ m
theorem op_fdivW : OpR X (binaryOp .FloorDiv) (rI CDivW fun i j => .int (i.fdiv j)) := opI fun i j _ _ _ _ _ hc q => by
  obtain ⟨h0, m, hm, h1⟩ := hc
  refine floordiv_int h0 q (.inl (PyProof.noPylong_of_log2 ?_))
  have hne : j.natAbs ≠ 0 := by omega
  have : j.natAbs.log2 < m := (Nat.log2_lt hne).mpr h1
  omega
mutual
def Br (K : PySem.W.Frag) (H : Hp) : PyData → V → Prop
  | .none, v => v = .non
  | .bool b, v => v = .bl b
  | .int i, v => v = .int i
  | .str x, v => v = .str x
  | .tuple ds, v => ∃ a xs, v = .ref a ∧ SqT K H a xs ∧ BrAll K H ds xs
  | .list ds, v => ∃ a xs, v = .ref a ∧ SqL K H a xs ∧ BrAll K H ds xs
  | .dict _, _ => False
def BrAll (K : PySem.W.Frag) (H : Hp) : List PyData → List V → Prop
  | [], xs => xs = []
  | d :: ds, xs => ∃ x r, xs = x :: r ∧ Br K H d x ∧ BrAll K H ds r
end
theorem Same.tup {K : PySem.W.Frag} {H H' : Hp} {a : Addr} {xs : List V} (e : Same H H') (h : SqT K H a xs) : SqT K H' a xs := by
  rcases h with (h | ⟨o, h⟩) | h
  · exact .inl (.inl (e _ _ h))
  · exact .inl (.inr ⟨o, e _ _ h⟩)
  · exact .inr h
mutual
theorem Br.reads {pins : List (Addr × Obj)} {σ : St} {H : Hp} {s : Shared} (I : Inv X pins σ H s) : ∀ {d : PyData} {v : V} {u : Value}, Br X.K H d v → RelV v u → ∃ as, Reads s.heap u d as
  | .none, _, u, h, r => by rw [Br] at h; subst h; cases r; exact ⟨_, .none⟩
  | .bool b, _, u, h, r => by rw [Br] at h; subst h; cases r; exact ⟨_, .bool b⟩
  | .int i, _, u, h, r => by rw [Br] at h; subst h; obtain ⟨t, rfl⟩ := r; exact ⟨_, .int i t⟩
  | .str x, _, u, h, r => by rw [Br] at h; subst h; obtain ⟨t, rfl⟩ := r; exact ⟨_, .str x t⟩
  | .tuple ds, _, u, h, r => by
    rw [Br] at h
    obtain ⟨a, xs, e1, h1, h2⟩ := h
    subst e1
    cases r
    obtain ⟨its, rv, ⟨o, e, c, n, hd⟩, _⟩ := I.tuple h1
    obtain ⟨as, ra⟩ := BrAll.reads I h2 rv
    exact ⟨_, .tuple e c hd (by simpa using ra)⟩
  | .list ds, _, u, h, r => by
    rw [Br] at h
    obtain ⟨a, xs, e1, h1, h2⟩ := h
    subst e1
    cases r
    obtain ⟨its, rv, ⟨o, n, e, c, _, hd⟩, _⟩ := I.list h1
    obtain ⟨as, ra⟩ := BrAll.reads I h2 rv
    exact ⟨_, .list e c hd (by simpa using ra)⟩
  | .dict _, _, _, h, _ => by rw [Br] at h; exact h.elim
theorem BrAll.reads {pins : List (Addr × Obj)} {σ : St} {H : Hp} {s : Shared} (I : Inv X pins σ H s) : ∀ {ds : List PyData} {xs : List V} {us : List Value}, BrAll X.K H ds xs → Vals xs us → ∃ as, ReadsAll s.heap us ds as
  | [], _, us, h, r => by rw [BrAll] at h; subst h; cases r; exact ⟨_, .nil⟩
  | _ :: _, _, us, h, r => by
    rw [BrAll] at h
    obtain ⟨x, q, e1, h1, h2⟩ := h
    subst e1
    cases r with
    | cons r1 r2 =>
      obtain ⟨as, ra⟩ := Br.reads I h1 r1
      obtain ⟨bs, rb⟩ := BrAll.reads I h2 r2
      exact ⟨_, .cons ra rb⟩
end
def rEqD (K : PySem.W.Frag) (neg : Bool) : R2 := fun x y H Q => ∃ d e, Br K H d x ∧ Br K H e y ∧ SeqAt.shaped d = true ∧ SeqAt.shaped e = true ∧ Q (.bl (if neg then !PyData.eqv d e else PyData.eqv d e)) H
theorem op_eqD (hu : X.A.units + 64 < cLine) : OpR X (compareOp .Eq) (rEqD X.K false) := by
  intro pins s σ H x y v u Q I rx ry h
  obtain ⟨d, e, h1, h2, s1, s2, q⟩ := h
  obtain ⟨as, ra⟩ := Br.reads I h1 rx
  obtain ⟨bs, rb⟩ := Br.reads I h2 ry
  exact eq_dataH ra rb s1 s2 hu ⟨.bl _, H, I, rfl, q⟩
theorem op_neD (hu : X.A.units + 64 < cLine) : OpR X (compareOp .NotEq) (rEqD X.K true) := by
  intro pins s σ H x y v u Q I rx ry h
  obtain ⟨d, e, h1, h2, s1, s2, q⟩ := h
  obtain ⟨as, ra⟩ := Br.reads I h1 rx
  obtain ⟨bs, rb⟩ := Br.reads I h2 ry
  exact ne_dataH ra rb s1 s2 hu ⟨.bl _, H, I, rfl, q⟩
end
end L2
set_option Elab.async false
namespace L2
open PySem PySem.Spec PyProof.Rows
structure Fn (K : PySem.W.Frag) (mg : Str → Option Value) (x : Str) (st : Stmt) (ps : List Str) (f : Addr) (fd : FuncData) : Prop where
  F : Fun K x x st f fd
  b : Binds K fd ps []
  m : mg x = some (.ref f)
section
variable {X : Cx} {k : Nat} {f : Addr} {fd : FuncData} {ps : List Str} {sp : Sp} {x : Str} {st : Stmt} {p pos : Pos} {e : Expr} {es : List Expr} {t : TA}
theorem pe_fn (T : Fn X.K X.mg x st ps f fd) (G : FnOk X.prog X.w X.K X.mg X.base CX0 k f fd ps sp) (hr : Room k X.A) (hg : Gl X x) (ha : PA X (e :: es) t)
    (hdb : (x == ("__debug__" : Str)) = false := by decide) (he : starEach (e :: es) X.env = (false, eval e X.env) :: starEach es X.env := by rfl) (hpl : (backTo pos (starEach es X.env)).any (·.1) = false := by rfl) :
    PE X (.Call (.Name x p) (e :: es) [] pos) (tCall sp [] E0 t) := pe_call G hr hg T.m T.F.kp T.b .nil pass0 ha hdb he hpl
end
theorem seq_join {t u : TS} {D : Ends} {σ : St} {H : Hp} (P : St → Hp → Prop) (h1 : ∀ nx : St → Hp → Prop, (∀ σ' H', P σ' H' → nx σ' H') → t { D with nx := nx } σ H) (h2 : ∀ σ' H', P σ' H' → u D σ' H') : tSeq t u D σ H := h1 _ h2
theorem sz2 : 2 ≤ sizeLine := by decide
theorem sz1 : 1 ≤ sizeLine := by decide
theorem same_new {H : Hp} {p : Addr} (h : H p = none) (o : HO) : Same H (upd H p o) := fun b u q => by rw [upd_ne (ne_of_none q h)]; exact q
def SameBut (l : Addr) (H H' : Hp) : Prop := ∀ b o, b ≠ l → H b = some o → H' b = some o
theorem SameBut.of {l : Addr} {H H' : Hp} (h : Same H H') : SameBut l H H' := fun b o _ q => h b o q
theorem SameBut.trans {l : Addr} {H H1 H2 : Hp} (a : SameBut l H H1) (b : SameBut l H1 H2) : SameBut l H H2 := fun c o n h => b c o n (a c o n h)
theorem SameBut.upd {l : Addr} {H : Hp} {o : HO} : SameBut l H (upd H l o) := fun b u n q => by rw [upd_ne n]; exact q
def ratV (p : Rat) : List V := [.int p.num, .int (p.den : Int)]
theorem Same.but {H H1 H2 : Hp} {l : Addr} (a : Same H H1) (b : SameBut l H1 H2) (hl : H l = none) : Same H H2 := fun c o h => b c o (ne_of_none h hl) (a c o h)
end L2
set_option Elab.async false
set_option linter.all false
set_option maxRecDepth 100000
set_option maxHeartbeats 4000000
namespace L2
open PySem PySem.Spec PyProof.Rows
def PIf (X : Cx) (ifs : List Expr) (t : TT) : Prop :=
  ∀ (pins : List (Addr × Obj)) (s : Shared) (σ : St) (H : Hp) (Q : Bool → Hp → Prop), Inv X pins σ H s → t σ H Q →
    wpAny (model X.prog X.w) X.A (forIn ifs true fun c r => if r = true then do let ok ← isTrue c X.env (eval c X.env); pure (ForInStep.yield ok) else pure (ForInStep.yield r)) (TP X pins σ Q) X.xe s
def tNoIf : TT := fun _ H Q => Q true H
theorem pif_nil {X : Cx} : PIf X [] tNoIf := fun _ _ σ H _ I h => wpAny_tests_nil ⟨H, I, h⟩
def frOk (N XN : List Str) (sc xsc : Scope) : List (Option Nat) → Nat → Bool
  | [], _ => true
  | none :: r, i => frOk N XN sc xsc r (i + 1)
  | some j :: r, i => (match N[i]?, XN[j]? with
      | some n, some m => n == m && sc.names.lookup n == some .free && xsc.names.lookup n == some .cell
      | _, _ => false) && frOk N XN sc xsc r (i + 1)
theorem frOk_get {N XN : List Str} {sc xsc : Scope} : ∀ {fr : List (Option Nat)} {k : Nat}, frOk N XN sc xsc fr k = true → ∀ {i j : Nat}, fr[i]? = some (some j) →
    ∃ n, N[k + i]? = some n ∧ XN[j]? = some n ∧ sc.names.lookup n = some .free ∧ xsc.names.lookup n = some .cell
  | [], _, _, i, j, e => by simp at e
  | none :: r, k, h, 0, j, e => by simp at e
  | none :: r, k, h, i + 1, j, e => by
    have q := frOk_get (fr := r) (k := k + 1) h (i := i) (j := j) (by simpa using e)
    have z : k + (i + 1) = k + 1 + i := by omega
    rw [z]; exact q
  | some j' :: r, k, h, 0, j, e => by
    have e' : j' = j := by simpa using e
    subst e'
    rw [frOk, Bool.and_eq_true] at h
    have h1 := h.1
    split at h1
    · rename_i n m hn hm
      simp only [Bool.and_eq_true, beq_iff_eq] at h1
      obtain ⟨⟨rfl, h2⟩, h3⟩ := h1
      exact ⟨n, by simpa using hn, hm, h2, h3⟩
    · cases h1
  | some j' :: r, k, h, i + 1, j, e => by
    rw [frOk, Bool.and_eq_true] at h
    have q := frOk_get (fr := r) (k := k + 1) h.2 (i := i) (j := j) (by simpa using e)
    have z : k + (i + 1) = k + 1 + i := by omega
    rw [z]; exact q
def carry (fr : List (Option Nat)) (σ : St) : St := fr.map fun o => match o with
  | some j => (σ[j]?).join
  | none => none
theorem carry_get {fr : List (Option Nat)} {σ : St} {i : Nat} {v : V} (h : (carry fr σ)[i]? = some (some v)) : ∃ j, fr[i]? = some (some j) ∧ σ[j]? = some (some v) := by
  unfold carry at h
  rw [List.getElem?_map] at h
  cases e : fr[i]? with
  | none => rw [e] at h; cases h
  | some o =>
    rw [e] at h
    cases o with
    | none => simp at h
    | some j =>
      refine ⟨j, rfl, ?_⟩
      simp only [Option.map_some, Option.some.injEq] at h
      cases q : σ[j]? with
      | none => rw [q] at h; cases h
      | some w => rw [q] at h; simp at h; rw [h]
theorem closure_of {env : Env} : ∀ (names : List (Str × NameKind)) (cs : List (Str × Addr)), (∀ x ∈ names, x.2 = NameKind.free → ∃ c, env.cells.lookup x.1 = some c) → (∀ x c, cs.lookup x = some c → env.cells.lookup x = some c) →
    ∃ cl, (forIn names cs (fun (x : Str × NameKind) (r : List (Str × Addr)) => do if (x.2 == NameKind.free) = true then do let a ← cellOf env x.1; pure (ForInStep.yield ((x.1, a) :: r)) else pure (ForInStep.yield r)) : Sem (List (Str × Addr))) = pure cl ∧
      (∀ x c, cl.lookup x = some c → env.cells.lookup x = some c) ∧ (∀ x, (∃ c, cs.lookup x = some c) → ∃ c, cl.lookup x = some c) ∧ ∀ x ∈ names, x.2 = NameKind.free → ∃ c, cl.lookup x.1 = some c
  | [], cs, _, h2 => ⟨cs, rfl, h2, fun _ q => q, fun _ z => (by cases z)⟩
  | (n, k) :: r, cs, h1, h2 => by
    rw [List.forIn_cons]
    by_cases hk : (k == NameKind.free) = true
    · obtain ⟨c, hc⟩ := h1 (n, k) List.mem_cons_self (by simpa using hk)
      have h2' : ∀ x c', ((n, c) :: cs).lookup x = some c' → env.cells.lookup x = some c' := fun x c' e => by
        rw [List.lookup_cons] at e
        cases hx : x == n with
        | true => rw [hx] at e; have := beq_iff_eq.mp hx; subst this; simp at e; rw [← e]; exact hc
        | false => rw [hx] at e; exact h2 x c' e
      obtain ⟨cl, q1, q2, q3, q4⟩ := closure_of r ((n, c) :: cs) (fun x hx => h1 x (List.mem_cons_of_mem _ hx)) h2'
      have hn : ∃ c', cl.lookup n = some c' := q3 n ⟨c, by rw [List.lookup_cons, beq_self_eq_true]⟩
      refine ⟨cl, ?_, q2, fun x hx => ?_, fun x hx hf => ?_⟩
      · simp only [hk, if_true]
        unfold cellOf
        rw [hc]
        exact q1
      · refine q3 x ?_
        rw [List.lookup_cons]
        cases hxn : x == n with
        | true => exact ⟨c, rfl⟩
        | false => exact hx
      · rcases List.mem_cons.mp hx with e | hx
        · subst e; exact hn
        · exact q4 x hx hf
    · obtain ⟨cl, q1, q2, q3, q4⟩ := closure_of r cs (fun x hx => h1 x (List.mem_cons_of_mem _ hx)) h2
      refine ⟨cl, ?_, q2, q3, fun x hx hf => ?_⟩
      · simp only [hk]
        exact q1
      · rcases List.mem_cons.mp hx with e | hx
        · subst e; exact absurd (by simpa using hf) hk
        · exact q4 x hx hf
def cxComp (X : Cx) (scope : Scope) (cl : List (Str × Addr)) (N : List Str) (C : Addr) (s₀ : Shared) (H₀ : Hp) (fp : List Addr) : Cx where
  prog := X.prog
  w := X.w
  K := X.K
  mg := X.mg
  base := X.base
  A := X.A
  N := N
  s₀ := s₀
  H₀ := H₀
  env := compEnvC scope cl C X.env
  outer := X.stack
  stack := X.stack
  ex := fp
  fn := fun _ => false
  calm := X.calm
  pn := []
  xe := fun _ _ => False
def tComp (wi : TI) (fr : List (Option Nat)) (ix : Nat) (tif : TT) (te : TE) : TE := fun σ H Q => wi σ H fun J H1 => ∀ D, H1 D = none → ∃ W : Nat → Nat → List V → Hp → Prop, (∃ m, W 0 m [] (upd H1 D (.lst []))) ∧
  ∀ i m ys H, W i m ys H → H D = some (.lst ys) ∧ ((J.stop i H ∧ Q (.ref D) H) ∨ (J.go i H ∧ ys.length < sizeLine ∧ ∀ x H', J.yld i H x H' →
    tif ((carry fr σ).set ix (some x)) H' fun b H2 => if b = true then te ((carry fr σ).set ix (some x)) H2 fun y H3 => H3 D = some (.lst ys) ∧ ∃ m', m' < m ∧ W (i + 1) m' (ys ++ [y]) (upd H3 D (.lst (ys ++ [y])))
      else ∃ m', m' < m ∧ W (i + 1) m' ys H2))
structure CompScope (scope : Scope) (N : List Str) (x : Str) (ix : Nat) : Prop where
  kind : scope.kind = .function
  cell : ∀ y ∈ scope.names, y.2 ≠ .cell
  names : ∀ y ∈ scope.names, y.2 = .local → scope.names.lookup y.1 = some .local
  free : ∀ y ∈ scope.names, y.2 = .free → scope.names.lookup y.1 = some .free
  loc : scope.names.lookup x = some .local
  nd : N.Nodup
  at_ : N[ix]? = some x
theorem lookup_mem {names : List (Str × NameKind)} {n : Str} {k : NameKind} : names.lookup n = some k → (n, k) ∈ names := by
  induction names with
  | nil => intro h; cases h
  | cons y r ih =>
    intro h
    obtain ⟨m, j⟩ := y
    rw [List.lookup_cons] at h
    cases e : n == m with
    | true => rw [e] at h; have := beq_iff_eq.mp e; subst this; simp at h; subst h; exact List.mem_cons_self
    | false => rw [e] at h; exact List.mem_cons_of_mem _ (ih h)
theorem relabel_kind {scope : Scope} {env : Env} (hc : ∀ y ∈ scope.names, y.2 ≠ .cell) {n : Str} (h : (relabel scope env).names.lookup n = some .cell ∨ (relabel scope env).names.lookup n = some .free) : ∃ k, (n, k) ∈ scope.names ∧ k = NameKind.free := by
  have key : ∀ k', (relabel scope env).names.lookup n = some k' → (k' = .cell ∨ k' = .free) → ∃ k, (n, k) ∈ scope.names ∧ k = NameKind.free := fun k' h hk => by
    have hm := lookup_mem h
    unfold relabel at hm
    obtain ⟨⟨m, k⟩, hy, e⟩ := List.mem_map.mp hm
    dsimp only at e
    by_cases hcond : (k == NameKind.free && env.scope.kind == .function && env.kindOf m == some .cell) = true
    · rw [if_pos hcond] at e
      injection e with e1 e2
      subst e1
      refine ⟨k, hy, ?_⟩
      simp only [Bool.and_eq_true, beq_iff_eq] at hcond
      exact hcond.1.1
    · rw [if_neg hcond] at e
      injection e with e1 e2
      subst e1 e2
      rcases hk with rfl | rfl
      · exact absurd rfl (hc _ hy)
      · exact ⟨_, hy, rfl⟩
  rcases h with h | h
  · exact key _ h (.inl rfl)
  · exact key _ h (.inr rfl)
section
variable {X : Cx} {elt iter : Expr} {x : Str} {px pos : Pos} {ifs : List Expr} {scope : Scope} {wi : TI} {fr : List (Option Nat)} {ix : Nat} {tif : TT} {te : TE} {N : List Str}
theorem comp_block {pins : List (Addr × Obj)} {σ : St} {H2 : Hp} {s2 : Shared} {Q : VK} {it : Addr} {fp : List Addr} {tn : Nat → Heap → Prop} {J : It} {cl : List (Str × Addr)} {E : Value → Shared → Prop} {RR : Value → Addr → Result → Shared → Prop}
    (S : CompScope scope N x ix) (hcalm : X.calm = true) (hfr : frOk N X.N scope X.env.scope fr 0 = true) (hlen : fr.length = N.length)
    (hif : ∀ cl C s₀ H₀ fp, PIf (cxComp X scope cl N C s₀ H₀ fp) ifs tif) (he : ∀ cl C s₀ H₀ fp, PE (cxComp X scope cl N C s₀ H₀ fp) elt te)
    (I2 : Inv X pins σ H2 s2) (T : Turn X.prog X.w X.K (.Name x px) J fp it tn) (st2 : tn 0 s2.heap) (f2 : ∀ b ∈ fp, FpOk X pins H2 b)
    (c1 : ∀ x c, cl.lookup x = some c → X.env.cells.lookup x = some c) (c2 : ∀ x ∈ scope.names, x.2 = NameKind.free → ∃ c, cl.lookup x.1 = some c)
    (W : ∀ D, H2 D = none → ∃ W : Nat → Nat → List V → Hp → Prop, (∃ m, W 0 m [] (upd H2 D (.lst []))) ∧
      ∀ i m ys H, W i m ys H → H D = some (.lst ys) ∧ ((J.stop i H ∧ Q (.ref D) H) ∨ (J.go i H ∧ ys.length < sizeLine ∧ ∀ x H', J.yld i H x H' →
        tif ((carry fr σ).set ix (some x)) H' fun b H2 => if b = true then te ((carry fr σ).set ix (some x)) H2 fun y H3 => H3 D = some (.lst ys) ∧ ∃ m', m' < m ∧ W (i + 1) m' (ys ++ [y]) (upd H3 D (.lst (ys ++ [y])))
          else ∃ m', m' < m ∧ W (i + 1) m' ys H2)))
    (fin : ∀ (D C : Addr) (s' : Shared) (H' : Hp) m, s'.heap.Ns C m → Q (.ref D) H' → (∀ h', Heap.SameBut C s'.heap h' → Inv X pins σ H' { s' with heap := h' }) → C ≠ D → (∀ b o, s2.heap.get? b = some o → b ≠ C) → H' C = none → s2.heap.objs.size ≤ C → RR (.ref D) C (.ok .next) s') :
    wpAny (model X.prog X.w) X.A (newList []) (fun acc s₃ => wpAny (model X.prog X.w) X.A (newFunctionEnv scope X.env.globals cl [] X.env.qual none .none (some X.env)) (fun cenv s₄ =>
      codeAny (model X.prog X.w) X.A (.compStart (.ListComp elt [⟨.Name x px, iter, ifs, 0⟩] scope pos) 0 (.ref it) acc { cenv with scope := relabel scope X.env }) (RR acc cenv.locals) s₄) E s₃) E s2 := by
  refine wpAny_newObj_type (wpAny_newFunctionEnv S.cell (by intro y hy; simp at hy) (fun h₁ hns₁ hsb₁ => ?_) S.kind)
  dsimp only at hns₁ hsb₁ ⊢
  generalize hHp : s2.heap.push { cls := .type "list", dict := none, data := .seq ([] : List Value).toArray } = Hq at hns₁ hsb₁ ⊢
  have hC : Hq.objs.size = s2.heap.objs.size + 1 := by rw [← hHp, Heap.size_push]
  have hDC : s2.heap.objs.size ≠ Hq.objs.size := by rw [hC]; exact Nat.ne_of_lt (Nat.lt_succ_self _)
  have below : ∀ b, b < s2.heap.objs.size → b ≠ Hq.objs.size ∧ b ≠ s2.heap.objs.size := fun b hb => ⟨by rw [hC]; exact Nat.ne_of_lt (Nat.lt_succ_of_lt hb), Nat.ne_of_lt hb⟩
  have old : ∀ b o, s2.heap.get? b = some o → h₁.get? b = some o := fun b o e => hsb₁.extBut b o (below b (Heap.lt_size e)).1 (Heap.get?_push_of_some _ (hHp ▸ Heap.get?_push_of_some _ e))
  have hacc : h₁.get? s2.heap.objs.size = some { cls := .type "list", data := .seq ([] : List Value).toArray } := hsb₁.extBut _ _ hDC (Heap.get?_push_of_some _ (hHp ▸ Heap.get?_push_size _ rfl))
  have hD2 : H2 s2.heap.objs.size = none := I2.hok.fresh (Nat.le_refl _)
  have hC2 : H2 Hq.objs.size = none := I2.hok.fresh (by rw [hC]; exact Nat.le_succ _)
  have fpo : ∀ b ∈ fp, b < s2.heap.objs.size := fun b hb => by
    obtain ⟨o, e, _⟩ := T.obj _ _ st2 b hb
    exact Heap.lt_size e
  obtain ⟨W, ⟨m0, w0⟩, turn⟩ := W s2.heap.objs.size hD2
  have ok : (cxComp X scope cl N Hq.objs.size s2 H2 fp).Ok := by
    refine ⟨I2.ok.mod, S.kind, I2.ok.glob, I2.ok.blt, by show s2.heap.objs.size ≤ Hq.objs.size; rw [hC]; exact Nat.le_succ _, ?_, ?_, ?_, fun _ => I2.ok.hd hcalm, I2.ok.frames, .inl rfl, ?_, I2.bs, Nat.le_trans I2.ok.bsz I2.sz, ?_, ?_, I2.stack, I2.stkFree⟩
    · exact fun a b c h1 h2 => I2.ok.inj a b c (c1 _ _ h1) (c1 _ _ h2)
    · intro y hy
      obtain ⟨k, hm, rfl⟩ := relabel_kind S.cell hy
      exact c2 _ hm rfl
    · intro y c hf
      cases hf
    · intro b hb
      refine ⟨(below b (fpo b hb)).1, fun y c e => ?_⟩
      obtain ⟨_, _, _, _, f5, _⟩ := f2 b hb
      exact f5 y c (c1 _ _ e)
    · intro b o e hb
      obtain ⟨_, _, _, f4, _, _⟩ := f2 b hb
      rcases f4 with z | z
      · exact I2.ok.noex b o e z
      · exact absurd (Nat.lt_of_lt_of_le (Heap.lt_size e) (Nat.le_trans I2.ok.bsz z)) (Nat.lt_irrefl _)
    · intro b hb hs
      obtain ⟨_, f1, f3, _⟩ := f2 b hb
      rcases List.mem_cons.mp (I2.stkSub b hs) with z | z
      · exact f1 z
      · exact f3 z
  have I4 : Inv (cxComp X scope cl N Hq.objs.size s2 H2 fp) [] (carry fr σ) (upd H2 s2.heap.objs.size (.lst [])) { s2 with heap := h₁, toks := s2.toks + ([] : List (Str × Value)).length } := by
    refine ⟨ok, rfl, I2.bare, Un.laid old (Nat.le_refl _) hD2, ⟨_, hns₁, fun i y v h1 h2 h3 => ?_⟩, fun y c e => ?_, ?_, fun y c e => ?_, fun p hp => (by cases hp), I2.hok.laid old (Nat.le_refl _) ⟨Nat.zero_le _, [], 0, .nil, hacc⟩, ?_⟩
    · obtain ⟨j, e1, e2⟩ := carry_get h2
      obtain ⟨n, n1, n2, n3, n4⟩ := frOk_get hfr e1
      rw [Nat.zero_add] at n1
      have : y = n := by
        have h1' : N[i]? = some y := h1
        rw [h1'] at n1; exact Option.some.inj n1
      subst this
      obtain ⟨m, hn, hl⟩ := I2.loc
      obtain ⟨u, ru, lk⟩ := hl j y v n2 e2 (.inr (.inl n4))
      refine ⟨u, ru, ?_⟩
      obtain ⟨c, hc⟩ := c2 _ (lookup_mem n3) rfl
      rcases lk with ⟨k1, _⟩ | ⟨_, c', hc', hcell⟩
      · have k1' : X.env.scope.names.lookup y = some .local := k1
        rw [n4] at k1'; cases k1'
      · have := c1 _ _ hc
        rw [hc'] at this; cases this
        refine .inr ⟨?_, c, hc, hcell.keeps old⟩
        rcases h3 with z | z | z
        · obtain ⟨k, hm⟩ : ∃ k, (y, k) ∈ scope.names ∧ k = NameKind.local := by
            have hm := lookup_mem z
            have hm' : (y, NameKind.local) ∈ (relabel scope X.env).names := hm
            unfold relabel at hm'
            obtain ⟨⟨m', k⟩, hy, e⟩ := List.mem_map.mp hm'
            dsimp only at e
            by_cases hcond : (k == NameKind.free && X.env.scope.kind == .function && X.env.kindOf m' == some .cell) = true
            · rw [if_pos hcond] at e; injection e with _ e2'; cases e2'
            · rw [if_neg hcond] at e; injection e with e1' e2'; subst e1' e2'; exact ⟨_, hy, rfl⟩
          obtain ⟨hm, rfl⟩ := hm
          have := S.names _ hm rfl
          rw [n3] at this; cases this
        · exact .inl z
        · exact .inr z
    · obtain ⟨v, z⟩ := I2.cell y c (c1 _ _ e)
      exact ⟨v, z.keeps old⟩
    · show upd H2 s2.heap.objs.size _ Hq.objs.size = none
      rw [upd_ne (Ne.symm hDC)]; exact hC2
    · obtain ⟨v, o, ho, _⟩ := I2.cell y c (c1 _ _ e)
      rw [upd_ne (below c (Heap.lt_size ho)).2]
      exact I2.freeC y c (c1 _ _ e)
    · show (carry fr σ).length = N.length
      unfold carry
      rw [List.length_map]; exact hlen
  have fpX : ∀ (p : List (Addr × Obj)) (H' : Hp), (∀ q ∈ p, q.1 ∈ fp → False) → (∀ b ∈ fp, H' b = none) → ∀ b ∈ fp, FpOk (cxComp X scope cl N Hq.objs.size s2 H2 fp) p H' b := fun p H' hp hn b hb => by
    obtain ⟨_, f1, f3, f4, f5, _⟩ := f2 b hb
    refine ⟨hn b hb, (below b (fpo b hb)).1, fun hs => ok.exfs b hb hs, .inl hb, fun y c e => f5 y c (c1 _ _ e), fun q hq e => ?_⟩
    exact hp q hq (e ▸ hb)
  have hxv : (relabel scope X.env).names.lookup x = some .local := lookup_relabel_local S.loc
  have loop : ∀ s₃ : Shared, s₃ = { s2 with heap := h₁, toks := s2.toks + ([] : List (Str × Value)).length } →
      codeAny (model X.prog X.w) X.A (.compLoop (.ListComp elt [⟨.Name x px, iter, ifs, 0⟩] scope pos) 0 (.ref it) (.ref s2.heap.objs.size) (compEnvC scope cl Hq.objs.size X.env)) (RR (.ref s2.heap.objs.size) Hq.objs.size) s₃ := by
    rintro s₃ rfl
    refine codeAny_compLoop_tests (fun n s' => ∃ i ys σ' H', Inv (cxComp X scope cl N Hq.objs.size s2 H2 fp) [] σ' H' s' ∧ (∀ v, σ'.set ix v = (carry fr σ).set ix v) ∧ tn i s'.heap ∧ (∀ b ∈ fp, H' b = none) ∧ W i n ys H') ?_ m0
      ⟨0, [], carry fr σ, _, I4, fun _ => rfl, T.keep _ _ _ st2 fun b _ o e => old b o e, fun b hb => by rw [upd_ne (below b (fpo b hb)).2]; exact (f2 b hb).1, w0⟩
    rintro n s3 ⟨i, ys, σ3, H3, I3, hσ, st3, fr3, w3⟩
    obtain ⟨hD3, way⟩ := turn i n ys H3 w3
    rcases way with ⟨stop, qn⟩ | ⟨go, hsz, step⟩
    · refine wpAny_mono (T.done (cxComp X scope cl N Hq.objs.size s2 H2 fp) rfl rfl rfl hcalm i [] s3 σ3 H3 (fun _ _ => False) I3 (fpX [] H3 (fun _ z => by cases z) fr3) st3 stop) (fun r s4 ⟨hr, I5⟩ => ?_) fun _ _ z => z.elim
      subst hr
      obtain ⟨m, hn, _⟩ := id I5.loc
      refine fin _ _ s4 H3 m hn qn (fun h' hs' => ?_) (Ne.symm hDC) (fun b o e => (below b (Heap.lt_size e)).1) I5.free (by rw [hC]; exact Nat.le_succ _)
      have nC : ∀ b u, H3 b = some u → b ≠ Hq.objs.size := fun b u e z => by
        have := I5.free
        rw [show (cxComp X scope cl N Hq.objs.size s2 H2 fp).env.locals = Hq.objs.size from rfl, ← z, e] at this
        cases this
      have keepU : Un (frs X.stack) fp H2 H3 s2.heap h' := by
        have u := I5.base
        refine ⟨fun b o e n hb hx => ?_, fun b o e n hb hx => ?_, fun b o e n hx => u.free b o e n hx, fun b o e hx => ?_, u.tups, u.frzs, u.tbls⟩
        · exact (hs'.2 b (below b (Heap.lt_size e)).1).trans (u.keep b o e n hb hx)
        · obtain ⟨sl, e1⟩ := u.slot b o e n hb hx
          exact ⟨sl, (hs'.2 b (below b (Heap.lt_size e)).1).trans e1⟩
        · obtain ⟨o', e1⟩ := u.there b o e hx
          exact ⟨o', (hs'.2 b (below b (Heap.lt_size e)).1).trans e1⟩
      have hok' : HOk X.prog X.w H3 h' := fun b u e => (I5.hok b u e).stay (fun c v hc q => (hs'.2 c (by
        rcases hc with rfl | hc
        · exact nC _ _ e
        · exact nC _ _ hc)).trans q) (fun _ q => q) fun _ _ q => q
      refine I2.call' (s' := { s4 with heap := h' }) (ch := fp) I5.os keepU hok' I5.bare fun b hb => ?_
      obtain ⟨_, f1, _, f4, f5, f6⟩ := f2 b hb
      exact ⟨f4, f1, f5, f6⟩
    · refine wpAny_mono (T.item (cxComp X scope cl N Hq.objs.size s2 H2 fp) rfl rfl rfl hcalm i [] s3 σ3 H3 (fun _ _ => False) I3 (fpX [] H3 (fun _ z => by cases z) fr3) st3 go) (fun r s4 ⟨u, hr, h4⟩ => ?_) fun _ _ z => z.elim
      subst hr
      show wpAny (model X.prog X.w) X.A (letOwnedTupleGo (.Name x px) (.ref it) u >>= fun _ => assign (.Name x px) (compEnvC scope cl Hq.objs.size X.env) u) _ _ s4
      refine wpAny_bind (wpAny_mono h4 (fun _ s5 ⟨xv, H5, I5, r5, y5, st5, fr5⟩ => ?_) fun _ _ z => z.elim)
      have I5' := I5.pinned (fpX [] H5 (fun _ z => by cases z) fr5) (T.obj _ _ st5)
      refine wpAny_assign_Name (store_ok I5' S.nd S.at_ (.inl hxv) r5 (fun s6 I6 => ?_) (.inr hxv))
      rw [hσ] at I6
      refine wpAny_mono (hif _ _ _ _ _ _ s6 _ H5 _ I6 (step xv H5 y5)) (fun b s7 ⟨H7, I7, q7⟩ => ?_) fun _ _ z => z.elim
      have again : ∀ {s8 : Shared} {H8 : Hp} {k : Nat} {zs : List V}, Inv (cxComp X scope cl N Hq.objs.size s2 H2 fp) ([] ++ pinsAt fp s5.heap) ((carry fr σ).set ix (some xv)) H8 s8 → W (i + 1) k zs H8 → k < n →
          ∃ m, m < n ∧ ∃ i ys σ' H', Inv (cxComp X scope cl N Hq.objs.size s2 H2 fp) [] σ' H' s8 ∧ (∀ v, σ'.set ix v = (carry fr σ).set ix v) ∧ tn i s8.heap ∧ (∀ b ∈ fp, H' b = none) ∧ W i m ys H' := fun {s8 H8 k zs} I8 w8 hk => by
        refine ⟨k, hk, i + 1, zs, _, H8, I8.unpinned, fun v => by rw [List.set_set], T.keep _ _ _ st5 fun b hb o e => (I8.pin (b, o) (List.mem_append_right _ (List.mem_append_right _ (mem_pinsAt hb e)))).1, fun b hb => ?_, w8⟩
        obtain ⟨o, e, d⟩ := T.obj _ _ st5 b hb
        exact (I8.pin (b, o) (List.mem_append_right _ (List.mem_append_right _ (mem_pinsAt hb e)))).2.1
      cases b with
      | false =>
        rw [if_neg Bool.false_ne_true] at q7 ⊢
        obtain ⟨k, hk, w7⟩ := q7
        exact again I7 w7 hk
      | true =>
        rw [if_pos rfl] at q7 ⊢
        refine wpAny_mono (he _ _ _ _ _ _ s7 _ H7 _ I7 q7) (fun yv s8 ⟨y, H8, I8, r8, hD8, k, hk, w8⟩ => ?_) fun _ _ z => z.elim
        refine wpAny_mono (mt_append (X := cxComp X scope cl N Hq.objs.size s2 H2 fp) _ s8 _ H8 (.ref s2.heap.objs.size) [y] (.ref s2.heap.objs.size) [yv] (fun _ H9 => H9 = upd H8 s2.heap.objs.size (.lst (ys ++ [y]))) I8 rfl (.cons r8 .nil) ⟨_, ys, y, rfl, rfl, hD8, hsz, rfl⟩) (fun _ s9 ⟨_, H9, I9, _, e9⟩ => ?_) fun _ _ z => z.elim
        subst e9
        exact again I9 w8 hk
  exact codeAny_compStart_list (loop _ rfl) (T.self X.A 0 _ _ _ (T.keep _ _ _ st2 fun b _ o e => old b o e) (loop _ rfl))
theorem pe_comp (S : CompScope scope N x ix) (hcalm : X.calm = true) (hfr : frOk N X.N scope X.env.scope fr 0 = true) (hlen : fr.length = N.length) (hfree : ∀ y ∈ scope.names, y.2 = .free → X.env.scope.names.lookup y.1 = some .cell ∨ X.env.scope.names.lookup y.1 = some .free)
    (hi : PI X (.Name x px) iter wi) (hif : ∀ cl C s₀ H₀ fp, PIf (cxComp X scope cl N C s₀ H₀ fp) ifs tif) (he : ∀ cl C s₀ H₀ fp, PE (cxComp X scope cl N C s₀ H₀ fp) elt te)
    (hs : ∀ x, foldedSetIterable iter X.env x = pure x := by intro _; rfl) : PE X (.ListComp elt [⟨.Name x px, iter, ifs, 0⟩] scope pos) (tComp wi fr ix tif te) := by
  intro pins s σ H Q I hw
  obtain ⟨cl, hclos, c1, _, c2⟩ := closure_of (env := X.env) scope.names [] (fun y hy hf => I.ok.has y.1 (hfree y hy hf)) (fun y c z => by cases z)
  have hclos' : closureFor scope X.env = pure cl := by
    have e : closureFor scope X.env = ((forIn scope.names [] (fun (x : Str × NameKind) (r : List (Str × Addr)) => do if (x.2 == NameKind.free) = true then do let a ← cellOf X.env x.1; pure (ForInStep.yield ((x.1, a) :: r)) else pure (ForInStep.yield r)) : Sem (List (Str × Addr))) >>= fun cs => pure cs) := rfl
    rw [e, hclos]
    rfl
  rw [eval_ListComp]
  refine wpAny_comprehension_free (use := none) rfl hs hclos' S.kind S.names (thn (hi pins s σ H _ I hw) fun v s1 h1 => thn h1 fun itv s2 h2 => ?_)
  obtain ⟨it, fp, tn, J, H2, e, I2, T, st2, f2, W⟩ := h2
  subst e
  refine comp_block (RR := fun acc C => compPost (model X.prog X.w) X.A X.xe none (EP X pins σ Q) acc C) S hcalm hfr hlen hif he I2 T st2 f2 c1 c2 W ?_
  intro D C s' H' m hn q hI _ _ _ _
  exact ⟨m, hn, fun h' hs' => ⟨.ref D, H', hI h' hs', rfl, q⟩⟩
theorem ps_setComp {i : Nat} {y : Str} {py spos : Pos} (hN : X.N.Nodup) (hy : X.N[i]? = some y) (hly : X.env.scope.names.lookup y = some .local) (S : CompScope scope N x ix) (hcalm : X.calm = true) (hfr : frOk N X.N scope X.env.scope fr 0 = true) (hlen : fr.length = N.length)
    (hfree : ∀ y ∈ scope.names, y.2 = .free → X.env.scope.names.lookup y.1 = some .cell ∨ X.env.scope.names.lookup y.1 = some .free)
    (hi : PI X (.Name x px) iter wi) (hif : ∀ cl C s₀ H₀ fp, PIf (cxComp X scope cl N C s₀ H₀ fp) ifs tif) (he : ∀ cl C s₀ H₀ fp, PE (cxComp X scope cl N C s₀ H₀ fp) elt te)
    (hsw : swapsWith (.ListComp elt [⟨.Name x px, iter, ifs, 0⟩] scope pos) (some (.Name y py)) spos.line X.env = pure true := by rfl)
    (hs : ∀ x, foldedSetIterable iter X.env x = pure x := by intro _; rfl) :
    PS X (.Assign [.Name y py] (.ListComp elt [⟨.Name x px, iter, ifs, 0⟩] scope pos) spos) (tAsg (tComp wi fr ix tif te) (gName i)) := by
  intro pins s σ H D I hw
  obtain ⟨cl, hclos, c1, _, c2⟩ := closure_of (env := X.env) scope.names [] (fun y hy hf => I.ok.has y.1 (hfree y hy hf)) (fun y c z => by cases z)
  have hclos' : closureFor scope X.env = pure cl := by
    have e : closureFor scope X.env = ((forIn scope.names [] (fun (x : Str × NameKind) (r : List (Str × Addr)) => do if (x.2 == NameKind.free) = true then do let a ← cellOf X.env x.1; pure (ForInStep.yield ((x.1, a) :: r)) else pure (ForInStep.yield r)) : Sem (List (Str × Addr))) >>= fun cs => pure cs) := rfl
    rw [e, hclos]
    rfl
  rw [exec_Assign_Name_used _ _ _ _ hsw]
  refine wpAny_bind (wpAny_standAt (wpAny_bind ?_))
  show wpAny _ X.A (do let _ ← comprehension (.ListComp elt [⟨.Name x px, iter, ifs, 0⟩] scope pos) scope X.env _ (newList []) false (eval iter X.env) (some (assign (.Name y py) X.env))) _ _ s
  refine wpAny_bind (wpAny_mono (wpAny_comprehension_free (use := some (assign (.Name y py) X.env)) (Q := fun _ s' => SP X pins D .next s') rfl hs hclos' S.kind S.names
    (thn (hi pins s σ H _ I hw) fun v s1 h1 => thn h1 fun itv s2 h2 => ?_)) (fun _ s' hq => wpAny_pure (wpAny_pure hq)) fun _ _ e => e)
  obtain ⟨it, fp, tn, J, H2, e, I2, T, st2, f2, W⟩ := h2
  subst e
  refine comp_block (Q := fun x H1 => gName i x σ H1 D.nx) (RR := fun acc C => compPost (model X.prog X.w) X.A X.xe (some (assign (.Name y py) X.env)) (fun _ s' => SP X pins D .next s') acc C) S hcalm hfr hlen hif he I2 T st2 f2 c1 c2 W ?_
  intro D' C s' H' m hn q hI hCD hold hfreeC hsz
  have I5 : Inv X pins σ H' s' := hI s'.heap (Heap.SameBut.refl ..)
  refine wpAny_assign_Name (store_ok2 I5 hN hy (.inl hly) (v := .ref D') rfl (fun s'' I6 ⟨a, hsb, ha⟩ => ?_) (.inr hly))
  have hL : C ≠ X.env.locals := fun z => by
    obtain ⟨_, ⟨o, _, _, e, _⟩, _⟩ := I2.loc
    exact hold _ _ e z.symm
  have hcl : ∀ z c, X.env.cells.lookup z = some c → c ≠ C := fun z c e => by
    obtain ⟨_, o, ho, _⟩ := I2.cell z c e
    exact hold _ _ ho
  have hCa : C ≠ a := by
    rcases ha with z | z
    · rw [z]; exact hL
    · exact Ne.symm (hcl _ _ z)
  refine ⟨m, hn.sameBut hsb hCa, fun h' hs' => ⟨_, H', I6.turned (t' := s''.toks) (it := C) (fun b o hb e => (hs'.2 b hb).trans e) hfreeC hL (.inr (Nat.le_trans I2.sz hsz)) hcl fun p hp => ?_, q⟩⟩
  obtain ⟨e, _⟩ := I2.pin p hp
  exact hold _ _ e
end
end L2
set_option Elab.async false
set_option linter.all false
set_option maxRecDepth 100000
set_option maxHeartbeats 4000000
namespace L2
open PySem PySem.Spec PyProof.Rows
section
variable {P : Program} {w : World} {K : PySem.W.Frag} {mg : Str → Option Value} {base : Heap} {N : List Str} {qual : Str} {scope : Scope} {f : Addr} {cd : Value} {A : Around} {outer : List Env} {s : Shared} {H : Hp} {E : XK}
end
section
variable {X : Cx} {x : Str} {C : Addr} {np cpos pos : Pos} {e : Expr} {te : TE} {E : XK}
end
end L2
set_option Elab.async false
set_option linter.all false
set_option maxRecDepth 100000
set_option maxHeartbeats 4000000
namespace L2
open PySem PySem.Spec PyProof.Rows
section
variable {X : Cx} {k : Nat} {f : Addr} {fd : FuncData} {ps : List Str} {sp : Sp} {x : Str} {st : Stmt} {p pos : Pos} {e : Expr} {es : List Expr} {t : TA}
end
end L2
set_option Elab.async false
set_option linter.all false
set_option maxRecDepth 100000
set_option maxHeartbeats 4000000
namespace L2
open PySem PySem.Spec PyProof.Rows
section
variable {X : Cx} {e : Expr} {t : TX} {x y z n : Str} {G : Addr} {py pz pn np spos tpos hpos pos : Pos} {i j k : Nat}
end
end L2
set_option Elab.async false
set_option linter.all false
set_option maxRecDepth 100000
set_option maxHeartbeats 4000000
namespace L2
open PySem PySem.Spec PyProof.Rows PySem.Builtin.ObjectAttr PySem.Builtin.Getset_descriptor
section
variable {prog : Program} {w : World} {A : Around} {E : Value → Shared → Prop} {K : PySem.W.Frag} {x C : Addr} {h : Heap} {g : Array GenState} {d : Drawn} {t : Nat} {os : OsState}
end
def clsV : V → Value
  | .ref C => .ref C
  | .ty n => .type n
  | _ => .none
theorem clsV_of {c : V} {u : Value} (r : RelV c u) (h : clsV c ≠ .none) : u = clsV c := by
  cases c with
  | ref C => exact r
  | ty n => exact r
  | _ => exact absurd rfl h
section
variable {X : Cx}
def rIsi (K : PySem.W.Frag) : List V → Hp → VK → Prop := fun xs H Q => ∃ x c t b, xs = [x, c] ∧ clsV c ≠ .none ∧ TyOf K H x t ∧ PySem.W.kitOne K t (clsV c) = some b ∧ Q (.bl b) H
theorem call_isi : CallR X (.builtin "isinstance") (rIsi X.K) := by
  intro pins s σ H xs us Q I r h
  obtain ⟨x, c, t, b, rfl, hc, ty, e, q⟩ := h
  obtain ⟨u, v, rfl, r1, r2⟩ := r.two
  rw [clsV_of r2 hc]
  exact isinst_ok I r1 ty e fun tk => ⟨.bl b, H, I.tok tk, rfl, q⟩
end
theorem kit_tt (K : PySem.W.Frag) : PySem.W.kitOne K (.type "tuple") (.type "tuple") = some true := rfl
theorem kit_ii (K : PySem.W.Frag) : PySem.W.kitOne K (.type "int") (.type "int") = some true := rfl
theorem kit_bb (K : PySem.W.Frag) : PySem.W.kitOne K (.type "bool") (.type "bool") = some true := rfl
theorem kit_ib (K : PySem.W.Frag) : PySem.W.kitOne K (.type "int") (.type "bool") = some false := by kernel_rfl
theorem kit_bi (K : PySem.W.Frag) : PySem.W.kitOne K (.type "bool") (.type "int") = some true := by kernel_rfl
theorem kit_lt (K : PySem.W.Frag) : PySem.W.kitOne K (.type "list") (.type "tuple") = some false := by kernel_rfl
theorem kit_tl (K : PySem.W.Frag) : PySem.W.kitOne K (.type "tuple") (.type "list") = some false := by kernel_rfl
theorem kit_ll (K : PySem.W.Frag) : PySem.W.kitOne K (.type "list") (.type "list") = some true := rfl
theorem kit_it (K : PySem.W.Frag) : PySem.W.kitOne K (.type "int") (.type "tuple") = some false := by kernel_rfl
theorem kit_bt (K : PySem.W.Frag) : PySem.W.kitOne K (.type "bool") (.type "tuple") = some false := by kernel_rfl
theorem kit_nt (K : PySem.W.Frag) : PySem.W.kitOne K (.type "NoneType") (.type "tuple") = some false := by kernel_rfl
theorem kit_st (K : PySem.W.Frag) : PySem.W.kitOne K (.type "str") (.type "tuple") = some false := by kernel_rfl
theorem kit_ti (K : PySem.W.Frag) : PySem.W.kitOne K (.type "tuple") (.type "int") = some false := by kernel_rfl
theorem kit_li (K : PySem.W.Frag) : PySem.W.kitOne K (.type "list") (.type "int") = some false := by kernel_rfl
theorem kit_ni (K : PySem.W.Frag) : PySem.W.kitOne K (.type "NoneType") (.type "int") = some false := by kernel_rfl
theorem kit_si (K : PySem.W.Frag) : PySem.W.kitOne K (.type "str") (.type "int") = some false := by kernel_rfl
theorem kit_il (K : PySem.W.Frag) : PySem.W.kitOne K (.type "int") (.type "list") = some false := by kernel_rfl
theorem kit_bl (K : PySem.W.Frag) : PySem.W.kitOne K (.type "bool") (.type "list") = some false := by kernel_rfl
theorem kit_nl (K : PySem.W.Frag) : PySem.W.kitOne K (.type "NoneType") (.type "list") = some false := by kernel_rfl
theorem kit_sl (K : PySem.W.Frag) : PySem.W.kitOne K (.type "str") (.type "list") = some false := by kernel_rfl
def freeOk (xsc : Scope) (names : List (Str × NameKind)) : Bool := names.all fun y => y.2 != .free || xsc.names.lookup y.1 == some .cell || xsc.names.lookup y.1 == some .free
theorem freeOk_of {xsc : Scope} {names : List (Str × NameKind)} (h : freeOk xsc names = true) : ∀ y ∈ names, y.2 = .free → xsc.names.lookup y.1 = some .cell ∨ xsc.names.lookup y.1 = some .free := fun y hy hf => by
  have q := List.all_eq_true.mp h y hy
  rw [hf] at q
  simp only [bne_self_eq_false, Bool.false_or, Bool.or_eq_true, beq_iff_eq] at q
  exact q
def compScopeOk (scope : Scope) (N : List Str) (x : Str) (ix : Nat) : Bool :=
  scope.kind == .function && (scope.names.all fun y => y.2 != .cell && (y.2 != .local || scope.names.lookup y.1 == some .local) && (y.2 != .free || scope.names.lookup y.1 == some .free)) && scope.names.lookup x == some .local && decide N.Nodup && N[ix]? == some x
theorem compScope_of {scope : Scope} {N : List Str} {x : Str} {ix : Nat} (h : compScopeOk scope N x ix = true) : CompScope scope N x ix := by
  unfold compScopeOk at h
  simp only [Bool.and_eq_true, beq_iff_eq, decide_eq_true_eq, List.all_eq_true, bne_iff_ne, Bool.or_eq_true] at h
  obtain ⟨⟨⟨⟨h1, h2⟩, h3⟩, h4⟩, h5⟩ := h
  exact ⟨h1, fun y hy => (h2 y hy).1.1, fun y hy hl => (h2 y hy).1.2.resolve_left fun z => z hl, fun y hy hl => (h2 y hy).2.resolve_left fun z => z hl, h3, h4, h5⟩
section
variable {X : Cx} {elt iter : Expr} {x : Str} {px pos : Pos} {ifs : List Expr} {scope : Scope} {wi : TI} {tif : TT} {te : TE}
theorem pe_compr (N : List Str) (ix : Nat) (fr : List (Option Nat)) (hi : PI X (.Name x px) iter wi) (hif : ∀ cl C s₀ H₀ fp, PIf (cxComp X scope cl N C s₀ H₀ fp) ifs tif) (he : ∀ cl C s₀ H₀ fp, PE (cxComp X scope cl N C s₀ H₀ fp) elt te)
    (h1 : compScopeOk scope N x ix = true := by decide +kernel) (h2 : X.calm = true := by rfl) (h3 : frOk N X.N scope X.env.scope fr 0 = true := by rfl) (h4 : fr.length = N.length := by rfl) (h5 : freeOk X.env.scope scope.names = true := by rfl)
    (hs : ∀ x, foldedSetIterable iter X.env x = pure x := by intro _; rfl) : PE X (.ListComp elt [⟨.Name x px, iter, ifs, 0⟩] scope pos) (tComp wi fr ix tif te) :=
  pe_comp (compScope_of h1) h2 h3 h4 (freeOk_of h5) hi hif he hs
theorem ps_setCompr {i : Nat} {y : Str} {py spos : Pos} (N : List Str) (ix : Nat) (fr : List (Option Nat)) (hN : X.N.Nodup) (hy : X.N[i]? = some y) (hly : X.env.scope.names.lookup y = some .local)
    (hi : PI X (.Name x px) iter wi) (hif : ∀ cl C s₀ H₀ fp, PIf (cxComp X scope cl N C s₀ H₀ fp) ifs tif) (he : ∀ cl C s₀ H₀ fp, PE (cxComp X scope cl N C s₀ H₀ fp) elt te)
    (h1 : compScopeOk scope N x ix = true := by decide +kernel) (h2 : X.calm = true := by rfl) (h3 : frOk N X.N scope X.env.scope fr 0 = true := by rfl) (h4 : fr.length = N.length := by rfl) (h5 : freeOk X.env.scope scope.names = true := by rfl)
    (hsw : swapsWith (.ListComp elt [⟨.Name x px, iter, ifs, 0⟩] scope pos) (some (.Name y py)) spos.line X.env = pure true := by rfl)
    (hs : ∀ x, foldedSetIterable iter X.env x = pure x := by intro _; rfl) : PS X (.Assign [.Name y py] (.ListComp elt [⟨.Name x px, iter, ifs, 0⟩] scope pos) spos) (tAsg (tComp wi fr ix tif te) (gName i)) :=
  ps_setComp hN hy hly (compScope_of h1) h2 h3 h4 (freeOk_of h5) hi hif he hsw hs
end
end L2
set_option Elab.async false
set_option linter.all false
set_option maxRecDepth 100000
set_option maxHeartbeats 4000000
namespace L2
open PySem PySem.Spec PyProof.Rows
section
variable {X : Cx} {k : Nat} {f : Addr} {fd : FuncData} {ps : List Str} {sp : Sp} {x : Str} {st : Stmt} {p pos : Pos} {e : Expr} {es : List Expr} {t : TA} {E : XK}
end
end L2
set_option Elab.async false
namespace Tr
end Tr
set_option Elab.async false
set_option linter.all false
set_option maxRecDepth 100000
set_option maxHeartbeats 4000000
namespace SM
open PySem.W PyProof.Rows
section
variable {O : KeyOrd} {key : Nat → O.α} {n : Nat}
end
end SM
set_option Elab.async false
set_option linter.all false
set_option maxRecDepth 100000
set_option maxHeartbeats 4000000
namespace TH
open PySem PyProof.Rows PySem.SeqAt
section
open PySem.AutoSeq1 (wpAny_loadPart')
open PySem.MeetsSeq PySem.MeetsSeq2 PySem.MeetsSeq3
end
section
open PySem.AutoSeq1 (wpAny_loadPart')
open PySem.MeetsSeq PySem.MeetsSeq2 PySem.MeetsSeq3
end
end TH
set_option Elab.async false
set_option linter.all false
set_option maxRecDepth 100000
set_option maxHeartbeats 4000000
namespace Tr
end Tr
namespace TH
open PySem PySem.W PyProof.Rows PySem.SeqAt
section
variable {prog : Program} {w : World} {A : Around} {E : Value → Shared → Prop} {s : Shared} {t u : Tr} {a b : Addr} {its its' : List Value} {Q : Bool → Shared → Prop}
end
end TH
set_option Elab.async false
set_option linter.all false
set_option maxRecDepth 100000
set_option maxHeartbeats 4000000
namespace TH
open PySem PySem.W PyProof.Rows PySem.SeqAt
section
variable {prog : Program} {w : World} {A : Around} {E : Value → Shared → Prop} {s : Shared}
end
end TH
set_option Elab.async false
set_option linter.all false
set_option maxRecDepth 100000
set_option maxHeartbeats 4000000
namespace TH
open PySem PySem.W PyProof.Rows PySem.SeqAt
section
variable {prog : Program} {w : World} {A : Around} {E : Value → Shared → Prop} {s : Shared}
end
end TH
set_option Elab.async false
set_option linter.all false
set_option maxRecDepth 100000
namespace ET
open PySem
section
variable {prog : Program} {w : World} {A : Around} {E : Value → Shared → Prop} {s : Shared}
end
section
open AutoSeq1 (wpAny_loadPart')
end
end ET
set_option Elab.async false
set_option linter.all false
set_option maxRecDepth 100000
set_option maxHeartbeats 4000000
namespace L2
open PySem PySem.Spec PyProof.Rows
section
variable {X : Cx} {pins : List (Addr × Obj)} {σ : St} {H : Hp} {s : Shared}
end
end L2
set_option Elab.async false
set_option linter.all false
set_option maxRecDepth 100000
set_option maxHeartbeats 4000000
namespace L2
open PySem PySem.Spec PyProof.Rows
section
variable {X : Cx}
end
end L2
set_option Elab.async false
set_option linter.all false
set_option maxRecDepth 100000
set_option maxHeartbeats 4000000
namespace L2
open PySem PySem.Spec PyProof.Rows
def CW (Pv : Nat → List V → Hp → Prop) (n : Nat) (D : Addr) : Nat → Nat → List V → Hp → Prop := fun i m ys H => m = n - i ∧ i ≤ n ∧ H D = some (.lst ys) ∧ Pv i ys H
theorem cw_next {Pv : Nat → List V → Hp → Prop} {n i : Nat} {D : Addr} {ys : List V} {y : V} {H : Hp} (hi : i < n) (p : Pv (i + 1) (ys ++ [y]) (upd H D (.lst (ys ++ [y])))) : ∃ m', m' < n - i ∧ CW Pv n D (i + 1) m' (ys ++ [y]) (upd H D (.lst (ys ++ [y]))) :=
  ⟨n - (i + 1), by omega, rfl, hi, upd_same, p⟩
theorem comp_by {J : It} {n : Nat} {D : Addr} {H1 : Hp} {fr : List (Option Nat)} {σ : St} {ix : Nat} {tif : TT} {te : TE} {G : Hp → Prop} (Pv : Nat → List V → Hp → Prop) (h0 : Pv 0 [] (upd H1 D (.lst [])))
    (hgo : ∀ i ys H, i < n → Pv i ys H → H D = some (.lst ys) → J.go i H ∧ ys.length < sizeLine ∧ ∀ x H', J.yld i H x H' →
      tif ((carry fr σ).set ix (some x)) H' fun b H2 => if b = true then te ((carry fr σ).set ix (some x)) H2 fun y H3 => H3 D = some (.lst ys) ∧ ∃ m', m' < n - i ∧ CW Pv n D (i + 1) m' (ys ++ [y]) (upd H3 D (.lst (ys ++ [y])))
        else ∃ m', m' < n - i ∧ CW Pv n D (i + 1) m' ys H2)
    (hstop : ∀ ys H, Pv n ys H → H D = some (.lst ys) → J.stop n H ∧ G H) :
    ∃ W : Nat → Nat → List V → Hp → Prop, (∃ m, W 0 m [] (upd H1 D (.lst []))) ∧
      ∀ i m ys H, W i m ys H → H D = some (.lst ys) ∧ ((J.stop i H ∧ G H) ∨ (J.go i H ∧ ys.length < sizeLine ∧ ∀ x H', J.yld i H x H' →
        tif ((carry fr σ).set ix (some x)) H' fun b H2 => if b = true then te ((carry fr σ).set ix (some x)) H2 fun y H3 => H3 D = some (.lst ys) ∧ ∃ m', m' < m ∧ W (i + 1) m' (ys ++ [y]) (upd H3 D (.lst (ys ++ [y])))
          else ∃ m', m' < m ∧ W (i + 1) m' ys H2)) := by
  refine ⟨CW Pv n D, ⟨n, by simp, Nat.zero_le _, upd_same, h0⟩, ?_⟩
  rintro i m ys H ⟨rfl, hi, hH, p⟩
  refine ⟨hH, ?_⟩
  by_cases hlt : i < n
  · exact .inr (hgo i ys H hlt p hH)
  · have e : i = n := by omega
    subst e
    exact .inl (hstop ys H p hH)
section
variable {X : Cx}
theorem call_all (hc : X.calm = true) : CallR X (.builtin "all") (fun xs H Q => ∃ (p : Addr) (bs : List Bool), xs = [.ref p] ∧ SqL X.K H p (bs.map V.bl) ∧ Q (.bl (bs.all id)) H) := by
  intro pins s σ H xs us Q I r h
  obtain ⟨p, bs, rfl, hq, q⟩ := h
  obtain ⟨u, rfl, r1⟩ := r.one
  cases r1
  obtain ⟨its, rv, pl, hz⟩ := I.list hq
  have hl : s.heap.IsList p its.toArray := pl.isList
  have hlt : p < s.heap.objs.size := by obtain ⟨_, e, _⟩ := hl; exact Heap.lt_size e
  have hlen : its.length = bs.length := by rw [← rv.length, List.length_map]
  refine call_all_walk (wpAny_pyIter_list hl ?_)
  refine ⟨s.heap.objs.size, [s.heap.objs.size, p], [s.heap.objs.size], its.toArray.size, _, _, fun i => (bs[i]?).getD true, rfl, Walks.list (A := X.A.in1) (I.ok.hd hc) _ p (Nat.ne_of_lt hlt) its.toArray,
    ⟨⟨_, Heap.get?_push_size _ rfl, rfl, rfl⟩, hl.push _⟩, fun i v s' Q' E' hP hQ => ?_, fun h' tk hk => ?_⟩
  · have hv : its[i]? = some v := by simpa using hP
    have hi : i < bs.length := by rw [← hlen]; exact (List.getElem?_eq_some_iff.mp hv).1
    obtain ⟨u, h1, h2⟩ := rv.get (i := i) (x := .bl bs[i]) (by rw [List.getElem?_map, List.getElem?_eq_getElem hi]; rfl)
    rw [hv] at h1
    cases h1
    cases h2
    simp only [List.getElem?_eq_getElem hi, Option.getD_some] at hQ
    exact wpAny_truthy_bool hQ
  · have e : ((List.range its.toArray.size).all fun i => (bs[i]?).getD true) = bs.all id := by
      rw [List.size_toArray, hlen]; exact PyProof.Rows.LSm.range_all bs
    rw [e]
    exact ⟨.bl _, H, I.kept (t' := tk) (PyProof.Rows.LSm.kept_iter hk), rfl, q⟩
end
end L2
set_option Elab.async false
set_option linter.all false
set_option maxRecDepth 100000
set_option maxHeartbeats 4000000
namespace L2
open PySem PySem.Spec PyProof.Rows
section
variable {X : Cx} {scope : Scope} {cl : List (Str × Addr)} {N : List Str} {C : Addr} {s₀ : Shared} {H₀ : Hp} {fp : List Addr}
theorem ix_listC : IxR (cxComp X scope cl N C s₀ H₀ fp) (rIxL X.K) := ix_list
theorem ix_tupC : IxR (cxComp X scope cl N C s₀ H₀ fp) (rIxT X.K) := ix_tup
end
end L2
set_option Elab.async false
set_option linter.all false
set_option maxRecDepth 100000
set_option maxHeartbeats 4000000
namespace L2
open PySem PySem.Spec PyProof.Rows
mutual
def Dt (l : Addr) (H : Hp) : PyData → V → Prop
  | .none, v => v = .non
  | .bool b, v => v = .bl b
  | .int i, v => v = .int i
  | .str x, v => v = .str x
  | .tuple ds, v => ∃ (a : Addr) (xs : List V), v = .ref a ∧ a ≠ l ∧ H a = some (.tup xs) ∧ DtAll l H ds xs
  | .list ds, v => ∃ (a : Addr) (xs : List V), v = .ref a ∧ a ≠ l ∧ H a = some (.lst xs) ∧ DtAll l H ds xs
  | .dict _, _ => False
def DtAll (l : Addr) (H : Hp) : List PyData → List V → Prop
  | [], xs => xs = []
  | d :: ds, xs => ∃ x r, xs = x :: r ∧ Dt l H d x ∧ DtAll l H ds r
end
mutual
theorem Dt.but {l : Addr} {H H' : Hp} (e : SameBut l H H') : ∀ {d : PyData} {v : V}, Dt l H d v → Dt l H' d v
  | .none, _, h => by rw [Dt] at h ⊢; exact h
  | .bool _, _, h => by rw [Dt] at h ⊢; exact h
  | .int _, _, h => by rw [Dt] at h ⊢; exact h
  | .str _, _, h => by rw [Dt] at h ⊢; exact h
  | .tuple _, _, h => by
    rw [Dt] at h ⊢
    obtain ⟨a, xs, e1, n, h1, h2⟩ := h
    exact ⟨a, xs, e1, n, e _ _ n h1, DtAll.but e h2⟩
  | .list _, _, h => by
    rw [Dt] at h ⊢
    obtain ⟨a, xs, e1, n, h1, h2⟩ := h
    exact ⟨a, xs, e1, n, e _ _ n h1, DtAll.but e h2⟩
  | .dict _, _, h => by rw [Dt] at h; exact h.elim
theorem DtAll.but {l : Addr} {H H' : Hp} (e : SameBut l H H') : ∀ {ds : List PyData} {xs : List V}, DtAll l H ds xs → DtAll l H' ds xs
  | [], _, h => by rw [DtAll] at h ⊢; exact h
  | _ :: _, _, h => by
    rw [DtAll] at h ⊢
    obtain ⟨x, r, e1, h1, h2⟩ := h
    exact ⟨x, r, e1, Dt.but e h1, DtAll.but e h2⟩
end
theorem Dt.same {l : Addr} {H H' : Hp} {d : PyData} {v : V} (h : Dt l H d v) (e : Same H H') : Dt l H' d v := Dt.but (.of e) h
theorem DtAll.same {l : Addr} {H H' : Hp} {d : List PyData} {v : List V} (h : DtAll l H d v) (e : Same H H') : DtAll l H' d v := DtAll.but (.of e) h
mutual
theorem Dt.br {K : PySem.W.Frag} {l : Addr} {H : Hp} : ∀ {d : PyData} {v : V}, Dt l H d v → Br K H d v
  | .none, _, h => by rw [Dt] at h; rw [Br]; exact h
  | .bool _, _, h => by rw [Dt] at h; rw [Br]; exact h
  | .int _, _, h => by rw [Dt] at h; rw [Br]; exact h
  | .str _, _, h => by rw [Dt] at h; rw [Br]; exact h
  | .tuple _, _, h => by
    rw [Dt] at h; rw [Br]
    obtain ⟨a, xs, e1, n, h1, h2⟩ := h
    exact ⟨a, xs, e1, SqT.of h1, DtAll.br h2⟩
  | .list _, _, h => by
    rw [Dt] at h; rw [Br]
    obtain ⟨a, xs, e1, n, h1, h2⟩ := h
    exact ⟨a, xs, e1, SqL.of h1, DtAll.br h2⟩
  | .dict _, _, h => by rw [Dt] at h; exact h.elim
theorem DtAll.br {K : PySem.W.Frag} {l : Addr} {H : Hp} : ∀ {ds : List PyData} {xs : List V}, DtAll l H ds xs → BrAll K H ds xs
  | [], _, h => by rw [DtAll] at h; rw [BrAll]; exact h
  | _ :: _, _, h => by
    rw [DtAll] at h; rw [BrAll]
    obtain ⟨x, r, e1, h1, h2⟩ := h
    exact ⟨x, r, e1, Dt.br h1, DtAll.br h2⟩
end
theorem DtAll.len {l : Addr} {H : Hp} : ∀ {ds : List PyData} {xs : List V}, DtAll l H ds xs → xs.length = ds.length
  | [], _, h => by rw [DtAll] at h; rw [h]; rfl
  | _ :: _, _, h => by
    rw [DtAll] at h
    obtain ⟨x, r, rfl, _, h2⟩ := h
    rw [List.length_cons, List.length_cons, DtAll.len h2]
theorem DtAll.get {l : Addr} {H : Hp} : ∀ {ds : List PyData} {xs : List V} {i : Nat} {v : V}, DtAll l H ds xs → xs[i]? = some v → ∃ d, ds[i]? = some d ∧ Dt l H d v
  | [], _, i, v, h, e => by rw [DtAll] at h; subst h; simp at e
  | d :: ds, _, i, v, h, e => by
    rw [DtAll] at h
    obtain ⟨x, r, rfl, h1, h2⟩ := h
    cases i with
    | zero => simp at e; subst e; exact ⟨d, rfl, h1⟩
    | succ i =>
      obtain ⟨c, q1, q2⟩ := h2.get (i := i) (v := v) (by simpa using e)
      exact ⟨c, by simpa using q1, q2⟩
theorem DtAll.nil {l : Addr} {H : Hp} : DtAll l H [] [] := by rw [DtAll]
theorem DtAll.cons {l : Addr} {H : Hp} {d : PyData} {ds : List PyData} {x : V} {xs : List V} (h : Dt l H d x) (k : DtAll l H ds xs) : DtAll l H (d :: ds) (x :: xs) := by
  rw [DtAll]; exact ⟨x, xs, rfl, h, k⟩
theorem DtAll.app {l : Addr} {H : Hp} : ∀ {ds es : List PyData} {xs ys : List V}, DtAll l H ds xs → DtAll l H es ys → DtAll l H (ds ++ es) (xs ++ ys)
  | [], _, _, _, h, k => by rw [DtAll] at h; subst h; exact k
  | d :: ds, es, _, ys, h, k => by
    rw [DtAll] at h
    obtain ⟨x, r, rfl, h1, h2⟩ := h
    exact .cons h1 (h2.app k)
theorem Dt.int {l : Addr} {H : Hp} {i : Int} : Dt l H (.int i) (.int i) := by rw [Dt]
theorem Dt.bool {l : Addr} {H : Hp} {b : Bool} : Dt l H (.bool b) (.bl b) := by rw [Dt]
theorem Dt.non {l : Addr} {H : Hp} : Dt l H .none .non := by rw [Dt]
theorem Dt.str {l : Addr} {H : Hp} {x : Str} : Dt l H (.str x) (.str x) := by rw [Dt]
theorem Dt.tup {l a : Addr} {H : Hp} {ds : List PyData} {xs : List V} (n : a ≠ l) (h : H a = some (.tup xs)) (k : DtAll l H ds xs) : Dt l H (.tuple ds) (.ref a) := by rw [Dt]; exact ⟨a, xs, rfl, n, h, k⟩
theorem Dt.lst {l a : Addr} {H : Hp} {ds : List PyData} {xs : List V} (n : a ≠ l) (h : H a = some (.lst xs)) (k : DtAll l H ds xs) : Dt l H (.list ds) (.ref a) := by rw [Dt]; exact ⟨a, xs, rfl, n, h, k⟩
def Ok (n : Nat) (d : PyData) : Prop := d.canLay0 = true ∧ d.depth ≤ n
def OkAll (n : Nat) (ds : List PyData) : Prop := PyData.canLayAll0 ds = true ∧ PyData.depthAll ds ≤ n
theorem Ok.shaped {n : Nat} {d : PyData} (h : Ok n d) (hn : n ≤ 64) : SeqAt.shaped d = true := by
  unfold SeqAt.shaped
  rw [h.1, Bool.true_and]
  exact decide_eq_true (Nat.le_trans h.2 hn)
theorem OkAll.nil {n : Nat} : OkAll n [] := ⟨by simp [PyData.canLayAll0], by simp [PyData.depthAll]⟩
theorem OkAll.cons {n : Nat} {d : PyData} {ds : List PyData} (h : Ok n d) (k : OkAll n ds) : OkAll n (d :: ds) := ⟨by simp [PyData.canLayAll0, h.1, k.1], by simp only [PyData.depthAll]; exact Nat.max_le.mpr ⟨h.2, k.2⟩⟩
theorem OkAll.of {n : Nat} : ∀ {ds : List PyData}, (∀ d ∈ ds, Ok n d) → OkAll n ds
  | [], _ => .nil
  | d :: ds, h => .cons (h d List.mem_cons_self) (OkAll.of fun e he => h e (List.mem_cons_of_mem _ he))
theorem Ok.tup {n : Nat} {ds : List PyData} (h : OkAll n ds) : Ok (n + 1) (.tuple ds) := ⟨by simp only [PyData.canLay0]; exact h.1, by simp only [PyData.depth]; exact Nat.succ_le_succ h.2⟩
theorem Ok.lst {n : Nat} {ds : List PyData} (h : OkAll n ds) : Ok (n + 1) (.list ds) := ⟨by simp only [PyData.canLay0]; exact h.1, by simp only [PyData.depth]; exact Nat.succ_le_succ h.2⟩
theorem Ok.int {n : Nat} {i : Int} : Ok n (.int i) := ⟨by simp [PyData.canLay0], by simp [PyData.depth]⟩
theorem Ok.bool {n : Nat} {b : Bool} : Ok n (.bool b) := ⟨by simp [PyData.canLay0], by simp [PyData.depth]⟩
theorem Ok.non {n : Nat} : Ok n .none := ⟨by simp [PyData.canLay0], by simp [PyData.depth]⟩
theorem Ok.str {n : Nat} {x : Str} (h : PyData.strOk x = true) : Ok n (.str x) := ⟨by simp [PyData.canLay0, h], by simp [PyData.depth]⟩
mutual
theorem eqv_self : ∀ d : PyData, d.canLay0 = true → PyData.eqv d d = true
  | .none, _ => by simp [PyData.eqv]
  | .bool _, _ => by simp [PyData.eqv]
  | .int _, _ => by simp [PyData.eqv]
  | .str _, _ => by simp [PyData.eqv]
  | .tuple ds, h => by simp only [PyData.eqv]; exact eqvAll_self ds (by simpa only [PyData.canLay0] using h)
  | .list ds, h => by simp only [PyData.eqv]; exact eqvAll_self ds (by simpa only [PyData.canLay0] using h)
  | .dict _, h => by simp [PyData.canLay0] at h
theorem eqvAll_self : ∀ ds : List PyData, PyData.canLayAll0 ds = true → PyData.eqvAll ds ds = true
  | [], _ => by simp [PyData.eqvAll]
  | d :: ds, h => by
    simp only [PyData.canLayAll0, Bool.and_eq_true] at h
    simp only [PyData.eqvAll, eqv_self d h.1, eqvAll_self ds h.2, Bool.and_self]
end
def tyOf : PyData → String
  | .none => "NoneType"
  | .bool _ => "bool"
  | .int _ => "int"
  | .str _ => "str"
  | .tuple _ => "tuple"
  | .list _ => "list"
  | .dict _ => "dict"
theorem Dt.ty {K : PySem.W.Frag} {l : Addr} {H : Hp} : ∀ {d : PyData} {v : V}, Dt l H d v → TyOf K H v (.type (tyOf d))
  | .none, _, h => by rw [Dt] at h; subst h; exact .non
  | .bool _, _, h => by rw [Dt] at h; subst h; exact .bl _
  | .int _, _, h => by rw [Dt] at h; subst h; exact .int _
  | .str _, _, h => by rw [Dt] at h; subst h; exact .str _
  | .tuple _, _, h => by rw [Dt] at h; obtain ⟨a, xs, rfl, _, h1, _⟩ := h; exact .tup h1
  | .list _, _, h => by rw [Dt] at h; obtain ⟨a, xs, rfl, _, h1, _⟩ := h; exact .lst h1
  | .dict _, _, h => by rw [Dt] at h; exact h.elim
def isTupD : PyData → Bool
  | .tuple _ => true
  | _ => false
def isLstD : PyData → Bool
  | .list _ => true
  | _ => false
def isIntD : PyData → Bool
  | .int _ => true
  | .bool _ => true
  | _ => false
def isBoolD : PyData → Bool
  | .bool _ => true
  | _ => false
theorem kit_tupD (K : PySem.W.Frag) : ∀ d : PyData, (∀ kv, d ≠ .dict kv) → PySem.W.kitOne K (.type (tyOf d)) (.type "tuple") = some (isTupD d)
  | .none, _ => kit_nt K
  | .bool _, _ => kit_bt K
  | .int _, _ => kit_it K
  | .str _, _ => kit_st K
  | .tuple _, _ => kit_tt K
  | .list _, _ => kit_lt K
  | .dict kv, h => absurd rfl (h kv)
theorem kit_lstD (K : PySem.W.Frag) : ∀ d : PyData, (∀ kv, d ≠ .dict kv) → PySem.W.kitOne K (.type (tyOf d)) (.type "list") = some (isLstD d)
  | .none, _ => kit_nl K
  | .bool _, _ => kit_bl K
  | .int _, _ => kit_il K
  | .str _, _ => kit_sl K
  | .tuple _, _ => kit_tl K
  | .list _, _ => kit_ll K
  | .dict kv, h => absurd rfl (h kv)
theorem kit_nb (K : PySem.W.Frag) : PySem.W.kitOne K (.type "NoneType") (.type "bool") = some false := by kernel_rfl
theorem kit_sb (K : PySem.W.Frag) : PySem.W.kitOne K (.type "str") (.type "bool") = some false := by kernel_rfl
theorem kit_tb (K : PySem.W.Frag) : PySem.W.kitOne K (.type "tuple") (.type "bool") = some false := by kernel_rfl
theorem kit_lb (K : PySem.W.Frag) : PySem.W.kitOne K (.type "list") (.type "bool") = some false := by kernel_rfl
theorem kit_intD (K : PySem.W.Frag) : ∀ d : PyData, (∀ kv, d ≠ .dict kv) → PySem.W.kitOne K (.type (tyOf d)) (.type "int") = some (isIntD d)
  | .none, _ => kit_ni K
  | .bool _, _ => kit_bi K
  | .int _, _ => kit_ii K
  | .str _, _ => kit_si K
  | .tuple _, _ => kit_ti K
  | .list _, _ => kit_li K
  | .dict kv, h => absurd rfl (h kv)
theorem kit_boolD (K : PySem.W.Frag) : ∀ d : PyData, (∀ kv, d ≠ .dict kv) → PySem.W.kitOne K (.type (tyOf d)) (.type "bool") = some (isBoolD d)
  | .none, _ => kit_nb K
  | .bool _, _ => kit_bb K
  | .int _, _ => kit_ib K
  | .str _, _ => kit_sb K
  | .tuple _, _ => kit_tb K
  | .list _, _ => kit_lb K
  | .dict kv, h => absurd rfl (h kv)
theorem Dt.nodict {l : Addr} {H : Hp} {d : PyData} {v : V} (h : Dt l H d v) : ∀ kv, d ≠ .dict kv := fun kv z => by subst z; rw [Dt] at h; exact h
end L2
set_option Elab.async false
set_option linter.all false
set_option maxRecDepth 100000
set_option maxHeartbeats 4000000
namespace L2
open PySem PySem.Spec PyProof.Rows
section
variable {X : Cx}
theorem op_isB : OpR X (compareOp .Is) (fun x y H Q => ∃ b c, x = .bl b ∧ y = .bl c ∧ Q (.bl (b == c)) H) := by
  intro pins s σ H x y v u Q I rx ry h
  obtain ⟨b, c, rfl, rfl, q⟩ := h
  cases rx
  cases ry
  exact wpAny_pure (fin_bl I q (by cases b <;> cases c <;> rfl))
end
def ItE (K : PySem.W.Frag) (a : Addr) : It :=
  ⟨fun i H => ∃ xs x, SqL K H a xs ∧ xs[i]? = some x, fun i H v H' => ∃ p x, v = .ref p ∧ H p = none ∧ H' = upd H p (.tup [.int i, x]) ∧ ∀ xs, SqL K H a xs → xs[i]? = some x, fun i H => ∃ xs, SqL K H a xs ∧ xs.length = i⟩
theorem turn_enumL {P : Program} {w : World} {K : PySem.W.Frag} {elts : List Expr} {x1} {pos : Pos} (a e it : Addr) (hne : e ≠ it) :
    Turn P w K (.Tuple elts x1 pos) (ItE K a) [e, it] e (fun i h => (∃ old, IsEnum h e it (i : Nat) old) ∧ h.IsListIter it a i) where
  mem := by simp
  obj := fun i h st b hb => by
    rcases List.mem_cons.mp hb with rfl | hb
    · obtain ⟨⟨old, q⟩, _⟩ := st
      exact ⟨_, q, fun v z => by cases z⟩
    · have e2 : b = it := by simpa using hb
      subst e2
      obtain ⟨_, o, q, c, d⟩ := st
      exact ⟨o, q, fun v z => by rw [d] at z; cases z⟩
  keep := fun i h h' st k => by
    obtain ⟨⟨old, q⟩, o, q2, r⟩ := st
    exact ⟨⟨old, k e (by simp) _ q⟩, o, k it (by simp) _ q2, r⟩
  item := by
    intro X hP hw hK hc i pins s σ H E I hf st hg
    subst hP hw hK
    obtain ⟨xs, x, hq, hx⟩ := hg
    obtain ⟨its, rv, pL, hz⟩ := I.list hq
    have p := pL.isList
    obtain ⟨u, hu, ru⟩ := rv.get hx
    obtain ⟨⟨old, he⟩, hit⟩ := st
    have hai : a ≠ it := fun z => by
      obtain ⟨o, e1, c1, _⟩ := p
      obtain ⟨o2, e2, c2, _⟩ := hit
      rw [z, e2] at e1; cases e1
      rw [c1] at c2; exact absurd c2 (by decide)
    have hae : a ≠ e := fun z => by
      obtain ⟨o, e1, c1, _⟩ := p
      rw [z, he] at e1; cases e1
      exact absurd (show Value.type "enumerate" = Value.type "list" from c1) (by decide)
    have hlt : i < its.length := (List.getElem?_eq_some_iff.mp hu).1
    have hE0 := hf e (by simp)
    have hI0 := hf it (by simp)
    refine wpAny_pyNext_enum_itemD (Draws.list (prog := X.prog) (w := X.w) (A := X.A.in1) (I.ok.hd hc) it a hai its.toArray) he ⟨hit, p⟩ (by simpa using hlt) hne (by simp [hne, Ne.symm hae]) fun y h' tk hy ho hs' hT hsz hk => ⟨_, rfl, wpAny_letOwnedTupleGo_enum (s := { s with heap := h', toks := tk + 1 }) ho fun h'' he'' sb => ?_⟩
    have hyu : y = u := by
      have hy : its[i]? = some y := by simpa using hy
      rw [hu] at hy; exact (Option.some.inj hy).symm
    subst hyu
    have keep : ∀ b o, b ≠ e → b ≠ it → s.heap.get? b = some o → h''.get? b = some o := fun b o h1 h2 q => (sb.2 b h1).trans (hk b o h1 h2 q)
    have hTe : s.heap.objs.size ≠ e := Nat.ne_of_gt (Heap.lt_size he)
    have hTi : s.heap.objs.size ≠ it := let ⟨_, q, _⟩ := hit; Nat.ne_of_gt (Heap.lt_size q)
    have hT'' : h''.get? s.heap.objs.size = some { cls := .type "tuple", data := .seq #[.int i tk, y] } := (sb.2 _ hTe).trans hT
    have hTn : H s.heap.objs.size = none := I.hok.fresh (Nat.le_refl _)
    have neT : ∀ b o, s.heap.get? b = some o → b ≠ s.heap.objs.size := fun b o q => Nat.ne_of_lt (Heap.lt_size q)
    have trk : ∀ b o, H b = some o → b ≠ e ∧ b ≠ it := fun b o q => ⟨(fun z => by rw [z, hE0.1] at q; cases q), (fun z => by rw [z, hI0.1] at q; cases q)⟩
    refine ⟨.ref s.heap.objs.size, upd H s.heap.objs.size (.tup [.int i, x]), ?_, rfl, ⟨_, x, rfl, hTn, rfl, fun ys hy => by rw [I.list_inj hy hq]; exact hx⟩, ⟨⟨_, by simpa using he''⟩, ?_⟩, fun b hb => ?_⟩
    · show Inv X pins σ _ { s with heap := h'', gens := s.gens, drawn := s.drawn, toks := tk + 1 }
      refine I.step (h' := h'') (g' := s.gens) (d' := s.drawn) (t' := tk + 1) (ch := [e, it]) (fun b hb => ?_) (fun b o _ _ hc q _ => keep b o (fun z => hc (by simp [z])) (fun z => hc (by simp [z])) q) (fun b o _ _ hc q _ => ⟨o.slots, keep b o (fun z => hc (by simp [z])) (fun z => hc (by simp [z])) q⟩)
        (fun b o _ q n => by rw [upd_ne (neT b o q)]; exact n) (fun b o hc q => ⟨o, keep b o (fun z => hc (by simp [z])) (fun z => hc (by simp [z])) q⟩) (fun b ys q => by rw [upd_ne (ne_of_none q hTn)]; exact q) (fun b o u q => by rw [upd_ne (ne_of_none q hTn)]; exact q)
        (fun b ps q => ⟨#[], by rw [upd_ne (ne_of_none q hTn), q]; simp⟩) (fun m hm => ?_) (fun b o q => ?_) I.bare
      · rcases List.mem_cons.mp hb with rfl | hb
        · exact ⟨hE0.2.2.2.1, hE0.2.1, hE0.2.2.2.2.1, hE0.2.2.2.2.2⟩
        · have e2 : b = it := by simpa using hb
          subst e2
          exact ⟨hI0.2.2.2.1, hI0.2.1, hI0.2.2.2.2.1, hI0.2.2.2.2.2⟩
      · obtain ⟨o, es, ep, ho, r⟩ := hm
        exact ⟨o, es, ep, keep _ o (Ne.symm hE0.2.1) (Ne.symm hI0.2.1) ho, r⟩
      · by_cases hb : b = s.heap.objs.size
        · subst hb
          rw [upd_same] at q
          cases q
          exact ⟨sz2, [.int i tk, y], .cons ⟨tk, rfl⟩ (.cons ru .nil), _, hT'', rfl, _, rfl⟩
        · rw [upd_ne hb] at q
          refine (I.hok b o q).stay (fun c v hc r => keep c v ?_ ?_ r) (fun c r => by rw [upd_ne (ne_of_none r hTn)]; exact r) fun c ys r => by rw [upd_ne (ne_of_none r hTn)]; exact r
          · rcases hc with rfl | hc
            · exact (trk _ _ q).1
            · exact (trk _ _ hc).1
          · rcases hc with rfl | hc
            · exact (trk _ _ q).2
            · exact (trk _ _ hc).2
    · obtain ⟨⟨o, q, r⟩, _⟩ := hs'
      exact ⟨o, (sb.2 it (Ne.symm hne)).trans q, r⟩
    · rcases List.mem_cons.mp hb with rfl | hb
      · rw [upd_ne (Ne.symm hTe)]; exact hE0.1
      · have e2 : b = it := by simpa using hb
        subst e2
        rw [upd_ne (Ne.symm hTi)]; exact hI0.1
  done := by
    intro X hP hw hK hc i pins s σ H E I hf st hg
    subst hP hw hK
    obtain ⟨xs, hq, hx⟩ := hg
    obtain ⟨its, rv, pL, hz⟩ := I.list hq
    have p := pL.isList
    obtain ⟨⟨old, he⟩, hit⟩ := st
    have hai : a ≠ it := fun z => by
      obtain ⟨o, e1, c1, _⟩ := p
      obtain ⟨o2, e2, c2, _⟩ := hit
      rw [z, e2] at e1; cases e1
      rw [c1] at c2; exact absurd c2 (by decide)
    have hl : its.length = i := by rw [← rv.length]; exact hx
    subst hl
    obtain ⟨f0, f1, f2, f3, f4, f5⟩ := hf it (by simp)
    exact wpAny_pyNext_enum_endD (Draws.list (prog := X.prog) (w := X.w) (A := X.A.in1) (I.ok.hd hc) it a hai its.toArray) he ⟨hit, p⟩ fun h' eb => ⟨rfl, I.turned (t' := s.toks) (fun b o hb q => eb b o hb q) f0 f1 f3 f4 f5⟩
  self := fun _ _ _ _ _ st h => by
    obtain ⟨⟨old, he⟩, _⟩ := st
    exact wpAny_pyIter_enum he h
def iEnumL (K : PySem.W.Frag) (ta : TA) : TI := fun σ H R => ta σ H fun vs H1 => ∃ a, vs = [.ref a] ∧ (∃ xs, SqL K H1 a xs) ∧ R (ItE K a) H1
theorem pi_enumL {X : Cx} {elts : List Expr} {x1} {tpos : Pos} {a : Expr} {ta : TA} {p pos : Pos} (hg : Gl X "enumerate") (hm : X.mg "enumerate" = none) (ha : PA X [a] ta) (hs : starEach [a] X.env = [(false, eval a X.env)] := by rfl) :
    PI X (.Tuple elts x1 tpos) (.Call (.Name "enumerate" p) [a] [] pos) (iEnumL X.K ta) := by
  intro pins s σ H R I h
  refine Call_ (ld_blt I hg hm boot_enumerate (PyProof.Rows.callWith_type1 (thn (ha pos pins s σ H _ I h) fun us s1 ⟨vs, H1, I1, r1, q1⟩ => ?_) hs rfl))
  obtain ⟨t, e, ⟨xs, hq⟩, q⟩ := q1
  subst e
  cases r1 with
  | cons r rr =>
    cases rr
    cases r
    obtain ⟨its, rv, p', hz⟩ := I1.list hq
    refine call_enumerate_list (show s1.heap.IsList t its.toArray from p'.isList) fun h' he hit hsz hk => wpAny_pyIter_enum he ?_
    have I2 : Inv X pins σ H1 { s1 with heap := h' } := I1.kept (t' := s1.toks) hk
    have hn : s1.heap.objs.size + 1 ≠ s1.heap.objs.size := by omega
    refine ⟨s1.heap.objs.size + 1, [s1.heap.objs.size + 1, s1.heap.objs.size], _, _, H1, rfl, I2, turn_enumL t _ _ hn, ⟨⟨_, he⟩, hit⟩, fun b hb => ?_, q⟩
    have hb' : s1.heap.objs.size ≤ b := by
      have hb2 : b = s1.heap.objs.size + 1 ∨ b = s1.heap.objs.size := by simpa using hb
      rcases hb2 with z | z
      · rw [z]; exact Nat.le_succ _
      · rw [z]; exact Nat.le_refl _
    exact I1.fpOk hb' (I1.hok.fresh hb')
theorem for_enumL {K : PySem.W.Frag} {a : Addr} {xs : List V} {g : TG} {tb : TS} {D : Ends} {σ : St} {H : Hp} (Pv : Nat → St → Hp → Prop) (h0 : Pv 0 σ H) (hl : ∀ i σ H, i ≤ xs.length → Pv i σ H → SqL K H a xs)
    (hs : ∀ i x σ H, xs[i]? = some x → Pv i σ H → ∀ p, H p = none → g (.ref p) σ (upd H p (.tup [.int (i : Nat), x])) fun σ2 H2 => tb { D with nx := Pv (i + 1), ct := Pv (i + 1), bk := D.nx } σ2 H2) (hd : ∀ σ H, Pv xs.length σ H → D.nx σ H) :
    ∃ W : Nat → Nat → St → Hp → Prop, (∃ m, W 0 m σ H) ∧ ∀ i m σ H, W i m σ H →
      ((ItE K a).stop i H ∧ D.nx σ H) ∨ ((ItE K a).go i H ∧ ∃ N : St → Hp → Prop, (∀ σ' H', N σ' H' → ∃ m', m' < m ∧ W (i + 1) m' σ' H') ∧ ∀ x H', (ItE K a).yld i H x H' → g x σ H' fun σ2 H2 => tb { D with nx := N, ct := N, bk := D.nx } σ2 H2) := by
  refine ⟨fun i m σ H => m = xs.length - i ∧ i ≤ xs.length ∧ Pv i σ H, ⟨xs.length, by simp, Nat.zero_le _, h0⟩, ?_⟩
  rintro i m σ H ⟨rfl, hi, p⟩
  have q := hl i σ H hi p
  by_cases hlt : i < xs.length
  · refine .inr ⟨⟨xs, xs[i], q, by simp [hlt]⟩, Pv (i + 1), fun σ' H' p' => ⟨xs.length - (i + 1), by omega, rfl, hlt, p'⟩, fun x H' y => ?_⟩
    obtain ⟨pp, x', rfl, hn, rfl, y⟩ := y
    exact hs i x' σ _ (y xs q) p pp hn
  · have e : i = xs.length := by omega
    subst e
    exact .inl ⟨⟨xs, q, rfl⟩, hd σ H p⟩
end L2
set_option Elab.async false
set_option linter.all false
set_option maxRecDepth 100000
set_option maxHeartbeats 4000000
namespace L2
open PySem PySem.Spec PyProof.Rows
def litE : Nat → Expr → Option PyData
  | _, .Constant (.int i) _ _ => some (.int i)
  | _, .Constant (.bool b) _ _ => some (.bool b)
  | _, .Constant .none _ _ => some .none
  | _, .Constant (.str x) _ _ => some (.str x)
  | n + 1, .Tuple es _ _ => if es.length ≤ 60 then (es.mapM (litE n)).map .tuple else none
  | n + 1, .List es _ => if es.length ≤ 60 then (es.mapM (litE n)).map .list else none
  | _, _ => none
def tLit (d : PyData) : TE := fun _ H Q => ∀ v H', Same H H' → (∀ p, (H' p = none ∨ H p ≠ none) → Dt p H' d v) → Q v H'
def tLits (ds : List PyData) : TA := fun _ H Q => ∀ vs H', Same H H' → (∀ p, (H' p = none ∨ H p ≠ none) → DtAll p H' ds vs) → vs.length = ds.length → Q vs H'
theorem mapM_len {α β : Type} {f : α → Option β} : ∀ {es : List α} {ds : List β}, es.mapM f = some ds → ds.length = es.length
  | [], ds, h => by simp at h; subst h; rfl
  | e :: es, ds, h => by
    simp only [List.mapM_cons, Option.bind_eq_bind, Option.bind_eq_some_iff, Option.pure_def, Option.some.injEq] at h
    obtain ⟨d, h1, ds', h2, rfl⟩ := h
    rw [List.length_cons, List.length_cons, mapM_len h2]
theorem lit_plain {n : Nat} {e : Expr} {d : PyData} (h : litE n e = some d) (es : List Expr) (env : Env) : starEach (e :: es) env = (false, eval e env) :: starEach es env := by
  cases e <;> first | rfl | (cases n <;> simp [litE] at h)
section
variable {X : Cx}
theorem pe_less {e : Expr} {t t' : TE} (h : PE X e t) (k : ∀ σ H Q, t' σ H Q → t σ H Q) : PE X e t' := fun pins s σ H Q I q => h pins s σ H Q I (k σ H Q q)
theorem pa_less {e : List Expr} {t t' : TA} (h : PA X e t) (k : ∀ σ H Q, t' σ H Q → t σ H Q) : PA X e t' := fun pos pins s σ H Q I q => h pos pins s σ H Q I (k σ H Q q)
theorem pa_lits_of {n : Nat} (hp : ∀ {e : Expr} {d : PyData}, litE n e = some d → PE X e (tLit d)) : ∀ {es : List Expr} {ds : List PyData}, es.mapM (litE n) = some ds → PA X es (tLits ds)
  | [], ds, h => by
    simp at h
    subst h
    exact pa_less pa_nil fun σ H Q q => q [] H (.refl H) (fun p _ => .nil) rfl
  | e :: es, ds, h => by
    simp only [List.mapM_cons, Option.bind_eq_bind, Option.bind_eq_some_iff, Option.pure_def, Option.some.injEq] at h
    obtain ⟨d, h1, ds', h2, rfl⟩ := h
    refine pa_less (pa_cons (hp h1) (pa_lits_of hp h2) (lit_plain h1 _ _)) fun σ H Q q => ?_
    intro v H1 e1 k1 vs H2 e2 k2 hl
    refine q (v :: vs) H2 (e1.trans e2) (fun p hp => .cons ((k1 p ?_).same e2) (k2 p ?_)) (by simp [hl])
    · rcases hp with hp | hp
      · exact .inl (e2.free hp)
      · exact .inr hp
    · rcases hp with hp | hp
      · exact .inl hp
      · refine .inr fun z => hp (e1.free z)
theorem pe_lit : ∀ {n : Nat} {e : Expr} {d : PyData}, litE n e = some d → PE X e (tLit d)
  | n, e, d, h => by
    have hs : 60 ≤ sizeLine := by rw [sizeLine_eq]; decide
    unfold litE at h
    split at h
    · cases h; exact pe_less pe_int fun σ H Q q => q _ H (.refl H) fun p _ => .int
    · cases h; exact pe_less pe_bl fun σ H Q q => q _ H (.refl H) fun p _ => .bool
    · cases h; exact pe_less pe_non fun σ H Q q => q _ H (.refl H) fun p _ => .non
    · cases h; exact pe_less pe_str fun σ H Q q => q _ H (.refl H) fun p _ => .str
    · split at h
      · rename_i m es _ _ hes
        simp only [Option.map_eq_some_iff] at h
        obtain ⟨ds, h1, rfl⟩ := h
        refine pe_less (pe_tup (pa_lits_of (fun h => pe_lit (n := m) h) h1)) fun σ H Q q => ?_
        intro vs H1 e1 k1 hl
        have hlen := mapM_len h1
        refine ⟨by omega, fun p hp => ?_⟩
        have es := same_new hp (.tup vs)
        refine q _ _ (e1.trans es) fun p' hp' => .tup ?_ upd_same ((k1 p' ?_).same es)
        · rcases hp' with hp' | hp'
          · exact ne_of_none upd_same hp'
          · exact fun z => hp' (z ▸ e1.free hp)
        · rcases hp' with hp' | hp'
          · exact .inl (es.free hp')
          · exact .inr hp'
      · cases h
    · split at h
      · rename_i m es _ hes
        simp only [Option.map_eq_some_iff] at h
        obtain ⟨ds, h1, rfl⟩ := h
        refine pe_less (pe_lst (pa_lits_of (fun h => pe_lit (n := m) h) h1)) fun σ H Q q => ?_
        intro vs H1 e1 k1 hl
        have hlen := mapM_len h1
        refine ⟨by omega, fun p hp => ?_⟩
        have es := same_new hp (.lst vs)
        refine q _ _ (e1.trans es) fun p' hp' => .lst ?_ upd_same ((k1 p' ?_).same es)
        · rcases hp' with hp' | hp'
          · exact ne_of_none upd_same hp'
          · exact fun z => hp' (z ▸ e1.free hp)
        · rcases hp' with hp' | hp'
          · exact .inl (es.free hp')
          · exact .inr hp'
      · cases h
    · cases h
theorem pa_lits {n : Nat} {es : List Expr} {ds : List PyData} (h : es.mapM (litE n) = some ds) : PA X es (tLits ds) := pa_lits_of (fun h => pe_lit h) h
end
section
variable {X : Cx} {scope : Scope} {cl : List (Str × Addr)} {N : List Str} {C : Addr} {s₀ : Shared} {H₀ : Hp} {fp : List Addr}
theorem call_list_ofC : CallR (cxComp X scope cl N C s₀ H₀ fp) (.type "list") (fun xs H Q => ∃ p ys, xs = [.ref p] ∧ (SqL X.K H p ys ∨ SqT X.K H p ys) ∧ ∀ l, H l = none → Q (.ref l) (upd H l (.lst ys))) := call_list_of
end
end L2
set_option Elab.async false
set_option linter.all false
set_option maxRecDepth 100000
set_option maxHeartbeats 4000000
namespace Q31
open PySem L2
def top (i : Nat) : Stmt := PySem.Challenge.pw_stepgrove_k31_tables_of_many_rows.main.body.getD i (.Pass ⟨0, 0, 0, 0⟩)
abbrev s_is_fraction : Stmt := top 1
abbrev s_are_fractions : Stmt := top 2
abbrev s_is_whole : Stmt := top 3
abbrev s_greatest_divisor : Stmt := top 4
abbrev s_is_table : Stmt := top 7
abbrev s_are_rows : Stmt := top 8
abbrev s__law_mixed : Stmt := top 10
abbrev s__law_pile : Stmt := top 11
abbrev s__law_take : Stmt := top 12
abbrev s__law_shared : Stmt := top 13
abbrev s__law_frac : Stmt := top 14
abbrev s__law_whole : Stmt := top 15
abbrev s__law_part : Stmt := top 16
abbrev s__law_is_fraction : Stmt := top 17
abbrev s__law_are : Stmt := top 18
abbrev s__law_is_table : Stmt := top 19
abbrev s__law_long : Stmt := top 20
abbrev s__law_bent : Stmt := top 21
abbrev s__law_good : Stmt := top 22
abbrev s_law : Stmt := top 23
theorem nnt {n : String} : clsV (.ty n) ≠ .none := fun z => nomatch z
def spGd : Sp := fun vs H Q _ => ∃ a b, vs = [.int a, .int b] ∧ Q (.int (FM.gi a b)) H
def spFr : Sp := fun vs H Q _ => ∃ t b m, vs = [.int t, .int b] ∧ b ≠ 0 ∧ m ≤ 9000 ∧ b.natAbs < 2 ^ m ∧ ∀ l H', Same H H' → H' l = some (.tup (ratV (Rat.divInt t b))) → Q (.ref l) H'
section
variable {P : Program} {w : World} {K : PySem.W.Frag} {mg : Str → Option Value} {base : Heap} {f g : Addr} {fd gd : FuncData}
theorem sc_greatest_divisor : FnScope ["one", "other", "greater", "lesser", "rest"] ["one", "other"] (defScope s_greatest_divisor) := ⟨rfl, rfl, rfl, by decide +kernel, rfl, by decide +kernel, by decide +kernel⟩
def mu3 (σ : St) : Nat := match σ[3]? with | some (some (V.int l)) => l.natAbs | _ => 0
theorem ok_greatest_divisor (F : Fn K mg "greatest_divisor" s_greatest_divisor ["one", "other"] f fd) (z_abs : mg "abs" = none) : FnOk P w K mg base CX0 1 f fd ["one", "other"] spGd := by
  have sc := sc_greatest_divisor
  refine F.F.ok (k := 0) sc (fun vs H Q E h => ?_) (fun cdv A outer s H vs Q E hr h => ?_)
  · obtain ⟨a, b, rfl, _⟩ := h
    rfl
  obtain ⟨a, b, rfl, q⟩ := h
  refine ⟨_, (pss_cons (ps_set (i := 2) sc.nd rfl (Or.inl rfl) (pe_callB call_abs rfl z_abs PyProof.Rows.boot_abs (pa_cons (pv 0) pa_nil)))
  (pss_cons (ps_set (i := 3) sc.nd rfl (Or.inl rfl) (pe_callB call_abs rfl z_abs PyProof.Rows.boot_abs (pa_cons (pv 1) pa_nil)))
  (pss_cons (ps_while PassesOwn.never (pt_cmpR op_ne (pv 3) pe_int (nomark _))
    (pss_cons (ps_set (i := 4) sc.nd rfl (Or.inl rfl) (pe_op op_modN (pv 2) (pv 3)))
    (pss_cons (ps_set (i := 2) sc.nd rfl (Or.inl rfl) (pv 3))
    (pss_one (ps_set (i := 3) sc.nd rfl (Or.inl rfl) (pv 4))))))
  (pss_one (ps_ret (pv 2)))))), ?_⟩
  refine ⟨_, rfl, _, rfl, _, rfl, _, rfl, ?_⟩
  refine while_by (fun σ H' => ∃ g l r, σ = [some (.int a), some (.int b), some (.int g), some (.int l), r] ∧ H = H' ∧ Int.gcd g l = Int.gcd a b ∧ 0 ≤ g ∧ 0 ≤ l) (fun σ _ => mu3 σ) ?_ ?_ ?_
  · exact ⟨_, _, _, rfl, rfl, FM.gcd_abs a b, FM.abs_nonneg a, FM.abs_nonneg b⟩
  · rintro σ H' ⟨g, l, r, rfl, rfl, hg, h0, h1⟩
    refine ⟨_, rfl, rfl, _, rfl, ite2 (fun c => ?_) (fun c => ?_)⟩
    · have hl : l ≠ 0 := fun z => by subst z; simp at c
      refine ⟨_, rfl, _, rfl, _, _, rfl, rfl, hl, _, rfl, _, rfl, ⟨_, _, _, rfl, rfl, ?_, h1, FM.fmod_nonneg hl h1⟩, ?_⟩
      · rw [FM.gcd_step]; exact hg
      · exact FM.fmod_less g l hl
    · have hl : l = 0 := by simpa using c
      subst hl
      refine ⟨_, rfl, ?_⟩
      rw [FM.gi_end hg h0]
      exact q
  · exact fun σ H Q Q' hq ⟨v, e, s, k, e2, q⟩ => ⟨v, e, s, k, e2, hq _ _ q⟩
end
def spMixed : Sp := fun vs H Q _ => ∃ c k, vs = [.int c, .int k] ∧ ∀ r : Int, 0 ≤ r → r < 2147483579 → Q (.int r) H
def spPile (K : PySem.W.Frag) : Sp := fun vs H Q _ => ∃ (a : Addr) (ns : List Int) (k : Int), vs = [.ref a, .int k] ∧ SqL K H a (ns.map V.int) ∧ 0 ≤ k ∧
  ∀ (l : Addr) (H' : Hp) (x : Int), Same H H' → H l = none → H' l = some (.lst [.int x]) → Q (.ref l) H'
def spTake : Sp := fun vs H Q _ => ∃ (l : Addr) (x n : Int), vs = [.ref l, .int n] ∧ H l = some (.lst [.int x]) ∧ 0 < n ∧ n < 2 ^ 64 ∧ ∀ r y : Int, 0 ≤ r → r < n → Q (.int r) (upd H l (.lst [.int y]))
theorem mulC {i j : Int} (h1 : -18446744073709551616 < j) (h2 : j < 18446744073709551616) : CMul i j ∨ CMulW i j := .inl (.inr ⟨h1, h2⟩)
theorem mulL {i j : Int} (h1 : -18446744073709551616 < i) (h2 : i < 18446744073709551616) : CMul i j ∨ CMulW i j := .inl (.inl ⟨h1, h2⟩)
section
variable {P : Program} {w : World} {K : PySem.W.Frag} {mg : Str → Option Value} {base : Heap} {f g : Addr} {fd gd : FuncData}
theorem sc__law_mixed : FnScope ["_law_cell", "_law_k", "_law_number"] ["_law_cell", "_law_k"] (defScope s__law_mixed) := ⟨rfl, rfl, rfl, by decide +kernel, rfl, by decide +kernel, by decide +kernel⟩
theorem ok__law_mixed (F : Fn K mg "_law_mixed" s__law_mixed ["_law_cell", "_law_k"] f fd) : FnOk P w K mg base CX0 1 f fd ["_law_cell", "_law_k"] spMixed := by
  have sc := sc__law_mixed
  refine F.F.ok (k := 0) sc (fun vs H Q E h => ?_) (fun cdv A outer s H vs Q E hr h => ?_)
  · obtain ⟨a, b, rfl, _⟩ := h
    rfl
  obtain ⟨c, k, rfl, q⟩ := h
  refine ⟨_, (pss_cons (ps_set (i := 2) sc.nd rfl (Or.inl rfl) (pe_op op_mod (pe_op op_add (pe_op op_add (pe_op op_mulW (pe_op op_mod (pv 0) pe_int) pe_int) (pe_op op_mulW (pv 1) pe_int)) pe_int) pe_int))
  (pss_cons (ps_set (i := 2) sc.nd rfl (Or.inl rfl) (pe_op op_mod (pe_op op_mulW (pv 2) (pv 2)) pe_int))
  (pss_one (ps_ret (pe_op op_mod (pe_op op_mulW (pv 2) (pe_op op_add (pv 2) pe_int)) pe_int))))), ?_⟩
  refine ⟨_, rfl, _, _, rfl, rfl, (by show (0 : Int) < 2147483647; decide), _, _, rfl, rfl, mulC (by decide) (by decide), _, rfl, _, _, rfl, rfl, mulC (by decide) (by decide), _, _, rfl, rfl, _, _, rfl, rfl, _, _, rfl, rfl, (by show (0 : Int) < 2147483629; decide), ?_⟩
  generalize (c % 2147483647 * 48271 + k * 69621 + 11) = z
  have z0 : 0 ≤ z % 2147483629 := Int.emod_nonneg _ (by decide)
  have z1 : z % 2147483629 < 2147483629 := Int.emod_lt_of_pos _ (by decide)
  refine ⟨_, rfl, _, rfl, _, _, rfl, rfl, mulC (by omega) (by omega), _, _, rfl, rfl, (by show (0 : Int) < 2147483587; decide), ?_⟩
  generalize (z % 2147483629 * (z % 2147483629)) = y
  have y0 : 0 ≤ y % 2147483587 := Int.emod_nonneg _ (by decide)
  have y1 : y % 2147483587 < 2147483587 := Int.emod_lt_of_pos _ (by decide)
  refine ⟨_, rfl, _, rfl, _, _, rfl, rfl, _, _, rfl, rfl, mulC (by omega) (by omega), _, _, rfl, rfl, (by show (0 : Int) < 2147483579; decide), ?_⟩
  exact q _ (Int.emod_nonneg _ (by decide)) (Int.emod_lt_of_pos _ (by decide))
theorem sc__law_pile : FnScope ["_law_script", "_law_k", "_law_cell", "_law_found", "_law_j"] ["_law_script", "_law_k"] (defScope s__law_pile) := ⟨rfl, rfl, rfl, by decide +kernel, rfl, by decide +kernel, by decide +kernel⟩
theorem ok__law_pile (F : Fn K mg "_law_pile" s__law_pile ["_law_script", "_law_k"] f fd) (T__law_mixed : Fn K mg "_law_mixed" s__law_mixed ["_law_cell", "_law_k"] g gd)
    (G__law_mixed : FnOk P w K mg base CX0 1 g gd ["_law_cell", "_law_k"] spMixed) (z_len : mg "len" = none) (z_range : mg "range" = none) : FnOk P w K mg base CX0 2 f fd ["_law_script", "_law_k"] (spPile K) := by
  have sc := sc__law_pile
  refine F.F.ok (k := 1) sc (fun vs H Q E h => ?_) (fun cdv A outer s H vs Q E hr h => ?_)
  · obtain ⟨a, ns, k, rfl, _⟩ := h
    rfl
  obtain ⟨a, ns, k, rfl, hS, h0, q⟩ := h
  refine ⟨_, (pss_cons (ps_set (i := 2) sc.nd rfl (Or.inl rfl) pe_int)
  (pss_cons (ps_if (pt_cmpR op_lt (pv 1) (pe_callB call_len_seq rfl z_len PySem.boot_len (pa_cons (pv 0) pa_nil)) (nomark _))
    (pss_one (ps_set (i := 2) sc.nd rfl (Or.inl rfl) (pe_ix ix_list (pv 0) (pv 1) (fun _ _ => rfl))))
    pss_nil)
  (pss_cons (ps_if (pt_cmpR op_ge (pv 2) (pe_op op_pow pe_int pe_int) (nomark _))
    (pss_one (ps_ret (pe_lst (pa_cons (pe_op op_sub (pv 2) (pe_op op_pow pe_int pe_int)) pa_nil))))
    pss_nil)
  (pss_cons (ps_set (i := 3) sc.nd rfl (Or.inl rfl) pe_int)
  (pss_cons (ps_for PassesOwn.never rfl (pi_range1 rfl z_range (pa_cons pe_int pa_nil)) (pg_name (i := 4) sc.nd rfl (Or.inl rfl))
    (pss_one (ps_set (i := 3) sc.nd rfl (Or.inl rfl) (pe_op op_add (pe_op op_mulW (pv 3) pe_int) (pe_fn T__law_mixed G__law_mixed hr rfl (pa_cons (pv 2) (pa_cons (pe_op op_add (pe_op op_add (pe_op op_mulW pe_int (pv 1)) (pe_op op_mulW pe_int (pv 4))) (pe_op op_mulW (pv 4) (pv 4))) pa_nil)))))))
  (pss_one (ps_ret (pe_lst (pa_cons (pv 3) pa_nil))))))))), ?_⟩
  try dsimp only [gName]
  refine seq_join (fun σ' H' => ∃ c : Int, σ' = [some (.ref a), some (.int k), some (.int c), none, none] ∧ H = H') (fun nx hn => ?_) ?_
  · exact hn _ _ ⟨0, rfl, rfl⟩
  rintro _ _ ⟨_, rfl, rfl⟩
  try dsimp only [gName]
  refine seq_join (fun σ' H' => ∃ c : Int, σ' = [some (.ref a), some (.int k), some (.int c), none, none] ∧ H = H') (fun nx hn => ?_) ?_
  · refine ⟨_, rfl, _, rfl, a, _, rfl, .inl hS, _, _, rfl, rfl, _, rfl, ite2 (fun c => ?_) (fun c => ?_)⟩
    · have c' : k < (((ns.map V.int).length : Nat) : Int) := of_decide_eq_true c
      rw [List.length_map] at c'
      have hk : k.toNat < ns.length := by omega
      have hat : atI (ns.map V.int) k = some (.int ns[k.toNat]) := by
        have z := atI_nat (xs := ns.map V.int) (j := k.toNat) (v := .int ns[k.toNat]) (by rw [List.getElem?_map, List.getElem?_eq_getElem hk]; rfl)
        rwa [show ((k.toNat : Nat) : Int) = k by omega] at z
      exact ⟨_, rfl, _, rfl, a, _, _, _, rfl, rfl, hS, hat, hn _ _ ⟨_, rfl, rfl⟩⟩
    · exact hn _ _ ⟨_, rfl, rfl⟩
  rintro _ _ ⟨c, rfl, rfl⟩
  refine ⟨_, rfl, _, _, rfl, rfl, ⟨by decide, by decide, by decide⟩, _, _, rfl, rfl, _, rfl, ite2 (fun _ => ?_) (fun _ => ?_)⟩
  · refine ⟨_, rfl, _, _, rfl, rfl, ⟨by decide, by decide, by decide⟩, _, _, rfl, rfl, sz1, fun p hp => ?_⟩
    exact q p _ _ (same_new hp _) hp upd_same
  · refine ⟨6, rfl, by decide, by decide, for_range (n := 6) (fun _ σ H' => ∃ fo jj, σ = [some (.ref a), some (.int k), some (.int c), some (.int fo), jj] ∧ H = H') ⟨0, none, rfl, rfl⟩ ?_ ?_⟩
    · rintro i σ H' hi ⟨fo, jj, rfl, rfl⟩
      refine ⟨_, rfl, _, _, rfl, rfl, mulC (by decide) (by decide), _, rfl, _, rfl, _, _, rfl, rfl, mulL (by decide) (by decide), _, rfl, _, _, rfl, rfl, mulL (by decide) (by decide), _, _, rfl, rfl, _, rfl, _, rfl, _, _, rfl, rfl, mulL (by omega) (by omega), _, _, rfl, rfl, _, _, rfl, fun r _ _ => ⟨_, _, rfl, rfl, _, _, rfl, rfl⟩⟩
    · rintro σ H' ⟨fo, jj, rfl, rfl⟩
      refine ⟨_, rfl, sz1, fun p hp => ?_⟩
      exact q p _ _ (same_new hp _) hp upd_same
theorem sc__law_take : FnScope ["_law_pile_here", "_law_size", "_law_digit"] ["_law_pile_here", "_law_size"] (defScope s__law_take) := ⟨rfl, rfl, rfl, by decide +kernel, rfl, by decide +kernel, by decide +kernel⟩
theorem ok__law_take (F : Fn K mg "_law_take" s__law_take ["_law_pile_here", "_law_size"] f fd) : FnOk P w K mg base CX0 1 f fd ["_law_pile_here", "_law_size"] spTake := by
  have sc := sc__law_take
  refine F.F.ok (k := 0) sc (fun vs H Q E h => ?_) (fun cdv A outer s H vs Q E hr h => ?_)
  · obtain ⟨l, x, n, rfl, _⟩ := h
    rfl
  obtain ⟨l, x, n, rfl, hl, h0, h1, q⟩ := h
  refine ⟨_, (pss_cons (ps_set (i := 2) sc.nd rfl (Or.inl rfl) (pe_op op_modN (pe_ix ix_list (pv 0) pe_int (fun _ _ => rfl)) (pv 1)))
  (pss_cons (ps_asg (pe_op op_fdivW (pe_ix ix_list (pv 0) pe_int (fun _ _ => rfl)) (pv 1)) (pg_sub (pv 0) pe_int set_list))
  (pss_one (ps_ret (pv 2))))), ?_⟩
  refine ⟨_, rfl, _, _, _, _, rfl, rfl, SqL.of hl, rfl, _, rfl, _, _, rfl, rfl, (by show n ≠ 0; omega), ?_⟩
  refine ⟨_, rfl, _, _, _, _, rfl, rfl, SqL.of hl, rfl, _, rfl, _, _, rfl, rfl, ⟨by omega, 64, by decide, by omega⟩, _, rfl, l, _, _, 0, rfl, rfl, hl, rfl, _, rfl, ?_⟩
  exact q _ _ (Int.fmod_nonneg_of_pos x h0) (Int.fmod_lt_of_pos x h0)
theorem sc__law_shared : FnScope ["_law_one", "_law_other"] ["_law_one", "_law_other"] (defScope s__law_shared) := ⟨rfl, rfl, rfl, by decide +kernel, rfl, by decide +kernel, by decide +kernel⟩
def mu1 (σ : St) : Nat := match σ[1]? with | some (some (V.int l)) => l.natAbs | _ => 0
theorem ok__law_shared (F : Fn K mg "_law_shared" s__law_shared ["_law_one", "_law_other"] f fd) (z_abs : mg "abs" = none) : FnOk P w K mg base CX0 1 f fd ["_law_one", "_law_other"] spGd := by
  have sc := sc__law_shared
  refine F.F.ok (k := 0) sc (fun vs H Q E h => ?_) (fun cdv A outer s H vs Q E hr h => ?_)
  · obtain ⟨a, b, rfl, _⟩ := h
    rfl
  obtain ⟨a, b, rfl, q⟩ := h
  refine ⟨_, (pss_cons (ps_while PassesOwn.never (pt_cmpR op_ne (pv 1) pe_int (nomark _))
    (pss_one (ps_par (i := 0) (j := 1) rfl sc.nd rfl rfl (by decide) rfl rfl (pa_cons (pv 1) (pa_cons (pe_op op_modN (pv 0) (pv 1)) pa_nil)) rfl)))
  (pss_one (ps_ret (pe_callB call_abs rfl z_abs PyProof.Rows.boot_abs (pa_cons (pv 0) pa_nil))))), ?_⟩
  refine while_by (fun σ H' => ∃ g l, σ = [some (.int g), some (.int l)] ∧ H = H' ∧ Int.gcd g l = Int.gcd a b) (fun σ _ => mu1 σ) ⟨_, _, rfl, rfl, rfl⟩ ?_ ?_
  · rintro σ H' ⟨g, l, rfl, rfl, hg⟩
    refine ⟨_, rfl, rfl, _, rfl, ite2 (fun c => ?_) (fun c => ?_)⟩
    · have hl : l ≠ 0 := fun z => by subst z; simp at c
      refine ⟨_, rfl, _, rfl, _, rfl, _, _, rfl, rfl, hl, _, _, rfl, ⟨_, _, rfl, rfl, ?_⟩, ?_⟩
      · rw [FM.gcd_step]; exact hg
      · exact FM.fmod_less g l hl
    · have hl : l = 0 := by simpa using c
      subst hl
      refine ⟨_, rfl, _, rfl, ?_⟩
      rw [FM.gi_end' hg]
      exact q
  · exact fun σ H Q Q' hq ⟨v, e, s, k, e2, q⟩ => ⟨v, e, s, k, e2, hq _ _ q⟩
theorem sc__law_frac : FnScope ["_law_top", "_law_bottom", "_law_by"] ["_law_top", "_law_bottom"] (defScope s__law_frac) := ⟨rfl, rfl, rfl, by decide +kernel, rfl, by decide +kernel, by decide +kernel⟩
theorem ok__law_frac (F : Fn K mg "_law_frac" s__law_frac ["_law_top", "_law_bottom"] f fd) (T__law_shared : Fn K mg "_law_shared" s__law_shared ["_law_one", "_law_other"] g gd)
    (G__law_shared : FnOk P w K mg base CX0 1 g gd ["_law_one", "_law_other"] spGd) : FnOk P w K mg base CX0 2 f fd ["_law_top", "_law_bottom"] spFr := by
  have sc := sc__law_frac
  refine F.F.ok (k := 1) sc (fun vs H Q E h => ?_) (fun cdv A outer s H vs Q E hr h => ?_)
  · obtain ⟨t, b, m, rfl, _⟩ := h
    rfl
  obtain ⟨t, b, m, rfl, hb, hm, hs, q⟩ := h
  refine ⟨_, (pss_cons (ps_set (i := 2) sc.nd rfl (Or.inl rfl) (pe_fn T__law_shared G__law_shared hr rfl (pa_cons (pv 0) (pa_cons (pv 1) pa_nil))))
  (pss_cons (ps_if (pt_cmpR op_lt (pv 1) pe_int (nomark _))
    (pss_one (ps_set (i := 2) sc.nd rfl (Or.inl rfl) (pe_op op_sub pe_int (pv 2))))
    pss_nil)
  (pss_one (ps_ret (pe_tup (pa_cons (pe_op op_fdivW (pv 0) (pv 2)) (pa_cons (pe_op op_fdivW (pv 1) (pv 2)) pa_nil))))))), ?_⟩
  refine ⟨_, rfl, _, rfl, t, b, rfl, ?_⟩
  try dsimp only [gName]
  refine seq_join (fun σ' H' => σ' = [some (.int t), some (.int b), some (.int (FM.gs t b))] ∧ H = H') (fun nx hn => ?_) ?_
  · refine ⟨_, rfl, _, _, rfl, rfl, _, rfl, ite2 (fun c => ?_) (fun c => ?_)⟩
    · have c' : b < 0 := of_decide_eq_true c
      refine ⟨_, rfl, _, _, rfl, rfl, hn _ _ ⟨?_, rfl⟩⟩
      show [some (V.int t), some (V.int b), some (V.int (0 - FM.gi t b))] = _
      unfold FM.gs
      rw [if_pos c', Int.zero_sub]
    · have c' : ¬ b < 0 := of_decide_eq_false (Bool.eq_false_iff.mpr c)
      refine hn _ _ ⟨?_, rfl⟩
      unfold FM.gs
      rw [if_neg c']
      rfl
  · rintro σ' H' ⟨rfl, rfl⟩
    have h0 : FM.gs t b ≠ 0 := FM.gs_ne hb
    have h1 : (FM.gs t b).natAbs < 2 ^ m := Nat.lt_of_le_of_lt (FM.gs_le hb) hs
    refine ⟨_, rfl, _, rfl, _, _, rfl, rfl, ⟨h0, m, hm, h1⟩, _, rfl, _, rfl, _, _, rfl, rfl, ⟨h0, m, hm, h1⟩, sz2, fun p hp => ?_⟩
    refine q p _ (same_new hp _) ?_
    rw [upd_same]
    show some (HO.tup [V.int (t.fdiv (FM.gs t b)), V.int (b.fdiv (FM.gs t b))]) = _
    rw [FM.num_eq hb, FM.den_eq hb]
    rfl
end
def isFrD : PyData → Bool
  | .tuple [.int a, .int b] => decide (1 ≤ b) && (FM.gi a b == 1)
  | _ => false
theorem isFrD_of {ds : List PyData} (h : ds.length ≠ 2 ∨ ∃ d0 d1, ds = [d0, d1] ∧ ((isIntD d0 && !isBoolD d0) = false ∨ (isIntD d1 && !isBoolD d1) = false)) : isFrD (.tuple ds) = false := by
  rcases h with h | ⟨d0, d1, rfl, h⟩
  · match ds, h with
    | [], _ => rfl
    | [a], _ => cases a <;> rfl
    | [_, _], h => exact absurd rfl h
    | a :: b :: _ :: _, _ => cases a <;> first | rfl | (cases b <;> rfl)
  · cases d0 <;> first | rfl | (cases d1 <;> first | rfl | (exfalso; rcases h with h | h <;> exact absurd h (by simp [isIntD, isBoolD])))
def spIsWh : Sp := fun vs H Q _ => ∃ l d v, vs = [v] ∧ Dt l H d v ∧ Q (.bl (isIntD d && !isBoolD d)) H
def spIsFr : Sp := fun vs H Q _ => ∃ l d v, vs = [v] ∧ Dt l H d v ∧ Q (.bl (isFrD d)) H
theorem whole_int {d : PyData} (h : (isIntD d && !isBoolD d) = true) : ∃ i, d = .int i := by
  cases d <;> first | exact ⟨_, rfl⟩ | (exact absurd h (by simp [isIntD, isBoolD])) | (rename_i b; cases b <;> exact absurd h (by decide))
section
variable {P : Program} {w : World} {K : PySem.W.Frag} {mg : Str → Option Value} {base : Heap} {f g g1 g2 g3 g4 g5 : Addr} {fd gd gd1 gd2 gd3 gd4 gd5 : FuncData}
theorem sc_is_whole : FnScope ["thing"] ["thing"] (defScope s_is_whole) := ⟨rfl, rfl, rfl, by decide +kernel, rfl, by decide +kernel, by decide +kernel⟩
theorem ok_is_whole (F : Fn K mg "is_whole" s_is_whole ["thing"] f fd) (z_isinstance : mg "isinstance" = none) (z_int : mg "int" = none) (z_bool : mg "bool" = none) : FnOk P w K mg base CX0 1 f fd ["thing"] spIsWh := by
  have sc := sc_is_whole
  refine F.F.ok (k := 0) sc (fun vs H Q E h => ?_) (fun cdv A outer s H vs Q E hr h => ?_)
  · obtain ⟨l, d, v, rfl, _⟩ := h
    rfl
  obtain ⟨l, d, v, rfl, hd, q⟩ := h
  refine ⟨_, (pss_one (ps_ret (pe_and (pe_callB call_isi rfl z_isinstance PyProof.Rows.boot_isinstance (pa_cons (pv 0) (pa_cons (pe_bltn (v := .ty "int") rfl z_int PyProof.Rows.boot_int rfl) pa_nil))) (pe_one (pe_not (pe_callB call_isi rfl z_isinstance PyProof.Rows.boot_isinstance (pa_cons (pv 0) (pa_cons (pe_bltn (v := .ty "bool") rfl z_bool PyProof.Rows.boot_bool rfl) pa_nil)))))))), ?_⟩
  refine ⟨_, rfl, _, _, _, _, rfl, nnt, hd.ty, kit_intD K d hd.nodict, _, rfl, ite2 (fun c => ⟨_, rfl, _, _, _, _, rfl, nnt, hd.ty, kit_boolD K d hd.nodict, _, rfl, ?_⟩) (fun c => ?_)⟩
  · rw [c, Bool.true_and] at q; exact q
  · rw [Bool.eq_false_iff.mpr c, Bool.false_and] at q; exact q
theorem sc__law_whole : FnScope ["_law_found"] ["_law_found"] (defScope s__law_whole) := ⟨rfl, rfl, rfl, by decide +kernel, rfl, by decide +kernel, by decide +kernel⟩
theorem ok__law_whole (F : Fn K mg "_law_whole" s__law_whole ["_law_found"] f fd) (z_isinstance : mg "isinstance" = none) (z_int : mg "int" = none) (z_bool : mg "bool" = none) : FnOk P w K mg base CX0 1 f fd ["_law_found"] spIsWh := by
  have sc := sc__law_whole
  refine F.F.ok (k := 0) sc (fun vs H Q E h => ?_) (fun cdv A outer s H vs Q E hr h => ?_)
  · obtain ⟨l, d, v, rfl, _⟩ := h
    rfl
  obtain ⟨l, d, v, rfl, hd, q⟩ := h
  refine ⟨_, (pss_one (ps_ret (pe_and (pe_callB call_isi rfl z_isinstance PyProof.Rows.boot_isinstance (pa_cons (pv 0) (pa_cons (pe_bltn (v := .ty "int") rfl z_int PyProof.Rows.boot_int rfl) pa_nil))) (pe_one (pe_not (pe_callB call_isi rfl z_isinstance PyProof.Rows.boot_isinstance (pa_cons (pv 0) (pa_cons (pe_bltn (v := .ty "bool") rfl z_bool PyProof.Rows.boot_bool rfl) pa_nil)))))))), ?_⟩
  refine ⟨_, rfl, _, _, _, _, rfl, nnt, hd.ty, kit_intD K d hd.nodict, _, rfl, ite2 (fun c => ⟨_, rfl, _, _, _, _, rfl, nnt, hd.ty, kit_boolD K d hd.nodict, _, rfl, ?_⟩) (fun c => ?_)⟩
  · rw [c, Bool.true_and] at q; exact q
  · rw [Bool.eq_false_iff.mpr c, Bool.false_and] at q; exact q
theorem sc_is_fraction : FnScope ["thing"] ["thing"] (defScope s_is_fraction) := ⟨rfl, rfl, rfl, by decide +kernel, rfl, by decide +kernel, by decide +kernel⟩
theorem ok_is_fraction (F : Fn K mg "is_fraction" s_is_fraction ["thing"] f fd) (T_is_whole : Fn K mg "is_whole" s_is_whole ["thing"] g1 gd1) (T_greatest_divisor : Fn K mg "greatest_divisor" s_greatest_divisor ["one", "other"] g2 gd2)
    (G_is_whole : FnOk P w K mg base CX0 1 g1 gd1 ["thing"] spIsWh) (G_greatest_divisor : FnOk P w K mg base CX0 1 g2 gd2 ["one", "other"] spGd) (z_isinstance : mg "isinstance" = none) (z_tuple : mg "tuple" = none) (z_len : mg "len" = none) : FnOk P w K mg base CX0 2 f fd ["thing"] spIsFr := by
  have sc := sc_is_fraction
  refine F.F.ok (k := 1) sc (fun vs H Q E h => ?_) (fun cdv A outer s H vs Q E hr h => ?_)
  · obtain ⟨l, d, v, rfl, _⟩ := h
    rfl
  obtain ⟨l, d, v, rfl, hd, q⟩ := h
  refine ⟨_, (pss_cons (ps_if (PW.pt (pw_or (pt_not (pt_val (pe_callB call_isi rfl z_isinstance PyProof.Rows.boot_isinstance (pa_cons (pv 0) (pa_cons (pe_bltn (v := .ty "tuple") rfl z_tuple PyProof.Rows.boot_tuple rfl) pa_nil))))) (pw_or1 (pt_cmpR op_ne (pe_callB call_len_seq rfl z_len PySem.boot_len (pa_cons (pv 0) pa_nil)) pe_int (nomark _)))))
    (pss_one (ps_ret pe_bl))
    pss_nil)
  (pss_cons (ps_if (PW.pt (pw_or (pt_not (pt_val (pe_fn T_is_whole G_is_whole hr rfl (pa_cons (pe_ix ix_tup (pv 0) pe_int (fun _ _ => rfl)) pa_nil)))) (pw_or1 (pt_not (pt_val (pe_fn T_is_whole G_is_whole hr rfl (pa_cons (pe_ix ix_tup (pv 0) pe_int (fun _ _ => rfl)) pa_nil)))))))
    (pss_one (ps_ret pe_bl))
    pss_nil)
  (pss_one (ps_ret (pe_and (pe_cmpR op_ge (pe_ix ix_tup (pv 0) pe_int (fun _ _ => rfl)) pe_int (nomark _)) (pe_one (pe_cmpR op_eq (pe_fn T_greatest_divisor G_greatest_divisor hr rfl (pa_cons (pe_ix ix_tup (pv 0) pe_int (fun _ _ => rfl)) (pa_cons (pe_ix ix_tup (pv 0) pe_int (fun _ _ => rfl)) pa_nil))) pe_int (nomark _)))))))), ?_⟩
  refine ⟨_, rfl, _, _, _, _, rfl, nnt, hd.ty, kit_tupD K d hd.nodict, _, rfl, ?_⟩
  have no : isTupD d = false → isFrD d = false := fun z => by cases d <;> first | rfl | exact absurd z (by simp [isTupD])
  by_cases ht : isTupD d = true
  · rw [ht]
    obtain ⟨ds, rfl⟩ : ∃ ds, d = .tuple ds := by cases d <;> first | exact ⟨_, rfl⟩ | exact absurd ht (by simp [isTupD])
    rw [Dt] at hd
    obtain ⟨a, xs, rfl, na, ha, hx⟩ := hd
    have hlen := hx.len
    have s1 : SqT K H a xs := SqT.of ha
    refine iteF ⟨_, rfl, a, xs, rfl, .inr s1, rfl, _, rfl, ite2 (fun c => ?_) (fun c => ?_)⟩
    · have : ds.length ≠ 2 := by
        rw [← hlen]
        intro z
        rw [z] at c
        exact absurd c (by decide)
      rw [isFrD_of (.inl this)] at q
      exact q
    · have h2 : xs.length = 2 := by
        by_cases z : xs.length = 2
        · exact z
        · exfalso
          refine c ?_
          have : ¬ (V.int (xs.length : Nat) = V.int 2) := by simp; omega
          rw [decide_eq_false this]; rfl
      obtain ⟨d0, d1, rfl⟩ : ∃ d0 d1, ds = [d0, d1] := by
        match ds, (show ds.length = 2 by omega) with
        | [x, y], _ => exact ⟨x, y, rfl⟩
      rw [DtAll] at hx
      obtain ⟨x0, r, rfl, hx0, hx⟩ := hx
      rw [DtAll] at hx
      obtain ⟨x1, r, rfl, hx1, hx⟩ := hx
      rw [DtAll] at hx
      subst hx
      refine ⟨_, rfl, _, _, _, _, rfl, rfl, s1, rfl, l, d0, x0, rfl, hx0, _, rfl, ite2 (fun c0 => ?_) (fun c0 => ?_)⟩
      · rw [isFrD_of (.inr ⟨d0, d1, rfl, .inl (by simp at c0; rcases c0 with c | c <;> simp [c])⟩)] at q
        exact q
      refine ⟨_, rfl, _, _, _, _, rfl, rfl, s1, rfl, l, d1, x1, rfl, hx1, _, rfl, ite2 (fun c1 => ?_) (fun c1 => ?_)⟩
      · rw [isFrD_of (.inr ⟨d0, d1, rfl, .inr (by simp at c1; rcases c1 with c | c <;> simp [c])⟩)] at q
        exact q
      obtain ⟨i, rfl⟩ := whole_int (d := d0) (by simpa using c0)
      obtain ⟨j, rfl⟩ := whole_int (d := d1) (by simpa using c1)
      rw [Dt] at hx0 hx1
      subst hx0 hx1
      refine ⟨_, rfl, _, _, _, _, rfl, rfl, s1, rfl, _, _, rfl, rfl, _, rfl, ite2 (fun c => ?_) (fun c => ?_)⟩
      · refine ⟨_, rfl, _, _, _, _, rfl, rfl, s1, rfl, _, rfl, _, _, _, _, rfl, rfl, s1, rfl, i, j, rfl, rfl, ?_⟩
        have hj : 1 ≤ j := by have := of_decide_eq_true c; omega
        have e : isFrD (.tuple [.int i, .int j]) = decide (V.int (FM.gi i j) = V.int 1) := by
          rw [isFrD, decide_eq_true hj, Bool.true_and, Bool.eq_iff_iff]
          simp
        rw [e] at q
        exact q
      · have hj : ¬ 1 ≤ j := fun z => c (decide_eq_true (by omega))
        have e : isFrD (.tuple [.int i, .int j]) = false := by rw [isFrD, decide_eq_false hj, Bool.false_and]
        rw [e] at q
        exact q
  · rw [Bool.eq_false_iff.mpr ht]
    rw [no (Bool.eq_false_iff.mpr ht)] at q
    exact iteT (iteT q)
theorem sc__law_is_fraction : FnScope ["_law_thing"] ["_law_thing"] (defScope s__law_is_fraction) := ⟨rfl, rfl, rfl, by decide +kernel, rfl, by decide +kernel, by decide +kernel⟩
theorem ok__law_is_fraction (F : Fn K mg "_law_is_fraction" s__law_is_fraction ["_law_thing"] f fd) (T__law_whole : Fn K mg "_law_whole" s__law_whole ["_law_found"] g1 gd1) (T__law_shared : Fn K mg "_law_shared" s__law_shared ["_law_one", "_law_other"] g2 gd2)
    (G__law_whole : FnOk P w K mg base CX0 1 g1 gd1 ["_law_found"] spIsWh) (G__law_shared : FnOk P w K mg base CX0 1 g2 gd2 ["_law_one", "_law_other"] spGd) (z_isinstance : mg "isinstance" = none) (z_tuple : mg "tuple" = none) (z_len : mg "len" = none) : FnOk P w K mg base CX0 2 f fd ["_law_thing"] spIsFr := by
  have sc := sc__law_is_fraction
  refine F.F.ok (k := 1) sc (fun vs H Q E h => ?_) (fun cdv A outer s H vs Q E hr h => ?_)
  · obtain ⟨l, d, v, rfl, _⟩ := h
    rfl
  obtain ⟨l, d, v, rfl, hd, q⟩ := h
  refine ⟨_, (pss_cons (ps_if (PW.pt (pw_or (pt_not (pt_val (pe_callB call_isi rfl z_isinstance PyProof.Rows.boot_isinstance (pa_cons (pv 0) (pa_cons (pe_bltn (v := .ty "tuple") rfl z_tuple PyProof.Rows.boot_tuple rfl) pa_nil))))) (pw_or1 (pt_cmpR op_ne (pe_callB call_len_seq rfl z_len PySem.boot_len (pa_cons (pv 0) pa_nil)) pe_int (nomark _)))))
    (pss_one (ps_ret pe_bl))
    pss_nil)
  (pss_cons (ps_if (PW.pt (pw_or (pt_not (pt_val (pe_fn T__law_whole G__law_whole hr rfl (pa_cons (pe_ix ix_tup (pv 0) pe_int (fun _ _ => rfl)) pa_nil)))) (pw_or1 (pt_not (pt_val (pe_fn T__law_whole G__law_whole hr rfl (pa_cons (pe_ix ix_tup (pv 0) pe_int (fun _ _ => rfl)) pa_nil)))))))
    (pss_one (ps_ret pe_bl))
    pss_nil)
  (pss_one (ps_ret (pe_and (pe_cmpR op_gt (pe_ix ix_tup (pv 0) pe_int (fun _ _ => rfl)) pe_int (nomark _)) (pe_one (pe_cmpR op_eq (pe_fn T__law_shared G__law_shared hr rfl (pa_cons (pe_ix ix_tup (pv 0) pe_int (fun _ _ => rfl)) (pa_cons (pe_ix ix_tup (pv 0) pe_int (fun _ _ => rfl)) pa_nil))) pe_int (nomark _)))))))), ?_⟩
  refine ⟨_, rfl, _, _, _, _, rfl, nnt, hd.ty, kit_tupD K d hd.nodict, _, rfl, ?_⟩
  have no : isTupD d = false → isFrD d = false := fun z => by cases d <;> first | rfl | exact absurd z (by simp [isTupD])
  by_cases ht : isTupD d = true
  · rw [ht]
    obtain ⟨ds, rfl⟩ : ∃ ds, d = .tuple ds := by cases d <;> first | exact ⟨_, rfl⟩ | exact absurd ht (by simp [isTupD])
    rw [Dt] at hd
    obtain ⟨a, xs, rfl, na, ha, hx⟩ := hd
    have hlen := hx.len
    have s1 : SqT K H a xs := SqT.of ha
    refine iteF ⟨_, rfl, a, xs, rfl, .inr s1, rfl, _, rfl, ite2 (fun c => ?_) (fun c => ?_)⟩
    · have : ds.length ≠ 2 := by
        rw [← hlen]
        intro z
        rw [z] at c
        exact absurd c (by decide)
      rw [isFrD_of (.inl this)] at q
      exact q
    · have h2 : xs.length = 2 := by
        by_cases z : xs.length = 2
        · exact z
        · exfalso
          refine c ?_
          have : ¬ (V.int (xs.length : Nat) = V.int 2) := by simp; omega
          rw [decide_eq_false this]; rfl
      obtain ⟨d0, d1, rfl⟩ : ∃ d0 d1, ds = [d0, d1] := by
        match ds, (show ds.length = 2 by omega) with
        | [x, y], _ => exact ⟨x, y, rfl⟩
      rw [DtAll] at hx
      obtain ⟨x0, r, rfl, hx0, hx⟩ := hx
      rw [DtAll] at hx
      obtain ⟨x1, r, rfl, hx1, hx⟩ := hx
      rw [DtAll] at hx
      subst hx
      refine ⟨_, rfl, _, _, _, _, rfl, rfl, s1, rfl, l, d0, x0, rfl, hx0, _, rfl, ite2 (fun c0 => ?_) (fun c0 => ?_)⟩
      · rw [isFrD_of (.inr ⟨d0, d1, rfl, .inl (by simp at c0; rcases c0 with c | c <;> simp [c])⟩)] at q
        exact q
      refine ⟨_, rfl, _, _, _, _, rfl, rfl, s1, rfl, l, d1, x1, rfl, hx1, _, rfl, ite2 (fun c1 => ?_) (fun c1 => ?_)⟩
      · rw [isFrD_of (.inr ⟨d0, d1, rfl, .inr (by simp at c1; rcases c1 with c | c <;> simp [c])⟩)] at q
        exact q
      obtain ⟨i, rfl⟩ := whole_int (d := d0) (by simpa using c0)
      obtain ⟨j, rfl⟩ := whole_int (d := d1) (by simpa using c1)
      rw [Dt] at hx0 hx1
      subst hx0 hx1
      refine ⟨_, rfl, _, _, _, _, rfl, rfl, s1, rfl, _, _, rfl, rfl, _, rfl, ite2 (fun c => ?_) (fun c => ?_)⟩
      · refine ⟨_, rfl, _, _, _, _, rfl, rfl, s1, rfl, _, rfl, _, _, _, _, rfl, rfl, s1, rfl, i, j, rfl, rfl, ?_⟩
        have hj : 1 ≤ j := by have := of_decide_eq_true c; omega
        have e : isFrD (.tuple [.int i, .int j]) = decide (V.int (FM.gi i j) = V.int 1) := by
          rw [isFrD, decide_eq_true hj, Bool.true_and, Bool.eq_iff_iff]
          simp
        rw [e] at q
        exact q
      · have hj : ¬ 1 ≤ j := fun z => c (decide_eq_true (by omega))
        have e : isFrD (.tuple [.int i, .int j]) = false := by rw [isFrD, decide_eq_false hj, Bool.false_and]
        rw [e] at q
        exact q
  · rw [Bool.eq_false_iff.mpr ht]
    rw [no (Bool.eq_false_iff.mpr ht)] at q
    exact iteT (iteT q)
end
def leaf : PyData → Prop
  | .none => True
  | .bool _ => True
  | .int _ => True
  | .str x => PyData.strOk x = true
  | _ => False
def Sm : Nat → PyData → Prop
  | 0, d => leaf d
  | n + 1, d => leaf d ∨ ∃ ds, (d = .tuple ds ∨ d = .list ds) ∧ ds.length ≤ 64 ∧ ∀ e ∈ ds, Sm n e
theorem leaf.ok {n : Nat} : ∀ {d : PyData}, leaf d → Ok n d
  | .none, _ => .non
  | .bool _, _ => .bool
  | .int _, _ => .int
  | .str _, h => .str h
theorem leaf.sm {n : Nat} {d : PyData} (h : leaf d) : Sm n d := by
  cases n with
  | zero => exact h
  | succ n => exact .inl h
theorem Sm.ok : ∀ {n : Nat} {d : PyData}, Sm n d → Ok n d
  | 0, _, h => leaf.ok h
  | n + 1, d, h => by
    rcases h with h | ⟨ds, h1, _, h2⟩
    · exact h.ok
    · have := OkAll.of fun e he => (h2 e he).ok
      rcases h1 with rfl | rfl
      · exact .tup this
      · exact .lst this
theorem Sm.up : ∀ {n : Nat} {d : PyData}, Sm n d → Sm (n + 1) d
  | 0, _, h => .inl h
  | n + 1, d, h => by
    rcases h with h | ⟨ds, h1, h2, h3⟩
    · exact .inl h
    · exact .inr ⟨ds, h1, h2, fun e he => (h3 e he).up⟩
theorem Sm.tup {n : Nat} {ds : List PyData} (h : ds.length ≤ 64) (k : ∀ e ∈ ds, Sm n e) : Sm (n + 1) (.tuple ds) := .inr ⟨ds, .inl rfl, h, k⟩
theorem Sm.lst {n : Nat} {ds : List PyData} (h : ds.length ≤ 64) (k : ∀ e ∈ ds, Sm n e) : Sm (n + 1) (.list ds) := .inr ⟨ds, .inr rfl, h, k⟩
mutual
theorem dt_two {c l : Addr} {H H' : Hp} (e : SameBut c H H') : ∀ {d : PyData} {v : V}, Dt c H d v → Dt l H d v → Dt l H' d v
  | .none, _, _, h => by rw [Dt] at h ⊢; exact h
  | .bool _, _, _, h => by rw [Dt] at h ⊢; exact h
  | .int _, _, _, h => by rw [Dt] at h ⊢; exact h
  | .str _, _, _, h => by rw [Dt] at h ⊢; exact h
  | .tuple _, _, k, h => by
    rw [Dt] at h k ⊢
    obtain ⟨a, xs, e1, n, h1, h2⟩ := h
    obtain ⟨a', xs', e1', n', h1', h2'⟩ := k
    subst e1
    cases e1'
    rw [h1] at h1'
    cases h1'
    exact ⟨a, xs, rfl, n, e _ _ n' h1, dtAll_two e h2' h2⟩
  | .list _, _, k, h => by
    rw [Dt] at h k ⊢
    obtain ⟨a, xs, e1, n, h1, h2⟩ := h
    obtain ⟨a', xs', e1', n', h1', h2'⟩ := k
    subst e1
    cases e1'
    rw [h1] at h1'
    cases h1'
    exact ⟨a, xs, rfl, n, e _ _ n' h1, dtAll_two e h2' h2⟩
  | .dict _, _, _, h => by rw [Dt] at h; exact h.elim
theorem dtAll_two {c l : Addr} {H H' : Hp} (e : SameBut c H H') : ∀ {ds : List PyData} {xs : List V}, DtAll c H ds xs → DtAll l H ds xs → DtAll l H' ds xs
  | [], _, _, h => by rw [DtAll] at h ⊢; exact h
  | _ :: _, _, k, h => by
    rw [DtAll] at h k ⊢
    obtain ⟨x, r, e1, h1, h2⟩ := h
    obtain ⟨x', r', e1', h1', h2'⟩ := k
    subst e1
    cases e1'
    exact ⟨x, r, rfl, dt_two e h1' h1, dtAll_two e h2' h2⟩
end
theorem _root_.L2.Dt.two {c l : Addr} {H H' : Hp} (e : SameBut c H H') {d : PyData} {v : V} (h : Dt c H d v) (k : Dt l H d v) : Dt l H' d v := dt_two e h k
theorem _root_.L2.DtAll.two {c l : Addr} {H H' : Hp} (e : SameBut c H H') {d : List PyData} {v : List V} (h : DtAll c H d v) (k : DtAll l H d v) : DtAll l H' d v := dtAll_two e h k
theorem _root_.L2.DtAll.take {l : Addr} {H : Hp} {ds : List PyData} {d : PyData} {x : V} {i : Nat} {ys : List V} (h : DtAll l H (ds.take i) ys) (e : ds[i]? = some d) (k : Dt l H d x) : DtAll l H (ds.take (i + 1)) (ys ++ [x]) := by
  rw [List.take_succ, e]
  exact h.app (.cons k .nil)
section
variable {P : Program} {w : World} {K : PySem.W.Frag} {mg : Str → Option Value} {base : Heap} {f g g1 g2 g3 g4 g5 : Addr} {fd gd gd1 gd2 gd3 gd4 gd5 : FuncData}
end
def areFrD : PyData → Bool
  | .list ds => ds.all isFrD
  | _ => false
def lenD : PyData → Nat
  | .list ds => ds.length
  | _ => 0
def rowAt (ds : List PyData) (i : Nat) : Bool := match ds[i]? with
  | some d => areFrD d && decide (lenD d = i)
  | none => true
def rowsOk (ds : List PyData) : Bool := (List.range ds.length).all (rowAt ds)
def areRowsD : PyData → Bool
  | .list ds => decide (1 ≤ ds.length) && (decide (ds.length ≤ 40) && rowsOk ds)
  | _ => false
def isTabD : PyData → Bool
  | .tuple [r, l] => areRowsD r && (areFrD l && decide (lenD l = lenD r))
  | _ => false
theorem areFrD_no {d : PyData} (h : isLstD d = false) : areFrD d = false := by cases d <;> first | rfl | exact absurd h (by simp [isLstD])
theorem areRowsD_no {d : PyData} (h : isLstD d = false) : areRowsD d = false := by cases d <;> first | rfl | exact absurd h (by simp [isLstD])
theorem isTabD_no {d : PyData} (h : isTupD d = false) : isTabD d = false := by cases d <;> first | rfl | exact absurd h (by simp [isTupD])
theorem isTabD_len {ds : List PyData} (h : ds.length ≠ 2) : isTabD (.tuple ds) = false := by
  match ds, h with
  | [], _ => rfl
  | [_], _ => rfl
  | [_, _], h => exact absurd rfl h
  | _ :: _ :: _ :: _, _ => rfl
theorem isLst_of {d : PyData} (h : isLstD d = true) : ∃ ds, d = .list ds := by cases d <;> first | exact ⟨_, rfl⟩ | exact absurd h (by simp [isLstD])
theorem isTup_of {d : PyData} (h : isTupD d = true) : ∃ ds, d = .tuple ds := by cases d <;> first | exact ⟨_, rfl⟩ | exact absurd h (by simp [isTupD])
theorem areFrD_lst {d : PyData} (h : areFrD d = true) : isLstD d = true := by cases d <;> first | rfl | exact absurd h (by simp [areFrD])
theorem areRowsD_lst {d : PyData} (h : areRowsD d = true) : isLstD d = true := by cases d <;> first | rfl | exact absurd h (by simp [areRowsD])
theorem rowsOk_of {ds : List PyData} (h : ∀ j, j < ds.length → rowAt ds j = true) : rowsOk ds = true := by
  unfold rowsOk
  rw [List.all_eq_true]
  intro j hj
  exact h j (List.mem_range.mp hj)
theorem rowsOk_no {ds : List PyData} {i : Nat} (hi : i < ds.length) (h : rowAt ds i = false) : rowsOk ds = false := by
  refine Bool.eq_false_iff.mpr fun z => ?_
  unfold rowsOk at z
  rw [List.all_eq_true] at z
  rw [z i (List.mem_range.mpr hi)] at h
  cases h
theorem rowAt_eq {ds : List PyData} {i : Nat} {d : PyData} (h : ds[i]? = some d) : rowAt ds i = (areFrD d && decide (lenD d = i)) := by unfold rowAt; rw [h]
def spAreFr : Sp := fun vs H Q _ => ∃ l d v, vs = [v] ∧ Dt l H d v ∧ Q (.bl (areFrD d)) H
def spRows : Sp := fun vs H Q _ => ∃ l d v, vs = [v] ∧ Dt l H d v ∧ ∀ H', Same H H' → Q (.bl (areRowsD d)) H'
def spIsTab : Sp := fun vs H Q _ => ∃ l d v, vs = [v] ∧ Dt l H d v ∧ ∀ H', Same H H' → Q (.bl (isTabD d)) H'
def spAre : Sp := fun vs H Q _ => ∃ l d v n, vs = [v, .int n] ∧ n ≤ 60 ∧ Dt l H d v ∧ ∀ H', Same H H' → Q (.bl (areFrD d && decide ((lenD d : Int) = n))) H'
section
variable {P : Program} {w : World} {K : PySem.W.Frag} {mg : Str → Option Value} {base : Heap} {f g g1 g2 g3 g4 g5 : Addr} {fd gd gd1 gd2 gd3 gd4 gd5 : FuncData}
theorem sc_are_fractions : FnScope ["thing", "part"] ["thing"] (defScope s_are_fractions) := ⟨rfl, rfl, rfl, by decide +kernel, rfl, by decide +kernel, by decide +kernel⟩
theorem ok_are_fractions (F : Fn K mg "are_fractions" s_are_fractions ["thing"] f fd) (T_is_fraction : Fn K mg "is_fraction" s_is_fraction ["thing"] g1 gd1)
    (G_is_fraction : FnOk P w K mg base CX0 2 g1 gd1 ["thing"] spIsFr) (z_isinstance : mg "isinstance" = none) (z_list : mg "list" = none) : FnOk P w K mg base CX0 3 f fd ["thing"] spAreFr := by
  have sc := sc_are_fractions
  refine F.F.ok (k := 2) sc (fun vs H Q E h => ?_) (fun cdv A outer s H vs Q E hr h => ?_)
  · obtain ⟨l, d, v, rfl, _⟩ := h
    rfl
  obtain ⟨l, d, v, rfl, hd, q⟩ := h
  refine ⟨_, (pss_cons (ps_if (pt_not (pt_val (pe_callB call_isi rfl z_isinstance PyProof.Rows.boot_isinstance (pa_cons (pv 0) (pa_cons (pe_bltn (v := .ty "list") rfl z_list PyProof.Rows.boot_list rfl) pa_nil)))))
    (pss_one (ps_ret pe_bl))
    pss_nil)
  (pss_cons (ps_for PassesOwn.never rfl (pi_list (pv 0)) (pg_name (i := 1) sc.nd rfl (Or.inl rfl))
    (pss_one (ps_if (pt_not (pt_val (pe_fn T_is_fraction G_is_fraction hr rfl (pa_cons (pv 1) pa_nil))))
      (pss_one (ps_ret pe_bl))
      pss_nil)))
  (pss_one (ps_ret pe_bl)))), ?_⟩
  refine ⟨_, rfl, _, _, _, _, rfl, nnt, hd.ty, kit_lstD K d hd.nodict, _, rfl, ?_⟩
  by_cases hL : isLstD d = false
  · rw [hL]
    rw [areFrD_no hL] at q
    exact iteT q
  have hL : isLstD d = true := by simpa using hL
  rw [hL]
  refine iteF ?_
  obtain ⟨ds, rfl⟩ := isLst_of hL
  rw [Dt] at hd
  obtain ⟨a, xs, rfl, na, ha, ht⟩ := hd
  have hlen := ht.len
  refine ⟨_, rfl, a, rfl, ⟨_, SqL.of ha⟩, for_list (xs := xs) (fun i σ H' => ∃ r1, σ = [some (.ref a), r1] ∧ H = H' ∧ ∀ j c, j < i → ds[j]? = some c → isFrD c = true) ?_ ?_ ?_ ?_⟩
  · exact ⟨_, rfl, rfl, fun j c h => absurd h (Nat.not_lt_zero _)⟩
  · rintro i σ H' _ ⟨r1, rfl, rfl, _⟩
    exact SqL.of ha
  · rintro i x σ H' hx ⟨r1, rfl, rfl, hf⟩
    obtain ⟨c, hc, tc⟩ := ht.get hx
    refine ⟨_, rfl, l, c, x, rfl, tc, _, rfl, ite2 (fun b => ?_) (fun b => ?_)⟩
    · have hb : isFrD c = false := by simpa using b
      have e : areFrD (.list ds) = false := Bool.eq_false_iff.mpr fun z => by
        rw [areFrD, List.all_eq_true] at z
        rw [z c (List.mem_of_getElem? hc)] at hb
        cases hb
      rw [e] at q
      exact q
    · have hb : isFrD c = true := by simpa using b
      refine ⟨_, rfl, rfl, fun j e hj he => ?_⟩
      by_cases z : j = i
      · subst z; rw [hc] at he; cases he; exact hb
      · exact hf j e (by omega) he
  · rintro σ H' ⟨r1, rfl, rfl, hf⟩
    have e : areFrD (.list ds) = true := by
      rw [areFrD, List.all_eq_true]
      intro c hc
      obtain ⟨j, hj⟩ := List.getElem?_of_mem hc
      exact hf j c (by rw [hlen]; exact (List.getElem?_eq_some_iff.mp hj).1) hj
    rw [e] at q
    exact q
theorem sc_are_rows : FnScope ["thing", "k", "row"] ["thing"] (defScope s_are_rows) := ⟨rfl, rfl, rfl, by decide +kernel, rfl, by decide +kernel, by decide +kernel⟩
theorem ok_are_rows {tk : Tok} (F : Fn K mg "are_rows" s_are_rows ["thing"] f fd) (T_are_fractions : Fn K mg "are_fractions" s_are_fractions ["thing"] g1 gd1)
    (G_are_fractions : FnOk P w K mg base CX0 3 g1 gd1 ["thing"] spAreFr) (m_MOST_ROWS : mg "MOST_ROWS" = some (.int 40 tk)) (z_isinstance : mg "isinstance" = none) (z_list : mg "list" = none) (z_len : mg "len" = none) (z_enumerate : mg "enumerate" = none) : FnOk P w K mg base CX0 4 f fd ["thing"] spRows := by
  have sc := sc_are_rows
  refine F.F.ok (k := 3) sc (fun vs H Q E h => ?_) (fun cdv A outer s H vs Q E hr h => ?_)
  · obtain ⟨l, d, v, rfl, _⟩ := h
    rfl
  obtain ⟨l, d, v, rfl, hd, q⟩ := h
  refine ⟨_, (pss_cons (ps_if (PW.pt (pw_or (pt_not (pt_val (pe_callB call_isi rfl z_isinstance PyProof.Rows.boot_isinstance (pa_cons (pv 0) (pa_cons (pe_bltn (v := .ty "list") rfl z_list PyProof.Rows.boot_list rfl) pa_nil))))) (pw_or (pt_cmpR op_lt (pe_callB call_len_seq rfl z_len PySem.boot_len (pa_cons (pv 0) pa_nil)) pe_int (nomark _)) (pw_or1 (pt_cmpR op_gt (pe_callB call_len_seq rfl z_len PySem.boot_len (pa_cons (pv 0) pa_nil)) (pe_glob (v := .int 40) rfl m_MOST_ROWS ⟨_, rfl⟩) (nomark _))))))
    (pss_one (ps_ret pe_bl))
    pss_nil)
  (pss_cons (ps_for PassesOwn.never rfl (pi_enumL rfl z_enumerate (pa_cons (pv 0) pa_nil)) (pg_tup rfl (pgs_cons (pg_name (i := 1) sc.nd rfl (Or.inl rfl)) (pgs_cons (pg_name (i := 2) sc.nd rfl (Or.inl rfl)) pgs_nil)))
    (pss_one (ps_if (PW.pt (pw_or (pt_not (pt_val (pe_fn T_are_fractions G_are_fractions hr rfl (pa_cons (pv 2) pa_nil)))) (pw_or1 (pt_cmpR op_ne (pe_callB call_len_seq rfl z_len PySem.boot_len (pa_cons (pv 2) pa_nil)) (pv 1) (nomark _)))))
      (pss_one (ps_ret pe_bl))
      pss_nil)))
  (pss_one (ps_ret pe_bl)))), ?_⟩
  refine ⟨_, rfl, _, _, _, _, rfl, nnt, hd.ty, kit_lstD K d hd.nodict, _, rfl, ?_⟩
  by_cases hL : isLstD d = false
  · rw [hL]
    have := q H (.refl H)
    rw [areRowsD_no hL] at this
    exact iteT (iteT this)
  have hL : isLstD d = true := by simpa using hL
  rw [hL]
  refine iteF ?_
  obtain ⟨ds, rfl⟩ := isLst_of hL
  rw [Dt] at hd
  obtain ⟨a, xs, rfl, na, ha, ht⟩ := hd
  have hlen := ht.len
  refine ⟨_, rfl, a, xs, rfl, .inl (SqL.of ha), _, _, rfl, rfl, _, rfl, ite2 (fun c => ?_) (fun c => ?_)⟩
  · have e : areRowsD (.list ds) = false := by
      have : ¬ 1 ≤ ds.length := by rw [← hlen]; have := of_decide_eq_true c; omega
      rw [areRowsD, decide_eq_false this, Bool.false_and]
    have := q H (.refl H)
    rw [e] at this
    exact iteT this
  have h1 : 1 ≤ ds.length := by rw [← hlen]; have := of_decide_eq_false (Bool.eq_false_iff.mpr c); omega
  refine ⟨_, rfl, a, xs, rfl, .inl (SqL.of ha), _, _, rfl, rfl, _, rfl, ite2 (fun c => ?_) (fun c => ?_)⟩
  · have e : areRowsD (.list ds) = false := by
      have : ¬ ds.length ≤ 40 := by rw [← hlen]; have := of_decide_eq_true c; omega
      rw [areRowsD, decide_eq_false this, Bool.false_and, Bool.and_false]
    have := q H (.refl H)
    rw [e] at this
    exact this
  have h2 : ds.length ≤ 40 := by rw [← hlen]; have := of_decide_eq_false (Bool.eq_false_iff.mpr c); omega
  have e : areRowsD (.list ds) = rowsOk ds := by rw [areRowsD, decide_eq_true h1, decide_eq_true h2, Bool.true_and, Bool.true_and]
  rw [e] at q
  refine ⟨_, rfl, a, rfl, ⟨_, SqL.of ha⟩, for_enumL (xs := xs) (fun i σ H' => ∃ r1 r2, σ = [some (.ref a), r1, r2] ∧ Same H H' ∧ ∀ j, j < i → rowAt ds j = true) ?_ ?_ ?_ ?_⟩
  · exact ⟨_, _, rfl, .refl _, fun j h => absurd h (Nat.not_lt_zero _)⟩
  · rintro i σ H' _ ⟨r1, r2, rfl, e, _⟩
    exact SqL.of (e _ _ ha)
  · rintro i x σ H0 hx ⟨r1, r2, rfl, e0, hf⟩ p hp
    obtain ⟨c, hc, tc⟩ := ht.get hx
    have hi : i < ds.length := (List.getElem?_eq_some_iff.mp hc).1
    have s1 := same_new hp (.tup [.int (i : Nat), x])
    have e1 := e0.trans s1
    have hp' : (upd H0 p (.tup [.int (i : Nat), x])) p = some (.tup [.int (i : Nat), x]) := upd_same
    generalize upd H0 p (.tup [.int (i : Nat), x]) = H1 at s1 e1 hp'
    have tc := tc.same e1
    refine ⟨p, _, rfl, SqT.of hp', rfl, _, _, rfl, _, _, rfl, rfl, ?_⟩
    refine ⟨_, rfl, l, c, x, rfl, tc, _, rfl, ite2 (fun b => ?_) (fun b => ?_)⟩
    · have hb : areFrD c = false := by simpa using b
      have := q H1 e1
      rw [rowsOk_no hi (by rw [rowAt_eq hc, hb, Bool.false_and])] at this
      exact iteT this
    have hb : areFrD c = true := by simpa using b
    obtain ⟨cs, rfl⟩ := isLst_of (areFrD_lst hb)
    rw [Dt] at tc
    obtain ⟨b, ys, rfl, nb, hb', hy⟩ := tc
    refine ⟨_, rfl, b, ys, rfl, .inl (SqL.of hb'), _, rfl, rfl, _, rfl, ite2 (fun z => ?_) (fun z => ?_)⟩
    · have hne : ¬ lenD (.list cs) = i := by
        rw [lenD, ← hy.len]
        intro zz
        rw [zz] at z
        simp at z
      have := q H1 e1
      rw [rowsOk_no hi (by rw [rowAt_eq hc, hb, decide_eq_false hne, Bool.and_false])] at this
      exact this
    · have hne : lenD (.list cs) = i := by
        rw [lenD, ← hy.len]
        by_cases zz : ys.length = i
        · exact zz
        · exfalso
          refine z ?_
          have : ¬ (V.int (ys.length : Nat) = V.int (i : Nat)) := by simp; omega
          rw [decide_eq_false this]; rfl
      refine ⟨_, _, rfl, e1, fun j hj => ?_⟩
      by_cases zz : j = i
      · subst zz; rw [rowAt_eq hc, hb, decide_eq_true hne, Bool.and_self]
      · exact hf j (by omega)
  · rintro σ H' ⟨r1, r2, rfl, e1, hf⟩
    have := q H' e1
    rw [rowsOk_of fun j hj => hf j (by rw [hlen]; exact hj)] at this
    exact this
theorem sc_is_table : FnScope ["thing"] ["thing"] (defScope s_is_table) := ⟨rfl, rfl, rfl, by decide +kernel, rfl, by decide +kernel, by decide +kernel⟩
theorem ok_is_table (F : Fn K mg "is_table" s_is_table ["thing"] f fd) (T_are_rows : Fn K mg "are_rows" s_are_rows ["thing"] g1 gd1) (T_are_fractions : Fn K mg "are_fractions" s_are_fractions ["thing"] g2 gd2)
    (G_are_rows : FnOk P w K mg base CX0 4 g1 gd1 ["thing"] spRows) (G_are_fractions : FnOk P w K mg base CX0 4 g2 gd2 ["thing"] spAreFr) (z_isinstance : mg "isinstance" = none) (z_tuple : mg "tuple" = none) (z_len : mg "len" = none) : FnOk P w K mg base CX0 5 f fd ["thing"] spIsTab := by
  have sc := sc_is_table
  refine F.F.ok (k := 4) sc (fun vs H Q E h => ?_) (fun cdv A outer s H vs Q E hr h => ?_)
  · obtain ⟨l, d, v, rfl, _⟩ := h
    rfl
  obtain ⟨l, d, v, rfl, hd, q⟩ := h
  refine ⟨_, (pss_cons (ps_if (PW.pt (pw_or (pt_not (pt_val (pe_callB call_isi rfl z_isinstance PyProof.Rows.boot_isinstance (pa_cons (pv 0) (pa_cons (pe_bltn (v := .ty "tuple") rfl z_tuple PyProof.Rows.boot_tuple rfl) pa_nil))))) (pw_or1 (pt_cmpR op_ne (pe_callB call_len_seq rfl z_len PySem.boot_len (pa_cons (pv 0) pa_nil)) pe_int (nomark _)))))
    (pss_one (ps_ret pe_bl))
    pss_nil)
  (pss_one (ps_ret (pe_and (pe_fn T_are_rows G_are_rows hr rfl (pa_cons (pe_ix ix_tup (pv 0) pe_int (fun _ _ => rfl)) pa_nil)) (pe_and (pe_fn T_are_fractions G_are_fractions hr rfl (pa_cons (pe_ix ix_tup (pv 0) pe_int (fun _ _ => rfl)) pa_nil)) (pe_one (pe_cmpR op_eq (pe_callB call_len_seq rfl z_len PySem.boot_len (pa_cons (pe_ix ix_tup (pv 0) pe_int (fun _ _ => rfl)) pa_nil)) (pe_callB call_len_seq rfl z_len PySem.boot_len (pa_cons (pe_ix ix_tup (pv 0) pe_int (fun _ _ => rfl)) pa_nil)) (nomark _)))))))), ?_⟩
  refine ⟨_, rfl, _, _, _, _, rfl, nnt, hd.ty, kit_tupD K d hd.nodict, _, rfl, ?_⟩
  by_cases hL : isTupD d = false
  · rw [hL]
    have := q H (.refl H)
    rw [isTabD_no hL] at this
    exact iteT (iteT this)
  have hL : isTupD d = true := by simpa using hL
  rw [hL]
  refine iteF ?_
  obtain ⟨ds, rfl⟩ := isTup_of hL
  rw [Dt] at hd
  obtain ⟨a, xs, rfl, na, ha, hx⟩ := hd
  have hlen := hx.len
  have s1 : SqT K H a xs := SqT.of ha
  refine ⟨_, rfl, a, xs, rfl, .inr s1, rfl, _, rfl, ite2 (fun c => ?_) (fun c => ?_)⟩
  · have : ds.length ≠ 2 := by
      rw [← hlen]
      intro z
      rw [z] at c
      exact absurd c (by decide)
    have q := q H (.refl H)
    rw [isTabD_len this] at q
    exact q
  have h2 : xs.length = 2 := by
    by_cases z : xs.length = 2
    · exact z
    · exfalso
      refine c ?_
      have : ¬ (V.int (xs.length : Nat) = V.int 2) := by simp; omega
      rw [decide_eq_false this]; rfl
  obtain ⟨d0, d1, rfl⟩ : ∃ d0 d1, ds = [d0, d1] := by
    match ds, (show ds.length = 2 by omega) with
    | [x, y], _ => exact ⟨x, y, rfl⟩
  rw [DtAll] at hx
  obtain ⟨x0, r, rfl, hx0, hx⟩ := hx
  rw [DtAll] at hx
  obtain ⟨x1, r, rfl, hx1, hx⟩ := hx
  rw [DtAll] at hx
  subst hx
  rw [isTabD] at q
  refine ⟨_, rfl, _, _, _, _, rfl, rfl, s1, rfl, l, d0, x0, rfl, hx0, fun H1 e1 => ⟨_, rfl, ite2 (fun c0 => ?_) (fun c0 => ?_)⟩⟩
  · rw [c0] at q
    refine ⟨_, rfl, _, _, _, _, rfl, rfl, e1.tup s1, rfl, l, d1, x1, rfl, hx1.same e1, _, rfl, ite2 (fun c1 => ?_) (fun c1 => ?_)⟩
    · rw [c1] at q
      obtain ⟨r0, rfl⟩ := isLst_of (areRowsD_lst c0)
      obtain ⟨r1, rfl⟩ := isLst_of (areFrD_lst c1)
      have hx0 := hx0.same e1
      have hx1 := hx1.same e1
      rw [Dt] at hx0 hx1
      obtain ⟨a0, y0, rfl, _, ha0, hy0⟩ := hx0
      obtain ⟨a1, y1, rfl, _, ha1, hy1⟩ := hx1
      refine ⟨_, rfl, _, _, _, _, rfl, rfl, e1.tup s1, rfl, a1, y1, rfl, .inl (SqL.of ha1), _, rfl, _, _, _, _, rfl, rfl, e1.tup s1, rfl, a0, y0, rfl, .inl (SqL.of ha0), rfl, ?_⟩
      have := q H1 e1
      rw [Bool.true_and, Bool.true_and, lenD, lenD, ← hy0.len, ← hy1.len] at this
      have e : decide (V.int (y1.length : Nat) = V.int (y0.length : Nat)) = decide (y1.length = y0.length) := by
        rw [Bool.eq_iff_iff]; simp; omega
      rw [← e] at this
      exact this
    · rw [Bool.eq_false_iff.mpr c1, Bool.false_and, Bool.and_false] at q
      exact q H1 e1
  · rw [Bool.eq_false_iff.mpr c0, Bool.false_and] at q
    exact q H1 e1
end
section
variable {P : Program} {w : World} {K : PySem.W.Frag} {mg : Str → Option Value} {base : Heap} {f g g1 g2 g3 g4 g5 : Addr} {fd gd gd1 gd2 gd3 gd4 gd5 : FuncData}
theorem sc__law_are : FnScope ["_law_thing", "_law_many"] ["_law_thing", "_law_many"] (defScope s__law_are) := ⟨rfl, rfl, rfl, by decide +kernel, rfl, by decide +kernel, by decide +kernel⟩
theorem ok__law_are (F : Fn K mg "_law_are" s__law_are ["_law_thing", "_law_many"] f fd) (T__law_is_fraction : Fn K mg "_law_is_fraction" s__law_is_fraction ["_law_thing"] g1 gd1)
    (G__law_is_fraction : FnOk P w K mg base CX0 2 g1 gd1 ["_law_thing"] spIsFr) (z_isinstance : mg "isinstance" = none) (z_list : mg "list" = none) (z_len : mg "len" = none) (z_all : mg "all" = none) : FnOk P w K mg base CX0 3 f fd ["_law_thing", "_law_many"] spAre := by
  have sc := sc__law_are
  refine F.F.ok (k := 2) sc (fun vs H Q E h => ?_) (fun cdv A outer s H vs Q E hr h => ?_)
  · obtain ⟨l, d, v, n, rfl, _⟩ := h
    rfl
  obtain ⟨l, d, v, n, rfl, hn, hd, q⟩ := h
  refine ⟨_, (pss_one (ps_ret (pe_and (pe_callB call_isi rfl z_isinstance PyProof.Rows.boot_isinstance (pa_cons (pv 0) (pa_cons (pe_bltn (v := .ty "list") rfl z_list PyProof.Rows.boot_list rfl) pa_nil))) (pe_and (pe_cmpR op_eq (pe_callB call_len_seq rfl z_len PySem.boot_len (pa_cons (pv 0) pa_nil)) (pv 1) (nomark _)) (pe_one (pe_callB (call_all rfl) rfl z_all PyProof.Rows.boot_all (pa_cons (pe_compr [".0", "_law_part_here"] 1 [none, none] (pi_list (pv 0)) (fun _ _ _ _ _ => pif_nil) (fun _ _ _ _ _ => (pe_fn T__law_is_fraction G__law_is_fraction hr rfl (pa_cons (pv 1) pa_nil)))) pa_nil))))))), ?_⟩
  refine ⟨_, rfl, _, _, _, _, rfl, nnt, hd.ty, kit_lstD K d hd.nodict, _, rfl, ?_⟩
  by_cases hL : isLstD d = false
  · rw [hL]
    have := q H (.refl H)
    rw [areFrD_no hL, Bool.false_and] at this
    exact iteF this
  have hL : isLstD d = true := by simpa using hL
  rw [hL]
  refine iteT ?_
  obtain ⟨ds, rfl⟩ := isLst_of hL
  rw [Dt] at hd
  obtain ⟨a, xs, rfl, na, ha, ht⟩ := hd
  have hlen := ht.len
  refine ⟨_, rfl, a, xs, rfl, .inl (SqL.of ha), _, rfl, rfl, _, rfl, ite2 (fun c => ?_) (fun c => ?_)⟩
  · have hxn : (xs.length : Int) = n := by
      have := of_decide_eq_true c
      simpa using this
    have e1 : (lenD (.list ds) : Int) = n := by rw [lenD, ← hlen]; exact hxn
    rw [decide_eq_true e1, Bool.and_true] at q
    refine ⟨_, rfl, a, rfl, ⟨_, SqL.of ha⟩, fun D hD => comp_by (n := xs.length) (fun i ys H' => Same H H' ∧ ys = ((ds.take i).map isFrD).map V.bl) ?_ ?_ ?_⟩
    · exact ⟨same_new hD _, rfl⟩
    · rintro i ys H0 hi ⟨e0, rfl⟩ hD0
      refine ⟨⟨xs, xs[i], SqL.of (e0 _ _ ha), by simp [hi]⟩, ?_, fun x H' y => ?_⟩
      · rw [List.length_map, List.length_map, List.length_take]
        exact Nat.lt_of_le_of_lt (Nat.min_le_left _ _) (Nat.lt_of_lt_of_le (show i < 60 by omega) (by rw [sizeLine_eq]; decide))
      · obtain ⟨rfl, y⟩ := y
        obtain ⟨c, hc, tc⟩ := ht.get (y xs (SqL.of (e0 _ _ ha)))
        unfold tNoIf
        refine iteT ⟨_, rfl, l, c, x, rfl, tc.same e0, hD0, cw_next hi ⟨fun b o z => ?_, ?_⟩⟩
        · rw [upd_ne (ne_of_none z hD)]
          exact e0 _ _ z
        · rw [List.take_succ, hc]
          simp
    · rintro ys H0 ⟨e0, rfl⟩ hD0
      refine ⟨⟨xs, SqL.of (e0 _ _ ha), Nat.le_refl _⟩, ?_⟩
      refine ⟨D, _, rfl, SqL.of hD0, ?_⟩
      have := q H0 e0
      have e : ((ds.take xs.length).map isFrD).all id = areFrD (.list ds) := by
        rw [hlen, List.take_length, List.all_map, areFrD]; rfl
      rw [← e] at this
      exact this
  · have e1 : ¬ (lenD (.list ds) : Int) = n := by
      rw [lenD, ← hlen]
      intro z
      refine c ?_
      rw [← z]
      exact decide_eq_true rfl
    have := q H (.refl H)
    rw [decide_eq_false e1, Bool.and_false] at this
    exact this
theorem sc__law_is_table : FnScope ["_law_thing", "_law_size"] ["_law_thing"] (defScope s__law_is_table) := ⟨rfl, rfl, rfl, by decide +kernel, rfl, by decide +kernel, by decide +kernel⟩
theorem ok__law_is_table (F : Fn K mg "_law_is_table" s__law_is_table ["_law_thing"] f fd) (T__law_are : Fn K mg "_law_are" s__law_are ["_law_thing", "_law_many"] g1 gd1)
    (G__law_are : FnOk P w K mg base CX0 3 g1 gd1 ["_law_thing", "_law_many"] spAre) (z_isinstance : mg "isinstance" = none) (z_list : mg "list" = none) (z_tuple : mg "tuple" = none) (z_len : mg "len" = none) (z_all : mg "all" = none) (z_range : mg "range" = none) : FnOk P w K mg base CX0 4 f fd ["_law_thing"] spIsTab := by
  have sc := sc__law_is_table
  refine F.F.ok (k := 3) sc (fun vs H Q E h => ?_) (fun cdv A outer s H vs Q E hr h => ?_)
  · obtain ⟨l, d, v, rfl, _⟩ := h
    rfl
  obtain ⟨l, d, v, rfl, hd, q⟩ := h
  refine ⟨_, (pss_cons (ps_if (PW.pt (pw_or (pt_not (pt_val (pe_callB call_isi rfl z_isinstance PyProof.Rows.boot_isinstance (pa_cons (pv 0) (pa_cons (pe_bltn (v := .ty "tuple") rfl z_tuple PyProof.Rows.boot_tuple rfl) pa_nil))))) (pw_or (pt_cmpR op_ne (pe_callB call_len_seq rfl z_len PySem.boot_len (pa_cons (pv 0) pa_nil)) pe_int (nomark _)) (pw_or1 (pt_not (pt_val (pe_callB call_isi rfl z_isinstance PyProof.Rows.boot_isinstance (pa_cons (pe_ix ix_tup (pv 0) pe_int (fun _ _ => rfl)) (pa_cons (pe_bltn (v := .ty "list") rfl z_list PyProof.Rows.boot_list rfl) pa_nil)))))))))
    (pss_one (ps_ret pe_bl))
    pss_nil)
  (pss_cons (ps_set (i := 1) sc.nd rfl (Or.inl rfl) (pe_callB call_len_seq rfl z_len PySem.boot_len (pa_cons (pe_ix ix_tup (pv 0) pe_int (fun _ _ => rfl)) pa_nil)))
  (pss_cons (ps_if (PW.pt (pw_or (pt_cmpR op_lt (pv 1) pe_int (nomark _)) (pw_or (pt_cmpR op_gt (pv 1) pe_int (nomark _)) (pw_or1 (pt_not (pt_val (pe_fn T__law_are G__law_are hr rfl (pa_cons (pe_ix ix_tup (pv 0) pe_int (fun _ _ => rfl)) (pa_cons (pv 1) pa_nil)))))))))
    (pss_one (ps_ret pe_bl))
    pss_nil)
  (pss_one (ps_ret (pe_callB (call_all rfl) rfl z_all PyProof.Rows.boot_all (pa_cons (pe_compr [".0", "_law_k", "_law_thing"] 1 [none, none, some 0] (pi_range1 rfl z_range (pa_cons (pv 1) pa_nil)) (fun _ _ _ _ _ => pif_nil) (fun _ _ _ _ _ => (pe_fn T__law_are G__law_are hr rfl (pa_cons (pe_ix ix_listC (pe_ix ix_tupC (pv 2) pe_int (fun _ _ => rfl)) (pv 1) (fun _ _ => rfl)) (pa_cons (pv 1) pa_nil))))) pa_nil))))))), ?_⟩
  refine ⟨_, rfl, _, _, _, _, rfl, nnt, hd.ty, kit_tupD K d hd.nodict, _, rfl, ?_⟩
  by_cases hL : isTupD d = false
  · rw [hL]
    have := q H (.refl H)
    rw [isTabD_no hL] at this
    exact iteT (iteT this)
  have hL : isTupD d = true := by simpa using hL
  rw [hL]
  refine iteF ?_
  obtain ⟨ds, rfl⟩ := isTup_of hL
  rw [Dt] at hd
  obtain ⟨a, xs, rfl, na, ha, hx⟩ := hd
  have hlen := hx.len
  have s1 : SqT K H a xs := SqT.of ha
  refine ⟨_, rfl, a, xs, rfl, .inr s1, rfl, _, rfl, ite2 (fun c => ?_) (fun c => ?_)⟩
  · have : ds.length ≠ 2 := by
      rw [← hlen]
      intro z
      rw [z] at c
      exact absurd c (by decide)
    have q := q H (.refl H)
    rw [isTabD_len this] at q
    exact iteT q
  have h2 : xs.length = 2 := by
    by_cases z : xs.length = 2
    · exact z
    · exfalso
      refine c ?_
      have : ¬ (V.int (xs.length : Nat) = V.int 2) := by simp; omega
      rw [decide_eq_false this]; rfl
  obtain ⟨d0, d1, rfl⟩ : ∃ d0 d1, ds = [d0, d1] := by
    match ds, (show ds.length = 2 by omega) with
    | [x, y], _ => exact ⟨x, y, rfl⟩
  rw [DtAll] at hx
  obtain ⟨x0, r, rfl, hx0, hx⟩ := hx
  rw [DtAll] at hx
  obtain ⟨x1, r, rfl, hx1, hx⟩ := hx
  rw [DtAll] at hx
  subst hx
  rw [isTabD] at q
  refine ⟨_, rfl, _, _, _, _, rfl, rfl, s1, rfl, _, _, _, _, rfl, nnt, hx0.ty, kit_lstD K d0 hx0.nodict, _, rfl, ?_⟩
  by_cases hL : isLstD d0 = false
  · rw [hL]
    have := q H (.refl H)
    rw [areRowsD_no hL, Bool.false_and] at this
    exact iteT this
  have hL : isLstD d0 = true := by simpa using hL
  rw [hL]
  refine iteF ?_
  obtain ⟨rs, rfl⟩ := isLst_of hL
  rw [Dt] at hx0
  obtain ⟨a0, y0, rfl, na0, ha0, hy0⟩ := hx0
  have hl0 := hy0.len
  refine ⟨_, rfl, _, _, _, _, rfl, rfl, s1, rfl, a0, y0, rfl, .inl (SqL.of ha0), ?_⟩
  refine ⟨_, rfl, _, _, rfl, rfl, _, rfl, ite2 (fun c => ?_) (fun c => ?_)⟩
  · have := q H (.refl H)
    have h1 : ¬ 1 ≤ rs.length := by rw [← hl0]; have := of_decide_eq_true c; omega
    rw [areRowsD, decide_eq_false h1, Bool.false_and, Bool.false_and] at this
    exact iteT this
  have h1 : 1 ≤ rs.length := by rw [← hl0]; have := of_decide_eq_false (Bool.eq_false_iff.mpr c); omega
  refine ⟨_, rfl, _, _, rfl, rfl, _, rfl, ite2 (fun c => ?_) (fun c => ?_)⟩
  · have := q H (.refl H)
    have h1 : ¬ rs.length ≤ 40 := by rw [← hl0]; have := of_decide_eq_true c; omega
    rw [areRowsD, decide_eq_false h1, Bool.false_and, Bool.and_false, Bool.false_and] at this
    exact iteT this
  have h2 : rs.length ≤ 40 := by rw [← hl0]; have := of_decide_eq_false (Bool.eq_false_iff.mpr c); omega
  rw [areRowsD, decide_eq_true h1, decide_eq_true h2, Bool.true_and, Bool.true_and] at q
  refine ⟨_, rfl, _, _, _, _, rfl, rfl, s1, rfl, _, rfl, l, d1, x1, _, rfl, by omega, hx1, fun H1 e1 => ⟨_, rfl, ite2 (fun c => ?_) (fun c => ?_)⟩⟩
  · have := q H1 e1
    have e : (areFrD d1 && decide (lenD d1 = lenD (.list rs))) = false := by
      have c : (areFrD d1 && decide ((lenD d1 : Int) = (y0.length : Nat))) = false := by rwa [Bool.not_eq_true'] at c
      rw [← c, lenD.eq_1 rs, ← hl0]
      congr 1
      rw [Bool.eq_iff_iff]
      simp
      omega
    rw [e, Bool.and_false] at this
    exact this
  have e : (areFrD d1 && decide (lenD d1 = lenD (.list rs))) = true := by
    have c : (areFrD d1 && decide ((lenD d1 : Int) = (y0.length : Nat))) = true := by simpa using c
    rw [← c, lenD.eq_1 rs, ← hl0]
    congr 1
    rw [Bool.eq_iff_iff]
    simp
    omega
  rw [e, Bool.and_true] at q
  refine ⟨_, rfl, _, rfl, by omega, by omega, ?_⟩
  refine fun D hD => comp_by (n := y0.length) (fun i ys H' => Same H1 H' ∧ ys = ((List.range i).map (rowAt rs)).map V.bl) ?_ ?_ ?_
  · exact ⟨same_new hD _, rfl⟩
  · rintro i ys H2 hi ⟨e2, rfl⟩ hD2
    have E2 := e1.trans e2
    refine ⟨hi, ?_, fun x H' y => ?_⟩
    · rw [List.length_map, List.length_map, List.length_range]
      exact Nat.lt_of_lt_of_le (show i < 60 by omega) (by rw [sizeLine_eq]; decide)
    · obtain ⟨rfl, rfl⟩ := y
      obtain ⟨c, hc, tc⟩ := hy0.get (i := i) (v := y0[i]) (by simp [hi])
      have hat : atI y0 (0 + (i : Nat)) = some y0[i] := by
        rw [Int.zero_add]
        exact atI_nat (by simp [hi])
      unfold tNoIf
      refine iteT ⟨_, rfl, _, _, _, _, rfl, rfl, E2.tup s1, rfl, _, rfl, _, _, _, _, rfl, rfl, SqL.of (E2 _ _ ha0), hat, _, rfl, l, c, _, _, rfl, by omega, tc.same E2, fun H3 e3 => ⟨e3 _ _ hD2, cw_next hi ⟨fun b o z => ?_, ?_⟩⟩⟩
      · rw [upd_ne (ne_of_none z hD)]
        exact e3 _ _ (e2 _ _ z)
      · rw [List.range_succ, List.map_append, List.map_append, List.map_singleton, List.map_singleton, rowAt_eq hc]
        congr 4
        rw [Bool.eq_iff_iff]
        simp
        omega
  · rintro ys H2 ⟨e2, rfl⟩ hD2
    refine ⟨Nat.le_refl _, ?_⟩
    refine ⟨D, _, rfl, SqL.of hD2, ?_⟩
    have := q H2 (e1.trans e2)
    have e : ((List.range y0.length).map (rowAt rs)).all id = rowsOk rs := by
      rw [hl0, List.all_map, rowsOk]; rfl
    rw [← e] at this
    exact this
end
def FrV (H : Hp) (v : V) : Prop := ∃ p a b, v = .ref p ∧ H p = some (.tup [.int a, .int b]) ∧ isFrD (.tuple [.int a, .int b]) = true
theorem FrV.but {H H' : Hp} {c : Addr} {zs : List V} {v : V} (e : SameBut c H H') (hc : H c = some (.lst zs)) (h : FrV H v) : FrV H' v := by
  obtain ⟨p, a, b, rfl, h1, h2⟩ := h
  exact ⟨p, a, b, rfl, e _ _ (fun z => by subst z; rw [h1] at hc; cases hc) h1, h2⟩
theorem FrV.same {H H' : Hp} {v : V} (e : Same H H') (h : FrV H v) : FrV H' v := by
  obtain ⟨p, a, b, rfl, h1, h2⟩ := h
  exact ⟨p, a, b, rfl, e _ _ h1, h2⟩
def FrsD (ds : List PyData) : Prop := ∀ e ∈ ds, isFrD e = true
theorem frs_dt {l : Addr} {zs : List V} {H : Hp} (hl : H l = some (.lst zs)) : ∀ {xs : List V}, (∀ x ∈ xs, FrV H x) → ∃ ds, DtAll l H ds xs ∧ FrsD ds
  | [], _ => ⟨[], .nil, fun _ z => (List.not_mem_nil z).elim⟩
  | x :: xs, h => by
    obtain ⟨ds, h1, h2⟩ := frs_dt hl (xs := xs) fun y hy => h y (List.mem_cons_of_mem _ hy)
    obtain ⟨p, a, b, rfl, h3, h4⟩ := h x List.mem_cons_self
    refine ⟨_ :: ds, .cons (.tup (fun z => by subst z; rw [h3] at hl; cases hl) h3 (.cons .int (.cons .int .nil))) h1, fun e he => ?_⟩
    rcases List.mem_cons.mp he with rfl | he
    · exact h4
    · exact h2 e he
theorem isFr_of {d : PyData} (h : isFrD d = true) : ∃ a b, d = .tuple [.int a, .int b] := by
  unfold isFrD at h
  split at h
  · exact ⟨_, _, rfl⟩
  · cases h
def RowV (H : Hp) (l R : Addr) (n : Nat) (v : V) : Prop := ∃ a ys, v = .ref a ∧ a ≠ l ∧ a ≠ R ∧ H a = some (.lst ys) ∧ ys.length = n ∧ ∀ x ∈ ys, FrV H x
theorem RowV.same {H H' : Hp} {l R : Addr} {n : Nat} {v : V} (e : Same H H') (h : RowV H l R n v) : RowV H' l R n v := by
  obtain ⟨a, ys, rfl, n1, n2, h1, h2, h3⟩ := h
  exact ⟨a, ys, rfl, n1, n2, e _ _ h1, h2, fun x hx => (h3 x hx).same e⟩
theorem RowV.but {H H' : Hp} {l R : Addr} {zs : List V} {n : Nat} {v : V} (e : SameBut l H H') (hl : H l = some (.lst zs)) (h : RowV H l R n v) : RowV H' l R n v := by
  obtain ⟨a, ys, rfl, n1, n2, h1, h2, h3⟩ := h
  exact ⟨a, ys, rfl, n1, n2, e _ _ n1 h1, h2, fun x hx => (h3 x hx).but e hl⟩
theorem RowV.butR {H H' : Hp} {l R : Addr} {zs : List V} {n : Nat} {v : V} (e : SameBut R H H') (hl : H R = some (.lst zs)) (h : RowV H l R n v) : RowV H' l R n v := by
  obtain ⟨a, ys, rfl, n1, n2, h1, h2, h3⟩ := h
  exact ⟨a, ys, rfl, n1, n2, e _ _ n2 h1, h2, fun x hx => (h3 x hx).but e hl⟩
def TabOk (m : Nat) (d : PyData) : Prop := ∃ rs ls, d = .tuple [.list rs, .list ls] ∧ 1 ≤ rs.length ∧ rs.length ≤ m ∧ ls.length = rs.length ∧ (∀ (i : Nat) r, rs[i]? = some r → ∃ ps, r = .list ps ∧ ps.length = i ∧ FrsD ps) ∧ FrsD ls
theorem rows_dt {l R : Addr} {zs : List V} {H : Hp} (hl : H l = some (.lst zs)) : ∀ {n : Nat} {xs : List V}, (∀ (j : Nat) v, xs[j]? = some v → RowV H l R (n + j) v) → ∃ rs, DtAll l H rs xs ∧ ∀ (i : Nat) r, rs[i]? = some r → ∃ ps, r = .list ps ∧ ps.length = n + i ∧ FrsD ps
  | n, [], _ => ⟨[], .nil, fun i r h => by simp at h⟩
  | n, x :: xs, h => by
    obtain ⟨rs, h1, h2⟩ := rows_dt hl (n := n + 1) (xs := xs) fun j v hv => by
      rw [show n + 1 + j = n + (j + 1) by omega]
      exact h (j + 1) v (by simpa using hv)
    obtain ⟨a, ys, rfl, n1, n2, h3, h4, h5⟩ := h 0 x rfl
    obtain ⟨ps, h6, h7⟩ := frs_dt hl h5
    refine ⟨.list ps :: rs, .cons (.lst n1 h3 h6) h1, fun i r hr => ?_⟩
    cases i with
    | zero =>
      simp at hr
      exact ⟨ps, hr.symm, by rw [← h6.len]; exact h4, h7⟩
    | succ i =>
      obtain ⟨qs, k1, k2, k3⟩ := h2 i r (by simpa using hr)
      exact ⟨qs, k1, by omega, k3⟩
theorem frs_sm {ds : List PyData} (h : FrsD ds) : ∀ e ∈ ds, Sm 1 e := fun e he => by
  obtain ⟨a, b, rfl⟩ := isFr_of (h e he)
  refine .tup (show 2 ≤ 64 by decide) fun x hx => ?_
  rcases List.mem_cons.mp hx with rfl | hx
  · exact leaf.sm trivial
  · rw [List.mem_singleton.mp hx]; exact leaf.sm trivial
theorem TabOk.is {m : Nat} (hm : m ≤ 40) {d : PyData} (h : TabOk m d) : isTabD d = true := by
  obtain ⟨rs, ls, rfl, h1, h2, h3, h4, h5⟩ := h
  rw [isTabD, areRowsD, decide_eq_true h1, decide_eq_true (show rs.length ≤ 40 by omega), lenD, lenD, decide_eq_true h3, areFrD, Bool.true_and, Bool.true_and, Bool.and_true, List.all_eq_true.mpr h5, Bool.and_true]
  refine rowsOk_of fun j hj => ?_
  obtain ⟨r, hr⟩ : ∃ r, rs[j]? = some r := ⟨rs[j], by simp [hj]⟩
  obtain ⟨ps, rfl, k1, k2⟩ := h4 j r hr
  rw [rowAt_eq hr, lenD, decide_eq_true k1, areFrD, Bool.and_true, List.all_eq_true.mpr k2]
def spPartD : Sp := fun vs H Q _ => ∃ (l : Addr) (x : Int), vs = [.ref l] ∧ H l = some (.lst [.int x]) ∧ ∀ v H' y, SameBut l H H' → H' l = some (.lst [.int y]) → FrV H' v → Q v H'
theorem rat_fr (r : Rat) : isFrD (.tuple [.int r.num, .int (r.den : Int)]) = true := by
  have h := r.den_nz
  have k := r.reduced
  rw [isFrD, decide_eq_true (show (1 : Int) ≤ (r.den : Int) by omega), Bool.true_and]
  rw [beq_iff_eq]
  unfold FM.gi
  unfold Nat.Coprime at k
  rw [show r.num.gcd (r.den : Int) = 1 from k]
  rfl
def DrawnR (l : Addr) (Hb : Hp) : Nat → List V → Hp → Prop := fun i ys H' => SameBut l Hb H' ∧ (∃ y, H' l = some (.lst [.int y])) ∧ ys.length = i ∧ ∀ x ∈ ys, FrV H' x
theorem drawn_step {l D : Addr} {Hb H0 H2 : Hp} {xb y2 : Int} {i : Nat} {ys : List V} {v : V} (hb : Hb l = some (.lst [.int xb])) (hD : Hb D = none) (h0 : DrawnR l Hb i ys H0) (hD0 : H0 D = some (.lst ys))
    (e2 : SameBut l H0 H2) (h2 : H2 l = some (.lst [.int y2])) (n2 : FrV H2 v) : H2 D = some (.lst ys) ∧ DrawnR l Hb (i + 1) (ys ++ [v]) (upd H2 D (.lst (ys ++ [v]))) := by
  obtain ⟨e0, ⟨yy, hy⟩, hl, hf⟩ := h0
  have nl : l ≠ D := ne_of_none hb hD
  have hD2 : H2 D = some (.lst ys) := e2 _ _ nl.symm hD0
  refine ⟨hD2, fun b o nb z => ?_, ⟨y2, by rw [upd_ne nl]; exact h2⟩, by simp [hl], fun x hx => ?_⟩
  · rw [upd_ne (ne_of_none z hD)]
    exact e2 _ _ nb (e0 _ _ nb z)
  · rcases List.mem_append.mp hx with hx | hx
    · exact ((hf x hx).but e2 hy).but .upd hD2
    · rw [List.mem_singleton.mp hx]
      exact n2.but .upd hD2
theorem sz60 {i n : Nat} (h : i < n) (hn : n ≤ 60) : i < sizeLine := Nat.lt_of_lt_of_le (show i < 60 by omega) (by rw [sizeLine_eq]; decide)
theorem sz60' {n : Nat} (hn : n ≤ 60) : n ≤ sizeLine := Nat.le_trans hn (by rw [sizeLine_eq]; decide)
section
variable {P : Program} {w : World} {K : PySem.W.Frag} {mg : Str → Option Value} {base : Heap} {f g g1 g2 g3 g4 g5 : Addr} {fd gd gd1 gd2 gd3 gd4 gd5 : FuncData}
theorem sc__law_part : FnScope ["_law_pile_here", "_law_top"] ["_law_pile_here"] (defScope s__law_part) := ⟨rfl, rfl, rfl, by decide +kernel, rfl, by decide +kernel, by decide +kernel⟩
theorem ok__law_part (F : Fn K mg "_law_part" s__law_part ["_law_pile_here"] f fd) (T__law_take : Fn K mg "_law_take" s__law_take ["_law_pile_here", "_law_size"] g1 gd1) (T__law_frac : Fn K mg "_law_frac" s__law_frac ["_law_top", "_law_bottom"] g2 gd2)
    (G__law_take : FnOk P w K mg base CX0 2 g1 gd1 ["_law_pile_here", "_law_size"] spTake) (G__law_frac : FnOk P w K mg base CX0 2 g2 gd2 ["_law_top", "_law_bottom"] spFr) : FnOk P w K mg base CX0 3 f fd ["_law_pile_here"] spPartD := by
  have sc := sc__law_part
  refine F.F.ok (k := 2) sc (fun vs H Q E h => ?_) (fun cdv A outer s H vs Q E hr h => ?_)
  · obtain ⟨l, x, rfl, _⟩ := h
    rfl
  obtain ⟨l, x, rfl, hl, q⟩ := h
  refine ⟨_, (pss_cons (ps_set (i := 1) sc.nd rfl (Or.inl rfl) (pe_op op_sub (pe_fn T__law_take G__law_take hr rfl (pa_cons (pv 0) (pa_cons pe_int pa_nil))) pe_int))
  (pss_one (ps_ret (pe_fn T__law_frac G__law_frac hr rfl (pa_cons (pv 1) (pa_cons (pe_op op_add pe_int (pe_fn T__law_take G__law_take hr rfl (pa_cons (pv 0) (pa_cons pe_int pa_nil)))) pa_nil)))))), ?_⟩
  refine ⟨_, rfl, l, x, 13, rfl, hl, by decide, by decide, fun i y i0 i1 => ⟨_, _, rfl, rfl, ?_⟩⟩
  refine ⟨_, rfl, _, rfl, l, y, 6, rfl, upd_same, by decide, by decide, fun j z j0 j1 => ⟨_, _, rfl, rfl, ?_⟩⟩
  refine ⟨i - 6, 1 + j, 8, rfl, by omega, by decide, by omega, fun p H' e hp => ?_⟩
  exact q _ H' z ((SameBut.upd.trans SameBut.upd).trans (.of e)) (e _ _ upd_same) ⟨p, _, _, rfl, hp, rat_fr _⟩
end
theorem max1 (n : Nat) : ∃ m : Int, 1 ≤ m ∧ (0 < n → m = n) ∧ (if (1 : Int) > (n : Int) then 1 else (n : Int)) = m := by
  refine ⟨_, ?_, ?_, rfl⟩
  · split <;> omega
  · intro h; split <;> omega
def LongOk (n : Nat) (d : PyData) : Prop := ∃ rs ls, d = .tuple [.list rs, .list ls] ∧ rs.length = n ∧ ls.length = n ∧ (∀ (i : Nat) r, rs[i]? = some r → ∃ ps, r = .list ps ∧ ps.length = i ∧ FrsD ps) ∧ FrsD ls
theorem LongOk.tab {n : Nat} {d : PyData} (h : LongOk n d) (h1 : 1 ≤ n) : TabOk n d := by
  obtain ⟨rs, ls, rfl, k1, k2, k3, k4⟩ := h
  exact ⟨rs, ls, rfl, by omega, by omega, by omega, k3, k4⟩
theorem LongOk.no {n : Nat} {d : PyData} (h : LongOk n d) (h1 : 40 < n) : isTabD d = false := by
  obtain ⟨rs, ls, rfl, k1, k2, k3, k4⟩ := h
  rw [isTabD, areRowsD, decide_eq_false (show ¬ rs.length ≤ 40 by omega), Bool.false_and, Bool.and_false, Bool.false_and]
def spLong : Sp := fun vs H Q _ => ∃ (l b : Addr) (zs ps : List V) (n : Nat), vs = [.int n, .ref b] ∧ n ≤ 42 ∧ H l = some (.lst zs) ∧ H b = some (.lst ps) ∧ ps.length = 5 ∧ (∀ x ∈ ps, FrV H x) ∧ ∀ v H' d, Same H H' → LongOk n d → Dt l H' d v → Q v H'
def GrownR (Hb : Hp) : Nat → List V → Hp → Prop := fun i ys H' => Same Hb H' ∧ ys.length = i ∧ ∀ x ∈ ys, FrV H' x
theorem grown_step {D : Addr} {Hb H0 : Hp} {i : Nat} {ys : List V} {v : V} (hD : Hb D = none) (h0 : GrownR Hb i ys H0) (hD0 : H0 D = some (.lst ys)) (n2 : FrV H0 v) : GrownR Hb (i + 1) (ys ++ [v]) (upd H0 D (.lst (ys ++ [v]))) := by
  obtain ⟨e0, hl, hf⟩ := h0
  refine ⟨fun b o z => ?_, by simp [hl], fun x hx => ?_⟩
  · rw [upd_ne (ne_of_none z hD)]
    exact e0 _ _ z
  · rcases List.mem_append.mp hx with hx | hx
    · exact (hf x hx).but .upd hD0
    · rw [List.mem_singleton.mp hx]
      exact n2.but .upd hD0
theorem fr_at {H : Hp} {ps : List V} {i : Int} (h : ∀ x ∈ ps, FrV H x) (h0 : 0 ≤ i) (h1 : i < (ps.length : Nat)) : ∃ v, atI ps i = some v ∧ FrV H v := by
  have hi : i.toNat < ps.length := by omega
  have e : ps[i.toNat]? = some ps[i.toNat] := by simp [hi]
  refine ⟨ps[i.toNat], ?_, h _ (List.mem_of_getElem? e)⟩
  have := atI_nat (xs := ps) (j := i.toNat) e
  rwa [show ((i.toNat : Nat) : Int) = i by omega] at this
section
variable {P : Program} {w : World} {K : PySem.W.Frag} {mg : Str → Option Value} {base : Heap} {f g g1 g2 g3 g4 g5 : Addr} {fd gd gd1 gd2 gd3 gd4 gd5 : FuncData}
theorem sc__law_long : FnScope ["_law_size", "_law_parts", "_law_rows", "_law_k"] ["_law_size", "_law_parts"] (defScope s__law_long) := ⟨rfl, rfl, rfl, by decide +kernel, rfl, by decide +kernel, by decide +kernel⟩
theorem ok__law_long (F : Fn K mg "_law_long" s__law_long ["_law_size", "_law_parts"] f fd) (z_range : mg "range" = none) : FnOk P w K mg base CX0 1 f fd ["_law_size", "_law_parts"] spLong := by
  have sc := sc__law_long
  refine F.F.ok (k := 0) sc (fun vs H Q E h => ?_) (fun cdv A outer s H vs Q E hr h => ?_)
  · obtain ⟨l, b, zs, ps, n, rfl, _⟩ := h
    rfl
  obtain ⟨l, b, zs, ps, n, rfl, hn, hl, hb, h5, hf, q⟩ := h
  refine ⟨_, (pss_cons (ps_set (i := 2) sc.nd rfl (Or.inl rfl) (pe_lst pa_nil))
  (pss_cons (ps_for PassesOwn.never rfl (pi_range1 rfl z_range (pa_cons (pv 0) pa_nil)) (pg_name (i := 3) sc.nd rfl (Or.inr rfl))
    (pss_one (ps_expr (pe_bm PySem.F.plainAttrs_list PySem.F.slot_list_append PySem.F.type_list_append mt_append (pv 2) (pa_cons (pe_compr [".0", "_law_j", "_law_parts", "_law_k"] 1 [none, none, some 1, some 3] (pi_range1 rfl z_range (pa_cons (pv 3) pa_nil)) (fun _ _ _ _ _ => pif_nil) (fun _ _ _ _ _ => (pe_ix ix_listC (pv 2) (pe_op op_mod (pe_op op_add (pe_op op_mulW (pv 1) (pv 1)) (pv 3)) pe_int) (fun _ _ => rfl)))) pa_nil)))))
  (pss_one (ps_ret (pe_tup (pa_cons (pv 2) (pa_cons (pe_compr [".0", "_law_j", "_law_parts"] 1 [none, none, some 1] (pi_range1 rfl z_range (pa_cons (pv 0) pa_nil)) (fun _ _ _ _ _ => pif_nil) (fun _ _ _ _ _ => (pe_ix ix_listC (pv 2) (pe_op op_mod (pv 1) pe_int) (fun _ _ => rfl)))) pa_nil))))))), ?_⟩
  refine ⟨sz60' (by decide), fun R hR => ?_⟩
  have nlR : l ≠ R := ne_of_none hl hR
  refine ⟨_, rfl, (n : Int), rfl, by omega, by omega, for_range (n := (n : Int).toNat) (fun i σ H' => ∃ r3, σ = [some (.int n), some (.ref b), some (.ref R), r3] ∧ Same H H' ∧ ∃ xs, H' R = some (.lst xs) ∧ xs.length = i ∧ ∀ (j : Nat) v, xs[j]? = some v → RowV H' l R j v) ?_ ?_ ?_⟩
  · exact ⟨_, rfl, same_new hR _, [], upd_same, rfl, fun j v h => by simp at h⟩
  · rintro i σ H2 hi ⟨r3, rfl, e2, xs, hR2, hxl, hrow⟩
    refine ⟨_, rfl, .inl ⟨rfl, _, SqL.of hR2⟩, _, rfl, 0 + (i : Nat), rfl, by omega, by omega, fun D hD => comp_by (n := (0 + (i : Int)).toNat) (GrownR H2) ?_ ?_ ?_⟩
    · exact ⟨same_new hD _, rfl, fun _ z => (List.not_mem_nil z).elim⟩
    · rintro j ys H0 hj h0 hD0
      refine ⟨hj, sz60 (n := 60) (by rw [h0.2.1]; omega) (by decide), fun x H' y => ?_⟩
      obtain ⟨rfl, rfl⟩ := y
      have E0 := e2.trans h0.1
      have m0 : 0 ≤ ((0 + (j : Int)) * (0 + (j : Int)) + (0 + (i : Int))) % 5 := Int.emod_nonneg _ (by decide)
      have m1 : ((0 + (j : Int)) * (0 + (j : Int)) + (0 + (i : Int))) % 5 < 5 := Int.emod_lt_of_pos _ (by decide)
      obtain ⟨u, hu1, hu2⟩ := fr_at (fun x hx => (hf x hx).same E0) m0 (by rw [h5]; exact m1)
      unfold tNoIf
      exact iteT ⟨_, rfl, _, rfl, _, rfl, _, _, rfl, rfl, mulL (by omega) (by omega), _, rfl, _, _, rfl, rfl, _, _, rfl, rfl, (by show (0 : Int) < 5; decide), _, _, _, _, rfl, rfl, SqL.of (E0 _ _ hb), hu1, hD0, cw_next hj (grown_step hD h0 hD0 hu2)⟩
    · rintro ys H3 ⟨e3, hyl, hyf⟩ hD3
      refine ⟨Nat.le_refl _, ?_⟩
      have hR3 : H3 R = some (.lst xs) := e3 _ _ hR2
      have nlD : l ≠ D := ne_of_none (e2 _ _ hl) hD
      have nRD : R ≠ D := ne_of_none hR2 hD
      refine ⟨R, xs, _, rfl, rfl, hR3, sz60 (n := 60) (by omega) (by decide), ?_⟩
      refine ⟨_, rfl, fun c o z => ?_, xs ++ [.ref D], upd_same, by simp [hxl], fun j v hv => ?_⟩
      · rw [upd_ne (ne_of_none z hR)]
        exact e3 _ _ (e2 _ _ z)
      · by_cases hj : j < xs.length
        · rw [List.getElem?_append_left hj] at hv
          exact ((hrow j v hv).same e3).butR .upd hR3
        · rw [List.getElem?_append_right (by omega)] at hv
          have hk2 : j - xs.length = 0 := by
            have := (List.getElem?_eq_some_iff.mp hv).1
            simp at this; omega
          rw [hk2] at hv
          simp at hv
          subst hv
          refine RowV.butR .upd hR3 ⟨D, ys, rfl, nlD.symm, nRD.symm, hD3, by omega, hyf⟩
  · rintro σ H2 ⟨r3, rfl, e2, xs, hR2, hxl, hrow⟩
    refine ⟨_, rfl, _, rfl, (n : Int), rfl, by omega, by omega, fun D hD => comp_by (n := (n : Int).toNat) (GrownR H2) ?_ ?_ ?_⟩
    · exact ⟨same_new hD _, rfl, fun _ z => (List.not_mem_nil z).elim⟩
    · rintro j ys H0 hj h0 hD0
      refine ⟨hj, sz60 (n := 60) (by rw [h0.2.1]; omega) (by decide), fun x H' y => ?_⟩
      obtain ⟨rfl, rfl⟩ := y
      have E0 := e2.trans h0.1
      have m0 : 0 ≤ (0 + (j : Int)) % 5 := Int.emod_nonneg _ (by decide)
      have m1 : (0 + (j : Int)) % 5 < 5 := Int.emod_lt_of_pos _ (by decide)
      obtain ⟨u, hu1, hu2⟩ := fr_at (fun x hx => (hf x hx).same E0) m0 (by rw [h5]; exact m1)
      unfold tNoIf
      exact iteT ⟨_, rfl, _, rfl, _, _, rfl, rfl, (by show (0 : Int) < 5; decide), _, _, _, _, rfl, rfl, SqL.of (E0 _ _ hb), hu1, hD0, cw_next hj (grown_step hD h0 hD0 hu2)⟩
    · rintro ys H3 ⟨e3, hyl, hyf⟩ hD3
      refine ⟨Nat.le_refl _, ?_⟩
      have hR3 : H3 R = some (.lst xs) := e3 _ _ hR2
      have hl3 := e3 _ _ (e2 _ _ hl)
      have nlD : l ≠ D := ne_of_none (e2 _ _ hl) hD
      refine ⟨sz60' (show 2 ≤ 60 by decide), fun p hp => ?_⟩
      have s4 := same_new hp (.tup [V.ref R, V.ref D])
      have hp4 : upd H3 p (.tup [V.ref R, V.ref D]) p = some (.tup [V.ref R, V.ref D]) := upd_same
      generalize upd H3 p (.tup [V.ref R, V.ref D]) = H4 at s4 hp4
      obtain ⟨rs, k1, k2⟩ := rows_dt (n := 0) hl3 fun j v hv => by
        rw [Nat.zero_add]
        exact (hrow j v hv).same e3
      obtain ⟨ls, k3, k4⟩ := frs_dt hl3 hyf
      refine q (.ref p) H4 (.tuple [.list rs, .list ls]) (e2.trans (e3.trans s4)) ⟨rs, ls, rfl, ?_, ?_, fun i r hr => ?_, k4⟩ (.tup (ne_of_none hl3 hp).symm hp4 (.cons (.lst nlR.symm (s4 _ _ hR3) (k1.same s4)) (.cons (.lst nlD.symm (s4 _ _ hD3) (k3.same s4)) .nil)))
      · rw [← k1.len]; omega
      · rw [← k3.len]; omega
      · obtain ⟨ps, a1, a2, a3⟩ := k2 i r hr
        exact ⟨ps, a1, by omega, a3⟩
end
mutual
theorem dt_fresh {l p : Addr} {H : Hp} (hp : H p = none) : ∀ {d : PyData} {v : V}, Dt l H d v → Dt p H d v
  | .none, _, h => by rw [Dt] at h ⊢; exact h
  | .bool _, _, h => by rw [Dt] at h ⊢; exact h
  | .int _, _, h => by rw [Dt] at h ⊢; exact h
  | .str _, _, h => by rw [Dt] at h ⊢; exact h
  | .tuple _, _, h => by
    rw [Dt] at h ⊢
    obtain ⟨a, xs, e1, n, h1, h2⟩ := h
    exact ⟨a, xs, e1, ne_of_none h1 hp, h1, dtAll_fresh hp h2⟩
  | .list _, _, h => by
    rw [Dt] at h ⊢
    obtain ⟨a, xs, e1, n, h1, h2⟩ := h
    exact ⟨a, xs, e1, ne_of_none h1 hp, h1, dtAll_fresh hp h2⟩
  | .dict _, _, h => by rw [Dt] at h; exact h.elim
theorem dtAll_fresh {l p : Addr} {H : Hp} (hp : H p = none) : ∀ {ds : List PyData} {xs : List V}, DtAll l H ds xs → DtAll p H ds xs
  | [], _, h => by rw [DtAll] at h ⊢; exact h
  | _ :: _, _, h => by
    rw [DtAll] at h ⊢
    obtain ⟨x, r, e1, h1, h2⟩ := h
    exact ⟨x, r, e1, dt_fresh hp h1, dtAll_fresh hp h2⟩
end
def smB : Nat → PyData → Bool
  | _, .none => true
  | _, .bool _ => true
  | _, .int _ => true
  | _, .str x => PyData.strOk x
  | n + 1, .tuple ds => decide (ds.length ≤ 60) && ds.all (smB n)
  | n + 1, .list ds => decide (ds.length ≤ 60) && ds.all (smB n)
  | _, _ => false
theorem smB_sm : ∀ {n : Nat} {d : PyData}, smB n d = true → Sm n d
  | n, d, h => by
    unfold smB at h
    split at h
    · exact leaf.sm trivial
    · exact leaf.sm trivial
    · exact leaf.sm trivial
    · exact leaf.sm h
    · rw [Bool.and_eq_true, decide_eq_true_eq, List.all_eq_true] at h
      exact .tup (by omega) fun e he => smB_sm (h.2 e he)
    · rw [Bool.and_eq_true, decide_eq_true_eq, List.all_eq_true] at h
      exact .lst (by omega) fun e he => smB_sm (h.2 e he)
    · cases h
def ShapeOk (d : PyData) : Prop := ∃ rs ls, d = .tuple [.list rs, .list ls] ∧ rs.length ≤ 60 ∧ ls.length ≤ 60 ∧ (∀ r ∈ rs, ∃ qs, r = .list qs ∧ qs.length ≤ 60 ∧ ∀ e ∈ qs, Sm 1 e) ∧ ∀ e ∈ ls, Sm 1 e
theorem ShapeOk.sm {d : PyData} (h : ShapeOk d) : Sm 4 d := by
  obtain ⟨rs, ls, rfl, h1, h2, h3, h4⟩ := h
  refine .tup (show 2 ≤ 64 by decide) fun x hx => ?_
  rcases List.mem_cons.mp hx with rfl | hx
  · refine .lst (by omega) fun r hr => ?_
    obtain ⟨qs, rfl, k1, k2⟩ := h3 r hr
    exact .lst (by omega) k2
  · rw [List.mem_singleton.mp hx]
    exact (Sm.lst (by omega) h4).up
def spGoodT : Sp := fun vs H Q _ => ∃ l o d v, vs = [v] ∧ H l = some o ∧ Dt l H d v ∧ ShapeOk d ∧ ∀ H', Same H H' → Q (.bl true) H'
theorem dt_frs {l : Addr} {H : Hp} : ∀ {ds : List PyData} {xs : List V}, DtAll l H ds xs → FrsD ds → ∀ x ∈ xs, FrV H x
  | [], xs, h, _ => by rw [DtAll] at h; subst h; exact fun _ z => (List.not_mem_nil z).elim
  | d :: ds, xs, h, k => by
    rw [DtAll] at h
    obtain ⟨x, r, rfl, h1, h2⟩ := h
    intro y hy
    rcases List.mem_cons.mp hy with rfl | hy
    · have kf := k d List.mem_cons_self
      obtain ⟨a, b, rfl⟩ := isFr_of kf
      rw [Dt] at h1
      obtain ⟨p, xs, rfl, _, hp, hx⟩ := h1
      rw [DtAll] at hx
      obtain ⟨x0, r, rfl, hx0, hx⟩ := hx
      rw [DtAll] at hx
      obtain ⟨x1, r, rfl, hx1, hx⟩ := hx
      rw [DtAll] at hx
      subst hx
      rw [Dt] at hx0 hx1
      subst hx0 hx1
      exact ⟨p, a, b, rfl, hp, kf⟩
    · exact dt_frs h2 (fun e he => k e (List.mem_cons_of_mem _ he)) y hy
def RowS (H : Hp) (l D : Addr) (v : V) : Prop := ∃ b zs ds, v = .ref b ∧ b ≠ l ∧ b ≠ D ∧ H b = some (.lst zs) ∧ zs.length ≤ 60 ∧ DtAll l H ds zs ∧ ∀ e ∈ ds, Sm 1 e
theorem RowV.s {H : Hp} {l D : Addr} {zs : List V} {n : Nat} {v : V} (hl : H l = some (.lst zs)) (hn : n ≤ 60) (h : RowV H l D n v) : RowS H l D v := by
  obtain ⟨b, ys, rfl, n1, n2, h1, h2, h3⟩ := h
  obtain ⟨ds, k1, k2⟩ := frs_dt hl h3
  exact ⟨b, ys, ds, rfl, n1, n2, h1, by omega, k1, frs_sm k2⟩
theorem RowS.same {H H' : Hp} {l D : Addr} {v : V} (e : Same H H') (h : RowS H l D v) : RowS H' l D v := by
  obtain ⟨b, zs, ds, rfl, n1, n2, h1, h2, h3, h4⟩ := h
  exact ⟨b, zs, ds, rfl, n1, n2, e _ _ h1, h2, h3.same e, h4⟩
theorem row_mut {H : Hp} {l D b : Addr} {zl zs zs' : List V} {ds' : List PyData} {n : Nat} {v : V} (hl : H l = some (.lst zl)) (hb : H b = some (.lst zs)) (nb : b ≠ l) (hn : n ≤ 60) (h : RowV H l D n v)
    (hd : DtAll l (upd H b (.lst zs')) ds' zs') (hs : ∀ e ∈ ds', Sm 1 e) (hz : zs'.length ≤ 60) : RowS (upd H b (.lst zs')) l D v := by
  obtain ⟨c, ys, rfl, n1, n2, h1, h2, h3⟩ := h
  by_cases z : c = b
  · subst z
    exact ⟨c, zs', ds', rfl, n1, n2, upd_same, hz, hd, hs⟩
  · obtain ⟨ds, k1, k2⟩ := frs_dt (H := upd H b (.lst zs')) (by rw [upd_ne nb.symm]; exact hl) fun x hx => (h3 x hx).but .upd hb
    exact ⟨c, ys, ds, rfl, n1, n2, by rw [upd_ne z]; exact h1, by omega, k1, frs_sm k2⟩
theorem rowsS_dt {l D : Addr} {H : Hp} : ∀ {xs : List V}, (∀ v ∈ xs, RowS H l D v) → ∃ rs, DtAll l H rs xs ∧ ∀ r ∈ rs, ∃ qs, r = .list qs ∧ qs.length ≤ 60 ∧ ∀ e ∈ qs, Sm 1 e
  | [], _ => ⟨[], .nil, fun _ z => (List.not_mem_nil z).elim⟩
  | x :: xs, h => by
    obtain ⟨rs, h1, h2⟩ := rowsS_dt (xs := xs) fun v hv => h v (List.mem_cons_of_mem _ hv)
    obtain ⟨b, zs, ds, rfl, n1, n2, k1, k2, k3, k4⟩ := h x List.mem_cons_self
    refine ⟨.list ds :: rs, .cons (.lst n1 k1 k3) h1, fun r hr => ?_⟩
    rcases List.mem_cons.mp hr with rfl | hr
    · exact ⟨ds, rfl, by rw [← k3.len]; exact k2, k4⟩
    · exact h2 r hr
theorem dt_set {l : Addr} {H : Hp} {d : PyData} {x : V} (hx : Dt l H d x) : ∀ {ds : List PyData} {xs : List V} (j : Nat), DtAll l H ds xs → DtAll l H (ds.set j d) (xs.set j x)
  | [], xs, j, h => by rw [DtAll] at h; subst h; exact .nil
  | e :: ds, xs, 0, h => by
    rw [DtAll] at h
    obtain ⟨y, r, rfl, h1, h2⟩ := h
    exact .cons hx h2
  | e :: ds, xs, j + 1, h => by
    rw [DtAll] at h
    obtain ⟨y, r, rfl, h1, h2⟩ := h
    exact .cons h1 (dt_set hx j h2)
section
variable {P : Program} {w : World} {K : PySem.W.Frag} {mg : Str → Option Value} {base : Heap} {f g g1 g2 g3 g4 g5 : Addr} {fd gd gd1 gd2 gd3 gd4 gd5 : FuncData}
theorem sc__law_good : FnScope ["_law_table", "_law_kept", "_law_found"] ["_law_table"] (defScope s__law_good) := ⟨rfl, rfl, rfl, by decide +kernel, rfl, by decide +kernel, by decide +kernel⟩
theorem ok__law_good (F : Fn K mg "_law_good" s__law_good ["_law_table"] f fd) (T_is_table : Fn K mg "is_table" s_is_table ["thing"] g2 gd2) (T__law_is_table : Fn K mg "_law_is_table" s__law_is_table ["_law_thing"] g3 gd3)
    (G_is_table : FnOk P w K mg base CX0 6 g2 gd2 ["thing"] spIsTab) (G__law_is_table : FnOk P w K mg base CX0 6 g3 gd3 ["_law_thing"] spIsTab) (z_isinstance : mg "isinstance" = none) (z_bool : mg "bool" = none) (z_list : mg "list" = none) :
    FnOk P w K mg base CX0 7 f fd ["_law_table"] spGoodT := by
  have sc := sc__law_good
  refine F.F.ok (k := 6) sc (fun vs H Q E h => ?_) (fun cdv A outer s H vs Q E hr h => ?_)
  · obtain ⟨l, o, d, v, rfl, _⟩ := h
    rfl
  obtain ⟨l, o, d, v, rfl, hl, hd, hs, q⟩ := h
  have sm := hs.sm
  obtain ⟨rs, ls, rfl, s1, s2, s3, s4⟩ := hs
  have hd0 := hd
  rw [Dt] at hd
  obtain ⟨a, xx, rfl, na, ha, hx⟩ := hd
  rw [DtAll] at hx
  obtain ⟨x0, r, rfl, hx0, hx⟩ := hx
  rw [DtAll] at hx
  obtain ⟨x1, r, rfl, hx1, hx⟩ := hx
  rw [DtAll] at hx
  subst hx
  rw [Dt] at hx0 hx1
  obtain ⟨R, xs, rfl, nR, hR, dr⟩ := hx0
  obtain ⟨L, ws, rfl, nL, hL, dl⟩ := hx1
  have hlx := dr.len
  have hlw := dl.len
  refine ⟨_, (pss_cons (ps_set (i := 1) sc.nd rfl (Or.inl rfl) (pe_tup (pa_cons (pe_compr [".0", "_law_row"] 1 [none, none] (pi_list (pe_ix ix_tup (pv 0) pe_int (fun _ _ => rfl))) (fun _ _ _ _ _ => pif_nil) (fun _ _ _ _ _ => (pe_callTy call_list_ofC rfl z_list PyProof.Rows.boot_list (pa_cons (pv 1) pa_nil)))) (pa_cons (pe_callTy call_list_of rfl z_list PyProof.Rows.boot_list (pa_cons (pe_ix ix_tup (pv 0) pe_int (fun _ _ => rfl)) pa_nil)) pa_nil))))
  (pss_cons (ps_set (i := 2) sc.nd rfl (Or.inl rfl) (pe_fn T_is_table G_is_table hr rfl (pa_cons (pv 0) pa_nil)))
  (pss_one (ps_ret (pe_and (pe_callB call_isi rfl z_isinstance PyProof.Rows.boot_isinstance (pa_cons (pv 2) (pa_cons (pe_bltn (v := .ty "bool") rfl z_bool PyProof.Rows.boot_bool rfl) pa_nil))) (pe_and (pe_cmpR op_eq (pv 2) (pe_fn T__law_is_table G__law_is_table hr rfl (pa_cons (pv 0) pa_nil)) (nomark _)) (pe_one (pe_cmpR (op_eqD (by have := hr.units; exact this)) (pv 0) (pv 1) (nomark _))))))))), ?_⟩
  refine ⟨_, rfl, _, _, _, _, rfl, rfl, SqT.of ha, rfl, R, rfl, ⟨_, SqL.of hR⟩, fun D hD => comp_by (n := xs.length) (fun i ys H' => Same H H' ∧ DtAll l H' (rs.take i) ys ∧ DtAll D H' (rs.take i) ys) ?_ ?_ ?_⟩
  · exact ⟨same_new hD _, .nil, .nil⟩
  · rintro i ys H0 hi ⟨e0, d0, d1⟩ hD0
    refine ⟨⟨xs, xs[i], SqL.of (e0 _ _ hR), by simp [hi]⟩, ?_, fun x H' y => ?_⟩
    · rw [d0.len, List.length_take]
      exact sz60 (n := 60) (by omega) (by decide)
    · obtain ⟨rfl, y⟩ := y
      obtain ⟨c, hc, tc⟩ := dr.get (y xs (SqL.of (e0 _ _ hR)))
      obtain ⟨qs, rfl, _, _⟩ := s3 c (List.mem_of_getElem? hc)
      rw [Dt] at tc
      obtain ⟨b, zs, rfl, nb, hb, dz⟩ := tc
      unfold tNoIf
      refine iteT ⟨_, rfl, b, zs, rfl, .inl (SqL.of (e0 _ _ hb)), fun p hp => ?_⟩
      have es := same_new hp (.lst zs)
      have hp2 : upd H' p (.lst zs) p = some (.lst zs) := upd_same
      have np : p ≠ l := (ne_of_none (e0 _ _ hl) hp).symm
      have npD : p ≠ D := (ne_of_none hD0 hp).symm
      generalize upd H' p (.lst zs) = H2 at es hp2
      have E2 := e0.trans es
      have k0 : DtAll l H2 (rs.take (i + 1)) (ys ++ [.ref p]) := (d0.same es).take hc (.lst np hp2 (dz.same E2))
      have k1 : DtAll D H2 (rs.take (i + 1)) (ys ++ [.ref p]) := (d1.same es).take hc (.lst npD hp2 ((dtAll_fresh hD dz).same E2))
      refine ⟨es _ _ hD0, cw_next hi ⟨fun c o z => ?_, .two .upd k1 k0, .but .upd k1⟩⟩
      rw [upd_ne (ne_of_none z hD)]
      exact E2 _ _ z
  · rintro ys H0 ⟨e0, d0, d1⟩ hD0
    refine ⟨⟨xs, SqL.of (e0 _ _ hR), Nat.le_refl _⟩, ?_⟩
    rw [hlx, List.take_length] at d0
    refine ⟨_, rfl, _, _, _, _, rfl, rfl, SqT.of (e0 _ _ ha), rfl, L, ws, rfl, .inl (SqL.of (e0 _ _ hL)), fun p hp => ?_⟩
    have es := same_new hp (.lst ws)
    have hp2 : upd H0 p (.lst ws) p = some (.lst ws) := upd_same
    have np : p ≠ l := (ne_of_none (e0 _ _ hl) hp).symm
    generalize upd H0 p (.lst ws) = H2 at es hp2
    refine ⟨sz60' (show 2 ≤ 60 by decide), fun t ht => ?_⟩
    have et := same_new ht (.tup [V.ref D, V.ref p])
    have ht2 : upd H2 t (.tup [V.ref D, V.ref p]) t = some (.tup [V.ref D, V.ref p]) := upd_same
    have nt : t ≠ l := (ne_of_none (es _ _ (e0 _ _ hl)) ht).symm
    generalize upd H2 t (.tup [V.ref D, V.ref p]) = H3 at et ht2
    have E3 := e0.trans (es.trans et)
    have nD : D ≠ l := (ne_of_none hl hD).symm
    have kept : Dt l H3 (.tuple [.list rs, .list ls]) (.ref t) := .tup nt ht2 (.cons (.lst nD (et _ _ (es _ _ hD0)) (d0.same (es.trans et))) (.cons (.lst np (et _ _ hp2) (dl.same E3)) .nil))
    have hd3 := hd0.same E3
    clear d0 d1 dl dr
    refine ⟨_, rfl, l, _, _, rfl, hd3, fun H4 e4 => ?_⟩
    refine ⟨_, rfl, _, _, _, _, rfl, nnt, .bl _, kit_bb K, _, rfl, iteT ⟨_, rfl, _, rfl, l, _, _, rfl, hd3.same e4, fun H5 e5 => ?_⟩⟩
    have same : decide (V.bl (isTabD (.tuple [.list rs, .list ls])) = V.bl (isTabD (.tuple [.list rs, .list ls]))) = true := decide_eq_true rfl
    refine ⟨rfl, _, rfl, ?_⟩
    rw [same]
    have E5 := e4.trans e5
    refine iteT ⟨_, rfl, _, rfl, _, _, (hd3.same E5).br, (kept.same E5).br, sm.ok.shaped (by decide), sm.ok.shaped (by decide), ?_⟩
    have e1 := eqv_self _ sm.ok.1
    show Q (.bl (PyData.eqv _ _)) H5
    rw [e1]
    exact q H5 (E3.trans E5)
end
def spBentT : Sp := fun vs H Q _ => ∃ (l : Addr) (x : Int) (d : PyData) (v : V) (n : Nat), vs = [v, .ref l] ∧ H l = some (.lst [.int x]) ∧ Dt l H d v ∧ LongOk n d ∧ n ≤ 42 ∧ ∀ v' H' y d', SameBut l H H' → H' l = some (.lst [.int y]) → Dt l H' d' v' → ShapeOk d' → Q v' H'
structure Bend (H : Hp) (l D L a : Addr) (ys ws : List V) (tv : List V) (H' : Hp) : Prop where
  tr : SameBut l H H'
  pile : ∃ y, H' l = some (.lst [.int y])
  rows : H' D = some (.lst ys)
  last : H' L = some (.lst ws)
  fr : ∀ x ∈ ws, FrV H' x
  tab : H' a = some (.tup tv)
theorem Bend.same {H : Hp} {l D L a : Addr} {ys ws tv : List V} {H1 H2 : Hp} (b : Bend H l D L a ys ws tv H1) (e : Same H1 H2) : Bend H l D L a ys ws tv H2 :=
  ⟨b.tr.trans (.of e), let ⟨y, h⟩ := b.pile; ⟨y, e _ _ h⟩, e _ _ b.rows, e _ _ b.last, fun x hx => (b.fr x hx).same e, e _ _ b.tab⟩
theorem Bend.pileTo {H : Hp} {l D L a : Addr} {ys ws tv : List V} {H1 : Hp} (b : Bend H l D L a ys ws tv H1) (nD : D ≠ l) (nL : L ≠ l) (na : a ≠ l) (y : Int) : Bend H l D L a ys ws tv (upd H1 l (.lst [.int y])) :=
  let ⟨_, h⟩ := b.pile
  ⟨b.tr.trans .upd, ⟨y, upd_same⟩, by rw [upd_ne nD]; exact b.rows, by rw [upd_ne nL]; exact b.last, fun x hx => (b.fr x hx).but .upd h, by rw [upd_ne na]; exact b.tab⟩
theorem Bend.rowTo {H : Hp} {l D L a c : Addr} {ys ws tv zs zs' : List V} {H1 : Hp} (b : Bend H l D L a ys ws tv H1) (hc : H c = none) (nl : c ≠ l) (nD : c ≠ D) (nL : c ≠ L) (na : c ≠ a) (h : H1 c = some (.lst zs)) : Bend H l D L a ys ws tv (upd H1 c (.lst zs')) :=
  let ⟨y, hy⟩ := b.pile
  ⟨fun b' o n z => by rw [upd_ne (ne_of_none z hc)]; exact b.tr _ _ n z, ⟨y, by rw [upd_ne nl.symm]; exact hy⟩, by rw [upd_ne nD.symm]; exact b.rows, by rw [upd_ne nL.symm]; exact b.last, fun x hx => (b.fr x hx).but .upd h, by rw [upd_ne na.symm]; exact b.tab⟩
theorem RowV.pile {H : Hp} {l R : Addr} {zs : List V} {n : Nat} {v : V} {o : HO} (hl : H l = some (.lst zs)) (h : RowV H l R n v) : RowV (upd H l o) l R n v := h.but .upd hl
section
variable {P : Program} {w : World} {K : PySem.W.Frag} {mg : Str → Option Value} {base : Heap} {f g g1 g2 g3 g4 g5 : Addr} {fd gd gd1 gd2 gd3 gd4 gd5 : FuncData}
theorem sc__law_bent : FnScope ["_law_table", "_law_pile_here", "_law_rows", "_law_way", "_law_at"] ["_law_table", "_law_pile_here"] (defScope s__law_bent) := ⟨rfl, rfl, rfl, by decide +kernel, rfl, by decide +kernel, by decide +kernel⟩
theorem ok__law_bent (F : Fn K mg "_law_bent" s__law_bent ["_law_table", "_law_pile_here"] f fd) (T__law_take : Fn K mg "_law_take" s__law_take ["_law_pile_here", "_law_size"] g1 gd1)
    (G__law_take : FnOk P w K mg base CX0 1 g1 gd1 ["_law_pile_here", "_law_size"] spTake) (z_len : mg "len" = none) (z_list : mg "list" = none) (z_max : mg "max" = none) : FnOk P w K mg base CX0 2 f fd ["_law_table", "_law_pile_here"] spBentT := by
  have sc := sc__law_bent
  refine F.F.ok (k := 1) sc (fun vs H Q E h => ?_) (fun cdv A outer s H vs Q E hr h => ?_)
  · obtain ⟨l, x, d, v, n, rfl, _⟩ := h
    rfl
  obtain ⟨l, x, d, v, n, rfl, hl, hd, ⟨rs, ls, rfl, s1, s2, s3, s4⟩, hn, q⟩ := h
  rw [Dt] at hd
  obtain ⟨a, xx, rfl, na, ha, hx⟩ := hd
  rw [DtAll] at hx
  obtain ⟨x0, r, rfl, hx0, hx⟩ := hx
  rw [DtAll] at hx
  obtain ⟨x1, r, rfl, hx1, hx⟩ := hx
  rw [DtAll] at hx
  subst hx
  rw [Dt] at hx0 hx1
  obtain ⟨R, xs, rfl, nR, hR, dr⟩ := hx0
  obtain ⟨L, ws, rfl, nL, hL, dl⟩ := hx1
  have hlx := dr.len
  have hlw := dl.len
  refine ⟨_, (pss_cons (ps_setCompr (i := 2) [".0", "_law_row"] 1 [none, none] sc.nd rfl rfl (pi_list (pe_ix ix_tup (pv 0) pe_int (fun _ _ => rfl))) (fun _ _ _ _ _ => pif_nil) (fun _ _ _ _ _ => (pe_callTy call_list_ofC rfl z_list PyProof.Rows.boot_list (pa_cons (pv 1) pa_nil))))
  (pss_cons (ps_set (i := 3) sc.nd rfl (Or.inl rfl) (pe_fn T__law_take G__law_take hr rfl (pa_cons (pv 1) (pa_cons pe_int pa_nil))))
  (pss_cons (ps_set (i := 4) sc.nd rfl (Or.inl rfl) (pe_op op_modN (pe_fn T__law_take G__law_take hr rfl (pa_cons (pv 1) (pa_cons pe_int pa_nil))) (pe_callB (call_max2 rfl) rfl z_max PyProof.Rows.boot_max (pa_cons (pe_callB call_len_seq rfl z_len PySem.boot_len (pa_cons (pv 2) pa_nil)) (pa_cons pe_int pa_nil)))))
  (pss_cons (ps_if (PW.pt (pw_and (pt_cmpR op_eq (pv 3) pe_int (nomark _)) (pw_and (pt_cmpR (op_neD (by have := hr.units; exact this)) (pv 2) (pe_lst pa_nil) (nomark _)) (pw_and1 (pt_cmpR (op_neD (by have := hr.units; exact this)) (pe_ix ix_list (pv 2) (pv 4) (fun _ _ => rfl)) (pe_lst pa_nil) (nomark _))))))
    (by exact (pss_one (by refine' ps_asg ?aw ?ax; (case aw => refine' pe_ix ix_list ?la ?lb ?lc; (case la => refine' pe_lst ?q; (case q => refine' pa_lits (n := 8) (ds := [.tuple [.int 2, .int 4], .tuple [.int 1, .int 0], .bool true, .list [.int 1, .int 1]]) ?z; (case z => rfl))); (case lb => exact (pe_fn T__law_take G__law_take hr rfl (pa_cons (pv 1) (pa_cons pe_int pa_nil)))); (case lc => exact (fun _ _ => rfl))); (case ax => exact (pg_sub (pe_ix ix_list (pv 2) (pv 4) (fun _ _ => rfl)) (pe_op op_modN (pe_fn T__law_take G__law_take hr rfl (pa_cons (pv 1) (pa_cons pe_int pa_nil))) (pe_callB call_len_seq rfl z_len PySem.boot_len (pa_cons (pe_ix ix_list (pv 2) (pv 4) (fun _ _ => rfl)) pa_nil))) set_list)))))
    pss_nil)
  (pss_cons (ps_if (PW.pt (pw_and (pt_cmpR op_eq (pv 3) pe_int (nomark _)) (pw_and1 (pt_cmpR (op_neD (by have := hr.units; exact this)) (pv 2) (pe_lst pa_nil) (nomark _)))))
    (pss_one (ps_expr (pe_bm PySem.F.plainAttrs_list PySem.F.slot_list_append PySem.F.type_list_append mt_append (pe_ix ix_list (pv 2) (pv 4) (fun _ _ => rfl)) (pa_cons (pe_tup (pa_cons pe_int (pa_cons pe_int pa_nil))) pa_nil))))
    pss_nil)
  (pss_one (ps_ret (pe_tup (pa_cons (pv 2) (pa_cons (pe_callTy call_list_of rfl z_list PyProof.Rows.boot_list (pa_cons (pe_ix ix_tup (pv 0) pe_int (fun _ _ => rfl)) pa_nil)) pa_nil)))))))))), ?_⟩
  refine ⟨_, rfl, _, _, _, _, rfl, rfl, SqT.of ha, rfl, R, rfl, ⟨_, SqL.of hR⟩, fun D hD => comp_by (n := xs.length) (fun i ys H' => Same H H' ∧ ys.length = i ∧ (∀ (j : Nat) v, ys[j]? = some v → RowV H' l D j v) ∧ ∀ (j : Nat) b, ys[j]? = some (.ref b) → H b = none) ?_ ?_ ?_⟩
  · exact ⟨same_new hD _, rfl, fun j v h => by simp at h, fun j v h => by simp at h⟩
  · rintro i ys H0 hi ⟨e0, hyl, hrow, hfr⟩ hD0
    refine ⟨⟨xs, xs[i], SqL.of (e0 _ _ hR), by simp [hi]⟩, sz60 (n := 60) (by omega) (by decide), fun x H' y => ?_⟩
    obtain ⟨rfl, y⟩ := y
    obtain ⟨c, hc, tc⟩ := dr.get (y xs (SqL.of (e0 _ _ hR)))
    obtain ⟨qs, rfl, hq1, hq2⟩ := s3 i c hc
    rw [Dt] at tc
    obtain ⟨b, zs, rfl, nb, hb, dz⟩ := tc
    unfold tNoIf
    refine iteT ⟨_, rfl, b, zs, rfl, .inl (SqL.of (e0 _ _ hb)), fun p hp => ?_⟩
    have es := same_new hp (.lst zs)
    have hp2 : upd H' p (.lst zs) p = some (.lst zs) := upd_same
    have np : p ≠ l := (ne_of_none (e0 _ _ hl) hp).symm
    have npD : p ≠ D := (ne_of_none hD0 hp).symm
    generalize upd H' p (.lst zs) = H2 at es hp2
    have hD2 := es _ _ hD0
    refine ⟨hD2, cw_next hi ⟨fun c o z => ?_, by simp [hyl], fun j v hv => ?_, fun j v hv => ?_⟩⟩
    · rw [upd_ne (ne_of_none z hD)]
      exact es _ _ (e0 _ _ z)
    · by_cases hj : j < ys.length
      · rw [List.getElem?_append_left hj] at hv
        exact ((hrow j v hv).same es).butR .upd hD2
      · rw [List.getElem?_append_right (by omega)] at hv
        have hk2 : j - ys.length = 0 := by
          have := (List.getElem?_eq_some_iff.mp hv).1
          simp at this; omega
        rw [hk2] at hv
        simp at hv
        subst hv
        exact RowV.butR .upd hD2 ⟨p, zs, rfl, np, npD, hp2, by rw [dz.len]; omega, fun x hx => ((dt_frs dz hq2 x hx).same e0).same es⟩
    · by_cases hj : j < ys.length
      · rw [List.getElem?_append_left hj] at hv
        exact hfr j v hv
      · rw [List.getElem?_append_right (by omega)] at hv
        have hk2 : j - ys.length = 0 := by
          have := (List.getElem?_eq_some_iff.mp hv).1
          simp at this; omega
        rw [hk2] at hv
        simp at hv
        subst hv
        exact e0.free hp
  rintro ys H0 ⟨e0, hyl, hrow, hfr⟩ hD0
  refine ⟨⟨xs, SqL.of (e0 _ _ hR), Nat.le_refl _⟩, ?_⟩
  have nD : D ≠ l := (ne_of_none hl hD).symm
  have hl0 := e0 _ _ hl
  have bd : Bend H l D L a ys ws [V.ref R, V.ref L] H0 := ⟨.of e0, ⟨_, hl0⟩, hD0, e0 _ _ hL, fun x hx => (dt_frs dl s4 x hx).same e0, e0 _ _ ha⟩
  refine ⟨_, rfl, l, x, 6, rfl, hl0, by decide, by decide, fun way y0 w0 w1 => ?_⟩
  refine ⟨_, rfl, l, y0, 60, rfl, upd_same, by decide, by decide, fun r y1 r0 r1 => ?_⟩
  have bd := (bd.pileTo nD nL na y0).pileTo nD nL na y1
  have hrow : ∀ (j : Nat) v, ys[j]? = some v → RowV (upd (upd H0 l (.lst [.int y0])) l (.lst [.int y1])) l D j v := fun j v hv => ((hrow j v hv).pile hl0).pile upd_same
  generalize upd (upd H0 l (.lst [.int y0])) l (.lst [.int y1]) = H1 at bd hrow
  clear e0 hD0 hl0
  obtain ⟨m, m1, m2, m3⟩ := max1 ys.length
  refine ⟨_, rfl, D, ys, rfl, .inl (SqL.of bd.rows), _, _, rfl, r, m, rfl, congrArg V.int m3, (by show m ≠ 0; omega), ?_⟩
  clear m3
  have f0 := Int.fmod_nonneg_of_pos r (show 0 < m by omega)
  have f1 := Int.fmod_lt_of_pos r (show 0 < m by omega)
  try dsimp only [gName]
  have dataR : ∀ H2, (∀ (j : Nat) v, ys[j]? = some v → RowV H2 l D j v) → Bend H l D L a ys ws [V.ref R, V.ref L] H2 → ∃ rr, Dt l H2 (.list rr) (.ref D) ∧ rr.length = ys.length ∧ SeqAt.shaped (.list rr) = true := fun H2 hr b => by
    obtain ⟨y, hy⟩ := b.pile
    obtain ⟨rr, k1, k2⟩ := rows_dt (n := 0) hy fun j v hv => by rw [Nat.zero_add]; exact hr j v hv
    refine ⟨rr, .lst nD b.rows k1, k1.len.symm, ?_⟩
    refine (Sm.lst (n := 2) (by rw [← k1.len]; omega) fun e he => ?_).ok.shaped (by decide)
    obtain ⟨i, hi⟩ := List.getElem?_of_mem he
    obtain ⟨ps, rfl, z1, z2⟩ := k2 i e hi
    have := (List.getElem?_eq_some_iff.mp hi).1
    rw [← k1.len] at this
    exact .lst (by omega) (frs_sm z2)
  have nilS : SeqAt.shaped (.list []) = true := ((Sm.lst (n := 0) (by decide) (fun _ z => (List.not_mem_nil z).elim)).ok).shaped (by decide)
  have eqNil : ∀ rr : List PyData, PyData.eqv (.list rr) (.list []) = rr.isEmpty := fun rr => by cases rr <;> simp [PyData.eqv, PyData.eqvAll]
  refine seq_join (fun σ' H' => σ' = [some (.ref a), some (.ref l), some (.ref D), some (.int way), some (.int (r.fmod m))] ∧ Bend H l D L a ys ws [V.ref R, V.ref L] H' ∧ ((∀ (j : Nat) v, ys[j]? = some v → RowV H' l D j v) ∨ (way = 0 ∧ ∀ (j : Nat) v, ys[j]? = some v → RowS H' l D v))) (fun nx hnx => ?_) ?_
  · refine ⟨_, rfl, rfl, _, rfl, ite2 (fun c => ?_) (fun c => iteF (hnx _ _ ⟨rfl, bd, .inl hrow⟩))⟩
    have hway : way = 0 := by simpa using c
    refine ⟨_, rfl, sz60' (by decide), fun p0 hp => ?_⟩
    have es := same_new hp (.lst [])
    have h0 : upd H1 p0 (.lst []) p0 = some (.lst []) := upd_same
    have n0 : p0 ≠ l := let ⟨y, hy⟩ := bd.pile; (ne_of_none hy hp).symm
    generalize upd H1 p0 (.lst []) = H2 at es h0
    have bd := bd.same es
    have hrow : ∀ (j : Nat) v, ys[j]? = some v → RowV H2 l D j v := fun j v hv => (hrow j v hv).same es
    clear es
    obtain ⟨rr, k1, k2, k3⟩ := dataR H2 hrow bd
    refine ⟨.list rr, .list [], k1.br, (Dt.lst n0 h0 .nil).br, k3, nilS, _, rfl, ?_⟩
    by_cases hz : ys.length = 0
    · have : rr = [] := List.length_eq_zero_iff.mp (by omega)
      subst this
      exact iteF (iteF (hnx _ _ ⟨rfl, bd, .inl hrow⟩))
    cases rr with
    | nil => exact absurd k2.symm hz
    | cons r0 rr =>
    refine iteT ?_
    have hk : (r.fmod m).toNat < ys.length := by have := m2 (by omega); omega
    have hyk : ys[(r.fmod m).toNat]? = some ys[(r.fmod m).toNat] := by simp [hk]
    have hat := atI_nat (xs := ys) (j := (r.fmod m).toNat) hyk
    rw [show (((r.fmod m).toNat : Nat) : Int) = r.fmod m by omega] at hat
    generalize ys[(r.fmod m).toNat] = vk at hyk hat
    have hvk := hrow _ _ hyk
    obtain ⟨b, zs, rfl, nb, nbD, hb, hbl, hbf⟩ := hvk
    have hbn := hfr _ _ hyk
    have nbL : b ≠ L := (ne_of_none hL hbn).symm
    have nba : b ≠ a := (ne_of_none ha hbn).symm
    clear k1 k3
    refine ⟨_, rfl, _, rfl, _, _, _, _, rfl, rfl, SqL.of bd.rows, hat, sz60' (by decide), fun p1 hp => ?_⟩
    have es := same_new hp (.lst [])
    have h1 : upd H2 p1 (.lst []) p1 = some (.lst []) := upd_same
    have n1 : p1 ≠ l := let ⟨y, hy⟩ := bd.pile; (ne_of_none hy hp).symm
    generalize upd H2 p1 (.lst []) = H3 at es h1
    have bd := bd.same es
    have hrow : ∀ (j : Nat) v, ys[j]? = some v → RowV H3 l D j v := fun j v hv => (hrow j v hv).same es
    have hb := es _ _ hb
    have hbf : ∀ x ∈ zs, FrV H3 x := fun x hx => (hbf x hx).same es
    clear es
    obtain ⟨y3, hl3⟩ := bd.pile
    obtain ⟨qs, z1, z2⟩ := frs_dt hl3 hbf
    refine ⟨.list qs, .list [], (Dt.lst nb hb z1).br, (Dt.lst n1 h1 .nil).br, (Sm.lst (n := 1) (by rw [← z1.len]; omega) (frs_sm z2)).ok.shaped (by decide), nilS, _, rfl, ?_⟩
    cases qs with
    | nil => exact iteF (hnx _ _ ⟨rfl, bd, .inl hrow⟩)
    | cons q0 qs =>
    refine iteT ?_
    have hzl : zs.length ≠ 0 := by rw [z1.len]; simp
    have hz60 : zs.length ≤ 60 := by omega
    clear z1 z2 h1
    refine fun vs H4 e4 u4 hl4 => ⟨sz60' (by rw [hl4]; decide), fun p2 hp => ?_⟩
    have ul := u4 l (.inr (by rw [hl3]; exact fun z => nomatch z))
    have ub := u4 b (.inr (by rw [hb]; exact fun z => nomatch z))
    have es := same_new hp (.lst vs)
    have h2 : upd H4 p2 (.lst vs) p2 = some (.lst vs) := upd_same
    have n2 : p2 ≠ l := (ne_of_none (e4 _ _ hl3) hp).symm
    generalize upd H4 p2 (.lst vs) = H5 at es h2
    have ul := ul.same es
    have ub := ub.same es
    have es := e4.trans es
    have bd := bd.same es
    have hrow : ∀ (j : Nat) v, ys[j]? = some v → RowV H5 l D j v := fun j v hv => (hrow j v hv).same es
    have hb := es _ _ hb
    have hbf : ∀ x ∈ zs, FrV H5 x := fun x hx => (hbf x hx).same es
    have hl5 := es _ _ hl3
    clear es e4 u4
    refine ⟨_, rfl, l, _, 4, rfl, hl5, by decide, by decide, fun i y4 i0 i1 => ?_⟩
    have hi : i.toNat < vs.length := by rw [hl4]; show i.toNat < 4; omega
    have hvi : vs[i.toNat]? = some vs[i.toNat] := by simp [hi]
    have hai := atI_nat (xs := vs) (j := i.toNat) hvi
    rw [show ((i.toNat : Nat) : Int) = i by omega] at hai
    generalize vs[i.toNat] = xv at hvi hai
    obtain ⟨dx, hdx, tl⟩ := ul.get hvi
    obtain ⟨dx', hdx', tb⟩ := ub.get hvi
    rw [hdx] at hdx'
    cases hdx'
    have smx : Sm 1 dx := smB_sm (List.all_eq_true.mp (show List.all [.tuple [.int 2, .int 4], .tuple [.int 1, .int 0], .bool true, .list [.int 1, .int 1]] (smB 1) = true by decide +kernel) dx (List.mem_of_getElem? hdx))
    clear ul ub
    have tb : Dt b (upd H5 l (.lst [.int y4])) dx xv := .two .upd tl tb
    have tl : Dt l (upd H5 l (.lst [.int y4])) dx xv := .but .upd tl
    have bd := bd.pileTo nD nL na y4
    have hrow : ∀ (j : Nat) v, ys[j]? = some v → RowV (upd H5 l (.lst [.int y4])) l D j v := fun j v hv => (hrow j v hv).pile hl5
    have hb : (upd H5 l (.lst [.int y4])) b = some (.lst zs) := by rw [upd_ne nb]; exact hb
    have hbf : ∀ x ∈ zs, FrV (upd H5 l (.lst [.int y4])) x := fun x hx => (hbf x hx).but .upd hl5
    have h2 : (upd H5 l (.lst [.int y4])) p2 = some (.lst vs) := by rw [upd_ne n2]; exact h2
    have hl6 : (upd H5 l (.lst [.int y4])) l = some (.lst [.int y4]) := upd_same
    generalize upd H5 l (.lst [.int y4]) = H6 at bd hrow hb hbf h2 hl6 tl tb
    refine ⟨_, _, _, _, rfl, rfl, SqL.of h2, hai, _, rfl, _, rfl, _, _, _, _, rfl, rfl, SqL.of bd.rows, hat, _, rfl, l, y4, 60, rfl, hl6, by decide, by decide, fun i' y5 i0' i1' => ?_⟩
    clear h2
    have tb : Dt b (upd H6 l (.lst [.int y5])) dx xv := .two .upd tl tb
    have tl : Dt l (upd H6 l (.lst [.int y5])) dx xv := .but .upd tl
    have bd := bd.pileTo nD nL na y5
    have hrow : ∀ (j : Nat) v, ys[j]? = some v → RowV (upd H6 l (.lst [.int y5])) l D j v := fun j v hv => (hrow j v hv).pile hl6
    have hb : (upd H6 l (.lst [.int y5])) b = some (.lst zs) := by rw [upd_ne nb]; exact hb
    have hbf : ∀ x ∈ zs, FrV (upd H6 l (.lst [.int y5])) x := fun x hx => (hbf x hx).but .upd hl6
    have hl7 : (upd H6 l (.lst [.int y5])) l = some (.lst [.int y5]) := upd_same
    generalize upd H6 l (.lst [.int y5]) = H7 at bd hrow hb hbf hl7 tl tb
    have g0 := Int.fmod_nonneg_of_pos i' (show 0 < ((zs.length : Nat) : Int) by omega)
    have g1 := Int.fmod_lt_of_pos i' (show 0 < ((zs.length : Nat) : Int) by omega)
    refine ⟨_, rfl, _, rfl, _, _, _, _, rfl, rfl, SqL.of bd.rows, hat, b, zs, rfl, .inl (SqL.of hb), _, _, rfl, rfl, (by show ((zs.length : Nat) : Int) ≠ 0; omega), b, zs, _, (i'.fmod (zs.length : Nat)).toNat, rfl, rfl, hb, ?_, ?_⟩
    · unfold ixN
      rw [if_pos g0, if_pos g1]
    refine hnx _ _ ⟨rfl, bd.rowTo hbn nb nbD nbL nba hb, .inr ⟨hway, fun j v hv => ?_⟩⟩
    have hj := (List.getElem?_eq_some_iff.mp hv).1
    obtain ⟨qz, k1, k2⟩ := frs_dt (H := upd H7 b (.lst (zs.set (i'.fmod (zs.length : Nat)).toNat xv))) (by rw [upd_ne nb.symm]; exact hl7) fun x hx => (hbf x hx).but .upd hb
    refine row_mut hl7 hb nb (by omega) (hrow j v hv) (dt_set (.two .upd tb tl) _ k1) (fun e he => ?_) (by rw [List.length_set]; exact hz60)
    rcases List.mem_or_eq_of_mem_set he with he | rfl
    · exact frs_sm k2 e he
    · exact smx
  rintro σ' H2 ⟨rfl, bd, hcase⟩
  clear hrow
  have toS : ∀ (j : Nat) v, ys[j]? = some v → RowS H2 l D v := fun j v hv => by
    obtain ⟨y, hy⟩ := bd.pile
    have hj := (List.getElem?_eq_some_iff.mp hv).1
    rcases hcase with h | ⟨_, h⟩
    · exact (h j v hv).s hy (by omega)
    · exact h j v hv
  try dsimp only [gName]
  refine seq_join (fun σ' H' => σ' = [some (.ref a), some (.ref l), some (.ref D), some (.int way), some (.int (r.fmod m))] ∧ Bend H l D L a ys ws [V.ref R, V.ref L] H' ∧ ∀ (j : Nat) v, ys[j]? = some v → RowS H' l D v) (fun nx hnx => ?_) ?_
  · refine ⟨_, rfl, rfl, _, rfl, ite2 (fun c => ?_) (fun c => iteF (hnx _ _ ⟨rfl, bd, toS⟩))⟩
    have hway : way = 1 := by simpa using c
    have hrow : ∀ (j : Nat) v, ys[j]? = some v → RowV H2 l D j v := by
      rcases hcase with h | ⟨h, _⟩
      · exact h
      · omega
    refine ⟨_, rfl, sz60' (by decide), fun p0 hp => ?_⟩
    have es := same_new hp (.lst [])
    have h0 : upd H2 p0 (.lst []) p0 = some (.lst []) := upd_same
    have n0 : p0 ≠ l := let ⟨y, hy⟩ := bd.pile; (ne_of_none hy hp).symm
    generalize upd H2 p0 (.lst []) = H3 at es h0
    have bd := bd.same es
    have toS : ∀ (j : Nat) v, ys[j]? = some v → RowS H3 l D v := fun j v hv => (toS j v hv).same es
    have hrow : ∀ (j : Nat) v, ys[j]? = some v → RowV H3 l D j v := fun j v hv => (hrow j v hv).same es
    clear es
    obtain ⟨rr, k1, k2, k3⟩ := dataR H3 hrow bd
    refine ⟨.list rr, .list [], k1.br, (Dt.lst n0 h0 .nil).br, k3, nilS, _, rfl, ?_⟩
    by_cases hz : ys.length = 0
    · have : rr = [] := List.length_eq_zero_iff.mp (by omega)
      subst this
      exact iteF (hnx _ _ ⟨rfl, bd, toS⟩)
    cases rr with
    | nil => exact absurd k2.symm hz
    | cons r0 rr =>
    refine iteT ?_
    have hk : (r.fmod m).toNat < ys.length := by have := m2 (by omega); omega
    have hyk : ys[(r.fmod m).toNat]? = some ys[(r.fmod m).toNat] := by simp [hk]
    have hat := atI_nat (xs := ys) (j := (r.fmod m).toNat) hyk
    rw [show (((r.fmod m).toNat : Nat) : Int) = r.fmod m by omega] at hat
    generalize ys[(r.fmod m).toNat] = vk at hyk hat
    have hvk := hrow _ _ hyk
    obtain ⟨b, zs, rfl, nb, nbD, hb, hbl, hbf⟩ := hvk
    have hbn := hfr _ _ hyk
    have nbL : b ≠ L := (ne_of_none hL hbn).symm
    have nba : b ≠ a := (ne_of_none ha hbn).symm
    clear k1 k3
    refine ⟨_, rfl, _, rfl, _, _, _, _, rfl, rfl, SqL.of bd.rows, hat, .inl ⟨rfl, _, SqL.of hb⟩, sz60' (by show 2 ≤ 60; decide), fun p1 hp => ?_⟩
    have es := same_new hp (.tup [.int 1, .int 2])
    have h1 : upd H3 p1 (.tup [.int 1, .int 2]) p1 = some (.tup [.int 1, .int 2]) := upd_same
    generalize upd H3 p1 (.tup [.int 1, .int 2]) = H4 at es h1
    have bd := bd.same es
    have hrow : ∀ (j : Nat) v, ys[j]? = some v → RowV H4 l D j v := fun j v hv => (hrow j v hv).same es
    have hb := es _ _ hb
    have hbf : ∀ x ∈ zs, FrV H4 x := fun x hx => (hbf x hx).same es
    clear es
    have hp1 : FrV H4 (.ref p1) := ⟨p1, 1, 2, rfl, h1, by decide⟩
    obtain ⟨y4, hl4⟩ := bd.pile
    refine ⟨b, zs, _, rfl, rfl, hb, sz60 (n := 60) (by omega) (by decide), hnx _ _ ⟨rfl, bd.rowTo hbn nb nbD nbL nba hb, fun j v hv => ?_⟩⟩
    have hj := (List.getElem?_eq_some_iff.mp hv).1
    obtain ⟨qz, k1, k2⟩ := frs_dt (H := upd H4 b (.lst (zs ++ [.ref p1]))) (xs := zs ++ [.ref p1]) (by rw [upd_ne nb.symm]; exact hl4) fun x hx => by
      rcases List.mem_append.mp hx with hx | hx
      · exact (hbf x hx).but .upd hb
      · rw [List.mem_singleton.mp hx]; exact hp1.but .upd hb
    exact row_mut hl4 hb nb (by omega) (hrow j v hv) k1 (frs_sm k2) (by rw [List.length_append]; show zs.length + 1 ≤ 60; omega)
  rintro σ' H3 ⟨rfl, bd, hS⟩
  refine ⟨_, rfl, _, rfl, _, _, _, _, rfl, rfl, SqT.of bd.tab, rfl, L, ws, rfl, .inl (SqL.of bd.last), fun p hp => ?_⟩
  have es := same_new hp (.lst ws)
  have hp2 : upd H3 p (.lst ws) p = some (.lst ws) := upd_same
  have np : p ≠ l := let ⟨y, hy⟩ := bd.pile; (ne_of_none hy hp).symm
  generalize upd H3 p (.lst ws) = H4 at es hp2
  have bd := bd.same es
  have hS : ∀ v ∈ ys, RowS H4 l D v := fun v hv => by
    obtain ⟨j, hj⟩ := List.getElem?_of_mem hv
    exact (hS j v hj).same es
  clear es
  refine ⟨sz60' (show 2 ≤ 60 by decide), fun t ht => ?_⟩
  have et := same_new ht (.tup [V.ref D, V.ref p])
  have ht2 : upd H4 t (.tup [V.ref D, V.ref p]) t = some (.tup [V.ref D, V.ref p]) := upd_same
  have nt : t ≠ l := let ⟨y, hy⟩ := bd.pile; (ne_of_none hy ht).symm
  generalize upd H4 t (.tup [V.ref D, V.ref p]) = H5 at et ht2
  have bd := bd.same et
  have hS : ∀ v ∈ ys, RowS H5 l D v := fun v hv => (hS v hv).same et
  have hp2 := et _ _ hp2
  clear et
  obtain ⟨rr, k1, k2⟩ := rowsS_dt hS
  obtain ⟨y, hy⟩ := bd.pile
  obtain ⟨qs, k3, k4⟩ := frs_dt hy bd.fr
  refine q (.ref t) H5 y (.tuple [.list rr, .list qs]) bd.tr hy (.tup nt ht2 (.cons (.lst nD bd.rows k1) (.cons (.lst np hp2 k3) .nil))) ⟨rr, qs, rfl, ?_, ?_, k2, frs_sm k4⟩
  · rw [← k1.len]; omega
  · rw [← k3.len]; omega
end
theorem many3 (ns : List Int) : ∃ many : Nat, many ≤ 3 ∧ (if (1 : Int) > (if (3 : Int) < (((ns.map V.int).length : Nat) : Int) then 3 else (((ns.map V.int).length : Nat) : Int)) then 1 else (if (3 : Int) < (((ns.map V.int).length : Nat) : Int) then 3 else (((ns.map V.int).length : Nat) : Int))) = (many : Int) := by
  refine ⟨(if (1 : Int) > (if (3 : Int) < (((ns.map V.int).length : Nat) : Int) then 3 else (((ns.map V.int).length : Nat) : Int)) then 1 else (if (3 : Int) < (((ns.map V.int).length : Nat) : Int) then 3 else (((ns.map V.int).length : Nat) : Int))).toNat, ?_, ?_⟩
  · split <;> split <;> omega
  · split <;> split <;> omega
def spLaw (K : PySem.W.Frag) : Sp := fun vs H Q _ => ∃ (a : Addr) (ns : List Int), vs = [.ref a] ∧ SqL K H a (ns.map V.int) ∧ ns.length ≤ 63 ∧ ∀ H', Q (.bl true) H'
section
variable {P : Program} {w : World} {K : PySem.W.Frag} {mg : Str → Option Value} {base : Heap} {f g g1 g2 g3 g4 g5 g6 g7 : Addr} {fd gd gd1 gd2 gd3 gd4 gd5 gd6 gd7 : FuncData}
theorem sc_law : FnScope ["_law_script", "_law_k", "_law_pile_here", "_law_parts", "_law_size"] ["_law_script"] (defScope s_law) := ⟨rfl, rfl, rfl, by decide +kernel, rfl, by decide +kernel, by decide +kernel⟩
theorem ok_law (F : Fn K mg "law" s_law ["_law_script"] f fd) (T__law_pile : Fn K mg "_law_pile" s__law_pile ["_law_script", "_law_k"] g1 gd1) (T__law_part : Fn K mg "_law_part" s__law_part ["_law_pile_here"] g2 gd2) (T__law_take : Fn K mg "_law_take" s__law_take ["_law_pile_here", "_law_size"] g3 gd3) (T_is_table : Fn K mg "is_table" s_is_table ["thing"] g4 gd4) (T__law_good : Fn K mg "_law_good" s__law_good ["_law_table"] g5 gd5) (T__law_bent : Fn K mg "_law_bent" s__law_bent ["_law_table", "_law_pile_here"] g6 gd6) (T__law_long : Fn K mg "_law_long" s__law_long ["_law_size", "_law_parts"] g7 gd7)
    (G__law_pile : FnOk P w K mg base CX0 7 g1 gd1 ["_law_script", "_law_k"] (spPile K)) (G__law_part : FnOk P w K mg base CX0 7 g2 gd2 ["_law_pile_here"] spPartD) (G__law_take : FnOk P w K mg base CX0 7 g3 gd3 ["_law_pile_here", "_law_size"] spTake) (G_is_table : FnOk P w K mg base CX0 7 g4 gd4 ["thing"] spIsTab) (G__law_good : FnOk P w K mg base CX0 7 g5 gd5 ["_law_table"] spGoodT) (G__law_bent : FnOk P w K mg base CX0 7 g6 gd6 ["_law_table", "_law_pile_here"] spBentT) (G__law_long : FnOk P w K mg base CX0 7 g7 gd7 ["_law_size", "_law_parts"] spLong)
    (z_len : mg "len" = none) (z_range : mg "range" = none) (z_max : mg "max" = none) (z_min : mg "min" = none) : FnOk P w K mg base CX0 8 f fd ["_law_script"] (spLaw K) := by
  have sc := sc_law
  refine F.F.ok (k := 7) sc (fun vs H Q E h => ?_) (fun cdv A outer s H vs Q E hr h => ?_)
  · obtain ⟨a, ns, rfl, _⟩ := h
    rfl
  obtain ⟨a, ns, rfl, hS, h63, q⟩ := h
  refine ⟨_, (pss_cons (ps_for PassesOwn.never rfl (pi_range1 rfl z_range (pa_cons (pe_callB (call_max2 rfl) rfl z_max PyProof.Rows.boot_max (pa_cons (pe_callB (call_min2 rfl) rfl z_min PyProof.Rows.boot_min (pa_cons (pe_callB call_len_seq rfl z_len PySem.boot_len (pa_cons (pv 0) pa_nil)) (pa_cons pe_int pa_nil))) (pa_cons pe_int pa_nil))) pa_nil)) (pg_name (i := 1) sc.nd rfl (Or.inl rfl))
    (pss_cons (ps_set (i := 2) sc.nd rfl (Or.inr rfl) (pe_fn T__law_pile G__law_pile hr rfl (pa_cons (pv 0) (pa_cons (pv 1) pa_nil))))
    (pss_cons (ps_setCompr (i := 3) [".0", "_law_j", "_law_pile_here"] 1 [none, none, some 2] sc.nd rfl rfl (pi_range1 rfl z_range (pa_cons pe_int pa_nil)) (fun _ _ _ _ _ => pif_nil) (fun _ _ _ _ _ => (pe_fn T__law_part G__law_part hr rfl (pa_cons (pv 2) pa_nil))))
    (pss_one (ps_for PassesOwn.never rfl (pi_list (pe_lst (pa_cons (pe_op op_add pe_int (pe_fn T__law_take G__law_take hr rfl (pa_cons (pv 2) (pa_cons pe_int pa_nil)))) (pa_cons pe_int (pa_cons pe_int (pa_cons pe_int (pa_cons pe_int pa_nil))))))) (pg_name (i := 4) sc.nd rfl (Or.inl rfl))
      (pss_one (ps_if (pt_not (pt_val (pe_fn T__law_good G__law_good hr rfl (pa_cons (pe_fn T__law_bent G__law_bent hr rfl (pa_cons (pe_fn T__law_long G__law_long hr rfl (pa_cons (pv 4) (pa_cons (pv 3) pa_nil))) (pa_cons (pv 2) pa_nil))) pa_nil))))
        (pss_one (ps_ret pe_bl))
        pss_nil)))))))
  (pss_one (ps_ret (pe_and (pe_cmpR op_isB (pe_fn T_is_table G_is_table hr rfl (pa_cons (pe_fn T__law_long G__law_long hr rfl (pa_cons pe_int (pa_cons (pe_op op_rep (pe_lst (pa_cons (pe_tup (pa_cons pe_int (pa_cons pe_int pa_nil))) pa_nil)) pe_int) pa_nil))) pa_nil)) pe_bl (nomark _)) (pe_one (pe_cmpR op_isB (pe_fn T_is_table G_is_table hr rfl (pa_cons (pe_fn T__law_long G__law_long hr rfl (pa_cons pe_int (pa_cons (pe_op op_rep (pe_lst (pa_cons (pe_tup (pa_cons pe_int (pa_cons pe_int pa_nil))) pa_nil)) pe_int) pa_nil))) pa_nil)) pe_bl (nomark _))))))), ?_⟩
  obtain ⟨many, hmany, e2⟩ := many3 ns
  refine ⟨_, rfl, a, _, rfl, .inl hS, _, _, rfl, _, _, rfl, (many : Int), ?_, by omega, by omega, ?_⟩
  · exact congrArg (fun z => [V.int z]) e2
  rw [Int.toNat_natCast]
  refine for_range (n := many) (fun i σ H' => ∃ (r1 r2 r3 r4 : Option V), σ = [some (.ref a), r1, r2, r3, r4] ∧ SqL K H' a (ns.map V.int)) ?_ ?_ ?_
  · exact ⟨_, _, _, _, rfl, hS⟩
  · rintro i σ H0 hi ⟨r1, r2, r3, r4, rfl, hS0⟩
    refine ⟨_, rfl, _, rfl, a, ns, _, rfl, hS0, by omega, fun l H1 y1 e1 n1 t1 => ?_⟩
    refine ⟨5, rfl, by decide, by decide, fun D hD => comp_by (n := 5) (DrawnR l H1) ?_ ?_ ?_⟩
    · exact ⟨.of (same_new hD _), ⟨y1, same_new hD _ _ _ t1⟩, rfl, fun _ z => (List.not_mem_nil z).elim⟩
    · rintro j ys H2 hj h0 hD0
      refine ⟨hj, sz60 (n := 6) (by rw [h0.2.2.1]; omega) (by decide), fun x H' y => ?_⟩
      obtain ⟨rfl, rfl⟩ := y
      obtain ⟨yy, hy⟩ := h0.2.1
      unfold tNoIf
      refine iteT ⟨_, rfl, l, yy, rfl, hy, fun v H3 y3 e3 h3 f3 => ?_⟩
      obtain ⟨k1, k2⟩ := drawn_step t1 hD h0 hD0 e3 h3 f3
      exact ⟨k1, cw_next hj k2⟩
    · rintro ps H2 ⟨e2, ⟨y2, t2⟩, hpl, hpf⟩ hD2
      refine ⟨Nat.le_refl _, ?_⟩
      have nD : D ≠ l := (ne_of_none t1 hD).symm
      refine ⟨_, rfl, l, y2, 42, rfl, t2, by decide, by decide, fun r y3 r0 r1' => ⟨_, _, rfl, rfl, ?_⟩⟩
      have e3 : SameBut l H1 (upd H2 l (.lst [.int y3])) := e2.trans .upd
      have t3 : (upd H2 l (.lst [.int y3])) l = some (.lst [.int y3]) := upd_same
      have hD3 : (upd H2 l (.lst [.int y3])) D = some (.lst ps) := by rw [upd_ne nD]; exact hD2
      have hpf3 : ∀ x ∈ ps, FrV (upd H2 l (.lst [.int y3])) x := fun x hx => (hpf x hx).but .upd t2
      generalize upd H2 l (.lst [.int y3]) = H3 at e3 t3 hD3 hpf3
      refine ⟨sz60' (show 5 ≤ 60 by decide), fun C hp => ?_⟩
      have es := same_new hp (.lst [V.int (1 + r), .int 39, .int 40, .int 41, .int 0])
      have hC : upd H3 C (.lst [V.int (1 + r), .int 39, .int 40, .int 41, .int 0]) C = some (.lst [V.int (1 + r), .int 39, .int 40, .int 41, .int 0]) := upd_same
      have nC : C ≠ l := (ne_of_none t3 hp).symm
      generalize upd H3 C (.lst [V.int (1 + r), .int 39, .int 40, .int 41, .int 0]) = H4 at es hC
      have e4 := e3.trans (.of es)
      have t4 := es _ _ t3
      have hD4 := es _ _ hD3
      have hpf4 : ∀ x ∈ ps, FrV H4 x := fun x hx => (hpf3 x hx).same es
      clear es e3 t3 hD3 hpf3 hpf t2 hD2 e2
      refine ⟨C, rfl, ⟨_, SqL.of hC⟩, for_list (xs := [V.int (1 + r), .int 39, .int 40, .int 41, .int 0]) (fun _ σ H' => ∃ r4, σ = [some (.ref a), some (.int (0 + (i : Nat))), some (.ref l), some (.ref D), r4] ∧ SameBut l H1 H' ∧ (∃ y, H' l = some (.lst [.int y])) ∧ H' D = some (.lst ps) ∧ (∀ x ∈ ps, FrV H' x) ∧ H' C = some (.lst [V.int (1 + r), .int 39, .int 40, .int 41, .int 0])) ?_ ?_ ?_ ?_⟩
      · exact ⟨_, rfl, e4, ⟨_, t4⟩, hD4, hpf4, hC⟩
      · rintro j σ H' _ ⟨r4, rfl, _, _, _, _, hC⟩
        exact SqL.of hC
      · rintro j v σ H5 hv ⟨r4, rfl, e5, ⟨y5, t5⟩, hD5, hpf5, hC5⟩
        obtain ⟨n, rfl, hn⟩ : ∃ n : Nat, v = .int n ∧ n ≤ 42 := by
          have hm := List.mem_of_getElem? hv
          simp only [List.mem_cons, List.not_mem_nil, or_false] at hm
          rcases hm with rfl | rfl | rfl | rfl | rfl
          · exact ⟨(1 + r).toNat, by rw [show (((1 + r).toNat : Nat) : Int) = 1 + r by omega], by omega⟩
          · exact ⟨39, rfl, by decide⟩
          · exact ⟨40, rfl, by decide⟩
          · exact ⟨41, rfl, by decide⟩
          · exact ⟨0, rfl, by decide⟩
        refine ⟨_, rfl, _, rfl, l, D, _, ps, n, rfl, hn, t5, hD5, hpl, hpf5, fun u H6 d e6 ok dt => ?_⟩
        refine ⟨_, rfl, l, _, d, u, n, rfl, e6 _ _ t5, dt, ok, hn, fun u' H7 y7 d' e7 t7 dt' sh => ?_⟩
        refine ⟨l, _, d', u', rfl, t7, dt', sh, fun H8 e8 => ⟨_, rfl, iteF ?_⟩⟩
        exact ⟨_, rfl, (e5.trans (.of e6)).trans (e7.trans (.of e8)), ⟨_, e8 _ _ t7⟩, e8 _ _ (e7 _ _ nD (e6 _ _ hD5)), fun x hx => (((hpf5 x hx).same e6).but e7 (e6 _ _ t5)).same e8, e8 _ _ (e7 _ _ nC (e6 _ _ hC5))⟩
      · rintro σ H5 ⟨r4, rfl, e5, _, _, _, _⟩
        exact ⟨_, _, _, _, rfl, (e1.but e5 n1).seq hS0⟩
  · rintro σ H0 ⟨r1, r2, r3, r4, rfl, hS0⟩
    have five : ∀ (p1 p2 p3 : Addr) (H : Hp), H p1 = some (.tup [.int 1, .int 1]) → ∀ x ∈ (List.replicate (5 : Int).toNat [V.ref p1]).flatten, FrV H x := fun p1 p2 p3 H h x hx => by
      have e : (List.replicate (5 : Int).toNat [V.ref p1]).flatten = [V.ref p1, V.ref p1, V.ref p1, V.ref p1, V.ref p1] := rfl
      rw [e] at hx
      simp only [List.mem_cons, List.not_mem_nil, or_false] at hx
      have : x = .ref p1 := by rcases hx with h | h | h | h | h <;> exact h
      subst this
      exact ⟨p1, 1, 1, rfl, h, by decide⟩
    refine ⟨sz60' (show 2 ≤ 60 by decide), fun p1 hp => ?_⟩
    have h1 : upd H0 p1 (.tup [.int 1, .int 1]) p1 = some (.tup [.int 1, .int 1]) := upd_same
    generalize upd H0 p1 (.tup [.int 1, .int 1]) = H1 at h1
    refine ⟨sz60' (show 1 ≤ 60 by decide), fun p2 hp => ?_⟩
    have es := same_new hp (.lst [V.ref p1])
    have h2 : upd H1 p2 (.lst [V.ref p1]) p2 = some (.lst [V.ref p1]) := upd_same
    generalize upd H1 p2 (.lst [V.ref p1]) = H2 at es h2
    have h1 := es _ _ h1
    refine ⟨p2, 5, _, rfl, rfl, h2, by decide, by decide, sz60' (show 5 ≤ 60 by decide), fun p3 hp => ?_⟩
    have es := same_new hp (.lst (List.replicate (5 : Int).toNat [V.ref p1]).flatten)
    have h3 : upd H2 p3 (.lst (List.replicate (5 : Int).toNat [V.ref p1]).flatten) p3 = some (.lst (List.replicate (5 : Int).toNat [V.ref p1]).flatten) := upd_same
    generalize upd H2 p3 (.lst (List.replicate (5 : Int).toNat [V.ref p1]).flatten) = H3 at es h3
    have h1 := es _ _ h1
    refine ⟨p3, p3, _, _, 40, rfl, by decide, h3, h3, rfl, five p1 p2 p3 H3 h1, fun v H4 d e4 ok dt => ?_⟩
    refine ⟨p3, d, v, rfl, dt, fun H5 e5 => ⟨_, _, rfl, rfl, _, rfl, ?_⟩⟩
    rw [(ok.tab (by decide)).is (by decide)]
    refine iteT ?_
    refine ⟨sz60' (show 2 ≤ 60 by decide), fun p1 hp => ?_⟩
    have h1 : upd H5 p1 (.tup [.int 1, .int 1]) p1 = some (.tup [.int 1, .int 1]) := upd_same
    generalize upd H5 p1 (.tup [.int 1, .int 1]) = H1 at h1
    refine ⟨sz60' (show 1 ≤ 60 by decide), fun p2 hp => ?_⟩
    have es := same_new hp (.lst [V.ref p1])
    have h2 : upd H1 p2 (.lst [V.ref p1]) p2 = some (.lst [V.ref p1]) := upd_same
    generalize upd H1 p2 (.lst [V.ref p1]) = H2 at es h2
    have h1 := es _ _ h1
    refine ⟨p2, 5, _, rfl, rfl, h2, by decide, by decide, sz60' (show 5 ≤ 60 by decide), fun p3 hp => ?_⟩
    have es := same_new hp (.lst (List.replicate (5 : Int).toNat [V.ref p1]).flatten)
    have h3 : upd H2 p3 (.lst (List.replicate (5 : Int).toNat [V.ref p1]).flatten) p3 = some (.lst (List.replicate (5 : Int).toNat [V.ref p1]).flatten) := upd_same
    generalize upd H2 p3 (.lst (List.replicate (5 : Int).toNat [V.ref p1]).flatten) = H3 at es h3
    have h1 := es _ _ h1
    refine ⟨p3, p3, _, _, 41, rfl, by decide, h3, h3, rfl, five p1 p2 p3 H3 h1, fun v H4 d e4 ok dt => ?_⟩
    refine ⟨p3, d, v, rfl, dt, fun H5 e5 => ⟨_, _, rfl, rfl, ?_⟩⟩
    rw [ok.no (by decide)]
    exact q _
end
set_option maxHeartbeats 4000000 in
theorem all_mk {l : PySem.W.OpenLaw} {w : World} {K : PySem.W.Frag} {h : Heap} {mg : Str → Option Value} {fa f_is_fraction f_are_fractions f_is_whole f_greatest_divisor f_is_table f_are_rows f__law_mixed f__law_pile f__law_take f__law_shared f__law_frac f__law_whole f__law_part f__law_is_fraction f__law_are f__law_is_table f__law_long f__law_bent f__law_good f_law : Addr} (X : K.In h) (G : h.Ns mainGlobals mg) (hfa : mg "law" = some (.ref fa))
    {od_is_fraction an_is_fraction : Option Addr} {sl_is_fraction : Array (Option Value)} {oc_is_fraction kV_is_fraction dc_is_fraction pm_is_fraction cd_is_fraction ct_is_fraction : Value}
    (a_is_fraction : PySem.W.nsIn K mainGlobals "is_fraction" = some (some (.ref f_is_fraction))) (l_is_fraction : K.lookup f_is_fraction = some ⟨oc_is_fraction, od_is_fraction, .func (PySem.W.fnOf "is_fraction" "is_fraction" (defArgs s_is_fraction) (defBody s_is_fraction) (defScope s_is_fraction) .none kV_is_fraction dc_is_fraction pm_is_fraction an_is_fraction cd_is_fraction ct_is_fraction), sl_is_fraction⟩) (c_is_fraction : PySem.W.codeIn K cd_is_fraction "is_fraction" = true) (k_is_fraction : PySem.W.keepIn K (.ref f_is_fraction) = true)
    {od_are_fractions an_are_fractions : Option Addr} {sl_are_fractions : Array (Option Value)} {oc_are_fractions kV_are_fractions dc_are_fractions pm_are_fractions cd_are_fractions ct_are_fractions : Value}
    (a_are_fractions : PySem.W.nsIn K mainGlobals "are_fractions" = some (some (.ref f_are_fractions))) (l_are_fractions : K.lookup f_are_fractions = some ⟨oc_are_fractions, od_are_fractions, .func (PySem.W.fnOf "are_fractions" "are_fractions" (defArgs s_are_fractions) (defBody s_are_fractions) (defScope s_are_fractions) .none kV_are_fractions dc_are_fractions pm_are_fractions an_are_fractions cd_are_fractions ct_are_fractions), sl_are_fractions⟩) (c_are_fractions : PySem.W.codeIn K cd_are_fractions "are_fractions" = true) (k_are_fractions : PySem.W.keepIn K (.ref f_are_fractions) = true)
    {od_is_whole an_is_whole : Option Addr} {sl_is_whole : Array (Option Value)} {oc_is_whole kV_is_whole dc_is_whole pm_is_whole cd_is_whole ct_is_whole : Value}
    (a_is_whole : PySem.W.nsIn K mainGlobals "is_whole" = some (some (.ref f_is_whole))) (l_is_whole : K.lookup f_is_whole = some ⟨oc_is_whole, od_is_whole, .func (PySem.W.fnOf "is_whole" "is_whole" (defArgs s_is_whole) (defBody s_is_whole) (defScope s_is_whole) .none kV_is_whole dc_is_whole pm_is_whole an_is_whole cd_is_whole ct_is_whole), sl_is_whole⟩) (c_is_whole : PySem.W.codeIn K cd_is_whole "is_whole" = true) (k_is_whole : PySem.W.keepIn K (.ref f_is_whole) = true)
    {od_greatest_divisor an_greatest_divisor : Option Addr} {sl_greatest_divisor : Array (Option Value)} {oc_greatest_divisor kV_greatest_divisor dc_greatest_divisor pm_greatest_divisor cd_greatest_divisor ct_greatest_divisor : Value}
    (a_greatest_divisor : PySem.W.nsIn K mainGlobals "greatest_divisor" = some (some (.ref f_greatest_divisor))) (l_greatest_divisor : K.lookup f_greatest_divisor = some ⟨oc_greatest_divisor, od_greatest_divisor, .func (PySem.W.fnOf "greatest_divisor" "greatest_divisor" (defArgs s_greatest_divisor) (defBody s_greatest_divisor) (defScope s_greatest_divisor) .none kV_greatest_divisor dc_greatest_divisor pm_greatest_divisor an_greatest_divisor cd_greatest_divisor ct_greatest_divisor), sl_greatest_divisor⟩) (c_greatest_divisor : PySem.W.codeIn K cd_greatest_divisor "greatest_divisor" = true) (k_greatest_divisor : PySem.W.keepIn K (.ref f_greatest_divisor) = true)
    {od_is_table an_is_table : Option Addr} {sl_is_table : Array (Option Value)} {oc_is_table kV_is_table dc_is_table pm_is_table cd_is_table ct_is_table : Value}
    (a_is_table : PySem.W.nsIn K mainGlobals "is_table" = some (some (.ref f_is_table))) (l_is_table : K.lookup f_is_table = some ⟨oc_is_table, od_is_table, .func (PySem.W.fnOf "is_table" "is_table" (defArgs s_is_table) (defBody s_is_table) (defScope s_is_table) .none kV_is_table dc_is_table pm_is_table an_is_table cd_is_table ct_is_table), sl_is_table⟩) (c_is_table : PySem.W.codeIn K cd_is_table "is_table" = true) (k_is_table : PySem.W.keepIn K (.ref f_is_table) = true)
    {od_are_rows an_are_rows : Option Addr} {sl_are_rows : Array (Option Value)} {oc_are_rows kV_are_rows dc_are_rows pm_are_rows cd_are_rows ct_are_rows : Value}
    (a_are_rows : PySem.W.nsIn K mainGlobals "are_rows" = some (some (.ref f_are_rows))) (l_are_rows : K.lookup f_are_rows = some ⟨oc_are_rows, od_are_rows, .func (PySem.W.fnOf "are_rows" "are_rows" (defArgs s_are_rows) (defBody s_are_rows) (defScope s_are_rows) .none kV_are_rows dc_are_rows pm_are_rows an_are_rows cd_are_rows ct_are_rows), sl_are_rows⟩) (c_are_rows : PySem.W.codeIn K cd_are_rows "are_rows" = true) (k_are_rows : PySem.W.keepIn K (.ref f_are_rows) = true)
    {od__law_mixed an__law_mixed : Option Addr} {sl__law_mixed : Array (Option Value)} {oc__law_mixed kV__law_mixed dc__law_mixed pm__law_mixed cd__law_mixed ct__law_mixed : Value}
    (a__law_mixed : PySem.W.nsIn K mainGlobals "_law_mixed" = some (some (.ref f__law_mixed))) (l__law_mixed : K.lookup f__law_mixed = some ⟨oc__law_mixed, od__law_mixed, .func (PySem.W.fnOf "_law_mixed" "_law_mixed" (defArgs s__law_mixed) (defBody s__law_mixed) (defScope s__law_mixed) .none kV__law_mixed dc__law_mixed pm__law_mixed an__law_mixed cd__law_mixed ct__law_mixed), sl__law_mixed⟩) (c__law_mixed : PySem.W.codeIn K cd__law_mixed "_law_mixed" = true) (k__law_mixed : PySem.W.keepIn K (.ref f__law_mixed) = true)
    {od__law_pile an__law_pile : Option Addr} {sl__law_pile : Array (Option Value)} {oc__law_pile kV__law_pile dc__law_pile pm__law_pile cd__law_pile ct__law_pile : Value}
    (a__law_pile : PySem.W.nsIn K mainGlobals "_law_pile" = some (some (.ref f__law_pile))) (l__law_pile : K.lookup f__law_pile = some ⟨oc__law_pile, od__law_pile, .func (PySem.W.fnOf "_law_pile" "_law_pile" (defArgs s__law_pile) (defBody s__law_pile) (defScope s__law_pile) .none kV__law_pile dc__law_pile pm__law_pile an__law_pile cd__law_pile ct__law_pile), sl__law_pile⟩) (c__law_pile : PySem.W.codeIn K cd__law_pile "_law_pile" = true) (k__law_pile : PySem.W.keepIn K (.ref f__law_pile) = true)
    {od__law_take an__law_take : Option Addr} {sl__law_take : Array (Option Value)} {oc__law_take kV__law_take dc__law_take pm__law_take cd__law_take ct__law_take : Value}
    (a__law_take : PySem.W.nsIn K mainGlobals "_law_take" = some (some (.ref f__law_take))) (l__law_take : K.lookup f__law_take = some ⟨oc__law_take, od__law_take, .func (PySem.W.fnOf "_law_take" "_law_take" (defArgs s__law_take) (defBody s__law_take) (defScope s__law_take) .none kV__law_take dc__law_take pm__law_take an__law_take cd__law_take ct__law_take), sl__law_take⟩) (c__law_take : PySem.W.codeIn K cd__law_take "_law_take" = true) (k__law_take : PySem.W.keepIn K (.ref f__law_take) = true)
    {od__law_shared an__law_shared : Option Addr} {sl__law_shared : Array (Option Value)} {oc__law_shared kV__law_shared dc__law_shared pm__law_shared cd__law_shared ct__law_shared : Value}
    (a__law_shared : PySem.W.nsIn K mainGlobals "_law_shared" = some (some (.ref f__law_shared))) (l__law_shared : K.lookup f__law_shared = some ⟨oc__law_shared, od__law_shared, .func (PySem.W.fnOf "_law_shared" "_law_shared" (defArgs s__law_shared) (defBody s__law_shared) (defScope s__law_shared) .none kV__law_shared dc__law_shared pm__law_shared an__law_shared cd__law_shared ct__law_shared), sl__law_shared⟩) (c__law_shared : PySem.W.codeIn K cd__law_shared "_law_shared" = true) (k__law_shared : PySem.W.keepIn K (.ref f__law_shared) = true)
    {od__law_frac an__law_frac : Option Addr} {sl__law_frac : Array (Option Value)} {oc__law_frac kV__law_frac dc__law_frac pm__law_frac cd__law_frac ct__law_frac : Value}
    (a__law_frac : PySem.W.nsIn K mainGlobals "_law_frac" = some (some (.ref f__law_frac))) (l__law_frac : K.lookup f__law_frac = some ⟨oc__law_frac, od__law_frac, .func (PySem.W.fnOf "_law_frac" "_law_frac" (defArgs s__law_frac) (defBody s__law_frac) (defScope s__law_frac) .none kV__law_frac dc__law_frac pm__law_frac an__law_frac cd__law_frac ct__law_frac), sl__law_frac⟩) (c__law_frac : PySem.W.codeIn K cd__law_frac "_law_frac" = true) (k__law_frac : PySem.W.keepIn K (.ref f__law_frac) = true)
    {od__law_whole an__law_whole : Option Addr} {sl__law_whole : Array (Option Value)} {oc__law_whole kV__law_whole dc__law_whole pm__law_whole cd__law_whole ct__law_whole : Value}
    (a__law_whole : PySem.W.nsIn K mainGlobals "_law_whole" = some (some (.ref f__law_whole))) (l__law_whole : K.lookup f__law_whole = some ⟨oc__law_whole, od__law_whole, .func (PySem.W.fnOf "_law_whole" "_law_whole" (defArgs s__law_whole) (defBody s__law_whole) (defScope s__law_whole) .none kV__law_whole dc__law_whole pm__law_whole an__law_whole cd__law_whole ct__law_whole), sl__law_whole⟩) (c__law_whole : PySem.W.codeIn K cd__law_whole "_law_whole" = true) (k__law_whole : PySem.W.keepIn K (.ref f__law_whole) = true)
    {od__law_part an__law_part : Option Addr} {sl__law_part : Array (Option Value)} {oc__law_part kV__law_part dc__law_part pm__law_part cd__law_part ct__law_part : Value}
    (a__law_part : PySem.W.nsIn K mainGlobals "_law_part" = some (some (.ref f__law_part))) (l__law_part : K.lookup f__law_part = some ⟨oc__law_part, od__law_part, .func (PySem.W.fnOf "_law_part" "_law_part" (defArgs s__law_part) (defBody s__law_part) (defScope s__law_part) .none kV__law_part dc__law_part pm__law_part an__law_part cd__law_part ct__law_part), sl__law_part⟩) (c__law_part : PySem.W.codeIn K cd__law_part "_law_part" = true) (k__law_part : PySem.W.keepIn K (.ref f__law_part) = true)
    {od__law_is_fraction an__law_is_fraction : Option Addr} {sl__law_is_fraction : Array (Option Value)} {oc__law_is_fraction kV__law_is_fraction dc__law_is_fraction pm__law_is_fraction cd__law_is_fraction ct__law_is_fraction : Value}
    (a__law_is_fraction : PySem.W.nsIn K mainGlobals "_law_is_fraction" = some (some (.ref f__law_is_fraction))) (l__law_is_fraction : K.lookup f__law_is_fraction = some ⟨oc__law_is_fraction, od__law_is_fraction, .func (PySem.W.fnOf "_law_is_fraction" "_law_is_fraction" (defArgs s__law_is_fraction) (defBody s__law_is_fraction) (defScope s__law_is_fraction) .none kV__law_is_fraction dc__law_is_fraction pm__law_is_fraction an__law_is_fraction cd__law_is_fraction ct__law_is_fraction), sl__law_is_fraction⟩) (c__law_is_fraction : PySem.W.codeIn K cd__law_is_fraction "_law_is_fraction" = true) (k__law_is_fraction : PySem.W.keepIn K (.ref f__law_is_fraction) = true)
    {od__law_are an__law_are : Option Addr} {sl__law_are : Array (Option Value)} {oc__law_are kV__law_are dc__law_are pm__law_are cd__law_are ct__law_are : Value}
    (a__law_are : PySem.W.nsIn K mainGlobals "_law_are" = some (some (.ref f__law_are))) (l__law_are : K.lookup f__law_are = some ⟨oc__law_are, od__law_are, .func (PySem.W.fnOf "_law_are" "_law_are" (defArgs s__law_are) (defBody s__law_are) (defScope s__law_are) .none kV__law_are dc__law_are pm__law_are an__law_are cd__law_are ct__law_are), sl__law_are⟩) (c__law_are : PySem.W.codeIn K cd__law_are "_law_are" = true) (k__law_are : PySem.W.keepIn K (.ref f__law_are) = true)
    {od__law_is_table an__law_is_table : Option Addr} {sl__law_is_table : Array (Option Value)} {oc__law_is_table kV__law_is_table dc__law_is_table pm__law_is_table cd__law_is_table ct__law_is_table : Value}
    (a__law_is_table : PySem.W.nsIn K mainGlobals "_law_is_table" = some (some (.ref f__law_is_table))) (l__law_is_table : K.lookup f__law_is_table = some ⟨oc__law_is_table, od__law_is_table, .func (PySem.W.fnOf "_law_is_table" "_law_is_table" (defArgs s__law_is_table) (defBody s__law_is_table) (defScope s__law_is_table) .none kV__law_is_table dc__law_is_table pm__law_is_table an__law_is_table cd__law_is_table ct__law_is_table), sl__law_is_table⟩) (c__law_is_table : PySem.W.codeIn K cd__law_is_table "_law_is_table" = true) (k__law_is_table : PySem.W.keepIn K (.ref f__law_is_table) = true)
    {od__law_long an__law_long : Option Addr} {sl__law_long : Array (Option Value)} {oc__law_long kV__law_long dc__law_long pm__law_long cd__law_long ct__law_long : Value}
    (a__law_long : PySem.W.nsIn K mainGlobals "_law_long" = some (some (.ref f__law_long))) (l__law_long : K.lookup f__law_long = some ⟨oc__law_long, od__law_long, .func (PySem.W.fnOf "_law_long" "_law_long" (defArgs s__law_long) (defBody s__law_long) (defScope s__law_long) .none kV__law_long dc__law_long pm__law_long an__law_long cd__law_long ct__law_long), sl__law_long⟩) (c__law_long : PySem.W.codeIn K cd__law_long "_law_long" = true) (k__law_long : PySem.W.keepIn K (.ref f__law_long) = true)
    {od__law_bent an__law_bent : Option Addr} {sl__law_bent : Array (Option Value)} {oc__law_bent kV__law_bent dc__law_bent pm__law_bent cd__law_bent ct__law_bent : Value}
    (a__law_bent : PySem.W.nsIn K mainGlobals "_law_bent" = some (some (.ref f__law_bent))) (l__law_bent : K.lookup f__law_bent = some ⟨oc__law_bent, od__law_bent, .func (PySem.W.fnOf "_law_bent" "_law_bent" (defArgs s__law_bent) (defBody s__law_bent) (defScope s__law_bent) .none kV__law_bent dc__law_bent pm__law_bent an__law_bent cd__law_bent ct__law_bent), sl__law_bent⟩) (c__law_bent : PySem.W.codeIn K cd__law_bent "_law_bent" = true) (k__law_bent : PySem.W.keepIn K (.ref f__law_bent) = true)
    {od__law_good an__law_good : Option Addr} {sl__law_good : Array (Option Value)} {oc__law_good kV__law_good dc__law_good pm__law_good cd__law_good ct__law_good : Value}
    (a__law_good : PySem.W.nsIn K mainGlobals "_law_good" = some (some (.ref f__law_good))) (l__law_good : K.lookup f__law_good = some ⟨oc__law_good, od__law_good, .func (PySem.W.fnOf "_law_good" "_law_good" (defArgs s__law_good) (defBody s__law_good) (defScope s__law_good) .none kV__law_good dc__law_good pm__law_good an__law_good cd__law_good ct__law_good), sl__law_good⟩) (c__law_good : PySem.W.codeIn K cd__law_good "_law_good" = true) (k__law_good : PySem.W.keepIn K (.ref f__law_good) = true)
    {od_law an_law : Option Addr} {sl_law : Array (Option Value)} {oc_law kV_law dc_law pm_law cd_law ct_law : Value}
    (a_law : PySem.W.nsIn K mainGlobals "law" = some (some (.ref f_law))) (l_law : K.lookup f_law = some ⟨oc_law, od_law, .func (PySem.W.fnOf "law" "law" (defArgs s_law) (defBody s_law) (defScope s_law) .none kV_law dc_law pm_law an_law cd_law ct_law), sl_law⟩) (c_law : PySem.W.codeIn K cd_law "law" = true) (k_law : PySem.W.keepIn K (.ref f_law) = true)
    (y_len : PySem.W.nsIn K mainGlobals "len" = some none)
    (y_range : PySem.W.nsIn K mainGlobals "range" = some none)
    (y_max : PySem.W.nsIn K mainGlobals "max" = some none)
    (y_min : PySem.W.nsIn K mainGlobals "min" = some none)
    (y_abs : PySem.W.nsIn K mainGlobals "abs" = some none)
    (y_isinstance : PySem.W.nsIn K mainGlobals "isinstance" = some none)
    (y_int : PySem.W.nsIn K mainGlobals "int" = some none)
    (y_bool : PySem.W.nsIn K mainGlobals "bool" = some none)
    (y_tuple : PySem.W.nsIn K mainGlobals "tuple" = some none)
    (y_list : PySem.W.nsIn K mainGlobals "list" = some none)
    (y_all : PySem.W.nsIn K mainGlobals "all" = some none)
    (y_enumerate : PySem.W.nsIn K mainGlobals "enumerate" = some none)
    {tk7 : Tok} (a_MOST : PySem.W.nsIn K mainGlobals "MOST_ROWS" = some (some (.int 40 tk7)))
    : ∃ fd : FuncData, (∀ (s : Shared) (v : Value), BindsTo s fd ⟨[v], []⟩ [("_law_script", v)]) ∧ ∀ base : Heap, K.In base → base.Ns mainGlobals mg → FnOk l.prog w K mg base CX0 8 fa fd ["_law_script"] (spLaw K) := by
  have e := hfa.symm.trans (PySem.W.mg_of X G a_law)
  cases e
  have T_is_fraction : Fn K mg "is_fraction" s_is_fraction ["thing"] _ _ := ⟨fun_mk (st := s_is_fraction) l_is_fraction c_is_fraction k_is_fraction, (fun_mk (st := s_is_fraction) l_is_fraction c_is_fraction k_is_fraction).binds (ps := ["thing"]) (fun _ _ _ _ _ _ us hl => match us, hl with | [_], _ => rfl), PySem.W.mg_of X G a_is_fraction⟩
  have T_are_fractions : Fn K mg "are_fractions" s_are_fractions ["thing"] _ _ := ⟨fun_mk (st := s_are_fractions) l_are_fractions c_are_fractions k_are_fractions, (fun_mk (st := s_are_fractions) l_are_fractions c_are_fractions k_are_fractions).binds (ps := ["thing"]) (fun _ _ _ _ _ _ us hl => match us, hl with | [_], _ => rfl), PySem.W.mg_of X G a_are_fractions⟩
  have T_is_whole : Fn K mg "is_whole" s_is_whole ["thing"] _ _ := ⟨fun_mk (st := s_is_whole) l_is_whole c_is_whole k_is_whole, (fun_mk (st := s_is_whole) l_is_whole c_is_whole k_is_whole).binds (ps := ["thing"]) (fun _ _ _ _ _ _ us hl => match us, hl with | [_], _ => rfl), PySem.W.mg_of X G a_is_whole⟩
  have T_greatest_divisor : Fn K mg "greatest_divisor" s_greatest_divisor ["one", "other"] _ _ := ⟨fun_mk (st := s_greatest_divisor) l_greatest_divisor c_greatest_divisor k_greatest_divisor, (fun_mk (st := s_greatest_divisor) l_greatest_divisor c_greatest_divisor k_greatest_divisor).binds (ps := ["one", "other"]) (fun _ _ _ _ _ _ us hl => match us, hl with | [_, _], _ => rfl), PySem.W.mg_of X G a_greatest_divisor⟩
  have T_is_table : Fn K mg "is_table" s_is_table ["thing"] _ _ := ⟨fun_mk (st := s_is_table) l_is_table c_is_table k_is_table, (fun_mk (st := s_is_table) l_is_table c_is_table k_is_table).binds (ps := ["thing"]) (fun _ _ _ _ _ _ us hl => match us, hl with | [_], _ => rfl), PySem.W.mg_of X G a_is_table⟩
  have T_are_rows : Fn K mg "are_rows" s_are_rows ["thing"] _ _ := ⟨fun_mk (st := s_are_rows) l_are_rows c_are_rows k_are_rows, (fun_mk (st := s_are_rows) l_are_rows c_are_rows k_are_rows).binds (ps := ["thing"]) (fun _ _ _ _ _ _ us hl => match us, hl with | [_], _ => rfl), PySem.W.mg_of X G a_are_rows⟩
  have T__law_mixed : Fn K mg "_law_mixed" s__law_mixed ["_law_cell", "_law_k"] _ _ := ⟨fun_mk (st := s__law_mixed) l__law_mixed c__law_mixed k__law_mixed, (fun_mk (st := s__law_mixed) l__law_mixed c__law_mixed k__law_mixed).binds (ps := ["_law_cell", "_law_k"]) (fun _ _ _ _ _ _ us hl => match us, hl with | [_, _], _ => rfl), PySem.W.mg_of X G a__law_mixed⟩
  have T__law_pile : Fn K mg "_law_pile" s__law_pile ["_law_script", "_law_k"] _ _ := ⟨fun_mk (st := s__law_pile) l__law_pile c__law_pile k__law_pile, (fun_mk (st := s__law_pile) l__law_pile c__law_pile k__law_pile).binds (ps := ["_law_script", "_law_k"]) (fun _ _ _ _ _ _ us hl => match us, hl with | [_, _], _ => rfl), PySem.W.mg_of X G a__law_pile⟩
  have T__law_take : Fn K mg "_law_take" s__law_take ["_law_pile_here", "_law_size"] _ _ := ⟨fun_mk (st := s__law_take) l__law_take c__law_take k__law_take, (fun_mk (st := s__law_take) l__law_take c__law_take k__law_take).binds (ps := ["_law_pile_here", "_law_size"]) (fun _ _ _ _ _ _ us hl => match us, hl with | [_, _], _ => rfl), PySem.W.mg_of X G a__law_take⟩
  have T__law_shared : Fn K mg "_law_shared" s__law_shared ["_law_one", "_law_other"] _ _ := ⟨fun_mk (st := s__law_shared) l__law_shared c__law_shared k__law_shared, (fun_mk (st := s__law_shared) l__law_shared c__law_shared k__law_shared).binds (ps := ["_law_one", "_law_other"]) (fun _ _ _ _ _ _ us hl => match us, hl with | [_, _], _ => rfl), PySem.W.mg_of X G a__law_shared⟩
  have T__law_frac : Fn K mg "_law_frac" s__law_frac ["_law_top", "_law_bottom"] _ _ := ⟨fun_mk (st := s__law_frac) l__law_frac c__law_frac k__law_frac, (fun_mk (st := s__law_frac) l__law_frac c__law_frac k__law_frac).binds (ps := ["_law_top", "_law_bottom"]) (fun _ _ _ _ _ _ us hl => match us, hl with | [_, _], _ => rfl), PySem.W.mg_of X G a__law_frac⟩
  have T__law_whole : Fn K mg "_law_whole" s__law_whole ["_law_found"] _ _ := ⟨fun_mk (st := s__law_whole) l__law_whole c__law_whole k__law_whole, (fun_mk (st := s__law_whole) l__law_whole c__law_whole k__law_whole).binds (ps := ["_law_found"]) (fun _ _ _ _ _ _ us hl => match us, hl with | [_], _ => rfl), PySem.W.mg_of X G a__law_whole⟩
  have T__law_part : Fn K mg "_law_part" s__law_part ["_law_pile_here"] _ _ := ⟨fun_mk (st := s__law_part) l__law_part c__law_part k__law_part, (fun_mk (st := s__law_part) l__law_part c__law_part k__law_part).binds (ps := ["_law_pile_here"]) (fun _ _ _ _ _ _ us hl => match us, hl with | [_], _ => rfl), PySem.W.mg_of X G a__law_part⟩
  have T__law_is_fraction : Fn K mg "_law_is_fraction" s__law_is_fraction ["_law_thing"] _ _ := ⟨fun_mk (st := s__law_is_fraction) l__law_is_fraction c__law_is_fraction k__law_is_fraction, (fun_mk (st := s__law_is_fraction) l__law_is_fraction c__law_is_fraction k__law_is_fraction).binds (ps := ["_law_thing"]) (fun _ _ _ _ _ _ us hl => match us, hl with | [_], _ => rfl), PySem.W.mg_of X G a__law_is_fraction⟩
  have T__law_are : Fn K mg "_law_are" s__law_are ["_law_thing", "_law_many"] _ _ := ⟨fun_mk (st := s__law_are) l__law_are c__law_are k__law_are, (fun_mk (st := s__law_are) l__law_are c__law_are k__law_are).binds (ps := ["_law_thing", "_law_many"]) (fun _ _ _ _ _ _ us hl => match us, hl with | [_, _], _ => rfl), PySem.W.mg_of X G a__law_are⟩
  have T__law_is_table : Fn K mg "_law_is_table" s__law_is_table ["_law_thing"] _ _ := ⟨fun_mk (st := s__law_is_table) l__law_is_table c__law_is_table k__law_is_table, (fun_mk (st := s__law_is_table) l__law_is_table c__law_is_table k__law_is_table).binds (ps := ["_law_thing"]) (fun _ _ _ _ _ _ us hl => match us, hl with | [_], _ => rfl), PySem.W.mg_of X G a__law_is_table⟩
  have T__law_long : Fn K mg "_law_long" s__law_long ["_law_size", "_law_parts"] _ _ := ⟨fun_mk (st := s__law_long) l__law_long c__law_long k__law_long, (fun_mk (st := s__law_long) l__law_long c__law_long k__law_long).binds (ps := ["_law_size", "_law_parts"]) (fun _ _ _ _ _ _ us hl => match us, hl with | [_, _], _ => rfl), PySem.W.mg_of X G a__law_long⟩
  have T__law_bent : Fn K mg "_law_bent" s__law_bent ["_law_table", "_law_pile_here"] _ _ := ⟨fun_mk (st := s__law_bent) l__law_bent c__law_bent k__law_bent, (fun_mk (st := s__law_bent) l__law_bent c__law_bent k__law_bent).binds (ps := ["_law_table", "_law_pile_here"]) (fun _ _ _ _ _ _ us hl => match us, hl with | [_, _], _ => rfl), PySem.W.mg_of X G a__law_bent⟩
  have T__law_good : Fn K mg "_law_good" s__law_good ["_law_table"] _ _ := ⟨fun_mk (st := s__law_good) l__law_good c__law_good k__law_good, (fun_mk (st := s__law_good) l__law_good c__law_good k__law_good).binds (ps := ["_law_table"]) (fun _ _ _ _ _ _ us hl => match us, hl with | [_], _ => rfl), PySem.W.mg_of X G a__law_good⟩
  have T_law : Fn K mg "law" s_law ["_law_script"] _ _ := ⟨fun_mk (st := s_law) l_law c_law k_law, (fun_mk (st := s_law) l_law c_law k_law).binds (ps := ["_law_script"]) (fun _ _ _ _ _ _ us hl => match us, hl with | [_], _ => rfl), PySem.W.mg_of X G a_law⟩
  have z_len := PySem.W.mg_none_of X G y_len
  have z_range := PySem.W.mg_none_of X G y_range
  have z_max := PySem.W.mg_none_of X G y_max
  have z_min := PySem.W.mg_none_of X G y_min
  have z_abs := PySem.W.mg_none_of X G y_abs
  have z_isinstance := PySem.W.mg_none_of X G y_isinstance
  have z_int := PySem.W.mg_none_of X G y_int
  have z_bool := PySem.W.mg_none_of X G y_bool
  have z_tuple := PySem.W.mg_none_of X G y_tuple
  have z_list := PySem.W.mg_none_of X G y_list
  have z_all := PySem.W.mg_none_of X G y_all
  have z_enumerate := PySem.W.mg_none_of X G y_enumerate
  refine ⟨PySem.W.fnOf "law" "law" (defArgs s_law) (defBody s_law) (defScope s_law) .none kV_law dc_law pm_law an_law cd_law ct_law, fun s v => .of_eq rfl, fun base _ _ => ?_⟩
  have m_MOST_ROWS := PySem.W.mg_of X G a_MOST
  have g_gd := ok_greatest_divisor (P := l.prog) (w := w) (base := base) T_greatest_divisor z_abs
  have g_mixed := ok__law_mixed (P := l.prog) (w := w) (base := base) T__law_mixed
  have g_pile := ok__law_pile T__law_pile T__law_mixed g_mixed z_len z_range
  have g_take := ok__law_take (P := l.prog) (w := w) (base := base) T__law_take
  have g_shared := ok__law_shared (P := l.prog) (w := w) (base := base) T__law_shared z_abs
  have g_frac := ok__law_frac T__law_frac T__law_shared g_shared
  have g_wh := ok_is_whole (P := l.prog) (w := w) (base := base) T_is_whole z_isinstance z_int z_bool
  have g_isfr := ok_is_fraction T_is_fraction T_is_whole T_greatest_divisor g_wh g_gd z_isinstance z_tuple z_len
  have g_lwh := ok__law_whole (P := l.prog) (w := w) (base := base) T__law_whole z_isinstance z_int z_bool
  have g_lisfr := ok__law_is_fraction T__law_is_fraction T__law_whole T__law_shared g_lwh g_shared z_isinstance z_tuple z_len
  have g_af := ok_are_fractions T_are_fractions T_is_fraction g_isfr z_isinstance z_list
  have g_ar := ok_are_rows T_are_rows T_are_fractions g_af m_MOST_ROWS z_isinstance z_list z_len z_enumerate
  have g_it := ok_is_table T_is_table T_are_rows T_are_fractions g_ar (g_af.mono (by decide)) z_isinstance z_tuple z_len
  have g_la := ok__law_are T__law_are T__law_is_fraction g_lisfr z_isinstance z_list z_len z_all
  have g_lit := ok__law_is_table T__law_is_table T__law_are g_la z_isinstance z_list z_tuple z_len z_all z_range
  have g_part := ok__law_part T__law_part T__law_take T__law_frac (g_take.mono (by decide)) g_frac
  have g_long := ok__law_long (P := l.prog) (w := w) (base := base) T__law_long z_range
  have g_be := ok__law_bent T__law_bent T__law_take g_take z_len z_list z_max
  have g_good := ok__law_good T__law_good T_is_table T__law_is_table (g_it.mono (by decide)) (g_lit.mono (by decide)) z_isinstance z_bool z_list
  exact ok_law T_law T__law_pile T__law_part T__law_take T_is_table T__law_good T__law_bent T__law_long (g_pile.mono (by decide)) (g_part.mono (by decide)) (g_take.mono (by decide)) (g_it.mono (by decide)) g_good (g_be.mono (by decide)) (g_long.mono (by decide)) z_len z_range z_max z_min
theorem walk {l : PySem.W.OpenLaw} {q : Program} {loose : List Str} {XP : (Str → Option Value) → Heap → Prop} {YP : World → Heap → Prop} {d : DefRec} {K : Params → PySem.W.Frag} (hn : l.most = some 63) (hdf : d.params.defaults = [])
    (hY : ∀ (w : World) (h : Heap), YP w h → (K w.params).In h)
    (F : ∀ (w : World) (mg : Str → Option Value) (fa : Addr) (h : Heap), (K w.params).In h → h.Ns mainGlobals mg → mg d.name = some (.ref fa) →
      ∃ fd : FuncData, (∀ (s : Shared) (u : Value), BindsTo s fd ⟨[u], []⟩ [("_law_script", u)]) ∧ ∀ base : Heap, (K w.params).In base → base.Ns mainGlobals mg → FnOk l.prog w (K w.params) mg base CX0 8 fa fd ["_law_script"] (spLaw (K w.params))) :
    PySem.W.WalkO q loose XP YP l.row.toRowW d [] (fun f vs => PySem.call f vs) :=
  L2.walk_of (n := 63) (k := 8) (x := "_law_script") (CX := fun _ => CX0) (sp := fun w => spLaw (K w.params)) hn (by decide) hdf ⟨rfl, by decide, by decide⟩ hY F (fun _ _ a ns hl _ hS => ⟨a, ns, rfl, hS, hl, fun _ => rfl⟩) fun _ _ _ _ _ z => z
end Q31
open PySem PySem.W PyProof.Rows
set_option maxRecDepth 100000 in
set_option maxHeartbeats 0 in
theorem PySem.Challenge.cw_stepgrove_k31_tables_of_many_rows_holds : PySem.Challenge.rw_stepgrove_k31_tables_of_many_rows.Holds := by
  w_on; o_law; k_head; (case hw => w_witness2)
  k_fill
  refine Q31.walk (l := PySem.Challenge.rw_stepgrove_k31_tables_of_many_rows) rfl rfl (fun w h Y => PySem.W.kIn_of Y) ?F
  case F =>
    intro w mg fa h KX G hmg
    refine' Q31.all_mk KX G hmg ?a_is_fraction ?l_is_fraction ?c_is_fraction ?k_is_fraction ?a_are_fractions ?l_are_fractions ?c_are_fractions ?k_are_fractions ?a_is_whole ?l_is_whole ?c_is_whole ?k_is_whole ?a_greatest_divisor ?l_greatest_divisor ?c_greatest_divisor ?k_greatest_divisor ?a_is_table ?l_is_table ?c_is_table ?k_is_table ?a_are_rows ?l_are_rows ?c_are_rows ?k_are_rows ?a__law_mixed ?l__law_mixed ?c__law_mixed ?k__law_mixed ?a__law_pile ?l__law_pile ?c__law_pile ?k__law_pile ?a__law_take ?l__law_take ?c__law_take ?k__law_take ?a__law_shared ?l__law_shared ?c__law_shared ?k__law_shared ?a__law_frac ?l__law_frac ?c__law_frac ?k__law_frac ?a__law_whole ?l__law_whole ?c__law_whole ?k__law_whole ?a__law_part ?l__law_part ?c__law_part ?k__law_part ?a__law_is_fraction ?l__law_is_fraction ?c__law_is_fraction ?k__law_is_fraction ?a__law_are ?l__law_are ?c__law_are ?k__law_are ?a__law_is_table ?l__law_is_table ?c__law_is_table ?k__law_is_table ?a__law_long ?l__law_long ?c__law_long ?k__law_long ?a__law_bent ?l__law_bent ?c__law_bent ?k__law_bent ?a__law_good ?l__law_good ?c__law_good ?k__law_good ?a_law ?l_law ?c_law ?k_law ?y_len ?y_range ?y_max ?y_min ?y_abs ?y_isinstance ?y_int ?y_bool ?y_tuple ?y_list ?y_all ?y_enumerate ?a_MOST
    (case a_is_fraction => k_is); (case l_is_fraction => k_is); (case c_is_fraction => k_is); (case k_is_fraction => k_is)
    (case a_are_fractions => k_is); (case l_are_fractions => k_is); (case c_are_fractions => k_is); (case k_are_fractions => k_is)
    (case a_is_whole => k_is); (case l_is_whole => k_is); (case c_is_whole => k_is); (case k_is_whole => k_is)
    (case a_greatest_divisor => k_is); (case l_greatest_divisor => k_is); (case c_greatest_divisor => k_is); (case k_greatest_divisor => k_is)
    (case a_is_table => k_is); (case l_is_table => k_is); (case c_is_table => k_is); (case k_is_table => k_is)
    (case a_are_rows => k_is); (case l_are_rows => k_is); (case c_are_rows => k_is); (case k_are_rows => k_is)
    (case a__law_mixed => k_is); (case l__law_mixed => k_is); (case c__law_mixed => k_is); (case k__law_mixed => k_is)
    (case a__law_pile => k_is); (case l__law_pile => k_is); (case c__law_pile => k_is); (case k__law_pile => k_is)
    (case a__law_take => k_is); (case l__law_take => k_is); (case c__law_take => k_is); (case k__law_take => k_is)
    (case a__law_shared => k_is); (case l__law_shared => k_is); (case c__law_shared => k_is); (case k__law_shared => k_is)
    (case a__law_frac => k_is); (case l__law_frac => k_is); (case c__law_frac => k_is); (case k__law_frac => k_is)
    (case a__law_whole => k_is); (case l__law_whole => k_is); (case c__law_whole => k_is); (case k__law_whole => k_is)
    (case a__law_part => k_is); (case l__law_part => k_is); (case c__law_part => k_is); (case k__law_part => k_is)
    (case a__law_is_fraction => k_is); (case l__law_is_fraction => k_is); (case c__law_is_fraction => k_is); (case k__law_is_fraction => k_is)
    (case a__law_are => k_is); (case l__law_are => k_is); (case c__law_are => k_is); (case k__law_are => k_is)
    (case a__law_is_table => k_is); (case l__law_is_table => k_is); (case c__law_is_table => k_is); (case k__law_is_table => k_is)
    (case a__law_long => k_is); (case l__law_long => k_is); (case c__law_long => k_is); (case k__law_long => k_is)
    (case a__law_bent => k_is); (case l__law_bent => k_is); (case c__law_bent => k_is); (case k__law_bent => k_is)
    (case a__law_good => k_is); (case l__law_good => k_is); (case c__law_good => k_is); (case k__law_good => k_is)
    (case a_law => k_is); (case l_law => k_is); (case c_law => k_is); (case k_law => k_is)
    (case y_len => k_is)
    (case y_range => k_is)
    (case y_max => k_is)
    (case y_min => k_is)
    (case y_abs => k_is)
    (case y_isinstance => k_is)
    (case y_int => k_is)
    (case y_bool => k_is)
    (case y_tuple => k_is)
    (case y_list => k_is)
    (case y_all => k_is)
    (case y_enumerate => k_is)
    (case a_MOST => k_is)
#print axioms PySem.Challenge.cw_stepgrove_k31_tables_of_many_rows_holds
