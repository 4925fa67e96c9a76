import PyProof.Rows.All
import Wide.All
import OpenK.AllK
import Wide.FinOn
import Lean
import PyProof.EqAt
import PyProof.EqKinds
import PyProof.TupleCall
import PySem.Challenge.RW_stepgrove_k17_polynomials_reckoned
set_option Elab.async false
set_option linter.all false
set_option maxRecDepth 100000
namespace L2
open PySem PySem.Spec PyProof.Rows
abbrev Key:=Sum Int Str
def keyIs : Key→Value→Bool
  | .inl k,v => Value.isInt k v
  | .inr x,v => Value.isStrOf x v
def keyH (w : World) : Key→Int
  | .inl k => hashInt k
  | .inr x => hashStr w x
theorem keyIs_shape : ∀ {k : Key} {v : Value},keyIs k v = true→(∃ i t,k = Sum.inl i∧v = Value.int i t)∨(∃ x t,k = Sum.inr x∧v = Value.str x t)
  | .inl i,v,h => by
    obtain ⟨t,e⟩:=Value.isInt_shape (k:=i) (v:=v) h
    exact .inl ⟨i,t,rfl,e⟩
  | .inr x,v,h => by
    obtain ⟨t,e⟩:=Value.isStrOf_shape (x:=x) (v:=v) h
    exact .inr ⟨x,t,rfl,e⟩
theorem keyIs_int (i : Int) (t : Tok) : keyIs (.inl i) (.int i t) = true := by simp [keyIs,Value.isInt]
theorem keyIs_str (x : Str) (t : Tok) : keyIs (.inr x) (.str x t) = true := by simp [keyIs,Value.isStrOf]
theorem key_ll (a b : Int) : decide ((Sum.inl a : Key) = Sum.inl b) = (a == b) := by
  by_cases e : a = b
  · subst e; simp
  · have h : ¬ (Sum.inl a : Key) = Sum.inl b:=fun q => e (Sum.inl.inj q)
    rw [decide_eq_false h]
    exact (beq_eq_false_iff_ne.mpr e).symm
theorem key_rr (a b : Str) : decide ((Sum.inr a : Key) = Sum.inr b) = decide (a = b) := by
  by_cases e : a = b
  · subst e; simp
  · have h : ¬ (Sum.inr a : Key) = Sum.inr b:=fun q => e (Sum.inr.inj q)
    rw [decide_eq_false h,decide_eq_false e]
theorem key_lr (a : Int) (b : Str) : decide ((Sum.inl a : Key) = Sum.inr b) = false:=decide_eq_false (fun q => nomatch q)
theorem key_rl (a : Str) (b : Int) : decide ((Sum.inr a : Key) = Sum.inl b) = false:=decide_eq_false (fun q => nomatch q)
def mixKind (prog : Program) (w : World) : PySem.KeyKind prog w Key where
  is:=keyIs
  hash:=keyH w
  inj:=fun v a b ha hb => by
    rcases keyIs_shape ha with ⟨i,t,rfl,rfl⟩ | ⟨x,t,rfl,rfl⟩
    · rcases keyIs_shape hb with ⟨j,u,rfl,e⟩ | ⟨y,u,rfl,e⟩
      · injection e with e1 _; rw [e1]
      · exact nomatch e
    · rcases keyIs_shape hb with ⟨j,u,rfl,e⟩ | ⟨y,u,rfl,e⟩
      · exact nomatch e
      · injection e with e1 _; rw [e1]
  byValue:=fun k v h => by
    rcases keyIs_shape h with ⟨i,t,rfl,rfl⟩ | ⟨x,t,rfl,rfl⟩ <;> rfl
  pyHash:=fun hv h => by
    rcases keyIs_shape hv with ⟨i,t,rfl,rfl⟩ | ⟨x,t,rfl,rfl⟩
    · exact wpAny_pyHash_int h
    · exact wpAny_pyHash_str h
  eqBool:=fun hu hv h => by
    rcases keyIs_shape hu with ⟨i,t,rfl,rfl⟩ | ⟨x,t,rfl,rfl⟩
    · rcases keyIs_shape hv with ⟨j,u,rfl,rfl⟩ | ⟨y,u,rfl,rfl⟩
      · rw [key_ll] at h; exact wpAny_eqBool_int h
      · rw [key_lr] at h; exact SeqAt.EqAt.int_str i t y u _ _ _ _ h
    · rcases keyIs_shape hv with ⟨j,u,rfl,rfl⟩ | ⟨y,u,rfl,rfl⟩
      · rw [key_rl] at h; exact SeqAt.EqAt.str_int x t j u _ _ _ _ h
      · rw [key_rr] at h; exact wpAny_eqBool_str h
  «strs»:=fun k x t v h => by
    rcases keyIs_shape h with ⟨i,u,rfl,e⟩ | ⟨y,u,rfl,e⟩
    · exact nomatch e
    · injection e with e1 _
      subst e1
      cases v <;> rfl
theorem mixKind_int (prog : Program) (w : World) (i : Int) (t : Tok) : (mixKind prog w).is (.inl i) (.int i t) = true:=keyIs_int i t
theorem mixKind_str (prog : Program) (w : World) (x : Str) (t : Tok) : (mixKind prog w).is (.inr x) (.str x t) = true:=keyIs_str x t
inductive V where
  | non | bl (b : Bool) | int (i : Int) | str (x : Str) | byt (b : Array UInt8) | flt (b : UInt64) | ref (a : Addr) | ty (n : String)
  deriving DecidableEq
def RelV : V→Value→Prop
  | .non,u => u = Value.none
  | .bl b,u => u = Value.bool b
  | .int i,u => ∃ t,u = Value.int i t
  | .str x,u => ∃ t,u = Value.str x t
  | .byt b,u => ∃ t,u = Value.bytes b t
  | .flt b,u => ∃ t,u = Value.float b t
  | .ref a,u => u = Value.ref a
  | .ty n,u => u = Value.type n
abbrev Vals : List V→List Value→Prop:=Paired RelV
theorem Vals.length {xs : List V} {us : List Value} (r : Vals xs us) : xs.length = us.length:=Paired.length r
theorem Vals.get : ∀ {xs : List V} {us : List Value} {i : Nat} {x : V},Vals xs us→xs[i]? = some x→∃ u,us[i]? = some u∧RelV x u
  | _,_,_,_,.nil,e => by simp at e
  | _,_,0,_,.cons r _,e => by simp at e; subst e; exact ⟨_,rfl,r⟩
  | _,_,i + 1,x,.cons _ t,e => by
    obtain ⟨u,h1,h2⟩:=Vals.get (i:=i) (x:=x) t (by simpa using e)
    exact ⟨u,by simpa using h1,h2⟩
theorem Vals.set {x : V} {u : Value} (r : RelV x u) : ∀ {xs : List V} {us : List Value} (i : Nat),Vals xs us→Vals (xs.set i x) (us.set i u)
  | _,_,_,.nil => .nil
  | _,_,0,.cons _ t => .cons r t
  | _,_,i + 1,.cons q t => .cons q (Vals.set r i t)
theorem Vals.append : ∀ {xs ys : List V} {us ws : List Value},Vals xs us→Vals ys ws→Vals (xs ++ ys) (us ++ ws)
  | _,_,_,_,.nil,s => s
  | _,_,_,_,.cons r t,s => .cons r (Vals.append t s)
theorem Vals.take : ∀ {xs : List V} {us : List Value} (n : Nat),Vals xs us→Vals (xs.take n) (us.take n)
  | _,_,0,_ => .nil
  | _,_,_ + 1,.nil => .nil
  | _,_,n + 1,.cons r t => .cons r (Vals.take n t)
theorem Vals.drop : ∀ {xs : List V} {us : List Value} (n : Nat),Vals xs us→Vals (xs.drop n) (us.drop n)
  | _,_,0,r => r
  | _,_,_ + 1,.nil => .nil
  | _,_,n + 1,.cons _ t => Vals.drop n t
def RelO : Option V→Option Value→Prop
  | some v,some u => RelV v u
  | none,none => True
  | _,_ => False
def KV {κ : Type} : List (κ×V)→List (κ×Value)→Prop:=Paired fun (p : κ×V) (q : κ×Value) => p.1 = q.1∧RelV p.2 q.2
def kV : Key→V
  | .inl i => .int i
  | .inr x => .str x
inductive HO where
  | lst (xs : List V)
  | tup (xs : List V)
  | dK (kvs : List (Key×V)) | dT (kvs : List (List Key×V))
  | set (S : Int→Bool) (n : Nat)
  | ins (C dx : Addr) (fs : List (Str×V))
  | own (x : Addr)
  | xd (fs : List (Str×V))
  | met (f x : Addr)
  | rng (lo hi : Int)
  | frz (o : Obj) (u : HO)
  | tbl (ps : Array Value)
  | ext (φ : Heap→Prop)
abbrev Hp:=Addr→Option HO
def upd (H : Hp) (a : Addr) (o : HO) : Hp:=fun b => if b = a then some o else H b
theorem upd_same {H : Hp} {a : Addr} {o : HO} : upd H a o a = some o := by unfold upd; rw [if_pos rfl]
theorem upd_ne {H : Hp} {a b : Addr} {o : HO} (h : b≠a) : upd H a o b = H b := by unfold upd; rw [if_neg h]
theorem ne_of {H : Hp} {a b : Addr} {o u : HO} (h : H a = some o) (h' : H b = some u) (d : o≠u) : a≠b := by
  intro e; subst e; rw [h] at h'; exact d (Option.some.inj h')
theorem ne_of_none {H : Hp} {a b : Addr} {o : HO} (h : H a = some o) (h' : H b = none) : a≠b := by
  intro e; subst e; rw [h] at h'; cases h'
section
variable (P : Program) (w : World)
def ObjOk (H : Hp) (h : Heap) (a : Addr) : HO→Prop
  | .lst xs => xs.length≤sizeLine∧∃ (its : List Value) (n : Nat),Vals xs its∧h.get? a = some { cls:=.type "list",data:=.seq its.toArray n }
  | .tup xs => xs.length≤sizeLine∧∃ its : List Value,Vals xs its∧IsTup h a its.toArray
  | .dK kvs => kvs.length≤sizeLine∧(a == sysModules) = false∧∃ vs,KV kvs vs∧h.DictOf (mixKind P w) a vs
  | .dT kvs => kvs.length≤sizeLine∧(a == sysModules) = false∧∃ xs : List (List Key×Addr×Value),
      Paired (fun (p : List Key×V) (q : List Key×Addr×Value) => p.1 = q.1∧H q.2.1 = some (.tup (p.1.map kV))∧RelV p.2 q.2.2) kvs xs ∧
      ∃ o es ep,h.get? a = some o∧o.ExactDict∧o.data = .dict es ep∧es.toList = xs.map (entryOfKey (tupleKind (mixKind P w)))∧(xs.map (·.1)).Nodup
  | .set S n => h.SetOf (intKind P w) a S n
  | .ins C dx fs => H dx = some (.own a)∧fs.length≤1000∧dx≠a∧h.get? a = some (PySem.W.instObj C dx) ∧
      ∃ mA,h.Ns1 dx mA∧(∀ f,RelO (fs.lookup f) (mA f))∧PySem.Within mA (fs.map (·.1))
  | .own _ => ∃ o,h.get? a = some o
  | .xd fs => ∃ mA,h.Ns1 a mA∧∀ f,RelO (fs.lookup f) (mA f)
  | .rng lo hi => ∃ t u v,h.get? a = some { cls:=.type "range",data:=.fields #[.int lo t,.int hi u,.int 1 v] }
  | .frz o u => h.get? a = some o∧ObjOk H h a u
  | .tbl ps => h.get? a = some { cls:=.none,data:=.fields ps }
  | .met f x => h.get? a = some (PySem.W.methodObj (.ref f) (.ref x))
  | .ext φ => φ h∧(∃ o,h.get? a = some o)∧∀ h1 h2 : Heap,φ h1→(∀ o,h1.get? a = some o→h2.get? a = some o)→φ h2
def HOk (H : Hp) (h : Heap) : Prop:=∀ a o,H a = some o→ObjOk P w H h a o
end
section
variable {P : Program} {w : World} {H H' : Hp} {h h' : Heap} {a : Addr} {o : HO}
theorem ObjOk.lt (x : ObjOk P w H h a o) : a < h.objs.size := by
  cases o with
  | lst xs => obtain ⟨_,_,_,_,e⟩:=x; exact Heap.lt_size e
  | tup xs => obtain ⟨_,_,_,p⟩:=x; exact p.lt
  | dK kvs => obtain ⟨_,_,_,_,o,_,_,e,_⟩:=x; exact Heap.lt_size e
  | dT kvs => obtain ⟨_,_,_,_,o,_,_,e,_⟩:=x; exact Heap.lt_size e
  | set S n => obtain ⟨o,_,_,_,e,_⟩:=x; exact Heap.lt_size e
  | ins C dx fs => obtain ⟨_,_,_,e,_⟩:=x; exact Heap.lt_size e
  | own y => obtain ⟨_,e⟩:=x; exact Heap.lt_size e
  | xd fs => obtain ⟨_,⟨_,_,_,e,_⟩,_⟩:=x; exact Heap.lt_size e
  | rng lo hi => obtain ⟨_,_,_,e⟩:=x; exact Heap.lt_size e
  | frz ob u => obtain ⟨e,_⟩:=x; exact Heap.lt_size e
  | tbl ps => exact Heap.lt_size (show h.get? a = some _ from x)
  | met f y => exact Heap.lt_size (show h.get? a = some _ from x)
  | ext φ => obtain ⟨_,⟨_,e⟩,_⟩:=x; exact Heap.lt_size e
theorem Paired.mapP {α β : Type} {F G : α→β→Prop} : ∀ {l₁ : List α} {l₂ : List β},Paired F l₁ l₂→(∀ a b,F a b→G a b)→Paired G l₁ l₂
  | _,_,.nil,_ => .nil
  | _,_,.cons r t,f => .cons (f _ _ r) (Paired.mapP t f)
theorem ObjOk.stay (x : ObjOk P w H h a o) (k : ∀ b u,(b = a∨H b = some (.own a))→h.get? b = some u→h'.get? b = some u)
    (ho : ∀ b,H b = some (.own a)→H' b = some (.own a)) (ht : ∀ b xs,H b = some (.tup xs)→H' b = some (.tup xs)) : ObjOk P w H' h' a o := by
  induction o with
  | lst xs => obtain ⟨z,its,n,r,e⟩:=x; exact ⟨z,its,n,r,k _ _ (.inl rfl) e⟩
  | tup xs => obtain ⟨z,its,r,ob,e,c⟩:=x; exact ⟨z,its,r,ob,k _ _ (.inl rfl) e,c⟩
  | dK kvs => obtain ⟨z,y,vs,r,ob,es,ep,e,c⟩:=x; exact ⟨z,y,vs,r,ob,es,ep,k _ _ (.inl rfl) e,c⟩
  | dT kvs =>
    obtain ⟨z,y,xs,r,ob,es,ep,e,c⟩:=x
    exact ⟨z,y,xs,Paired.mapP r fun p q z => ⟨z.1,ht _ _ z.2.1,z.2.2⟩,ob,es,ep,k _ _ (.inl rfl) e,c⟩
  | set S n => obtain ⟨ob,es,ep,t,e,c⟩:=x; exact ⟨ob,es,ep,t,k _ _ (.inl rfl) e,c⟩
  | ins C dx fs =>
    obtain ⟨d,z,ne,e,mA,⟨od,es,ep,e2,c⟩,r⟩:=x
    exact ⟨ho _ d,z,ne,k _ _ (.inl rfl) e,mA,⟨od,es,ep,k _ _ (.inr d) e2,c⟩,r⟩
  | own y => obtain ⟨ob,e⟩:=x; exact ⟨ob,k _ _ (.inl rfl) e⟩
  | xd fs => obtain ⟨mA,⟨od,es,ep,e,c⟩,r⟩:=x; exact ⟨mA,⟨od,es,ep,k _ _ (.inl rfl) e,c⟩,r⟩
  | rng lo hi => obtain ⟨t,u,v,e⟩:=x; exact ⟨t,u,v,k _ _ (.inl rfl) e⟩
  | frz ob u ih => obtain ⟨e,q⟩:=x; exact ⟨k _ _ (.inl rfl) e,ih q⟩
  | tbl ps =>
    have e : h.get? a = some { cls:=.none,data:=.fields ps }:=x
    show h'.get? a = some { cls:=.none,data:=.fields ps }
    exact k a _ (.inl rfl) e
  | met f y =>
    have e : h.get? a = some (PySem.W.methodObj (.ref f) (.ref y)):=x
    show h'.get? a = some (PySem.W.methodObj (.ref f) (.ref y))
    exact k a _ (.inl rfl) e
  | ext φ => obtain ⟨p,⟨o,e⟩,st⟩:=x; exact ⟨st _ _ p fun o q => k _ _ (.inl rfl) q,⟨o,k _ _ (.inl rfl) e⟩,st⟩
theorem HOk.lt (x : HOk P w H h) (e : H a = some o) : a < h.objs.size:=(x a o e).lt
theorem HOk.fresh (x : HOk P w H h) (e : h.objs.size≤a) : H a = none := by
  cases q : H a with
  | none => rfl
  | some u => exact absurd (Nat.lt_of_lt_of_le (x.lt q) e) (Nat.lt_irrefl _)
theorem HOk.kept (x : HOk P w H h) (k : ∀ b u,h.get? b = some u→h'.get? b = some u) : HOk P w H h':=fun a o e =>
  (x a o e).stay (fun b u _ q => k b u q) (fun _ q => q) fun _ _ q => q
theorem HOk.laid (x : HOk P w H h) (k : ∀ b u,h.get? b = some u→h'.get? b = some u) (hp : h.objs.size≤a) (new : ObjOk P w (upd H a o) h' a o) : HOk P w (upd H a o) h':=fun b u e => by
  have hn:=x.fresh hp
  by_cases hb : b = a
  · subst hb; rw [upd_same] at e; cases e; exact new
  · rw [upd_ne hb] at e
    exact (x b u e).stay (fun c v _ q => k c v q) (fun c q => by rw [upd_ne (ne_of_none q hn)]; exact q) fun c xs q => by rw [upd_ne (ne_of_none q hn)]; exact q
end
def Rd (H : Hp) (a : Addr) (u : HO) : Prop:=H a = some u∨∃ o,H a = some (.frz o u)
theorem Rd.ok {P : Program} {w : World} {H : Hp} {h : Heap} {a : Addr} {u : HO} (r : Rd H a u) (x : HOk P w H h) : ObjOk P w H h a u := by
  rcases r with r | ⟨o,r⟩
  · exact x a u r
  · obtain ⟨_,q⟩:=x a _ r
    exact q
def Mut : Option HO→Prop
  | some (.lst _) => True
  | some (.dK _) => True
  | some (.dT _) => True
  | some (.set _ _) => True
  | some (.ins _ _ _) => True
  | some (.ext _) => True
  | _ => False
section
variable {P : Program} {w : World} {H : Hp} {h h' : Heap} {x e : Addr} {o' : HO}
theorem HOk.write (ok : HOk P w H h) (mu : Mut (H x)) (he : e = x∨H e = some (.own x)) (k : ∀ b u,b≠e→h.get? b = some u→h'.get? b = some u) (heo : ∃ u,h'.get? e = some u)
    (new : ObjOk P w (upd H x o') h' x o') : HOk P w (upd H x o') h':=fun b u q => by
  have nown : ∀ c y,H c = some (.own y)→c≠x:=fun c y r z => by subst z; rw [r] at mu; exact mu
  have ntup : ∀ c xs,H c = some (.tup xs)→c≠x:=fun c xs r z => by subst z; rw [r] at mu; exact mu
  by_cases hb : b = x
  · subst hb; rw [upd_same] at q; cases q; exact new
  · rw [upd_ne hb] at q
    by_cases hbe : b = e
    · have q' : H b = some (.own x) := by
        rcases he with z | z
        · exact absurd (hbe.trans z) hb
        · rw [hbe]; exact z
      rw [q] at q'; cases q'
      obtain ⟨v,hv⟩:=heo
      exact ⟨v,by rw [hbe]; exact hv⟩
    · refine (ok b u q).stay (fun c v hc r => k c v ?_ r) (fun c r => by rw [upd_ne (nown c b r)]; exact r) fun c xs r => by rw [upd_ne (ntup c xs r)]; exact r
      rcases hc with rfl | hc
      · exact hbe
      · rintro rfl
        rcases he with z | z
        · exact nown c b hc z
        · rw [hc] at z; cases z; exact hb rfl
end
structure Un (fs ex : List Addr) (H H' : Hp) (h h' : Heap) : Prop where
  keep : ∀ b o,h.get? b = some o→H b = none→b ∉ fs→b ∉ ex→h'.get? b = some o
  slot : ∀ b o,h.get? b = some o→H b = none→b∈fs→b ∉ ex→∃ sl,h'.get? b = some { o with slots:=sl }
  free : ∀ b o,h.get? b = some o→H b = none→b ∉ ex→H' b = none
  there : ∀ b o,h.get? b = some o→b ∉ ex→∃ o',h'.get? b = some o'
  tups : ∀ b xs,H b = some (.tup xs)→H' b = some (.tup xs)
  frzs : ∀ b o u,H b = some (.frz o u)→H' b = some (.frz o u)
  tbls : ∀ b ps,H b = some (.tbl ps)→∃ more,H' b = some (.tbl (ps ++ more))
  tupo : ∀ b xs o,H b = some (.tup xs)→h.get? b = some o→b ∉ ex→h'.get? b = some o
section
variable {fs ex : List Addr} {H H1 : Hp} {h h1 h' : Heap} {a x e : Addr} {o : HO}
theorem Un.any (u : Un fs ex H H1 h h1) {b : Addr} {ob : Obj} (q : h.get? b = some ob) (n : H b = none) (hx : b ∉ ex) : ∃ sl,h1.get? b = some { ob with slots:=sl } := by
  by_cases hb : b∈fs
  · exact u.slot b ob q n hb hx
  · exact ⟨ob.slots,u.keep b ob q n hb hx⟩
theorem Un.kept (k : ∀ b u,h.get? b = some u→h'.get? b = some u) : Un fs ex H H h h' :=
  ⟨fun b ob q _ _ _ => k b ob q,fun b ob q _ _ _ => ⟨ob.slots,k b ob q⟩,fun _ _ _ n _ => n,fun b ob q _ => ⟨ob,k b ob q⟩,fun _ _ q => q,fun _ _ _ q => q,fun _ ps q => ⟨#[],by rw [q]; simp⟩,fun _ _ ob _ e _ => k _ ob e⟩
theorem Un.refl : Un fs ex H H h h:=Un.kept fun _ _ q => q
theorem Un.laid (k : ∀ b u,h.get? b = some u→h'.get? b = some u) (hp : h.objs.size≤a) (hn : H a = none) : Un fs ex H (upd H a o) h h' where
  keep:=fun b u q _ _ _ => k b u q
  slot:=fun b u q _ _ _ => ⟨u.slots,k b u q⟩
  free:=fun b u q n _ => by rw [upd_ne (Nat.ne_of_lt (Nat.lt_of_lt_of_le (Heap.lt_size q) hp))]; exact n
  there:=fun b u q _ => ⟨u,k b u q⟩
  tups:=fun b xs q => by rw [upd_ne (ne_of_none q hn)]; exact q
  frzs:=fun b u xs q => by rw [upd_ne (ne_of_none q hn)]; exact q
  tbls:=fun b ps q => ⟨#[],by rw [upd_ne (ne_of_none q hn),q]; simp⟩
  tupo:=fun b _ u _ e _ => k b u e
theorem Un.write (mu : Mut (H x)) (he : e = x∨H e = some (.own x)) (k : ∀ b u,b≠e→h.get? b = some u→h'.get? b = some u) (heo : ∃ u,h'.get? e = some u) : Un fs ex H (upd H x o) h h' := by
  have hx : ∀ b,H b = none→b≠x:=fun b n z => by subst z; rw [n] at mu; exact mu
  have hb : ∀ b,H b = none→b≠e:=fun b n z => by
    subst z
    rcases he with r | r
    · exact hx b n r
    · rw [n] at r; cases r
  have hm : ∀ b u,H b = some u→¬ Mut (some u)→b≠x:=fun b u q nm z => by subst z; rw [q] at mu; exact nm mu
  refine ⟨fun b u q n _ _ => k b u (hb b n) q,fun b u q n _ _ => ⟨u.slots,k b u (hb b n) q⟩,fun b u q n _ => by rw [upd_ne (hx b n)]; exact n,fun b u q _ => ?_,
    fun b xs q => by rw [upd_ne (hm b _ q fun z => z)]; exact q,fun b u xs q => by rw [upd_ne (hm b _ q fun z => z)]; exact q,fun b ps q => ⟨#[],by rw [upd_ne (hm b _ q fun z => z),q]; simp⟩,fun b xs u q e _ => k b u (fun z => by
      rcases he with r | r
      · exact hm b _ q (fun z => z) (z.trans r)
      · rw [← z,q] at r; cases r) e⟩
  by_cases hbe : b = e
  · subst hbe; exact heo
  · exact ⟨u,k b u hbe q⟩
end
def trk (h : Heap) (H : Hp) : List Addr:=(List.range h.objs.size).filter fun a => (H a).isSome
def hidT (h : Heap) (H : Hp) : Heap:=PySem.W.hideAll h (trk h H)
theorem hidT_size (h : Heap) (H : Hp) : (hidT h H).objs.size = h.objs.size:=PySem.W.hideAll_size _ _
theorem hidT_get {h : Heap} {H : Hp} {b : Addr} {o : Obj} (e : h.get? b = some o) (n : H b = none) : (hidT h H).get? b = some o :=
  PySem.W.hideAll_get _ e fun hm => by
    have q : (H b).isSome = true:=(List.mem_filter.mp hm).2
    rw [n] at q; simp at q
theorem of_hidT {h : Heap} {H : Hp} {b : Addr} {o : Obj} (e : (hidT h H).get? b = some o) : h.get? b = some o∧H b = none := by
  have e' : h.get? b = some o:=PySem.W.of_hideAll (trk h H) e
  refine ⟨e',?_⟩
  cases q : H b with
  | none => rfl
  | some x =>
    have hm : b∈trk h H:=List.mem_filter.mpr ⟨List.mem_range.mpr (Heap.lt_size e'),by simp [q]⟩
    have z : (hidT h H).get? b = none:=PySem.W.hideAll_none (trk h H) hm
    rw [z] at e; cases e
structure Mod (K : PySem.W.Frag) (mg : Str→Option Value) (base : Heap) : Prop where
  kin : K.In base
  glob : base.Ns mainGlobals mg
  blt : ∃ mb,base.Ns builtinsNs mb∧∀ x : Str,x ≠ "__name__" → mb x = bootBuiltins x
  nolimit : base.NoLimit
def tbT (d : Nat) : List (List V):=[[],[.ref (d + 1)],[.int 1,.int 1],[.ref (d + 3)],[.ref (d + 2),.ref (d + 4)],[],[.int 1,.int 2],[.ref (d + 7)],[.ref (d + 6),.ref (d + 8)],[.int 0,.int 1],[.int 1,.int 1],[.ref (d + 10),.ref (d + 11)],[.ref (d + 9),.ref (d + 12)],[],[.int 1,.int 1],[.ref (d + 15)],[.ref (d + 14),.ref (d + 16)],[.int 1,.int 2],[.int 1,.int 2],[.ref (d + 18),.ref (d + 19)],[.ref (d + 17),.ref (d + 20)],[],[.int 1,.int 3],[.ref (d + 23)],[.int 0,.int 1],[.int 2,.int 3],[.ref (d + 25),.ref (d + 26)],[.ref (d + 22),.ref (d + 24),.ref (d + 27)],[.int 1,.int 4],[.int 0,.int 1],[.int 3,.int 4],[.ref (d + 29),.ref (d + 30),.ref (d + 31)],[.ref (d + 28),.ref (d + 32)],[],[.int 1,.int 2],[.ref (d + 35)],[.int 0,.int 1],[.int 1,.int 2],[.ref (d + 37),.ref (d + 38)],[.int 0,.int 1],[.int 0,.int 1],[.int 1,.int 1],[.ref (d + 40),.ref (d + 41),.ref (d + 42)],[.ref (d + 34),.ref (d + 36),.ref (d + 39),.ref (d + 43)],[.int 1,.int 6],[.int 1,.int 3],[.int 1,.int 3],[.int 1,.int 6],[.ref (d + 45),.ref (d + 46),.ref (d + 47),.ref (d + 48)],[.ref (d + 44),.ref (d + 49)]]
def tbK (d : Nat) : List (Key×V):=[(.inr "plain",.ref (d + 5)),(.inr "middle",.ref (d + 13)),(.inr "heel",.ref (d + 21)),(.inr "third",.ref (d + 33)),(.inr "fourth",.ref (d + 50))]
def unkV : List V:=[.str "x",.str "y",.str "z",.str "w"]
structure KTb (mg : Str→Option Value) (H : Hp) : Prop where
  nam : ∀ d : Addr,mg "NAMED_TABLES" = some (.ref d)→(∃ o,H d = some (.frz o (.dK (tbK d))))∧∀ j xs,(tbT d)[j]? = some xs→H (d + 1 + j) = some (.tup xs)
  unk : ∀ d : Addr,mg "UNKNOWNS" = some (.ref d)→H d = some (.tup unkV)
theorem KTb.un {mg : Str→Option Value} {fs ex : List Addr} {H H' : Hp} {h h' : Heap} (k : KTb mg H) (u : Un fs ex H H' h h') : KTb mg H':=⟨fun d e =>
  let ⟨⟨o,h1⟩,h2⟩:=k.nam d e
  ⟨⟨o,u.frzs _ _ _ h1⟩,fun j xs q => u.tups _ _ (h2 j xs q)⟩,fun d e => u.tups _ _ (k.unk d e)⟩
theorem KTb.no {mg : Str→Option Value} (h1 : mg "NAMED_TABLES" = none) (h2 : mg "UNKNOWNS" = none) (H : Hp) : KTb mg H:=⟨fun d e => (by rw [h1] at e; cases e),fun d e => by rw [h2] at e; cases e⟩
structure Cx where
  prog : Program
  w : World
  K : PySem.W.Frag
  mg : Str→Option Value
  base : Heap
  A : Around
  N : List Str
  s₀ : Shared
  H₀ : Hp
  env : Env
  outer : List Env
  stack : List Env
  ex : List Addr
  fn : Str→Bool
  calm : Bool
  pn : List (Addr×Obj)
  xe : Value→Shared→Prop
def frs (l : List Env) : List Addr:=l.filterMap (·.frame)
abbrev Cx.fs (X : Cx) : List Addr:=frs X.outer
def Vis (sc : Scope) (x : Str) : Prop:=sc.names.lookup x = some .local∨sc.names.lookup x = some .cell∨sc.names.lookup x = some .free
def Loc (sc : Scope) (x : Str) : Prop:=sc.names.lookup x = some .local∨sc.names.lookup x = some .cell
def Look (env : Env) (h : Heap) (m : Str→Option Value) (x : Str) (u : Value) : Prop :=
  (env.kindOf x = some .local∧m x = some u)∨((env.kindOf x = some .cell∨env.kindOf x = some .free)∧∃ c,env.cells.lookup x = some c∧h.IsCell c (some u))
structure Cx.Ok (X : Cx) : Prop where
  mod : Mod X.K X.mg X.base
  kind : X.env.scope.kind = .function
  glob : X.env.globals = mainGlobals
  blt : X.env.builtins = builtinsNs
  above : X.s₀.heap.objs.size≤X.env.locals
  inj : ∀ x y c,X.env.cells.lookup x = some c→X.env.cells.lookup y = some c→x = y
  has : ∀ x,(X.env.kindOf x = some .cell∨X.env.kindOf x = some .free)→∃ c,X.env.cells.lookup x = some c
  cab : ∀ x c,X.fn x = true→X.env.cells.lookup x = some c→X.s₀.heap.objs.size≤c
  hd : X.calm = true→X.A.handled = none
  frames : X.A.frames = some X.stack
  stk : X.stack = X.outer∨(X.stack = X.env :: X.outer∧X.env.frame = some X.env.locals)
  exf : ∀ b∈X.ex,b≠X.env.locals∧∀ x c,X.env.cells.lookup x = some c→c≠b
  bs : ∀ b o,X.base.get? b = some o→X.s₀.heap.get? b = some o∧X.H₀ b = none
  bsz : X.base.objs.size≤X.s₀.heap.objs.size
  noex : ∀ b o,X.base.get? b = some o→b ∉ X.ex
  exfs : ∀ b∈X.ex,b ∉ X.fs
  funs : X.s₀.heap.FunFrames X.base X.outer
  frf : ∀ b∈X.fs,X.H₀ b = none
  kt : KTb X.mg X.H₀
structure Inv (X : Cx) (pins : List (Addr×Obj)) (σ : List (Option V)) (H : Hp) (s : Shared) : Prop where
  ok : X.Ok
  os : s.os = X.s₀.os
  bare : AllBare s.gens
  base : Un X.fs X.ex X.H₀ H X.s₀.heap s.heap
  loc : ∃ m,s.heap.Ns X.env.locals m∧∀ (i : Nat) (x : Str) (v : V),X.N[i]? = some x→σ[i]? = some (some v)→Vis X.env.scope x→∃ u,RelV v u∧Look X.env s.heap m x u
  cell : ∀ x c,X.env.cells.lookup x = some c→∃ v,s.heap.IsCell c v
  free : H X.env.locals = none
  freeC : ∀ x c,X.env.cells.lookup x = some c→H c = none
  pin : ∀ p∈X.pn ++ pins,s.heap.get? p.1 = some p.2∧H p.1 = none∧p.1≠X.env.locals∧p.1 ∉ X.fs∧∀ v,p.2.data≠.cell v
  hok : HOk X.prog X.w H s.heap
  len : σ.length = X.N.length
theorem Inv.kt {X : Cx} {pins : List (Addr×Obj)} {σ : List (Option V)} {H : Hp} {s : Shared} (I : Inv X pins σ H s) : KTb X.mg H:=I.ok.kt.un I.base
section
variable {X : Cx} {pins : List (Addr×Obj)} {σ : List (Option V)} {H H' : Hp} {s : Shared} {h' : Heap}
theorem Cx.Ok.nofr (ok : X.Ok) {b : Addr} {o : Obj} (e : X.base.get? b = some o) : b ∉ X.fs:=fun hb => by
  have:=(ok.funs.mem hb).1
  rw [e] at this; cases this
theorem Inv.bs (I : Inv X pins σ H s) : ∀ b o,X.base.get? b = some o→s.heap.get? b = some o∧H b = none:=fun b o e =>
  ⟨I.base.keep b o (I.ok.bs b o e).1 (I.ok.bs b o e).2 (I.ok.nofr e) (I.ok.noex b o e),I.base.free b o (I.ok.bs b o e).1 (I.ok.bs b o e).2 (I.ok.noex b o e)⟩
theorem Inv.bk (I : Inv X pins σ H s) : ∀ b o,X.base.get? b = some o→s.heap.get? b = some o:=fun b o e => (I.bs b o e).1
theorem Inv.mod (I : Inv X pins σ H s) : Mod X.K X.mg X.base:=I.ok.mod
theorem Inv.kIn (I : Inv X pins σ H s) : X.K.In s.heap:=I.ok.mod.kin.keeps I.bk
theorem Inv.lt (I : Inv X pins σ H s) : X.env.locals < s.heap.objs.size:=let ⟨_,hn,_⟩:=I.loc; hn.lt
theorem Inv.sz (I : Inv X pins σ H s) : X.s₀.heap.objs.size≤s.heap.objs.size:=Nat.le_trans I.ok.above (Nat.le_of_lt I.lt)
theorem Inv.nofs (I : Inv X pins σ H s) {a : Addr} (h : s.heap.objs.size≤a) : a ∉ X.fs:=fun hb => by
  obtain ⟨_,o,ho,_⟩:=I.ok.funs.mem hb
  exact absurd (Nat.lt_of_lt_of_le (Heap.lt_size ho) (Nat.le_trans I.sz h)) (Nat.lt_irrefl _)
theorem Inv.cne (I : Inv X pins σ H s) : ∀ x c,X.env.cells.lookup x = some c→c≠X.env.locals:=fun x c e z => by
  obtain ⟨v,o,ho,hd⟩:=I.cell x c e
  obtain ⟨m,⟨o',es,ep,ho',hd',_⟩,_⟩:=I.loc
  rw [z,ho'] at ho; cases ho; rw [hd'] at hd; cases hd
theorem Inv.funs (I : Inv X pins σ H s) : s.heap.FunFrames X.base X.outer := by
  have all : ∀ (l : List Env),(∀ b∈frs l,b∈X.fs)→X.s₀.heap.FunFrames X.base l→s.heap.FunFrames X.base l := by
    intro l
    induction l with
    | nil => intro _ _; trivial
    | cons env r ih =>
      intro hs hl
      obtain ⟨hk,⟨L,o,hf,hn,ho,hd⟩,hr⟩:=hl
      have hL : L∈X.fs:=hs L (by unfold frs; rw [List.filterMap_cons,hf]; exact List.mem_cons_self)
      obtain ⟨sl,e⟩:=I.base.slot L o ho (I.ok.frf L hL) hL fun z => I.ok.exfs L z hL
      exact ⟨hk,⟨L,_,hf,hn,e,hd⟩,ih (fun b hb => hs b (by unfold frs; rw [List.filterMap_cons,hf]; exact List.mem_cons_of_mem _ hb)) hr⟩
  exact all X.outer (fun _ hb => hb) I.ok.funs
theorem Inv.stack (I : Inv X pins σ H s) : s.heap.FunFrames X.base X.stack := by
  rcases I.ok.stk with e | ⟨e,hf⟩
  · rw [e]; exact I.funs
  · rw [e]
    obtain ⟨m,hn,_⟩:=I.loc
    refine .cons (by rw [I.ok.kind]; decide) hf hn ?_ I.funs
    exact Heap.get?_none_of_le (Nat.le_trans I.ok.bsz I.ok.above)
theorem Inv.stkSub (I : Inv X pins σ H s) : ∀ b∈frs X.stack,b∈X.env.locals :: X.fs:=fun b hb => by
  rcases I.ok.stk with e | ⟨e,hf⟩
  · rw [e] at hb; exact List.mem_cons_of_mem _ hb
  · rw [e] at hb
    unfold frs at hb
    rw [List.filterMap_cons,hf] at hb
    exact hb
theorem Inv.stkFree (I : Inv X pins σ H s) : ∀ b∈frs X.stack,H b = none:=fun b hb => by
  rcases List.mem_cons.mp (I.stkSub b hb) with e | hb
  · rw [e]; exact I.free
  · obtain ⟨_,o,ho,_⟩:=I.ok.funs.mem hb
    exact I.base.free b o ho (I.ok.frf b hb) fun z => I.ok.exfs b z hb
theorem Inv.step {g' : Array GenState} {t' : Nat} {d' : Drawn} {ch : List Addr} (I : Inv X pins σ H s)
    (hch : ∀ b∈ch,(b∈X.ex∨X.s₀.heap.objs.size≤b)∧b≠X.env.locals∧(∀ x c,X.env.cells.lookup x = some c→c≠b)∧∀ p∈X.pn ++ pins,p.1≠b)
    (keep : ∀ b o,b≠X.env.locals→b ∉ X.fs→b ∉ ch→s.heap.get? b = some o→H b = none→h'.get? b = some o)
    (slot : ∀ b o,b≠X.env.locals→b∈X.fs→b ∉ ch→s.heap.get? b = some o→H b = none→∃ sl,h'.get? b = some { o with slots:=sl }) (free : ∀ b o,b ∉ ch→s.heap.get? b = some o→H b = none→H' b = none)
    (there : ∀ b o,b ∉ ch→s.heap.get? b = some o→∃ o',h'.get? b = some o')
    (tups : ∀ b xs,H b = some (.tup xs)→H' b = some (.tup xs)) (frzs : ∀ b o u,H b = some (.frz o u)→H' b = some (.frz o u)) (tbls : ∀ b ps,H b = some (.tbl ps)→∃ more,H' b = some (.tbl (ps ++ more)))
    (tupo : ∀ b xs o,b ∉ ch→H b = some (.tup xs)→s.heap.get? b = some o→h'.get? b = some o)
    (ns : ∀ m,s.heap.Ns X.env.locals m→h'.Ns X.env.locals m) (hok : HOk X.prog X.w H' h') (hg : AllBare g') :
    Inv X pins σ H' { s with heap:=h',gens:=g',drawn:=d',toks:=t' } := by
  have neL : ∀ b o,X.s₀.heap.get? b = some o→b≠X.env.locals:=fun b o e => Nat.ne_of_lt (Nat.lt_of_lt_of_le (Heap.lt_size e) I.ok.above)
  have neC : ∀ b o,X.s₀.heap.get? b = some o→b ∉ X.ex→b ∉ ch:=fun b o e hx hb => by
    rcases (hch b hb).1 with z | z
    · exact hx z
    · exact absurd (Nat.lt_of_lt_of_le (Heap.lt_size e) z) (Nat.lt_irrefl _)
  have cellK : ∀ x c,X.env.cells.lookup x = some c→∀ v,s.heap.IsCell c v→h'.IsCell c v:=fun x c e v ⟨o,ho,hd⟩ => by
    have nch : c ∉ ch:=fun z => (hch c z).2.2.1 x c e rfl
    by_cases hc : c∈X.fs
    · obtain ⟨sl,q⟩:=slot c o (I.cne x c e) hc nch ho (I.freeC x c e)
      exact ⟨_,q,hd⟩
    · exact ⟨o,keep c o (I.cne x c e) hc nch ho (I.freeC x c e),hd⟩
  refine ⟨I.ok,I.os,hg,⟨fun b o e n hb hx => ?_,fun b o e n hb hx => ?_,fun b o e n hx => ?_,fun b o e hx => ?_,fun b xs e => tups b xs (I.base.tups b xs e),fun b o xs e => frzs b o xs (I.base.frzs b o xs e),fun b ps e => ?_,fun b xs o q e hx => tupo b xs o (neC b o e hx) (I.base.tups b xs q) (I.base.tupo b xs o q e hx)⟩,?_,fun x c e => ?_,?_,fun x c e => ?_,fun p hp => ?_,hok,I.len⟩
  · exact keep b o (neL b o e) hb (neC b o e hx) (I.base.keep b o e n hb hx) (I.base.free b o e n hx)
  · obtain ⟨sl,e1⟩:=I.base.slot b o e n hb hx
    obtain ⟨sl',e2⟩:=slot b _ (neL b o e) hb (neC b o e hx) e1 (I.base.free b o e n hx)
    exact ⟨sl',e2⟩
  · obtain ⟨o',e1⟩:=I.base.there b o e hx
    exact free b o' (neC b o e hx) e1 (I.base.free b o e n hx)
  · obtain ⟨o',e1⟩:=I.base.there b o e hx
    exact there b o' (neC b o e hx) e1
  · obtain ⟨m1,e1⟩:=I.base.tbls b ps e
    obtain ⟨m2,e2⟩:=tbls b _ e1
    exact ⟨m1 ++ m2,by rw [e2,Array.append_assoc]⟩
  · obtain ⟨m,hn,hl⟩:=I.loc
    refine ⟨m,ns m hn,fun i x v e1 e2 e3 => ?_⟩
    obtain ⟨u,r,l⟩:=hl i x v e1 e2 e3
    refine ⟨u,r,?_⟩
    rcases l with l | ⟨k,c,e,z⟩
    · exact .inl l
    · exact .inr ⟨k,c,e,cellK x c e _ z⟩
  · obtain ⟨v,z⟩:=I.cell x c e
    exact ⟨v,cellK x c e v z⟩
  · obtain ⟨m,⟨o,_,_,ho,_⟩,_⟩:=I.loc
    exact free _ o (fun z => (hch _ z).2.1 rfl) ho I.free
  · obtain ⟨v,o,ho,hd⟩:=I.cell x c e
    exact free c o (fun z => (hch c z).2.2.1 x c e rfl) ho (I.freeC x c e)
  · obtain ⟨e,n,ne,nf,d⟩:=I.pin p hp
    have nch : p.1 ∉ ch:=fun z => (hch p.1 z).2.2.2 p hp rfl
    exact ⟨keep p.1 p.2 ne nf nch e n,free p.1 p.2 nch e n,ne,nf,d⟩
theorem Inv.un {t' : Nat} (I : Inv X pins σ H s) (u : Un X.fs [] H H' s.heap h') (hok : HOk X.prog X.w H' h') : Inv X pins σ H' { s with heap:=h',toks:=t' } := by
  obtain ⟨m,⟨o,es,ep,ho,r⟩,_⟩:=id I.loc
  obtain ⟨sl,hL⟩:=u.any ho I.free (by simp)
  exact I.step (g':=s.gens) (d':=s.drawn) (ch:=[]) (fun _ z => nomatch z) (fun b o _ hb _ e n => u.keep b o e n hb (by simp)) (fun b o _ hb _ e n => u.slot b o e n hb (by simp)) (fun b o _ e n => u.free b o e n (by simp)) (fun b o _ e => u.there b o e (by simp)) u.tups u.frzs u.tbls (fun b xs o _ q e => u.tupo b xs o q e (by simp)) (fun m' hm => by
    obtain ⟨o',es',ep',ho',r'⟩:=hm
    rw [ho] at ho'; cases ho'
    exact ⟨_,es',ep',hL,r'⟩) hok I.bare
theorem Inv.call {g' : Array GenState} {t' : Nat} {d' : Drawn} {ch : List Addr} (I : Inv X pins σ H s) (u : Un (frs X.stack) ch H H' s.heap h') (hok : HOk X.prog X.w H' h') (hg : AllBare g')
    (hch : ∀ b∈ch,(b∈X.ex∨X.s₀.heap.objs.size≤b)∧b≠X.env.locals∧(∀ x c,X.env.cells.lookup x = some c→c≠b)∧∀ p∈X.pn ++ pins,p.1≠b) :
    Inv X pins σ H' { s with heap:=h',gens:=g',drawn:=d',toks:=t' } := by
  obtain ⟨m,⟨o,es,ep,ho,r⟩,_⟩:=id I.loc
  obtain ⟨sl,hL⟩:=u.any ho I.free fun z => (hch _ z).2.1 rfl
  exact I.step (ch:=ch) hch (fun b o hL hb hc e n => u.keep b o e n (fun z => (List.mem_cons.mp (I.stkSub b z)).elim hL hb) hc) (fun b o _ _ hc e n => u.any e n hc) (fun b o hc e n => u.free b o e n hc) (fun b o hc e => u.there b o e hc) u.tups u.frzs u.tbls (fun b xs o hc q e => u.tupo b xs o q e hc) (fun m' hm => by
    obtain ⟨o',es',ep',ho',r'⟩:=hm
    rw [ho] at ho'; cases ho'
    exact ⟨_,es',ep',hL,r'⟩) hok hg
theorem Inv.turned {t' : Nat} {it : Addr} (I : Inv X pins σ H s) (k : ∀ b o,b≠it→s.heap.get? b = some o→h'.get? b = some o) (hn : H it = none) (hL : it≠X.env.locals)
    (h1 : it∈X.ex∨X.s₀.heap.objs.size≤it) (h2 : ∀ x c,X.env.cells.lookup x = some c→c≠it) (h3 : ∀ p∈X.pn ++ pins,p.1≠it) : Inv X pins σ H { s with heap:=h',toks:=t' } := by
  have nit : ∀ b u,H b = some u→b≠it:=fun b u e z => by rw [z,hn] at e; cases e
  refine I.step (g':=s.gens) (d':=s.drawn) (ch:=[it]) (fun b hb => ?_) (fun b o _ _ hc e _ => k b o (fun z => hc (by simp [z])) e) (fun b o _ _ hc e _ => ⟨o.slots,k b o (fun z => hc (by simp [z])) e⟩) (fun _ _ _ _ n => n)
    (fun b o hc e => ⟨o,k b o (fun z => hc (by simp [z])) e⟩) (fun _ _ e => e) (fun _ _ _ e => e) (fun b ps e => ⟨#[],by rw [e]; simp⟩) (fun b xs o hc _ e => k b o (fun z => hc (by simp [z])) e) (fun m hm => ?_) (fun b u e => ?_) I.bare
  · have e : b = it := by simpa using hb
    subst e
    exact ⟨h1,hL,h2,h3⟩
  · obtain ⟨o,es,ep,ho,r⟩:=hm
    exact ⟨o,es,ep,k _ o (Ne.symm hL) ho,r⟩
  · refine (I.hok b u e).stay (fun c v hc q => k c v ?_ q) (fun _ q => q) fun _ _ q => q
    rcases hc with z | z
    · rw [z]; exact nit b u e
    · exact nit c _ z
theorem Inv.tok (I : Inv X pins σ H s) (t : Nat) : Inv X pins σ H { s with toks:=t }:=I.un (h':=s.heap) (t':=t) Un.refl I.hok
theorem Inv.kept {t' : Nat} (I : Inv X pins σ H s) (k : ∀ b u,s.heap.get? b = some u→h'.get? b = some u) : Inv X pins σ H { s with heap:=h',toks:=t' }:=I.un (Un.kept k) (I.hok.kept k)
theorem Inv.laid {a : Addr} {o : HO} {t' : Nat} (I : Inv X pins σ H s) (k : ∀ b u,s.heap.get? b = some u→h'.get? b = some u) (hp : s.heap.objs.size≤a) (new : ObjOk X.prog X.w (upd H a o) h' a o) :
    Inv X pins σ (upd H a o) { s with heap:=h',toks:=t' }:=I.un (Un.laid k hp (I.hok.fresh hp)) (I.hok.laid k hp new)
theorem Inv.write {x e : Addr} {o : HO} {t' : Nat} (I : Inv X pins σ H s) (mu : Mut (H x)) (he : e = x∨H e = some (.own x)) (k : ∀ b u,b≠e→s.heap.get? b = some u→h'.get? b = some u) (heo : ∃ u,h'.get? e = some u)
    (new : ObjOk X.prog X.w (upd H x o) h' x o) : Inv X pins σ (upd H x o) { s with heap:=h',toks:=t' }:=I.un (Un.write mu he k heo) (I.hok.write mu he k heo new)
theorem Inv.pins_of {pins' : List (Addr×Obj)} (I : Inv X pins σ H s) (h : ∀ p∈pins',s.heap.get? p.1 = some p.2∧H p.1 = none∧p.1≠X.env.locals∧p.1 ∉ X.fs∧∀ v,p.2.data≠.cell v) : Inv X pins' σ H s :=
  ⟨I.ok,I.os,I.bare,I.base,I.loc,I.cell,I.free,I.freeC,fun p hp => (List.mem_append.mp hp).elim (fun z => I.pin p (List.mem_append_left _ z)) (h p),I.hok,I.len⟩
theorem nodup_ix {N : List Str} (hN : N.Nodup) {i j : Nat} {x : Str} (a : N[i]? = some x) (b : N[j]? = some x) : i = j := by
  obtain ⟨h1,e1⟩:=List.getElem?_eq_some_iff.mp a
  obtain ⟨h2,e2⟩:=List.getElem?_eq_some_iff.mp b
  exact (List.getElem_inj hN).mp (e1.trans e2.symm)
theorem store_ok2 {M : Model} {A : Around} {E : Value→Shared→Prop} {i : Nat} {x : Str} {v : V} {u : Value} {Q : Unit→Shared→Prop} (I : Inv X pins σ H s) (hN : X.N.Nodup) (hi : X.N[i]? = some x) (hx : Loc X.env.scope x) (r : RelV v u)
    (h : ∀ s',Inv X pins (σ.set i (some v)) H s'→(∃ a,Heap.SameBut a s.heap s'.heap∧(a = X.env.locals∨X.env.cells.lookup x = some a))→Q () s') (hf : X.fn x = true∨X.env.scope.names.lookup x = some .local := by first | exact .inl rfl | exact .inr rfl | assumption) : wpAny M A (storeName X.env x u) Q E s := by
  obtain ⟨m,hn,hl⟩:=id I.loc
  have hcls : (X.env.scope.kind == .class || (X.env.scope.kind == .module && X.env.locals != X.env.globals)) = false := by rw [I.ok.kind]; rfl
  have hiσ : i < σ.length := by rw [I.len]; exact (List.getElem?_eq_some_iff.mp hi).1
  have cne:=I.cne
  have tracked : ∀ {a : Addr} {h' : Heap},(∃ o,s.heap.get? a = some o∧H a = none)→Heap.SameBut a s.heap h'→HOk X.prog X.w H h':=fun {a h'} ha hs b ob e => by
    obtain ⟨_,_,hfree⟩:=ha
    refine (I.hok b ob e).stay (fun c w' hc q => (hs.2 c ?_).trans q) (fun _ q => q) fun _ _ q => q
    rintro rfl
    rcases hc with rfl | hc
    · rw [hfree] at e; cases e
    · rw [hfree] at hc; cases hc
  rcases hx with hk | hk
  · refine wpAny_storeName_local hk hn (fun h' hn' hs => ?_) hcls
    obtain ⟨oL,_,_,hoL,_⟩:=id hn
    refine h _ ⟨I.ok,I.os,I.bare,⟨fun b o e n hb hx => ?_,fun b o e n hb hx => ?_,I.base.free,fun b o e hx => ?_,I.base.tups,I.base.frzs,I.base.tbls,fun b xs o q e hx => (hs.2 b (Nat.ne_of_lt (Nat.lt_of_lt_of_le (Heap.lt_size e) I.ok.above))).trans (I.base.tupo b xs o q e hx)⟩,⟨_,hn',fun j y v' e1 e2 e3 => ?_⟩,fun y c e => ?_,I.free,I.freeC,fun p hp => ?_,tracked ⟨oL,hoL,I.free⟩ hs,by simpa using I.len⟩ ⟨_,hs,.inl rfl⟩
    · exact (hs.2 b (Nat.ne_of_lt (Nat.lt_of_lt_of_le (Heap.lt_size e) I.ok.above))).trans (I.base.keep b o e n hb hx)
    · obtain ⟨sl,e1⟩:=I.base.slot b o e n hb hx
      exact ⟨sl,(hs.2 b (Nat.ne_of_lt (Nat.lt_of_lt_of_le (Heap.lt_size e) I.ok.above))).trans e1⟩
    · obtain ⟨o',e1⟩:=I.base.there b o e hx
      exact ⟨o',(hs.2 b (Nat.ne_of_lt (Nat.lt_of_lt_of_le (Heap.lt_size e) I.ok.above))).trans e1⟩
    · by_cases hj : j = i
      · subst hj
        rw [hi] at e1; cases e1
        rw [List.getElem?_set_self hiσ] at e2
        cases e2
        exact ⟨u,r,.inl ⟨hk,by simp⟩⟩
      · rw [List.getElem?_set_ne (Ne.symm hj)] at e2
        obtain ⟨u',r',q⟩:=hl j y v' e1 e2 e3
        refine ⟨u',r',?_⟩
        rcases q with ⟨k,e⟩ | ⟨k,c,e,z⟩
        · refine .inl ⟨k,?_⟩
          have : y≠x:=fun e => hj (nodup_ix hN e1 (e ▸ hi))
          simp [this,e]
        · exact .inr ⟨k,c,e,z.sameBut hs (cne y c e)⟩
    · obtain ⟨w',z⟩:=I.cell y c e
      exact ⟨w',z.sameBut hs (cne y c e)⟩
    · obtain ⟨e,n,ne,nf,d⟩:=I.pin p hp
      exact ⟨(hs.2 p.1 ne).trans e,n,ne,nf,d⟩
  · have hfn : X.fn x = true := by
      rcases hf with z | z
      · exact z
      · rw [z] at hk; cases hk
    obtain ⟨c,hc⟩:=I.ok.has x (.inl hk)
    obtain ⟨w',z⟩:=I.cell x c hc
    refine wpAny_storeName_cell I.ok.kind hk hc z (fun h' hc' hs => ?_)
    obtain ⟨oc,hoc,hocd⟩:=id z
    refine h { s with heap:=h' } ⟨I.ok,I.os,I.bare,⟨fun b o e n hb hx => ?_,fun b o e n hb hx => ?_,I.base.free,fun b o e hx => ?_,I.base.tups,I.base.frzs,I.base.tbls,fun b xs o q e hx => (hs.2 b (Nat.ne_of_lt (Nat.lt_of_lt_of_le (Heap.lt_size e) (I.ok.cab x c hfn hc)))).trans (I.base.tupo b xs o q e hx)⟩,⟨m,hn.sameBut hs (Ne.symm (cne x c hc)),fun j y v' e1 e2 e3 => ?_⟩,fun y c' e => ?_,I.free,I.freeC,fun p hp => ?_,tracked ⟨oc,hoc,I.freeC x c hc⟩ hs,by simpa using I.len⟩ ⟨c,hs,.inr hc⟩
    · exact (hs.2 b (Nat.ne_of_lt (Nat.lt_of_lt_of_le (Heap.lt_size e) (I.ok.cab x c hfn hc)))).trans (I.base.keep b o e n hb hx)
    · obtain ⟨sl,e1⟩:=I.base.slot b o e n hb hx
      exact ⟨sl,(hs.2 b (Nat.ne_of_lt (Nat.lt_of_lt_of_le (Heap.lt_size e) (I.ok.cab x c hfn hc)))).trans e1⟩
    · obtain ⟨o',e1⟩:=I.base.there b o e hx
      exact ⟨o',(hs.2 b (Nat.ne_of_lt (Nat.lt_of_lt_of_le (Heap.lt_size e) (I.ok.cab x c hfn hc)))).trans e1⟩
    · by_cases hj : j = i
      · subst hj
        rw [hi] at e1; cases e1
        rw [List.getElem?_set_self hiσ] at e2
        cases e2
        exact ⟨u,r,.inr ⟨.inl hk,c,hc,hc'⟩⟩
      · rw [List.getElem?_set_ne (Ne.symm hj)] at e2
        obtain ⟨u',r',q⟩:=hl j y v' e1 e2 e3
        refine ⟨u',r',?_⟩
        rcases q with q | ⟨k,c',e,z'⟩
        · exact .inl q
        · refine .inr ⟨k,c',e,z'.sameBut hs ?_⟩
          rintro rfl
          exact hj (nodup_ix hN e1 (I.ok.inj _ _ _ e hc ▸ hi))
    · by_cases hcc : c' = c
      · subst hcc; exact ⟨_,hc'⟩
      · obtain ⟨w2,z2⟩:=I.cell y c' e
        exact ⟨w2,z2.sameBut hs hcc⟩
    · obtain ⟨e,n,ne,nf,d⟩:=I.pin p hp
      refine ⟨(hs.2 p.1 ?_).trans e,n,ne,nf,d⟩
      intro q
      rw [q,hoc] at e
      have q' : oc = p.2:=Option.some.inj e
      exact d w' (by rw [← q']; exact hocd)
theorem store_ok {M : Model} {A : Around} {E : Value→Shared→Prop} {i : Nat} {x : Str} {v : V} {u : Value} {Q : Unit→Shared→Prop} (I : Inv X pins σ H s) (hN : X.N.Nodup) (hi : X.N[i]? = some x) (hx : Loc X.env.scope x) (r : RelV v u)
    (h : ∀ s',Inv X pins (σ.set i (some v)) H s'→Q () s') (hf : X.fn x = true∨X.env.scope.names.lookup x = some .local := by first | exact .inl rfl | exact .inr rfl | assumption) : wpAny M A (storeName X.env x u) Q E s :=
  store_ok2 I hN hi hx r (fun s' I' _ => h s' I') hf
theorem Inv.call' {s' : Shared} {ch : List Addr} (I : Inv X pins σ H s) (ho : s'.os = s.os) (u : Un (frs X.stack) ch H H' s.heap s'.heap) (hok : HOk X.prog X.w H' s'.heap) (hg : AllBare s'.gens)
    (hch : ∀ b∈ch,(b∈X.ex∨X.s₀.heap.objs.size≤b)∧b≠X.env.locals∧(∀ x c,X.env.cells.lookup x = some c→c≠b)∧∀ p∈X.pn ++ pins,p.1≠b) : Inv X pins σ H' s' := by
  obtain ⟨h',g',d',t',o'⟩:=s'
  have e : o' = s.os:=ho
  subst e
  exact I.call (g':=g') (t':=t') (d':=d') u hok hg hch
end
abbrev XK:=Value→Option Addr→Hp→Prop
abbrev St:=List (Option V)
abbrev VK:=V→Hp→Prop
abbrev TE:=St→Hp→VK→Prop
abbrev TT:=St→Hp→(Bool→Hp→Prop)→Prop
abbrev TA:=St→Hp→(List V→Hp→Prop)→Prop
structure Ends where
  nx : St→Hp→Prop
  rt : VK
  bk : St→Hp→Prop:=fun _ _ => False
  ct : St→Hp→Prop:=fun _ _ => False
abbrev TS:=Ends→St→Hp→Prop
def EP (X : Cx) (pins : List (Addr×Obj)) (σ : St) (Q : VK) (u : Value) (s' : Shared) : Prop:=∃ v H',Inv X pins σ H' s'∧RelV v u∧Q v H'
def TP (X : Cx) (pins : List (Addr×Obj)) (σ : St) (Q : Bool→Hp→Prop) (b : Bool) (s' : Shared) : Prop:=∃ H',Inv X pins σ H' s'∧Q b H'
def AP (X : Cx) (pins : List (Addr×Obj)) (σ : St) (Q : List V→Hp→Prop) (us : List Value) (s' : Shared) : Prop:=∃ vs H',Inv X pins σ H' s'∧Vals vs us∧Q vs H'
def SP (X : Cx) (pins : List (Addr×Obj)) (D : Ends) (f : Flow) (s' : Shared) : Prop :=
  match f with
  | .next => ∃ σ' H',Inv X pins σ' H' s'∧D.nx σ' H'
  | .brk => ∃ σ' H',Inv X pins σ' H' s'∧D.bk σ' H'
  | .cont => ∃ σ' H',Inv X pins σ' H' s'∧D.ct σ' H'
  | .ret u => ∃ v σ' H',Inv X pins σ' H' s'∧RelV v u∧D.rt v H'
def PE (X : Cx) (e : Expr) (t : TE) : Prop :=
  ∀ (pins : List (Addr×Obj)) (s : Shared) (σ : St) (H : Hp) (Q : VK),Inv X pins σ H s→t σ H Q→wpAny (model X.prog X.w) X.A (eval e X.env) (EP X pins σ Q) X.xe s
def PT (X : Cx) (e : Expr) (t : TT) : Prop :=
  ∀ (pins : List (Addr×Obj)) (s : Shared) (σ : St) (H : Hp) (Q : Bool→Hp→Prop),Inv X pins σ H s→t σ H Q→wpAny (model X.prog X.w) X.A (isTrue e X.env (eval e X.env)) (TP X pins σ Q) X.xe s
def PW (X : Cx) (e : Expr) (t : TT) : Prop :=
  ∀ (whole : Sem Value) (pins : List (Addr×Obj)) (s : Shared) (σ : St) (H : Hp) (Q : Bool→Hp→Prop),Inv X pins σ H s→t σ H Q→wpAny (model X.prog X.w) X.A (isTrue e X.env whole) (TP X pins σ Q) X.xe s
theorem PW.pt {X : Cx} {e : Expr} {t : TT} (h : PW X e t) : PT X e t:=h _
def PA (X : Cx) (es : List Expr) (t : TA) : Prop :=
  ∀ (pos : Pos) (pins : List (Addr×Obj)) (s : Shared) (σ : St) (H : Hp) (Q : List V→Hp→Prop),Inv X pins σ H s→t σ H Q→wpAny (model X.prog X.w) X.A (spliced (backTo pos (starEach es X.env))) (AP X pins σ Q) X.xe s
def PS (X : Cx) (st : Stmt) (t : TS) : Prop :=
  ∀ (pins : List (Addr×Obj)) (s : Shared) (σ : St) (H : Hp) (D : Ends),Inv X pins σ H s→t D σ H→wpAny (model X.prog X.w) X.A (exec st X.env) (SP X pins D) X.xe s
def PSs (X : Cx) (st : List Stmt) (t : TS) : Prop :=
  ∀ (pins : List (Addr×Obj)) (s : Shared) (σ : St) (H : Hp) (D : Ends),Inv X pins σ H s→t D σ H→wpAny (model X.prog X.w) X.A (execs st X.env) (SP X pins D) X.xe s
theorem thn {α : Type} {t : Sem α} {Q Q' : α→Shared→Prop} {M : Model} {A : Around} {E : Value→Shared→Prop} {s : Shared} (h : wpAny M A t Q E s) (hQ : ∀ a s,Q a s→Q' a s) : wpAny M A t Q' E s:=wpAny_mono h hQ fun _ _ x => x
section
variable {X : Cx}
def tVar (i : Nat) : TE:=fun σ H Q => ∃ v,σ[i]? = some (some v)∧Q v H
def tC (v : V) : TE:=fun _ H Q => Q v H
theorem pe_var {i : Nat} {x : Str} {pos : Pos} (hN : X.N[i]? = some x) (hv : Vis X.env.scope x) (hd : (x == ("__debug__" : Str)) = false := by decide) (hcd : (x == ("__classdict__" : Str)) = false := by decide) : PE X (.Name x pos) (tVar i) := by
  intro pins s σ H Q I h
  obtain ⟨v,e,h⟩:=h
  obtain ⟨m,hn,hl⟩:=I.loc
  obtain ⟨u,r,l⟩:=hl i x v hN e hv
  have fin : EP X pins σ Q u s:=⟨v,H,I,r,h⟩
  rcases l with ⟨hk,hm⟩ | ⟨hk,c,hc,hcell⟩
  · exact wpAny_Name (wpAny_loadName_local I.ok.kind hk hn hm fin) hd
  · rcases hk with hk | hk
    · exact wpAny_Name (wpAny_loadName_cell I.ok.kind hk hc hcell fin) hd
    · exact wpAny_Name (wpAny_loadName_free I.ok.kind hk hc hcell fin hcd) hd
theorem pe_int {i j pos} : PE X (.Constant (.int i) j pos) (tC (.int i)):=fun _ _ _ H _ I h => wpAny_Constant_int ⟨.int i,H,I.tok _,⟨_,rfl⟩,h⟩
theorem pe_bl {b j pos} : PE X (.Constant (.bool b) j pos) (tC (.bl b)):=fun _ _ _ H _ I h => Constant_bool ⟨.bl b,H,I,rfl,h⟩
theorem pe_non {j pos} : PE X (.Constant .none j pos) (tC .non):=fun _ _ _ H _ I h => Constant_none ⟨.non,H,I,rfl,h⟩
def Gl (X : Cx) (x : Str) : Prop:=X.env.kindOf x = some .globalImplicit
theorem ld_glob {E : Value→Shared→Prop} {pins : List (Addr×Obj)} {s : Shared} {σ : St} {H : Hp} {x : Str} {u : Value} {pos : Pos} {Q : Value→Shared→Prop} (I : Inv X pins σ H s) (hg : Gl X x) (hm : X.mg x = some u) (h : Q u s)
    (hd : (x == ("__debug__" : Str)) = false := by decide) : wpAny (model X.prog X.w) X.A (eval (.Name x pos) X.env) Q E s :=
  Calls.Name_function_global I.ok.kind hg (Calls.loadGlobal_global (by rw [I.ok.glob]; exact I.mod.glob.keeps I.bk) hm h) hd
theorem ld_blt {E : Value→Shared→Prop} {pins : List (Addr×Obj)} {s : Shared} {σ : St} {H : Hp} {x : Str} {u : Value} {pos : Pos} {Q : Value→Shared→Prop} (I : Inv X pins σ H s) (hg : Gl X x) (hm : X.mg x = none) (hv : bootBuiltins x = some u) (h : Q u s)
    (hn : x ≠ "__name__" := by decide) (hd : (x == ("__debug__" : Str)) = false := by decide) : wpAny (model X.prog X.w) X.A (eval (.Name x pos) X.env) Q E s := by
  obtain ⟨mb,h1,h2⟩:=I.mod.blt
  exact Calls.Name_function_global I.ok.kind hg (Calls.loadGlobal_builtin (by rw [I.ok.glob]; exact I.mod.glob.keeps I.bk) hm (by rw [I.ok.blt]; exact h1.keeps I.bk) ((h2 x hn).trans hv) h) hd
theorem pe_bltn {x : Str} {v : V} {u : Value} {pos : Pos} (hg : Gl X x) (hm : X.mg x = none) (hv : bootBuiltins x = some u) (r : RelV v u) (hn : x ≠ "__name__" := by decide) (hd : (x == ("__debug__" : Str)) = false := by decide) : PE X (.Name x pos) (tC v) :=
  fun _ _ _ H _ I h => ld_blt I hg hm hv ⟨v,H,I,r,h⟩ hn hd
variable {a b : Expr} {ta tb : TE} {pos : Pos}
def tB (t : TE) : TT:=fun σ H Q => t σ H fun x H1 => ∃ c,x = .bl c∧Q c H1
theorem pt_val {e : Expr} {t : TE} (h : PE X e t) (he : ∀ whole,isTrue e X.env whole = (do let v ← whole; standAt e.pos; holding [v] (truthy v)) := by intro _; rfl) : PT X e (tB t) := by
  intro pins s σ H Q I hw
  refine isTrue_plain (thn (h pins s σ H _ I hw) fun v s1 ⟨x,H1,I1,r1,q1⟩ => ?_) (he _)
  obtain ⟨d,rfl,q⟩:=q1
  cases r1
  exact wpAny_truthy_bool ⟨H1,I1,q⟩
variable {tA tB' : TT} {rest : List Expr}
def tOr (t u : TT) : TT:=fun σ H Q => t σ H fun c H1 => if c = true then Q true H1 else u σ H1 Q
def tNot (t : TT) : TT:=fun σ H Q => t σ H fun c H1 => Q (!c) H1
theorem pw_or1 (ha : PT X a tA) : PW X (.BoolOp .Or [a] pos) tA := by
  intro wh pins s σ H Q I h
  refine isTrue_or (thn (ha pins s σ H Q I h) fun c s1 e => ?_)
  cases c with
  | false => exact isTrue_or_nil e
  | true => exact e
theorem pw_or (ha : PT X a tA) (hb : PW X (.BoolOp .Or (b :: rest) pos) tB') : PW X (.BoolOp .Or (a :: b :: rest) pos) (tOr tA tB') := by
  intro wh pins s σ H Q I h
  refine isTrue_or (thn (ha pins s σ H _ I h) fun c s1 ⟨H1,I1,q1⟩ => ?_)
  cases c with
  | true => exact ⟨H1,I1,q1⟩
  | false => exact hb wh pins s1 σ H1 Q I1 q1
theorem pt_not (ha : PT X a tA) : PT X (.UnaryOp .Not a pos) (tNot tA) := by
  intro pins s σ H Q I h
  exact isTrue_not (ha pins s σ H (fun c H1 => Q (!c) H1) I h)
def tAndV (ta tb : TE) : TE:=fun σ H Q => ta σ H fun x H1 => ∃ c,x = .bl c∧if c = true then tb σ H1 Q else Q (.bl false) H1
def tNotV (ta : TE) : TE:=fun σ H Q => ta σ H fun x H1 => ∃ c,x = .bl c∧Q (.bl (!c)) H1
theorem pe_one {op} {t : TE} (h : PE X a t) : PE X (.BoolOp op [a] pos) t:=fun pins s σ H Q I hw => BoolOp_one (h pins s σ H Q I hw)
theorem pe_and (ha : PE X a ta) (hb : PE X (.BoolOp .And (b :: rest) pos) tb) : PE X (.BoolOp .And (a :: b :: rest) pos) (tAndV ta tb) := by
  intro pins s σ H Q I h
  refine BoolOp_and (thn (ha pins s σ H _ I h) fun v s1 ⟨x,H1,I1,r1,q1⟩ => ?_)
  obtain ⟨c,rfl,q1⟩:=q1
  cases r1
  refine wpAny_truthy_bool ?_
  cases c with
  | true => exact hb pins s1 σ H1 Q I1 q1
  | false => exact ⟨.bl false,H1,I1,rfl,q1⟩
theorem pe_not (ha : PE X a ta) : PE X (.UnaryOp .Not a pos) (tNotV ta) := by
  intro pins s σ H Q I h
  refine UnaryOp_ (thn (ha pins s σ H _ I h) fun v s1 ⟨x,H1,I1,r1,q1⟩ => ?_)
  obtain ⟨c,rfl,q1⟩:=q1
  cases r1
  exact not_of (wpAny_truthy_bool ⟨.bl (!c),H1,I1,rfl,q1⟩)
end
def SqL (K : PySem.W.Frag) (H : Hp) (a : Addr) (xs : List V) : Prop :=
  Rd H a (.lst xs) ∨
    ∃ (o : Obj) (its : Array Value) (n : Nat),K.lookup a = some o∧o.cls = .type "list" ∧ o.dict = none∧o.data = .seq its n∧its.size≤sizeLine∧Vals xs its.toList
def SqT (K : PySem.W.Frag) (H : Hp) (a : Addr) (xs : List V) : Prop :=
  Rd H a (.tup xs) ∨
    ∃ (o : Obj) (its : Array Value) (n : Nat),K.lookup a = some o∧o.cls = .type "tuple" ∧ o.data = .seq its n∧its.size≤sizeLine∧Vals xs its.toList
def absV : Value→Option V
  | .none => some .non
  | .bool b => some (.bl b)
  | .int i _ => some (.int i)
  | .str x _ => some (.str x)
  | .bytes b _ => some (.byt b)
  | .float b _ => some (.flt b)
  | .ref a => some (.ref a)
  | .type n => some (.ty n)
  | _ => none
theorem RelV.abs {x : V} {u : Value} (r : RelV x u) : absV u = some x := by
  cases x with
  | non => cases r; rfl
  | bl _ => cases r; rfl
  | int _ => obtain ⟨t,rfl⟩:=r; rfl
  | str _ => obtain ⟨t,rfl⟩:=r; rfl
  | byt _ => obtain ⟨t,rfl⟩:=r; rfl
  | flt _ => obtain ⟨t,rfl⟩:=r; rfl
  | ref _ => cases r; rfl
  | ty _ => cases r; rfl
theorem RelV.inj {x y : V} {u : Value} (r : RelV x u) (q : RelV y u) : x = y:=Option.some.inj (r.abs.symm.trans q.abs)
theorem Vals.inj : ∀ {xs ys : List V} {us : List Value},Vals xs us→Vals ys us→xs = ys
  | _,_,_,.nil,.nil => rfl
  | _,_,_,.cons r t,.cons r' t' => by rw [r.inj r',Vals.inj t t']
section
variable {X : Cx} {pins : List (Addr×Obj)} {σ : St} {H : Hp} {s : Shared} {a : Addr} {xs ys : List V}
theorem SqL.of {K : PySem.W.Frag} (h : H a = some (.lst xs)) : SqL K H a xs:=.inl (.inl h)
theorem SqT.of {K : PySem.W.Frag} (h : H a = some (.tup xs)) : SqT K H a xs:=.inl (.inl h)
theorem Inv.list (I : Inv X pins σ H s) (h : SqL X.K H a xs) : ∃ its : List Value,Vals xs its∧PlainL s.heap a its.toArray∧xs.length≤sizeLine := by
  rcases h with h | ⟨o,its,n,hk,hc,hd,hs,hz,r⟩
  · obtain ⟨z,its,n,r,e⟩:=h.ok I.hok
    exact ⟨its,r,⟨_,n,e,rfl,rfl,rfl⟩,z⟩
  · refine ⟨its.toList,r,⟨o,n,I.kIn a o hk,hc,hd,by simpa using hs⟩,?_⟩
    have e:=r.length
    simp only [Array.length_toList] at e
    lia
theorem Inv.tuple (I : Inv X pins σ H s) (h : SqT X.K H a xs) : ∃ its : List Value,Vals xs its∧IsTup s.heap a its.toArray∧xs.length≤sizeLine := by
  rcases h with h | ⟨o,its,n,hk,hc,hs,hz,r⟩
  · obtain ⟨z,its,r,p⟩:=h.ok I.hok
    exact ⟨its,r,p,z⟩
  · refine ⟨its.toList,r,⟨o,I.kIn a o hk,hc,n,by simpa using hs⟩,?_⟩
    have e:=r.length
    simp only [Array.length_toList] at e
    lia
theorem Inv.list_inj (I : Inv X pins σ H s) (h : SqL X.K H a xs) (h' : SqL X.K H a ys) : xs = ys := by
  obtain ⟨its,r,⟨o,n,e,_,_,d⟩,_⟩:=I.list h
  obtain ⟨its',r',⟨o',n',e',_,_,d'⟩,_⟩:=I.list h'
  rw [e] at e'; cases e'
  rw [d] at d'
  injection d' with d1 _
  have : its = its' := by simpa using congrArg Array.toList d1
  subst this
  exact r.inj r'
end
abbrev Cx.wish (X : Cx) (E : Value→Shared→Prop) : Cx:={ X with xe:=E }
abbrev Cx.nox (X : Cx) : Cx:=X.wish fun _ _ => False
theorem Cx.Ok.wish {X : Cx} (ok : X.Ok) (E : Value→Shared→Prop) : (X.wish E).Ok :=
  ⟨ok.mod,ok.kind,ok.glob,ok.blt,ok.above,ok.inj,ok.has,ok.cab,ok.hd,ok.frames,ok.stk,ok.exf,ok.bs,ok.bsz,ok.noex,ok.exfs,ok.funs,ok.frf,ok.kt⟩
theorem Cx.Ok.unwish {X : Cx} {E : Value→Shared→Prop} (ok : (X.wish E).Ok) : X.Ok :=
  ⟨ok.mod,ok.kind,ok.glob,ok.blt,ok.above,ok.inj,ok.has,ok.cab,ok.hd,ok.frames,ok.stk,ok.exf,ok.bs,ok.bsz,ok.noex,ok.exfs,ok.funs,ok.frf,ok.kt⟩
section
variable {X : Cx} {pins : List (Addr×Obj)} {σ : St} {H : Hp} {s : Shared} {E : Value→Shared→Prop}
theorem Inv.wish (I : Inv X pins σ H s) (E : Value→Shared→Prop) : Inv (X.wish E) pins σ H s:=⟨I.ok.wish E,I.os,I.bare,I.base,I.loc,I.cell,I.free,I.freeC,I.pin,I.hok,I.len⟩
theorem Inv.unwish (I : Inv (X.wish E) pins σ H s) : Inv X pins σ H s:=⟨I.ok.unwish,I.os,I.bare,I.base,I.loc,I.cell,I.free,I.freeC,I.pin,I.hok,I.len⟩
theorem SP.unwish {D : Ends} {f : Flow} {s' : Shared} (h : SP (X.wish E) pins D f s') : SP X pins D f s' := by
  cases f with
  | next => obtain ⟨σ',H',I,q⟩:=h; exact ⟨σ',H',I.unwish,q⟩
  | brk => obtain ⟨σ',H',I,q⟩:=h; exact ⟨σ',H',I.unwish,q⟩
  | cont => obtain ⟨σ',H',I,q⟩:=h; exact ⟨σ',H',I.unwish,q⟩
  | ret u => obtain ⟨v,σ',H',I,r,q⟩:=h; exact ⟨v,σ',H',I.unwish,r,q⟩
theorem PSs.nox {st : List Stmt} {t : TS} (h : PSs X.nox st t) : PSs X st t:=fun pins s σ H D I hw =>
  wpAny_mono (h pins s σ H D (I.wish _) hw) (fun _ _ q => q.unwish) fun _ _ z => False.elim z
end
section
variable {X : Cx} {st : Stmt} {rest : List Stmt} {t u : TS} {e : Expr} {te : TE} {pos : Pos}
def tNext : TS:=fun D σ H => D.nx σ H
def tSeq (t u : TS) : TS:=fun D σ H => t { D with nx:=u D } σ H
theorem pss_nil : PSs X [] tNext:=fun _ _ σ H _ I h => wpAny_execs_nil ⟨σ,H,I,h⟩
theorem pss_cons (h1 : PS X st t) (h2 : PSs X rest u) : PSs X (st :: rest) (tSeq t u) := by
  intro pins s σ H D I h
  refine wpAny_execs_cons (thn (h1 pins s σ H { D with nx:=u D } I h) fun f s1 q => ?_)
  cases f with
  | next =>
    obtain ⟨σ',H',I',q⟩:=q
    exact h2 pins s1 σ' H' D I' q
  | ret v => exact q
  | brk => exact q
  | cont => exact q
theorem pss_one (h1 : PS X st t) : PSs X [st] t := by
  intro pins s σ H D I h
  refine wpAny_execs_cons (thn (h1 pins s σ H D I h) fun f s1 q => ?_)
  cases f with
  | next => exact wpAny_execs_nil q
  | ret v => exact q
  | brk => exact q
  | cont => exact q
theorem Inv.quiet {pins : List (Addr×Obj)} {σ : St} {H : Hp} {s : Shared} (I : Inv X pins σ H s) : interactive X.env = false := by simp [interactive,I.ok.kind]
def tDrop (te : TE) : TS:=fun D σ H => te σ H fun _ H1 => D.nx σ H1
theorem ps_expr (he : PE X e te) (hs : swapsWith e none pos.line X.env = pure false := by rfl) : PS X (.Expr e pos) (tDrop te) := by
  intro pins s σ H D I h
  exact wpAny_Expr_any (thn (he pins s σ H _ I h) fun v s1 ⟨x,H1,I1,r1,q1⟩ => ⟨σ,H1,I1,q1⟩) I.quiet hs
def tRet (te : TE) : TS:=fun D σ H => te σ H D.rt
theorem ps_ret (he : PE X e te) : PS X (.Return (some e) pos) (tRet te) := by
  intro pins s σ H D I h
  exact wpAny_Return_some (thn (he pins s σ H _ I h) fun v s1 ⟨x,H1,I1,r1,q1⟩ => ⟨x,σ,H1,I1,r1,q1⟩)
def tIfS (c : TT) (t u : TS) : TS:=fun D σ H => c σ H fun b H1 => if b = true then t D σ H1 else u D σ H1
theorem ps_if {c : Expr} {a b : List Stmt} {tc : TT} (hc : PT X c tc) (ha : PSs X a t) (hb : PSs X b u) : PS X (.If c a b pos) (tIfS tc t u) := by
  intro pins s σ H D I h
  refine wpAny_If (thn (hc pins s σ H _ I h) fun d s1 ⟨H1,I1,q1⟩ => ?_)
  cases d with
  | true => exact ha pins s1 σ H1 D I1 q1
  | false => exact hb pins s1 σ H1 D I1 q1
def tNever : TS:=fun _ _ _ => False
theorem ps_never : PS X st tNever:=fun _ _ _ _ _ _ h => h.elim
end
abbrev TG:=V→St→Hp→(St→Hp→Prop)→Prop
abbrev TGs:=List V→St→Hp→(St→Hp→Prop)→Prop
def PG (X : Cx) (target : Expr) (t : TG) : Prop :=
  ∀ (pins : List (Addr×Obj)) (s : Shared) (σ : St) (H : Hp) (v : V) (u : Value) (Q : St→Hp→Prop),Inv X pins σ H s→RelV v u→t v σ H Q →
    wpAny (model X.prog X.w) X.A (assign target X.env u) (fun _ s' => ∃ σ' H',Inv X pins σ' H' s'∧Q σ' H') X.xe s
def PGs (X : Cx) (ts : List Expr) (t : TGs) : Prop :=
  ∀ (pins : List (Addr×Obj)) (s : Shared) (σ : St) (H : Hp) (vs : List V) (us : List Value) (Q : St→Hp→Prop),Inv X pins σ H s→Vals vs us→t vs σ H Q →
    wpAny (model X.prog X.w) X.A (assignInOrder ((assignEach ts X.env).map (·.2)) us) (fun _ s' => ∃ σ' H',Inv X pins σ' H' s'∧Q σ' H') X.xe s
abbrev TSet:=V→V→V→Hp→(Hp→Prop)→Prop
def PSet (X : Cx) (t : TSet) : Prop :=
  ∀ (pins : List (Addr×Obj)) (s : Shared) (σ : St) (H : Hp) (o i v : V) (ov iv u : Value) (Q : Hp→Prop),Inv X pins σ H s→RelV o ov→RelV i iv→RelV v u→t o i v H Q →
    wpAny (model X.prog X.w) X.A (setItem ov iv u) (fun _ s' => ∃ H',Inv X pins σ H' s'∧Q H') X.xe s
section
variable {X : Cx} {pos : Pos}
def gName (i : Nat) : TG:=fun v σ H Q => Q (σ.set i (some v)) H
theorem pg_name {i : Nat} {x : Str} (hN : X.N.Nodup) (hi : X.N[i]? = some x) (hx : Loc X.env.scope x) (hf : X.fn x = true∨X.env.scope.names.lookup x = some .local := by first | exact .inl rfl | exact .inr rfl | assumption) : PG X (.Name x pos) (gName i) := by
  intro pins s σ H v u Q I r h
  exact wpAny_assign_Name (store_ok I hN hi hx r (fun s' I' => ⟨_,H,I',h⟩) hf)
def gNil : TGs:=fun vs σ H Q => vs = []∧Q σ H
def gCons (t : TG) (u : TGs) : TGs:=fun vs σ H Q => ∃ v r,vs = v :: r∧t v σ H fun σ' H' => u r σ' H' Q
theorem pgs_nil : PGs X [] gNil := by
  intro pins s σ H vs us Q I r h
  obtain ⟨e,h⟩:=h
  subst e
  cases r
  exact assignInOrder_nil ⟨σ,H,I,h⟩
theorem pgs_cons {e : Expr} {es : List Expr} {t : TG} {u : TGs} (h1 : PG X e t) (h2 : PGs X es u)
    (hs : (assignEach (e :: es) X.env).map (·.2) = assign e X.env :: (assignEach es X.env).map (·.2) := by rfl) : PGs X (e :: es) (gCons t u) := by
  intro pins s σ H vs us Q I r h
  obtain ⟨v,vr,e1,h⟩:=h
  subst e1
  cases r with
  | cons r rr =>
    rw [hs]
    refine assignInOrder_cons (thn (h1 pins s σ H _ _ _ I r h) fun _ s1 ⟨σ1,H1,I1,q1⟩ => ?_)
    exact h2 pins s1 σ1 H1 _ _ Q I1 rr q1
def gTup (K : PySem.W.Frag) (n : Nat) (t : TGs) : TG:=fun v σ H Q => ∃ a xs,v = .ref a∧SqT K H a xs∧xs.length = n∧t xs σ H Q
theorem pg_tup {es : List Expr} {k : Nat} {t : TGs} {n : Nat} (hc : X.calm = true) (h : PGs X es t)
    (hn : (assignEach es X.env).length = n := by rfl) (hst : (assignEach es X.env).findIdx? (·.1) = none := by rfl) : PG X (.Tuple es k pos) (gTup X.K n t) := by
  intro pins s σ H v u Q I r hw
  obtain ⟨a,xs,e1,hq,hl,hw⟩:=hw
  subst e1
  cases r
  obtain ⟨its,rv,ht,hz⟩:=I.tuple hq
  refine assign_Tuple_tuple (I.ok.hd hc) ht (by simp [hn,← hl,rv.length]) hst fun h' hx => ?_
  have I1 : Inv X pins σ H { s with heap:=h' }:=I.kept (t':=s.toks) fun b o e => hx b o (Nat.ne_of_lt (Heap.lt_size e)) e
  exact h pins _ σ H xs _ Q I1 (by simpa using rv) hw
def gSub (to ti : TE) (t : TSet) : TG:=fun v σ H Q => to σ H fun o H1 => ti σ H1 fun i H2 => t o i v H2 fun H3 => Q σ H3
theorem pg_sub {o i : Expr} {to ti : TE} {t : TSet} (ho : PE X o to) (hi : PE X i ti) (hs : PSet X t)
    (ha : ∀ v,assign (.Subscript o i pos) X.env v = (do
      let ov ← holding [v] (eval o X.env)
      let iv ← holding [v,ov] (eval i X.env)
      standAt pos
      holding [v,ov,iv] (setItem ov iv v)
      release [v,ov,iv] []) := by intro _; rfl) : PG X (.Subscript o i pos) (gSub to ti t) := by
  intro pins s σ H v u Q I r h
  rw [ha]
  refine wpAny_bind (wpAny_holding (thn (ho pins s σ H _ I h) fun ov s1 ⟨x,H1,I1,r1,q1⟩ => ?_))
  refine wpAny_bind (wpAny_holding (thn (hi pins s1 σ H1 _ I1 q1) fun iv s2 ⟨y,H2,I2,r2,q2⟩ => ?_))
  refine wpAny_bind (wpAny_standAt (wpAny_bind (wpAny_holding (thn (hs pins s2 σ H2 x y v ov iv u _ I2 r1 r2 r q2) fun _ s3 ⟨H3,I3,q3⟩ => ?_))))
  exact wpAny_release ⟨σ,H3,I3,q3⟩
def tAsg (te : TE) (g : TG) : TS:=fun D σ H => te σ H fun x H1 => g x σ H1 D.nx
theorem ps_asg {tg e : Expr} {te : TE} {g : TG} (he : PE X e te) (hg : PG X tg g) (hs : swapsWithSole [tg] e pos.line X.env = pure false := by rfl) (hw : swappedStores [tg] e X.env = pure none := by rfl)
    (h1 : (assignEach [tg] X.env).map (·.2) = [assign tg X.env] := by rfl) : PS X (.Assign [tg] e pos) (tAsg te g) := by
  intro pins s σ H D I h
  refine wpAny_Assign_stores (thn (he pins s σ H _ I h) fun v s1 ⟨x,H1,I1,r1,q1⟩ => ?_) hs hw
  rw [h1]
  exact thn (hg pins s1 σ H1 x v _ I1 r1 q1) fun _ s2 q => q
theorem ps_set {i : Nat} {x : Str} {e : Expr} {te : TE} {pos' : Pos} (hN : X.N.Nodup) (hi : X.N[i]? = some x) (hx : Loc X.env.scope x) (he : PE X e te) (hs : swapsWith e (some (.Name x pos')) pos.line X.env = pure false := by rfl) (hf : X.fn x = true∨X.env.scope.names.lookup x = some .local := by first | exact .inl rfl | exact .inr rfl | assumption) :
    PS X (.Assign [.Name x pos'] e pos) (tAsg te (gName i)) := by
  intro pins s σ H D I h
  refine wpAny_Assign_Name (thn (he pins s σ H _ I h) fun v s1 ⟨y,H1,I1,r1,q1⟩ => ?_) hs
  exact store_ok I1 hN hi hx r1 (fun s2 I2 => ⟨_,H1,I2,q1⟩) hf
def tPar (i j : Nat) (ta : TA) : TS:=fun D σ H => ta σ H fun vs H1 => ∃ v w,vs = [v,w]∧D.nx ((σ.set i (some v)).set j (some w)) H1
theorem ps_par {i j : Nat} {x y : Str} {a b : Expr} {ta : TA} {px py pt : Pos} {kt k2 pt2} (hc : X.calm = true) (hN : X.N.Nodup) (hi : X.N[i]? = some x) (hj : X.N[j]? = some y) (hij : i≠j)
    (hx : X.env.scope.names.lookup x = some .local) (hy : X.env.scope.names.lookup y = some .local) (ha : PA X [a,b] ta)
    (hw : swappedStores [.Tuple [.Name x px,.Name y py] kt pt] (.Tuple [a,b] k2 pt2) X.env = pure (some [x,y]))
    (hs : swapsWithSole [.Tuple [.Name x px,.Name y py] kt pt] (.Tuple [a,b] k2 pt2) pos.line X.env = pure false := by rfl) :
    PS X (.Assign [.Tuple [.Name x px,.Name y py] kt pt] (.Tuple [a,b] k2 pt2) pos) (tPar i j ta) := by
  intro pins s σ H D I h
  rw [exec_Assign_arm]
  refine wpAny_bind (wpAny_standAt ?_)
  rw [hs]
  refine wpAny_bind (wpAny_pure ?_)
  rw [if_neg (by decide)]
  refine wpAny_bind (Tuple_ (thn (ha _ pins s σ H _ I h) fun us s1 ⟨vs,H1,I1,r1,q1⟩ => ?_))
  obtain ⟨v,w,e1,q1⟩:=q1
  subst e1
  obtain ⟨u1,u2,rfl,rv,rw'⟩ : ∃ u1 u2,us = [u1,u2]∧RelV v u1∧RelV w u2 := by
    cases r1 with
    | cons p q =>
      cases q with
      | cons p' q' =>
        cases q'
        exact ⟨_,_,rfl,p,p'⟩
  refine wpAny_newObj_type ?_ (by show 2≤sizeLine; decide)
  have I2 : Inv X pins σ H1 { s1 with heap:=s1.heap.push { cls:=.type "tuple",data:=.seq [u1,u2].toArray } }:=I1.kept (t':=s1.toks) fun b o e => Heap.get?_push_of_some _ e
  rw [hw]
  refine wpAny_bind (wpAny_pure ?_)
  show wpAny (model X.prog X.w) X.A (do rule "assign.swapped-stores"; let items ← unpackItems (.ref s1.heap.objs.size) 2 none; assignInOrder [fun v => bindName X.env y v,fun v => bindName X.env x v] items.reverse; pure Flow.next) _ _ _
  refine wpAny_bind (wpAny_rule (wpAny_bind (unpackItems_tuple (items:=#[u1,u2]) (I.ok.hd hc) (IsTup.new s1.heap _) fun h' hx' => ?_)))
  have I3:=I2.kept (h':=h') (t':=s1.toks) fun b o e => hx' b o (Nat.ne_of_lt (Heap.lt_size e)) e
  show wpAny _ _ (assignInOrder [fun v => bindName X.env y v,fun v => bindName X.env x v] [u2,u1] >>= fun _ => pure Flow.next) _ _ _
  refine wpAny_bind (assignInOrder_cons (wpAny_bindName (store_ok I3 hN hj (.inl hy) rw' (fun s2 I4 => ?_) (.inr hy))))
  refine assignInOrder_cons (wpAny_bindName (store_ok I4 hN hi (.inl hx) rv (fun s3 I5 => assignInOrder_nil (wpAny_pure ?_)) (.inr hx)))
  rw [List.set_comm _ _ (Ne.symm hij)] at I5
  exact ⟨_,H1,I5,q1⟩
end
section
variable {X : Cx} {pos : Pos}
def tWhile (c : TT) (tb : TS) : TS:=fun D σ H => ∃ W : Nat→St→Hp→Prop,(∃ m,W m σ H)∧∀ m σ H,W m σ H →
  c σ H fun b H1 => if b = true then ∃ N : St→Hp→Prop,(∀ σ' H',N σ' H'→∃ m',m' < m∧W m' σ' H')∧tb { D with nx:=N,ct:=N,bk:=D.nx } σ H1 else D.nx σ H1
theorem ps_while {c : Expr} {body : List Stmt} {tc : TT} {tb : TS} (hp : PassesOwn (model X.prog X.w) X.A X.env X.xe) (hc : PT X c tc) (hb : PSs X body tb) : PS X (.While c body [] pos) (tWhile tc tb) := by
  intro pins s σ H D I h
  obtain ⟨W,⟨m0,w0⟩,turn⟩:=h
  refine wpAny_While (codeAny_whileLoop (fun n s' => ∃ σ' H',Inv X pins σ' H' s'∧W n σ' H') ?_ m0 ⟨σ,H,I,w0⟩)
  rintro n s1 ⟨σ1,H1,I1,w1⟩
  refine wpAny_passesOwn hp (thn (hc pins s1 σ1 H1 _ I1 (turn n σ1 H1 w1)) fun b s2 ⟨H2,I2,q2⟩ => ?_)
  cases b with
  | true =>
    obtain ⟨N,hN,q2⟩:=q2
    rw [if_pos rfl]
    refine wpAny_passesOwn hp (thn (hb pins s2 σ1 H2 _ I2 q2) fun f s3 q3 => ?_)
    cases f with
    | next =>
      obtain ⟨σ3,H3,I3,n3⟩:=q3
      obtain ⟨m',hm,w3⟩:=hN σ3 H3 n3
      exact ⟨m',hm,σ3,H3,I3,w3⟩
    | cont =>
      obtain ⟨σ3,H3,I3,n3⟩:=q3
      obtain ⟨m',hm,w3⟩:=hN σ3 H3 n3
      exact ⟨m',hm,σ3,H3,I3,w3⟩
    | brk => exact q3
    | ret v => exact q3
  | false =>
    rw [if_neg Bool.false_ne_true]
    exact wpAny_execs_nil ⟨σ1,H2,I2,q2⟩
end
structure It where
  go : Nat→Hp→Prop
  yld : Nat→Hp→V→Hp→Prop
  stop : Nat→Hp→Prop
def FpOk (X : Cx) (pins : List (Addr×Obj)) (H : Hp) (b : Addr) : Prop :=
  H b = none∧b≠X.env.locals∧b ∉ X.fs∧(b∈X.ex∨X.s₀.heap.objs.size≤b)∧(∀ x c,X.env.cells.lookup x = some c→c≠b)∧∀ p∈X.pn ++ pins,p.1≠b
theorem Inv.fpOk {X : Cx} {pins : List (Addr×Obj)} {σ : St} {H H' : Hp} {s : Shared} {b : Addr} (I : Inv X pins σ H s) (hb : s.heap.objs.size≤b) (hn : H' b = none) : FpOk X pins H' b := by
  refine ⟨hn,Nat.ne_of_gt (Nat.lt_of_lt_of_le I.lt hb),I.nofs hb,.inr (Nat.le_trans I.sz hb),fun x c e z => ?_,fun p hp z => ?_⟩
  · obtain ⟨v,q⟩:=I.cell x c e
    exact absurd (Nat.lt_of_lt_of_le q.lt (by rw [z]; exact hb)) (Nat.lt_irrefl _)
  · exact absurd (Nat.lt_of_lt_of_le (Heap.lt_size (I.pin p hp).1) (by rw [z]; exact hb)) (Nat.lt_irrefl _)
structure Turn (P : Program) (w : World) (K : PySem.W.Frag) (tg : Expr) (J : It) (fp : List Addr) (it : Addr) (tn : Nat→Heap→Prop) : Prop where
  mem : it∈fp
  obj : ∀ i h,tn i h→∀ b∈fp,∃ o,h.get? b = some o∧∀ v,o.data≠.cell v
  keep : ∀ i h h',tn i h→(∀ b∈fp,∀ o,h.get? b = some o→h'.get? b = some o)→tn i h'
  item : ∀ (X : Cx),X.prog = P→X.w = w→X.K = K→X.calm = true→∀ (i : Nat) (pins : List (Addr×Obj)) (s : Shared) (σ : St) (H : Hp) (E : Value→Shared→Prop),Inv X pins σ H s→(∀ b∈fp,FpOk X pins H b)→tn i s.heap→J.go i H →
    wpAny (model P w) X.A (pyNext (.ref it)) (fun r s1 => ∃ u,r = some u ∧
      wpAny (model P w) X.A (letOwnedTupleGo tg (.ref it) u) (fun _ s2 => ∃ x H',Inv X pins σ H' s2∧RelV x u∧J.yld i H x H'∧tn (i + 1) s2.heap∧∀ b∈fp,H' b = none) E s1) E s
  done : ∀ (X : Cx),X.prog = P→X.w = w→X.K = K→X.calm = true→∀ (i : Nat) (pins : List (Addr×Obj)) (s : Shared) (σ : St) (H : Hp) (E : Value→Shared→Prop),Inv X pins σ H s→(∀ b∈fp,FpOk X pins H b)→tn i s.heap→J.stop i H →
    wpAny (model P w) X.A (pyNext (.ref it)) (fun r s1 => r = none∧Inv X pins σ H s1) E s
  self : ∀ (A : Around) (i : Nat) (s : Shared) (Q : Value→Shared→Prop) (E : Value→Shared→Prop),tn i s.heap→Q (.ref it) s→wpAny (model P w) A (pyIter (.ref it)) Q E s
abbrev TI:=St→Hp→(It→Hp→Prop)→Prop
def PIE (X : Cx) (pins : List (Addr×Obj)) (σ : St) (tg : Expr) (R : It→Hp→Prop) (itv : Value) (s2 : Shared) : Prop :=
  ∃ (it : Addr) (fp : List Addr) (tn : Nat→Heap→Prop) (J : It) (H' : Hp),itv = .ref it∧Inv X pins σ H' s2∧Turn X.prog X.w X.K tg J fp it tn∧tn 0 s2.heap∧(∀ b∈fp,FpOk X pins H' b)∧R J H'
def PI (X : Cx) (tg iter : Expr) (wi : TI) : Prop :=
  ∀ (pins : List (Addr×Obj)) (s : Shared) (σ : St) (H : Hp) (R : It→Hp→Prop),Inv X pins σ H s→wi σ H R →
    wpAny (model X.prog X.w) X.A (eval iter X.env) (fun v s1 => wpAny (model X.prog X.w) X.A (pyIter v) (PIE X pins σ tg R) X.xe s1) X.xe s
theorem go_of {M : Model} {A : Around} {E : Value→Shared→Prop} {s : Shared} {tg : Expr} {it : Addr} {u : Value} {o : Obj} {n : String} {vs : Array Value} {Q : Unit→Shared→Prop} (ho : s.heap.get? it = some o) (hc : o.cls = .type n) (hd : o.data = .fields vs)
    (hn : ["enumerate", "zip", "dict_itemiterator", "dict_reverseitemiterator", "odict_iterator", "itertools.zip_longest", "itertools.pairwise"].contains n = false) (hQ : Q () s) : wpAny M A (letOwnedTupleGo tg (.ref it) u) Q E s := by
  unfold letOwnedTupleGo
  cases tg <;> first
    | exact wpAny_pure hQ
    | (cases u <;> first
        | exact wpAny_pure hQ
        | (refine wpAny_bind (wpAny_load ho ?_)
           rw [hc,hd]
           show wpAny M A (if (["enumerate", "zip", "dict_itemiterator", "dict_reverseitemiterator", "odict_iterator", "itertools.zip_longest", "itertools.pairwise"].contains n && vs[0]? == some (rawInt _)) = true then _ else _) Q E s
           rw [if_neg (by intro h; rw [hn,Bool.false_and] at h; cases h)]
           exact wpAny_pure hQ))
def Itl (K : PySem.W.Frag) (a : Addr) : It :=
  ⟨fun i H => ∃ xs x,SqL K H a xs∧xs[i]? = some x,fun i H x H' => H' = H∧∀ xs,SqL K H a xs→xs[i]? = some x,fun i H => ∃ xs,SqL K H a xs∧xs.length≤i⟩
def Itr (lo : Int) (n : Nat) : It:=⟨fun i _ => i < n,fun i H x H' => H' = H∧x = .int (lo + i),fun i _ => n≤i⟩
theorem turn_list {P : Program} {w : World} {K : PySem.W.Frag} {tg : Expr} (a it : Addr) : Turn P w K tg (Itl K a) [it] it (fun i h => h.IsListIter it a i) where
  mem := by simp
  obj:=fun i h st b hb => by
    have e : b = it := by simpa using hb
    subst e
    obtain ⟨o,e,c,d⟩:=st
    exact ⟨o,e,fun v z => by rw [d] at z; cases z⟩
  keep:=fun i h h' st k => st.at fun o e => k it (by simp) o e
  item := by
    intro X hP hw hK hc i pins s σ H E I hf st hg
    subst hP hw hK
    obtain ⟨xs,x,hq,hx⟩:=hg
    obtain ⟨its,rv,p,hz⟩:=I.list hq
    obtain ⟨u,hu,ru⟩:=rv.get hx
    obtain ⟨f0,f1,f2,f3,f4,f5⟩:=hf it (by simp)
    refine wpAny_pyNext_list_item st p.isList (x:=u) (by simpa using hu) fun h' st' sb => ?_
    have I1 : Inv X pins σ H { s with heap:=h' }:=I.turned (t':=s.toks) (fun b o hb e => (sb.2 b hb).trans e) f0 f1 f3 f4 f5
    obtain ⟨o,e,c,d⟩:=id st'
    exact ⟨u,rfl,go_of (s:={ s with heap:=h' }) e c d (by decide) ⟨x,H,I1,ru,⟨rfl,fun ys hy => by rw [I.list_inj hy hq]; exact hx⟩,st',fun b hb => (hf b hb).1⟩⟩
  done := by
    intro X hP hw hK hc i pins s σ H E I hf st hg
    subst hP hw hK
    obtain ⟨xs,hq,hx⟩:=hg
    obtain ⟨its,rv,p,hz⟩:=I.list hq
    obtain ⟨f0,f1,f2,f3,f4,f5⟩:=hf it (by simp)
    have hl:=rv.length
    exact wpAny_pyNext_list_end (I.ok.hd hc) st p.isList (by simp; lia) fun h' eb => ⟨rfl,I.turned (t':=s.toks) (fun b o hb e => eb b o hb e) f0 f1 f3 f4 f5⟩
  self:=fun _ _ _ _ _ st h => wpAny_pyIter_listiter st h
theorem turn_range {P : Program} {w : World} {K : PySem.W.Frag} {tg : Expr} (it : Addr) (lo : Int) (n : Nat) : Turn P w K tg (Itr lo n) [it] it (fun i h => IsRangeIter h it (lo + (i : Nat) * 1) ((n : Int) - (i : Nat)) 1) where
  mem := by simp
  obj:=fun i h st b hb => by
    have e : b = it := by simpa using hb
    subst e
    exact ⟨_,st,fun v z => by
      have z' : Data.fields _ = Data.cell v:=z
      cases z'⟩
  keep:=fun i h h' st k => k it (by simp) _ st
  item := by
    intro X hP hw hK hc i pins s σ H E I hf st hg
    subst hP hw hK
    obtain ⟨f0,f1,f2,f3,f4,f5⟩:=hf it (by simp)
    have W:=Walks.range (prog:=X.prog) (w:=X.w) (I.ok.hd hc) it lo 1 n
    refine W.item i s _ _ hg st fun v h' tk hv st' kk => ?_
    obtain ⟨t,rfl⟩:=hv
    have I1 : Inv X pins σ H { s with heap:=h',toks:=tk }:=I.turned (fun b o hb e => kk b o (by simpa using hb) e) f0 f1 f3 f4 f5
    refine ⟨_,rfl,go_of (s:={ s with heap:=h',toks:=tk }) (n := "range_iterator") st' rfl rfl (by decide) ⟨.int (lo + i),H,I1,⟨t,?_⟩,⟨rfl,rfl⟩,st',fun b hb => (hf b hb).1⟩⟩
    rw [Int.mul_one]
  done := by
    intro X hP hw hK hc i pins s σ H E I hf st hg
    subst hP hw hK
    obtain ⟨f0,f1,f2,f3,f4,f5⟩:=hf it (by simp)
    exact wpAny_pyNext_range_end (I.ok.hd hc) st (by have : n≤i:=hg; lia) fun h' eb => ⟨rfl,I.turned (t':=s.toks) (fun b o hb e => eb b o hb e) f0 f1 f3 f4 f5⟩
  self:=fun _ _ _ _ _ st h => wpAny_pyIter_rangeiter st h
section
variable {X : Cx} {tg : Expr}
def iList (K : PySem.W.Frag) (tl : TE) : TI:=fun σ H R => tl σ H fun x H1 => ∃ a,x = .ref a∧(∃ xs,SqL K H1 a xs)∧R (Itl K a) H1
theorem pi_list {l : Expr} {tl : TE} (hl : PE X l tl) : PI X tg l (iList X.K tl) := by
  intro pins s σ H R I h
  refine thn (hl pins s σ H _ I h) fun v s1 ⟨x,H1,I1,r1,q1⟩ => ?_
  obtain ⟨a,e,⟨xs,hq⟩,q⟩:=q1
  subst e
  cases r1
  obtain ⟨its,rv,p,hz⟩:=I1.list hq
  refine wpAny_pyIter_list p.isList ?_
  refine ⟨s1.heap.objs.size,[s1.heap.objs.size],_,_,H1,rfl,I1.kept (t':=s1.toks) fun b o e => Heap.get?_push_of_some _ e,turn_list a _,⟨_,Heap.get?_push_size _ rfl,rfl,rfl⟩,fun b hb => ?_,q⟩
  have e : b = s1.heap.objs.size := by simpa using hb
  subst e
  exact I1.fpOk (Nat.le_refl _) (I1.hok.fresh (Nat.le_refl _))
theorem range_it {pins : List (Addr×Obj)} {σ : St} {H : Hp} {s : Shared} {R : It→Hp→Prop} {E : Value→Shared→Prop} {lo hi : Int} {t u v : Tok} {tk : Nat} (I : Inv X pins σ H s) (h1 : -(2 ^ 62)≤lo) (h2 : lo < 2 ^ 62) (h3 : -(2 ^ 62)≤hi) (h4 : hi < 2 ^ 62)
    (q : R (Itr lo (hi - lo).toNat) H) : wpAny (model X.prog X.w) X.A (pyIter (.ref s.heap.objs.size)) (PIE X pins σ tg R) E { s with heap:=s.heap.push { cls:=.type "range",data:=.fields #[.int lo t,.int hi u,.int 1 v] },toks:=tk } := by
  refine wpAny_pyIter_range (IsRange.new ..) (small_one h1 h2 h3 h4) ?_
  have I1 : Inv X pins σ H { s with heap:=s.heap.push { cls:=.type "range",data:=.fields #[.int lo t,.int hi u,.int 1 v] },toks:=tk }:=I.kept fun b o e => Heap.get?_push_of_some _ e
  refine ⟨(s.heap.push { cls:=.type "range",data:=.fields #[.int lo t,.int hi u,.int 1 v] }).objs.size,[(s.heap.push { cls:=.type "range",data:=.fields #[.int lo t,.int hi u,.int 1 v] }).objs.size],_,_,H,rfl,
    I1.kept (t':=tk) fun b o e => Heap.get?_push_of_some _ e,turn_range _ lo (hi - lo).toNat,?_,fun b hb => ?_,q⟩
  · have e1 : lo + ((0 : Nat) : Int) * 1 = lo := by simp
    have e2 : (((hi - lo).toNat : Nat) : Int) - ((0 : Nat) : Int) = Builtin.Range.rangeSize lo hi 1 := by rw [rangeSize_one]; split <;> lia
    show IsRangeIter _ _ (lo + ((0 : Nat) : Int) * 1) ((((hi - lo).toNat : Nat) : Int) - ((0 : Nat) : Int)) 1
    rw [e1,e2]
    exact Heap.get?_push_size _ rfl
  · have e : b = (s.heap.push { cls:=.type "range",data:=.fields #[.int lo t,.int hi u,.int 1 v] }).objs.size := by simpa using hb
    subst e
    exact I1.fpOk (Nat.le_refl _) (I1.hok.fresh (Nat.le_refl _))
def iRng1 (ta : TA) : TI:=fun σ H R => ta σ H fun vs H1 => ∃ j : Int,vs = [.int j]∧-(2 ^ 62)≤j∧j < 2 ^ 62∧R (Itr 0 j.toNat) H1
theorem pi_range1 {a : Expr} {ta : TA} {p pos : Pos} (hg : Gl X "range") (hm : X.mg "range" = none) (ha : PA X [a] ta) (hs : starEach [a] X.env = [(false,eval a X.env)] := by rfl) : PI X tg (.Call (.Name "range" p) [a] [] pos) (iRng1 ta) := by
  intro pins s σ H R I h
  refine Call_ (ld_blt I hg hm boot_range (PyProof.Rows.callWith_type1 (thn (ha pos pins s σ H _ I h) fun us s1 ⟨vs,H1,I1,r1,q1⟩ => ?_) hs rfl))
  obtain ⟨j,e,q1,q2,q⟩:=q1
  subst e
  cases r1 with
  | cons r rr =>
    cases rr
    obtain ⟨t,rfl⟩:=r
    exact call_range_1 (range_it I1 (by lia) (by lia) q1 q2 (by simpa using q))
def tFor (wi : TI) (g : TG) (tb : TS) : TS:=fun D σ H => wi σ H fun J H1 => ∃ W : Nat→Nat→St→Hp→Prop,(∃ m,W 0 m σ H1)∧∀ i m σ H,W i m σ H →
  (J.stop i H∧D.nx σ H)∨(J.go i H∧∃ N : St→Hp→Prop,(∀ σ' H',N σ' H'→∃ m',m' < m∧W (i + 1) m' σ' H')∧∀ x H',J.yld i H x H'→g x σ H' fun σ2 H2 => tb { D with nx:=N,ct:=N,bk:=D.nx } σ2 H2)
def pinsAt (fp : List Addr) (h : Heap) : List (Addr×Obj):=fp.filterMap fun b => (h.get? b).map fun o => (b,o)
theorem mem_pinsAt {fp : List Addr} {h : Heap} {b : Addr} {o : Obj} (hb : b∈fp) (e : h.get? b = some o) : (b,o)∈pinsAt fp h:=List.mem_filterMap.mpr ⟨b,hb,by rw [e]; rfl⟩
theorem of_pinsAt {fp : List Addr} {h : Heap} {p : Addr×Obj} (hp : p∈pinsAt fp h) : p.1∈fp∧h.get? p.1 = some p.2 := by
  obtain ⟨b,hb,e⟩:=List.mem_filterMap.mp hp
  cases q : h.get? b with
  | none => rw [q] at e; cases e
  | some o =>
    rw [q] at e
    have e' : (b,o) = p:=Option.some.inj e
    subst e'
    exact ⟨hb,q⟩
theorem Inv.pinned {pins : List (Addr×Obj)} {σ : St} {H : Hp} {s : Shared} {fp : List Addr} (I : Inv X pins σ H s) (hf : ∀ b∈fp,FpOk X pins H b) (ho : ∀ b∈fp,∃ o,s.heap.get? b = some o∧∀ v,o.data≠.cell v) : Inv X (pins ++ pinsAt fp s.heap) σ H s :=
  I.pins_of fun p hp => (List.mem_append.mp hp).elim (fun z => I.pin p (List.mem_append_right _ z)) fun z => by
    obtain ⟨hb,e⟩:=of_pinsAt z
    obtain ⟨f0,f1,f2,_⟩:=hf p.1 hb
    obtain ⟨o,e',d⟩:=ho p.1 hb
    rw [e] at e'; cases e'
    exact ⟨e,f0,f1,f2,d⟩
theorem Inv.unpinned {pins pl : List (Addr×Obj)} {σ : St} {H : Hp} {s : Shared} (I : Inv X (pins ++ pl) σ H s) : Inv X pins σ H s:=I.pins_of fun p hp => I.pin p (List.mem_append_right _ (List.mem_append_left _ hp))
theorem ps_for {iter : Expr} {body : List Stmt} {wi : TI} {g : TG} {tb : TS} {pos : Pos} (hp : PassesOwn (model X.prog X.w) X.A X.env X.xe) (hc : X.calm = true) (hi : PI X tg iter wi) (hg : PG X tg g) (hb : PSs X body tb)
    (hs : ∀ x,foldedSetIterable iter X.env x = pure x := by intro _; rfl) : PS X (.For tg iter body [] pos) (tFor wi g tb) := by
  intro pins s σ H D I h
  refine wpAny_For (thn (hi pins s σ H _ I h) fun v s1 h1 => thn h1 fun itv s2 h2 => ?_) hs
  obtain ⟨it,fp,tn,J,H2,e,I2,T,st2,f2,W,⟨m0,w0⟩,turn⟩:=h2
  subst e
  have stat : ∀ {H' : Hp},(∀ b∈fp,H' b = none)→∀ b∈fp,FpOk X pins H' b:=fun hn b hb => ⟨hn b hb,(f2 b hb).2⟩
  refine codeAny_forLoop_any (fun n s' => ∃ i σ' H',Inv X pins σ' H' s'∧tn i s'.heap∧(∀ b∈fp,H' b = none)∧W i n σ' H') ?_ m0 ⟨0,σ,H2,I2,st2,fun b hb => (f2 b hb).1,w0⟩
  rintro n s3 ⟨i,σ3,H3,I3,st3,fr3,w3⟩
  rcases turn i n σ3 H3 w3 with ⟨stop,qn⟩ | ⟨go,N,hN,step⟩
  · refine wpAny_passesOwn hp (thn (T.done X rfl rfl rfl hc i pins s3 σ3 H3 X.xe I3 (stat fr3) st3 stop) fun r s4 ⟨hr,I4⟩ => ?_)
    subst hr
    exact wpAny_execs_nil ⟨σ3,H3,I4,qn⟩
  · refine wpAny_passesOwn hp (thn (T.item X rfl rfl rfl hc i pins s3 σ3 H3 X.xe I3 (stat fr3) st3 go) fun r s4 ⟨u,hr,h4⟩ => ?_)
    subst hr
    refine wpAny_passesOwn hp (thn h4 fun _ s5 ⟨x,H5,I5,r5,y5,st5,fr5⟩ => ?_)
    have I5':=I5.pinned (stat fr5) (T.obj _ _ st5)
    refine wpAny_passesOwn hp (thn (hg _ s5 σ3 H5 x u _ I5' r5 (step x H5 y5)) fun _ s6 ⟨σ6,H6,I6,q6⟩ => ?_)
    refine wpAny_passesOwn hp (thn (hb _ s6 σ6 H6 _ I6 q6) fun f s7 q7 => ?_)
    have again : ∀ {σ7 : St} {H7 : Hp},Inv X (pins ++ pinsAt fp s5.heap) σ7 H7 s7→N σ7 H7→∃ m,m < n∧∃ i σ' H',Inv X pins σ' H' s7∧tn i s7.heap∧(∀ b∈fp,H' b = none)∧W i m σ' H':=fun {σ7 H7} I7 n7 => by
      obtain ⟨m',hm,w7⟩:=hN σ7 H7 n7
      refine ⟨m',hm,i + 1,σ7,H7,I7.unpinned,T.keep _ _ _ st5 fun b hb o e => (I7.pin (b,o) (List.mem_append_right _ (List.mem_append_right _ (mem_pinsAt hb e)))).1,fun b hb => ?_,w7⟩
      obtain ⟨o,e,d⟩:=T.obj _ _ st5 b hb
      exact (I7.pin (b,o) (List.mem_append_right _ (List.mem_append_right _ (mem_pinsAt hb e)))).2.1
    cases f with
    | next => obtain ⟨σ7,H7,I7,n7⟩:=q7; exact again I7 n7
    | cont => obtain ⟨σ7,H7,I7,n7⟩:=q7; exact again I7 n7
    | brk => obtain ⟨σ7,H7,I7,q7⟩:=q7; exact ⟨σ7,H7,I7.unpinned,q7⟩
    | ret v => obtain ⟨x7,σ7,H7,I7,r7,q7⟩:=q7; exact ⟨x7,σ7,H7,I7.unpinned,r7,q7⟩
end
theorem for_list {K : PySem.W.Frag} {a : Addr} {xs : List V} {g : TG} {tb : TS} {D : Ends} {σ : St} {H : Hp} (Pv : Nat→St→Hp→Prop) (h0 : Pv 0 σ H) (hl : ∀ i σ H,i≤xs.length→Pv i σ H→SqL K H a xs)
    (hs : ∀ i x σ H,xs[i]? = some x→Pv i σ H→g x σ H fun σ2 H2 => tb { D with nx:=Pv (i + 1),ct:=Pv (i + 1),bk:=D.nx } σ2 H2) (hd : ∀ σ H,Pv xs.length σ H→D.nx σ H) :
    ∃ W : Nat→Nat→St→Hp→Prop,(∃ m,W 0 m σ H)∧∀ i m σ H,W i m σ H →
      ((Itl K a).stop i H∧D.nx σ H)∨((Itl K a).go i H∧∃ N : St→Hp→Prop,(∀ σ' H',N σ' H'→∃ m',m' < m∧W (i + 1) m' σ' H')∧∀ x H',(Itl K a).yld i H x H'→g x σ H' fun σ2 H2 => tb { D with nx:=N,ct:=N,bk:=D.nx } σ2 H2) := by
  refine ⟨fun i m σ H => m = xs.length - i∧i≤xs.length∧Pv i σ H,⟨xs.length,by simp,Nat.zero_le _,h0⟩,?_⟩
  rintro i m σ H ⟨rfl,hi,p⟩
  have q:=hl i σ H hi p
  by_cases hlt : i < xs.length
  · refine .inr ⟨⟨xs,xs[i],q,by simp [hlt]⟩,Pv (i + 1),fun σ' H' p' => ⟨xs.length - (i + 1),by lia,rfl,hlt,p'⟩,fun x H' y => ?_⟩
    obtain ⟨e,y⟩:=y
    subst e
    exact hs i x σ _ (y xs q) p
  · have e : i = xs.length := by lia
    subst e
    exact .inl ⟨⟨xs,q,Nat.le_refl _⟩,hd σ H p⟩
theorem for_range {lo : Int} {n : Nat} {g : TG} {tb : TS} {D : Ends} {σ : St} {H : Hp} (Pv : Nat→St→Hp→Prop) (h0 : Pv 0 σ H)
    (hs : ∀ i σ H,i < n→Pv i σ H→g (.int (lo + i)) σ H fun σ2 H2 => tb { D with nx:=Pv (i + 1),ct:=Pv (i + 1),bk:=D.nx } σ2 H2) (hd : ∀ σ H,Pv n σ H→D.nx σ H) :
    ∃ W : Nat→Nat→St→Hp→Prop,(∃ m,W 0 m σ H)∧∀ i m σ H,W i m σ H →
      ((Itr lo n).stop i H∧D.nx σ H)∨((Itr lo n).go i H∧∃ N : St→Hp→Prop,(∀ σ' H',N σ' H'→∃ m',m' < m∧W (i + 1) m' σ' H')∧∀ x H',(Itr lo n).yld i H x H'→g x σ H' fun σ2 H2 => tb { D with nx:=N,ct:=N,bk:=D.nx } σ2 H2) := by
  refine ⟨fun i m σ H => m = n - i∧i≤n∧Pv i σ H,⟨n,by simp,Nat.zero_le _,h0⟩,?_⟩
  rintro i m σ H ⟨rfl,hi,p⟩
  by_cases hlt : i < n
  · refine .inr ⟨hlt,Pv (i + 1),fun σ' H' p' => ⟨n - (i + 1),by lia,rfl,hlt,p'⟩,fun x H' y => ?_⟩
    obtain ⟨e,y⟩:=y
    subst e y
    exact hs i σ _ hlt p
  · have e : i = n := by lia
    subst e
    exact .inl ⟨Nat.le_refl _,hd σ H p⟩
theorem while_by {c : TT} {tb : TS} {D : Ends} {σ : St} {H : Hp} (Pv : St→Hp→Prop) (μ : St→Hp→Nat) (h0 : Pv σ H)
    (hs : ∀ σ H,Pv σ H→c σ H fun b H1 => if b = true then tb { D with nx:=fun σ' H' => Pv σ' H'∧μ σ' H' < μ σ H,ct:=fun σ' H' => Pv σ' H'∧μ σ' H' < μ σ H,bk:=D.nx } σ H1 else D.nx σ H1)
    (mono : ∀ σ H Q Q',(∀ b H1,Q b H1→Q' b H1)→c σ H Q→c σ H Q') : tWhile c tb D σ H := by
  refine ⟨fun m σ H => m = μ σ H∧Pv σ H,⟨_,rfl,h0⟩,?_⟩
  rintro m σ H ⟨rfl,p⟩
  refine mono σ H _ _ (fun b H1 q => ?_) (hs σ H p)
  cases b with
  | true => exact ⟨_,fun σ' H' ⟨p',l⟩ => ⟨_,l,rfl,p'⟩,q⟩
  | false => exact q
abbrev R2:=V→V→Hp→VK→Prop
def OpR (X : Cx) (f : Value→Value→Sem Value) (r : R2) : Prop :=
  ∀ (pins : List (Addr×Obj)) (s : Shared) (σ : St) (H : Hp) (x y : V) (v u : Value) (Q : VK),Inv X pins σ H s→RelV x v→RelV y u→r x y H Q →
    wpAny (model X.prog X.w) X.A (f v u) (EP X pins σ Q) X.xe s
def UnR (X : Cx) (f : Value→Sem Value) (r : V→Hp→VK→Prop) : Prop :=
  ∀ (pins : List (Addr×Obj)) (s : Shared) (σ : St) (H : Hp) (x : V) (v : Value) (Q : VK),Inv X pins σ H s→RelV x v→r x H Q →
    wpAny (model X.prog X.w) X.A (f v) (EP X pins σ Q) X.xe s
def CallR (X : Cx) (f : Value) (r : List V→Hp→VK→Prop) : Prop :=
  ∀ (pins : List (Addr×Obj)) (s : Shared) (σ : St) (H : Hp) (xs : List V) (us : List Value) (Q : VK),Inv X pins σ H s→Vals xs us→r xs H Q →
    wpAny (model X.prog X.w) X.A (call f us) (EP X pins σ Q) X.xe s
def tOp (r : R2) (ta tb : TE) : TE:=fun σ H Q => ta σ H fun x H1 => tb σ H1 fun y H2 => r x y H2 Q
def tUn (r : V→Hp→VK→Prop) (ta : TE) : TE:=fun σ H Q => ta σ H fun x H1 => r x H1 Q
def rI (C : Int→Int→Prop) (g : Int→Int→V) : R2:=fun x y H Q => ∃ i j,x = .int i∧y = .int j∧C i j∧Q (g i j) H
def rI0 (g : Int→Int→V) : R2:=fun x y H Q => ∃ i j,x = .int i∧y = .int j∧Q (g i j) H
def rU (g : Int→V) : V→Hp→VK→Prop:=fun x H Q => ∃ i,x = .int i∧Q (g i) H
section
variable {X : Cx} {a b : Expr} {ta tb : TE} {pos : Pos}
theorem binT (ha : PE X a ta) (hb : PE X b tb) {pins : List (Addr×Obj)} {s : Shared} {σ : St} {H : Hp} {R : V→V→Hp→Prop} (I : Inv X pins σ H s)
    (h : ta σ H fun x H1 => tb σ H1 fun y H2 => R x y H2) {Q : Value→Shared→Prop} {f : Value→Value→Sem Value}
    (hf : ∀ v u s2 x y H2,Inv X pins σ H2 s2→RelV x v→RelV y u→R x y H2→wpAny (model X.prog X.w) X.A (f v u) Q X.xe s2) :
    wpAny (model X.prog X.w) X.A (eval a X.env) (fun v s₁ => wpAny (model X.prog X.w) X.A (eval b X.env) (fun u s₂ => wpAny (model X.prog X.w) X.A (f v u) Q X.xe s₂) X.xe s₁) X.xe s := by
  refine thn (ha pins s σ H _ I h) fun v s1 ⟨x,H1,I1,r1,q1⟩ => ?_
  refine thn (hb pins s1 σ H1 _ I1 q1) fun u s2 ⟨y,H2,I2,r2,q2⟩ => ?_
  exact hf v u s2 x y H2 I2 r1 r2 q2
theorem pe_op {op : Operator} {r : R2} (ho : OpR X (binaryOp op) r) (ha : PE X a ta) (hb : PE X b tb) : PE X (.BinOp a op b pos) (tOp r ta tb) := by
  intro pins s σ H Q I h
  exact wpAny_BinOp (binT ha hb I h fun v u s2 x y H2 I2 rx ry q => ho pins s2 σ H2 x y v u Q I2 rx ry q)
theorem pe_un {op : UnaryOp} {r : V→Hp→VK→Prop} (ho : UnR X (unaryOp op) r) (ha : PE X a ta) : PE X (.UnaryOp op a pos) (tUn r ta) := by
  intro pins s σ H Q I h
  exact UnaryOp_ (thn (ha pins s σ H _ I h) fun v s1 ⟨x,H1,I1,r1,q1⟩ => ho pins s1 σ H1 x v Q I1 r1 q1)
theorem opI {f : Value→Value→Sem Value} {C : Int→Int→Prop} {g : Int→Int→Int}
    (rule : ∀ (i j : Int) (t u : Tok) (s : Shared) (Q : Value→Shared→Prop) (E : Value→Shared→Prop),C i j→Q (.int (g i j) s.toks) { s with toks:=s.toks + 1 }→wpAny (model X.prog X.w) X.A (f (.int i t) (.int j u)) Q E s) :
    OpR X f (rI C fun i j => .int (g i j)) := by
  intro pins s σ H x y v u Q I rx ry h
  obtain ⟨i,j,rfl,rfl,hc,q⟩:=h
  obtain ⟨t,rfl⟩:=rx
  obtain ⟨t',rfl⟩:=ry
  exact rule i j t t' s _ _ hc ⟨.int (g i j),H,I.tok _,⟨_,rfl⟩,q⟩
theorem opI0 {f : Value→Value→Sem Value} {g : Int→Int→Int}
    (rule : ∀ (i j : Int) (t u : Tok) (s : Shared) (Q : Value→Shared→Prop) (E : Value→Shared→Prop),Q (.int (g i j) s.toks) { s with toks:=s.toks + 1 }→wpAny (model X.prog X.w) X.A (f (.int i t) (.int j u)) Q E s) :
    OpR X f (rI0 fun i j => .int (g i j)) := by
  intro pins s σ H x y v u Q I rx ry h
  obtain ⟨i,j,rfl,rfl,q⟩:=h
  obtain ⟨t,rfl⟩:=rx
  obtain ⟨t',rfl⟩:=ry
  exact rule i j t t' s _ _ ⟨.int (g i j),H,I.tok _,⟨_,rfl⟩,q⟩
theorem opB0 {f : Value→Value→Sem Value} {g : Int→Int→Bool}
    (rule : ∀ (i j : Int) (t u : Tok) (s : Shared) (Q : Value→Shared→Prop) (E : Value→Shared→Prop),Q (.bool (g i j)) s→wpAny (model X.prog X.w) X.A (f (.int i t) (.int j u)) Q E s) :
    OpR X f (rI0 fun i j => .bl (g i j)) := by
  intro pins s σ H x y v u Q I rx ry h
  obtain ⟨i,j,rfl,rfl,q⟩:=h
  obtain ⟨t,rfl⟩:=rx
  obtain ⟨t',rfl⟩:=ry
  exact rule i j t t' s _ _ ⟨.bl (g i j),H,I,rfl,q⟩
def CPow (i j : Int) : Prop:=0≤j∧j≤1000000∧i.natAbs < 2 ^ 64
def CMul (i j : Int) : Prop:=(-(2 ^ 64) < i∧i < 2 ^ 64)∨(-(2 ^ 64) < j∧j < 2 ^ 64)
theorem CMul.ok {i j : Int} (h : CMul i j) : IntMulOk i j := by
  rcases h with ⟨h1,h2⟩ | ⟨h1,h2⟩
  · exact .of_left (intBits_le_64 h1 h2)
  · exact .of_right (intBits_le_64 h1 h2)
theorem op_add : OpR X (binaryOp .Add) (rI0 fun i j => .int (i + j)):=opI0 fun _ _ _ _ _ _ _ q => add_int q
theorem op_sub : OpR X (binaryOp .Sub) (rI0 fun i j => .int (i - j)):=opI0 fun _ _ _ _ _ _ _ q => sub_int q
theorem op_mod : OpR X (binaryOp .Mod) (rI (fun _ j => 0 < j) fun i j => .int (i % j)):=opI fun i j _ _ _ _ _ hc q => by
  have h1 : (0 : Int) < j:=hc
  exact mod_int' (by lia) (by rw [Int.fmod_eq_emod_of_nonneg i (by lia)]; exact q)
theorem op_modN : OpR X (binaryOp .Mod) (rI (fun _ j => j≠0) fun i j => .int (i.fmod j)):=opI fun _ _ _ _ _ _ _ hc q => mod_int' hc q
theorem op_pow : OpR X (binaryOp .Pow) (rI CPow fun i j => .int (i ^ j.toNat)):=opI fun _ _ _ _ _ _ _ hc q => pow_int_small hc.1 hc.2.1 hc.2.2 q
theorem unI {f : Value→Sem Value} {g : Int→Int}
    (rule : ∀ (i : Int) (t : Tok) (s : Shared) (Q : Value→Shared→Prop) (E : Value→Shared→Prop),Q (.int (g i) s.toks) { s with toks:=s.toks + 1 }→wpAny (model X.prog X.w) X.A (f (.int i t)) Q E s) :
    UnR X f (rU fun i => .int (g i)) := by
  intro pins s σ H x v Q I rx h
  obtain ⟨i,rfl,q⟩:=h
  obtain ⟨t,rfl⟩:=rx
  exact rule i t s _ _ ⟨.int (g i),H,I.tok _,⟨_,rfl⟩,q⟩
theorem un_neg : UnR X (unaryOp .USub) (rU fun i => .int (-i)):=unI fun _ _ _ _ _ q => neg_int q
end
def scal : V→V→Bool
  | .non,.non => true | .non,.int _ => true | .int _,.non => true | .non,.bl _ => true | .bl _,.non => true | .non,.str _ => true | .str _,.non => true
  | .int _,.int _ => true | .bl _,.bl _ => true | .str _,.str _ => true | .byt _,.byt _ => true
  | .int _,.str _ => true | .str _,.int _ => true | .bl _,.str _ => true | .str _,.bl _ => true
  | _,_ => false
def rEq : R2:=fun x y H Q => scal x y = true∧Q (.bl (decide (x = y))) H
def rNe : R2:=fun x y H Q => scal x y = true∧Q (.bl (!decide (x = y))) H
theorem dec_int {i j : Int} : decide (V.int i = V.int j) = (i == j) := by
  rw [Bool.eq_iff_iff]
  simp
theorem dec_bl {i j : Bool} : decide (V.bl i = V.bl j) = (i == j) := by
  rw [Bool.eq_iff_iff]
  simp
theorem dec_str {i j : Str} : decide (V.str i = V.str j) = (i == j) := by
  rw [Bool.eq_iff_iff]
  simp
theorem dec_byt {i j : Array UInt8} : decide (V.byt i = V.byt j) = (i.toList == j.toList) := by
  rw [Bool.eq_iff_iff]
  cases i
  cases j
  simp
section
variable {X : Cx} {a b c : Expr} {ta tb : TE} {pos : Pos}
theorem fin_bl {pins : List (Addr×Obj)} {σ : St} {H : Hp} {s : Shared} {Q : VK} {k k' : Bool} (I : Inv X pins σ H s) (q : Q (.bl k) H) (e : k = k') : EP X pins σ Q (.bool k') s := by
  subst e
  exact ⟨.bl k,H,I,rfl,q⟩
theorem op_eq : OpR X (compareOp .Eq) rEq := by
  intro pins s σ H x y v u Q I rx ry h
  obtain ⟨hs,q⟩:=h
  cases x with
  | non =>
    cases rx
    cases y with
    | non => cases ry; exact PySem.EqNone.eq_none_none (fin_bl I q (by simp))
    | bl j => cases ry; exact PySem.EqNone.eq_none_bool (fin_bl I q (by simp))
    | int j => obtain ⟨t',rfl⟩:=ry; exact PySem.EqNone.eq_none_int (fin_bl I q (by simp))
    | str j => obtain ⟨t',rfl⟩:=ry; exact PySem.EqNone.eq_none_str (fin_bl I q (by simp))
    | _ => exact absurd (show false = true from hs) Bool.false_ne_true
  | bl i =>
    cases rx
    cases y with
    | non => cases ry; exact PySem.EqNone.eq_bool_none (fin_bl I q (by simp))
    | bl j => cases ry; exact eq_bool (fin_bl I q dec_bl)
    | str j => obtain ⟨t',rfl⟩:=ry; exact PySem.EqMixed.eq_bool_str (fin_bl I q (by simp))
    | _ => exact absurd (show false = true from hs) Bool.false_ne_true
  | int i =>
    obtain ⟨t,rfl⟩:=rx
    cases y with
    | non => cases ry; exact PySem.EqNone.eq_int_none (fin_bl I q (by simp))
    | int j => obtain ⟨t',rfl⟩:=ry; exact eq_int (fin_bl I q dec_int)
    | str j => obtain ⟨t',rfl⟩:=ry; exact PySem.EqMixed.eq_int_str (fin_bl I q (by simp))
    | _ => exact absurd (show false = true from hs) Bool.false_ne_true
  | str i =>
    obtain ⟨t,rfl⟩:=rx
    cases y with
    | non => cases ry; exact PySem.EqNone.eq_str_none (fin_bl I q (by simp))
    | bl j => cases ry; exact PySem.EqMixed.eq_str_bool (fin_bl I q (by simp))
    | int j => obtain ⟨t',rfl⟩:=ry; exact PySem.EqMixed.eq_str_int (fin_bl I q (by simp))
    | str j => obtain ⟨t',rfl⟩:=ry; exact eq_str (fin_bl I q dec_str)
    | _ => exact absurd (show false = true from hs) Bool.false_ne_true
  | byt i =>
    obtain ⟨t,rfl⟩:=rx
    cases y with
    | byt j => obtain ⟨t',rfl⟩:=ry; exact PySem.W.eq_bytes (fin_bl I q dec_byt)
    | _ => exact absurd (show false = true from hs) Bool.false_ne_true
  | _ => cases y <;> exact absurd (show false = true from hs) Bool.false_ne_true
theorem op_ne : OpR X (compareOp .NotEq) rNe := by
  intro pins s σ H x y v u Q I rx ry h
  obtain ⟨hs,q⟩:=h
  cases x with
  | non =>
    cases rx
    cases y with
    | non => cases ry; exact PySem.EqNone.ne_none_none (fin_bl I q (by simp))
    | bl j => cases ry; exact PySem.EqNone.ne_none_bool (fin_bl I q (by simp))
    | int j => obtain ⟨t',rfl⟩:=ry; exact PySem.EqNone.ne_none_int (fin_bl I q (by simp))
    | str j => obtain ⟨t',rfl⟩:=ry; exact PySem.EqNone.ne_none_str (fin_bl I q (by simp))
    | _ => exact absurd (show false = true from hs) Bool.false_ne_true
  | bl i =>
    cases rx
    cases y with
    | non => cases ry; exact PySem.EqNone.ne_bool_none (fin_bl I q (by simp))
    | bl j => cases ry; exact ne_bool (fin_bl I q (congrArg not dec_bl))
    | str j => obtain ⟨t',rfl⟩:=ry; exact PySem.EqMixed.ne_bool_str (fin_bl I q (by simp))
    | _ => exact absurd (show false = true from hs) Bool.false_ne_true
  | int i =>
    obtain ⟨t,rfl⟩:=rx
    cases y with
    | non => cases ry; exact PySem.EqNone.ne_int_none (fin_bl I q (by simp))
    | int j => obtain ⟨t',rfl⟩:=ry; exact ne_int (fin_bl I q (congrArg not dec_int))
    | str j => obtain ⟨t',rfl⟩:=ry; exact PySem.EqMixed.ne_int_str (fin_bl I q (by simp))
    | _ => exact absurd (show false = true from hs) Bool.false_ne_true
  | str i =>
    obtain ⟨t,rfl⟩:=rx
    cases y with
    | non => cases ry; exact PySem.EqNone.ne_str_none (fin_bl I q (by simp))
    | bl j => cases ry; exact PySem.EqMixed.ne_str_bool (fin_bl I q (by simp))
    | int j => obtain ⟨t',rfl⟩:=ry; exact PySem.EqMixed.ne_str_int (fin_bl I q (by simp))
    | str j => obtain ⟨t',rfl⟩:=ry; exact ne_str (fin_bl I q (congrArg not dec_str))
    | _ => exact absurd (show false = true from hs) Bool.false_ne_true
  | byt i =>
    obtain ⟨t,rfl⟩:=rx
    cases y with
    | byt j => obtain ⟨t',rfl⟩:=ry; exact PySem.W.ne_bytes (fin_bl I q (congrArg not dec_byt))
    | _ => exact absurd (show false = true from hs) Bool.false_ne_true
  | _ => cases y <;> exact absurd (show false = true from hs) Bool.false_ne_true
theorem op_lt : OpR X (compareOp .Lt) (rI0 fun i j => .bl (decide (i < j))):=opB0 fun _ _ _ _ _ _ _ q => lt_int q
theorem op_ge : OpR X (compareOp .GtE) (rI0 fun i j => .bl (decide (j≤i))):=opB0 fun _ _ _ _ _ _ _ q => ge_int q
theorem op_isN : OpR X (compareOp .Is) (fun x y H Q => y = .non∧Q (.bl (decide (x = .non))) H) := by
  intro pins s σ H x y v u Q I rx ry h
  obtain ⟨rfl,q⟩:=h
  cases ry
  refine is_none_gen (fin_bl I q ?_)
  cases x <;> first
    | (cases rx; rfl)
    | (obtain ⟨t,rfl⟩:=rx; rfl)
theorem nomark (b : Expr) {op : CmpOp} (h : op≠.In := by decide) (h2 : op≠.NotIn := by decide) : behindInMarks op b = false := by
  have e1 : (op == CmpOp.In) = false := by cases op <;> first | rfl | exact absurd rfl h
  have e2 : (op == CmpOp.NotIn) = false := by cases op <;> first | rfl | exact absurd rfl h2
  cases b <;> simp [behindInMarks,e1,e2]
theorem pe_cmpR {op : CmpOp} {r : R2} (ho : OpR X (compareOp op) r) (ha : PE X a ta) (hb : PE X b tb) (hm : behindInMarks op b = false) : PE X (.Compare a [op] [b] pos) (tOp r ta tb) := by
  intro pins s σ H Q I h
  exact wpAny_Compare1 (binT ha hb I h fun v u s2 x y H2 I2 rx ry q => ho pins s2 σ H2 x y v u Q I2 rx ry q) hm
def tTest (t : TE) : TT:=fun σ H Q => t σ H fun x H' => ∃ k,x = .bl k∧Q k H'
theorem pt_cmpR {op : CmpOp} {r : R2} (ho : OpR X (compareOp op) r) (ha : PE X a ta) (hb : PE X b tb) (hm : behindInMarks op b = false) : PT X (.Compare a [op] [b] pos) (tTest (tOp r ta tb)) := by
  intro pins s σ H Q I h
  refine wpAny_isTrue_Compare1 (thn (ha pins s σ H _ I h) fun v s1 ⟨x,H1,I1,r1,q1⟩ => thn (hb pins s1 σ H1 _ I1 q1) fun u s2 ⟨y,H2,I2,r2,q2⟩ =>
    thn (ho pins s2 σ H2 x y v u _ I2 r1 r2 q2) fun c s3 ⟨z,H3,I3,r3,k,e,q3⟩ => ?_) hm
  subst e
  cases r3
  exact wpAny_truthy_bool ⟨H3,I3,q3⟩
theorem line63 : (sizeLine : Nat) < 2 ^ 63 := by rw [sizeLine_eq]; decide
theorem vals1 {x : V} {us : List Value} (r : Vals [x] us) : ∃ u,us = [u]∧RelV x u := by
  cases r with
  | cons r1 r2 => cases r2; exact ⟨_,rfl,r1⟩
theorem call_abs : CallR X (.builtin "abs") (fun xs H Q => ∃ i,xs = [.int i]∧Q (.int (if i < 0 then -i else i)) H) := by
  intro pins s σ H xs us Q I r h
  obtain ⟨i,rfl,q⟩:=h
  obtain ⟨u,rfl,t,rfl⟩:=vals1 r
  exact call_abs_int fun u tk => ⟨.int (if i < 0 then -i else i),H,I.tok _,⟨_,rfl⟩,q⟩
end
structure ObjM (h : Heap) (x dx C : Addr) (mA : Str→Option Value) : Prop where
  obj : h.get? x = some (PySem.W.instObj C dx)
  ns : h.Ns1 dx mA
  ne : dx≠x
theorem lookIn_ns {h : Heap} {dx : Addr} {mA : Str→Option Value} (n : h.Ns1 dx mA) : ∃ od,h.get? dx = some od∧∀ name,PySem.W.lookIn name od = some (mA name) := by
  obtain ⟨o,es,ep,ho,hd,hk,_,hm⟩:=n
  refine ⟨o,ho,fun name => ?_⟩
  have e:=hm name
  unfold nsFind findBy at e
  rw [← Array.find?_toList] at e
  unfold PySem.W.lookIn
  rw [hd]
  dsimp only
  split
  · rename_i y q
    rw [q] at e
    exact congrArg some e
  · rename_i q
    rw [q] at e
    have a : es.toList.any (·.refKey) = false := by
      rw [List.any_eq_false]
      intro y hy
      obtain ⟨z,t,hkey⟩:=hk y (Array.mem_toList_iff.mp hy)
      simp [DictEntry.refKey,hkey]
    have a' : ¬ es.toList.any (·.refKey) = true := by rw [a]; exact Bool.false_ne_true
    rw [if_neg a']
    exact congrArg some e
theorem ObjM.look {h : Heap} {x dx C : Addr} {mA : Str→Option Value} (I : ObjM h x dx C mA) : ∃ od,PySem.W.InstAt h x (PySem.W.instObj C dx) C (some od)∧∀ name,PySem.W.lookIn name od = some (mA name) :=
  let ⟨od,ho,hl⟩:=lookIn_ns I.ns
  ⟨od,⟨I.obj,rfl,rfl,ho⟩,hl⟩
theorem RelO.some_of {v : V} {o : Option Value} (r : RelO (some v) o) : ∃ u,o = some u∧RelV v u := by
  cases o with
  | none => exact (show False from r).elim
  | some u => exact ⟨u,rfl,r⟩
section
variable {P : Program} {w : World} {H : Hp} {h : Heap} {a C dx : Addr} {fs : List (Str×V)}
theorem ins_get (hok : HOk P w H h) (e : H a = some (.ins C dx fs)) : ∃ mA,ObjM h a dx C mA∧(∀ f,RelO (fs.lookup f) (mA f))∧PySem.Within mA (fs.map (·.1))∧fs.length≤1000∧H dx = some (.own a) := by
  obtain ⟨d,z,ne,ob,mA,n,r,q⟩:=(show ObjOk P w H h a (.ins C dx fs) from hok a _ e)
  exact ⟨mA,⟨ob,n,ne⟩,r,q,z,d⟩
end
structure Cls (K : PySem.W.Frag) (C : Addr) : Prop where
  pg : PySem.W.plainGet K C Str.empty = true
  hd : PySem.W.hasDictIn K C = true
  po : PySem.W.plainOver K C = true
  sa : PySem.W.findIn K (.ref C) "__setattr__" = some (some (.builtin "object.__setattr__"))
theorem Cls.get {K : PySem.W.Frag} {C : Addr} (c : Cls K C) (f : Str) : PySem.W.plainGet K C f = true:=c.pg
section
variable {X : Cx} {pins : List (Addr×Obj)} {σ : St} {H : Hp} {s : Shared} {A : Around} {E : Value→Shared→Prop} {Q : Value→Shared→Prop} {c : Value} {b : Bool}
inductive TyOf (K : PySem.W.Frag) (H : Hp) : V→Value→Prop where
  | non : TyOf K H .non (.type "NoneType")
  | bl (x : Bool) : TyOf K H (.bl x) (.type "bool")
  | int (i : Int) : TyOf K H (.int i) (.type "int")
  | str (x : Str) : TyOf K H (.str x) (.type "str")
  | flt (x : UInt64) : TyOf K H (.flt x) (.type "float")
  | lst {a : Addr} {xs : List V} (e : H a = some (.lst xs)) : TyOf K H (.ref a) (.type "list")
  | frz {a : Addr} {o : Obj} {xs : List V} (e : H a = some (.frz o (.lst xs))) : TyOf K H (.ref a) (.type "list")
  | tup {a : Addr} {xs : List V} (e : H a = some (.tup xs)) : TyOf K H (.ref a) (.type "tuple")
  | dK {a : Addr} {kvs : List (Key×V)} (e : H a = some (.dK kvs)) : TyOf K H (.ref a) (.type "dict")
  | dT {a : Addr} {kvs : List (List Key×V)} (e : H a = some (.dT kvs)) : TyOf K H (.ref a) (.type "dict")
  | ins {a C dx : Addr} {fs : List (Str×V)} (e : H a = some (.ins C dx fs)) (cl : Cls K C) (ha : PySem.W.findIn K (.ref C) "__class__" = some (some (.builtin "object.__class__")))
      (hn : PySem.W.specialIn K (.builtin "object.__class__") "__get__" = some (some (.builtin "getset_descriptor.__get__"))) (htk : PySem.W.takesIn K (.builtin "object.__class__") = some true)
      (hm : PySem.W.mroIn K C (.type "object") = some true) : TyOf K H (.ref a) (.ref C)
theorem isinst_ok {x : V} {u t : Value} (I : Inv X pins σ H s) (rx : RelV x u) (ty : TyOf X.K H x t) (e : PySem.W.kitOne X.K t c = some b) (h : ∀ tk,Q (.bool b) { s with toks:=tk }) :
    wpAny (model X.prog X.w) A (call (.builtin "isinstance") [u,c]) Q E s := by
  cases ty with
  | non => cases (show u = Value.none from rx); exact PySem.W.kia_one PySem.W.kitx_none I.kIn True.intro e (fun z => nomatch z) h
  | bl y => cases (show u = Value.bool y from rx); exact PySem.W.kia_one PySem.W.kitx_bool I.kIn True.intro e (fun z => nomatch z) h
  | int i => obtain ⟨t,q⟩:=(show ∃ t,u = Value.int i t from rx); cases q; exact PySem.W.kia_one PySem.W.kitx_int I.kIn True.intro e (fun z => nomatch z) h
  | str y => obtain ⟨t,q⟩:=(show ∃ t,u = Value.str y t from rx); cases q; exact PySem.W.kia_one PySem.W.kitx_str I.kIn True.intro e (fun z => nomatch z) h
  | flt y => obtain ⟨t,q⟩:=(show ∃ t,u = Value.float y t from rx); cases q; exact PySem.W.kia_one PySem.W.kitx_float I.kIn True.intro e (fun z => nomatch z) h
  | @lst a xs ea =>
    cases (show u = Value.ref a from rx)
    obtain ⟨_,_,n,_,h1⟩:=(show ObjOk X.prog X.w H s.heap a (.lst xs) from I.hok a _ ea)
    exact PySem.W.kia_one PySem.W.kitx_list I.kIn ⟨_,h1,rfl⟩ e (fun z => nomatch z) h
  | @frz a ob xs ea =>
    cases (show u = Value.ref a from rx)
    obtain ⟨_,_,_,n,_,h1⟩:=(show ObjOk X.prog X.w H s.heap a (.frz ob (.lst xs)) from I.hok a _ ea)
    exact PySem.W.kia_one PySem.W.kitx_list I.kIn ⟨_,h1,rfl⟩ e (fun z => nomatch z) h
  | @tup a xs ea =>
    cases (show u = Value.ref a from rx)
    obtain ⟨_,_,_,p⟩:=(show ObjOk X.prog X.w H s.heap a (.tup xs) from I.hok a _ ea)
    obtain ⟨o,h1,h2,_⟩:=p
    exact PySem.W.kia_one PySem.W.kitx_tuple I.kIn ⟨o,h1,h2⟩ e (fun z => nomatch z) h
  | @dK a kvs ea =>
    cases (show u = Value.ref a from rx)
    obtain ⟨_,_,vs,_,p⟩:=(show ObjOk X.prog X.w H s.heap a (.dK kvs) from I.hok a _ ea)
    obtain ⟨o,es,ep,h1,h2,_⟩:=p
    exact PySem.W.kia_one PySem.W.kitx_dict I.kIn ⟨o,h1,h2.1⟩ e (fun z => nomatch z) h
  | @dT a kvs ea =>
    cases (show u = Value.ref a from rx)
    obtain ⟨_,_,xs,_,o,es,ep,h1,h2,_⟩:=(show ObjOk X.prog X.w H s.heap a (.dT kvs) from I.hok a _ ea)
    exact PySem.W.kia_one PySem.W.kitx_dict I.kIn ⟨o,h1,h2.1⟩ e (fun z => nomatch z) h
  | @ins a C dx fs ea cl ha hn htk hm =>
    cases (show u = Value.ref a from rx)
    obtain ⟨mA,O,_⟩:=ins_get I.hok ea
    obtain ⟨od,J,_⟩:=O.look
    exact PySem.W.kia_one (PySem.W.kitx_own (cl.get _) cl.hd ha hn htk hm) I.kIn J e (fun z => nomatch z) h
end
structure Room (k : Nat) (A : Around) : Prop where
  hd : A.handled = none
  dp : A.depth + 3 * k + 5 < recursionLimit
  un : A.units + 16 * k + 200 < cLine
theorem Room.mono {j k : Nat} {A : Around} (r : Room k A) (h : j≤k := by decide) : Room j A:=⟨r.hd,by have:=r.dp; lia,by have:=r.un; lia⟩
theorem Room.deeper {k : Nat} {A : Around} (r : Room (k + 1) A) (env : Env) : Room k (A.deeper env) :=
  ⟨r.hd,by have:=r.dp; show A.depth + 1 + 3 * k + 5 < _; lia,by have:=r.un; show A.units + 3 + 16 * k + 200 < _; lia⟩
theorem Room.depth {k : Nat} {A : Around} (r : Room k A) : A.depth < recursionLimit := by have:=r.dp; lia
theorem Room.units {k : Nat} {A : Around} (r : Room k A) : A.units + 64 < cLine := by have:=r.un; lia
def tNil : TA:=fun _ H Q => Q [] H
def tCons (ta : TE) (tr : TA) : TA:=fun σ H Q => ta σ H fun x H1 => tr σ H1 fun xs H2 => Q (x :: xs) H2
section
variable {X : Cx} {e : Expr} {es : List Expr} {te : TE} {t : TA} {pos : Pos}
theorem pa_nil : PA X [] tNil:=fun _ _ _ _ H Q I h => Calls.spliced_nil ⟨[],H,I,.nil,h⟩
theorem pa_cons (ha : PE X e te) (hr : PA X es t) (hs : starEach (e :: es) X.env = (false,eval e X.env) :: starEach es X.env := by rfl) : PA X (e :: es) (tCons te t) := by
  intro pos pins s σ H Q I h
  rw [hs]
  show wpAny _ _ (spliced ((false,eval e X.env) :: backTo pos (starEach es X.env))) _ _ s
  refine Calls.spliced_cons (thn (ha pins s σ H _ I h) fun u s1 ⟨x,H1,I1,r1,q1⟩ => ?_)
  exact thn (hr pos pins s1 σ H1 _ I1 q1) fun us s2 ⟨xs,H2,I2,r2,q2⟩ => ⟨x :: xs,H2,I2,.cons r1 r2,q2⟩
def tTup (t : TA) : TE:=fun σ H Q => t σ H fun xs H1 => xs.length≤sizeLine∧∀ p,H1 p = none→Q (.ref p) (upd H1 p (.tup xs))
def tLst (t : TA) : TE:=fun σ H Q => t σ H fun xs H1 => xs.length≤sizeLine∧∀ p,H1 p = none→Q (.ref p) (upd H1 p (.lst xs))
theorem pe_tup {x1} (h : PA X es t) : PE X (.Tuple es x1 pos) (tTup t) := by
  intro pins s σ H Q I hq
  refine wpAny_Tuple_spliced (thn (h pos pins s σ H _ I hq) fun us s1 ⟨xs,H1,I1,r,z,q⟩ => ⟨by rw [← r.length]; exact z,?_⟩)
  have hf : H1 s1.heap.objs.size = none:=I1.hok.fresh (Nat.le_refl _)
  refine ⟨.ref s1.heap.objs.size,upd H1 s1.heap.objs.size (.tup xs),I1.laid (t':=s1.toks) (fun b u e => Heap.get?_push_of_some _ e) (Nat.le_refl _) ?_,rfl,q _ hf⟩
  exact ⟨z,us,r,⟨_,Heap.get?_push_size _ rfl,rfl,_,rfl⟩⟩
theorem pe_lst (h : PA X es t) : PE X (.List es pos) (tLst t) := by
  intro pins s σ H Q I hq
  refine wpAny_List_spliced (thn (h pos pins s σ H _ I hq) fun us s1 ⟨xs,H1,I1,r,z,q⟩ => ⟨by rw [← r.length]; exact z,?_⟩)
  have hf : H1 s1.heap.objs.size = none:=I1.hok.fresh (Nat.le_refl _)
  refine ⟨.ref s1.heap.objs.size,upd H1 s1.heap.objs.size (.lst xs),I1.laid (t':=s1.toks) (fun b u e => Heap.get?_push_of_some _ e) (Nat.le_refl _) ?_,rfl,q _ hf⟩
  exact ⟨z,us,0,r,Heap.get?_push_size _ rfl⟩
end
abbrev Sp:=List V→Hp→VK→XK→Prop
abbrev CXT:=List Env→Hp→Shared→XK→Value→Shared→Prop
structure Env0 (P : Program) (w : World) (K : PySem.W.Frag) (mg : Str→Option Value) (base : Heap) (A : Around) (outer : List Env) (s : Shared) (H : Hp) : Prop where
  frames : A.frames = some outer
  mod : Mod K mg base
  bs : ∀ b o,base.get? b = some o→s.heap.get? b = some o∧H b = none
  bsz : base.objs.size≤s.heap.objs.size
  funs : s.heap.FunFrames base outer
  frf : ∀ b∈frs outer,H b = none
  hok : HOk P w H s.heap
  bare : AllBare s.gens
  kt : KTb mg H
def CE (outer : List Env) (P : Program) (w : World) (H : Hp) (s : Shared) (Q : VK) (u : Value) (s' : Shared) : Prop :=
  ∃ v H',s'.os = s.os∧AllBare s'.gens∧Un (frs outer) [] H H' s.heap s'.heap∧HOk P w H' s'.heap∧RelV v u∧Q v H'
def CR (CX : CXT) (outer : List Env) (P : Program) (w : World) (H : Hp) (s : Shared) (Q : VK) (E : XK) (r : Result) (s' : Shared) : Prop :=
  match r with
  | .ok (.ret u) => CE outer P w H s Q u s'
  | .ok _ => False
  | .error e => CX outer H s E e s'
structure FnOk (P : Program) (w : World) (K : PySem.W.Frag) (mg : Str→Option Value) (base : Heap) (CX : CXT) (k : Nat) (f : Addr) (fd : FuncData) (ps : List Str) (sp : Sp) : Prop where
  len : ∀ vs H Q E,sp vs H Q E→vs.length = ps.length
  run : ∀ (A : Around) (outer : List Env) (s : Shared) (H : Hp) (args : Args) (us : List Value) (vs : List V) (Q : VK) (E : XK),Room k A→Env0 P w K mg base A outer s H→BindsTo s fd args (ps.zip us)→Vals vs us→sp vs H Q E →
    codeAny (model P w) A (.call (.ref f) args) (CR CX outer P w H s Q E) s
theorem FnOk.mono {P : Program} {w : World} {K : PySem.W.Frag} {mg : Str→Option Value} {base : Heap} {CX : CXT} {j k : Nat} {f : Addr} {fd : FuncData} {ps : List Str} {sp : Sp} (F : FnOk P w K mg base CX j f fd ps sp) (h : j≤k := by decide) :
    FnOk P w K mg base CX k f fd ps sp:=⟨F.len,fun A outer s H args us vs Q E hr => F.run A outer s H args us vs Q E (hr.mono h)⟩
section
variable {X : Cx} {pins : List (Addr×Obj)} {σ : St} {H : Hp} {s s' : Shared}
theorem Inv.env0 (I : Inv X pins σ H s) : Env0 X.prog X.w X.K X.mg X.base X.A X.stack s H :=
  ⟨I.ok.frames,I.ok.mod,I.bs,Nat.le_trans I.ok.bsz I.sz,I.stack,I.stkFree,I.hok,I.bare,I.kt⟩
theorem Inv.after {Q : VK} {u : Value} (I : Inv X pins σ H s) (h : CE X.stack X.prog X.w H s Q u s') : EP X pins σ Q u s' := by
  obtain ⟨v,H',os,bare,un,hok,r,q⟩:=h
  obtain ⟨hh,g,d,t,os'⟩:=s'
  obtain rfl : os' = s.os:=os
  exact ⟨v,H',I.call (h':=hh) (g':=g) (d':=d) (t':=t) (ch:=[]) un hok bare (fun b z => absurd z (by simp)),r,q⟩
end
def tCall (sp : Sp) (dvs : List V) (E : XK) (t : TA) : TE:=fun σ H Q => t σ H fun vs H1 => sp (vs ++ dvs) H1 Q E
def Binds (K : PySem.W.Frag) (fd : FuncData) (ps : List Str) (ds : List Value) : Prop :=
  ∀ (s : Shared) (us : List Value),K.In s.heap→(us ++ ds).length = ps.length→BindsTo s fd ⟨us,[]⟩ (ps.zip (us ++ ds))
theorem Binds.all {K : PySem.W.Frag} {fd : FuncData} {ps : List Str} (h : ∀ us : List Value,us.length = ps.length→bindArgs fd ⟨us,[]⟩ = pure (ps.zip us)) : Binds K fd ps []:=fun s us _ hl => by
  rw [List.append_nil] at hl ⊢
  exact .of_eq (h us hl)
def Passes (CX : CXT) (X : Cx) (E : XK) : Prop:=∀ (pins : List (Addr×Obj)) (σ : St) (H : Hp) (s : Shared) (e : Value) (s' : Shared),Inv X pins σ H s→CX X.stack H s E e s'→X.xe e s'
section
variable {X : Cx} {CX : CXT} {k : Nat} {f : Addr} {fd : FuncData} {ps : List Str} {sp : Sp} {dvs : List V} {ds : List Value} {E : XK} {x : Str} {p pos : Pos} {e : Expr} {es : List Expr}  {t : TA}
theorem run_fn {pins : List (Addr×Obj)} {σ : St} {H : Hp} {s : Shared} {Q : VK} {us : List Value} {vs : List V} (F : FnOk X.prog X.w X.K X.mg X.base CX k f fd ps sp) (hr : Room k X.A) (hb : Binds X.K fd ps ds) (hd : Vals dvs ds) (hx : Passes CX X E)
    (I : Inv X pins σ H s) (r : Vals vs us) (h : sp (vs ++ dvs) H Q E) : wpAny (model X.prog X.w) X.A (call (.ref f) us) (EP X pins σ Q) X.xe s := by
  have r2 : Vals (vs ++ dvs) (us ++ ds):=r.append hd
  have hl : (us ++ ds).length = ps.length := by rw [← r2.length]; exact F.len _ _ _ _ h
  refine wpAny_call (codeAny_mono (F.run X.A X.stack s H ⟨us,[]⟩ (us ++ ds) (vs ++ dvs) Q E hr I.env0 (hb s us I.kIn hl) r2 h) fun r s' hq => ?_)
  cases r with
  | error e => exact hx pins σ H s e s' I hq
  | ok fl =>
    cases fl with
    | ret u => exact I.after hq
    | next => exact False.elim hq
    | brk => exact False.elim hq
    | cont => exact False.elim hq
theorem pe_call (F : FnOk X.prog X.w X.K X.mg X.base CX k f fd ps sp) (hr : Room k X.A) (hg : Gl X x) (hm : X.mg x = some (.ref f)) (hk : PySem.W.keepIn X.K (.ref f) = true) (hb : Binds X.K fd ps ds) (hd : Vals dvs ds) (hx : Passes CX X E)
    (ha : PA X (e :: es) t) (hdb : (x == ("__debug__" : Str)) = false := by decide) (he : starEach (e :: es) X.env = (false,eval e X.env) :: starEach es X.env := by rfl) (hpl : (backTo pos (starEach es X.env)).any (·.1) = false := by rfl) :
    PE X (.Call (.Name x p) (e :: es) [] pos) (tCall sp dvs E t) := by
  intro pins s σ H Q I h
  refine wpAny_Call_Name_kw (ld_glob I hg hm ?_ hdb)
  refine PySem.W.callWith_K (h₀:=X.base) I.ok.mod.kin hk (thn (ha pos pins s σ H _ I h) fun us s1 ⟨vs,H1,I1,r,q⟩ => ⟨I1.kIn,?_⟩) he hpl
  exact run_fn F hr hb hd hx I1 r q
end
structure FnScope (N P : List Str) (sc : Scope) : Prop where
  kind : sc.kind = .function
  co : sc.isCoroutine = false
  gen : sc.isGenerator = false
  nd : N.Nodup
  pre : N.take P.length = P
  par : ∀ x∈P,sc.names.lookup x = some .local∨sc.names.lookup x = some .cell
  nofree : ∀ y∈sc.names,y.2≠.free
theorem bindL_out {kindOf : Str→Option NameKind} {x : Str} : ∀ {binds : List (Str×Value)} {m : Str→Option Value},(∀ v,(x,v) ∉ binds)→bindL kindOf binds m x = m x
  | [],_,_ => rfl
  | (n,v) :: r,m,h => by
    unfold bindL
    rw [bindL_out fun w hw => h w (List.mem_cons_of_mem _ hw)]
    split
    · have : x≠n := by rintro rfl; exact h v List.mem_cons_self
      simp [this]
    · rfl
theorem bindC_out {kindOf : Str→Option NameKind} {x : Str} : ∀ {binds : List (Str×Value)} {m : Str→Option Value},(∀ v,(x,v) ∉ binds)→bindC kindOf binds m x = m x
  | [],_,_ => rfl
  | (n,v) :: r,m,h => by
    unfold bindC
    rw [bindC_out fun w hw => h w (List.mem_cons_of_mem _ hw)]
    split
    · rfl
    · have : x≠n := by rintro rfl; exact h v List.mem_cons_self
      simp [this]
theorem bindL_get {kindOf : Str→Option NameKind} {x : Str} {v : Value} : ∀ {P : List Str} {vs : List Value} {i : Nat} {m : Str→Option Value},P.Nodup→P[i]? = some x→vs[i]? = some v→kindOf x = some .local →
    bindL kindOf (P.zip vs) m x = some v
  | [],_,_,_,_,h,_,_ => by simp at h
  | _ :: _,[],_,_,_,_,h,_ => by simp at h
  | p :: P,w :: vs,0,m,nd,h1,h2,hk => by
    simp at h1 h2; subst h1; subst h2
    show bindL kindOf ((p,w) :: P.zip vs) m p = _
    unfold bindL
    rw [bindL_out fun v hv => (List.nodup_cons.mp nd).1 (List.of_mem_zip hv).1,if_pos hk]
    simp
  | p :: P,w :: vs,i + 1,m,nd,h1,h2,hk => by
    show bindL kindOf ((p,w) :: P.zip vs) m x = _
    unfold bindL
    exact bindL_get (i:=i) (List.nodup_cons.mp nd).2 (by simpa using h1) (by simpa using h2) hk
theorem bindC_get {kindOf : Str→Option NameKind} {x : Str} {v : Value} : ∀ {P : List Str} {vs : List Value} {i : Nat} {m : Str→Option Value},P.Nodup→P[i]? = some x→vs[i]? = some v→kindOf x≠some .local →
    bindC kindOf (P.zip vs) m x = some v
  | [],_,_,_,_,h,_,_ => by simp at h
  | _ :: _,[],_,_,_,_,h,_ => by simp at h
  | p :: P,w :: vs,0,m,nd,h1,h2,hk => by
    simp at h1 h2; subst h1; subst h2
    show bindC kindOf ((p,w) :: P.zip vs) m p = _
    unfold bindC
    rw [bindC_out fun v hv => (List.nodup_cons.mp nd).1 (List.of_mem_zip hv).1,if_neg hk]
    simp
  | p :: P,w :: vs,i + 1,m,nd,h1,h2,hk => by
    show bindC kindOf ((p,w) :: P.zip vs) m x = _
    unfold bindC
    exact bindC_get (i:=i) (List.nodup_cons.mp nd).2 (by simpa using h1) (by simpa using h2) hk
def start (N : List Str) (vs : List V) : St:=vs.map some ++ List.replicate (N.length - vs.length) none
def cxOf (CX : CXT) (P : Program) (w : World) (K : PySem.W.Frag) (mg : Str→Option Value) (base : Heap) (N : List Str) (qual : Str) (scope : Scope) (f : Addr) (cd : Value) (A : Around) (outer : List Env) (s : Shared) (H : Hp) (E : XK) : Cx where
  prog:=P
  w:=w
  K:=K
  mg:=mg
  base := base
  A:=A.deeper (envOfC qual scope s.heap.objs.size f cd)
  N:=N
  s₀:=s
  H₀:=H
  env:=envOfC qual scope s.heap.objs.size f cd
  outer:=outer
  stack:=envOfC qual scope s.heap.objs.size f cd :: outer
  ex:=[]
  calm:=true
  fn:=fun _ => true
  pn:=[]
  xe:=fun e s' => wpAny (model P w) (A.deeper (envOfC qual scope s.heap.objs.size f cd)) (leaving (envOfC qual scope s.heap.objs.size f cd) e) (fun _ s'' => CX outer H s E e s'') (fun e' s'' => CX outer H s E e' s'') s'
theorem cell_has {sc : Scope} {n : Nat} {x : Str} (h : sc.names.lookup x = some .cell) : ∃ c,(cellsFrom n sc.names []).lookup x = some c := by
  have q:=PySem.W.cellsFrom_some sc.names n [] (.inl h)
  exact Option.isSome_iff_exists.mp q
theorem inv_start {CX : CXT} {P : Program} {w : World} {K : PySem.W.Frag} {mg : Str→Option Value} {base : Heap} {N ps : List Str} {qual : Str} {scope : Scope} {f : Addr} {cd : Value} {A : Around} {outer : List Env} {s s1 : Shared} {H : Hp} {E : XK} {us : List Value} {vs : List V}
    (S : FnScope N ps scope) (hd : A.handled = none) (e0 : Env0 P w K mg base A outer s H) (hl : vs.length = ps.length) (r : Vals vs us)
    (x : InCallC s s.heap.objs.size (bindL (envOfC qual scope s.heap.objs.size f cd).kindOf (ps.zip us) fun _ => none) (cellsFrom (s.heap.objs.size + 1) scope.names []) (bindC (envOfC qual scope s.heap.objs.size f cd).kindOf (ps.zip us) fun _ => none) s1) :
    Inv (cxOf CX P w K mg base N qual scope f cd A outer s H E) [] (start N vs) H s1 := by
  have hpl : ps.length≤N.length := by have:=congrArg List.length S.pre; rw [List.length_take] at this; lia
  obtain ⟨h1,tk,rfl,hk⟩:=x.done
  have noA : ∀ b : Addr,b ∉ (cxOf CX P w K mg base N qual scope f cd A outer s H E).ex:=fun b z => absurd (show b∈([] : List Addr) from z) (by simp)
  refine ⟨⟨e0.mod,S.kind,rfl,rfl,Nat.le_refl _,fun y z c h1 h2 => ?_,fun y hy => ?_,fun y c _ h => ?_,fun _ => hd,Around.frames_deeper e0.frames,.inr ⟨rfl,rfl⟩,fun b z => absurd z (noA b),e0.bs,e0.bsz,fun b _ _ => noA b,fun b z => absurd z (noA b),e0.funs,e0.frf,e0.kt⟩,
    rfl,e0.bare,Un.kept hk,⟨_,x.toInCall.ns,fun i y v h1 h2 h3 => ?_⟩,fun y c h => ⟨_,x.cell y c h⟩,e0.hok.fresh (Nat.le_refl _),fun y c h => ?_,fun p hp => absurd (show p∈([] : List (Addr×Obj)) from hp) (by simp),e0.hok.kept hk,?_⟩
  · exact name_of_addr x.apart (PySem.mem_of_lookup h1) (PySem.mem_of_lookup h2)
  · have hy : scope.names.lookup y = some .cell∨scope.names.lookup y = some .free:=hy
    rcases hy with hy | hy
    · exact cell_has hy
    · exact absurd rfl (S.nofree _ (PySem.mem_of_lookup hy))
  · exact Nat.le_of_lt (x.above y c (PySem.mem_of_lookup h))
  · have hi : i < vs.length := by
      unfold start at h2
      by_cases hi : i < vs.length
      · exact hi
      · rw [List.getElem?_append_right (by simpa using hi)] at h2
        rw [List.getElem?_replicate] at h2
        split at h2 <;> cases h2
    have ha : vs[i]? = some v := by
      unfold start at h2
      rw [List.getElem?_append_left (by simpa using hi),List.getElem?_map] at h2
      cases e : vs[i]? with
      | none => rw [e] at h2; cases h2
      | some a => rw [e] at h2; cases h2; rfl
    obtain ⟨u,hu,rv⟩:=r.get ha
    have hp : ps[i]? = some y := by
      rw [← S.pre,List.getElem?_take_of_lt (by lia)]; exact h1
    have ndP : ps.Nodup := by rw [← S.pre]; exact S.nd.sublist (List.take_sublist _ _)
    refine ⟨u,rv,?_⟩
    rcases S.par y (List.mem_of_getElem? hp) with k | k
    · exact .inl ⟨k,bindL_get ndP hp hu k⟩
    · obtain ⟨c,e⟩:=cell_has (n:=s.heap.objs.size + 1) k
      refine .inr ⟨.inl k,c,e,?_⟩
      have q:=x.cell y c e
      rw [bindC_get ndP hp hu (by show scope.names.lookup y≠_; rw [k]; decide)] at q
      exact q
  · exact e0.hok.fresh (Nat.le_of_lt (x.above y c (PySem.mem_of_lookup h)))
  · unfold start
    show _ = N.length
    rw [List.length_append,List.length_map,List.length_replicate]
    lia
theorem fn_of {CX : CXT} {P : Program} {w : World} {K : PySem.W.Frag} {mg : Str→Option Value} {base : Heap} {k : Nat} {f : Addr} {name qual : Str} {params : Arguments} {body : List Stmt} {scope : Scope} {dV kV doc pm cdv ct oc : Value} {an od : Option Addr}
    {osl : Array (Option Value)} {N ps : List Str} {sp : Sp} (lk : K.lookup f = some ⟨oc,od,.func (PySem.W.fnOf name qual params body scope dV kV doc pm an cdv ct),osl⟩) (hcd : PySem.W.codeIn K cdv qual = true) (S : FnScope N ps scope)
    (len : ∀ vs H Q E,sp vs H Q E→vs.length = ps.length)
    (hbody : ∀ (A : Around) (outer : List Env) (s : Shared) (H : Hp) (vs : List V) (Q : VK) (E : XK),Room k (A.deeper (envOfC qual scope s.heap.objs.size f cdv))→sp vs H Q E →
      ∃ t,PSs (cxOf CX P w K mg base N qual scope f cdv A outer s H E) body t∧t { nx:=fun _ H' => Q .non H',rt:=Q } (start N vs) H) :
    FnOk P w K mg base CX (k + 1) f (PySem.W.fnOf name qual params body scope dV kV doc pm an cdv ct) ps sp := by
  refine ⟨len,fun A outer s H args us vs Q E hr e0 hb r hsp => ?_⟩
  have hl:=len _ _ _ _ hsp
  have KX : K.In s.heap:=e0.mod.kin.keeps fun b o e => (e0.bs b o e).1
  have lim : s.heap.NoLimit:=e0.mod.nolimit.keeps fun b o e => (e0.bs b o e).1
  have hkind : ∀ y∈ps.zip us,scope.names.lookup y.1 = some .local∨(scope.names.lookup y.1 = some .cell∧((cellsFrom (s.heap.objs.size + 1) scope.names []).lookup y.1).isSome = true):=fun ⟨n,v⟩ hy => by
    rcases S.par n (List.of_mem_zip hy).1 with q | q
    · exact .inl q
    · exact .inr ⟨q,PySem.W.cellsFrom_some _ _ _ (.inl q)⟩
  refine codeAny_call_function hr.depth (KX _ _ lk) rfl S.co S.gen rfl (PySem.W.codeRec_of KX hcd) (hb _ _ _ _ ?_)
  refine wpAny_newFunctionEnv_cells S.kind hkind fun env he s1 x => ?_
  subst he
  refine ⟨lim.keeps x.toInCall.keep,codeAny_func ?_⟩
  obtain ⟨t,ht,hq⟩:=hbody A outer s H vs Q E (hr.deeper _) hsp
  have I : Inv (cxOf CX P w K mg base N qual scope f cdv A outer s H E) [] (start N vs) H s1:=inv_start S hr.hd e0 hl r x
  refine wpAny_mono (ht [] s1 (start N vs) H _ I hq) (fun fl s' hs => ?_) fun e s' hs => hs
  have fin : ∀ {σ' : St} {H' : Hp} {v : V} {u : Value},Inv (cxOf CX P w K mg base N qual scope f cdv A outer s H E) [] σ' H' s'→RelV v u→Q v H'→CE outer P w H s Q u s' :=
    fun {σ' H' v u} J rv q => ⟨v,H',J.os,J.bare,J.base,J.hok,rv,q⟩
  cases fl with
  | ret u =>
    obtain ⟨v,σ',H',J,rv,q⟩:=hs
    exact fin J rv q
  | next =>
    obtain ⟨σ',H',J,q⟩:=hs
    exact fin (v:=V.non) (u:=Value.none) J rfl q
  | brk =>
    obtain ⟨_,_,_,q⟩:=hs
    exact False.elim q
  | cont =>
    obtain ⟨_,_,_,q⟩:=hs
    exact False.elim q
section
variable {X : Cx} {x : Str} {p pos : Pos} {e : Expr} {es : List Expr} {t : TA} {id T : String} {r : List V→Hp→VK→Prop}
def tCB (r : List V→Hp→VK→Prop) (t : TA) : TE:=fun σ H Q => t σ H fun vs H1 => r vs H1 Q
theorem pe_callB (hc : CallR X (.builtin id) r) (hg : Gl X x) (hm : X.mg x = none) (hv : bootBuiltins x = some (.builtin id)) (ha : PA X (e :: es) t) (hn : x ≠ "__name__" := by decide) (hdb : (x == ("__debug__" : Str)) = false := by decide)
    (he : starEach (e :: es) X.env = (false,eval e X.env) :: starEach es X.env := by rfl) (hpl : (backTo pos (starEach es X.env)).any (·.1) = false := by rfl) : PE X (.Call (.Name x p) (e :: es) [] pos) (tCB r t) := by
  intro pins s σ H Q I h
  refine wpAny_Call_Name_kw (ld_blt I hg hm hv ?_ hn hdb)
  exact PyProof.Rows.callWith_builtin1 (thn (ha pos pins s σ H _ I h) fun us s1 ⟨vs,H1,I1,r1,q1⟩ => hc pins s1 σ H1 vs us Q I1 r1 q1) he hpl
theorem pe_callTy (hc : CallR X (.type T) r) (hg : Gl X x) (hm : X.mg x = none) (hv : bootBuiltins x = some (.type T)) (ha : PA X (e :: es) t) (hn : x ≠ "__name__" := by decide) (hdb : (x == ("__debug__" : Str)) = false := by decide)
    (he : starEach (e :: es) X.env = (false,eval e X.env) :: starEach es X.env := by rfl) (hpl : (backTo pos (starEach es X.env)).any (·.1) = false := by rfl) : PE X (.Call (.Name x p) (e :: es) [] pos) (tCB r t) := by
  intro pins s σ H Q I h
  refine wpAny_Call_Name_kw (ld_blt I hg hm hv ?_ hn hdb)
  exact PyProof.Rows.callWith_type1 (thn (ha pos pins s σ H _ I h) fun us s1 ⟨vs,H1,I1,r1,q1⟩ => hc pins s1 σ H1 vs us Q I1 r1 q1) he hpl
end
end L2
namespace HT
open PySem PyProof.Rows
section
def sIx (n d : Nat) : Option Int→Nat
  | none => d
  | some v => if v < 0 then (v + (n : Int)).toNat else min v.toNat n
theorem sIx_none (n d : Nat) : sIx n d none = d:=rfl
theorem sIx_nat (n d k : Nat) : sIx n d (some (k : Int)) = min k n := by
  show (if (k : Int) < 0 then ((k : Int) + (n : Int)).toNat else min (k : Int).toNat n) = min k n
  rw [if_neg (by lia),Int.toNat_natCast]
end
end HT
namespace L2
open PySem PySem.Spec PyProof.Rows
abbrev TO:=St→Hp→(Option Int→Hp→Prop)→Prop
def PO (X : Cx) (e : Option Expr) (t : TO) : Prop :=
  ∀ (pins : List (Addr×Obj)) (s : Shared) (σ : St) (H : Hp) (Q : Option Int→Hp→Prop),Inv X pins σ H s→t σ H Q →
    wpAny (model X.prog X.w) X.A (evalPart e X.env) (fun u s' => ∃ o H',Inv X pins σ H' s'∧IsPart u o∧Q o H') X.xe s
def tNoPart : TO:=fun _ H Q => Q none H
def tPart (t : TE) : TO:=fun σ H Q => t σ H fun x H1 => ∃ i,x = .int i∧Q (some i) H1
theorem intsAre_of {ns : List Int} : ∀ {us : List Value},Vals (ns.map V.int) us→IntsAre us ns := by
  induction ns with
  | nil => intro us r; rw [List.map_nil] at r; cases r; exact .nil
  | cons n ns ih =>
    intro us r
    rw [List.map_cons] at r
    cases r with
    | cons r1 r2 =>
      obtain ⟨t,e⟩:=r1
      subst e
      exact .cons n t (ih r2)
section
variable {X : Cx} {e : Expr} {te : TE} {lo hi : Option Expr} {tl th : TO} {pos p2 : Pos}
theorem po_none : PO X none tNoPart := by
  intro pins s σ H Q I h
  rw [evalPart_none]
  exact wpAny_pure ⟨none,H,I,.none,h⟩
theorem po_some (h : PE X e te) : PO X (some e) (tPart te) := by
  intro pins s σ H Q I hw
  rw [evalPart_some]
  refine thn (h pins s σ H _ I hw) fun u s1 ⟨x,H1,I1,r1,q1⟩ => ?_
  obtain ⟨i,rfl,q⟩:=q1
  obtain ⟨t,rfl⟩:=r1
  exact ⟨some i,H1,I1,.int i t,q⟩
def SlR (X : Cx) (r : V→Option Int→Option Int→Hp→VK→Prop) : Prop :=
  ∀ (pins : List (Addr×Obj)) (s : Shared) (σ : St) (H : Hp) (x : V) (v vl vu : Value) (lo hi : Option Int) (sl : Addr) (Q : VK),Inv X pins σ H s→RelV x v→s.heap.IsSliceOf sl vl vu .none→IsPart vl lo→IsPart vu hi→r x lo hi H Q →
    ∃ T id,typeLookup (.type T) "__getitem__" = pure (some (.builtin id))∧s.TypeIs v T∧wpAny (model X.prog X.w) X.A (getItem v (.ref sl)) (EP X pins σ Q) X.xe s
def tSl (r : V→Option Int→Option Int→Hp→VK→Prop) (te : TE) (tl th : TO) : TE:=fun σ H Q => te σ H fun x H1 => tl σ H1 fun l H2 => th σ H2 fun u H3 => r x l u H3 Q
theorem pe_slice {r : V→Option Int→Option Int→Hp→VK→Prop} (hr : SlR X r) (he : PE X e te) (hl : PO X lo tl) (hu : PO X hi th) : PE X (.Subscript e (.Slice lo hi none p2) pos) (tSl r te tl th) := by
  intro pins s σ H Q I h
  refine Subscript_ (thn (he pins s σ H _ I h) fun v s1 ⟨x,H1,I1,r1,q1⟩ => ?_)
  refine wpAny_Slice (thn (hl pins s1 σ H1 _ I1 q1) fun vl s2 ⟨l,H2,I2,pl,q2⟩ => thn (hu pins s2 σ H2 _ I2 q2) fun vu s3 ⟨u,H3,I3,pu,q3⟩ => ?_)
  rw [evalPart_none]
  refine wpAny_pure ?_
  have I4 : Inv X pins σ H3 { s3 with heap:=s3.heap.push { cls:=.type "slice",data:=.fields #[vl,vu,.none] } }:=I3.kept (t':=s3.toks) fun b ob q => Heap.get?_push_of_some _ q
  obtain ⟨T,id,hT,ht,hg⟩:=hr pins { s3 with heap:=s3.heap.push { cls:=.type "slice",data:=.fields #[vl,vu,.none] } } σ H3 x v vl vu l u s3.heap.objs.size Q I4 r1 (Heap.IsSliceOf.new ..) pl pu q3
  show wpAny (model X.prog X.w) X.A (subscriptTail e (.Slice lo hi none p2) v (.ref s3.heap.objs.size)) (EP X pins σ Q) X.xe { s3 with heap:=s3.heap.push { cls:=.type "slice",data:=.fields #[vl,vu,.none] } }
  exact tail_any (ops:=[.ref s3.heap.objs.size,v]) ht hT hg (by with_unfolding_all rfl)
def cutV (xs : List V) (lo hi : Option Int) : List V:=(xs.drop (HT.sIx xs.length 0 lo)).take (HT.sIx xs.length xs.length hi - HT.sIx xs.length 0 lo)
theorem cutV_length (xs : List V) (lo hi : Option Int) : (cutV xs lo hi).length≤xs.length := by
  unfold cutV
  rw [List.length_take,List.length_drop]
  lia
end
def ixN (n : Nat) (i : Int) : Option Nat:=if 0≤i then (if i < n then some i.toNat else none) else if -(n : Int)≤i then some (i + n).toNat else none
def atI {α : Type} (xs : List α) (i : Int) : Option α:=(ixN xs.length i).bind fun j => xs[j]?
theorem ixN_seq {n : Nat} {i : Int} {j : Nat} (h : ixN n i = some j) : seqIndex? i n = some j∧j < n∧-(n : Int)≤i∧i < n := by
  unfold ixN at h
  by_cases h0 : 0≤i
  · rw [if_pos h0] at h
    by_cases h1 : i < n
    · rw [if_pos h1] at h
      have e : i.toNat = j:=Option.some.inj h
      exact ⟨by rw [seqIndex_of h0 h1,e],by lia,by lia,h1⟩
    · rw [if_neg h1] at h; cases h
  · rw [if_neg h0] at h
    by_cases h1 : -(n : Int)≤i
    · rw [if_pos h1] at h
      have e : (i + n).toNat = j:=Option.some.inj h
      exact ⟨by rw [seqIndex_neg (by lia) h1,e],by lia,h1,by lia⟩
    · rw [if_neg h1] at h; cases h
theorem atI_get {α : Type} {xs : List α} {i : Int} {v : α} (h : atI xs i = some v) : ∃ j,seqIndex? i xs.length = some j∧xs[j]? = some v∧j < xs.length∧-(xs.length : Int)≤i∧i < xs.length := by
  unfold atI at h
  cases e : ixN xs.length i with
  | none => rw [e] at h; cases h
  | some j =>
    rw [e] at h
    obtain ⟨h1,h2,h3,h4⟩:=ixN_seq e
    exact ⟨j,h1,h,h2,h3,h4⟩
theorem atI_nat {α : Type} {xs : List α} {j : Nat} {v : α} (h : xs[j]? = some v) : atI xs (j : Int) = some v := by
  have hj : j < xs.length:=(List.getElem?_eq_some_iff.mp h).1
  have e : ixN xs.length (j : Int) = some j := by
    unfold ixN
    rw [if_pos (by lia),if_pos (by lia)]; simp
  unfold atI; rw [e]; exact h
def PlainIx (b : Expr) : Prop:=∀ o i,subscripted b false o i = operate [o,i] (getItem o i)
def IxR (X : Cx) (r : R2) : Prop :=
  ∀ (value slice : Expr) (pins : List (Addr×Obj)) (s : Shared) (σ : St) (H : Hp) (x y : V) (v u : Value) (Q : VK),Inv X pins σ H s→RelV x v→RelV y u→r x y H Q →
    subscripted slice false v u = operate [v,u] (getItem v u)→wpAny (model X.prog X.w) X.A (subscriptTail value slice v u) (EP X pins σ Q) X.xe s
def MtR (X : Cx) (id : String) (r : V→List V→Hp→VK→Prop) : Prop :=
  ∀ (pins : List (Addr×Obj)) (s : Shared) (σ : St) (H : Hp) (x : V) (xs : List V) (v : Value) (us : List Value) (Q : VK),Inv X pins σ H s→RelV x v→Vals xs us→r x xs H Q →
    wpAny (model X.prog X.w) X.A (call (.builtin id) (v :: us)) (EP X pins σ Q) X.xe s
section
variable {X : Cx} {a b : Expr} {ta tb : TE} {pos : Pos}
theorem pe_ix {r : R2} (hr : IxR X r) (ha : PE X a ta) (hb : PE X b tb) (hs : PlainIx b) : PE X (.Subscript a b pos) (tOp r ta tb) := by
  intro pins s σ H Q I h
  exact Subscript_ (binT ha hb I h fun v u s2 x y H2 I2 rx ry q => hr a b pins s2 σ H2 x y v u Q I2 rx ry q (hs _ _))
def rIxL (K : PySem.W.Frag) : R2:=fun x y H Q => ∃ p xs i v,x = .ref p∧y = .int i∧SqL K H p xs∧atI xs i = some v∧Q v H
def rIxT (K : PySem.W.Frag) : R2:=fun x y H Q => ∃ p xs i v,x = .ref p∧y = .int i∧SqT K H p xs∧atI xs i = some v∧Q v H
theorem ix_list : IxR X (rIxL X.K) := by
  intro value slice pins s σ H x y v u Q I rx ry h hs
  obtain ⟨p,xs,i,z,rfl,rfl,hq,he,q⟩:=h
  cases rx
  obtain ⟨t,rfl⟩:=ry
  obtain ⟨its,r,pl,hz⟩:=I.list hq
  obtain ⟨j,h1,h2,h3,h4,h5⟩:=atI_get he
  obtain ⟨w,ew,rw'⟩:=r.get h2
  have hl:=r.length
  have hn:=line63
  have fin : EP X pins σ Q w s:=⟨z,H,I,rw',q⟩
  by_cases h0 : 0≤i
  · have hj : i.toNat = j := by
      rw [seqIndex_of h0 h5] at h1
      exact Option.some.inj h1
    exact item_listR pl.isList h0 (by lia) (by rw [hj]; simpa using ew) fin hs
  · have hj : (i + (its.toArray.size : Int)).toNat = j := by
      rw [seqIndex_neg (by lia) h4] at h1
      rw [List.size_toArray,← hl]
      exact Option.some.inj h1
    exact subscriptTail_builtinR (x:=w) pl.isList.typeIs slot_list_getitem.lookup
      (wpAny_getItem_list_neg (Q:=fun r s' => r = w∧EP X pins σ Q r s') pl.isList (by lia) (by rw [List.size_toArray] <;> lia) (by lia) (by rw [hj]; simpa using ew) ⟨rfl,fin⟩) hs
theorem ix_tup : IxR X (rIxT X.K) := by
  intro value slice pins s σ H x y v u Q I rx ry h hs
  obtain ⟨p,xs,i,z,rfl,rfl,hq,he,q⟩:=h
  cases rx
  obtain ⟨t,rfl⟩:=ry
  obtain ⟨its,r,pl,hz⟩:=I.tuple hq
  obtain ⟨j,h1,h2,h3,h4,h5⟩:=atI_get he
  obtain ⟨w,ew,rw'⟩:=r.get h2
  have hl:=r.length
  have hn:=line63
  have fin : EP X pins σ Q w s:=⟨z,H,I,rw',q⟩
  exact subscriptTail_builtinR (x:=w) pl.typeIs slot_tuple_getitem.lookup
    (getItem_tuple (j:=j) (Q:=fun r s' => r = w∧EP X pins σ Q r s') pl (by lia) (by lia) (by rw [List.size_toArray,← hl]; exact h1) (by simpa using ew) ⟨rfl,fin⟩) hs
theorem mapSeq_set (its : List Value) (n j : Nat) (u : Value) : Obj.mapSeq (·.setIfInBounds j u) { cls:=.type "list",data:=.seq its.toArray n } = { cls:=.type "list",data:=.seq (its.set j u).toArray n } := by
  simp [Obj.mapSeq]
theorem Inv.lst {pins : List (Addr×Obj)} {σ : St} {H : Hp} {s : Shared} {p : Addr} {xs : List V} (I : Inv X pins σ H s) (h : H p = some (.lst xs)) :
    ∃ (its : List Value) (n : Nat),Vals xs its∧s.heap.get? p = some { cls:=.type "list",data:=.seq its.toArray n }∧xs.length≤sizeLine := by
  obtain ⟨z,its,n,r,e⟩:=I.hok p _ h
  exact ⟨its,n,r,e,z⟩
theorem Inv.lstUpd {pins : List (Addr×Obj)} {σ : St} {H : Hp} {s : Shared} {p : Addr} {xs ys : List V} {its its' : List Value} {n n' : Nat} {f : Obj→Obj} (I : Inv X pins σ H s) (h : H p = some (.lst xs))
    (ho : s.heap.get? p = some { cls:=.type "list",data:=.seq its.toArray n }) (hf : f { cls:=.type "list",data:=.seq its.toArray n } = { cls:=.type "list",data:=.seq its'.toArray n' }) (r : Vals ys its') (hz : ys.length≤sizeLine) (t : Nat) :
    Inv X pins σ (upd H p (.lst ys)) { s with heap:=s.heap.update p f,toks:=t } := by
  have e : (s.heap.update p f).get? p = some { cls:=.type "list",data:=.seq its'.toArray n' } := by
    rw [Heap.get?_update_self f ho (by rw [hf] <;> rfl),hf]
  refine I.write (x:=p) (e:=p) (by rw [h]; trivial) (.inl rfl) (fun b u hb q => (Heap.get?_update_other _ _ (Ne.symm hb)).trans q) ⟨_,e⟩ ?_
  exact ⟨hz,its',n',r,e⟩
def rSetL : V→V→V→Hp→(Hp→Prop)→Prop:=fun o i v H Q => ∃ p xs k j,o = .ref p∧i = .int k∧H p = some (.lst xs)∧ixN xs.length k = some j∧Q (upd H p (.lst (xs.set j v)))
theorem set_list : PSet X rSetL := by
  intro pins s σ H o i v ov iv u Q I ro ri rv h
  obtain ⟨p,xs,k,j,rfl,rfl,hp,hj,q⟩:=h
  cases ro
  obtain ⟨t,rfl⟩:=ri
  obtain ⟨its,n,r,ho,hz⟩:=I.lst hp
  obtain ⟨h1,h2,h3,h4⟩:=ixN_seq hj
  have hl:=r.length
  have hn:=line63
  have I' : Inv X pins σ (upd H p (.lst (xs.set j v))) { s with heap:=s.heap.update p (Obj.mapSeq (·.setIfInBounds j u)) } :=
    I.lstUpd hp ho (mapSeq_set its n j u) (r.set rv j) (by rw [List.length_set]; exact hz) s.toks
  by_cases h0 : 0≤k
  · have hk : k.toNat = j := by
      rw [seqIndex_of h0 h4] at h1
      exact Option.some.inj h1
    exact PySem.W.ki_setAt ho h0 (by lia) (by rw [List.size_toArray,← hl]; exact h4) (by rw [hk]; exact ⟨_,I',q⟩)
  · have hk : (k + (its.toArray.size : Int)).toNat = j := by
      rw [seqIndex_neg (by lia) h3] at h1
      rw [List.size_toArray,← hl]
      exact Option.some.inj h1
    exact PySem.W.ki_setBack ho (by lia) (by rw [List.size_toArray,← hl]; exact h3) (by lia) (by rw [hk]; exact ⟨_,I',q⟩)
theorem slice_bounds (lo hi : Option Int) (n : Nat) : (sliceBounds lo hi none n).1 = ((HT.sIx n 0 lo : Nat) : Int)∧(sliceBounds lo hi none n).2.1 = ((HT.sIx n n hi : Nat) : Int)∧(sliceBounds lo hi none n).2.2 = 1 := by
  refine ⟨?_,?_,rfl⟩
  · cases lo with
    | none => simp [sliceBounds,HT.sIx]
    | some i =>
      simp only [sliceBounds,HT.sIx,Option.getD_none,show (1 : Int) > 0 by decide,if_true]
      by_cases h : i < 0
      · simp only [h,if_true] <;> lia
      · simp only [h,if_false] <;> lia
  · cases hi with
    | none => simp [sliceBounds,HT.sIx]
    | some i =>
      simp only [sliceBounds,HT.sIx,Option.getD_none,show (1 : Int) > 0 by decide,if_true]
      by_cases h : i < 0
      · simp only [h,if_true] <;> lia
      · simp only [h,if_false] <;> lia
theorem slicePick_cut (its : List Value) (lo hi : Option Int) : slicePick its.toArray lo hi none = ((its.drop (HT.sIx its.length 0 lo)).take (HT.sIx its.length its.length hi - HT.sIx its.length 0 lo)).toArray := by
  obtain ⟨h1,h2,h3⟩:=slice_bounds lo hi its.toArray.size
  unfold slicePick
  rw [h1,h2,h3]
  simp only [sliceRange_one,pick_run,List.size_toArray] <;> rfl
def rSlL (K : PySem.W.Frag) : V→Option Int→Option Int→Hp→VK→Prop:=fun x lo hi H Q => ∃ a xs,x = .ref a∧SqL K H a xs∧∀ p,H p = none→Q (.ref p) (upd H p (.lst (cutV xs lo hi)))
theorem sl_list : SlR X (rSlL X.K) := by
  intro pins s σ H x v vl vu lo hi sl Q I rx hs pl pu h
  obtain ⟨a,xs,rfl,hx,q⟩:=h
  cases rx
  obtain ⟨its,r,ht,hz⟩:=I.list hx
  have hlen:=r.length
  refine ⟨"list",_,slot_list_getitem.lookup,ht.isList.typeIs,?_⟩
  refine wpAny_getItem_list_slice ht.isList hs pl pu .none (by simp) ?_ (by rw [List.size_toArray] <;> lia)
  rw [slicePick_cut,← hlen]
  refine ⟨.ref s.heap.objs.size,_,I.laid (t':=s.toks) (o:=.lst (cutV xs lo hi)) (fun b ob q => Heap.get?_push_of_some _ q) (Nat.le_refl _) ?_,rfl,q _ (I.hok.fresh (Nat.le_refl _))⟩
  exact ⟨Nat.le_trans (cutV_length xs lo hi) hz,_,0,(r.drop (HT.sIx xs.length 0 lo)).take (HT.sIx xs.length xs.length hi - HT.sIx xs.length 0 lo),Heap.get?_push_size _ rfl⟩
theorem call_len_seq : CallR X (.builtin "len") (fun xs H Q => ∃ p ys,xs = [.ref p]∧(SqL X.K H p ys∨SqT X.K H p ys)∧Q (.int ys.length) H) := by
  intro pins s σ H xs us Q I r h
  obtain ⟨p,ys,rfl,hq,q⟩:=h
  obtain ⟨u,rfl,rx⟩:=vals1 r
  cases rx
  have hn:=line63
  rcases hq with hq | hq
  · obtain ⟨its,r',pl,hz⟩:=I.list hq
    have hlen:=r'.length
    exact Calls.call_len_list pl.isList (by simp only [List.size_toArray] <;> lia) ⟨.int ys.length,H,I.tok _,⟨s.toks + 1,by rw [List.size_toArray,hlen]⟩,q⟩
  · obtain ⟨its,r',pl,hz⟩:=I.tuple hq
    have hlen:=r'.length
    exact len_tuple pl (by simp only [List.size_toArray] <;> lia) ⟨.int ys.length,H,I.tok _,⟨s.toks + 1,by rw [List.size_toArray,hlen]⟩,q⟩
theorem call_list_of : CallR X (.type "list") (fun xs H Q => ∃ p ys,xs = [.ref p]∧(SqL X.K H p ys∨SqT X.K H p ys)∧∀ l,H l = none→Q (.ref l) (upd H l (.lst ys))) := by
  intro pins s σ H xs us Q I r h
  obtain ⟨p,ys,rfl,hq,q⟩:=h
  obtain ⟨u,rfl,rx⟩:=vals1 r
  cases rx
  have fin : ∀ (its : List Value),Vals ys its→ys.length≤sizeLine→∀ (h' : Heap) (c' : Nat),(∀ b o',s.heap.get? b = some o'→h'.get? b = some o') →
      h'.get? s.heap.objs.size = some { cls:=.type "list",dict:=none,data:=.seq its.toArray c',slots:=#[] }→EP X pins σ Q (.ref s.heap.objs.size) { s with heap:=h' }:=fun its r' hz h' c' kp e =>
    ⟨.ref s.heap.objs.size,_,I.laid (t':=s.toks) kp (Nat.le_refl _) (show ObjOk X.prog X.w _ h' _ (.lst ys) from ⟨hz,its,c',r',e⟩),rfl,q _ (I.hok.fresh (Nat.le_refl _))⟩
  rcases hq with hq | hq
  · obtain ⟨its,r',pl,hz⟩:=I.list hq
    have hlen:=r'.length
    obtain ⟨o,ho,hc,n,hd⟩:=pl.isList
    exact call_list_seq p (.inl rfl) ho hc hd (fun h' c' kp e => fin its r' hz h' c' kp e) (by simp only [List.size_toArray] <;> lia)
  · obtain ⟨its,r',pl,hz⟩:=I.tuple hq
    have hlen:=r'.length
    obtain ⟨o,ho,hc,n,hd⟩:=pl
    exact call_list_seq p (.inr rfl) ho hc hd (fun h' c' kp e => fin its r' hz h' c' kp e) (by simp only [List.size_toArray] <;> lia)
theorem call_tuple_of : CallR X (.type "tuple") (fun xs H Q => ∃ p ys,xs = [.ref p]∧((SqL X.K H p ys∧∀ l,H l = none→Q (.ref l) (upd H l (.tup ys)))∨(SqT X.K H p ys∧Q (.ref p) H))) := by
  intro pins s σ H xs us Q I r h
  obtain ⟨p,ys,rfl,h⟩:=h
  obtain ⟨u,rfl,rx⟩:=vals1 r
  cases rx
  rcases h with ⟨hq,q⟩ | ⟨hq,q⟩
  · obtain ⟨its,r',pl,hz⟩:=I.list hq
    have hlen:=r'.length
    refine call_tuple_list pl.isList (fun h' kp => ?_) (by simp only [List.size_toArray] <;> lia)
    have I1 : Inv X pins σ H { s with heap:=h' }:=I.kept (t':=s.toks) kp
    have I2 : Inv X pins σ (upd H h'.objs.size (.tup ys)) { s with heap:=h'.push { cls:=.type "tuple",data:=.seq its.toArray } } :=
      I1.laid (t':=s.toks) (fun b o e => Heap.get?_push_of_some _ e) (Nat.le_refl _) (show ObjOk X.prog X.w _ _ _ (.tup ys) from ⟨hz,its,r',IsTup.new _ _⟩)
    exact ⟨.ref h'.objs.size,_,I2,rfl,q _ (I1.hok.fresh (Nat.le_refl _))⟩
  · obtain ⟨its,r',pl,hz⟩:=I.tuple hq
    exact call_tuple_same pl ⟨.ref p,H,I,rfl,q⟩
def tyV (K : PySem.W.Frag) (T : String) (x : V) (H : Hp) : Prop:=match x with
  | .str _ => T = "str"
  | .int _ => T = "int"
  | .ref p => (T = "list" ∧ ∃ xs,SqL K H p xs)∨(T = "tuple" ∧ ∃ o,K.lookup p = some o∧o.cls = .type "tuple" ∧ o.dict = none) ∨
      (T = "dict" ∧ ((∃ kvs,H p = some (.dK kvs))∨∃ kvs,H p = some (.dT kvs)))∨(T = "set" ∧ ∃ S n,H p = some (.set S n))
  | _ => False
theorem tyV_is {pins : List (Addr×Obj)} {σ : St} {H : Hp} {s : Shared} {T : String} {x : V} {v : Value} (I : Inv X pins σ H s) (r : RelV x v) (ty : tyV X.K T x H) :
    s.TypeIs v T∧∀ a,v = .ref a→∃ ob,s.heap.get? a = some ob∧ob.dict = none := by
  cases x with
  | str z =>
    obtain ⟨t,rfl⟩:=r
    cases (show T = "str" from ty)
    exact ⟨typeIs_str s z t,fun _ e => nomatch e⟩
  | int i =>
    obtain ⟨t,rfl⟩:=r
    cases (show T = "int" from ty)
    exact ⟨typeIs_int s i t,fun _ e => nomatch e⟩
  | ref p =>
    cases r
    rcases ty with ⟨rfl,xs,hq⟩ | ⟨rfl,o,hk,hc,hd⟩ | ⟨rfl,hk⟩ | ⟨rfl,S,n,hk⟩
    · obtain ⟨its,_,pl,_⟩:=I.list hq
      refine ⟨pl.isList.typeIs,fun a e => ?_⟩
      cases e
      obtain ⟨o,n,e,c,hd,_⟩:=pl
      exact ⟨o,e,hd⟩
    · refine ⟨⟨o,I.kIn p o hk,hc⟩,fun a e => ?_⟩
      cases e
      exact ⟨o,I.kIn _ o hk,hd⟩
    · have z : ∃ o,s.heap.get? p = some o∧o.ExactDict := by
        rcases hk with ⟨kvs,hk⟩ | ⟨kvs,hk⟩
        · obtain ⟨_,_,_,_,o,_,_,e,ex,_⟩:=I.hok p _ hk
          exact ⟨o,e,ex⟩
        · obtain ⟨_,_,_,_,o,_,_,e,ex,_⟩:=I.hok p _ hk
          exact ⟨o,e,ex⟩
      obtain ⟨o,e,ex⟩:=z
      refine ⟨⟨o,e,ex.1⟩,fun a e2 => ?_⟩
      cases e2
      exact ⟨o,e,ex.2.1⟩
    · obtain ⟨o,_,_,_,e,ex,_⟩:=I.hok p _ hk
      refine ⟨⟨o,e,ex.1⟩,fun a e2 => ?_⟩
      cases e2
      exact ⟨o,e,ex.2.1⟩
  | _ => exact False.elim ty
def tBM0 (K : PySem.W.Frag) (T : String) (r : V→List V→Hp→VK→Prop) (to : TE) : TE:=fun σ H Q => to σ H fun x H1 => tyV K T x H1∧r x [] H1 Q
def tBM (K : PySem.W.Frag) (T : String) (r : V→List V→Hp→VK→Prop) (to : TE) (t : TA) : TE:=fun σ H Q => to σ H fun x H1 => tyV K T x H1∧t σ H1 fun xs H2 => r x xs H2 Q
variable {o e : Expr} {es : List Expr} {to : TE} {t : TA} {name : Str} {apos cpos : Pos} {T id : String} {r : V→List V→Hp→VK→Prop}
theorem pe_bm0 (pa : PlainAttrs T) (slot : Slot T name id) (hty : typeOf (.builtin id) = pure (.type "method_descriptor")) (hm : MtR X id r) (ho : PE X o to)
    (hbase : attributeBase o name X.env (eval o X.env) = eval o X.env := by rfl) (hline : (apos.endLine == cpos.line) = true := by rfl) : PE X (.Call (.Attribute o name apos) [] [] cpos) (tBM0 X.K T r to) := by
  intro pins s σ H Q I h
  refine wpAny_Call_method0_late hbase hline (thn (ho pins s σ H _ I h) fun v s1 ⟨x,H1,I1,r1,ty,q1⟩ => ?_)
  obtain ⟨h1,h2⟩:=tyV_is I1 r1 ty
  exact ⟨T,id,pa,slot,hty,h1,h2,Calls.callWith_builtin rfl (PySem.evalArgs_none (hm pins s1 σ H1 x [] v [] Q I1 r1 .nil q1))⟩
theorem pe_bm (pa : PlainAttrs T) (slot : Slot T name id) (hty : typeOf (.builtin id) = pure (.type "method_descriptor")) (hm : MtR X id r) (ho : PE X o to) (ha : PA X (e :: es) t)
    (hbase : attributeBase o name X.env (eval o X.env) = eval o X.env := by rfl)
    (hfew : ((backTo cpos (starEach (e :: es) X.env)).all (fun x => !x.1) && (backToKw cpos (keywordEach [] X.env)).all (fun x => x.1.isSome)
      && decide ((e :: es).length + ([] : List Keyword).length + (if ([] : List Keyword).isEmpty then 0 else 1) < 30)) = true := by rfl)
    (hline : (apos.endLine == cpos.line) = true := by rfl) (hs : starEach (e :: es) X.env = (false,eval e X.env) :: starEach es X.env := by rfl) (hplain : (backTo cpos (starEach es X.env)).any (·.1) = false := by rfl) :
    PE X (.Call (.Attribute o name apos) (e :: es) [] cpos) (tBM X.K T r to t) := by
  intro pins s σ H Q I h
  refine wpAny_Call_method_late hbase hfew hline rfl (thn (ho pins s σ H _ I h) fun v s1 ⟨x,H1,I1,r1,ty,q1⟩ => ?_)
  obtain ⟨h1,h2⟩:=tyV_is I1 r1 ty
  refine ⟨T,id,pa,slot,hty,h1,h2,?_⟩
  have hA:=ha cpos pins s1 σ H1 _ I1 q1
  rw [hs] at hA ⊢
  refine Calls.callWith_builtin (by show (false || (backTo cpos (starEach es X.env)).any (·.1)) = false; rw [hplain] <;> rfl) (Calls.evalArgs_plain ?_)
  exact thn hA fun us s2 ⟨vs,H2,I2,r2,q2⟩ => hm pins s2 σ H2 x vs v us Q I2 r1 r2 q2
end
def MtM (X : Cx) (id : String) (r : V→List V→Hp→VK→Prop) : Prop :=
  ∀ (pins : List (Addr×Obj)) (s : Shared) (σ : St) (H : Hp) (x : V) (xs : List V) (v : Value) (us : List Value) (Q : VK),Inv X pins σ H s→RelV x v→Vals xs us→r x xs H Q →
    wpAny (model X.prog X.w) X.A (call (.builtin id) (v :: us)) (EP X pins σ Q) X.xe s
theorem Vals.one : ∀ {x : V} {us : List Value},Vals [x] us→∃ u,us = [u]∧RelV x u
  | _,_,.cons r .nil => ⟨_,rfl,r⟩
theorem Vals.two : ∀ {x y : V} {us : List Value},Vals [x,y] us→∃ u v,us = [u,v]∧RelV x u∧RelV y v
  | _,_,_,.cons r (.cons q .nil) => ⟨_,_,rfl,r,q⟩
theorem Vals.zero : ∀ {us : List Value},Vals [] us→us = []
  | _,.nil => rfl
section
variable {X : Cx} {pins : List (Addr×Obj)} {σ : St} {H : Hp} {s : Shared} {l : Addr} {xs ys : List V}
theorem Inv.lset {its its' : List Value} {n : Nat} {f : Array Value→Array Value} {t' : Nat} (I : Inv X pins σ H s) (hH : H l = some (.lst xs))
    (e : s.heap.get? l = some { cls:=.type "list",data:=.seq its.toArray n }) (hf : f its.toArray = its'.toArray) (hv : Vals ys its') (hz : ys.length≤sizeLine) :
    Inv X pins σ (upd H l (.lst ys)) { s with heap:=s.heap.update l (Obj.mapSeq f),toks:=t' } := by
  have q:=PySem.IsL.update e f
  rw [hf] at q
  refine I.write (x:=l) (e:=l) (by rw [hH]; exact trivial) (.inl rfl) (fun b' u hb hu => (Heap.get?_update_other s.heap (Obj.mapSeq f) (Ne.symm hb)).trans hu) ⟨_,q⟩ ?_
  exact ⟨hz,its',_,hv,q⟩
theorem Inv.lnew {its : List Value} {t' : Nat} (I : Inv X pins σ H s) (hv : Vals ys its) (hz : ys.length≤sizeLine) :
    Inv X pins σ (upd H s.heap.objs.size (.lst ys)) { s with heap:=s.heap.push { cls:=.type "list",data:=.seq its.toArray },toks:=t' } :=
  I.laid (fun _ _ q => Heap.get?_push_of_some _ q) (Nat.le_refl _) ⟨hz,its,0,hv,Heap.get?_push_size _ rfl⟩
theorem Inv.fresh (I : Inv X pins σ H s) : H s.heap.objs.size = none:=I.hok.fresh (Nat.le_refl _)
theorem Inv.lstM (I : Inv X pins σ H s) (hH : H l = some (.lst xs)) : xs.length≤sizeLine∧∃ (its : List Value) (n : Nat),Vals xs its∧xs.length = its.length∧s.heap.get? l = some { cls:=.type "list",data:=.seq its.toArray n } := by
  obtain ⟨z,its,n,r,e⟩:=I.hok l _ hH
  exact ⟨z,its,n,r,r.length,e⟩
end
section
variable {X : Cx}
def rAppend : V→List V→Hp→VK→Prop:=fun x vs H Q => ∃ l xs y,x = .ref l∧vs = [y]∧H l = some (.lst xs)∧xs.length < sizeLine∧Q .non (upd H l (.lst (xs ++ [y])))
theorem mt_append : MtM X "list.append" rAppend := by
  intro pins s σ H x vs v us Q I rx rv h
  obtain ⟨l,xs,y,rfl,rfl,hH,hz,q⟩:=h
  cases rx
  obtain ⟨u,rfl,ru⟩:=rv.one
  obtain ⟨z,its,n,r,hl,e⟩:=I.lstM hH
  refine call_meets F.slot_list_append ⟨_,e,rfl⟩ F.entry_list_append (F.args_list_append_2 _ _) (PySem.list_append l its.toArray n u (by rw [List.size_toArray]; lia)) ⟨e,?_⟩
  refine ⟨.non,_,I.lset (its':=its ++ [u]) hH e (by simp) (r.append (.cons ru .nil)) ?_,rfl,q⟩
  rw [List.length_append,List.length_singleton]
  lia
def rClear : V→List V→Hp→VK→Prop:=fun x vs H Q => ∃ l xs,x = .ref l∧vs = []∧H l = some (.lst xs)∧Q .non (upd H l (.lst []))
theorem mt_clear : MtM X "list.clear" rClear := by
  intro pins s σ H x vs v us Q I rx rv h
  obtain ⟨l,xs,rfl,rfl,hH,q⟩:=h
  cases rx
  have hus:=rv.zero
  subst hus
  obtain ⟨z,its,n,r,hl,e⟩:=I.lstM hH
  refine call_meets F.slot_list_clear ⟨_,e,rfl⟩ F.entry_list_clear (F.args_list_clear_1 _) (AutoSeq1.list_clear_list_0 l its.toArray n (by rw [List.size_toArray]; lia)) ⟨e,?_⟩
  exact ⟨.non,_,I.lset (its':=[]) (ys:=[]) hH e rfl .nil (Nat.zero_le _),rfl,q⟩
def rCat : R2:=fun x y H Q => ∃ l b xs zs,x = .ref l∧y = .ref b∧H l = some (.lst xs)∧H b = some (.lst zs)∧xs.length + zs.length≤sizeLine∧∀ p,H p = none→Q (.ref p) (upd H p (.lst (xs ++ zs)))
theorem op_cat : OpR X (binaryOp .Add) rCat := by
  intro pins s σ H x y v u Q I rx ry h
  obtain ⟨l,b,xs,zs,rfl,rfl,hH,hB,hz,q⟩:=h
  cases rx
  cases ry
  obtain ⟨z,its,n,r,hl,e⟩:=I.lstM hH
  obtain ⟨z2,its2,n2,r2,hl2,e2⟩:=I.lstM hB
  refine PySem.P.add_list e e2 ?_ (by rw [List.size_toArray,List.size_toArray]; lia)
  have ea : its.toArray ++ its2.toArray = (its ++ its2).toArray := by simp
  rw [ea]
  exact ⟨.ref _,_,I.lnew (t':=s.toks) (r.append r2) (by rw [List.length_append]; lia),rfl,q _ I.fresh⟩
end
end L2
namespace Att
open PySem PySem.W PySem.Calls PyProof.Rows
theorem ints_of_wellAll {P : Params} {h : Heap} : ∀ (ns : List Int) (vs : List Value),WellAll P h vs (ns.map WData.int)→IntsAre vs ns := by
  intro ns
  induction ns with
  | nil =>
    intro vs w
    rw [List.map_nil] at w
    cases w
    exact .nil
  | cons n ns ih =>
    intro vs w
    rw [List.map_cons] at w
    cases w with
    | cons a b =>
      cases a
      exact .cons _ _ (ih _ b)
theorem script_of {l : OpenLaw} {n : Nat} (hn : l.most = some n) {P : Params} {h : Heap} {args : List WData} {vals : List Value}
    (hpre : l.row.toRowW.claim.pre args = true) (hwl : WellAll P h vals args) :
    ∃ a vs ns,vals = [Value.ref a]∧args = [WData.list (ns.map WData.int)]∧h.get? a = some { cls:=.type "list",data:=.seq vs.toArray }∧IntsAre vs ns∧ns.length≤n := by
  have hsh : WShape.hasAll [] args [.list .int] = true:=(pre_splitW hpre).1
  have hc : l.pre.holds [] { args:=args } = true:=(pre_splitW hpre).2
  obtain ⟨d,r,rfl,h1,h2⟩:=hasAllW_cons hsh
  obtain rfl:=hasAllW_nil h2
  obtain ⟨xs,rfl,h3⟩:=hasW_list h1
  obtain ⟨ns,rfl⟩:=items_int h3
  have hlen : ns.length≤n := by
    unfold OpenLaw.pre at hc
    have h4 : (WTm.not (.lt (.lit (.int (n : Int))) (.len (.arg 0)))).holds [] { args:=[.list (ns.map .int)] } = true := by
      have h4:=(holds_andW hc).1
      rw [hn] at h4
      exact h4
    have h5:=condW_of h4 (w_not (w_lt w_lit (w_len_list (w_arg rfl))))
    rw [List.length_map] at h5
    refine Nat.le_of_not_lt fun q => ?_
    have q' : (n : Int) < ((ns.length : Nat) : Int) := by lia
    first
      | (rw [decide_eq_true q'] at h5; exact absurd h5 (by decide))
      | (simp at h5; lia)
  cases hwl with
  | cons w1 w2 =>
    cases w2
    cases w1 with
    | list ho hall => exact ⟨_,_,ns,rfl,rfl,ho,ints_of_wellAll ns _ hall,hlen⟩
theorem post_true (l : OpenLaw) (args : List WData) : l.row.toRowW.claim.post args (.bool true) args = true :=
  postW_of (r:=l.row.toRowW) (X:=(true == true))
    (show WShape.has [] (.bool true) .bool = true by first | rfl | decide | simp [WShape.has,WShape.arms,WShape.armsAll])
    (show (WTm.eq .res (.lit (.bool true))).value [] { args:=args,res:=some (.bool true),after:=args } = some (.bool (true == true)) from w_eq_bool (w_res rfl) w_lit) rfl
theorem attach_call {l : OpenLaw} {n : Nat} {q : Program} {loose : List Str} {XP : (Str→Option Value)→Heap→Prop} {YP : World→Heap→Prop} {d : DefRec}
    (hn : l.most = some n) (hdf : d.params.defaults = [])
    (call : ∀ (w : World) (s₀ s₁ : Shared) (mg mb : Str→Option Value) (fa : Addr) (o : Obj) (pm cd doc : Value) (a : Addr) (vs : List Value) (ns : List Int),
      Ground q loose [] XP w s₀ mg mb s₁.heap→YP w s₁.heap →
      s₁.heap.get? fa = some o→o.data = .func (docDef d.name d.params d.body d.scope pm cd doc)→s₁.heap.CodeRec cd d.name→mg d.name = some (.ref fa) →
      s₁.heap.get? a = some { cls:=.type "list",data:=.seq vs.toArray }→IntsAre vs ns→ns.length≤n→s₁.gens = #[] →
      codeAny (model l.prog w) callerA (.call (.ref fa) ⟨[.ref a],[]⟩) (fun r s' => r = .ok (.ret (.bool true))∧OldK s₁.heap s'.heap∧s'.os = s₁.os∧AllBare s'.gens) s₁) :
    WalkO q loose XP YP l.row.toRowW d [] (fun f vs => PySem.call f vs) := by
  intro w s₀ s₁ mg mb G Y fa o pm cd doc dV kV ho hd hcd hD hmg hg args vals as hpre hlay hrd hwl hlo
  obtain rfl : dV = .none:=Dflts.none hD hdf
  obtain rfl : kV = .none:=Dflts.noKw hD
  obtain ⟨a,vs,ns,rfl,rfl,hobj,hints,hlen⟩:=script_of hn hpre hwl
  refine enter_call (codeAny_mono (call w s₀ s₁ mg mb fa o pm cd doc a vs ns G Y ho (fd_plain hd) hcd hmg hobj hints hlen hg) fun r s' hq => ?_)
  obtain ⟨rfl,h2,h3,h4⟩:=hq
  exact ⟨.inl ⟨.bool true,.bool true,[],rfl,fun _ => rfl,.bool true,post_true l _,fun _ => ⟨List.Pairwise.nil,fun _ hm => (nomatch hm)⟩⟩,h2,h3,h4⟩
end Att
namespace L2
open PySem PySem.Spec PyProof.Rows
theorem vals_ints : ∀ {vs : List Value} {ns : List Int},IntsAre vs ns→Vals (ns.map V.int) vs
  | _,_,.nil => .nil
  | _,_,.cons n t h => .cons ⟨t,rfl⟩ (vals_ints h)
def Only (H : Hp) : Prop:=∀ b,H b = none∨∃ o xs,H b = some (.frz o (.lst xs))
theorem law_call {P : Program} {w : World} {K : PySem.W.Frag} {mg mb : Str→Option Value} {CX : CXT} {k : Nat} {fa a : Addr} {fd : FuncData} {x : Str} {sp : Sp} {s₁ : Shared} {vs : List Value} {ns : List Int}
    (KX : K.In s₁.heap) (hns : s₁.heap.Ns mainGlobals mg) (hb : s₁.heap.Ns builtinsNs mb) (hbb : ∀ x : Str,x ≠ "__name__" → mb x = bootBuiltins x) (hlim : s₁.heap.NoLimit) (hg : s₁.gens = #[])
    (ha : s₁.heap.get? a = some { cls:=.type "list",data:=.seq vs.toArray }) (hi : IntsAre vs ns) (hl : ns.length≤sizeLine) (hr : Room k callerA) (hkt : ∀ H,KTb mg H)
    (F : ∀ base : Heap,K.In base→base.Ns mainGlobals mg→FnOk P w K mg base CX k fa fd [x] sp) (hbind : ∀ (s : Shared) (u : Value),BindsTo s fd ⟨[u],[]⟩ [(x,u)])
    (hsp : ∀ H : Hp,Only H→SqL K H a (ns.map V.int)→sp [.ref a] H (fun v _ => v = .bl true) fun _ _ _ => False)
    (hCX : ∀ H e s',CX [] H s₁ (fun _ _ _ => False) e s'→False) :
    codeAny (model P w) callerA (.call (.ref fa) ⟨[.ref a],[]⟩) (fun r s' => r = .ok (.ret (.bool true))∧OldK s₁.heap s'.heap∧s'.os = s₁.os∧AllBare s'.gens) s₁ := by
  have rv:=vals_ints hi
  have lenV:=hi.length
  have core : ∀ H : Hp,Only H→SqL K H a (ns.map V.int)→HOk P w H s₁.heap→(∀ b,H b≠none→b = a)→(H a≠none→K.lookup a = none) →
      codeAny (model P w) callerA (.call (.ref fa) ⟨[.ref a],[]⟩) (fun r s' => r = .ok (.ret (.bool true))∧OldK s₁.heap s'.heap∧s'.os = s₁.os∧AllBare s'.gens) s₁ := by
    intro H hO hS hok hA hK
    have base_of : ∀ {b : Addr} {o : Obj},s₁.heap.get? b = some o→H b = none→(hidT s₁.heap H).get? b = some o:=fun e n => hidT_get e n
    have noA : ∀ {b : Addr} {o : Obj} {es : Array DictEntry} {ep : Nat},s₁.heap.get? b = some o→o.data = .dict es ep→H b = none:=fun {b o es ep} e d => by
      cases q : H b with
      | none => rfl
      | some u =>
        have e' : b = a:=hA b (by rw [q]; simp)
        subst e'
        rw [ha] at e; cases e
        have d' : Data.seq vs.toArray _ = Data.dict es ep:=d
        cases d'
    have nsK : ∀ {b : Addr} {m : Str→Option Value},s₁.heap.Ns b m→(hidT s₁.heap H).Ns b m:=fun {b m} ⟨o,es,ep,e,d,r⟩ => ⟨o,es,ep,base_of e (noA e d),d,r⟩
    have hKb : K.In (hidT s₁.heap H):=fun b o e => base_of (KX b o e) (by
      cases q : H b with
      | none => rfl
      | some u =>
        have e' : b = a:=hA b (by rw [q]; simp)
        subst e'
        rw [hK (by rw [q]; simp)] at e; cases e)
    have hM : Mod K mg (hidT s₁.heap H):=⟨hKb,nsK hns,⟨mb,nsK hb,hbb⟩,let ⟨mc,h1,h2⟩:=hlim; ⟨mc,nsK h1,h2⟩⟩
    have e0 : Env0 P w K mg (hidT s₁.heap H) callerA [] s₁ H:=⟨rfl,hM,fun b o e => of_hidT e,Nat.le_of_eq (hidT_size _ _),trivial,fun b hb => absurd (show b∈([] : List Addr) from hb) (by simp),hok,.of_eq hg,hkt H⟩
    refine codeAny_mono ((F _ hKb (nsK hns)).run callerA [] s₁ H ⟨[.ref a],[]⟩ [.ref a] [.ref a] _ _ hr e0 (hbind s₁ (.ref a)) (.cons rfl .nil) (hsp H hO hS)) fun r s' h => ?_
    cases r with
    | error e => exact (hCX H e s' h).elim
    | ok fl =>
      cases fl with
      | next => exact False.elim h
      | brk => exact False.elim h
      | cont => exact False.elim h
      | ret u =>
        obtain ⟨v,H',os,bare,un,hok',r',q⟩:=h
        have q' : v = .bl true:=q
        subst q'
        obtain rfl : u = Value.bool true:=r'
        refine ⟨rfl,OldK.of_keep fun b o e => ?_,os,bare⟩
        cases q : H b with
        | none => exact un.keep b o e q (by intro z; exact absurd (show b∈([] : List Addr) from z) (by simp)) (by simp)
        | some u =>
          rcases hO b with z | ⟨ob,xs,z⟩
          · rw [q] at z; cases z
          · have z2:=un.frzs b ob _ z
            obtain ⟨e1,_⟩:=hok b _ z
            obtain ⟨e2,_⟩:=hok' b _ z2
            rw [e] at e1; cases e1
            exact e2
  cases hk : K.lookup a with
  | some o =>
    have e:=KX a o hk
    rw [ha] at e
    cases e
    refine core (fun _ => none) (fun _ => .inl rfl) (.inr ⟨_,vs.toArray,_,hk,rfl,rfl,rfl,by rw [List.size_toArray,lenV]; exact hl,by simpa using rv⟩) (fun b u z => by have z' : (none : Option HO) = some u:=z; cases z') (fun b z => absurd rfl z) fun z => absurd rfl z
  | none =>
    refine core (fun b => if b = a then some (.frz { cls:=.type "list",data:=.seq vs.toArray } (.lst (ns.map V.int))) else none) (fun b => ?_) (.inl (.inr ⟨{ cls:=.type "list",data:=.seq vs.toArray },if_pos rfl⟩)) (fun b u z => ?_) (fun b z => ?_) fun _ => hk
    · by_cases hb : b = a
      · exact .inr ⟨_,_,if_pos hb⟩
      · exact .inl (if_neg hb)
    · by_cases hb : b = a
      · have z':=(if_pos hb).symm.trans z
        cases z'
        subst hb
        exact ⟨ha,by rw [List.length_map]; exact hl,vs,_,rv,ha⟩
      · have z':=(if_neg hb).symm.trans z
        cases z'
    · by_cases hb : b = a
      · exact hb
      · exact absurd (if_neg hb) z
theorem walk_of {l : PySem.W.OpenLaw} {n k : Nat} {q : Program} {loose : List Str} {XP : (Str→Option Value)→Heap→Prop} {YP : World→Heap→Prop} {d : DefRec} {K : Params→PySem.W.Frag} {CX : World→CXT} {sp : World→Sp} {x : Str}
    (hn : l.most = some n) (hn2 : n≤sizeLine) (hdf : d.params.defaults = []) (hr : Room k callerA) (hkt : ∀ (w : World) (mg : Str→Option Value) (h : Heap),(K w.params).In h→h.Ns mainGlobals mg→∀ H,KTb mg H)
    (hY : ∀ (w : World) (h : Heap),YP w h→(K w.params).In h)
    (F : ∀ (w : World) (mg : Str→Option Value) (fa : Addr) (h : Heap),(K w.params).In h→h.Ns mainGlobals mg→mg d.name = some (.ref fa) →
      ∃ fd : FuncData,(∀ (s : Shared) (u : Value),BindsTo s fd ⟨[u],[]⟩ [(x,u)]) ∧
        ∀ base : Heap,(K w.params).In base→base.Ns mainGlobals mg→FnOk l.prog w (K w.params) mg base (CX w) k fa fd [x] (sp w))
    (hsp : ∀ (w : World) (H : Hp) (a : Addr) (ns : List Int),ns.length≤n→Only H→SqL (K w.params) H a (ns.map V.int)→sp w [.ref a] H (fun v _ => v = .bl true) fun _ _ _ => False)
    (hCX : ∀ (w : World) (H : Hp) (s : Shared) (e : Value) (s' : Shared),CX w [] H s (fun _ _ _ => False) e s'→False) :
    PySem.W.WalkO q loose XP YP l.row.toRowW d [] (fun f vs => PySem.call f vs) := by
  refine Att.attach_call hn hdf fun w s₀ s₁ mg mb fa o pm cd doc a vs ns G Y ho hd hcd hmg hobj hints hlen hg => ?_
  have KX:=hY w _ Y
  obtain ⟨fd,hb,hF⟩:=F w mg fa _ KX G.T.g hmg
  exact law_call (hkt:=hkt w mg _ KX G.T.g) KX G.T.g G.T.b G.T.builtins G.T.nolimit hg hobj hints (Nat.le_trans hlen hn2) hr hF hb (fun H hO hS => hsp w H a ns hlen hO hS) fun H e s' => hCX w H s₁ e s'
def defArgs (s : Stmt) : Arguments:=match s with
  | .FunctionDef _ a _ _ _ _ _ _ _ _ => a
  | _ => { posonlyargs:=[],args:=[],vararg:=none,kwonlyargs:=[],kw_defaults:=[],kwarg:=none,defaults:=[] }
def defBody (s : Stmt) : List Stmt:=match s with
  | .FunctionDef _ _ b _ _ _ _ _ _ _ => b
  | _ => []
def defScope (s : Stmt) : Scope:=match s with
  | .FunctionDef _ _ _ _ _ _ sc _ _ _ => sc
  | _ => { kind:=.function,names:=[],isGenerator:=false,isCoroutine:=false }
abbrev CX0 : CXT:=fun _ _ _ _ _ _ => False
abbrev E0 : XK:=fun _ _ _ => False
theorem pass0 {X : Cx} : Passes CX0 X E0:=fun _ _ _ _ _ _ _ h => h.elim
structure Fun (K : PySem.W.Frag) (x qual : Str) (st : Stmt) (f : Addr) (fd : FuncData) : Prop where
  ex : ∃ (oc : Value) (od : Option Addr) (kV doc pm : Value) (an : Option Addr) (cdv ct : Value) (osl : Array (Option Value)),
    fd = PySem.W.fnOf x qual (defArgs st) (defBody st) (defScope st) .none kV doc pm an cdv ct∧K.lookup f = some ⟨oc,od,.func fd,osl⟩∧PySem.W.codeIn K cdv qual = true
  kp : PySem.W.keepIn K (.ref f) = true
section
variable {P : Program} {w : World} {K : PySem.W.Frag} {mg : Str→Option Value} {base : Heap}
theorem Fun.ok {x qual : Str} {st : Stmt} {f : Addr} {fd : FuncData} {N ps : List Str} {k : Nat} {sp : Sp} (F : Fun K x qual st f fd) (S : FnScope N ps (defScope st)) (len : ∀ vs H Q E,sp vs H Q E→vs.length = ps.length)
    (hbody : ∀ (cdv : Value) (A : Around) (outer : List Env) (s : Shared) (H : Hp) (vs : List V) (Q : VK) (E : XK),Room k (A.deeper (envOfC qual (defScope st) s.heap.objs.size f cdv))→sp vs H Q E →
      ∃ t,PSs (cxOf CX0 P w K mg base N qual (defScope st) f cdv A outer s H E).nox (defBody st) t∧t { nx:=fun _ H' => Q .non H',rt:=Q } (start N vs) H) : FnOk P w K mg base CX0 (k + 1) f fd ps sp := by
  obtain ⟨oc,od,kV,doc,pm,an,cdv,ct,osl,rfl,lk,hcd⟩:=F.ex
  refine fn_of lk hcd S len fun A outer s H vs Q E hr hsp => ?_
  obtain ⟨t,h,q⟩:=hbody cdv A outer s H vs Q E hr hsp
  exact ⟨t,h.nox,q⟩
theorem Fun.binds {x qual : Str} {st : Stmt} {f : Addr} {fd : FuncData} {ps : List Str} (F : Fun K x qual st f fd)
    (h : ∀ (kV doc pm : Value) (an : Option Addr) (cdv ct : Value) (us : List Value),us.length = ps.length→bindArgs (PySem.W.fnOf x qual (defArgs st) (defBody st) (defScope st) .none kV doc pm an cdv ct) ⟨us,[]⟩ = pure (ps.zip us)) : Binds K fd ps [] := by
  obtain ⟨oc,od,kV,doc,pm,an,cdv,ct,osl,rfl,lk,hcd⟩:=F.ex
  exact .all (h kV doc pm an cdv ct)
theorem fun_mk {x qual : Str} {st : Stmt} {f : Addr} {oc : Value} {od an : Option Addr} {osl : Array (Option Value)} {kV doc pm cdv ct : Value} (l : K.lookup f = some ⟨oc,od,.func (PySem.W.fnOf x qual (defArgs st) (defBody st) (defScope st) .none kV doc pm an cdv ct),osl⟩)
    (c : PySem.W.codeIn K cdv qual = true) (k : PySem.W.keepIn K (.ref f) = true) : Fun K x qual st f (PySem.W.fnOf x qual (defArgs st) (defBody st) (defScope st) .none kV doc pm an cdv ct):=⟨⟨oc,od,kV,doc,pm,an,cdv,ct,osl,rfl,l,c⟩,k⟩
end
section
variable {X : Cx}
theorem pv (i : Nat) {x : Str} {pos : Pos} (hN : X.N[i]? = some x := by rfl) (hv : Vis X.env.scope x := by first | exact Or.inl rfl | exact Or.inr (Or.inl rfl) | exact Or.inr (Or.inr rfl)) (hd : (x == ("__debug__" : Str)) = false := by decide)
    (hcd : (x == ("__classdict__" : Str)) = false := by decide) : PE X (.Name x pos) (tVar i):=pe_var hN hv hd hcd
end
theorem iteF {A B : Prop} (h : B) : if false = true then A else B := by
  rw [if_neg Bool.false_ne_true]
  exact h
theorem iteT {A B : Prop} (h : A) : if true = true then A else B := by
  rw [if_pos rfl]
  exact h
theorem ite2 {c A B : Prop} [Decidable c] (h1 : c→A) (h2 : ¬ c→B) : if c then A else B := by
  by_cases h : c
  · rw [if_pos h]
    exact h1 h
  · rw [if_neg h]
    exact h2 h
def Same (H H' : Hp) : Prop:=∀ b o,H b = some o→H' b = some o
theorem Same.refl (H : Hp) : Same H H:=fun _ _ h => h
theorem Same.trans {H H1 H2 : Hp} (a : Same H H1) (b : Same H1 H2) : Same H H2:=fun c o h => b c o (a c o h)
theorem Same.seq {K : PySem.W.Frag} {H H' : Hp} {a : Addr} {xs : List V} (e : Same H H') (h : SqL K H a xs) : SqL K H' a xs := by
  rcases h with (h | ⟨o,h⟩) | h
  · exact .inl (.inl (e _ _ h))
  · exact .inl (.inr ⟨o,e _ _ h⟩)
  · exact .inr h
section
variable {X : Cx}
def CMulW (i j : Int) : Prop:=∃ m : Nat,m≤1000000∧i.natAbs < 2 ^ m∧j.natAbs < 2 ^ m
theorem CMulW.ok {i j : Int} (h : CMulW i j) : IntMulOk i j := by
  obtain ⟨m,hm,h1,h2⟩:=h
  exact IntMulOk.of_le (intBits_le_iff.mpr h1) (intBits_le_iff.mpr h2) (by lia)
theorem op_mulW : OpR X (binaryOp .Mult) (rI (fun i j => CMul i j∨CMulW i j) fun i j => .int (i * j)) :=
  opI fun _ _ _ _ _ _ _ hc q => mul_int q (hc.elim (fun z => z.ok) fun z => z.ok)
def CDivW (_i j : Int) : Prop:=j≠0∧∃ m : Nat,m≤9000∧j.natAbs < 2 ^ m
theorem op_fdivW : OpR X (binaryOp .FloorDiv) (rI CDivW fun i j => .int (i.fdiv j)):=opI fun i j _ _ _ _ _ hc q => by
  obtain ⟨h0,m,hm,h1⟩:=hc
  refine floordiv_int h0 q (.inl (PyProof.noPylong_of_log2 ?_))
  have hne : j.natAbs≠0 := by lia
  have : j.natAbs.log2 < m:=(Nat.log2_lt hne).mpr h1
  lia
mutual
def Br (K : PySem.W.Frag) (H : Hp) : PyData→V→Prop
  | .none,v => v = .non
  | .bool b,v => v = .bl b
  | .int i,v => v = .int i
  | .str x,v => v = .str x
  | .tuple ds,v => ∃ a xs,v = .ref a∧SqT K H a xs∧BrAll K H ds xs
  | .list ds,v => ∃ a xs,v = .ref a∧SqL K H a xs∧BrAll K H ds xs
  | .dict _,_ => False
def BrAll (K : PySem.W.Frag) (H : Hp) : List PyData→List V→Prop
  | [],xs => xs = []
  | d :: ds,xs => ∃ x r,xs = x :: r∧Br K H d x∧BrAll K H ds r
end
mutual
theorem Br.reads {pins : List (Addr×Obj)} {σ : St} {H : Hp} {s : Shared} (I : Inv X pins σ H s) : ∀ {d : PyData} {v : V} {u : Value},Br X.K H d v→RelV v u→∃ as,Reads s.heap u d as
  | .none,_,u,h,r => by rw [Br] at h; subst h; cases r; exact ⟨_,.none⟩
  | .bool b,_,u,h,r => by rw [Br] at h; subst h; cases r; exact ⟨_,.bool b⟩
  | .int i,_,u,h,r => by rw [Br] at h; subst h; obtain ⟨t,rfl⟩:=r; exact ⟨_,.int i t⟩
  | .str x,_,u,h,r => by rw [Br] at h; subst h; obtain ⟨t,rfl⟩:=r; exact ⟨_,.str x t⟩
  | .tuple ds,_,u,h,r => by
    rw [Br] at h
    obtain ⟨a,xs,e1,h1,h2⟩:=h
    subst e1
    cases r
    obtain ⟨its,rv,⟨o,e,c,n,hd⟩,_⟩:=I.tuple h1
    obtain ⟨as,ra⟩:=BrAll.reads I h2 rv
    exact ⟨_,.tuple e c hd (by simpa using ra)⟩
  | .list ds,_,u,h,r => by
    rw [Br] at h
    obtain ⟨a,xs,e1,h1,h2⟩:=h
    subst e1
    cases r
    obtain ⟨its,rv,⟨o,n,e,c,_,hd⟩,_⟩:=I.list h1
    obtain ⟨as,ra⟩:=BrAll.reads I h2 rv
    exact ⟨_,.list e c hd (by simpa using ra)⟩
  | .dict _,_,_,h,_ => by rw [Br] at h; exact h.elim
theorem BrAll.reads {pins : List (Addr×Obj)} {σ : St} {H : Hp} {s : Shared} (I : Inv X pins σ H s) : ∀ {ds : List PyData} {xs : List V} {us : List Value},BrAll X.K H ds xs→Vals xs us→∃ as,ReadsAll s.heap us ds as
  | [],_,us,h,r => by rw [BrAll] at h; subst h; cases r; exact ⟨_,.nil⟩
  | _ :: _,_,us,h,r => by
    rw [BrAll] at h
    obtain ⟨x,q,e1,h1,h2⟩:=h
    subst e1
    cases r with
    | cons r1 r2 =>
      obtain ⟨as,ra⟩:=Br.reads I h1 r1
      obtain ⟨bs,rb⟩:=BrAll.reads I h2 r2
      exact ⟨_,.cons ra rb⟩
end
def rEqD (K : PySem.W.Frag) (neg : Bool) : R2:=fun x y H Q => ∃ d e,Br K H d x∧Br K H e y∧SeqAt.shaped d = true∧SeqAt.shaped e = true∧Q (.bl (if neg then !PyData.eqv d e else PyData.eqv d e)) H
theorem op_eqD (hu : X.A.units + 64 < cLine) : OpR X (compareOp .Eq) (rEqD X.K false) := by
  intro pins s σ H x y v u Q I rx ry h
  obtain ⟨d,e,h1,h2,s1,s2,q⟩:=h
  obtain ⟨as,ra⟩:=Br.reads I h1 rx
  obtain ⟨bs,rb⟩:=Br.reads I h2 ry
  exact eq_dataH ra rb s1 s2 hu ⟨.bl _,H,I,rfl,q⟩
theorem op_neD (hu : X.A.units + 64 < cLine) : OpR X (compareOp .NotEq) (rEqD X.K true) := by
  intro pins s σ H x y v u Q I rx ry h
  obtain ⟨d,e,h1,h2,s1,s2,q⟩:=h
  obtain ⟨as,ra⟩:=Br.reads I h1 rx
  obtain ⟨bs,rb⟩:=Br.reads I h2 ry
  exact ne_dataH ra rb s1 s2 hu ⟨.bl _,H,I,rfl,q⟩
end
end L2
set_option maxHeartbeats 4000000
namespace L2
open PySem PySem.Spec PyProof.Rows
def PIf (X : Cx) (ifs : List Expr) (t : TT) : Prop :=
  ∀ (pins : List (Addr×Obj)) (s : Shared) (σ : St) (H : Hp) (Q : Bool→Hp→Prop),Inv X pins σ H s→t σ H Q →
    wpAny (model X.prog X.w) X.A (forIn ifs true fun c r => if r = true then do let ok ← isTrue c X.env (eval c X.env); pure (ForInStep.yield ok) else pure (ForInStep.yield r)) (TP X pins σ Q) X.xe s
def tNoIf : TT:=fun _ H Q => Q true H
theorem pif_nil {X : Cx} : PIf X [] tNoIf:=fun _ _ σ H _ I h => wpAny_tests_nil ⟨H,I,h⟩
theorem pif_one {X : Cx} {c : Expr} {t : TT} (h : PT X c t) : PIf X [c] t := by
  intro pins s σ H Q I hw
  simp only [List.forIn_cons,List.forIn_nil,if_true]
  refine wpAny_bind (wpAny_bind (thn (h pins s σ H Q I hw) fun b s1 q => ?_))
  exact wpAny_pure (wpAny_pure q)
def frOk (N XN : List Str) (sc xsc : Scope) : List (Option Nat)→Nat→Bool
  | [],_ => true
  | none :: r,i => frOk N XN sc xsc r (i + 1)
  | some j :: r,i => (match N[i]?,XN[j]? with
      | some n,some m => n == m && sc.names.lookup n == some .free && xsc.names.lookup n == some .cell
      | _,_ => false) && frOk N XN sc xsc r (i + 1)
theorem frOk_get {N XN : List Str} {sc xsc : Scope} : ∀ {fr : List (Option Nat)} {k : Nat},frOk N XN sc xsc fr k = true→∀ {i j : Nat},fr[i]? = some (some j) →
    ∃ n,N[k + i]? = some n∧XN[j]? = some n∧sc.names.lookup n = some .free∧xsc.names.lookup n = some .cell
  | [],_,_,i,j,e => by simp at e
  | none :: r,k,h,0,j,e => by simp at e
  | none :: r,k,h,i + 1,j,e => by
    have q:=frOk_get (fr:=r) (k:=k + 1) h (i:=i) (j:=j) (by simpa using e)
    have z : k + (i + 1) = k + 1 + i := by lia
    rw [z]; exact q
  | some j' :: r,k,h,0,j,e => by
    have e' : j' = j := by simpa using e
    subst e'
    rw [frOk,Bool.and_eq_true] at h
    have h1:=h.1
    split at h1
    · rename_i n m hn hm
      simp only [Bool.and_eq_true,beq_iff_eq] at h1
      obtain ⟨⟨rfl,h2⟩,h3⟩:=h1
      exact ⟨n,by simpa using hn,hm,h2,h3⟩
    · cases h1
  | some j' :: r,k,h,i + 1,j,e => by
    rw [frOk,Bool.and_eq_true] at h
    have q:=frOk_get (fr:=r) (k:=k + 1) h.2 (i:=i) (j:=j) (by simpa using e)
    have z : k + (i + 1) = k + 1 + i := by lia
    rw [z]; exact q
def carry (fr : List (Option Nat)) (σ : St) : St:=fr.map fun o => match o with
  | some j => (σ[j]?).join
  | none => none
theorem carry_get {fr : List (Option Nat)} {σ : St} {i : Nat} {v : V} (h : (carry fr σ)[i]? = some (some v)) : ∃ j,fr[i]? = some (some j)∧σ[j]? = some (some v) := by
  unfold carry at h
  rw [List.getElem?_map] at h
  cases e : fr[i]? with
  | none => rw [e] at h; cases h
  | some o =>
    rw [e] at h
    cases o with
    | none => simp at h
    | some j =>
      refine ⟨j,rfl,?_⟩
      simp only [Option.map_some,Option.some.injEq] at h
      cases q : σ[j]? with
      | none => rw [q] at h; cases h
      | some w => rw [q] at h; simp at h; rw [h]
theorem closure_of {env : Env} : ∀ (names : List (Str×NameKind)) (cs : List (Str×Addr)),(∀ x∈names,x.2 = NameKind.free→∃ c,env.cells.lookup x.1 = some c)→(∀ x c,cs.lookup x = some c→env.cells.lookup x = some c) →
    ∃ cl,(forIn names cs (fun (x : Str×NameKind) (r : List (Str×Addr)) => do if (x.2 == NameKind.free) = true then do let a ← cellOf env x.1; pure (ForInStep.yield ((x.1,a) :: r)) else pure (ForInStep.yield r)) : Sem (List (Str×Addr))) = pure cl ∧
      (∀ x c,cl.lookup x = some c→env.cells.lookup x = some c)∧(∀ x,(∃ c,cs.lookup x = some c)→∃ c,cl.lookup x = some c)∧∀ x∈names,x.2 = NameKind.free→∃ c,cl.lookup x.1 = some c
  | [],cs,_,h2 => ⟨cs,rfl,h2,fun _ q => q,fun _ z => (by cases z)⟩
  | (n,k) :: r,cs,h1,h2 => by
    rw [List.forIn_cons]
    by_cases hk : (k == NameKind.free) = true
    · obtain ⟨c,hc⟩:=h1 (n,k) List.mem_cons_self (by simpa using hk)
      have h2' : ∀ x c',((n,c) :: cs).lookup x = some c'→env.cells.lookup x = some c':=fun x c' e => by
        rw [List.lookup_cons] at e
        cases hx : x == n with
        | true => rw [hx] at e; have := beq_iff_eq.mp hx; subst this; simp at e; rw [← e]; exact hc
        | false => rw [hx] at e; exact h2 x c' e
      obtain ⟨cl,q1,q2,q3,q4⟩:=closure_of r ((n,c) :: cs) (fun x hx => h1 x (List.mem_cons_of_mem _ hx)) h2'
      have hn : ∃ c',cl.lookup n = some c':=q3 n ⟨c,by rw [List.lookup_cons,beq_self_eq_true]⟩
      refine ⟨cl,?_,q2,fun x hx => ?_,fun x hx hf => ?_⟩
      · simp only [hk,if_true]
        unfold cellOf
        rw [hc]
        exact q1
      · refine q3 x ?_
        rw [List.lookup_cons]
        cases hxn : x == n with
        | true => exact ⟨c,rfl⟩
        | false => exact hx
      · rcases List.mem_cons.mp hx with e | hx
        · subst e; exact hn
        · exact q4 x hx hf
    · obtain ⟨cl,q1,q2,q3,q4⟩:=closure_of r cs (fun x hx => h1 x (List.mem_cons_of_mem _ hx)) h2
      refine ⟨cl,?_,q2,q3,fun x hx hf => ?_⟩
      · simp only [hk]
        exact q1
      · rcases List.mem_cons.mp hx with e | hx
        · subst e; exact absurd (by simpa using hf) hk
        · exact q4 x hx hf
def cxComp (X : Cx) (scope : Scope) (cl : List (Str×Addr)) (N : List Str) (C : Addr) (s₀ : Shared) (H₀ : Hp) (fp : List Addr) : Cx where
  prog:=X.prog
  w:=X.w
  K:=X.K
  mg:=X.mg
  base:=X.base
  A:=X.A
  N:=N
  s₀:=s₀
  H₀:=H₀
  env:=compEnvC scope cl C X.env
  outer:=X.stack
  stack:=X.stack
  ex:=fp
  fn:=fun _ => false
  calm:=X.calm
  pn:=[]
  xe:=fun _ _ => False
def tComp (wi : TI) (fr : List (Option Nat)) (ix : Nat) (tif : TT) (te : TE) : TE:=fun σ H Q => wi σ H fun J H1 => ∀ D,H1 D = none→∃ W : Nat→Nat→List V→Hp→Prop,(∃ m,W 0 m [] (upd H1 D (.lst []))) ∧
  ∀ i m ys H,W i m ys H→H D = some (.lst ys)∧((J.stop i H∧Q (.ref D) H)∨(J.go i H∧ys.length < sizeLine∧∀ x H',J.yld i H x H' →
    tif ((carry fr σ).set ix (some x)) H' fun b H2 => if b = true then te ((carry fr σ).set ix (some x)) H2 fun y H3 => H3 D = some (.lst ys)∧∃ m',m' < m∧W (i + 1) m' (ys ++ [y]) (upd H3 D (.lst (ys ++ [y])))
      else ∃ m',m' < m∧W (i + 1) m' ys H2))
structure CompScope (scope : Scope) (N : List Str) (x : Str) (ix : Nat) : Prop where
  kind : scope.kind = .function
  cell : ∀ y∈scope.names,y.2≠.cell
  names : ∀ y∈scope.names,y.2 = .local→scope.names.lookup y.1 = some .local
  free : ∀ y∈scope.names,y.2 = .free→scope.names.lookup y.1 = some .free
  loc : scope.names.lookup x = some .local
  nd : N.Nodup
  at_ : N[ix]? = some x
theorem lookup_mem {names : List (Str×NameKind)} {n : Str} {k : NameKind} : names.lookup n = some k→(n,k)∈names := by
  induction names with
  | nil => intro h; cases h
  | cons y r ih =>
    intro h
    obtain ⟨m,j⟩:=y
    rw [List.lookup_cons] at h
    cases e : n == m with
    | true => rw [e] at h; have := beq_iff_eq.mp e; subst this; simp at h; subst h; exact List.mem_cons_self
    | false => rw [e] at h; exact List.mem_cons_of_mem _ (ih h)
theorem relabel_kind {scope : Scope} {env : Env} (hc : ∀ y∈scope.names,y.2≠.cell) {n : Str} (h : (relabel scope env).names.lookup n = some .cell∨(relabel scope env).names.lookup n = some .free) : ∃ k,(n,k)∈scope.names∧k = NameKind.free := by
  have key : ∀ k',(relabel scope env).names.lookup n = some k'→(k' = .cell∨k' = .free)→∃ k,(n,k)∈scope.names∧k = NameKind.free:=fun k' h hk => by
    have hm:=lookup_mem h
    unfold relabel at hm
    obtain ⟨⟨m,k⟩,hy,e⟩:=List.mem_map.mp hm
    dsimp only at e
    by_cases hcond : (k == NameKind.free && env.scope.kind == .function && env.kindOf m == some .cell) = true
    · rw [if_pos hcond] at e
      injection e with e1 e2
      subst e1
      refine ⟨k,hy,?_⟩
      simp only [Bool.and_eq_true,beq_iff_eq] at hcond
      exact hcond.1.1
    · rw [if_neg hcond] at e
      injection e with e1 e2
      subst e1 e2
      rcases hk with rfl | rfl
      · exact absurd rfl (hc _ hy)
      · exact ⟨_,hy,rfl⟩
  rcases h with h | h
  · exact key _ h (.inl rfl)
  · exact key _ h (.inr rfl)
section
variable {X : Cx} {elt iter : Expr} {x : Str} {px pos : Pos} {ifs : List Expr} {scope : Scope} {wi : TI} {fr : List (Option Nat)} {ix : Nat} {tif : TT} {te : TE} {N : List Str}
theorem codeAny_compLoop_testsT {prog : Program} {w : World} {A : Around} {R : Result→Shared→Prop} {s : Shared} {elt target iter : Expr} {ifs : List Expr} {scope : Scope} {pos : Pos} {it acc : Value} {env : Env} (I : Nat→Shared→Prop)
    (turn : ∀ n s,I n s→wpAny (model prog w) A (pyNext it) (fun r s₁ => match r with
      | none => R (.ok .next) s₁
      | some v => wpAny (model prog w) A (letOwnedTupleGo target it v >>= fun _ => assign target env v) (fun _ s₂ =>
          wpAny (model prog w) A (forIn ifs true fun c r => if r = true then do let ok ← isTrue c env (eval c env); pure (ForInStep.yield ok) else pure (ForInStep.yield r)) (fun ok s₃ =>
            if ok = true then wpAny (model prog w) A (eval elt env) (fun x s₄ =>
              wpAny (model prog w) A (call (.builtin "list.append") [acc,x]) (fun _ s₅ => ∃ m,m < n∧I m s₅) (notedBy (model prog w) A env fun e s' => R (.error e) s') s₄) (notedBy (model prog w) A env fun e s' => R (.error e) s') s₃
            else ∃ m,m < n∧I m s₃) (notedBy (model prog w) A env fun e s' => R (.error e) s') s₂) (notedBy (model prog w) A env fun e s' => R (.error e) s') s₁) (notedBy (model prog w) A env fun e s' => R (.error e) s') s)
    (n : Nat) (h : I n s) :
    codeAny (model prog w) A (.compLoop (.ListComp elt [⟨target,iter,ifs,0⟩] scope pos) 0 it acc env) R s := by
  refine codeAny_loop rfl I (fun n s hI => ?_) n h
  show wpAny _ A ((compTurn (.ListComp elt [⟨target,iter,ifs,0⟩] scope pos) 0 it acc env).onRaise (fun x => do noteFrame x env; theTreesLotGoes x)) _ _ s
  refine wpAny_noted ?_
  rw [compTurn_list]
  refine wpAny_bind (wpAny_standAt (wpAny_bind (wpAny_mono (turn n s hI) (fun r s₁ h₁ => ?_) fun _ _ h' => h')))
  cases r with
  | none => exact wpAny_pure h₁
  | some v =>
    show wpAny (model prog w) A (letOwnedTupleGo target it v >>= fun _ => assign target env v >>= _) _ _ s₁
    rw [← bind_assoc]
    refine wpAny_bind (wpAny_mono h₁ (fun _ s₂ h₂ => wpAny_bind (wpAny_mono h₂ (fun ok s₃ h₃ => ?_) fun _ _ h' => h')) fun _ _ h' => h')
    cases ok with
    | false => exact wpAny_pure ⟨rfl,h₃⟩
    | true =>
      exact wpAny_bind (wpAny_bind (wpAny_mono h₃ (fun x s₄ h₄ => wpAny_bind (wpAny_mono h₄ (fun _ s₅ h₅ => wpAny_pure (wpAny_pure ⟨rfl,h₅⟩)) fun _ _ h' => h')) fun _ _ h' => h'))
theorem comp_blockG {pins : List (Addr×Obj)} {σ : St} {H2 : Hp} {s2 : Shared} {Q : VK} {it : Addr} {fp : List Addr} {tn : Nat→Heap→Prop} {J : It} {cl : List (Str×Addr)} {E : Value→Shared→Prop} {RR : Value→Addr→Result→Shared→Prop}
    (S : CompScope scope N x ix) (hcalm : X.calm = true) {tgE : Expr} {g : TG} (Rv : St→Prop) (r0 : Rv (carry fr σ)) (hpg : ∀ C,PG (cxComp X scope cl N C s2 H2 fp) tgE g) (hfr : frOk N X.N scope X.env.scope fr 0 = true) (hlen : fr.length = N.length)
    (hif : ∀ cl C s₀ H₀ fp,PIf (cxComp X scope cl N C s₀ H₀ fp) ifs tif) (he : ∀ cl C s₀ H₀ fp,PE (cxComp X scope cl N C s₀ H₀ fp) elt te)
    (I2 : Inv X pins σ H2 s2) (T : Turn X.prog X.w X.K tgE J fp it tn) (st2 : tn 0 s2.heap) (f2 : ∀ b∈fp,FpOk X pins H2 b)
    (c1 : ∀ x c,cl.lookup x = some c→X.env.cells.lookup x = some c) (c2 : ∀ x∈scope.names,x.2 = NameKind.free→∃ c,cl.lookup x.1 = some c)
    (W : ∀ D,H2 D = none→∃ W : Nat→Nat→List V→Hp→Prop,(∃ m,W 0 m [] (upd H2 D (.lst []))) ∧
      ∀ i m ys H,W i m ys H→H D = some (.lst ys)∧((J.stop i H∧Q (.ref D) H)∨(J.go i H∧ys.length < sizeLine∧∀ x H',J.yld i H x H'→∀ σ',Rv σ'→g x σ' H' fun σ6 H6 => Rv σ6 ∧
        tif σ6 H6 fun b H2 => if b = true then te σ6 H2 fun y H3 => H3 D = some (.lst ys)∧∃ m',m' < m∧W (i + 1) m' (ys ++ [y]) (upd H3 D (.lst (ys ++ [y])))
          else ∃ m',m' < m∧W (i + 1) m' ys H2)))
    (fin : ∀ (D C : Addr) (s' : Shared) (H' : Hp) m,s'.heap.Ns C m→Q (.ref D) H'→(∀ h',Heap.SameBut C s'.heap h'→Inv X pins σ H' { s' with heap:=h' })→C≠D→(∀ b o,s2.heap.get? b = some o→b≠C)→H' C = none→s2.heap.objs.size≤C→RR (.ref D) C (.ok .next) s') :
    wpAny (model X.prog X.w) X.A (newList []) (fun acc s₃ => wpAny (model X.prog X.w) X.A (newFunctionEnv scope X.env.globals cl [] X.env.qual none .none (some X.env)) (fun cenv s₄ =>
      codeAny (model X.prog X.w) X.A (.compStart (.ListComp elt [⟨tgE,iter,ifs,0⟩] scope pos) 0 (.ref it) acc { cenv with scope:=relabel scope X.env }) (RR acc cenv.locals) s₄) E s₃) E s2 := by
  refine wpAny_newObj_type (wpAny_newFunctionEnv S.cell (by intro y hy; simp at hy) (fun h₁ hns₁ hsb₁ => ?_) S.kind)
  dsimp only at hns₁ hsb₁ ⊢
  generalize hHp : s2.heap.push { cls:=.type "list",dict:=none,data:=.seq ([] : List Value).toArray } = Hq at hns₁ hsb₁ ⊢
  have hC : Hq.objs.size = s2.heap.objs.size + 1 := by rw [← hHp,Heap.size_push]
  have hDC : s2.heap.objs.size≠Hq.objs.size := by rw [hC]; exact Nat.ne_of_lt (Nat.lt_succ_self _)
  have below : ∀ b,b < s2.heap.objs.size→b≠Hq.objs.size∧b≠s2.heap.objs.size:=fun b hb => ⟨by rw [hC]; exact Nat.ne_of_lt (Nat.lt_succ_of_lt hb),Nat.ne_of_lt hb⟩
  have old : ∀ b o,s2.heap.get? b = some o→h₁.get? b = some o:=fun b o e => hsb₁.extBut b o (below b (Heap.lt_size e)).1 (Heap.get?_push_of_some _ (hHp ▸ Heap.get?_push_of_some _ e))
  have hacc : h₁.get? s2.heap.objs.size = some { cls:=.type "list",data:=.seq ([] : List Value).toArray }:=hsb₁.extBut _ _ hDC (Heap.get?_push_of_some _ (hHp ▸ Heap.get?_push_size _ rfl))
  have hD2 : H2 s2.heap.objs.size = none:=I2.hok.fresh (Nat.le_refl _)
  have hC2 : H2 Hq.objs.size = none:=I2.hok.fresh (by rw [hC]; exact Nat.le_succ _)
  have fpo : ∀ b∈fp,b < s2.heap.objs.size:=fun b hb => by
    obtain ⟨o,e,_⟩:=T.obj _ _ st2 b hb
    exact Heap.lt_size e
  obtain ⟨W,⟨m0,w0⟩,turn⟩:=W s2.heap.objs.size hD2
  have ok : (cxComp X scope cl N Hq.objs.size s2 H2 fp).Ok := by
    refine ⟨I2.ok.mod,S.kind,I2.ok.glob,I2.ok.blt,by show s2.heap.objs.size≤Hq.objs.size; rw [hC]; exact Nat.le_succ _,?_,?_,?_,fun _ => I2.ok.hd hcalm,I2.ok.frames,.inl rfl,?_,I2.bs,Nat.le_trans I2.ok.bsz I2.sz,?_,?_,I2.stack,I2.stkFree,I2.kt⟩
    · exact fun a b c h1 h2 => I2.ok.inj a b c (c1 _ _ h1) (c1 _ _ h2)
    · intro y hy
      obtain ⟨k,hm,rfl⟩:=relabel_kind S.cell hy
      exact c2 _ hm rfl
    · intro y c hf
      cases hf
    · intro b hb
      refine ⟨(below b (fpo b hb)).1,fun y c e => ?_⟩
      obtain ⟨_,_,_,_,f5,_⟩:=f2 b hb
      exact f5 y c (c1 _ _ e)
    · intro b o e hb
      obtain ⟨_,_,_,f4,_,_⟩:=f2 b hb
      rcases f4 with z | z
      · exact I2.ok.noex b o e z
      · exact absurd (Nat.lt_of_lt_of_le (Heap.lt_size e) (Nat.le_trans I2.ok.bsz z)) (Nat.lt_irrefl _)
    · intro b hb hs
      obtain ⟨_,f1,f3,_⟩:=f2 b hb
      rcases List.mem_cons.mp (I2.stkSub b hs) with z | z
      · exact f1 z
      · exact f3 z
  have I4 : Inv (cxComp X scope cl N Hq.objs.size s2 H2 fp) [] (carry fr σ) (upd H2 s2.heap.objs.size (.lst [])) { s2 with heap:=h₁,toks:=s2.toks + ([] : List (Str×Value)).length } := by
    refine ⟨ok,rfl,I2.bare,Un.laid old (Nat.le_refl _) hD2,⟨_,hns₁,fun i y v h1 h2 h3 => ?_⟩,fun y c e => ?_,?_,fun y c e => ?_,fun p hp => (by cases hp),I2.hok.laid old (Nat.le_refl _) ⟨Nat.zero_le _,[],0,.nil,hacc⟩,?_⟩
    · obtain ⟨j,e1,e2⟩:=carry_get h2
      obtain ⟨n,n1,n2,n3,n4⟩:=frOk_get hfr e1
      rw [Nat.zero_add] at n1
      have : y = n := by
        have h1' : N[i]? = some y:=h1
        rw [h1'] at n1; exact Option.some.inj n1
      subst this
      obtain ⟨m,hn,hl⟩:=I2.loc
      obtain ⟨u,ru,lk⟩:=hl j y v n2 e2 (.inr (.inl n4))
      refine ⟨u,ru,?_⟩
      obtain ⟨c,hc⟩:=c2 _ (lookup_mem n3) rfl
      rcases lk with ⟨k1,_⟩ | ⟨_,c',hc',hcell⟩
      · have k1' : X.env.scope.names.lookup y = some .local:=k1
        rw [n4] at k1'; cases k1'
      · have:=c1 _ _ hc
        rw [hc'] at this; cases this
        refine .inr ⟨?_,c,hc,hcell.keeps old⟩
        rcases h3 with z | z | z
        · obtain ⟨k,hm⟩ : ∃ k,(y,k)∈scope.names∧k = NameKind.local := by
            have hm:=lookup_mem z
            have hm' : (y,NameKind.local)∈(relabel scope X.env).names:=hm
            unfold relabel at hm'
            obtain ⟨⟨m',k⟩,hy,e⟩:=List.mem_map.mp hm'
            dsimp only at e
            by_cases hcond : (k == NameKind.free && X.env.scope.kind == .function && X.env.kindOf m' == some .cell) = true
            · rw [if_pos hcond] at e; injection e with _ e2'; cases e2'
            · rw [if_neg hcond] at e; injection e with e1' e2'; subst e1' e2'; exact ⟨_,hy,rfl⟩
          obtain ⟨hm,rfl⟩:=hm
          have:=S.names _ hm rfl
          rw [n3] at this; cases this
        · exact .inl z
        · exact .inr z
    · obtain ⟨v,z⟩:=I2.cell y c (c1 _ _ e)
      exact ⟨v,z.keeps old⟩
    · show upd H2 s2.heap.objs.size _ Hq.objs.size = none
      rw [upd_ne (Ne.symm hDC)]; exact hC2
    · obtain ⟨v,o,ho,_⟩:=I2.cell y c (c1 _ _ e)
      rw [upd_ne (below c (Heap.lt_size ho)).2]
      exact I2.freeC y c (c1 _ _ e)
    · show (carry fr σ).length = N.length
      unfold carry
      rw [List.length_map]; exact hlen
  have fpX : ∀ (p : List (Addr×Obj)) (H' : Hp),(∀ q∈p,q.1∈fp→False)→(∀ b∈fp,H' b = none)→∀ b∈fp,FpOk (cxComp X scope cl N Hq.objs.size s2 H2 fp) p H' b:=fun p H' hp hn b hb => by
    obtain ⟨_,f1,f3,f4,f5,_⟩:=f2 b hb
    refine ⟨hn b hb,(below b (fpo b hb)).1,fun hs => ok.exfs b hb hs,.inl hb,fun y c e => f5 y c (c1 _ _ e),fun q hq e => ?_⟩
    exact hp q hq (e ▸ hb)
  have hxv : (relabel scope X.env).names.lookup x = some .local:=lookup_relabel_local S.loc
  have loop : ∀ s₃ : Shared,s₃ = { s2 with heap:=h₁,toks:=s2.toks + ([] : List (Str×Value)).length } →
      codeAny (model X.prog X.w) X.A (.compLoop (.ListComp elt [⟨tgE,iter,ifs,0⟩] scope pos) 0 (.ref it) (.ref s2.heap.objs.size) (compEnvC scope cl Hq.objs.size X.env)) (RR (.ref s2.heap.objs.size) Hq.objs.size) s₃ := by
    rintro s₃ rfl
    refine codeAny_compLoop_testsT (fun n s' => ∃ i ys σ' H',Inv (cxComp X scope cl N Hq.objs.size s2 H2 fp) [] σ' H' s'∧Rv σ'∧tn i s'.heap∧(∀ b∈fp,H' b = none)∧W i n ys H') ?_ m0
      ⟨0,[],carry fr σ,_,I4,r0,T.keep _ _ _ st2 fun b _ o e => old b o e,fun b hb => by rw [upd_ne (below b (fpo b hb)).2]; exact (f2 b hb).1,w0⟩
    rintro n s3 ⟨i,ys,σ3,H3,I3,hσ,st3,fr3,w3⟩
    obtain ⟨hD3,way⟩:=turn i n ys H3 w3
    rcases way with ⟨stop,qn⟩ | ⟨go,hsz,step⟩
    · refine wpAny_mono (T.done (cxComp X scope cl N Hq.objs.size s2 H2 fp) rfl rfl rfl hcalm i [] s3 σ3 H3 (fun _ _ => False) I3 (fpX [] H3 (fun _ z => by cases z) fr3) st3 stop) (fun r s4 ⟨hr,I5⟩ => ?_) fun _ _ z => z.elim
      subst hr
      obtain ⟨m,hn,_⟩:=id I5.loc
      refine fin _ _ s4 H3 m hn qn (fun h' hs' => ?_) (Ne.symm hDC) (fun b o e => (below b (Heap.lt_size e)).1) I5.free (by rw [hC]; exact Nat.le_succ _)
      have nC : ∀ b u,H3 b = some u→b≠Hq.objs.size:=fun b u e z => by
        have:=I5.free
        rw [show (cxComp X scope cl N Hq.objs.size s2 H2 fp).env.locals = Hq.objs.size from rfl,← z,e] at this
        cases this
      have keepU : Un (frs X.stack) fp H2 H3 s2.heap h' := by
        have u:=I5.base
        refine ⟨fun b o e n hb hx => ?_,fun b o e n hb hx => ?_,fun b o e n hx => u.free b o e n hx,fun b o e hx => ?_,u.tups,u.frzs,u.tbls,fun b xs o q e hx => (hs'.2 b (below b (Heap.lt_size e)).1).trans (u.tupo b xs o q e hx)⟩
        · exact (hs'.2 b (below b (Heap.lt_size e)).1).trans (u.keep b o e n hb hx)
        · obtain ⟨sl,e1⟩:=u.slot b o e n hb hx
          exact ⟨sl,(hs'.2 b (below b (Heap.lt_size e)).1).trans e1⟩
        · obtain ⟨o',e1⟩:=u.there b o e hx
          exact ⟨o',(hs'.2 b (below b (Heap.lt_size e)).1).trans e1⟩
      have hok' : HOk X.prog X.w H3 h':=fun b u e => (I5.hok b u e).stay (fun c v hc q => (hs'.2 c (by
        rcases hc with rfl | hc
        · exact nC _ _ e
        · exact nC _ _ hc)).trans q) (fun _ q => q) fun _ _ q => q
      refine I2.call' (s':={ s4 with heap:=h' }) (ch:=fp) I5.os keepU hok' I5.bare fun b hb => ?_
      obtain ⟨_,f1,_,f4,f5,f6⟩:=f2 b hb
      exact ⟨f4,f1,f5,f6⟩
    · refine wpAny_mono (T.item (cxComp X scope cl N Hq.objs.size s2 H2 fp) rfl rfl rfl hcalm i [] s3 σ3 H3 (fun _ _ => False) I3 (fpX [] H3 (fun _ z => by cases z) fr3) st3 go) (fun r s4 ⟨u,hr,h4⟩ => ?_) fun _ _ z => z.elim
      subst hr
      show wpAny (model X.prog X.w) X.A (letOwnedTupleGo tgE (.ref it) u >>= fun _ => assign tgE (compEnvC scope cl Hq.objs.size X.env) u) _ _ s4
      refine wpAny_bind (wpAny_mono h4 (fun _ s5 ⟨xv,H5,I5,r5,y5,st5,fr5⟩ => ?_) fun _ _ z => z.elim)
      have I5':=I5.pinned (fpX [] H5 (fun _ z => by cases z) fr5) (T.obj _ _ st5)
      refine wpAny_mono (hpg _ _ s5 σ3 H5 xv u _ I5' r5 (step xv H5 y5 σ3 hσ)) (fun _ s6 ⟨σ6,H6,I6,rv6,step5⟩ => ?_) fun _ _ z => z.elim
      refine wpAny_mono (hif _ _ _ _ _ _ s6 _ H6 _ I6 step5) (fun b s7 ⟨H7,I7,q7⟩ => ?_) fun _ _ z => z.elim
      have again : ∀ {s8 : Shared} {H8 : Hp} {k : Nat} {zs : List V},Inv (cxComp X scope cl N Hq.objs.size s2 H2 fp) ([] ++ pinsAt fp s5.heap) σ6 H8 s8→W (i + 1) k zs H8→k < n →
          ∃ m,m < n∧∃ i ys σ' H',Inv (cxComp X scope cl N Hq.objs.size s2 H2 fp) [] σ' H' s8∧Rv σ'∧tn i s8.heap∧(∀ b∈fp,H' b = none)∧W i m ys H':=fun {s8 H8 k zs} I8 w8 hk => by
        refine ⟨k,hk,i + 1,zs,_,H8,I8.unpinned,rv6,T.keep _ _ _ st5 fun b hb o e => (I8.pin (b,o) (List.mem_append_right _ (List.mem_append_right _ (mem_pinsAt hb e)))).1,fun b hb => ?_,w8⟩
        obtain ⟨o,e,d⟩:=T.obj _ _ st5 b hb
        exact (I8.pin (b,o) (List.mem_append_right _ (List.mem_append_right _ (mem_pinsAt hb e)))).2.1
      cases b with
      | false =>
        rw [if_neg Bool.false_ne_true] at q7 ⊢
        obtain ⟨k,hk,w7⟩:=q7
        exact again I7 w7 hk
      | true =>
        rw [if_pos rfl] at q7 ⊢
        refine wpAny_mono (he _ _ _ _ _ _ s7 _ H7 _ I7 q7) (fun yv s8 ⟨y,H8,I8,r8,hD8,k,hk,w8⟩ => ?_) fun _ _ z => z.elim
        refine wpAny_mono (mt_append (X:=cxComp X scope cl N Hq.objs.size s2 H2 fp) _ s8 _ H8 (.ref s2.heap.objs.size) [y] (.ref s2.heap.objs.size) [yv] (fun _ H9 => H9 = upd H8 s2.heap.objs.size (.lst (ys ++ [y]))) I8 rfl (.cons r8 .nil) ⟨_,ys,y,rfl,rfl,hD8,hsz,rfl⟩) (fun _ s9 ⟨_,H9,I9,_,e9⟩ => ?_) fun _ _ z => z.elim
        subst e9
        exact again I9 w8 hk
  exact codeAny_compStart_list (loop _ rfl) (T.self X.A 0 _ _ _ (T.keep _ _ _ st2 fun b _ o e => old b o e) (loop _ rfl))
theorem comp_block {pins : List (Addr×Obj)} {σ : St} {H2 : Hp} {s2 : Shared} {Q : VK} {it : Addr} {fp : List Addr} {tn : Nat→Heap→Prop} {J : It} {cl : List (Str×Addr)} {E : Value→Shared→Prop} {RR : Value→Addr→Result→Shared→Prop}
    (S : CompScope scope N x ix) (hcalm : X.calm = true) (hfr : frOk N X.N scope X.env.scope fr 0 = true) (hlen : fr.length = N.length)
    (hif : ∀ cl C s₀ H₀ fp,PIf (cxComp X scope cl N C s₀ H₀ fp) ifs tif) (he : ∀ cl C s₀ H₀ fp,PE (cxComp X scope cl N C s₀ H₀ fp) elt te)
    (I2 : Inv X pins σ H2 s2) (T : Turn X.prog X.w X.K (.Name x px) J fp it tn) (st2 : tn 0 s2.heap) (f2 : ∀ b∈fp,FpOk X pins H2 b)
    (c1 : ∀ x c,cl.lookup x = some c→X.env.cells.lookup x = some c) (c2 : ∀ x∈scope.names,x.2 = NameKind.free→∃ c,cl.lookup x.1 = some c)
    (W : ∀ D,H2 D = none→∃ W : Nat→Nat→List V→Hp→Prop,(∃ m,W 0 m [] (upd H2 D (.lst []))) ∧
      ∀ i m ys H,W i m ys H→H D = some (.lst ys)∧((J.stop i H∧Q (.ref D) H)∨(J.go i H∧ys.length < sizeLine∧∀ x H',J.yld i H x H' →
        tif ((carry fr σ).set ix (some x)) H' fun b H2 => if b = true then te ((carry fr σ).set ix (some x)) H2 fun y H3 => H3 D = some (.lst ys)∧∃ m',m' < m∧W (i + 1) m' (ys ++ [y]) (upd H3 D (.lst (ys ++ [y])))
          else ∃ m',m' < m∧W (i + 1) m' ys H2)))
    (fin : ∀ (D C : Addr) (s' : Shared) (H' : Hp) m,s'.heap.Ns C m→Q (.ref D) H'→(∀ h',Heap.SameBut C s'.heap h'→Inv X pins σ H' { s' with heap:=h' })→C≠D→(∀ b o,s2.heap.get? b = some o→b≠C)→H' C = none→s2.heap.objs.size≤C→RR (.ref D) C (.ok .next) s') :
    wpAny (model X.prog X.w) X.A (newList []) (fun acc s₃ => wpAny (model X.prog X.w) X.A (newFunctionEnv scope X.env.globals cl [] X.env.qual none .none (some X.env)) (fun cenv s₄ =>
      codeAny (model X.prog X.w) X.A (.compStart (.ListComp elt [⟨.Name x px,iter,ifs,0⟩] scope pos) 0 (.ref it) acc { cenv with scope:=relabel scope X.env }) (RR acc cenv.locals) s₄) E s₃) E s2 := by
  have hxv : (relabel scope X.env).names.lookup x = some .local:=lookup_relabel_local S.loc
  refine comp_blockG S hcalm (fun σ' => ∀ v,σ'.set ix v = (carry fr σ).set ix v) (fun _ => rfl) (fun C => pg_name (X:=cxComp X scope cl N C s2 H2 fp) S.nd S.at_ (.inl hxv) (.inr hxv)) hfr hlen hif he I2 T st2 f2 c1 c2 (fun D hD => ?_) fin
  obtain ⟨W,w0,st⟩:=W D hD
  refine ⟨W,w0,fun i m ys H w => ?_⟩
  obtain ⟨h1,h2 | ⟨h2,h3,h4⟩⟩:=st i m ys H w
  · exact ⟨h1,.inl h2⟩
  · refine ⟨h1,.inr ⟨h2,h3,fun x H' hy σ' hr => ?_⟩⟩
    have:=h4 x H' hy
    rw [← hr] at this
    exact ⟨fun v => by rw [List.set_set,hr],this⟩
theorem pe_comp (S : CompScope scope N x ix) (hcalm : X.calm = true) (hfr : frOk N X.N scope X.env.scope fr 0 = true) (hlen : fr.length = N.length) (hfree : ∀ y∈scope.names,y.2 = .free→X.env.scope.names.lookup y.1 = some .cell∨X.env.scope.names.lookup y.1 = some .free)
    (hi : PI X (.Name x px) iter wi) (hif : ∀ cl C s₀ H₀ fp,PIf (cxComp X scope cl N C s₀ H₀ fp) ifs tif) (he : ∀ cl C s₀ H₀ fp,PE (cxComp X scope cl N C s₀ H₀ fp) elt te)
    (hs : ∀ x,foldedSetIterable iter X.env x = pure x := by intro _; rfl) : PE X (.ListComp elt [⟨.Name x px,iter,ifs,0⟩] scope pos) (tComp wi fr ix tif te) := by
  intro pins s σ H Q I hw
  obtain ⟨cl,hclos,c1,_,c2⟩:=closure_of (env:=X.env) scope.names [] (fun y hy hf => I.ok.has y.1 (hfree y hy hf)) (fun y c z => by cases z)
  have hclos' : closureFor scope X.env = pure cl := by
    have e : closureFor scope X.env = ((forIn scope.names [] (fun (x : Str×NameKind) (r : List (Str×Addr)) => do if (x.2 == NameKind.free) = true then do let a ← cellOf X.env x.1; pure (ForInStep.yield ((x.1,a) :: r)) else pure (ForInStep.yield r)) : Sem (List (Str×Addr))) >>= fun cs => pure cs):=rfl
    rw [e,hclos]
    rfl
  rw [eval_ListComp]
  refine wpAny_comprehension_free (use:=none) rfl hs hclos' S.kind S.names (thn (hi pins s σ H _ I hw) fun v s1 h1 => thn h1 fun itv s2 h2 => ?_)
  obtain ⟨it,fp,tn,J,H2,e,I2,T,st2,f2,W⟩:=h2
  subst e
  refine comp_block (RR:=fun acc C => compPost (model X.prog X.w) X.A X.xe none (EP X pins σ Q) acc C) S hcalm hfr hlen hif he I2 T st2 f2 c1 c2 W ?_
  intro D C s' H' m hn q hI _ _ _ _
  exact ⟨m,hn,fun h' hs' => ⟨.ref D,H',hI h' hs',rfl,q⟩⟩
end
end L2
namespace FM
def gi (a b : Int) : Int:=(Int.gcd a b : Int)
theorem gcd_step (a b : Int) : Int.gcd b (a.fmod b) = Int.gcd a b := by
  have e : a.fmod b = a - b * a.fdiv b:=Int.fmod_def a b
  rw [e,Int.gcd_comm a b]
  exact Int.gcd_sub_mul_left_right b a (a.fdiv b)
theorem fmod_less (a b : Int) (hb : b≠0) : (a.fmod b).natAbs < b.natAbs := by
  rcases Int.lt_or_gt_of_ne hb with h | h
  · have h1 : -(a.fmod b) = (-a).fmod (-b) := by
      rw [Int.fmod_def,Int.fmod_def,Int.neg_fdiv_neg]
      have : -b * a.fdiv b = -(b * a.fdiv b):=Int.neg_mul _ _
      lia
    have h2:=Int.fmod_nonneg_of_pos (-a) (show 0 < -b by lia)
    have h3:=Int.fmod_lt_of_pos (-a) (show 0 < -b by lia)
    lia
  · have h2:=Int.fmod_nonneg_of_pos a h
    have h3:=Int.fmod_lt_of_pos a h
    lia
theorem gi_pos {a b : Int} (hb : b≠0) : 0 < gi a b := by
  have : 0 < Int.gcd a b:=Int.gcd_pos_of_ne_zero_right a hb
  unfold gi; lia
theorem gi_le {a b : Int} (hb : b≠0) : (gi a b).natAbs≤b.natAbs := by
  have h : Int.gcd a b ∣ b.natAbs := by
    have:=Int.gcd_dvd_right a b
    exact Int.natAbs_dvd_natAbs.mpr this
  have h2 : 0 < b.natAbs := by lia
  have:=Nat.le_of_dvd h2 h
  unfold gi; lia
def gs (t b : Int) : Int:=if b < 0 then -gi t b else gi t b
theorem gs_ne {t b : Int} (hb : b≠0) : gs t b≠0 := by
  have:=gi_pos (a:=t) hb
  unfold gs; split <;> lia
theorem gs_le {t b : Int} (hb : b≠0) : (gs t b).natAbs≤b.natAbs := by
  have:=gi_le (a:=t) hb
  unfold gs; split <;> lia
theorem fdiv_exact {g x k : Int} (hg : g≠0) (e : x = g * k) : x.fdiv g = k := by
  subst e
  exact Int.mul_fdiv_cancel_left k hg
theorem gi_dvd_left (a b : Int) : gi a b ∣ a:=Int.gcd_dvd_left a b
theorem gi_dvd_right (a b : Int) : gi a b ∣ b:=Int.gcd_dvd_right a b
theorem num_eq {t b : Int} (hb : b≠0) : t.fdiv (gs t b) = (Rat.divInt t b).num := by
  have hp:=gi_pos (a:=t) hb
  obtain ⟨k,hk⟩:=gi_dvd_left t b
  rw [Rat.num_divInt,Int.gcd_comm b t]
  show t.fdiv (gs t b) = b.sign * t / gi t b
  unfold gs
  generalize gi t b = g at hp hk ⊢
  rcases Int.lt_or_gt_of_ne hb with h | h
  · rw [if_pos h,Int.sign_eq_neg_one_of_neg h,fdiv_exact (k:=-k) (by lia) (by rw [hk]; simp [Int.mul_neg,Int.neg_mul])]
    have : -1 * t = g * (-k) := by rw [hk]; simp [Int.mul_neg]
    rw [this,Int.mul_ediv_cancel_left _ (by lia)]
  · rw [if_neg (by lia),Int.sign_eq_one_of_pos h,fdiv_exact (k:=k) (by lia) hk,Int.one_mul,hk,Int.mul_ediv_cancel_left _ (by lia)]
theorem den_eq {t b : Int} (hb : b≠0) : b.fdiv (gs t b) = ((Rat.divInt t b).den : Int) := by
  have hp:=gi_pos (a:=t) hb
  obtain ⟨k,hk⟩:=gi_dvd_right t b
  rw [Rat.den_divInt,if_neg hb,Int.gcd_comm b t]
  have e : (((b.natAbs / Int.gcd t b : Nat)) : Int) = (b.natAbs : Int) / gi t b := by unfold gi; simp
  rw [e]
  unfold gs
  generalize gi t b = g at hp hk ⊢
  rcases Int.lt_or_gt_of_ne hb with h | h
  · rw [if_pos h,fdiv_exact (k:=-k) (by lia) (by rw [Int.neg_mul_neg]; exact hk)]
    have : (b.natAbs : Int) = g * (-k) := by rw [Int.mul_neg,← hk]; lia
    rw [this,Int.mul_ediv_cancel_left _ (by lia)]
  · rw [if_neg (by lia),fdiv_exact (k:=k) (by lia) hk]
    have : (b.natAbs : Int) = g * k := by rw [← hk]; lia
    rw [this,Int.mul_ediv_cancel_left _ (by lia)]
theorem natAbs_fdiv_le' (a b : Int) : (a.fdiv b).natAbs≤a.natAbs := by
  cases a with
  | ofNat n =>
    cases n with
    | zero =>
      have e : Int.fdiv (.ofNat 0) b = 0:=Int.zero_fdiv b
      rw [e]; exact Nat.zero_le _
    | succ k =>
      cases b with
      | ofNat j => exact Nat.div_le_self (k + 1) j
      | negSucc j => exact Nat.succ_le_succ (Nat.div_le_self k (j + 1))
  | negSucc k =>
    cases b with
    | ofNat j =>
      cases j with
      | zero => exact Nat.zero_le _
      | succ j => exact Nat.succ_le_succ (Nat.div_le_self k (j + 1))
    | negSucc j => exact Nat.div_le_self (k + 1) (j + 1)
theorem num_le {t b : Int} (hb : b≠0) : (Rat.divInt t b).num.natAbs≤t.natAbs := by
  rw [← num_eq hb]; exact natAbs_fdiv_le' _ _
theorem den_le {t b : Int} (hb : b≠0) : (Rat.divInt t b).den≤b.natAbs := by
  have h:=natAbs_fdiv_le' b (gs t b)
  rw [den_eq hb] at h
  simpa using h
theorem den_ne (p : Rat) : (p.den : Int)≠0 := by
  have:=p.den_nz
  lia
theorem divInt_self (p : Rat) : Rat.divInt p.num p.den = p:=Rat.num_divInt_den p
theorem sum_eq (p q : Rat) : Rat.divInt (p.num * q.den + q.num * p.den) (p.den * q.den) = p + q := by
  rw [← Rat.divInt_add_divInt _ _ (den_ne p) (den_ne q),divInt_self,divInt_self]
theorem times_eq (p q : Rat) : Rat.divInt (p.num * q.num) (p.den * q.den) = p * q := by
  rw [← Rat.divInt_mul_divInt,divInt_self,divInt_self]
theorem prod_ne (p q : Rat) : (p.den : Int) * q.den≠0:=Int.mul_ne_zero (den_ne p) (den_ne q)
theorem nb_mul {x y : Int} {m n : Nat} (hx : x.natAbs < 2 ^ m) (hy : y.natAbs < 2 ^ n) : (x * y).natAbs < 2 ^ (m + n) := by
  rw [Int.natAbs_mul,Nat.pow_add]
  exact Nat.mul_lt_mul'' hx hy
theorem nb_mono {x : Nat} {m n : Nat} (hx : x < 2 ^ m) (h : m≤n) : x < 2 ^ n:=Nat.lt_of_lt_of_le hx (Nat.pow_le_pow_right (by decide) h)
def Fits (p : Rat) (n : Nat) : Prop:=p.num.natAbs < 2 ^ n∧p.den < 2 ^ n
theorem Fits.d {p : Rat} {n : Nat} (h : Fits p n) : ((p.den : Int)).natAbs < 2 ^ n := by simpa using h.2
theorem Fits.of_div {t b : Int} {n : Nat} (hb : b≠0) (h1 : t.natAbs < 2 ^ n) (h2 : b.natAbs < 2 ^ n) : Fits (Rat.divInt t b) n :=
  ⟨Nat.lt_of_le_of_lt (num_le hb) h1,Nat.lt_of_le_of_lt (den_le hb) h2⟩
theorem dd {p q : Rat} {m n : Nat} (h : Fits p m) (k : Fits q n) : ((p.den : Int) * q.den).natAbs < 2 ^ (m + n):=nb_mul h.d k.d
end FM
namespace FM
theorem gcd_abs (a b : Int) : Int.gcd (if a < 0 then -a else a) (if b < 0 then -b else b) = Int.gcd a b := by
  split <;> split <;> simp [Int.gcd_neg,Int.neg_gcd]
theorem abs_nonneg (a : Int) : 0≤(if a < 0 then -a else a) := by split <;> lia
theorem gi_end {g a b : Int} (h : Int.gcd g 0 = Int.gcd a b) (h0 : 0≤g) : g = gi a b := by
  unfold gi
  rw [← h,Int.gcd_zero_right]
  lia
theorem gi_end' {g a b : Int} (h : Int.gcd g 0 = Int.gcd a b) : (if g < 0 then -g else g) = gi a b := by
  unfold gi
  rw [← h,Int.gcd_zero_right]
  split <;> lia
theorem fmod_nonneg {g l : Int} (hl : l≠0) (h : 0≤l) : 0≤g.fmod l:=Int.fmod_nonneg_of_pos g (by lia)
end FM
namespace L2
open PySem PySem.Spec PyProof.Rows
structure Fn (K : PySem.W.Frag) (mg : Str→Option Value) (x : Str) (st : Stmt) (ps : List Str) (f : Addr) (fd : FuncData) : Prop where
  F : Fun K x x st f fd
  b : Binds K fd ps []
  m : mg x = some (.ref f)
section
variable {X : Cx} {k : Nat} {f : Addr} {fd : FuncData} {ps : List Str} {sp : Sp} {x : Str} {st : Stmt} {p pos : Pos} {e : Expr} {es : List Expr} {t : TA}
theorem pe_fn (T : Fn X.K X.mg x st ps f fd) (G : FnOk X.prog X.w X.K X.mg X.base CX0 k f fd ps sp) (hr : Room k X.A) (hg : Gl X x) (ha : PA X (e :: es) t)
    (hdb : (x == ("__debug__" : Str)) = false := by decide) (he : starEach (e :: es) X.env = (false,eval e X.env) :: starEach es X.env := by rfl) (hpl : (backTo pos (starEach es X.env)).any (·.1) = false := by rfl) :
    PE X (.Call (.Name x p) (e :: es) [] pos) (tCall sp [] E0 t):=pe_call G hr hg T.m T.F.kp T.b .nil pass0 ha hdb he hpl
end
theorem seq_join {t u : TS} {D : Ends} {σ : St} {H : Hp} (P : St→Hp→Prop) (h1 : ∀ nx : St→Hp→Prop,(∀ σ' H',P σ' H'→nx σ' H')→t { D with nx:=nx } σ H) (h2 : ∀ σ' H',P σ' H'→u D σ' H') : tSeq t u D σ H:=h1 _ h2
theorem sz2 : 2≤sizeLine := by decide
theorem same_new {H : Hp} {p : Addr} (h : H p = none) (o : HO) : Same H (upd H p o):=fun b u q => by rw [upd_ne (ne_of_none q h)]; exact q
def SameBut (l : Addr) (H H' : Hp) : Prop:=∀ b o,b≠l→H b = some o→H' b = some o
theorem SameBut.of {l : Addr} {H H' : Hp} (h : Same H H') : SameBut l H H':=fun b o _ q => h b o q
theorem SameBut.trans {l : Addr} {H H1 H2 : Hp} (a : SameBut l H H1) (b : SameBut l H1 H2) : SameBut l H H2:=fun c o n h => b c o n (a c o n h)
theorem SameBut.upd {l : Addr} {H : Hp} {o : HO} : SameBut l H (upd H l o):=fun b u n q => by rw [upd_ne n]; exact q
def ratV (p : Rat) : List V:=[.int p.num,.int (p.den : Int)]
def Rt (K : PySem.W.Frag) (H : Hp) (p : Rat) (v : V) : Prop:=∃ a,v = .ref a∧SqT K H a (ratV p)
def ratD (p : Rat) : PyData:=.tuple [.int p.num,.int (p.den : Int)]
theorem mulW {i j : Int} {m n : Nat} (h1 : i.natAbs < 2 ^ m) (h2 : j.natAbs < 2 ^ n) (h : m + n≤1000000) : CMul i j∨CMulW i j :=
  .inr ⟨m + n,h,FM.nb_mono h1 (Nat.le_add_right _ _),FM.nb_mono h2 (Nat.le_add_left _ _)⟩
theorem Same.but {H H1 H2 : Hp} {l : Addr} (a : Same H H1) (b : SameBut l H1 H2) (hl : H l = none) : Same H H2:=fun c o h => b c o (ne_of_none h hl) (a c o h)
def excO (ea : Addr) (cls : Value) : HO:=.ext fun h => ∃ o vs,h.get? ea = some o∧o.cls = cls∧o.data = .fields vs
open PySem PySem.Spec PyProof.Rows PySem.Builtin.ObjectAttr PySem.Builtin.Getset_descriptor
def clsV : V→Value
  | .ref C => .ref C
  | .ty n => .type n
  | _ => .none
theorem clsV_of {c : V} {u : Value} (r : RelV c u) (h : clsV c≠.none) : u = clsV c := by
  cases c with
  | ref C => exact r
  | ty n => exact r
  | _ => exact absurd rfl h
section
variable {X : Cx}
def rIsi (K : PySem.W.Frag) : List V→Hp→VK→Prop:=fun xs H Q => ∃ x c t b,xs = [x,c]∧clsV c≠.none∧TyOf K H x t∧PySem.W.kitOne K t (clsV c) = some b∧Q (.bl b) H
theorem call_isi : CallR X (.builtin "isinstance") (rIsi X.K) := by
  intro pins s σ H xs us Q I r h
  obtain ⟨x,c,t,b,rfl,hc,ty,e,q⟩:=h
  obtain ⟨u,v,rfl,r1,r2⟩:=r.two
  rw [clsV_of r2 hc]
  exact isinst_ok I r1 ty e fun tk => ⟨.bl b,H,I.tok tk,rfl,q⟩
end
theorem kit_tt (K : PySem.W.Frag) : PySem.W.kitOne K (.type "tuple") (.type "tuple") = some true:=rfl
theorem kit_ii (K : PySem.W.Frag) : PySem.W.kitOne K (.type "int") (.type "int") = some true:=rfl
theorem kit_bb (K : PySem.W.Frag) : PySem.W.kitOne K (.type "bool") (.type "bool") = some true:=rfl
theorem kit_ib (K : PySem.W.Frag) : PySem.W.kitOne K (.type "int") (.type "bool") = some false := by kernel_rfl
theorem kit_bi (K : PySem.W.Frag) : PySem.W.kitOne K (.type "bool") (.type "int") = some true := by kernel_rfl
theorem kit_lt (K : PySem.W.Frag) : PySem.W.kitOne K (.type "list") (.type "tuple") = some false := by kernel_rfl
theorem kit_tl (K : PySem.W.Frag) : PySem.W.kitOne K (.type "tuple") (.type "list") = some false := by kernel_rfl
theorem kit_ll (K : PySem.W.Frag) : PySem.W.kitOne K (.type "list") (.type "list") = some true:=rfl
theorem kit_it (K : PySem.W.Frag) : PySem.W.kitOne K (.type "int") (.type "tuple") = some false := by kernel_rfl
theorem kit_bt (K : PySem.W.Frag) : PySem.W.kitOne K (.type "bool") (.type "tuple") = some false := by kernel_rfl
theorem kit_nt (K : PySem.W.Frag) : PySem.W.kitOne K (.type "NoneType") (.type "tuple") = some false := by kernel_rfl
theorem kit_st (K : PySem.W.Frag) : PySem.W.kitOne K (.type "str") (.type "tuple") = some false := by kernel_rfl
theorem kit_ti (K : PySem.W.Frag) : PySem.W.kitOne K (.type "tuple") (.type "int") = some false := by kernel_rfl
theorem kit_li (K : PySem.W.Frag) : PySem.W.kitOne K (.type "list") (.type "int") = some false := by kernel_rfl
theorem kit_ni (K : PySem.W.Frag) : PySem.W.kitOne K (.type "NoneType") (.type "int") = some false := by kernel_rfl
theorem kit_si (K : PySem.W.Frag) : PySem.W.kitOne K (.type "str") (.type "int") = some false := by kernel_rfl
theorem kit_il (K : PySem.W.Frag) : PySem.W.kitOne K (.type "int") (.type "list") = some false := by kernel_rfl
theorem kit_bl (K : PySem.W.Frag) : PySem.W.kitOne K (.type "bool") (.type "list") = some false := by kernel_rfl
theorem kit_nl (K : PySem.W.Frag) : PySem.W.kitOne K (.type "NoneType") (.type "list") = some false := by kernel_rfl
theorem kit_sl (K : PySem.W.Frag) : PySem.W.kitOne K (.type "str") (.type "list") = some false := by kernel_rfl
def freeOk (xsc : Scope) (names : List (Str×NameKind)) : Bool:=names.all fun y => y.2 != .free || xsc.names.lookup y.1 == some .cell || xsc.names.lookup y.1 == some .free
theorem freeOk_of {xsc : Scope} {names : List (Str×NameKind)} (h : freeOk xsc names = true) : ∀ y∈names,y.2 = .free→xsc.names.lookup y.1 = some .cell∨xsc.names.lookup y.1 = some .free:=fun y hy hf => by
  have q:=List.all_eq_true.mp h y hy
  rw [hf] at q
  simp only [bne_self_eq_false,Bool.false_or,Bool.or_eq_true,beq_iff_eq] at q
  exact q
def compScopeOk (scope : Scope) (N : List Str) (x : Str) (ix : Nat) : Bool :=
  scope.kind == .function && (scope.names.all fun y => y.2 != .cell && (y.2 != .local || scope.names.lookup y.1 == some .local) && (y.2 != .free || scope.names.lookup y.1 == some .free)) && scope.names.lookup x == some .local && decide N.Nodup && N[ix]? == some x
theorem compScope_of {scope : Scope} {N : List Str} {x : Str} {ix : Nat} (h : compScopeOk scope N x ix = true) : CompScope scope N x ix := by
  unfold compScopeOk at h
  simp only [Bool.and_eq_true,beq_iff_eq,decide_eq_true_eq,List.all_eq_true,bne_iff_ne,Bool.or_eq_true] at h
  obtain ⟨⟨⟨⟨h1,h2⟩,h3⟩,h4⟩,h5⟩:=h
  exact ⟨h1,fun y hy => (h2 y hy).1.1,fun y hy hl => (h2 y hy).1.2.resolve_left fun z => z hl,fun y hy hl => (h2 y hy).2.resolve_left fun z => z hl,h3,h4,h5⟩
section
variable {X : Cx} {elt iter : Expr} {x : Str} {px pos : Pos} {ifs : List Expr} {scope : Scope} {wi : TI} {tif : TT} {te : TE}
theorem pe_compr (N : List Str) (ix : Nat) (fr : List (Option Nat)) (hi : PI X (.Name x px) iter wi) (hif : ∀ cl C s₀ H₀ fp,PIf (cxComp X scope cl N C s₀ H₀ fp) ifs tif) (he : ∀ cl C s₀ H₀ fp,PE (cxComp X scope cl N C s₀ H₀ fp) elt te)
    (h1 : compScopeOk scope N x ix = true := by decide +kernel) (h2 : X.calm = true := by rfl) (h3 : frOk N X.N scope X.env.scope fr 0 = true := by rfl) (h4 : fr.length = N.length := by rfl) (h5 : freeOk X.env.scope scope.names = true := by rfl)
    (hs : ∀ x,foldedSetIterable iter X.env x = pure x := by intro _; rfl) : PE X (.ListComp elt [⟨.Name x px,iter,ifs,0⟩] scope pos) (tComp wi fr ix tif te) :=
  pe_comp (compScope_of h1) h2 h3 h4 (freeOk_of h5) hi hif he hs
end
end L2
inductive Tr where
  | nil
  | cons (b r : Tr)
  deriving DecidableEq
namespace Tr
def deep : Tr→Nat
  | .nil => 0
  | .cons b r => max (b.deep + 1) r.deep
end Tr
namespace SM
open PySem.W PyProof.Rows
def Wp {α : Type} (lt : Nat→Nat→Bool) (n : Nat) : KasT α→(α→Prop)→Prop
  | .ret a,Q => Q a
  | .ask i j k,Q => i < n∧j < n∧Wp lt n (k (lt i j)) Q
theorem Wp.mono {α : Type} {lt : Nat→Nat→Bool} {n : Nat} {Q Q' : α→Prop} (hq : ∀ a,Q a→Q' a) : ∀ t : KasT α,Wp lt n t Q→Wp lt n t Q'
  | .ret a,h => hq a h
  | .ask i j k,h => ⟨h.1,h.2.1,Wp.mono hq (k (lt i j)) h.2.2⟩
theorem Wp.bind {α β : Type} {lt : Nat→Nat→Bool} {n : Nat} {f : α→KasT β} {Q : β→Prop} : ∀ t : KasT α,Wp lt n t (fun a => Wp lt n (f a) Q)→Wp lt n (t.bind f) Q
  | .ret _,h => h
  | .ask i j k,h => ⟨h.1,h.2.1,Wp.bind (k (lt i j)) h.2.2⟩
theorem getD_rev {p : Array Nat} {i j : Nat} (hj : j≤p.size) (k : Nat) : (kas_rev p i j).getD k 0 = if i≤k∧k < j then p.getD (i + j - 1 - k) 0 else p.getD k 0 := by
  have e:=getElem?_mirror_all (i:=i) hj k
  unfold kas_rev
  rw [Array.getD_eq_getD_getElem?,Array.getD_eq_getD_getElem?,Array.getD_eq_getD_getElem?,e]
  split <;> rfl
theorem getD_bubble {p : Array Nat} {src d : Nat} (hs : src < p.size) (hd : d≤src) (k : Nat) :
    (bubble p src d).getD k 0 = if k = src - d then p.getD src 0 else if src - d < k∧k≤src then p.getD (k - 1) 0 else p.getD k 0 := by
  have e:=getElem?_bubble hs d hd k
  simp only [Array.getD_eq_getD_getElem?,e]
  split
  · rfl
  · split <;> rfl
section
variable {O : KeyOrd} {key : Nat→O.α} {n : Nat}
def Key (key : Nat→O.α) (p : Array Nat) (i : Nat) : O.α:=key (p.getD i 0)
def Up (key : Nat→O.α) (p : Array Nat) (m : Nat) : Prop:=∀ i j,i≤j→j < m→O.kle (Key key p i) (Key key p j)
def Dn (key : Nat→O.α) (p : Array Nat) (m : Nat) : Prop:=∀ i j,i≤j→j < m→O.kle (Key key p j) (Key key p i)
structure Pm (n : Nat) (p : Array Nat) : Prop where
  perm : p.Perm (List.toArray (List.range n))
  pos : 0 < n
theorem Pm.size {p : Array Nat} (h : Pm n p) : p.size = n := by rw [h.perm.size_eq]; simp
theorem Pm.lt {p : Array Nat} (h : Pm n p) (i : Nat) : p.getD i 0 < n := by
  rw [Array.getD_eq_getD_getElem?]
  by_cases hi : i < p.size
  · rw [Array.getElem?_eq_getElem hi]
    have hm : p[i]∈p:=Array.getElem_mem hi
    have:=(h.perm.mem_iff).mp hm
    simpa using this
  · rw [Array.getElem?_eq_none (by lia)]
    exact h.pos
theorem Pm.rev {p : Array Nat} (h : Pm n p) (i j : Nat) : Pm n (kas_rev p i j):=⟨(mirror_perm _ _ _ _).trans h.perm,h.pos⟩
theorem Pm.bubble {p : Array Nat} (h : Pm n p) (i j : Nat) : Pm n (bubble p i j):=⟨(bubble_perm _ _ _).trans h.perm,h.pos⟩
abbrev ltOf (key : Nat→O.α) : Nat→Nat→Bool:=fun i j => O.blt (key i) (key j)
theorem Up.one {p : Array Nat} : Up key p 1:=fun i j h1 h2 => by
  have : i = j := by lia
  subst this; exact KeyOrd.kle_refl _
theorem Up.more {p : Array Nat} {m : Nat} (h : Up key p m) (h1 : 1≤m) (hk : O.kle (Key key p (m - 1)) (Key key p m)) : Up key p (m + 1):=fun i j hij hj => by
  by_cases e : j = m
  · subst e
    by_cases e2 : i = j
    · subst e2; exact KeyOrd.kle_refl _
    · exact KeyOrd.kle_trans (h i (j - 1) (by lia) (by lia)) hk
  · exact h i j hij (by lia)
theorem Dn.more {p : Array Nat} {m : Nat} (h : Dn key p m) (h1 : 1≤m) (hk : O.kle (Key key p m) (Key key p (m - 1))) : Dn key p (m + 1):=fun i j hij hj => by
  by_cases e : j = m
  · subst e
    by_cases e2 : i = j
    · subst e2; exact KeyOrd.kle_refl _
    · exact KeyOrd.kle_trans hk (h i (j - 1) (by lia) (by lia))
  · exact h i j hij (by lia)
theorem asc {p : Array Nat} (hp : Pm n p) : ∀ (f m : Nat),1≤m→Up key p m→Wp (ltOf key) n (kas_asc p f m) fun r => m≤r∧r≤m + f∧Up key p r∧(r = m + f∨O.klt (Key key p r) (Key key p (r - 1)))
  | 0,m,_,h => ⟨Nat.le_refl _,Nat.le_refl _,h,.inl rfl⟩
  | f + 1,m,h1,h => by
    refine ⟨hp.lt _,hp.lt _,?_⟩
    cases c : ltOf key (p.getD m 0) (p.getD (m - 1) 0) with
    | true => exact ⟨Nat.le_refl _,by lia,h,.inr c⟩
    | false =>
      simp only [Bool.false_eq_true,if_false]
      refine Wp.mono (fun r hr => ?_) _ (asc hp f (m + 1) (by lia) (h.more h1 c))
      exact ⟨by lia,by lia,hr.2.2.1,hr.2.2.2.elim (fun z => .inl (by lia)) .inr⟩
def Eq (key : Nat→O.α) (p : Array Nat) (m q : Nat) : Prop:=q < m∧∀ k,m - (q + 1)≤k→k < m→Key key p k = Key key p (m - 1)
theorem rev_eq {p : Array Nat} {m q : Nat} (h : Eq key p m q) (hm : m≤p.size) (k : Nat) : Key key (kas_rev p (m - (q + 1)) m) k = Key key p k := by
  unfold Key
  rw [getD_rev hm]
  split
  · have a:=h.2 (m - (q + 1) + m - 1 - k) (by have:=h.1; lia) (by have:=h.1; lia)
    have b:=h.2 k (by lia) (by lia)
    exact a.trans b.symm
  · rfl
theorem desc : ∀ (f : Nat) (p : Array Nat) (m q : Nat),Pm n p→1≤m→m + f≤n→Dn key p m→Eq key p m q→Wp (ltOf key) n (kas_desc f p m q) fun r => Pm n r.1∧m≤r.2.1∧r.2.1≤m + f∧Dn key r.1 r.2.1∧Eq key r.1 r.2.1 r.2.2
  | 0,p,m,q,hp,_,_,h,e => ⟨hp,Nat.le_refl _,Nat.le_refl _,h,e⟩
  | f + 1,p,m,q,hp,h1,hf,h,e => by
    refine ⟨hp.lt _,hp.lt _,?_⟩
    have hm : m≤p.size := by rw [hp.size]; lia
    cases c : ltOf key (p.getD m 0) (p.getD (m - 1) 0) with
    | true =>
      have ck : O.klt (Key key p m) (Key key p (m - 1)):=c
      simp only [if_true]
      have fin : ∀ p' : Array Nat,Pm n p'→(∀ k,Key key p' k = Key key p k)→Wp (ltOf key) n (kas_desc f p' (m + 1) 0) fun r => Pm n r.1∧m≤r.2.1∧r.2.1≤m + (f + 1)∧Dn key r.1 r.2.1∧Eq key r.1 r.2.1 r.2.2:=fun p' hp' hk => by
        have hd : Dn key p' (m + 1):=fun i j hij hj => by rw [hk,hk]; exact h.more h1 (KeyOrd.kle_of_klt ck) i j hij hj
        have he : Eq key p' (m + 1) 0:=⟨by lia,fun k h1 h2 => by rw [show k = m + 1 - 1 by lia]⟩
        exact Wp.mono (fun r hr => ⟨hr.1,by lia,by lia,hr.2.2.2.1,hr.2.2.2.2⟩) _ (desc f p' (m + 1) 0 hp' (by lia) (by lia) hd he)
      split
      · exact fin _ (hp.rev _ _) (rev_eq e hm)
      · exact fin _ hp fun _ => rfl
    | false =>
      simp only [Bool.false_eq_true,if_false]
      refine ⟨hp.lt _,hp.lt _,?_⟩
      cases d : ltOf key (p.getD (m - 1) 0) (p.getD m 0) with
      | true =>
        simp only [if_true]
        exact ⟨hp,Nat.le_refl _,Nat.le_add_right _ _,h,e⟩
      | false =>
        simp only [Bool.false_eq_true,if_false]
        have ek : Key key p m = Key key p (m - 1):=KeyOrd.kle_antisymm (show O.kle (Key key p m) (Key key p (m - 1)) from d) (show O.kle (Key key p (m - 1)) (Key key p m) from c)
        refine Wp.mono (fun r hr => ⟨hr.1,by lia,by lia,hr.2.2.2.1,hr.2.2.2.2⟩) _ (desc f p (m + 1) (q + 1) hp (by lia) (by lia) (h.more h1 (by rw [ek]; exact KeyOrd.kle_refl _)) ⟨by have:=e.1; lia,fun k h2 h3 => ?_⟩)
        rw [show m + 1 - 1 = m by lia,ek]
        by_cases z : k = m
        · rw [z,ek]
        · exact e.2 k (by lia) (by lia)
theorem up_rev {p : Array Nat} {m : Nat} (h : Dn key p m) (hm : m≤p.size) : Up key (kas_rev p 0 m) m:=fun i j hij hj => by
  unfold Key
  rw [getD_rev hm,getD_rev hm,if_pos ⟨Nat.zero_le _,by lia⟩,if_pos ⟨Nat.zero_le _,by lia⟩]
  exact h (0 + m - 1 - j) (0 + m - 1 - i) (by lia) (by lia)
theorem tail3 {p : Array Nat} {m : Nat} (hp : Pm n p) (h1 : 1≤m) (hm : m≤n) (h : Dn key p m) : Wp (ltOf key) n (kas_tail3 m n p) fun r => Pm n r.2∧1≤r.1∧r.1≤n∧Up key r.2 r.1 := by
  unfold kas_tail3
  refine Wp.bind _ (Wp.mono (fun r hr => ?_) _ (asc (hp.rev 0 m) (n - m) m h1 (up_rev h (by rw [hp.size]; exact hm))))
  exact ⟨hp.rev 0 m,by lia,by lia,hr.2.2.1⟩
theorem descPart {p : Array Nat} {m : Nat} (hp : Pm n p) (h1 : 1≤m) (hm : m + 1≤n) (h : Dn key p (m + 1)) : Wp (ltOf key) n (kas_descPart m n p) fun r => Pm n r.2∧1≤r.1∧r.1≤n∧Up key r.2 r.1 := by
  unfold kas_descPart
  refine Wp.bind _ (Wp.mono (fun r hr => ?_) _ (desc (n - (m + 1)) p (m + 1) 0 hp (by lia) (by lia) h ⟨by lia,fun k h1 h2 => by rw [show k = m + 1 - 1 by lia]⟩))
  obtain ⟨a,b,c,d,e⟩:=hr
  have hz : r.2.1≤r.1.size := by rw [a.size]; lia
  split
  · refine tail3 (a.rev _ _) (by lia) (by lia) fun i j hij hj => ?_
    rw [rev_eq e hz,rev_eq e hz]
    exact d i j hij hj
  · exact tail3 a (by lia) (by lia) d
theorem count {p : Array Nat} (hp : Pm n p) : Wp (ltOf key) n (kas_count n p) fun r => Pm n r.2∧1≤r.1∧r.1≤n∧Up key r.2 r.1 := by
  have hn:=hp.pos
  unfold kas_count
  refine Wp.bind _ (Wp.mono (fun m hm => ?_) _ (asc hp (n - 1) 1 (Nat.le_refl _) Up.one))
  obtain ⟨h1,h2,h3,h4⟩:=hm
  split
  · exact ⟨hp,h1,by lia,h3⟩
  · rename_i hne
    have hne' : m≠n := by simpa using hne
    have hk : O.klt (Key key p m) (Key key p (m - 1)) := by
      rcases h4 with z | z
      · exact absurd (by lia) hne'
      · exact z
    have hz : m≤p.size := by rw [hp.size]; lia
    split
    · refine ⟨hp.lt _,hp.lt _,?_⟩
      cases c : ltOf key (p.getD 0 0) (p.getD (m - 1) 0) with
      | true => simp only [if_true]; exact ⟨hp,h1,by lia,h3⟩
      | false =>
        simp only [Bool.false_eq_true,if_false]
        have all : ∀ k,k < m→Key key p k = Key key p (m - 1):=fun k hk' => KeyOrd.kle_antisymm (h3 k (m - 1) (by lia) (by lia)) (KeyOrd.kle_trans (show O.kle (Key key p (m - 1)) (Key key p 0) from c) (h3 0 k (by lia) hk'))
        have ek : ∀ k,Key key (kas_rev p 0 m) k = Key key p k:=fun k => by
          by_cases hk' : k < m
          · have : Key key (kas_rev p 0 m) k = Key key p (0 + m - 1 - k) := by
              unfold Key; rw [getD_rev hz,if_pos ⟨Nat.zero_le _,hk'⟩]
            rw [this,all _ (by lia),all k hk']
          · unfold Key; rw [getD_rev hz,if_neg (by lia)]
        refine descPart (hp.rev _ _) h1 (by lia) fun i j hij hj => ?_
        rw [ek,ek]
        by_cases e : j = m
        · subst e
          by_cases e2 : i = j
          · subst e2; exact KeyOrd.kle_refl _
          · rw [all i (by lia)]; exact KeyOrd.kle_of_klt hk
        · rw [all i (by lia),all j (by lia)]; exact KeyOrd.kle_refl _
    · have : m = 1 := by lia
      subst this
      refine descPart hp h1 (by lia) fun i j hij hj => ?_
      by_cases e : i = j
      · subst e; exact KeyOrd.kle_refl _
      · rw [show i = 0 by lia,show j = 1 by lia]
        exact KeyOrd.kle_of_klt hk
theorem place {p : Array Nat} {k : Nat} (hp : Pm n p) (hs : Up key p k) : ∀ (f l r : Nat),l≤r→r≤k→r - l≤f→(∀ i,i < l→O.kle (Key key p i) (Key key p k))→(∀ i,r≤i→i < k→O.klt (Key key p k) (Key key p i)) →
    Wp (ltOf key) n (kas_place p k f l r) fun x => x≤k∧(∀ i,i < x→O.kle (Key key p i) (Key key p k))∧∀ i,x≤i→i < k→O.klt (Key key p k) (Key key p i)
  | 0,l,r,h1,h2,h3,a,b => by
    have : l = r := by lia
    subst this
    exact ⟨h2,a,b⟩
  | f + 1,l,r,h1,h2,h3,a,b => by
    unfold kas_place
    split
    · have : l = r := by lia
      subst this
      exact ⟨h2,a,b⟩
    · refine ⟨hp.lt _,hp.lt _,?_⟩
      cases c : ltOf key (p.getD k 0) (p.getD ((l + r) / 2) 0) with
      | true =>
        simp only [if_true]
        exact place hp hs f l ((l + r) / 2) (by lia) (by lia) (by lia) a fun i x1 x2 => KeyOrd.klt_of_klt_of_kle (show O.klt (Key key p k) (Key key p ((l + r) / 2)) from c) (hs _ _ x1 x2)
      | false =>
        simp only [Bool.false_eq_true,if_false]
        exact place hp hs f ((l + r) / 2 + 1) r (by lia) h2 (by lia) (fun i x1 => KeyOrd.kle_trans (hs i ((l + r) / 2) (by lia) (by lia)) (show O.kle (Key key p ((l + r) / 2)) (Key key p k) from c)) b
theorem bin : ∀ (f : Nat) (p : Array Nat) (k : Nat),Pm n p→1≤k→k + f = n→Up key p k→Wp (ltOf key) n (kas_bin f p k) fun r => Pm n r∧Up key r n
  | 0,p,k,hp,_,hk,h => by
    have : k = n := by lia
    subst this
    exact ⟨hp,h⟩
  | f + 1,p,k,hp,h1,hk,h => by
    have hks : k < p.size := by rw [hp.size]; lia
    refine Wp.bind _ (Wp.mono (fun l hl => ?_) _ (place hp h k 0 k (Nat.zero_le _) (Nat.le_refl _) (by lia) (fun i z => absurd z (by lia)) fun i z1 z2 => absurd z1 (by lia)))
    obtain ⟨hlk,hlo,hhi⟩:=hl
    refine bin f _ (k + 1) (hp.bubble _ _) (by lia) (by lia) fun i j hij hj => ?_
    have kb : ∀ x,Key key (PyProof.Rows.bubble p k (k - l)) x = if x = l then Key key p k else if l < x∧x≤k then Key key p (x - 1) else Key key p x:=fun x => by
      unfold Key
      rw [getD_bubble hks (by lia),show k - (k - l) = l by lia]
      split
      · rfl
      · split <;> rfl
    rw [kb,kb]
    repeat' split
    all_goals first
      | (exfalso; lia)
      | exact KeyOrd.kle_refl _
      | exact hlo _ (by lia)
      | exact KeyOrd.kle_of_klt (hhi _ (by lia) (by lia))
      | exact h _ _ (by lia) (by lia)
theorem sort (hn : 0 < n) : Wp (ltOf key) n (kas_sort n) fun p => Pm n p∧Up key p n := by
  have hp : Pm n (List.toArray (List.range n)):=⟨Array.Perm.refl _,hn⟩
  unfold kas_sort
  refine Wp.bind _ (Wp.mono (fun r hr => ?_) _ (count hp))
  obtain ⟨a,b,c,d⟩:=hr
  split
  · rw [show max r.1 1 = r.1 by lia]
    exact bin _ _ _ a b (by lia) d
  · have : r.1 = n := by lia
    rw [this] at d
    exact ⟨a,d⟩
end
end SM
namespace TH
open PySem PySem.W PyProof.Rows PySem.SeqAt
section
variable   {A : Around} {E : Value→Shared→Prop} {s : Shared}  {a : Addr}  {Q : Bool→Shared→Prop}
theorem tuple_looks {M : Model} {h : Heap} {a : Addr} {x : Array Value} (h1 : h.IsTuple a x) : Looks M h (typeOf (.ref a)) (.type "tuple") := by
  obtain ⟨o,ho,hc,_⟩:=h1
  exact hc ▸ (Looks.ld ho).andThen .now
theorem only_tr {M : Model} {vs : List Value} {Q : Option Value→Shared→Prop} (hT : ∀ v∈vs,Looks M s.heap (typeOf v) (.type "tuple")) (h0 : vs = []→Q none s) (h1 : Q (some (.type "tuple")) s) : wpAny M A (oneTypeOnly' vs.toArray) Q E s := by
  rw [oneTypeOnly'_eq,List.mapM_toArray,map_eq_pure_bind]
  refine wpAny_bind (wpAny_bind (kas_mapM (r:=Value.type "tuple") _ (fun v hv Q' hq => (hT v hv).here hq) (wpAny_pure ?_)))
  cases vs with
  | nil => exact wpAny_pure (h0 rfl)
  | cons f r =>
    have hall : ((List.map (fun _ => Value.type "tuple") (f :: r)).toArray.all fun x => x == Value.type "tuple") = true := by
      simp only [List.all_toArray,List.all_map,List.all_eq_true]
      intro _ _
      rfl
    have e0 : (List.map (fun _ => Value.type "tuple") (f :: r)).toArray[0]? = some (Value.type "tuple") := by simp
    rw [e0]
    simp only [hall,if_true]
    exact wpAny_pure h1
theorem kasWp_of {α : Type} {cmp : Nat→Nat→(Bool→Shared→Prop)→Shared→Prop} {lt : Nat→Nat→Bool} {n : Nat} {Q' : α→Prop} (hc : ∀ i j C,i < n→j < n→C (lt i j) s→cmp i j C s) : ∀ T : KasT α,SM.Wp lt n T Q'→T.kasWp cmp (fun a s' => s' = s∧Q' a) s
  | .ret a,h => ⟨rfl,h⟩
  | .ask i j k,h => hc i j _ h.1 h.2.1 (kasWp_of hc (k (lt i j)) h.2.2)
end
end TH
namespace TH
open PySem PySem.W PyProof.Rows PySem.SeqAt
theorem map_getD {α : Type} (d : α) (l : List α) : (List.range l.length).map (fun i => l.getD i d) = l := by
  refine List.ext_getElem (by simp) fun i h1 h2 => ?_
  simp [h2]
section
theorem short_out (b : Bool) (us : List Value) (hz : us.length < 2) : (if b = true then ((if b = true then (us.toArray.zip us.toArray).reverse else us.toArray.zip us.toArray).map (·.2)).reverse else (if b = true then (us.toArray.zip us.toArray).reverse else us.toArray.zip us.toArray).map (·.2)) = us.toArray := by
  match us,hz with
  | [],_ => cases b <;> simp
  | [x],_ => cases b <;> simp
end
end TH
namespace ET
open PySem
section
variable {prog : Program} {w : World} {A : Around} {E : Value→Shared→Prop} {s : Shared}
theorem next_item {it t : Addr} {i : Nat} {items} {x : Value} {Q : Value→Shared→Prop} (hit : s.heap.IsTupleIter it t i) (ht : s.heap.IsTuple t items) (hx : items[i]? = some x)
    (hQ : ∀ h',h'.IsTupleIter it t (i + 1)→Heap.SameBut it s.heap h'→Q x { s with heap:=h' }) : wpAny (model prog w) A (Builtin.SmallTypes.nextOf (.ref it)) Q E s := by
  obtain ⟨o,ho,hc,hd⟩:=id hit
  obtain ⟨ol,hol,_,nl,hdl⟩:=ht
  unfold Builtin.SmallTypes.nextOf
  refine wpAny_bind (wpAny_callSpecial?_slot (name:=Str.ofString "__next__") hit.typeIs F.slot_tuple_iterator_next
    (wpAny_call_entry F.slot_tuple_iterator_next hit.typeIs F.entry_tuple_iterator_next ?_ (F.args_tuple_iterator_next_1 _)))
  show wpAny _ _ (field (.ref it) 0 >>= _) _ _ s
  refine wpAny_bind (wpAny_field ho hd (x:=.ref t) rfl ?_)
  show wpAny _ _ (if (Value.ref t == Value.none) = true then _ else _) _ _ s
  rw [if_neg (show ¬ ((Value.ref t == Value.none) = true) from Bool.false_ne_true)]
  show wpAny _ _ (field (.ref it) 1 >>= _) _ _ s
  refine wpAny_bind (wpAny_field ho hd (x:=.int i 0) rfl ?_)
  show wpAny _ _ (seqItems? (.ref t) >>= _) _ _ s
  refine wpAny_bind (wpAny_seqItems hol hdl ?_)
  simp only [Int.toNat_natCast,hx]
  refine wpAny_bind (wpAny_setField ho hd (by simp) (wpAny_pure ⟨x,rfl,wpAny_pure (hQ _ ?_ (Heap.SameBut.update ..))⟩))
  exact ⟨_,Heap.get?_update_self _ ho (Obj.isFreed_of_fields (Obj.data_mapFields hd _)),(Obj.cls_mapFields ..).trans hc,by
    rw [Obj.data_mapFields hd]; simp [rawInt]⟩
theorem next_end {it t : Addr} {i : Nat} {items} {Q : Value→Shared→Prop} (hh : A.handled = none) (hit : s.heap.IsTupleIter it t i) (ht : s.heap.IsTuple t items) (hx : items[i]? = none)
    (hE : ∀ h' e,Heap.ExtBut it s.heap h'→(∃ o,h'.get? e = some o∧o.cls = .type "StopIteration")→E (.ref e) { s with heap:=h' }) : wpAny (model prog w) A (Builtin.SmallTypes.nextOf (.ref it)) Q E s := by
  obtain ⟨o,ho,hc,hd⟩:=id hit
  obtain ⟨ol,hol,_,nl,hdl⟩:=ht
  unfold Builtin.SmallTypes.nextOf
  refine wpAny_bind (wpAny_callSpecial?_slot (name:=Str.ofString "__next__") hit.typeIs F.slot_tuple_iterator_next
    (wpAny_call_entry F.slot_tuple_iterator_next hit.typeIs F.entry_tuple_iterator_next ?_ (F.args_tuple_iterator_next_1 _)))
  show wpAny _ _ (field (.ref it) 0 >>= _) _ _ s
  refine wpAny_bind (wpAny_field ho hd (x:=.ref t) rfl ?_)
  show wpAny _ _ (if (Value.ref t == Value.none) = true then _ else _) _ _ s
  rw [if_neg (show ¬ ((Value.ref t == Value.none) = true) from Bool.false_ne_true)]
  show wpAny _ _ (field (.ref it) 1 >>= _) _ _ s
  refine wpAny_bind (wpAny_field ho hd (x:=.int i 0) rfl ?_)
  show wpAny _ _ (seqItems? (.ref t) >>= _) _ _ s
  refine wpAny_bind (wpAny_seqItems hol hdl ?_)
  simp only [Int.toNat_natCast,hx]
  refine wpAny_bind (wpAny_rule (wpAny_bind (wpAny_setField ho hd (by simp) ?_)))
  show wpAny _ _ (newExc (.type "StopIteration") [] >>= _) _ _ _
  refine wpAny_bind ?_
  simp only [newExc,newTuple]
  refine wpAny_bind (wpAny_newObj_type ?_ (by size_fits))
  refine wpAny_bind (m:=firstArgMember _ _) (wpAny_of_eq (a:=Value.none) (by first | rfl | (simp only [firstArgMember]; rfl)) ?_)
  refine wpAny_newObj_type ?_ (by size_fits)
  simp only [raiseNew]
  refine wpAny_bind (wpAny_handled ?_)
  first | rw [show A.in1.handled = none from hh] | rw [hh]
  refine wpAny_bind (wpAny_pure (wpAny_throw ?_))
  exact hE _ _ (((Heap.SameBut.update ..).extBut.push _).push _) ⟨_,Heap.get?_push_size _ rfl,rfl⟩
end
theorem draws {prog : Program} {w : World} {A : Around} (hh : A.handled = none) (it a : Addr) (its : List Value) (hne : a≠it) :
    Draws prog w A it [it,a] its.length (fun i x => its[i]? = some x) (fun i h => h.IsTupleIter it a i∧h.IsTuple a its.toArray) where
  live:=fun i h st => let ⟨o,e,_⟩:=st.1; ⟨o,e⟩
  frame:=fun i h h' st k => by
    obtain ⟨⟨o,e,r⟩,o2,e2,r2⟩:=st
    exact ⟨⟨o,k it (by simp) o e,r⟩,o2,k a (by simp) o2 e2,r2⟩
  item:=fun i s Q E hi st hQ => next_item st.1 st.2 (x:=its[i]) (by simp [hi]) fun h' st' sb =>
    hQ _ h' s.toks (by simp [hi]) ⟨st',let ⟨o,e,r⟩:=st.2; ⟨o,(sb.2 a hne).trans e,r⟩⟩ sb
  done:=fun s Q E st hE => next_end hh st.1 st.2 (by simp) hE
end ET
namespace L2
open PySem PySem.Spec PyProof.Rows
section
variable {X : Cx} {pins : List (Addr×Obj)} {σ : St} {H : Hp} {s : Shared} {h' : Heap} {tk : Nat} {ch : List Addr}
theorem Inv.turn (I : Inv X pins σ H s) (hf : ∀ b∈ch,FpOk X pins H b) (keep : ∀ b o,b ∉ ch→s.heap.get? b = some o→h'.get? b = some o) : Inv X pins σ H { s with heap:=h',toks:=tk } := by
  have trk : ∀ b o,H b = some o→b ∉ ch:=fun b o q hb => by rw [(hf b hb).1] at q; cases q
  show Inv X pins σ _ { s with heap:=h',gens:=s.gens,drawn:=s.drawn,toks:=tk }
  refine I.step (h':=h') (g':=s.gens) (d':=s.drawn) (t':=tk) (ch:=ch) (fun b hb => ?_) (fun b o _ _ hc q _ => keep b o hc q) (fun b o _ _ hc q _ => ⟨o.slots,keep b o hc q⟩)
    (fun b o _ q n => n) (fun b o hc q => ⟨o,keep b o hc q⟩) (fun b ys q => q) (fun b o u q => q)
    (fun b ps q => ⟨#[],by rw [q]; simp⟩) (fun b _ o hc _ q => keep b o hc q) (fun m hm => ?_) (fun b o q => ?_) I.bare
  · obtain ⟨_,f1,_,f3,f4,f5⟩:=hf b hb
    exact ⟨f3,f1,f4,f5⟩
  · obtain ⟨o,es,ep,ho,r⟩:=hm
    exact ⟨o,es,ep,keep _ o (fun hb => (hf _ hb).2.1 rfl) ho,r⟩
  · refine (I.hok b o q).stay (fun c w hc r => keep c w ?_ r) (fun c r => r) fun c ys r => r
    rcases hc with rfl | hc
    · exact trk _ _ q
    · exact trk _ _ hc
theorem Inv.tupNew (I : Inv X pins σ H s) (hf : ∀ b∈ch,FpOk X pins H b) (keep : ∀ b o,b ∉ ch→s.heap.get? b = some o→h'.get? b = some o) {xs : List V} {us : List Value} (hz : xs.length≤sizeLine) (rv : Vals xs us)
    (hT : h'.get? s.heap.objs.size = some { cls:=.type "tuple",data:=.seq us.toArray }) : Inv X pins σ (upd H s.heap.objs.size (.tup xs)) { s with heap:=h',toks:=tk } := by
  have hTn : H s.heap.objs.size = none:=I.hok.fresh (Nat.le_refl _)
  have neT : ∀ b o,s.heap.get? b = some o→b≠s.heap.objs.size:=fun b o q => Nat.ne_of_lt (Heap.lt_size q)
  have trk : ∀ b o,H b = some o→b ∉ ch:=fun b o q hb => by rw [(hf b hb).1] at q; cases q
  show Inv X pins σ _ { s with heap:=h',gens:=s.gens,drawn:=s.drawn,toks:=tk }
  refine I.step (h':=h') (g':=s.gens) (d':=s.drawn) (t':=tk) (ch:=ch) (fun b hb => ?_) (fun b o _ _ hc q _ => keep b o hc q) (fun b o _ _ hc q _ => ⟨o.slots,keep b o hc q⟩)
    (fun b o _ q n => by rw [upd_ne (neT b o q)]; exact n) (fun b o hc q => ⟨o,keep b o hc q⟩) (fun b ys q => by rw [upd_ne (ne_of_none q hTn)]; exact q) (fun b o u q => by rw [upd_ne (ne_of_none q hTn)]; exact q)
    (fun b ps q => ⟨#[],by rw [upd_ne (ne_of_none q hTn),q]; simp⟩) (fun b _ o hc _ q => keep b o hc q) (fun m hm => ?_) (fun b o q => ?_) I.bare
  · obtain ⟨_,f1,_,f3,f4,f5⟩:=hf b hb
    exact ⟨f3,f1,f4,f5⟩
  · obtain ⟨o,es,ep,ho,r⟩:=hm
    exact ⟨o,es,ep,keep _ o (fun hb => (hf _ hb).2.1 rfl) ho,r⟩
  · by_cases hb : b = s.heap.objs.size
    · subst hb
      rw [upd_same] at q
      cases q
      exact ⟨hz,us,rv,_,hT,rfl,_,rfl⟩
    · rw [upd_ne hb] at q
      refine (I.hok b o q).stay (fun c w hc r => keep c w ?_ r) (fun c r => by rw [upd_ne (ne_of_none r hTn)]; exact r) fun c ys r => by rw [upd_ne (ne_of_none r hTn)]; exact r
      rcases hc with rfl | hc
      · exact trk _ _ q
      · exact trk _ _ hc
end
def Ts (H : Hp) : Tr→List V→Prop
  | .nil,xs => xs = []
  | .cons b r,xs => ∃ (a : Addr) (ys zs : List V),xs = .ref a :: zs∧H a = some (.tup ys)∧Ts H b ys∧Ts H r zs
def Tv (H : Hp) (t : Tr) (v : V) : Prop:=∃ (a : Addr) (ys : List V),v = .ref a∧H a = some (.tup ys)∧Ts H t ys
end L2
namespace Tim
open PySem PyProof.Rows
def gallop' : Bool→Keyed→Array Keyed→Nat→Nat→Nat→StateT SortSt Sem (Option Nat):=sortPriv% PySem.Builtin.gallop
def mergeLo' : Array Keyed→Array Keyed→StateT SortSt Sem (Array Keyed):=sortPriv% PySem.Builtin.mergeLo
def iter {T : Type} (step : T→Option (Bool×T)) : Nat→T→Option T
  | 0,t => some t
  | n + 1,t => match step t with
    | none => none
    | some (true,t') => some t'
    | some (false,t') => iter step n t'
section pure
variable (N : Nat) (lt : Nat→Nat→Bool)
def cmp (i j : Nat) : Option Bool:=if i < N∧j < N then some (lt i j) else none
def at2 (p : Array Nat) (i j : Nat) : Option Bool:=match p[i]?,p[j]? with
  | some x,some y => cmp N lt x y
  | _,_ => none
def turn (p : Array Nat) (i j : Nat) : Array Nat:=mirror p i j ((j - i) / 2)
def ascS (p : Array Nat) (lo : Nat) (n : Nat) : Option (Bool×Nat):=match at2 N lt p (lo + n) (lo + n - 1) with
  | none => none
  | some true => some (true,n)
  | some false => some (false,n + 1)
def descS (lo : Nat) (t : Array Nat×Nat×Nat) : Option (Bool×Array Nat×Nat×Nat):=match at2 N lt t.1 (lo + t.2.1) (lo + t.2.1 - 1) with
  | none => none
  | some true => some (false,(if t.2.2 > 0 then turn t.1 (lo + t.2.1 - (t.2.2 + 1)) (lo + t.2.1) else t.1),t.2.1 + 1,0)
  | some false => match at2 N lt t.1 (lo + t.2.1 - 1) (lo + t.2.1) with
    | none => none
    | some true => some (true,t)
    | some false => some (false,t.1,t.2.1 + 1,t.2.2 + 1)
def fallT (p : Array Nat) (lo nrem n : Nat) : Option (Nat×Array Nat):=match iter (descS N lt lo) (nrem - (n + 1)) (p,n + 1,0) with
  | none => none
  | some (p,n,q) =>
    let p:=if q > 0 then turn p (lo + n - (q + 1)) (lo + n) else p
    let p:=turn p lo (lo + n)
    (iter (ascS N lt p lo) (nrem - n) n).map fun m => (m,p)
def countT (p : Array Nat) (lo nrem : Nat) : Option (Nat×Array Nat):=match iter (ascS N lt p lo) (nrem - 1) 1 with
  | none => none
  | some n => if n == nrem then some (n,p) else if n > 1 then match at2 N lt p lo (lo + n - 1) with
      | none => none
      | some true => some (n,p)
      | some false => fallT N lt (turn p lo (lo + n)) lo nrem n
    else fallT N lt p lo nrem n
def placeS (p : Array Nat) (lo k : Nat) (t : Nat×Nat) : Option (Bool×Nat×Nat):=if t.1 ≥ t.2 then some (true,t) else match at2 N lt p (lo + k) (lo + (t.1 + t.2) / 2) with
  | none => none
  | some true => some (false,t.1,(t.1 + t.2) / 2)
  | some false => some (false,(t.1 + t.2) / 2 + 1,t.2)
def binT (lo : Nat) : Nat→Nat→Array Nat→Option (Array Nat)
  | 0,_,p => some p
  | f + 1,k,p => match iter (placeS N lt p lo k) k (0,k) with
    | none => none
    | some (l,_) => binT lo f (k + 1) (bubble p (lo + k) (lo + k - (lo + l)))
def bey (left : Bool) (key : Nat) (p : Array Nat) (base i : Nat) : Option Bool:=match p[base + i]? with
  | none => none
  | some x => if left then cmp N lt x key else (cmp N lt key x).map (!·)
def upS (b : Nat→Option Bool) (hint mx : Nat) (t : Nat×Nat) : Option (Bool×Nat×Nat):=if t.2 ≥ mx then some (true,t) else match b (hint + t.2) with
  | none => none
  | some true => some (false,t.2,2 * t.2 + 1)
  | some false => some (true,t)
def dnS (b : Nat→Option Bool) (hint mx : Nat) (t : Nat×Nat) : Option (Bool×Nat×Nat):=if t.2 ≥ mx then some (true,t) else match b (hint - t.2) with
  | none => none
  | some true => some (true,t)
  | some false => some (false,t.2,2 * t.2 + 1)
def bisS (b : Nat→Option Bool) (t : Nat×Nat) : Option (Bool×Nat×Nat):=if t.1 ≥ t.2 then some (true,t) else match b (t.1 + (t.2 - t.1) / 2) with
  | none => none
  | some true => some (false,t.1 + (t.2 - t.1) / 2 + 1,t.2)
  | some false => some (false,t.1,t.1 + (t.2 - t.1) / 2)
def galT (b : Nat→Option Bool) (n hint : Nat) : Option Nat:=match b hint with
  | none => none
  | some true => match iter (upS b hint (n - hint)) n (0,1) with
    | none => none
    | some (l,o) => (iter (bisS b) n (hint + l + 1,hint + min o (n - hint))).map (·.2)
  | some false => match iter (dnS b hint (hint + 1)) n (0,1) with
    | none => none
    | some (l,o) => (iter (bisS b) n (hint + 1 - min o (hint + 1),hint - l)).map (·.2)
end pure
section
variable {M : Model} {A : Around} {E : Value→Shared→Prop} {s : Shared} {σ : Type}
theorem wpS_iter {T β : Type} {body : Nat→β→StateT σ Sem (ForInStep β)} (step : T→Option (Bool×T)) (toB : T→β) (toS : T→σ) {Q : β→σ→Prop}
    (hb : ∀ x t b t',step t = some (b,t')→∀ R : ForInStep β→σ→Prop,R (if b = true then .done (toB t') else .yield (toB t')) (toS t')→wpS M A E s (body x (toB t)) R (toS t)) :
    ∀ (l : List Nat) (t t' : T),iter step l.length t = some t'→Q (toB t') (toS t')→wpS M A E s (forIn l (toB t) body) Q (toS t)
  | [],t,t',h,q => by
    cases h
    rw [List.forIn_nil]
    exact wpS_pure q
  | x :: l,t,t',h,q => by
    rw [List.forIn_cons]
    rw [List.length_cons,iter] at h
    cases e : step t with
    | none => rw [e] at h; cases h
    | some r =>
      obtain ⟨b,t2⟩:=r
      rw [e] at h
      refine wpS_bind (hb x t b t2 e _ ?_)
      cases b with
      | true =>
        simp only [if_true]
        cases h
        exact wpS_pure q
      | false =>
        simp only [Bool.false_eq_true,if_false]
        exact wpS_iter step toB toS hb l t2 t' h q
theorem wpS_iterR {T β : Type} {a b : Nat} {body : Nat→β→StateT σ Sem (ForInStep β)} (step : T→Option (Bool×T)) (toB : T→β) (toS : T→σ) {Q : β→σ→Prop} {t t' : T} (h : iter step (b - a) t = some t')
    (hb : ∀ x t b t',step t = some (b,t')→∀ R : ForInStep β→σ→Prop,R (if b = true then .done (toB t') else .yield (toB t')) (toS t')→wpS M A E s (body x (toB t)) R (toS t)) (q : Q (toB t') (toS t')) :
    wpS M A E s (forIn [a:b] (toB t) body) Q (toS t) := by
  rw [Std.Legacy.Range.forIn_eq_forIn_range']
  have hsz : ([a:b] : Std.Legacy.Range).size = b - a := by simp [Std.Legacy.Range.size]
  show wpS M A E s (forIn (List.range' a ([a:b] : Std.Legacy.Range).size 1) (toB t) body) Q (toS t)
  rw [hsz]
  exact wpS_iter step toB toS hb _ t t' (by rw [List.length_range']; exact h) q
end
section
variable {prog : Program} {w : World} {A : Around} {E : Value→Shared→Prop} {s : Shared} {N : Nat} {lt : Nat→Nat→Bool} {κ : SortKind} {it : Nat→Keyed}
def Cm (prog : Program) (w : World) (A : Around) (s : Shared) (κ : SortKind) (it : Nat→Keyed) (N : Nat) (lt : Nat→Nat→Bool) : Prop :=
  ∀ (i j : Nat) (E : Value→Shared→Prop) (Q : Bool→Shared→Prop),i < N→j < N→Q (lt i j) s→wpAny (model prog w) A (keyLt' κ (it i).1 (it j).1) Q E s
abbrev St (κ : SortKind) (it : Nat→Keyed) (p : Array Nat) (pend : Array (Nat×Nat×Nat)) (g : Nat) : SortSt:=SortSt.mk' κ (p.map it) pend g none
variable {p : Array Nat} {pend : Array (Nat×Nat×Nat)} {g : Nat}
theorem lt_ok (hc : Cm prog w A s κ it N lt) {i j : Nat} {b : Bool} (h : cmp N lt i j = some b) {Q : Option Bool→SortSt→Prop} (q : Q (some b) (St κ it p pend g)) : wpS (model prog w) A E s (lt' (it i) (it j)) Q (St κ it p pend g) := by
  unfold cmp at h
  split at h
  · rename_i hij
    cases h
    rw [lt'_eq]
    refine wpS_bind (wpS_get ?_)
    refine wpS_bind (wpS_lift (wpAny_attempt (hc i j _ _ hij.1 hij.2 ⟨rfl,?_⟩)))
    exact wpS_pure q
  · cases h
theorem elem_ok {xs : Array Nat} {k i : Nat} (h : xs[k]? = some i) {Q : Keyed→SortSt→Prop} {st : SortSt} (q : Q (it i) st) : wpS (model prog w) A E s (elem' (xs.map it) k) Q st := by
  rw [elem'_eq,Array.getElem?_map,h]
  exact wpS_pure q
theorem ltAt_ok (hc : Cm prog w A s κ it N lt) {i j : Nat} {b : Bool} (h : at2 N lt p i j = some b) {Q : Option Bool→SortSt→Prop} (q : Q (some b) (St κ it p pend g)) : wpS (model prog w) A E s (ltAt' i j) Q (St κ it p pend g) := by
  unfold at2 at h
  split at h
  · rename_i x y h1 h2
    rw [ltAt'_eq]
    refine wpS_bind (wpS_get ?_)
    show wpS _ _ _ _ (do let x ← elem' (p.map it) i; let y ← elem' (p.map it) j; lt' x y) Q _
    exact wpS_bind (elem_ok h1 (wpS_bind (elem_ok h2 (lt_ok hc h q))))
  · cases h
theorem swaps_map {α β : Type} (f : α→β) (u v : Nat→Nat) : ∀ (l : List Nat) (xs : Array α),l.foldl (fun a k => a.swapIfInBounds (u k) (v k)) (xs.map f) = (l.foldl (fun a k => a.swapIfInBounds (u k) (v k)) xs).map f
  | [],_ => rfl
  | k :: l,xs => by
    have e : (xs.map f).swapIfInBounds (u k) (v k) = (xs.swapIfInBounds (u k) (v k)).map f := by
      apply Array.ext_getElem?
      intro m
      by_cases hi : u k < xs.size
      · by_cases hj : v k < xs.size
        · rw [getElem?_swapIB (by rw [Array.size_map]; exact hi) (by rw [Array.size_map]; exact hj)]
          simp only [Array.getElem?_map]
          rw [getElem?_swapIB hi hj]
          by_cases h1 : v k = m <;> by_cases h2 : u k = m <;> simp [h1,h2]
        · rw [Array.swapIfInBounds_def,Array.swapIfInBounds_def]
          simp [hi,hj]
      · rw [Array.swapIfInBounds_def,Array.swapIfInBounds_def]
        simp [hi]
    show l.foldl (fun a k => a.swapIfInBounds (u k) (v k)) ((xs.map f).swapIfInBounds (u k) (v k)) = _
    rw [e]
    exact swaps_map f u v l _
theorem turn_ok {i j : Nat} {Q : Unit→SortSt→Prop} (q : Q () (St κ it (turn p i j) pend g)) : wpS (model prog w) A E s (reverseSlice' i j) Q (St κ it p pend g) := by
  rw [reverseSlice'_eq]
  refine wpS_modify ?_
  have e : mirror (p.map it) i j ((j - i) / 2) = (mirror p i j ((j - i) / 2)).map it:=swaps_map it (fun k => i + k) (fun k => j - 1 - k) _ p
  show Q () (SortSt.mk' κ (mirror (p.map it) i j ((j - i) / 2)) pend g none)
  rw [e]
  exact q
theorem move_ok {i j : Nat} {Q : Unit→SortSt→Prop} (q : Q () (St κ it (bubble p i (i - j)) pend g)) : wpS (model prog w) A E s (moveDown' i j) Q (St κ it p pend g) := by
  rw [moveDown'_eq]
  refine wpS_modify ?_
  have e : bubble (p.map it) i (i - j) = (bubble p i (i - j)).map it:=swaps_map it (fun k => i - k) (fun k => i - k - 1) _ p
  show Q () (SortSt.mk' κ (bubble (p.map it) i (i - j)) pend g none)
  rw [e]
  exact q
theorem bey_ok (hc : Cm prog w A s κ it N lt) {left : Bool} {key : Nat} {xs : Array Nat} {base i : Nat} {b : Bool} (h : bey N lt left key xs base i = some b) {Q : Option Bool→SortSt→Prop} (q : Q (some b) (St κ it p pend g)) :
    wpS (model prog w) A E s (do
        let x ← elem' (xs.map it) (base + i)
        if left = true then lt' x (it key)
          else do
            let c ← lt' (it key) x
            pure (Option.map (fun x => !x) c)) Q (St κ it p pend g) := by
  unfold bey at h
  split at h
  · cases h
  · rename_i x hx
    refine wpS_bind (elem_ok hx ?_)
    cases left with
    | true =>
      simp only [if_true] at h ⊢
      exact lt_ok hc h q
    | false =>
      simp only [Bool.false_eq_true,if_false] at h ⊢
      cases e : cmp N lt key x with
      | none => rw [e] at h; cases h
      | some c =>
        rw [e] at h
        cases h
        exact wpS_bind (lt_ok hc e (wpS_pure q))
theorem gallop_ok (hc : Cm prog w A s κ it N lt) {left : Bool} {key : Nat} {xs : Array Nat} {base n hint k : Nat} (h : galT (bey N lt left key xs base) n hint = some k) {Q : Option Nat→SortSt→Prop} (q : Q (some k) (St κ it p pend g)) :
    wpS (model prog w) A E s (gallop' left (it key) (xs.map it) base n hint) Q (St κ it p pend g) := by
  unfold galT at h
  refine wpS_bind ?_
  have fin : ∀ {lo hi : Nat},(iter (bisS (bey N lt left key xs base)) n (lo,hi)).map (·.2) = some k→∃ lo' ,iter (bisS (bey N lt left key xs base)) n (lo,hi) = some (lo',k):=fun {lo hi} z => by
    cases e : iter (bisS (bey N lt left key xs base)) n (lo,hi) with
    | none => rw [e] at z; cases z
    | some t => rw [e] at z; cases z; exact ⟨t.1,rfl⟩
  cases e0 : bey N lt left key xs base hint with
  | none => rw [e0] at h; cases h
  | some right =>
    rw [e0] at h
    refine bey_ok hc e0 ?_
    have bis : ∀ (body : Nat→Option (Option Nat)×Nat×Nat→StateT SortSt Sem (ForInStep (Option (Option Nat)×Nat×Nat))) (K : Option (Option Nat)×Nat×Nat→StateT SortSt Sem (Option Nat)),
        (∀ x lo hi (R : ForInStep (Option (Option Nat)×Nat×Nat)→SortSt→Prop),lo ≥ hi→R (.done (none,lo,hi)) (St κ it p pend g)→wpS (model prog w) A E s (body x (none,lo,hi)) R (St κ it p pend g)) →
        (∀ x lo hi c (R : ForInStep (Option (Option Nat)×Nat×Nat)→SortSt→Prop),¬ lo ≥ hi→bey N lt left key xs base (lo + (hi - lo) / 2) = some c→R (.yield (if c = true then (none,lo + (hi - lo) / 2 + 1,hi) else (none,lo,lo + (hi - lo) / 2))) (St κ it p pend g)→wpS (model prog w) A E s (body x (none,lo,hi)) R (St κ it p pend g)) →
        (∀ lo hi,K (none,lo,hi) = pure (some hi))→∀ lo hi,(iter (bisS (bey N lt left key xs base)) n (lo,hi)).map (·.2) = some k→wpS (model prog w) A E s (forIn [0:n] (none,lo,hi) body >>= K) Q (St κ it p pend g) := by
      intro body K h1 h2 h3 lo hi hz
      obtain ⟨lo',e⟩:=fin hz
      refine wpS_bind (wpS_iterR (T:=Nat×Nat) (bisS (bey N lt left key xs base)) (fun t => (none,t.1,t.2)) (fun _ => St κ it p pend g) (t:=(lo,hi)) e (fun x t b t' hs R hR => ?_) ?_)
      · unfold bisS at hs
        split at hs
        · rename_i hge
          cases hs
          exact h1 x t.1 t.2 R hge hR
        · rename_i hge
          split at hs
          · cases hs
          · rename_i hb
            cases hs
            exact h2 x t.1 t.2 true R hge hb hR
          · rename_i hb
            cases hs
            exact h2 x t.1 t.2 false R hge hb hR
      · show wpS _ _ _ _ (K (none,lo',k)) _ _
        rw [h3]
        exact wpS_pure q
    cases right with
    | true =>
      simp only [if_true] at h ⊢
      split at h
      · cases h
      · rename_i l o e1
        refine wpS_bind (wpS_iterR (T:=Nat×Nat) (upS (bey N lt left key xs base) hint (n - hint)) (fun t => (none,t.1,t.2)) (fun _ => St κ it p pend g) (t:=(0,1)) e1 (fun x t b t' hs R hR => ?_) ?_)
        · unfold upS at hs
          split at hs
          · rename_i hge
            cases hs
            show wpS _ _ _ _ (if t.2 ≥ n - hint then _ else _) _ _
            rw [if_pos hge]
            exact wpS_pure hR
          · rename_i hge
            show wpS _ _ _ _ (if t.2 ≥ n - hint then _ else _) _ _
            rw [if_neg hge]
            split at hs
            · cases hs
            · rename_i hb
              cases hs
              exact wpS_bind (bey_ok hc hb (wpS_pure hR))
            · rename_i hb
              cases hs
              exact wpS_bind (bey_ok hc hb (wpS_pure hR))
        · refine bis _ _ (fun x lo hi R hge hR => ?_) (fun x lo hi c R hge hb hR => ?_) (fun _ _ => rfl) _ _ h
          · dsimp only
            rw [if_pos hge]
            exact wpS_pure hR
          · dsimp only
            rw [if_neg hge]
            refine wpS_bind (bey_ok hc hb ?_)
            cases c with
            | true => exact wpS_pure hR
            | false => exact wpS_pure hR
    | false =>
      simp only [Bool.false_eq_true,if_false] at h ⊢
      split at h
      · cases h
      · rename_i l o e1
        refine wpS_bind (wpS_iterR (T:=Nat×Nat) (dnS (bey N lt left key xs base) hint (hint + 1)) (fun t => (none,t.1,t.2)) (fun _ => St κ it p pend g) (t:=(0,1)) e1 (fun x t b t' hs R hR => ?_) ?_)
        · unfold dnS at hs
          split at hs
          · rename_i hge
            cases hs
            show wpS _ _ _ _ (if t.2 ≥ hint + 1 then _ else _) _ _
            rw [if_pos hge]
            exact wpS_pure hR
          · rename_i hge
            show wpS _ _ _ _ (if t.2 ≥ hint + 1 then _ else _) _ _
            rw [if_neg hge]
            split at hs
            · cases hs
            · rename_i hb
              cases hs
              exact wpS_bind (bey_ok hc hb (wpS_pure hR))
            · rename_i hb
              cases hs
              exact wpS_bind (bey_ok hc hb (wpS_pure hR))
        · refine bis _ _ (fun x lo hi R hge hR => ?_) (fun x lo hi c R hge hb hR => ?_) (fun _ _ => rfl) _ _ h
          · dsimp only
            rw [if_pos hge]
            exact wpS_pure hR
          · dsimp only
            rw [if_neg hge]
            refine wpS_bind (bey_ok hc hb ?_)
            cases c with
            | true => exact wpS_pure hR
            | false => exact wpS_pure hR
theorem asc_step (hc : Cm prog w A s κ it N lt) {lo n : Nat} {b : Bool} {t' : Nat} (h : ascS N lt p lo n = some (b,t')) {R : ForInStep (Option (Option Nat)×Nat)→SortSt→Prop} (hR : R (if b = true then .done (none,t') else .yield (none,t')) (St κ it p pend g)) :
    wpS (model prog w) A E s (do
      let x ← ltAt' (lo + n) (lo + n - 1)
      match x with
      | some smaller => if smaller = true then pure (ForInStep.done (none,n)) else pure (ForInStep.yield (none,n + 1))
      | _ => pure (ForInStep.done (some none,n))) R (St κ it p pend g) := by
  unfold ascS at h
  split at h
  · cases h
  · rename_i hb
    cases h
    exact wpS_bind (ltAt_ok hc hb (wpS_pure hR))
  · rename_i hb
    cases h
    exact wpS_bind (ltAt_ok hc hb (wpS_pure hR))
theorem count_ok (hc : Cm prog w A s κ it N lt) {lo nrem m : Nat} {p' : Array Nat} (h : countT N lt p lo nrem = some (m,p')) {Q : Option Nat→SortSt→Prop} (q : Q (some m) (St κ it p' pend g)) : wpS (model prog w) A E s (countRun' lo nrem) Q (St κ it p pend g) := by
  unfold countT at h
  split at h
  · cases h
  · rename_i n e1
    refine wpS_bind (wpS_iterR (T:=Nat) (ascS N lt p lo) (fun t => (none,t)) (fun _ => St κ it p pend g) e1 (fun x t b t' hs R hR => asc_step hc hs hR) ?_)
    dsimp only
    split at h
    · rename_i hn
      cases h
      rw [if_pos hn]
      exact wpS_pure q
    · rename_i hn
      rw [if_neg hn]
      split at h
      · rename_i hn1
        rw [if_pos hn1]
        split at h
        · cases h
        · rename_i hb
          cases h
          exact wpS_bind (ltAt_ok hc hb (wpS_pure q))
        · rename_i hb
          refine wpS_bind (ltAt_ok hc hb ?_)
          dsimp only
          rw [if_neg (by decide)]
          refine wpS_bind (turn_ok ?_)
          obtain ⟨p1,hp1⟩ : ∃ p1,p1 = turn p lo (lo + n):=⟨_,rfl⟩
          rw [← hp1] at h ⊢
          refine wpS_bind (wpS_lift (wpAny_rule ⟨rfl,?_⟩))
          unfold fallT at h
          split at h
          · cases h
          · rename_i p2 n2 q2 e2
            refine wpS_bind (wpS_iterR (T:=Array Nat×Nat×Nat) (descS N lt lo) (fun t => (none,t.2)) (fun t => St κ it t.1 pend g) (t:=(p1,n + 1,0)) e2 (fun x t b t' hs R hR => ?_) ?_)
            · unfold descS at hs
              split at hs
              · cases hs
              · rename_i hb
                cases hs
                refine wpS_bind (ltAt_ok hc hb ?_)
                dsimp only at hR ⊢
                rw [if_pos rfl]
                by_cases hq : t.2.2 > 0
                · rw [if_pos hq] at hR ⊢
                  exact wpS_bind (turn_ok (wpS_pure hR))
                · rw [if_neg hq] at hR ⊢
                  exact wpS_pure hR
              · rename_i hb
                refine wpS_bind (ltAt_ok hc hb ?_)
                dsimp only
                rw [if_neg (by decide)]
                split at hs
                · cases hs
                · rename_i hb2
                  cases hs
                  exact wpS_bind (ltAt_ok hc hb2 (wpS_pure hR))
                · rename_i hb2
                  cases hs
                  exact wpS_bind (ltAt_ok hc hb2 (wpS_pure hR))
            · dsimp only at h ⊢
              obtain ⟨p3,hp3⟩ : ∃ p3,p3 = turn (if q2 > 0 then turn p2 (lo + n2 - (q2 + 1)) (lo + n2) else p2) lo (lo + n2):=⟨_,rfl⟩
              rw [← hp3] at h
              cases e3 : iter (ascS N lt p3 lo) (nrem - n2) n2 with
              | none => rw [e3] at h; cases h
              | some m' =>
                rw [e3] at h
                obtain ⟨rfl,h4⟩ : m' = m∧p3 = p' := by simpa using h
                rw [← h4] at q
                by_cases hq : q2 > 0
                · rw [if_pos hq] at hp3 ⊢
                  refine wpS_bind (turn_ok (wpS_bind (turn_ok ?_)))
                  rw [← hp3]
                  exact wpS_bind (wpS_iterR (T:=Nat) (ascS N lt p3 lo) (fun t => (none,t)) (fun _ => St κ it p3 pend g) e3 (fun x t b t' hs R hR => asc_step hc hs hR) (wpS_pure q))
                · rw [if_neg hq] at hp3 ⊢
                  refine wpS_bind (turn_ok ?_)
                  rw [← hp3]
                  exact wpS_bind (wpS_iterR (T:=Nat) (ascS N lt p3 lo) (fun t => (none,t)) (fun _ => St κ it p3 pend g) e3 (fun x t b t' hs R hR => asc_step hc hs hR) (wpS_pure q))
      · rename_i hn1
        rw [if_neg hn1]
        refine wpS_bind (wpS_lift (wpAny_rule ⟨rfl,?_⟩))
        unfold fallT at h
        split at h
        · cases h
        · rename_i p2 n2 q2 e2
          refine wpS_bind (wpS_iterR (T:=Array Nat×Nat×Nat) (descS N lt lo) (fun t => (none,t.2)) (fun t => St κ it t.1 pend g) (t:=(p,n + 1,0)) e2 (fun x t b t' hs R hR => ?_) ?_)
          · unfold descS at hs
            split at hs
            · cases hs
            · rename_i hb
              cases hs
              refine wpS_bind (ltAt_ok hc hb ?_)
              dsimp only at hR ⊢
              rw [if_pos rfl]
              by_cases hq : t.2.2 > 0
              · rw [if_pos hq] at hR ⊢
                exact wpS_bind (turn_ok (wpS_pure hR))
              · rw [if_neg hq] at hR ⊢
                exact wpS_pure hR
            · rename_i hb
              refine wpS_bind (ltAt_ok hc hb ?_)
              dsimp only
              rw [if_neg (by decide)]
              split at hs
              · cases hs
              · rename_i hb2
                cases hs
                exact wpS_bind (ltAt_ok hc hb2 (wpS_pure hR))
              · rename_i hb2
                cases hs
                exact wpS_bind (ltAt_ok hc hb2 (wpS_pure hR))
          · dsimp only at h ⊢
            obtain ⟨p3,hp3⟩ : ∃ p3,p3 = turn (if q2 > 0 then turn p2 (lo + n2 - (q2 + 1)) (lo + n2) else p2) lo (lo + n2):=⟨_,rfl⟩
            rw [← hp3] at h
            cases e3 : iter (ascS N lt p3 lo) (nrem - n2) n2 with
            | none => rw [e3] at h; cases h
            | some m' =>
              rw [e3] at h
              obtain ⟨rfl,h4⟩ : m' = m∧p3 = p' := by simpa using h
              rw [← h4] at q
              by_cases hq : q2 > 0
              · rw [if_pos hq] at hp3 ⊢
                refine wpS_bind (turn_ok (wpS_bind (turn_ok ?_)))
                rw [← hp3]
                exact wpS_bind (wpS_iterR (T:=Nat) (ascS N lt p3 lo) (fun t => (none,t)) (fun _ => St κ it p3 pend g) e3 (fun x t b t' hs R hR => asc_step hc hs hR) (wpS_pure q))
              · rw [if_neg hq] at hp3 ⊢
                refine wpS_bind (turn_ok ?_)
                rw [← hp3]
                exact wpS_bind (wpS_iterR (T:=Nat) (ascS N lt p3 lo) (fun t => (none,t)) (fun _ => St κ it p3 pend g) e3 (fun x t b t' hs R hR => asc_step hc hs hR) (wpS_pure q))
theorem bin_loop {R : Option Bool×Unit→SortSt→Prop} {body : Nat→Option Bool×Unit→StateT SortSt Sem (ForInStep (Option Bool×Unit))} {lo : Nat} {p' : Array Nat} (hR : R (none,()) (St κ it p' pend g))
    (hb : ∀ (k : Nat) (p : Array Nat) (t : Nat×Nat),iter (placeS N lt p lo k) k (0,k) = some t→∀ R' : ForInStep (Option Bool×Unit)→SortSt→Prop,R' (.yield (none,())) (St κ it (bubble p (lo + k) (lo + k - (lo + t.1))) pend g)→wpS (model prog w) A E s (body k (none,())) R' (St κ it p pend g)) :
    ∀ (f k : Nat) (p : Array Nat),binT N lt lo f k p = some p'→wpS (model prog w) A E s (forIn (List.range' k f 1) (none,()) body) R (St κ it p pend g)
  | 0,k,p,h => by
    cases h
    exact wpS_pure hR
  | f + 1,k,p,h => by
    rw [List.range'_succ,List.forIn_cons]
    rw [binT] at h
    split at h
    · cases h
    · rename_i l r e
      exact wpS_bind (hb k p _ e _ (bin_loop hR hb f (k + 1) _ h))
theorem bin_ok (hc : Cm prog w A s κ it N lt) {lo n ok : Nat} {p' : Array Nat} (h : binT N lt lo (n - max ok 1) (max ok 1) p = some p') {Q : Bool→SortSt→Prop} (q : Q true (St κ it p' pend g)) : wpS (model prog w) A E s (binarySort' lo n ok) Q (St κ it p pend g) := by
  refine wpS_bind ?_
  rw [Std.Legacy.Range.forIn_eq_forIn_range']
  have hsz : ([max ok 1:n] : Std.Legacy.Range).size = n - max ok 1 := by simp [Std.Legacy.Range.size]
  show wpS _ _ _ _ (forIn (List.range' (max ok 1) ([max ok 1:n] : Std.Legacy.Range).size 1) _ _) _ _
  rw [hsz]
  refine bin_loop (N:=N) (lt:=lt) (lo:=lo) (wpS_pure q) (fun k p2 t e R' hR' => ?_) _ _ _ h
  refine wpS_bind (wpS_iterR (T:=Nat×Nat) (placeS N lt p2 lo k) (fun t => (none,t.1,t.2)) (fun _ => St κ it p2 pend g) (t:=(0,k)) e (fun x t b t' hs R hR => ?_) ?_)
  · unfold placeS at hs
    split at hs
    · rename_i hge
      cases hs
      dsimp only
      rw [if_pos hge]
      exact wpS_pure hR
    · rename_i hge
      dsimp only
      rw [if_neg hge]
      split at hs
      · cases hs
      · rename_i hb
        cases hs
        exact wpS_bind (ltAt_ok hc hb (wpS_pure hR))
      · rename_i hb
        cases hs
        exact wpS_bind (ltAt_ok hc hb (wpS_pure hR))
  · exact wpS_bind (move_ok (wpS_pure hR'))
section pure
end pure
theorem wpS_pos {M : Model} {σ α : Type} {c : Prop} [Decidable c] {x y : StateT σ Sem α} {Q : α→σ→Prop} {st : σ} (h : c) (k : wpS M A E s x Q st) : wpS M A E s (if c then x else y) Q st := by rw [if_pos h]; exact k
theorem wpS_neg {M : Model} {σ α : Type} {c : Prop} [Decidable c] {x y : StateT σ Sem α} {Q : α→σ→Prop} {st : σ} (h : ¬ c) (k : wpS M A E s y Q st) : wpS M A E s (if c then x else y) Q st := by rw [if_neg h]; exact k
def putT (p : Array Nat) (at_ : Nat) (m : Array Nat) : Array Nat:=m.toList.zipIdx.foldl (fun a x => a.setIfInBounds (at_ + x.2) x.1) p
section pure
end pure
theorem put_map (p : Array Nat) (at_ : Nat) (m : Array Nat) : (m.map it).toList.zipIdx.foldl (fun a (x : Keyed×Nat) => a.setIfInBounds (at_ + x.2) x.1) (p.map it) = (putT p at_ m).map it := by
  unfold putT
  rw [Array.toList_map]
  have key : ∀ (l : List Nat) (k : Nat) (p : Array Nat),((l.map it).zipIdx k).foldl (fun a (x : Keyed×Nat) => a.setIfInBounds (at_ + x.2) x.1) (p.map it) = ((l.zipIdx k).foldl (fun a x => a.setIfInBounds (at_ + x.2) x.1) p).map it := by
    intro l
    induction l with
    | nil => intro k p; rfl
    | cons x l ih =>
      intro k p
      rw [List.map_cons,List.zipIdx_cons,List.zipIdx_cons,List.foldl_cons,List.foldl_cons,← ih]
      congr 1
      simp
  exact key _ 0 p
theorem wpS_set {M : Model} {σ : Type} {Q : PUnit→σ→Prop} {st st' : σ} (h : Q ⟨⟩ st') : wpS M A E s (set st' : StateT σ Sem PUnit) Q st := by
  unfold wpS; rw [StateT.run_set]; exact wpAny_pure ⟨rfl,h⟩
end
end Tim
namespace GS
open PySem PySem.W PyProof.Rows PySem.SeqAt
abbrev Ext (h0 h : Heap) : Prop:=∀ c o,h0.get? c = some o→h.get? c = some o
def Asks (O : KeyOrd) (prog : Program) (w : World) (κ : SortKind) (A : Around) (s : Shared) (ks : List O.α) (us : List Value) : Prop :=
  ∀ (E : Value→Shared→Prop) (i j : Nat) (x y : O.α) (u v : Value) (Q : Bool→Shared→Prop),us[i]? = some u→us[j]? = some v→ks[i]? = some x→ks[j]? = some y→Q (O.blt x y) s→wpAny (model prog w) A (keyLt' κ u v) Q E s
structure Cmp (O : KeyOrd) (prog : Program) (w : World) (h0 : Heap) (r : Nat) (ks : List O.α) (us : List Value) : Prop where
  len : us.length = ks.length
  go : ∃ ok : SortKind→Prop,(∀ (A : Around) (E : Value→Shared→Prop) (s : Shared) (Q : SortKind→Shared→Prop),Ext h0 s.heap→(∀ κ,ok κ→Q κ s)→wpAny (model prog w) A (keyKind' us.toArray) Q E s) ∧
    ∀ (A : Around) (s : Shared) (κ : SortKind),Ext h0 s.heap→A.units + r < cLine→ok κ→Asks O prog w κ A s ks us
def Runs (O : KeyOrd) (prog : Program) (w : World) (ks : List O.α) : Prop :=
  ∀ (d : O.α) (A : Around) (E : Value→Shared→Prop) (s : Shared) (κ : SortKind) (ws : List Value),ws.length = ks.length→2≤ws.length→Asks O prog w κ A s ks ws →
    wpAny (model prog w) A ((sortRuns').run (SortSt.mk' κ (ws.toArray.zip ws.toArray) #[] 7 none)) (fun r s' => s' = s∧failedOf r.2 = none∧∃ ix : List Nat,ix.Perm (List.range ws.length) ∧
      (arrOf r.2).map (·.2) = (ix.map fun i => ws.getD i Value.none).toArray∧(ix.map fun i => ks.getD i d).Pairwise O.kle) E s
theorem runs_small {O : KeyOrd} {prog : Program} {w : World} {ks : List O.α} (h64 : ks.length < 64) : Runs O prog w ks := by
  intro d A E s κ ws hl h2 ask
  have h64 : ws.length < 64 := by lia
  refine kat_run (Q:=fun st' s' => s' = s∧failedOf st' = none∧∃ ix : List Nat,ix.Perm (List.range ws.length)∧(arrOf st').map (·.2) = (ix.map fun i => ws.getD i Value.none).toArray∧(ix.map fun i => ks.getD i d).Pairwise O.kle)
    (G:=fun p s' => s' = s∧SM.Pm ws.length p∧SM.Up (O:=O) (fun i => ks.getD i d) p ws.length) rfl h2 h64 (fun p st' s' hp har hf hG => ?_)
    (TH.kasWp_of (lt:=SM.ltOf (O:=O) fun i => ks.getD i d) (n:=ws.length) (fun i j C hi hj hC => ?_) _ (SM.sort (by lia)))
  · obtain ⟨rfl,hpm,hup⟩:=hG
    have h1 : p.toList.Perm (List.range ws.length) := by simpa using Array.perm_iff_toList_perm.mp hpm.perm
    refine ⟨rfl,hf,p.toList,h1,kat_snds rfl har,?_⟩
    refine List.pairwise_iff_getElem.mpr fun i j hi hj hij => ?_
    rw [List.length_map,Array.length_toList,hp] at hi hj
    have:=hup i j (by lia) hj
    have e1 : ∀ k,k < ws.length→∀ hk,(p.toList.map fun i => ks.getD i d)[k]'hk = ks.getD (p.getD k 0) d:=fun k hk hk' => by
      rw [List.getElem_map,Array.getElem_toList,Array.getD,dif_pos (by lia)]
      rfl
    rw [e1 i hi,e1 j hj]
    exact this
  · have gi : ∀ k,k < ws.length→∃ u x,ws[k]? = some u∧ks[k]? = some x∧ws.getD k Value.none = u∧ks.getD k d = x:=fun k hk => by
      refine ⟨ws[k],ks[k]'(by lia),List.getElem?_eq_getElem hk,List.getElem?_eq_getElem (by lia),?_,?_⟩
      · rw [List.getD_eq_getElem?_getD,List.getElem?_eq_getElem hk]; rfl
      · rw [List.getD_eq_getElem?_getD,List.getElem?_eq_getElem (by lia)]; rfl
    obtain ⟨u,x,q1,q2,q3,q4⟩:=gi i hi
    obtain ⟨v,y,r1,r2,r3,r4⟩:=gi j hj
    unfold kas_ask
    rw [q3,r3]
    refine ask _ i j x y u v C q1 r1 q2 r2 ?_
    have hC : C (O.blt (ks.getD i d) (ks.getD j d)) s:=hC
    rw [q4,r4] at hC
    exact hC
section
variable {O : KeyOrd} {prog : Program} {w : World} {A : Around} {E : Value→Shared→Prop} {s : Shared} {h0 : Heap} {r : Nat} {ks : List O.α} {us : List Value}
theorem Asks.rev {κ : SortKind} (hl : us.length = ks.length) (a : Asks O prog w κ A s ks us) : Asks O prog w κ A s ks.reverse us.reverse:=fun E i j x y u v Q h1 h2 h3 h4 q => by
  have b1:=(List.getElem?_eq_some_iff.mp h1).1
  have b2:=(List.getElem?_eq_some_iff.mp h2).1
  rw [List.length_reverse] at b1 b2
  rw [List.getElem?_reverse (by lia)] at h1 h2 h3 h4
  rw [← hl] at h3 h4
  exact a E _ _ x y u v Q h1 h2 h3 h4 q
theorem pair_one {α : Type} {R : α→α→Prop} : ∀ {l : List α},l.length < 2→l.Pairwise R
  | [],_ => .nil
  | [_],_ => List.pairwise_singleton ..
  | _ :: _ :: _,h => by simp at h; lia
theorem list_sort (d : O.α) {a : Addr} {n : Nat} {b : Bool} {P : PySem.Fin→Shared→Prop} (C : Cmp O prog w h0 r ks us) (hx : Ext h0 s.heap) (ha0 : h0.objs.size≤a) (ho : s.heap.get? a = some (seqObj "list" us.toArray n)) (hsz : us.length≤1000) (hr : Runs O prog w (if b then ks.reverse else ks)) (hu : A.units + r < cLine)
    (h : ∀ ix : List Nat,ix.Perm (List.range us.length)→(ix.map fun i => ks.getD i d).Pairwise (fun x y => if b = true then O.kle y x else O.kle x y)→P (.done (.ret .none)) { s with heap:=sortedHeap s.heap a us (ix.map fun i => us.getD i Value.none).toArray }) :
    wpAny (model prog w) A (Builtin.«list.sort» ⟨[.ref a],[(Str.ofString "reverse",.bool b)]⟩) P E s := by
  rw [list_sort_rev]
  have ha : a < s.heap.objs.size:=Heap.lt_size ho
  refine wpAny_bind (listItems_at ho rfl ?_)
  refine wpAny_bind (listUpdate_at ho rfl ?_ (by rw [List.size_toArray,sizeLine_eq]; lia) (Nat.zero_le _))
  obtain ⟨e1,ho1⟩ : ∃ e1,(s.heap.update a (Obj.mapSeq fun _ => #[])).get? a = some (seqObj "list" #[] e1):=⟨_,get?_update_seq ho (fun _ => #[])⟩
  refine wpAny_bind (seqEpoch_at ho1 rfl ?_)
  refine wpAny_bind (wpAny_newTuple ?_ (by show us.length≤_; rw [sizeLine_eq]; lia))
  refine wpAny_bind (wpAny_newList ?_ (Nat.zero_le _))
  refine wpAny_holding ?_
  have ho6 : (((s.heap.update a (Obj.mapSeq fun _ => #[])).push (seqObj "tuple" us.toArray 0)).push (seqObj "list" #[] 0)).get? a = some (seqObj "list" #[] e1) := by
    rw [Heap.get?_push_ne _ _ _ (by rw [size_push',Heap.size_update]; exact Nat.ne_of_lt (Nat.lt_succ_of_lt ha)),Heap.get?_push_ne _ _ _ (by rw [Heap.size_update]; exact Nat.ne_of_lt ha)]
    exact ho1
  have keep : Ext h0 (((s.heap.update a (Obj.mapSeq fun _ => #[])).push (seqObj "tuple" us.toArray 0)).push (seqObj "list" #[] 0)):=fun c o hc => by
    have hlt : c < h0.objs.size:=Heap.lt_size hc
    have hne : c≠a:=fun z => Nat.not_lt.mpr ha0 (z ▸ hlt)
    refine Heap.get?_push_of_some _ (Heap.get?_push_of_some _ ?_)
    rw [Heap.get?_update_ne _ _ _ _ hne]
    exact hx c o hc
  show wpAny (model prog w) A _ P E { s with heap:=((s.heap.update a (Obj.mapSeq fun _ => #[])).push (seqObj "tuple" us.toArray 0)).push (seqObj "list" #[] 0) }
  dsimp only
  have step : ∀ T : Sem PySem.Fin,wpAny (model prog w) A T P E { s with heap:=((s.heap.update a (Obj.mapSeq fun _ => #[])).push (seqObj "tuple" us.toArray 0)).push (seqObj "list" #[] 0) } →
      wpAny (model prog w) A (if b = true then (do let _ ← rule "list.sort.reverse"; T) else T) P E { s with heap:=((s.heap.update a (Obj.mapSeq fun _ => #[])).push (seqObj "tuple" us.toArray 0)).push (seqObj "list" #[] 0) } := by
    intro T hT
    split
    · exact wpAny_bind (wpAny_rule hT)
    · exact hT
  refine step _ ?_
  obtain ⟨ok,hkind,hask⟩:=C.go
  have hl:=C.len
  by_cases h2 : us.toArray.size < 2
  · rw [if_pos h2,if_pos h2]
    refine wpAny_bind (wpAny_pure ?_)
    rw [StateT.run_pure]
    refine wpAny_bind (wpAny_pure ?_)
    dsimp only
    have hz : us.length < 2 := by simpa using h2
    have hout:=TH.short_out b us hz
    refine wpAny_bind (seqEpoch_at ho6 rfl ?_)
    refine wpAny_bind (listUpdate_at ho6 rfl ?_ (Nat.zero_le _) (by
      refine Nat.le_trans (Nat.le_of_eq (congrArg Array.size hout)) ?_
      rw [List.size_toArray,sizeLine_eq]; lia))
    simp only [bne_self_eq_false,Bool.false_eq_true,if_false]
    have fin:=h (List.range us.length) (.refl _) (pair_one (by simpa using hz))
    rw [TH.map_getD] at fin
    rw [← hout] at fin
    exact wpAny_pure fin
  · rw [if_neg h2,if_neg h2]
    have hz : 2≤us.length := by simpa using h2
    refine wpAny_bind (hkind A E { s with heap:=((s.heap.update a (Obj.mapSeq fun _ => #[])).push (seqObj "tuple" us.toArray 0)).push (seqObj "list" #[] 0) } _ keep fun κ hκ => ?_)
    have ask:=hask A { s with heap:=((s.heap.update a (Obj.mapSeq fun _ => #[])).push (seqObj "tuple" us.toArray 0)).push (seqObj "list" #[] 0) } κ keep hu hκ
    obtain ⟨ws,kw,aw,hwl,hwk,hws,hrw,pick⟩ : ∃ (ws : List Value) (kw : List O.α),Asks O prog w κ A { s with heap:=((s.heap.update a (Obj.mapSeq fun _ => #[])).push (seqObj "tuple" us.toArray 0)).push (seqObj "list" #[] 0) } kw ws∧ws.length = us.length∧ws.length = kw.length ∧
        (if b = true then (us.toArray.zip us.toArray).reverse else us.toArray.zip us.toArray) = ws.toArray.zip ws.toArray∧Runs O prog w kw ∧
        ∀ ix : List Nat,ix.Perm (List.range ws.length)→(ix.map fun i => kw.getD i d).Pairwise O.kle→∃ iy : List Nat,iy.Perm (List.range us.length)∧(iy.map fun i => ks.getD i d).Pairwise (fun x y => if b = true then O.kle y x else O.kle x y) ∧
          (if b = true then ((ix.map fun i => ws.getD i Value.none).toArray).reverse else (ix.map fun i => ws.getD i Value.none).toArray) = (iy.map fun i => us.getD i Value.none).toArray := by
      cases b with
      | false => exact ⟨us,ks,ask,rfl,hl,rfl,hr,fun ix h1 h2 => ⟨ix,h1,by simpa using h2,rfl⟩⟩
      | true =>
        refine ⟨us.reverse,ks.reverse,ask.rev hl,by simp,by simp [hl],kat_pairs (ks:=us) (vs:=us) true rfl,hr,fun ix h1 h2 => ⟨(ix.map fun i => us.length - 1 - i).reverse,?_,?_,?_⟩⟩
        · rw [List.length_reverse] at h1
          refine (List.reverse_perm _).trans ((h1.map fun i => us.length - 1 - i).trans ?_)
          have : (List.range us.length).map (fun i => us.length - 1 - i) = (List.range us.length).reverse := by
            refine List.ext_getElem (by simp) fun i a1 a2 => ?_
            simp
          rw [this]
          exact List.reverse_perm _
        · have hb : ∀ i∈ix,i < us.length:=fun i hi => by simpa using h1.mem_iff.mp hi
          have e : ((ix.map fun i => us.length - 1 - i).reverse.map fun i => ks.getD i d) = (ix.map fun i => ks.reverse.getD i d).reverse := by
            rw [List.map_reverse,List.map_map]
            congr 1
            exact List.map_congr_left fun i hi => by
              have:=hb i hi
              show ks.getD (us.length - 1 - i) d = _
              rw [List.getD_eq_getElem?_getD,List.getD_eq_getElem?_getD,List.getElem?_reverse (by lia),hl]
          rw [e,List.pairwise_reverse]
          simpa using h2
        · have hb : ∀ i∈ix,i < us.length:=fun i hi => by simpa using h1.mem_iff.mp hi
          rw [if_pos rfl,List.map_reverse,List.map_map,List.reverse_toArray]
          congr 2
          exact List.map_congr_left fun i hi => by
            have:=hb i hi
            show us.reverse.getD i Value.none = us.getD (us.length - 1 - i) Value.none
            rw [List.getD_eq_getElem?_getD,List.getD_eq_getElem?_getD,List.getElem?_reverse (by lia)]
    rw [hws]
    refine wpAny_bind (wpAny_mono (hrw d A E { s with heap:=((s.heap.update a (Obj.mapSeq fun _ => #[])).push (seqObj "tuple" us.toArray 0)).push (seqObj "list" #[] 0) } κ ws hwk (by lia) aw) ?_ fun _ _ z => z)
    rintro ⟨⟨⟩,st'⟩ s' ⟨rfl,hf,ix,hix,hout,hst⟩
    dsimp only
    refine wpAny_bind (seqEpoch_at ho6 rfl ?_)
    obtain ⟨iy,y1,y2,hfin⟩ : ∃ iy : List Nat,iy.Perm (List.range us.length)∧(iy.map fun i => ks.getD i d).Pairwise (fun x y => if b = true then O.kle y x else O.kle x y) ∧
        (if b = true then ((arrOf st').map (·.2)).reverse else (arrOf st').map (·.2)) = (iy.map fun i => us.getD i Value.none).toArray := by
      rw [show (arrOf st').map (·.2) = _ from hout]
      exact pick ix hix hst
    refine wpAny_bind (listUpdate_at ho6 rfl ?_ (Nat.zero_le _) (by
      refine Nat.le_trans (Nat.le_of_eq (congrArg Array.size hfin)) ?_
      have:=y1.length_eq
      rw [List.length_range] at this
      rw [List.size_toArray,List.length_map,this,sizeLine_eq]; lia))
    rw [show failedOf st' = none from hf]
    simp only [bne_self_eq_false,Bool.false_eq_true,if_false]
    have fin:=h iy y1 y2
    rw [← hfin] at fin
    exact wpAny_pure fin
def Gathers (prog : Program) (w : World) (A : Around) (E : Value→Shared→Prop) (s : Shared) (v : Value) (us : List Value) : Prop :=
  ∀ Q : List Value→Shared→Prop,(∀ (h1 : Heap) (tk : Nat),Ext s.heap h1→s.heap.objs.size≤h1.objs.size→Q us { s with heap:=h1,toks:=tk })→wpAny (model prog w) A (collect v) Q E s
theorem gathers_list {l : Addr} (hl : s.heap.IsList l us.toArray) (hz : us.length≤1000) : Gathers prog w A E s (.ref l) us:=fun Q h => by
  refine collect_list hl (h _ _ (fun c o q => ?_) ?_) (by rw [sizeLine_eq]; lia)
  · have hlt : c < s.heap.objs.size:=Heap.lt_size q
    rw [Heap.get?_update_ne _ _ _ _ (Nat.ne_of_lt hlt),Heap.get?_push_ne _ _ _ (Nat.ne_of_lt hlt)]
    exact q
  · rw [Heap.size_update,size_push']
    lia
theorem sorted_tail (d : O.α) {b : Bool} {Q : Value→Shared→Prop} {h1 : Heap} {tk : Nat} {T : Sem PySem.Fin} (C : Cmp O prog w s.heap r ks us) (hsz : us.length≤1000) (hr : Runs O prog w (if b then ks.reverse else ks)) (x1 : Ext s.heap h1) (z1 : s.heap.objs.size≤h1.objs.size)
    (h : ∀ (h' : Heap) (D tk : Nat) (ix : List Nat) (e1 : Nat),s.heap.objs.size≤D→Ext s.heap h'→h'.get? D = some (seqObj "list" (ix.map fun i => us.getD i Value.none).toArray e1)→ix.Perm (List.range us.length)→(ix.map fun i => ks.getD i d).Pairwise (fun x y => if b = true then O.kle y x else O.kle x y)→Q (.ref D) { s with heap:=h',toks:=tk }) :
    (h1.push (seqObj "list" us.toArray 0)).get? h1.objs.size = some (seqObj "list" us.toArray 0)∧Ext s.heap (h1.push (seqObj "list" us.toArray 0)) ∧
    ∀ ix : List Nat,ix.Perm (List.range us.length)→(ix.map fun i => ks.getD i d).Pairwise (fun x y => if b = true then O.kle y x else O.kle x y)→Q (.ref h1.objs.size) { s with heap:=sortedHeap (h1.push (seqObj "list" us.toArray 0)) h1.objs.size us (ix.map fun i => us.getD i Value.none).toArray,toks:=tk } := by
  have g1 : (h1.push (seqObj "list" us.toArray 0)).get? h1.objs.size = some (seqObj "list" us.toArray 0):=Heap.get?_push_size _ rfl
  refine ⟨g1,fun b u e => Heap.get?_push_of_some _ (x1 b u e),fun ix p1 p2 => ?_⟩
  obtain ⟨e1,he1⟩:=sortedHeap_at (vs:=us) (out:=(ix.map fun i => us.getD i Value.none).toArray) g1
  refine h _ h1.objs.size tk ix e1 z1 (fun b u e => ?_) he1 p1 p2
  have lb : b < h1.objs.size:=Heap.lt_size (x1 b u e)
  rw [sortedHeap_old (Nat.ne_of_lt lb) (by rw [Heap.size_push]; exact Nat.lt_succ_of_lt lb)]
  exact Heap.get?_push_of_some _ (x1 b u e)
theorem sorted_R (d : O.α) {v : Value} {b : Bool} {Q : Value→Shared→Prop} (G : Gathers prog w A.in1 E s v us) (C : Cmp O prog w s.heap r ks us) (hsz : us.length≤1000) (hr : Runs O prog w (if b then ks.reverse else ks)) (hu : A.units + 2 + r < cLine)
    (h : ∀ (h' : Heap) (D tk : Nat) (ix : List Nat) (e1 : Nat),s.heap.objs.size≤D→Ext s.heap h'→h'.get? D = some (seqObj "list" (ix.map fun i => us.getD i Value.none).toArray e1)→ix.Perm (List.range us.length)→(ix.map fun i => ks.getD i d).Pairwise (fun x y => if b = true then O.kle y x else O.kle x y)→Q (.ref D) { s with heap:=h',toks:=tk }) :
    wpAny (model prog w) A (call (.builtin "sorted") [v] [(Str.ofString "reverse",.bool b)]) Q E s := by
  refine call_function_entry_kw kind_sorted plain_sorted entry_sorted (args_sorted_rev _ _) ?_
  unfold Builtin.«sorted»
  refine wpAny_bind (m:=checkCount "sorted" 1 1 _) (wpAny_pure ?_)
  refine wpAny_bind (G _ fun h1 tk x1 z1 => ?_)
  refine wpAny_bind (wpAny_newList ?_ (by rw [sizeLine_eq]; lia))
  obtain ⟨g1,x2,fin⟩:=sorted_tail (T:=pure (.done (.ret .none))) (tk:=tk) (b := b) d C hsz hr x1 z1 h
  refine wpAny_bind (wpAny_holding (wpAny_call_entry_kw slot_list_sort ⟨_,g1,rfl⟩ entry_list_sort ?_ (args_list_sort_rev _ _)))
  refine list_sort (s:={ s with heap:=h1.push (seqObj "list" us.toArray 0),toks:=tk }) d C x2 z1 g1 hsz hr (by rw [show A.in1.in1.units = A.units + 2 from rfl]; lia) fun ix p1 p2 => ⟨_,rfl,?_⟩
  exact wpAny_pure ⟨_,rfl,fin ix p1 p2⟩
end
end GS
namespace L2
open PySem PySem.Spec PyProof.Rows
theorem Vals.pick {xs : List V} {us : List Value} (r : Vals xs us) : ∀ ix : List Nat,(∀ i∈ix,i < xs.length)→Vals (ix.map fun i => xs.getD i .non) (ix.map fun i => us.getD i Value.none)
  | [],_ => .nil
  | i :: ix,h => by
    refine .cons ?_ (Vals.pick r ix fun k hk => h k (List.mem_cons_of_mem _ hk))
    have hi:=h i List.mem_cons_self
    obtain ⟨u,h1,h2⟩:=r.get (i:=i) (x:=xs[i]) (by simp [hi])
    show RelV (xs.getD i .non) (us.getD i Value.none)
    rw [List.getD_eq_getElem?_getD,List.getD_eq_getElem?_getD,h1,List.getElem?_eq_getElem hi]
    exact h2
def CW (Pv : Nat→List V→Hp→Prop) (n : Nat) (D : Addr) : Nat→Nat→List V→Hp→Prop:=fun i m ys H => m = n - i∧i≤n∧H D = some (.lst ys)∧Pv i ys H
theorem cw_next {Pv : Nat→List V→Hp→Prop} {n i : Nat} {D : Addr} {ys : List V} {y : V} {H : Hp} (hi : i < n) (p : Pv (i + 1) (ys ++ [y]) (upd H D (.lst (ys ++ [y])))) : ∃ m',m' < n - i∧CW Pv n D (i + 1) m' (ys ++ [y]) (upd H D (.lst (ys ++ [y]))) :=
  ⟨n - (i + 1),by lia,rfl,hi,upd_same,p⟩
theorem comp_by {J : It} {n : Nat} {D : Addr} {H1 : Hp} {fr : List (Option Nat)} {σ : St} {ix : Nat} {tif : TT} {te : TE} {G : Hp→Prop} (Pv : Nat→List V→Hp→Prop) (h0 : Pv 0 [] (upd H1 D (.lst [])))
    (hgo : ∀ i ys H,i < n→Pv i ys H→H D = some (.lst ys)→J.go i H∧ys.length < sizeLine∧∀ x H',J.yld i H x H' →
      tif ((carry fr σ).set ix (some x)) H' fun b H2 => if b = true then te ((carry fr σ).set ix (some x)) H2 fun y H3 => H3 D = some (.lst ys)∧∃ m',m' < n - i∧CW Pv n D (i + 1) m' (ys ++ [y]) (upd H3 D (.lst (ys ++ [y])))
        else ∃ m',m' < n - i∧CW Pv n D (i + 1) m' ys H2)
    (hstop : ∀ ys H,Pv n ys H→H D = some (.lst ys)→J.stop n H∧G H) :
    ∃ W : Nat→Nat→List V→Hp→Prop,(∃ m,W 0 m [] (upd H1 D (.lst []))) ∧
      ∀ i m ys H,W i m ys H→H D = some (.lst ys)∧((J.stop i H∧G H)∨(J.go i H∧ys.length < sizeLine∧∀ x H',J.yld i H x H' →
        tif ((carry fr σ).set ix (some x)) H' fun b H2 => if b = true then te ((carry fr σ).set ix (some x)) H2 fun y H3 => H3 D = some (.lst ys)∧∃ m',m' < m∧W (i + 1) m' (ys ++ [y]) (upd H3 D (.lst (ys ++ [y])))
          else ∃ m',m' < m∧W (i + 1) m' ys H2)) := by
  refine ⟨CW Pv n D,⟨n,by simp,Nat.zero_le _,upd_same,h0⟩,?_⟩
  rintro i m ys H ⟨rfl,hi,hH,p⟩
  refine ⟨hH,?_⟩
  by_cases hlt : i < n
  · exact .inr (hgo i ys H hlt p hH)
  · have e : i = n := by lia
    subst e
    exact .inl (hstop ys H p hH)
section
variable {X : Cx}
theorem call_all (hc : X.calm = true) : CallR X (.builtin "all") (fun xs H Q => ∃ (p : Addr) (bs : List Bool),xs = [.ref p]∧SqL X.K H p (bs.map V.bl)∧Q (.bl (bs.all id)) H) := by
  intro pins s σ H xs us Q I r h
  obtain ⟨p,bs,rfl,hq,q⟩:=h
  obtain ⟨u,rfl,r1⟩:=r.one
  cases r1
  obtain ⟨its,rv,pl,hz⟩:=I.list hq
  have hl : s.heap.IsList p its.toArray:=pl.isList
  have hlt : p < s.heap.objs.size := by obtain ⟨_,e,_⟩:=hl; exact Heap.lt_size e
  have hlen : its.length = bs.length := by rw [← rv.length,List.length_map]
  refine call_all_walk (wpAny_pyIter_list hl ?_)
  refine ⟨s.heap.objs.size,[s.heap.objs.size,p],[s.heap.objs.size],its.toArray.size,_,_,fun i => (bs[i]?).getD true,rfl,Walks.list (A:=X.A.in1) (I.ok.hd hc) _ p (Nat.ne_of_lt hlt) its.toArray,
    ⟨⟨_,Heap.get?_push_size _ rfl,rfl,rfl⟩,hl.push _⟩,fun i v s' Q' E' hP hQ => ?_,fun h' tk hk => ?_⟩
  · have hv : its[i]? = some v := by simpa using hP
    have hi : i < bs.length := by rw [← hlen]; exact (List.getElem?_eq_some_iff.mp hv).1
    obtain ⟨u,h1,h2⟩:=rv.get (i:=i) (x:=.bl bs[i]) (by rw [List.getElem?_map,List.getElem?_eq_getElem hi]; rfl)
    rw [hv] at h1
    cases h1
    cases h2
    simp only [List.getElem?_eq_getElem hi,Option.getD_some] at hQ
    exact wpAny_truthy_bool hQ
  · have e : ((List.range its.toArray.size).all fun i => (bs[i]?).getD true) = bs.all id := by
      rw [List.size_toArray,hlen]; exact PyProof.Rows.LSm.range_all bs
    rw [e]
    exact ⟨.bl _,H,I.kept (t':=tk) (PyProof.Rows.LSm.kept_iter hk),rfl,q⟩
theorem call_sum (hc : X.calm = true) : CallR X (.builtin "sum") (fun xs H Q => ∃ (p : Addr) (ns : List Int),xs = [.ref p]∧SqL X.K H p (ns.map V.int)∧Q (.int ns.sum) H) := by
  intro pins s σ H xs us Q I r h
  obtain ⟨p,ns,rfl,hq,q⟩:=h
  obtain ⟨u,rfl,r1⟩:=r.one
  cases r1
  obtain ⟨its,rv,pl,hz⟩:=I.list hq
  have hi:=intsAre_of rv
  obtain ⟨xs,hx⟩:=hi.allInts.items
  have hl' : s.heap.IsList p (intItems xs):=hx ▸ pl.isList
  refine sum_intListG (I.ok.hd hc) hl' fun h' tk t' hk => ?_
  have e1 : ns = xs.toList.map (·.1) := by
    rw [← nums_intItems,← hx]
    exact (show numsOf its.toArray.toList = ns from hi.numsOf).symm
  have e2 : preSum (numAt xs) xs.size = ns.sum := by
    rw [preSum_eq,List.take_of_length_le (by simp),e1]
  rw [e2]
  exact ⟨.int _,H,I.kept (t':=tk) hk,⟨t',rfl⟩,q⟩
end
section
variable {X : Cx} {scope : Scope} {cl : List (Str×Addr)} {N : List Str} {C : Addr} {s₀ : Shared} {H₀ : Hp} {fp : List Addr}
theorem ix_tupC : IxR (cxComp X scope cl N C s₀ H₀ fp) (rIxT X.K):=ix_tup
end
mutual
def Dt (l : Addr) (H : Hp) : PyData→V→Prop
  | .none,v => v = .non
  | .bool b,v => v = .bl b
  | .int i,v => v = .int i
  | .str x,v => v = .str x
  | .tuple ds,v => ∃ (a : Addr) (xs : List V),v = .ref a∧a≠l∧H a = some (.tup xs)∧DtAll l H ds xs
  | .list ds,v => ∃ (a : Addr) (xs : List V),v = .ref a∧a≠l∧H a = some (.lst xs)∧DtAll l H ds xs
  | .dict _,_ => False
def DtAll (l : Addr) (H : Hp) : List PyData→List V→Prop
  | [],xs => xs = []
  | d :: ds,xs => ∃ x r,xs = x :: r∧Dt l H d x∧DtAll l H ds r
end
mutual
theorem Dt.but {l : Addr} {H H' : Hp} (e : SameBut l H H') : ∀ {d : PyData} {v : V},Dt l H d v→Dt l H' d v
  | .none,_,h => by rw [Dt] at h ⊢; exact h
  | .bool _,_,h => by rw [Dt] at h ⊢; exact h
  | .int _,_,h => by rw [Dt] at h ⊢; exact h
  | .str _,_,h => by rw [Dt] at h ⊢; exact h
  | .tuple _,_,h => by
    rw [Dt] at h ⊢
    obtain ⟨a,xs,e1,n,h1,h2⟩:=h
    exact ⟨a,xs,e1,n,e _ _ n h1,DtAll.but e h2⟩
  | .list _,_,h => by
    rw [Dt] at h ⊢
    obtain ⟨a,xs,e1,n,h1,h2⟩:=h
    exact ⟨a,xs,e1,n,e _ _ n h1,DtAll.but e h2⟩
  | .dict _,_,h => by rw [Dt] at h; exact h.elim
theorem DtAll.but {l : Addr} {H H' : Hp} (e : SameBut l H H') : ∀ {ds : List PyData} {xs : List V},DtAll l H ds xs→DtAll l H' ds xs
  | [],_,h => by rw [DtAll] at h ⊢; exact h
  | _ :: _,_,h => by
    rw [DtAll] at h ⊢
    obtain ⟨x,r,e1,h1,h2⟩:=h
    exact ⟨x,r,e1,Dt.but e h1,DtAll.but e h2⟩
end
theorem Dt.same {l : Addr} {H H' : Hp} {d : PyData} {v : V} (h : Dt l H d v) (e : Same H H') : Dt l H' d v:=Dt.but (.of e) h
theorem DtAll.same {l : Addr} {H H' : Hp} {d : List PyData} {v : List V} (h : DtAll l H d v) (e : Same H H') : DtAll l H' d v:=DtAll.but (.of e) h
mutual
theorem Dt.br {K : PySem.W.Frag} {l : Addr} {H : Hp} : ∀ {d : PyData} {v : V},Dt l H d v→Br K H d v
  | .none,_,h => by rw [Dt] at h; rw [Br]; exact h
  | .bool _,_,h => by rw [Dt] at h; rw [Br]; exact h
  | .int _,_,h => by rw [Dt] at h; rw [Br]; exact h
  | .str _,_,h => by rw [Dt] at h; rw [Br]; exact h
  | .tuple _,_,h => by
    rw [Dt] at h; rw [Br]
    obtain ⟨a,xs,e1,n,h1,h2⟩:=h
    exact ⟨a,xs,e1,SqT.of h1,DtAll.br h2⟩
  | .list _,_,h => by
    rw [Dt] at h; rw [Br]
    obtain ⟨a,xs,e1,n,h1,h2⟩:=h
    exact ⟨a,xs,e1,SqL.of h1,DtAll.br h2⟩
  | .dict _,_,h => by rw [Dt] at h; exact h.elim
theorem DtAll.br {K : PySem.W.Frag} {l : Addr} {H : Hp} : ∀ {ds : List PyData} {xs : List V},DtAll l H ds xs→BrAll K H ds xs
  | [],_,h => by rw [DtAll] at h; rw [BrAll]; exact h
  | _ :: _,_,h => by
    rw [DtAll] at h; rw [BrAll]
    obtain ⟨x,r,e1,h1,h2⟩:=h
    exact ⟨x,r,e1,Dt.br h1,DtAll.br h2⟩
end
theorem DtAll.len {l : Addr} {H : Hp} : ∀ {ds : List PyData} {xs : List V},DtAll l H ds xs→xs.length = ds.length
  | [],_,h => by rw [DtAll] at h; rw [h]; rfl
  | _ :: _,_,h => by
    rw [DtAll] at h
    obtain ⟨x,r,rfl,_,h2⟩:=h
    rw [List.length_cons,List.length_cons,DtAll.len h2]
theorem DtAll.get {l : Addr} {H : Hp} : ∀ {ds : List PyData} {xs : List V} {i : Nat} {v : V},DtAll l H ds xs→xs[i]? = some v→∃ d,ds[i]? = some d∧Dt l H d v
  | [],_,i,v,h,e => by rw [DtAll] at h; subst h; simp at e
  | d :: ds,_,i,v,h,e => by
    rw [DtAll] at h
    obtain ⟨x,r,rfl,h1,h2⟩:=h
    cases i with
    | zero => simp at e; subst e; exact ⟨d,rfl,h1⟩
    | succ i =>
      obtain ⟨c,q1,q2⟩:=h2.get (i:=i) (v:=v) (by simpa using e)
      exact ⟨c,by simpa using q1,q2⟩
theorem DtAll.nil {l : Addr} {H : Hp} : DtAll l H [] [] := by rw [DtAll]
theorem DtAll.cons {l : Addr} {H : Hp} {d : PyData} {ds : List PyData} {x : V} {xs : List V} (h : Dt l H d x) (k : DtAll l H ds xs) : DtAll l H (d :: ds) (x :: xs) := by
  rw [DtAll]; exact ⟨x,xs,rfl,h,k⟩
theorem Dt.int {l : Addr} {H : Hp} {i : Int} : Dt l H (.int i) (.int i) := by rw [Dt]
theorem Dt.tup {l a : Addr} {H : Hp} {ds : List PyData} {xs : List V} (n : a≠l) (h : H a = some (.tup xs)) (k : DtAll l H ds xs) : Dt l H (.tuple ds) (.ref a) := by rw [Dt]; exact ⟨a,xs,rfl,n,h,k⟩
theorem Dt.lst {l a : Addr} {H : Hp} {ds : List PyData} {xs : List V} (n : a≠l) (h : H a = some (.lst xs)) (k : DtAll l H ds xs) : Dt l H (.list ds) (.ref a) := by rw [Dt]; exact ⟨a,xs,rfl,n,h,k⟩
def Ok (n : Nat) (d : PyData) : Prop:=d.canLay0 = true∧d.depth≤n
def OkAll (n : Nat) (ds : List PyData) : Prop:=PyData.canLayAll0 ds = true∧PyData.depthAll ds≤n
theorem Ok.shaped {n : Nat} {d : PyData} (h : Ok n d) (hn : n≤64) : SeqAt.shaped d = true := by
  unfold SeqAt.shaped
  rw [h.1,Bool.true_and]
  exact decide_eq_true (Nat.le_trans h.2 hn)
theorem OkAll.nil {n : Nat} : OkAll n []:=⟨by simp [PyData.canLayAll0],by simp [PyData.depthAll]⟩
theorem OkAll.cons {n : Nat} {d : PyData} {ds : List PyData} (h : Ok n d) (k : OkAll n ds) : OkAll n (d :: ds):=⟨by simp [PyData.canLayAll0,h.1,k.1],by simp only [PyData.depthAll]; exact Nat.max_le.mpr ⟨h.2,k.2⟩⟩
theorem OkAll.of {n : Nat} : ∀ {ds : List PyData},(∀ d∈ds,Ok n d)→OkAll n ds
  | [],_ => .nil
  | d :: ds,h => .cons (h d List.mem_cons_self) (OkAll.of fun e he => h e (List.mem_cons_of_mem _ he))
theorem Ok.tup {n : Nat} {ds : List PyData} (h : OkAll n ds) : Ok (n + 1) (.tuple ds):=⟨by simp only [PyData.canLay0]; exact h.1,by simp only [PyData.depth]; exact Nat.succ_le_succ h.2⟩
theorem Ok.lst {n : Nat} {ds : List PyData} (h : OkAll n ds) : Ok (n + 1) (.list ds):=⟨by simp only [PyData.canLay0]; exact h.1,by simp only [PyData.depth]; exact Nat.succ_le_succ h.2⟩
theorem Ok.int {n : Nat} {i : Int} : Ok n (.int i):=⟨by simp [PyData.canLay0],by simp [PyData.depth]⟩
theorem Ok.bool {n : Nat} {b : Bool} : Ok n (.bool b):=⟨by simp [PyData.canLay0],by simp [PyData.depth]⟩
theorem Ok.non {n : Nat} : Ok n .none:=⟨by simp [PyData.canLay0],by simp [PyData.depth]⟩
theorem Ok.str {n : Nat} {x : Str} (h : PyData.strOk x = true) : Ok n (.str x):=⟨by simp [PyData.canLay0,h],by simp [PyData.depth]⟩
mutual
theorem eqv_self : ∀ d : PyData,d.canLay0 = true→PyData.eqv d d = true
  | .none,_ => by simp [PyData.eqv]
  | .bool _,_ => by simp [PyData.eqv]
  | .int _,_ => by simp [PyData.eqv]
  | .str _,_ => by simp [PyData.eqv]
  | .tuple ds,h => by simp only [PyData.eqv]; exact eqvAll_self ds (by simpa only [PyData.canLay0] using h)
  | .list ds,h => by simp only [PyData.eqv]; exact eqvAll_self ds (by simpa only [PyData.canLay0] using h)
  | .dict _,h => by simp [PyData.canLay0] at h
theorem eqvAll_self : ∀ ds : List PyData,PyData.canLayAll0 ds = true→PyData.eqvAll ds ds = true
  | [],_ => by simp [PyData.eqvAll]
  | d :: ds,h => by
    simp only [PyData.canLayAll0,Bool.and_eq_true] at h
    simp only [PyData.eqvAll,eqv_self d h.1,eqvAll_self ds h.2,Bool.and_self]
end
def tyOf : PyData→String
  | .none => "NoneType"
  | .bool _ => "bool"
  | .int _ => "int"
  | .str _ => "str"
  | .tuple _ => "tuple"
  | .list _ => "list"
  | .dict _ => "dict"
theorem Dt.ty {K : PySem.W.Frag} {l : Addr} {H : Hp} : ∀ {d : PyData} {v : V},Dt l H d v→TyOf K H v (.type (tyOf d))
  | .none,_,h => by rw [Dt] at h; subst h; exact .non
  | .bool _,_,h => by rw [Dt] at h; subst h; exact .bl _
  | .int _,_,h => by rw [Dt] at h; subst h; exact .int _
  | .str _,_,h => by rw [Dt] at h; subst h; exact .str _
  | .tuple _,_,h => by rw [Dt] at h; obtain ⟨a,xs,rfl,_,h1,_⟩:=h; exact .tup h1
  | .list _,_,h => by rw [Dt] at h; obtain ⟨a,xs,rfl,_,h1,_⟩:=h; exact .lst h1
  | .dict _,_,h => by rw [Dt] at h; exact h.elim
def isTupD : PyData→Bool
  | .tuple _ => true
  | _ => false
def isLstD : PyData→Bool
  | .list _ => true
  | _ => false
def isIntD : PyData→Bool
  | .int _ => true
  | .bool _ => true
  | _ => false
def isBoolD : PyData→Bool
  | .bool _ => true
  | _ => false
theorem kit_tupD (K : PySem.W.Frag) : ∀ d : PyData,(∀ kv,d≠.dict kv)→PySem.W.kitOne K (.type (tyOf d)) (.type "tuple") = some (isTupD d)
  | .none,_ => kit_nt K
  | .bool _,_ => kit_bt K
  | .int _,_ => kit_it K
  | .str _,_ => kit_st K
  | .tuple _,_ => kit_tt K
  | .list _,_ => kit_lt K
  | .dict kv,h => absurd rfl (h kv)
theorem kit_lstD (K : PySem.W.Frag) : ∀ d : PyData,(∀ kv,d≠.dict kv)→PySem.W.kitOne K (.type (tyOf d)) (.type "list") = some (isLstD d)
  | .none,_ => kit_nl K
  | .bool _,_ => kit_bl K
  | .int _,_ => kit_il K
  | .str _,_ => kit_sl K
  | .tuple _,_ => kit_tl K
  | .list _,_ => kit_ll K
  | .dict kv,h => absurd rfl (h kv)
theorem kit_nb (K : PySem.W.Frag) : PySem.W.kitOne K (.type "NoneType") (.type "bool") = some false := by kernel_rfl
theorem kit_sb (K : PySem.W.Frag) : PySem.W.kitOne K (.type "str") (.type "bool") = some false := by kernel_rfl
theorem kit_tb (K : PySem.W.Frag) : PySem.W.kitOne K (.type "tuple") (.type "bool") = some false := by kernel_rfl
theorem kit_lb (K : PySem.W.Frag) : PySem.W.kitOne K (.type "list") (.type "bool") = some false := by kernel_rfl
theorem kit_intD (K : PySem.W.Frag) : ∀ d : PyData,(∀ kv,d≠.dict kv)→PySem.W.kitOne K (.type (tyOf d)) (.type "int") = some (isIntD d)
  | .none,_ => kit_ni K
  | .bool _,_ => kit_bi K
  | .int _,_ => kit_ii K
  | .str _,_ => kit_si K
  | .tuple _,_ => kit_ti K
  | .list _,_ => kit_li K
  | .dict kv,h => absurd rfl (h kv)
theorem kit_boolD (K : PySem.W.Frag) : ∀ d : PyData,(∀ kv,d≠.dict kv)→PySem.W.kitOne K (.type (tyOf d)) (.type "bool") = some (isBoolD d)
  | .none,_ => kit_nb K
  | .bool _,_ => kit_bb K
  | .int _,_ => kit_ib K
  | .str _,_ => kit_sb K
  | .tuple _,_ => kit_tb K
  | .list _,_ => kit_lb K
  | .dict kv,h => absurd rfl (h kv)
theorem Dt.nodict {l : Addr} {H : Hp} {d : PyData} {v : V} (h : Dt l H d v) : ∀ kv,d≠.dict kv:=fun kv z => by subst z; rw [Dt] at h; exact h
end L2
namespace L2
open PySem PySem.Spec PyProof.Rows
def leaf : PyData→Prop
  | .none => True
  | .bool _ => True
  | .int _ => True
  | .str x => PyData.strOk x = true
  | _ => False
def Sm : Nat→PyData→Prop
  | 0,d => leaf d
  | n + 1,d => leaf d∨∃ ds,(d = .tuple ds∨d = .list ds)∧ds.length≤60∧∀ e∈ds,Sm n e
theorem leaf.ok {n : Nat} : ∀ {d : PyData},leaf d→Ok n d
  | .none,_ => .non
  | .bool _,_ => .bool
  | .int _,_ => .int
  | .str _,h => .str h
theorem leaf.sm {n : Nat} {d : PyData} (h : leaf d) : Sm n d := by
  cases n with
  | zero => exact h
  | succ n => exact .inl h
theorem Sm.ok : ∀ {n : Nat} {d : PyData},Sm n d→Ok n d
  | 0,_,h => leaf.ok h
  | n + 1,d,h => by
    rcases h with h | ⟨ds,h1,_,h2⟩
    · exact h.ok
    · have:=OkAll.of fun e he => (h2 e he).ok
      rcases h1 with rfl | rfl
      · exact .tup this
      · exact .lst this
theorem Sm.tup {n : Nat} {ds : List PyData} (h : ds.length≤60) (k : ∀ e∈ds,Sm n e) : Sm (n + 1) (.tuple ds):=.inr ⟨ds,.inl rfl,h,k⟩
theorem Sm.lst {n : Nat} {ds : List PyData} (h : ds.length≤60) (k : ∀ e∈ds,Sm n e) : Sm (n + 1) (.list ds):=.inr ⟨ds,.inr rfl,h,k⟩
end L2
set_option maxHeartbeats 0
set_option maxHeartbeats 4000000
namespace TH
open PySem PySem.W PyProof.Rows PySem.SeqAt
theorem tup_ext {h h' : Heap} (k : GS.Ext h h') {a : Addr} {x : Array Value} (e : h.IsTuple a x) : h'.IsTuple a x:=let ⟨o,e1,c,n,d⟩:=e; ⟨o,k _ _ e1,c,n,d⟩
section
open PySem.MeetsSeq PySem.MeetsSeq2 PySem.MeetsSeq3
variable   {A : Around} {E : Value→Shared→Prop} {s : Shared}
def TupTup (h : Heap) (v : Value) : Prop:=∃ (a b : Addr) (xs : Array Value) (its : List Value),v = .ref a∧h.IsTuple a ((.ref b :: its).toArray)∧h.IsTuple b xs
theorem firsts_tt {M : Model} : ∀ (us : List Value) {Q : List (Option Value)→Shared→Prop},(∀ v∈us,TupTup s.heap v)→(∀ fs : List Value,fs.length = us.length→(∀ v∈fs,Looks M s.heap (typeOf v) (.type "tuple"))→Q (fs.map some) s)→wpAny M A (us.mapM firstOfTuple') Q E s
  | [],Q,_,h => by
    rw [List.mapM_nil]
    exact wpAny_pure (h [] rfl fun _ z => by cases z)
  | v :: us,Q,e,h => by
    obtain ⟨a,b,xs,its,rfl,h1,h2⟩:=e v List.mem_cons_self
    obtain ⟨o,ho,hc,n,hd⟩:=id h1
    rw [List.mapM_cons]
    refine wpAny_bind ?_
    rw [kas_first_eq]
    refine wpAny_bind (Looks.here (show Looks M s.heap (typeOf (.ref a)) o.cls from (Looks.ld ho).andThen .now) ?_)
    rw [hc,if_neg (by first | decide | simp)]
    refine wpAny_bind (listItems_at ho hd (wpAny_pure ?_))
    refine wpAny_bind (firsts_tt us (Q:=fun bs s' => wpAny M A (pure ((.ref b :: its).toArray[0]? :: bs)) Q E s') (fun v hv => e v (List.mem_cons_of_mem _ hv)) fun fs hl hfs => wpAny_pure ?_)
    have:=h (.ref b :: fs) (by simp [hl]) fun v hv => by
      rcases List.mem_cons.mp hv with rfl | hv
      · exact tuple_looks h2
      · exact hfs v hv
    simpa using this
theorem kind_tt {M : Model} {us : List Value} {Q : SortKind→Shared→Prop} (e : ∀ v∈us,TupTup s.heap v) (h : Q (tuples' false) s) : wpAny M A (keyKind' us.toArray) Q E s := by
  rw [kat_kind_eq,List.mapM_toArray,map_eq_pure_bind]
  refine wpAny_bind (wpAny_bind (firsts_tt us e fun fs hl hfs => wpAny_pure ?_))
  rw [if_pos (by simp)]
  refine wpAny_bind (wpAny_rule ?_)
  have e1 : ((fs.map some).toArray.filterMap id) = fs.toArray := by simp
  rw [e1]
  exact wpAny_bind (only_tr hfs (fun _ => wpAny_pure h) (wpAny_pure h))
end
end TH
namespace L2
open PySem PySem.Spec PyProof.Rows
abbrev tg2 (x y : Str) (px py : Pos) (tk : Nat) (tp : Pos) : Expr:=.Tuple [.Name x px,.Name y py] tk tp
theorem set_two {ix iy : Nat} (h : ix≠iy) (σ : St) (a b c d : Option V) : ((((σ.set ix a).set iy b).set ix c).set iy d) = (σ.set ix c).set iy d := by
  rw [List.set_comm _ _ h.symm,List.set_set,List.set_set]
def tComp2 (K : PySem.W.Frag) (wi : TI) (fr : List (Option Nat)) (ix iy : Nat) (tif : TT) (te : TE) : TE:=fun σ H Q => wi σ H fun J H1 => ∀ D,H1 D = none→∃ W : Nat→Nat→List V→Hp→Prop,(∃ m,W 0 m [] (upd H1 D (.lst []))) ∧
  ∀ i m ys H,W i m ys H→H D = some (.lst ys)∧((J.stop i H∧Q (.ref D) H)∨(J.go i H∧ys.length < sizeLine∧∀ x H',J.yld i H x H'→∃ a v1 v2,x = .ref a∧SqT K H' a [v1,v2] ∧
    tif (((carry fr σ).set ix (some v1)).set iy (some v2)) H' fun b H2 => if b = true then te (((carry fr σ).set ix (some v1)).set iy (some v2)) H2 fun y H3 => H3 D = some (.lst ys)∧∃ m',m' < m∧W (i + 1) m' (ys ++ [y]) (upd H3 D (.lst (ys ++ [y])))
      else ∃ m',m' < m∧W (i + 1) m' ys H2))
section
variable {X : Cx} {elt iter : Expr} {x y : Str} {px py tp pos : Pos} {tk : Nat} {ifs : List Expr} {scope : Scope} {wi : TI} {fr : List (Option Nat)} {ix iy : Nat} {tif : TT} {te : TE} {N : List Str}
theorem comp_block2 {pins : List (Addr×Obj)} {σ : St} {H2 : Hp} {s2 : Shared} {Q : VK} {it : Addr} {fp : List Addr} {tn : Nat→Heap→Prop} {J : It} {cl : List (Str×Addr)} {E : Value→Shared→Prop} {RR : Value→Addr→Result→Shared→Prop}
    (S : CompScope scope N x ix) (S2 : CompScope scope N y iy) (hxy : ix≠iy) (hcalm : X.calm = true) (hfr : frOk N X.N scope X.env.scope fr 0 = true) (hlen : fr.length = N.length)
    (hif : ∀ cl C s₀ H₀ fp,PIf (cxComp X scope cl N C s₀ H₀ fp) ifs tif) (he : ∀ cl C s₀ H₀ fp,PE (cxComp X scope cl N C s₀ H₀ fp) elt te)
    (I2 : Inv X pins σ H2 s2) (T : Turn X.prog X.w X.K (tg2 x y px py tk tp) J fp it tn) (st2 : tn 0 s2.heap) (f2 : ∀ b∈fp,FpOk X pins H2 b)
    (c1 : ∀ x c,cl.lookup x = some c→X.env.cells.lookup x = some c) (c2 : ∀ x∈scope.names,x.2 = NameKind.free→∃ c,cl.lookup x.1 = some c)
    (W : ∀ D,H2 D = none→∃ W : Nat→Nat→List V→Hp→Prop,(∃ m,W 0 m [] (upd H2 D (.lst []))) ∧
      ∀ i m ys H,W i m ys H→H D = some (.lst ys)∧((J.stop i H∧Q (.ref D) H)∨(J.go i H∧ys.length < sizeLine∧∀ x H',J.yld i H x H'→∃ a v1 v2,x = .ref a∧SqT X.K H' a [v1,v2] ∧
        tif (((carry fr σ).set ix (some v1)).set iy (some v2)) H' fun b H2 => if b = true then te (((carry fr σ).set ix (some v1)).set iy (some v2)) H2 fun y H3 => H3 D = some (.lst ys)∧∃ m',m' < m∧W (i + 1) m' (ys ++ [y]) (upd H3 D (.lst (ys ++ [y])))
          else ∃ m',m' < m∧W (i + 1) m' ys H2)))
    (fin : ∀ (D C : Addr) (s' : Shared) (H' : Hp) m,s'.heap.Ns C m→Q (.ref D) H'→(∀ h',Heap.SameBut C s'.heap h'→Inv X pins σ H' { s' with heap:=h' })→C≠D→(∀ b o,s2.heap.get? b = some o→b≠C)→H' C = none→s2.heap.objs.size≤C→RR (.ref D) C (.ok .next) s') :
    wpAny (model X.prog X.w) X.A (newList []) (fun acc s₃ => wpAny (model X.prog X.w) X.A (newFunctionEnv scope X.env.globals cl [] X.env.qual none .none (some X.env)) (fun cenv s₄ =>
      codeAny (model X.prog X.w) X.A (.compStart (.ListComp elt [⟨tg2 x y px py tk tp,iter,ifs,0⟩] scope pos) 0 (.ref it) acc { cenv with scope:=relabel scope X.env }) (RR acc cenv.locals) s₄) E s₃) E s2 := by
  have hxv : (relabel scope X.env).names.lookup x = some .local:=lookup_relabel_local S.loc
  have hyv : (relabel scope X.env).names.lookup y = some .local:=lookup_relabel_local S2.loc
  refine comp_blockG (g:=gTup X.K 2 (gCons (gName ix) (gCons (gName iy) gNil))) S hcalm (fun σ' => ∀ v w,(σ'.set ix v).set iy w = ((carry fr σ).set ix v).set iy w) (fun _ _ => rfl) (fun C => pg_tup (X:=cxComp X scope cl N C s2 H2 fp) hcalm (pgs_cons (pg_name (X:=cxComp X scope cl N C s2 H2 fp) S.nd S.at_ (.inl hxv) (.inr hxv)) (pgs_cons (pg_name (X:=cxComp X scope cl N C s2 H2 fp) S2.nd S2.at_ (.inl hyv) (.inr hyv)) pgs_nil))) hfr hlen hif he I2 T st2 f2 c1 c2 (fun D hD => ?_) fin
  obtain ⟨W,w0,st⟩:=W D hD
  refine ⟨W,w0,fun i m ys H w => ?_⟩
  obtain ⟨h1,h2 | ⟨h2,h3,h4⟩⟩:=st i m ys H w
  · exact ⟨h1,.inl h2⟩
  · refine ⟨h1,.inr ⟨h2,h3,fun x H' hy σ' hr => ?_⟩⟩
    obtain ⟨a,v1,v2,rfl,hs,q⟩:=h4 x H' hy
    rw [← hr] at q
    exact ⟨a,[v1,v2],rfl,hs,rfl,v1,[v2],rfl,v2,[],rfl,rfl,fun v w => by rw [set_two hxy,hr],q⟩
theorem pe_comp2 (S : CompScope scope N x ix) (S2 : CompScope scope N y iy) (hxy : ix≠iy) (hcalm : X.calm = true) (hfr : frOk N X.N scope X.env.scope fr 0 = true) (hlen : fr.length = N.length) (hfree : ∀ y∈scope.names,y.2 = .free→X.env.scope.names.lookup y.1 = some .cell∨X.env.scope.names.lookup y.1 = some .free)
    (hi : PI X (tg2 x y px py tk tp) iter wi) (hif : ∀ cl C s₀ H₀ fp,PIf (cxComp X scope cl N C s₀ H₀ fp) ifs tif) (he : ∀ cl C s₀ H₀ fp,PE (cxComp X scope cl N C s₀ H₀ fp) elt te)
    (hs : ∀ x,foldedSetIterable iter X.env x = pure x := by intro _; rfl) : PE X (.ListComp elt [⟨tg2 x y px py tk tp,iter,ifs,0⟩] scope pos) (tComp2 X.K wi fr ix iy tif te) := by
  intro pins s σ H Q I hw
  obtain ⟨cl,hclos,c1,_,c2⟩:=closure_of (env:=X.env) scope.names [] (fun y hy hf => I.ok.has y.1 (hfree y hy hf)) (fun y c z => by cases z)
  have hclos' : closureFor scope X.env = pure cl := by
    have e : closureFor scope X.env = ((forIn scope.names [] (fun (x : Str×NameKind) (r : List (Str×Addr)) => do if (x.2 == NameKind.free) = true then do let a ← cellOf X.env x.1; pure (ForInStep.yield ((x.1,a) :: r)) else pure (ForInStep.yield r)) : Sem (List (Str×Addr))) >>= fun cs => pure cs):=rfl
    rw [e,hclos]
    rfl
  rw [eval_ListComp]
  refine wpAny_comprehension_free (use:=none) rfl hs hclos' S.kind S.names (thn (hi pins s σ H _ I hw) fun v s1 h1 => thn h1 fun itv s2 h2 => ?_)
  obtain ⟨it,fp,tn,J,H2,e,I2,T,st2,f2,W⟩:=h2
  subst e
  refine comp_block2 (RR:=fun acc C => compPost (model X.prog X.w) X.A X.xe none (EP X pins σ Q) acc C) S S2 hxy hcalm hfr hlen hif he I2 T st2 f2 c1 c2 W ?_
  intro D C s' H' m hn q hI _ _ _ _
  exact ⟨m,hn,fun h' hs' => ⟨.ref D,H',hI h' hs',rfl,q⟩⟩
theorem ps_setComp2 {i : Nat} {z : Str} {pz spos : Pos} (hN : X.N.Nodup) (hy : X.N[i]? = some z) (hly : X.env.scope.names.lookup z = some .local) (S : CompScope scope N x ix) (S2 : CompScope scope N y iy) (hxy : ix≠iy) (hcalm : X.calm = true) (hfr : frOk N X.N scope X.env.scope fr 0 = true) (hlen : fr.length = N.length)
    (hfree : ∀ y∈scope.names,y.2 = .free→X.env.scope.names.lookup y.1 = some .cell∨X.env.scope.names.lookup y.1 = some .free)
    (hi : PI X (tg2 x y px py tk tp) iter wi) (hif : ∀ cl C s₀ H₀ fp,PIf (cxComp X scope cl N C s₀ H₀ fp) ifs tif) (he : ∀ cl C s₀ H₀ fp,PE (cxComp X scope cl N C s₀ H₀ fp) elt te)
    (hsw : swapsWith (.ListComp elt [⟨tg2 x y px py tk tp,iter,ifs,0⟩] scope pos) (some (.Name z pz)) spos.line X.env = pure true := by rfl)
    (hs : ∀ x,foldedSetIterable iter X.env x = pure x := by intro _; rfl) :
    PS X (.Assign [.Name z pz] (.ListComp elt [⟨tg2 x y px py tk tp,iter,ifs,0⟩] scope pos) spos) (tAsg (tComp2 X.K wi fr ix iy tif te) (gName i)) := by
  intro pins s σ H D I hw
  obtain ⟨cl,hclos,c1,_,c2⟩:=closure_of (env:=X.env) scope.names [] (fun y hy hf => I.ok.has y.1 (hfree y hy hf)) (fun y c z => by cases z)
  have hclos' : closureFor scope X.env = pure cl := by
    have e : closureFor scope X.env = ((forIn scope.names [] (fun (x : Str×NameKind) (r : List (Str×Addr)) => do if (x.2 == NameKind.free) = true then do let a ← cellOf X.env x.1; pure (ForInStep.yield ((x.1,a) :: r)) else pure (ForInStep.yield r)) : Sem (List (Str×Addr))) >>= fun cs => pure cs):=rfl
    rw [e,hclos]
    rfl
  rw [exec_Assign_Name_used _ _ _ _ hsw]
  refine wpAny_bind (wpAny_standAt (wpAny_bind ?_))
  show wpAny _ X.A (do let _ ← comprehension (.ListComp elt [⟨tg2 x y px py tk tp,iter,ifs,0⟩] scope pos) scope X.env _ (newList []) false (eval iter X.env) (some (assign (.Name z pz) X.env))) _ _ s
  refine wpAny_bind (wpAny_mono (wpAny_comprehension_free (use:=some (assign (.Name z pz) X.env)) (Q:=fun _ s' => SP X pins D .next s') rfl hs hclos' S.kind S.names
    (thn (hi pins s σ H _ I hw) fun v s1 h1 => thn h1 fun itv s2 h2 => ?_)) (fun _ s' hq => wpAny_pure (wpAny_pure hq)) fun _ _ e => e)
  obtain ⟨it,fp,tn,J,H2,e,I2,T,st2,f2,W⟩:=h2
  subst e
  refine comp_block2 (Q:=fun x H1 => gName i x σ H1 D.nx) (RR:=fun acc C => compPost (model X.prog X.w) X.A X.xe (some (assign (.Name z pz) X.env)) (fun _ s' => SP X pins D .next s') acc C) S S2 hxy hcalm hfr hlen hif he I2 T st2 f2 c1 c2 W ?_
  intro D' C s' H' m hn q hI hCD hold hfreeC hsz
  have I5 : Inv X pins σ H' s':=hI s'.heap (Heap.SameBut.refl ..)
  refine wpAny_assign_Name (store_ok2 I5 hN hy (.inl hly) (v:=.ref D') rfl (fun s'' I6 ⟨a,hsb,ha⟩ => ?_) (.inr hly))
  have hL : C≠X.env.locals:=fun z => by
    obtain ⟨_,⟨o,_,_,e,_⟩,_⟩:=I2.loc
    exact hold _ _ e z.symm
  have hcl : ∀ z c,X.env.cells.lookup z = some c→c≠C:=fun z c e => by
    obtain ⟨_,o,ho,_⟩:=I2.cell z c e
    exact hold _ _ ho
  have hCa : C≠a := by
    rcases ha with z | z
    · rw [z]; exact hL
    · exact Ne.symm (hcl _ _ z)
  refine ⟨m,hn.sameBut hsb hCa,fun h' hs' => ⟨_,H',I6.turned (t':=s''.toks) (it:=C) (fun b o hb e => (hs'.2 b hb).trans e) hfreeC hL (.inr (Nat.le_trans I2.sz hsz)) hcl fun p hp => ?_,q⟩⟩
  obtain ⟨e,_⟩:=I2.pin p hp
  exact hold _ _ e
end
section
variable {X : Cx} {elt iter : Expr} {x y : Str} {px py tp pos : Pos} {tk : Nat} {ifs : List Expr} {scope : Scope} {wi : TI} {tif : TT} {te : TE}
theorem pe_compr2 (N : List Str) (ix iy : Nat) (fr : List (Option Nat)) (hi : PI X (tg2 x y px py tk tp) iter wi) (hif : ∀ cl C s₀ H₀ fp,PIf (cxComp X scope cl N C s₀ H₀ fp) ifs tif) (he : ∀ cl C s₀ H₀ fp,PE (cxComp X scope cl N C s₀ H₀ fp) elt te)
    (h1 : compScopeOk scope N x ix = true := by decide +kernel) (h1' : compScopeOk scope N y iy = true := by decide +kernel) (hxy : ix≠iy := by decide) (h2 : X.calm = true := by rfl) (h3 : frOk N X.N scope X.env.scope fr 0 = true := by rfl) (h4 : fr.length = N.length := by rfl) (h5 : freeOk X.env.scope scope.names = true := by rfl)
    (hs : ∀ x,foldedSetIterable iter X.env x = pure x := by intro _; rfl) : PE X (.ListComp elt [⟨.Tuple [.Name x px,.Name y py] tk tp,iter,ifs,0⟩] scope pos) (tComp2 X.K wi fr ix iy tif te) :=
  pe_comp2 (compScope_of h1) (compScope_of h1') hxy h2 h3 h4 (freeOk_of h5) hi hif he hs
theorem ps_setCompr2 {i : Nat} {z : Str} {pz spos : Pos} (N : List Str) (ix iy : Nat) (fr : List (Option Nat)) (hN : X.N.Nodup) (hy : X.N[i]? = some z) (hly : X.env.scope.names.lookup z = some .local)
    (hi : PI X (tg2 x y px py tk tp) iter wi) (hif : ∀ cl C s₀ H₀ fp,PIf (cxComp X scope cl N C s₀ H₀ fp) ifs tif) (he : ∀ cl C s₀ H₀ fp,PE (cxComp X scope cl N C s₀ H₀ fp) elt te)
    (h1 : compScopeOk scope N x ix = true := by decide +kernel) (h1' : compScopeOk scope N y iy = true := by decide +kernel) (hxy : ix≠iy := by decide) (h2 : X.calm = true := by rfl) (h3 : frOk N X.N scope X.env.scope fr 0 = true := by rfl) (h4 : fr.length = N.length := by rfl) (h5 : freeOk X.env.scope scope.names = true := by rfl)
    (hsw : swapsWith (.ListComp elt [⟨.Tuple [.Name x px,.Name y py] tk tp,iter,ifs,0⟩] scope pos) (some (.Name z pz)) spos.line X.env = pure true := by rfl)
    (hs : ∀ x,foldedSetIterable iter X.env x = pure x := by intro _; rfl) : PS X (.Assign [.Name z pz] (.ListComp elt [⟨.Tuple [.Name x px,.Name y py] tk tp,iter,ifs,0⟩] scope pos) spos) (tAsg (tComp2 X.K wi fr ix iy tif te) (gName i)) :=
  ps_setComp2 hN hy hly (compScope_of h1) (compScope_of h1') hxy h2 h3 h4 (freeOk_of h5) hi hif he hsw hs
end
theorem comp_by2 {K : PySem.W.Frag} {J : It} {n : Nat} {D : Addr} {H1 : Hp} {fr : List (Option Nat)} {σ : St} {ix iy : Nat} {tif : TT} {te : TE} {G : Hp→Prop} (Pv : Nat→List V→Hp→Prop) (h0 : Pv 0 [] (upd H1 D (.lst [])))
    (hgo : ∀ i ys H,i < n→Pv i ys H→H D = some (.lst ys)→J.go i H∧ys.length < sizeLine∧∀ x H',J.yld i H x H'→∃ a v1 v2,x = .ref a∧SqT K H' a [v1,v2] ∧
      tif (((carry fr σ).set ix (some v1)).set iy (some v2)) H' fun b H2 => if b = true then te (((carry fr σ).set ix (some v1)).set iy (some v2)) H2 fun y H3 => H3 D = some (.lst ys)∧∃ m',m' < n - i∧CW Pv n D (i + 1) m' (ys ++ [y]) (upd H3 D (.lst (ys ++ [y])))
        else ∃ m',m' < n - i∧CW Pv n D (i + 1) m' ys H2)
    (hstop : ∀ ys H,Pv n ys H→H D = some (.lst ys)→J.stop n H∧G H) :
    ∃ W : Nat→Nat→List V→Hp→Prop,(∃ m,W 0 m [] (upd H1 D (.lst []))) ∧
      ∀ i m ys H,W i m ys H→H D = some (.lst ys)∧((J.stop i H∧G H)∨(J.go i H∧ys.length < sizeLine∧∀ x H',J.yld i H x H'→∃ a v1 v2,x = .ref a∧SqT K H' a [v1,v2] ∧
        tif (((carry fr σ).set ix (some v1)).set iy (some v2)) H' fun b H2 => if b = true then te (((carry fr σ).set ix (some v1)).set iy (some v2)) H2 fun y H3 => H3 D = some (.lst ys)∧∃ m',m' < m∧W (i + 1) m' (ys ++ [y]) (upd H3 D (.lst (ys ++ [y])))
          else ∃ m',m' < m∧W (i + 1) m' ys H2)) := by
  refine ⟨CW Pv n D,⟨n,by simp,Nat.zero_le _,upd_same,h0⟩,?_⟩
  rintro i m ys H ⟨rfl,hi,hH,p⟩
  refine ⟨hH,?_⟩
  by_cases hlt : i < n
  · exact .inr (hgo i ys H hlt p hH)
  · have : i = n := by lia
    subst this
    exact .inl (hstop ys H p hH)
end L2
namespace ZT
open PySem PyProof.Rows
structure Apart (z TI TO i1 i2 : Addr) (f1 f2 : List Addr) : Prop where
  a1 : TI≠z∧TI≠TO∧TI≠i1∧TI≠i2
  a2 : TO≠z∧TO≠i1∧TO≠i2
  a3 : i1≠z∧i2≠z∧i1≠i2
  b1 : z ∉ f1∧TO ∉ f1∧i2 ∉ f1
  b2 : z ∉ f2∧TO ∉ f2∧i1 ∉ f2
section
variable {prog : Program} {w : World} {A : Around} {E : Value→Shared→Prop} {s : Shared} {z TI TO i1 i2 : Addr} {f1 f2 : List Addr} {n1 n2 k : Nat} {P1 P2 : Nat→Value→Prop} {S1 S2 : Nat→Heap→Prop} {a b : Value}
theorem keep_in {f : List Addr} {x : Addr} {h h' : Heap} (hx : x ∉ f) (e : Heap.SameBut x h h') : ∀ c∈f,∀ o,h.get? c = some o→h'.get? c = some o:=fun c hc o q => (e.2 c fun y => hx (y ▸ hc)).trans q
theorem item {Q : Value→Shared→Prop} (D1 : Draws prog w A i1 f1 n1 P1 S1) (D2 : Draws prog w A i2 f2 n2 P2 S2) (ap : Apart z TI TO i1 i2 f1 f2) (hz : IsZip s.heap z TI TO .none) (hI : IsPair s.heap TI (.ref i1) (.ref i2)) (hO : IsPair s.heap TO a b)
    (t1 : S1 k s.heap) (t2 : S2 k s.heap) (l1 : k < n1) (l2 : k < n2)
    (q : ∀ x y h' tk,P1 k x→P2 k y→IsZip h' z TI TO (rawInt s.heap.objs.size)→IsPair h' TO x y→S1 (k + 1) h'→S2 (k + 1) h'→IsPair h' s.heap.objs.size x y→h'.objs.size = s.heap.objs.size + 1 →
      (∀ c o,c≠z→c≠TO→c≠i1→c≠i2→s.heap.get? c = some o→h'.get? c = some o)→Q (.ref s.heap.objs.size) { s with heap:=h',toks:=tk }) :
    wpAny (model prog w) A (Builtin.«zip.__next__» ⟨[.ref z],[]⟩) (fun fin s' => ∃ v,fin = .done (.ret v)∧Q v s') E s := by
  obtain ⟨⟨c1,c2,c3,c4⟩,⟨c5,c6,c7⟩,⟨c8,c9,c10⟩,⟨d1,d2,d3⟩,d4,d5,d6⟩:=ap
  show wpAny _ _ (field (.ref z) 2 >>= _) _ _ _
  refine wpAny_bind (wpAny_field hz rfl (x:=.bool false) rfl ?_)
  show wpAny _ _ (field (.ref z) 3 >>= _) _ _ _
  refine wpAny_bind (wpAny_field hz rfl (x:=.ref TI) rfl (wpAny_bind (wpAny_seqItems hI rfl ?_)))
  show wpAny _ _ (Builtin.SmallTypes.ownedTupleIsFree (.ref z) >>= _) _ _ _
  unfold Builtin.SmallTypes.ownedTupleIsFree
  refine wpAny_bind (wpAny_bind (wpAny_field hz rfl (x:=.none) rfl (wpAny_pure ?_)))
  simp only [if_true]
  refine wpAny_bind (wpAny_rule (wpAny_bind (wpAny_field hz rfl (x:=.ref TO) rfl (wpAny_bind (wpAny_setField_rec hz (by simp) fun g1 z1 m1 => wpAny_bind ?_)))))
  have m1 : Heap.SameBut z s.heap g1:=m1
  have z1 : IsZip g1 z TI TO .ellipsis:=z1
  simp only [List.zipIdx_cons,List.zipIdx_nil,List.forIn_cons,List.forIn_nil]
  refine wpAny_bind (wpAny_bind (wpAny_onRaise ?_))
  show wpAny _ _ (Builtin.SmallTypes.nextOf (.ref i1) >>= _) _ _ _
  refine wpAny_bind (D1.item k _ _ _ l1 (D1.frame _ _ _ t1 (keep_in d1 m1)) fun x g2 tk2 p1 u1 m2 => wpAny_pure ?_)
  have o2 : IsPair g2 TO a b:=(m2.2 _ c6).trans ((m1.2 _ c5).trans hO)
  refine wpAny_bind (wpAny_seqItems o2 rfl (wpAny_bind (wpAny_updateSeq_pair o2 fun g3 o3 m3 => wpAny_bind (wpAny_letGo (wpAny_pure ?_)))))
  have o3 : IsPair g3 TO x b:=o3
  have t2' : S2 k g3:=D2.frame _ _ _ (D2.frame _ _ _ (D2.frame _ _ _ t2 (keep_in d4 m1)) (keep_in d6 m2)) (keep_in d5 m3)
  refine wpAny_bind (wpAny_bind (wpAny_onRaise ?_))
  show wpAny _ _ (Builtin.SmallTypes.nextOf (.ref i2) >>= _) _ _ _
  refine wpAny_bind (D2.item k _ _ _ l2 t2' fun y g4 tk4 p2 u2 m4 => wpAny_pure ?_)
  have m3 : Heap.SameBut TO g2 g3:=m3
  have m4 : Heap.SameBut i2 g3 g4:=m4
  have o4 : IsPair g4 TO x b:=(m4.2 _ c7).trans o3
  refine wpAny_bind (wpAny_seqItems o4 rfl (wpAny_bind (wpAny_updateSeq_pair o4 fun g5 o5 m5 => wpAny_bind (wpAny_letGo (wpAny_pure (wpAny_pure ?_))))))
  have m5 : Heap.SameBut TO g4 g5:=m5
  have o5 : IsPair g5 TO x y:=o5
  refine wpAny_bind (wpAny_seqItems o5 rfl (wpAny_bind (wpAny_newTuple ?_)))
  have m2 : Heap.SameBut i1 g1 g2:=m2
  have sz : g5.objs.size = s.heap.objs.size := by rw [m5.1,m4.1,m3.1,m2.1,m1.1]
  have z5 : IsZip g5 z TI TO .ellipsis:=(m5.2 _ c5.symm).trans ((m4.2 _ c9.symm).trans ((m3.2 _ c5.symm).trans ((m2.2 _ c8.symm).trans z1)))
  have kp : ∀ c o,c≠z→c≠TO→c≠i1→c≠i2→s.heap.get? c = some o→g5.get? c = some o:=fun c o e1 e2 e3 e4 e => (m5.2 _ e2).trans ((m4.2 _ e4).trans ((m3.2 _ e2).trans ((m2.2 _ e3).trans ((m1.2 _ e1).trans e))))
  have v1 : S1 (k + 1) g5:=D1.frame _ _ _ (D1.frame _ _ _ (D1.frame _ _ _ u1 (keep_in d2 m3)) (keep_in d3 m4)) (keep_in d2 m5)
  have v2 : S2 (k + 1) g5:=D2.frame _ _ _ u2 (keep_in d5 m5)
  show wpAny _ _ (Builtin.SmallTypes.ownedTupleHandOut (.ref z) (.ref g5.objs.size) >>= _) _ _ _
  unfold Builtin.SmallTypes.ownedTupleHandOut
  have z6 : IsZip (g5.push { cls:=.type "tuple",data:=.seq #[x,y] }) z TI TO .ellipsis:=Heap.get?_push_of_some _ z5
  refine wpAny_bind (wpAny_bind (wpAny_setField_rec z6 (by simp) fun g7 z7 m7 => wpAny_setField_rec (show IsZip g7 z TI TO (rawInt g5.objs.size) from z7) (by simp) fun g8 z8 m8 => ?_))
  have z8 : IsZip g8 z TI TO (rawInt g5.objs.size):=z8
  have up : ∀ c o,c≠z→(g5.push { cls:=.type "tuple",data:=.seq #[x,y] }).get? c = some o→g8.get? c = some o:=fun c o e1 e => (m8.2 _ e1).trans ((m7.2 _ e1).trans e)
  have zl : z < g5.objs.size:=Heap.lt_size z5
  refine wpAny_pure ⟨_,rfl,?_⟩
  show Q (.ref g5.objs.size) _
  have fin:=q x y g8 tk4 p1 p2 (by rw [← sz]; exact z8) (up _ _ c5 (Heap.get?_push_of_some _ o5)) (D1.frame _ _ _ v1 fun c hc o e => up c o (fun y => d1 (y ▸ hc)) (Heap.get?_push_of_some _ e)) (D2.frame _ _ _ v2 fun c hc o e => up c o (fun y => d4 (y ▸ hc)) (Heap.get?_push_of_some _ e))
    (by rw [← sz]; exact up _ _ (Nat.ne_of_gt zl) (Heap.get?_push_size _ rfl)) (by rw [← sz,m8.1,m7.1,Heap.size_push]) fun c o e1 e2 e3 e4 e => up c o e1 (Heap.get?_push_of_some _ (kp c o e1 e2 e3 e4 e))
  rw [sz]
  exact fin
theorem ended {Q : Fin→Shared→Prop} (D1 : Draws prog w A i1 f1 n1 P1 S1) (D2 : Draws prog w A i2 f2 n2 P2 S2) (ap : Apart z TI TO i1 i2 f1 f2) (hz : IsZip s.heap z TI TO .none) (hI : IsPair s.heap TI (.ref i1) (.ref i2)) (hO : IsPair s.heap TO a b)
    (t1 : S1 k s.heap) (t2 : S2 k s.heap) (he : k = n1∨(k < n1∧k = n2))
    (q : ∀ h' e tk,(∀ c o,c≠z→c≠TO→c≠i1→c≠i2→s.heap.get? c = some o→h'.get? c = some o)→(∃ o,h'.get? e = some o∧o.cls = .type "StopIteration")→E (.ref e) { s with heap:=h',toks:=tk }) :
    wpAny (model prog w) A (Builtin.«zip.__next__» ⟨[.ref z],[]⟩) Q E s := by
  obtain ⟨⟨c1,c2,c3,c4⟩,⟨c5,c6,c7⟩,⟨c8,c9,c10⟩,⟨d1,d2,d3⟩,d4,d5,d6⟩:=ap
  show wpAny _ _ (field (.ref z) 2 >>= _) _ _ _
  refine wpAny_bind (wpAny_field hz rfl (x:=.bool false) rfl ?_)
  show wpAny _ _ (field (.ref z) 3 >>= _) _ _ _
  refine wpAny_bind (wpAny_field hz rfl (x:=.ref TI) rfl (wpAny_bind (wpAny_seqItems hI rfl ?_)))
  show wpAny _ _ (Builtin.SmallTypes.ownedTupleIsFree (.ref z) >>= _) _ _ _
  unfold Builtin.SmallTypes.ownedTupleIsFree
  refine wpAny_bind (wpAny_bind (wpAny_field hz rfl (x:=.none) rfl (wpAny_pure ?_)))
  simp only [if_true]
  refine wpAny_bind (wpAny_rule (wpAny_bind (wpAny_field hz rfl (x:=.ref TO) rfl (wpAny_bind (wpAny_setField_rec hz (by simp) fun g1 z1 m1 => wpAny_bind ?_)))))
  have m1 : Heap.SameBut z s.heap g1:=m1
  have z1 : IsZip g1 z TI TO .ellipsis:=z1
  simp only [List.zipIdx_cons,List.zipIdx_nil,List.forIn_cons,List.forIn_nil]
  refine wpAny_bind (wpAny_bind (wpAny_onRaise ?_))
  show wpAny _ _ (Builtin.SmallTypes.nextOf (.ref i1) >>= _) _ _ _
  have t1':=D1.frame _ _ _ t1 (keep_in d1 m1)
  rcases he with he | ⟨he1,he2⟩
  · rw [he] at t1'
    refine wpAny_bind (D1.done _ _ _ t1' fun g2 e m2 ho => ?_)
    obtain ⟨o,ho,hc⟩:=ho
    have z2 : IsZip g2 z TI TO .ellipsis:=m2 _ _ c8.symm z1
    have ez : e≠z:=fun y => by subst y; rw [z2] at ho; cases ho; simp at hc
    exact wpAny_setField_rec z2 (by simp) fun g3 _ m3 => q g3 e _ (fun c o e1 e2 e3 e4 y => (m3.2 _ e1).trans (m2 _ _ e3 ((m1.2 _ e1).trans y))) ⟨o,(m3.2 _ ez).trans ho,hc⟩
  · refine wpAny_bind (D1.item k _ _ _ he1 t1' fun x g2 tk2 p1 u1 m2 => wpAny_pure ?_)
    have o2 : IsPair g2 TO a b:=(m2.2 _ c6).trans ((m1.2 _ c5).trans hO)
    refine wpAny_bind (wpAny_seqItems o2 rfl (wpAny_bind (wpAny_updateSeq_pair o2 fun g3 o3 m3 => wpAny_bind (wpAny_letGo (wpAny_pure ?_)))))
    have t2' : S2 k g3:=D2.frame _ _ _ (D2.frame _ _ _ (D2.frame _ _ _ t2 (keep_in d4 m1)) (keep_in d6 m2)) (keep_in d5 m3)
    rw [he2] at t2'
    have m2 : Heap.SameBut i1 g1 g2:=m2
    have m3 : Heap.SameBut TO g2 g3:=m3
    refine wpAny_bind (wpAny_bind (wpAny_onRaise ?_))
    show wpAny _ _ (Builtin.SmallTypes.nextOf (.ref i2) >>= _) _ _ _
    refine wpAny_bind (D2.done _ _ _ t2' fun g4 e m4 ho => ?_)
    obtain ⟨o,ho,hc⟩:=ho
    have z4 : IsZip g4 z TI TO .ellipsis:=m4 _ _ c9.symm ((m3.2 _ c5.symm).trans ((m2.2 _ c8.symm).trans z1))
    have ez : e≠z:=fun y => by subst y; rw [z4] at ho; cases ho; simp at hc
    exact wpAny_setField_rec z4 (by simp) fun g5 _ m5 => q g5 e _ (fun c o e1 e2 e3 e4 y => (m5.2 _ e1).trans (m4 _ _ e4 ((m3.2 _ e2).trans ((m2.2 _ e3).trans ((m1.2 _ e1).trans y))))) ⟨o,(m5.2 _ ez).trans ho,hc⟩
theorem next_item {Q : Option Value→Shared→Prop} (D1 : Draws prog w A.in1 i1 f1 n1 P1 S1) (D2 : Draws prog w A.in1 i2 f2 n2 P2 S2) (ap : Apart z TI TO i1 i2 f1 f2) (hz : IsZip s.heap z TI TO .none) (hI : IsPair s.heap TI (.ref i1) (.ref i2)) (hO : IsPair s.heap TO a b)
    (t1 : S1 k s.heap) (t2 : S2 k s.heap) (l1 : k < n1) (l2 : k < n2)
    (q : ∀ x y h' tk,P1 k x→P2 k y→IsZip h' z TI TO (rawInt s.heap.objs.size)→IsPair h' TO x y→S1 (k + 1) h'→S2 (k + 1) h'→IsPair h' s.heap.objs.size x y→h'.objs.size = s.heap.objs.size + 1 →
      (∀ c o,c≠z→c≠TO→c≠i1→c≠i2→s.heap.get? c = some o→h'.get? c = some o)→Q (some (.ref s.heap.objs.size)) { s with heap:=h',toks:=tk }) :
    wpAny (model prog w) A (pyNext (.ref z)) Q E s := by
  have hT : s.TypeIs (.ref z) "zip" := ⟨_,hz,rfl⟩
  unfold pyNext
  exact wpAny_bind (wpAny_attempt (wpAny_callSpecial?_slot (name:=Str.ofString "__next__") hT F.slot_zip_next
    (wpAny_call_entry F.slot_zip_next hT F.entry_zip_next (item D1 D2 ap hz hI hO t1 t2 l1 l2 fun x y h' tk r1 r2 r3 r4 r5 r6 r7 r8 r9 => wpAny_pure (q x y h' tk r1 r2 r3 r4 r5 r6 r7 r8 r9)) (F.args_zip_next_1 _))))
theorem next_end {Q : Option Value→Shared→Prop} (D1 : Draws prog w A.in1 i1 f1 n1 P1 S1) (D2 : Draws prog w A.in1 i2 f2 n2 P2 S2) (ap : Apart z TI TO i1 i2 f1 f2) (hz : IsZip s.heap z TI TO .none) (hI : IsPair s.heap TI (.ref i1) (.ref i2)) (hO : IsPair s.heap TO a b)
    (t1 : S1 k s.heap) (t2 : S2 k s.heap) (he : k = n1∨(k < n1∧k = n2))
    (q : ∀ h' tk,(∀ c o,c≠z→c≠TO→c≠i1→c≠i2→s.heap.get? c = some o→h'.get? c = some o)→Q none { s with heap:=h',toks:=tk }) :
    wpAny (model prog w) A (pyNext (.ref z)) Q E s := by
  have hT : s.TypeIs (.ref z) "zip" := ⟨_,hz,rfl⟩
  unfold pyNext
  refine wpAny_bind (wpAny_attempt (wpAny_callSpecial?_slot (name:=Str.ofString "__next__") hT F.slot_zip_next
    (wpAny_call_entry F.slot_zip_next hT F.entry_zip_next (ended D1 D2 ap hz hI hO t1 t2 he fun h' e tk kp ho => ?_) (F.args_zip_next_1 _))))
  obtain ⟨o,ho,hc⟩:=ho
  exact wpAny_bind (wpAny_isInstance (T := "StopIteration") (b:=true) ⟨o,ho,hc⟩ isSubtype_stop (wpAny_pure (q _ _ kp)))
end
end ZT
namespace ZT
open PySem PyProof.Rows
def Sq (b : Bool) (h : Heap) (l : Addr) (xs : List Value) : Prop:=if b then h.IsTuple l xs.toArray else h.IsList l xs.toArray
def itO (b : Bool) (l : Addr) : Obj:=if b then { cls:=.type "tuple_iterator",data:=.fields #[.ref l,.int 0 0] } else { cls:=.type "list_iterator",data:=.fields #[.ref l,.int 0 0] }
def It1 (b : Bool) (h : Heap) (it l : Addr) (k : Nat) : Prop:=if b then h.IsTupleIter it l k else h.IsListIter it l k
theorem Sq.push {b : Bool} {h : Heap} {l : Addr} {xs : List Value} (o : Obj) (x : Sq b h l xs) : Sq b (h.push o) l xs := by
  cases b with
  | true => obtain ⟨u,e,r⟩:=(show h.IsTuple l xs.toArray from x); exact (show (h.push o).IsTuple l xs.toArray from ⟨u,Heap.get?_push_of_some _ e,r⟩)
  | false => obtain ⟨u,e,r⟩:=(show h.IsList l xs.toArray from x); exact (show (h.push o).IsList l xs.toArray from ⟨u,Heap.get?_push_of_some _ e,r⟩)
section
variable {prog : Program} {w : World} {A : Around} {E : Value→Shared→Prop} {s : Shared}
theorem iter_sq {b : Bool} {l : Addr} {xs : List Value} {Q : Value→Shared→Prop} (x : Sq b s.heap l xs) (h : Q (.ref s.heap.objs.size) { s with heap:=s.heap.push (itO b l) }) : wpAny (model prog w) A (pyIter (.ref l)) Q E s := by
  cases b with
  | true => exact wpAny_pyIter_tuple x h
  | false => exact wpAny_pyIter_list x h
theorem draws_sq (hh : A.handled = none) (b : Bool) (it l : Addr) (xs : List Value) (hne : l≠it) : Draws prog w A it [it,l] xs.length (fun i v => xs[i]? = some v) (fun i h => It1 b h it l i∧Sq b h l xs) := by
  cases b with
  | true => exact ET.draws hh it l xs hne
  | false =>
    have:=Draws.list (prog:=prog) (w:=w) hh it l hne xs.toArray
    simpa [It1,Sq] using this
def zh (b1 b2 : Bool) (h : Heap) (l1 l2 : Addr) : Heap :=
  ((((h.push (itO b1 l1)).push (itO b2 l2)).push { cls:=.type "tuple",data:=.seq #[.ref h.objs.size,.ref (h.push (itO b1 l1)).objs.size] }).push { cls:=.type "tuple",data:=.seq #[.none,.none] }).push
    { cls:=.type "zip",data:=.fields #[.none,.bool false,.bool false,.ref ((h.push (itO b1 l1)).push (itO b2 l2)).objs.size,.ref (((h.push (itO b1 l1)).push (itO b2 l2)).push { cls:=.type "tuple",data:=.seq #[.ref h.objs.size,.ref (h.push (itO b1 l1)).objs.size] }).objs.size] }
theorem new_zip (b1 b2 : Bool) (l1 l2 : Addr) (xs ys : List Value) :
    Meets (Builtin.«zip.__new__» ⟨[.type "zip",.ref l1,.ref l2],[]⟩) (fun _ R s => Sq b1 s.heap l1 xs∧Sq b2 s.heap l2 ys ∧
      R (.ok (.ret (.ref ((((s.heap.push (itO b1 l1)).push (itO b2 l2)).push { cls:=.type "tuple",data:=.seq #[.ref s.heap.objs.size,.ref (s.heap.push (itO b1 l1)).objs.size] }).push { cls:=.type "tuple",data:=.seq #[.none,.none] }).objs.size)) ) { s with heap:=zh b1 b2 s.heap l1 l2 }) :=
  .of_wp fun prog w A R s h => by
    obtain ⟨hp,g,d,tk,os⟩:=s; obtain ⟨h1,h2,h⟩:=h
    have hsub:=sub_zip
    have i1 : ∀ (A : Around) (E : Value→Shared→Prop) (Q : Value→Shared→Prop),Q (.ref hp.objs.size) ⟨hp.push (itO b1 l1),g,d,tk,os⟩→wpAny (model prog w) A (pyIter (.ref l1)) Q E ⟨hp,g,d,tk,os⟩:=fun A E Q q => iter_sq (s:=⟨hp,g,d,tk,os⟩) h1 q
    have i2 : ∀ (A : Around) (E : Value→Shared→Prop) (Q : Value→Shared→Prop),Q (.ref (hp.push (itO b1 l1)).objs.size) ⟨(hp.push (itO b1 l1)).push (itO b2 l2),g,d,tk,os⟩→wpAny (model prog w) A (pyIter (.ref l2)) Q E ⟨hp.push (itO b1 l1),g,d,tk,os⟩:=fun A E Q q => iter_sq (s:=⟨hp.push (itO b1 l1),g,d,tk,os⟩) (h2.push _) q
    wp_walk using i1,i2
    exact ⟨_,rfl,h⟩
theorem call_zip {b1 b2 : Bool} {l1 l2 : Addr} {xs ys : List Value} {Q : Value→Shared→Prop} (h1 : Sq b1 s.heap l1 xs) (h2 : Sq b2 s.heap l2 ys)
    (h : ∀ h',IsZip h' (s.heap.objs.size + 4) (s.heap.objs.size + 2) (s.heap.objs.size + 3) .none→IsPair h' (s.heap.objs.size + 2) (.ref s.heap.objs.size) (.ref (s.heap.objs.size + 1))→IsPair h' (s.heap.objs.size + 3) .none .none →
      It1 b1 h' s.heap.objs.size l1 0→It1 b2 h' (s.heap.objs.size + 1) l2 0→(∀ c o,s.heap.get? c = some o→h'.get? c = some o)→Q (.ref (s.heap.objs.size + 4)) { s with heap:=h' }) :
    wpAny (model prog w) A (call (.type "zip") [.ref l1,.ref l2]) Q E s := by
  refine callType_new F.called_zip (by decide) (F.typeCall_zip_2 _ _) (F.newCall_zip_2 _ _) (fun obj => F.args_object_init_3 obj _ _) F.entry_zip_new (new_zip b1 b2 l1 l2 xs ys) ⟨h1,h2,?_⟩
  have n1 : (s.heap.push (itO b1 l1)).objs.size = s.heap.objs.size + 1:=Heap.size_push ..
  have up : ∀ (g : Heap) (o : Obj) (c : Addr) (u : Obj),g.get? c = some u→(g.push o).get? c = some u:=fun g o c u e => Heap.get?_push_of_some _ e
  have a0 : (s.heap.push (itO b1 l1)).get? s.heap.objs.size = some (itO b1 l1):=Heap.get?_push_size _ (by cases b1 <;> rfl)
  generalize hg1 : s.heap.push (itO b1 l1) = g1 at n1 a0
  have k1 : ∀ c o,s.heap.get? c = some o→g1.get? c = some o:=fun c o e => by rw [← hg1]; exact up _ _ _ _ e
  have n2 : (g1.push (itO b2 l2)).objs.size = s.heap.objs.size + 2 := by rw [Heap.size_push,n1]
  have a1 : (g1.push (itO b2 l2)).get? (s.heap.objs.size + 1) = some (itO b2 l2) := by rw [← n1]; exact Heap.get?_push_size _ (by cases b2 <;> rfl)
  generalize hg2 : g1.push (itO b2 l2) = g2 at n2 a1
  have k2 : ∀ c o,g1.get? c = some o→g2.get? c = some o:=fun c o e => by rw [← hg2]; exact up _ _ _ _ e
  have n3 : (g2.push { cls:=.type "tuple",data:=.seq #[.ref s.heap.objs.size,.ref (s.heap.objs.size + 1)] }).objs.size = s.heap.objs.size + 3 := by rw [Heap.size_push,n2]
  have a2 : IsPair (g2.push { cls:=.type "tuple",data:=.seq #[.ref s.heap.objs.size,.ref (s.heap.objs.size + 1)] }) (s.heap.objs.size + 2) (.ref s.heap.objs.size) (.ref (s.heap.objs.size + 1)) := by rw [← n2]; exact Heap.get?_push_size _ rfl
  generalize hg3 : g2.push { cls:=.type "tuple",data:=.seq #[.ref s.heap.objs.size,.ref (s.heap.objs.size + 1)] } = g3 at n3 a2
  have k3 : ∀ c o,g2.get? c = some o→g3.get? c = some o:=fun c o e => by rw [← hg3]; exact up _ _ _ _ e
  have n4 : (g3.push { cls:=.type "tuple",data:=.seq #[.none,.none] }).objs.size = s.heap.objs.size + 4 := by rw [Heap.size_push,n3]
  have a3 : IsPair (g3.push { cls:=.type "tuple",data:=.seq #[.none,.none] }) (s.heap.objs.size + 3) .none .none := by rw [← n3]; exact Heap.get?_push_size _ rfl
  generalize hg4 : g3.push { cls:=.type "tuple",data:=.seq #[.none,.none] } = g4 at n4 a3
  have k4 : ∀ c o,g3.get? c = some o→g4.get? c = some o:=fun c o e => by rw [← hg4]; exact up _ _ _ _ e
  have ez : zh b1 b2 s.heap l1 l2 = g4.push { cls:=.type "zip",data:=.fields #[.none,.bool false,.bool false,.ref (s.heap.objs.size + 2),.ref (s.heap.objs.size + 3)] } := by
    unfold zh
    rw [hg1,hg2,n1,hg3,hg4,n2,n3]
  have a4 : IsZip (g4.push { cls:=.type "zip",data:=.fields #[.none,.bool false,.bool false,.ref (s.heap.objs.size + 2),.ref (s.heap.objs.size + 3)] }) (s.heap.objs.size + 4) (s.heap.objs.size + 2) (s.heap.objs.size + 3) .none := by rw [← n4]; exact Heap.get?_push_size _ rfl
  rw [n1,hg3,hg4,n4,ez]
  show _∧_
  have k5 : ∀ c o,g4.get? c = some o→(g4.push { cls:=.type "zip",data:=.fields #[.none,.bool false,.bool false,.ref (s.heap.objs.size + 2),.ref (s.heap.objs.size + 3)] }).get? c = some o:=fun c o e => up _ _ _ _ e
  refine ⟨⟨_,a4,rfl⟩,h _ a4 (k5 _ _ (k4 _ _ a2)) (k5 _ _ a3) ?_ ?_ fun c o e => k5 _ _ (k4 _ _ (k3 _ _ (k2 _ _ (k1 _ _ e))))⟩
  · have:=k5 _ _ (k4 _ _ (k3 _ _ (k2 _ _ a0)))
    cases b1 with
    | true => exact ⟨_,this,rfl,rfl⟩
    | false => exact ⟨_,this,rfl,rfl⟩
  · have:=k5 _ _ (k4 _ _ (k3 _ _ a1))
    cases b2 with
    | true => exact ⟨_,this,rfl,rfl⟩
    | false => exact ⟨_,this,rfl,rfl⟩
end
end ZT
namespace L2
open PySem PySem.Spec PyProof.Rows
def SqH (b : Bool) (H : Hp) (a : Addr) (xs : List V) : Prop:=if b then H a = some (.tup xs) else H a = some (.lst xs)
theorem SqH.inj {b : Bool} {H : Hp} {a : Addr} {xs ys : List V} (h : SqH b H a xs) (k : SqH b H a ys) : xs = ys := by
  cases b with
  | true => have h : H a = some (.tup xs):=h; have k : H a = some (.tup ys):=k; rw [h] at k; cases k; rfl
  | false => have h : H a = some (.lst xs):=h; have k : H a = some (.lst ys):=k; rw [h] at k; cases k; rfl
theorem SqH.none {b : Bool} {H : Hp} {a c : Addr} {xs : List V} (h : SqH b H a xs) (k : H c = none) : a≠c:=fun z => by
  subst z
  cases b with
  | true => have h : H a = some (.tup xs):=h; rw [k] at h; cases h
  | false => have h : H a = some (.lst xs):=h; rw [k] at h; cases h
theorem SqH.raw {X : Cx} {pins : List (Addr×Obj)} {σ : St} {H : Hp} {s : Shared} (I : Inv X pins σ H s) {b : Bool} {a : Addr} {xs : List V} (h : SqH b H a xs) : ∃ its,Vals xs its∧ZT.Sq b s.heap a its := by
  cases b with
  | true =>
    obtain ⟨its,rv,p,_⟩:=I.tuple (SqT.of (K:=X.K) (show H a = some (.tup xs) from h))
    exact ⟨its,rv,p⟩
  | false =>
    obtain ⟨its,rv,p,_⟩:=I.list (SqL.of (K:=X.K) (show H a = some (.lst xs) from h))
    exact ⟨its,rv,p.isList⟩
def Itz (b1 b2 : Bool) (a1 a2 : Addr) : It :=
  ⟨fun i H => ∃ xs x ys y,SqH b1 H a1 xs∧SqH b2 H a2 ys∧xs[i]? = some x∧ys[i]? = some y,
   fun i H v H' => ∃ p x y,v = .ref p∧H p = none∧H' = upd H p (.tup [x,y])∧(∀ xs,SqH b1 H a1 xs→xs[i]? = some x)∧∀ ys,SqH b2 H a2 ys→ys[i]? = some y,
   fun i H => ∃ xs ys,SqH b1 H a1 xs∧SqH b2 H a2 ys∧(i = xs.length∨(i < xs.length∧i = ys.length))⟩
def tnZ (b1 b2 : Bool) (a1 a2 z TI TO i1 i2 : Addr) : Nat→Heap→Prop:=fun i h => IsZip h z TI TO .none∧IsPair h TI (.ref i1) (.ref i2)∧(∃ a b,IsPair h TO a b)∧ZT.It1 b1 h i1 a1 i∧ZT.It1 b2 h i2 a2 i
theorem it1_obj {b : Bool} {h : Heap} {it l : Addr} {k : Nat} (x : ZT.It1 b h it l k) : ∃ o,h.get? it = some o∧∀ v,o.data≠.cell v := by
  cases b with
  | true => obtain ⟨o,e,_,d⟩:=(show h.IsTupleIter it l k from x); exact ⟨o,e,fun v z => by rw [d] at z; cases z⟩
  | false => obtain ⟨o,e,_,d⟩:=(show h.IsListIter it l k from x); exact ⟨o,e,fun v z => by rw [d] at z; cases z⟩
theorem it1_keep {b : Bool} {h h' : Heap} {it l : Addr} {k : Nat} (x : ZT.It1 b h it l k) (e : ∀ o,h.get? it = some o→h'.get? it = some o) : ZT.It1 b h' it l k := by
  cases b with
  | true => obtain ⟨o,q,r⟩:=(show h.IsTupleIter it l k from x); exact (show h'.IsTupleIter it l k from ⟨o,e _ q,r⟩)
  | false => obtain ⟨o,q,r⟩:=(show h.IsListIter it l k from x); exact (show h'.IsListIter it l k from ⟨o,e _ q,r⟩)
theorem turn_zip {P : Program} {w : World} {K : PySem.W.Frag} {elts : List Expr} {x1} {pos : Pos} {b1 b2 : Bool} {a1 a2 z TI TO i1 i2 : Addr} (ne : [z,TI,TO,i1,i2].Nodup) :
    Turn P w K (.Tuple elts x1 pos) (Itz b1 b2 a1 a2) [z,TI,TO,i1,i2] z (tnZ b1 b2 a1 a2 z TI TO i1 i2) where
  mem := by simp
  obj:=fun i h st b hb => by
    obtain ⟨h1,h2,⟨u,v,h3⟩,h4,h5⟩:=st
    have hb : b = z∨b = TI∨b = TO∨b = i1∨b = i2 := by simpa using hb
    rcases hb with rfl | rfl | rfl | rfl | rfl
    · exact ⟨_,h1,fun v y => by cases y⟩
    · exact ⟨_,h2,fun v y => by cases y⟩
    · exact ⟨_,h3,fun v y => by cases y⟩
    · exact it1_obj h4
    · exact it1_obj h5
  keep:=fun i h h' st k => by
    obtain ⟨h1,h2,⟨u,v,h3⟩,h4,h5⟩:=st
    exact ⟨k z (by simp) _ h1,k TI (by simp) _ h2,⟨u,v,k TO (by simp) _ h3⟩,it1_keep h4 fun o e => k i1 (by simp) o e,it1_keep h5 fun o e => k i2 (by simp) o e⟩
  item := by
    intro X hP hw hK hc i pins s σ H E I hf st hg
    subst hP hw hK
    obtain ⟨xs,x,ys,y,q1,q2,hx,hy⟩:=hg
    obtain ⟨us,rv1,p1⟩:=q1.raw I
    obtain ⟨vs,rv2,p2⟩:=q2.raw I
    obtain ⟨u,hu,ru⟩:=rv1.get hx
    obtain ⟨v,hv,rv⟩:=rv2.get hy
    obtain ⟨t1,t2,⟨ta,tb,t3⟩,t4,t5⟩:=st
    have e1 : ∀ b∈[z,TI,TO,i1,i2],a1≠b:=fun b hb => q1.none (hf b hb).1
    have e2 : ∀ b∈[z,TI,TO,i1,i2],a2≠b:=fun b hb => q2.none (hf b hb).1
    simp only [List.nodup_cons,List.mem_cons,List.not_mem_nil,or_false,not_or] at ne
    obtain ⟨⟨n1,n2,n3,n4⟩,⟨n5,n6,n7⟩,⟨n8,n9⟩,n10,_⟩:=ne
    have ap : ZT.Apart z TI TO i1 i2 [i1,a1] [i2,a2]:=⟨⟨Ne.symm n1,n5,n6,n7⟩,⟨Ne.symm n2,n8,n9⟩,⟨Ne.symm n3,Ne.symm n4,n10⟩,
      ⟨by simp [n3,Ne.symm (e1 z (by simp))],by simp [n8,Ne.symm (e1 TO (by simp))],by simp [Ne.symm n10,Ne.symm (e1 i2 (by simp))]⟩,⟨by simp [n4,Ne.symm (e2 z (by simp))],by simp [n9,Ne.symm (e2 TO (by simp))],by simp [n10,Ne.symm (e2 i1 (by simp))]⟩⟩
    refine ZT.next_item (ZT.draws_sq (prog:=X.prog) (w:=X.w) (A:=X.A.in1) (I.ok.hd hc) b1 i1 a1 us (e1 i1 (by simp))) (ZT.draws_sq (prog:=X.prog) (w:=X.w) (A:=X.A.in1) (I.ok.hd hc) b2 i2 a2 vs (e2 i2 (by simp))) ap t1 t2 t3 ⟨t4,p1⟩ ⟨t5,p2⟩ (List.getElem?_eq_some_iff.mp hu).1 (List.getElem?_eq_some_iff.mp hv).1
      fun u' v' h' tk r1 r2 r3 r4 r5 r6 r7 r8 r9 => ⟨_,rfl,wpAny_letOwnedTupleGo_zip (s:={ s with heap:=h',toks:=tk }) r3 fun h'' z'' sb => ?_⟩
    rw [hu] at r1
    rw [hv] at r2
    cases r1
    cases r2
    have keep : ∀ b o,b ∉ [z,TI,TO,i1,i2]→s.heap.get? b = some o→h''.get? b = some o:=fun b o hb q => by
      simp only [List.mem_cons,List.not_mem_nil,or_false,not_or] at hb
      exact (sb.2 b hb.1).trans (r9 b o hb.1 hb.2.2.1 hb.2.2.2.1 hb.2.2.2.2 q)
    have lt : ∀ b∈[z,TI,TO,i1,i2],b < s.heap.objs.size:=fun b hb => by
      have hb : b = z∨b = TI∨b = TO∨b = i1∨b = i2 := by simpa using hb
      rcases hb with rfl | rfl | rfl | rfl | rfl
      · exact Heap.lt_size t1
      · exact Heap.lt_size t2
      · exact Heap.lt_size t3
      · obtain ⟨o,e,_⟩:=it1_obj t4; exact Heap.lt_size e
      · obtain ⟨o,e,_⟩:=it1_obj t5; exact Heap.lt_size e
    have hTn : H s.heap.objs.size = none:=I.hok.fresh (Nat.le_refl _)
    have hT'' : h''.get? s.heap.objs.size = some { cls:=.type "tuple",data:=.seq #[u,v] }:=(sb.2 _ (Nat.ne_of_gt (lt z (by simp)))).trans r7
    refine ⟨.ref s.heap.objs.size,upd H s.heap.objs.size (.tup [x,y]),?_,rfl,⟨_,x,y,rfl,hTn,rfl,fun zs hz => by rw [hz.inj q1]; exact hx,fun zs hz => by rw [hz.inj q2]; exact hy⟩,⟨z'',?_,⟨u,v,?_⟩,?_,?_⟩,fun b hb => ?_⟩
    · exact I.tupNew hf keep sz2 (.cons ru (.cons rv .nil)) hT''
    · exact (sb.2 _ (Ne.symm n1)).trans (r9 _ _ (Ne.symm n1) n5 n6 n7 t2)
    · exact (sb.2 _ (Ne.symm n2)).trans r4
    · exact it1_keep r5.1 fun o e => (sb.2 _ (Ne.symm n3)).trans e
    · exact it1_keep r6.1 fun o e => (sb.2 _ (Ne.symm n4)).trans e
    · rw [upd_ne (Nat.ne_of_lt (lt b hb))]
      exact (hf b hb).1
  done := by
    intro X hP hw hK hc i pins s σ H E I hf st hg
    subst hP hw hK
    obtain ⟨xs,ys,q1,q2,he⟩:=hg
    obtain ⟨us,rv1,p1⟩:=q1.raw I
    obtain ⟨vs,rv2,p2⟩:=q2.raw I
    obtain ⟨t1,t2,⟨ta,tb,t3⟩,t4,t5⟩:=st
    have e1 : ∀ b∈[z,TI,TO,i1,i2],a1≠b:=fun b hb => q1.none (hf b hb).1
    have e2 : ∀ b∈[z,TI,TO,i1,i2],a2≠b:=fun b hb => q2.none (hf b hb).1
    simp only [List.nodup_cons,List.mem_cons,List.not_mem_nil,or_false,not_or] at ne
    obtain ⟨⟨n1,n2,n3,n4⟩,⟨n5,n6,n7⟩,⟨n8,n9⟩,n10,_⟩:=ne
    have ap : ZT.Apart z TI TO i1 i2 [i1,a1] [i2,a2]:=⟨⟨Ne.symm n1,n5,n6,n7⟩,⟨Ne.symm n2,n8,n9⟩,⟨Ne.symm n3,Ne.symm n4,n10⟩,
      ⟨by simp [n3,Ne.symm (e1 z (by simp))],by simp [n8,Ne.symm (e1 TO (by simp))],by simp [Ne.symm n10,Ne.symm (e1 i2 (by simp))]⟩,⟨by simp [n4,Ne.symm (e2 z (by simp))],by simp [n9,Ne.symm (e2 TO (by simp))],by simp [n10,Ne.symm (e2 i1 (by simp))]⟩⟩
    have he' : i = us.length∨(i < us.length∧i = vs.length) := by rw [← rv1.length,← rv2.length]; exact he
    refine ZT.next_end (ZT.draws_sq (prog:=X.prog) (w:=X.w) (A:=X.A.in1) (I.ok.hd hc) b1 i1 a1 us (e1 i1 (by simp))) (ZT.draws_sq (prog:=X.prog) (w:=X.w) (A:=X.A.in1) (I.ok.hd hc) b2 i2 a2 vs (e2 i2 (by simp))) ap t1 t2 t3 ⟨t4,p1⟩ ⟨t5,p2⟩ he' fun h' tk kp => ⟨rfl,?_⟩
    have keep : ∀ b o,b ∉ [z,TI,TO,i1,i2]→s.heap.get? b = some o→h'.get? b = some o:=fun b o hb q => by
      simp only [List.mem_cons,List.not_mem_nil,or_false,not_or] at hb
      exact kp b o hb.1 hb.2.2.1 hb.2.2.2.1 hb.2.2.2.2 q
    exact I.turn hf keep
  self:=fun _ _ _ _ _ st h => wpAny_pyIter_zip st.1 h
def iZip (ta : TA) : TI:=fun σ H R => ta σ H fun vs H1 => ∃ (b1 b2 : Bool) (a1 a2 : Addr),vs = [.ref a1,.ref a2]∧(∃ xs,SqH b1 H1 a1 xs)∧(∃ ys,SqH b2 H1 a2 ys)∧R (Itz b1 b2 a1 a2) H1
theorem pi_zip {X : Cx} {elts : List Expr} {x1} {tpos : Pos} {a b : Expr} {ta : TA} {p pos : Pos} (hg : Gl X "zip") (hm : X.mg "zip" = none) (ha : PA X [a,b] ta) (hs : starEach [a,b] X.env = [(false,eval a X.env),(false,eval b X.env)] := by rfl) (hs2 : starEach [b] X.env = [(false,eval b X.env)] := by rfl) :
    PI X (.Tuple elts x1 tpos) (.Call (.Name "zip" p) [a,b] [] pos) (iZip ta) := by
  intro pins s σ H R I h
  refine Call_ (ld_blt I hg hm boot_zip (PyProof.Rows.callWith_type1 (thn (ha pos pins s σ H _ I h) fun us s1 ⟨vs,H1,I1,r1,q1⟩ => ?_) (by rw [hs,hs2]) (by rw [hs2]; rfl)))
  obtain ⟨b1,b2,l1,l2,e,⟨xs,h1⟩,⟨ys,h2⟩,q⟩:=q1
  subst e
  cases r1 with
  | cons r rr =>
    cases rr with
    | cons r' rr =>
      cases rr
      cases r
      cases r'
      obtain ⟨us,_,p1⟩:=h1.raw I1
      obtain ⟨vs,_,p2⟩:=h2.raw I1
      refine ZT.call_zip p1 p2 fun h' z1 z2 z3 z4 z5 hk => wpAny_pyIter_zip z1 ?_
      have I2 : Inv X pins σ H1 { s1 with heap:=h' }:=I1.kept (t':=s1.toks) hk
      refine ⟨_,[s1.heap.objs.size + 4,s1.heap.objs.size + 2,s1.heap.objs.size + 3,s1.heap.objs.size,s1.heap.objs.size + 1],_,_,H1,rfl,I2,turn_zip ?_,⟨z1,z2,⟨_,_,z3⟩,z4,z5⟩,fun b hb => ?_,q⟩
      · simp
      have hb' : s1.heap.objs.size≤b := by
        have hb2 : b = s1.heap.objs.size + 4∨b = s1.heap.objs.size + 2∨b = s1.heap.objs.size + 3∨b = s1.heap.objs.size∨b = s1.heap.objs.size + 1 := by simpa using hb
        rcases hb2 with h | h | h | h | h <;> rw [h] <;> first | exact Nat.le_refl _ | exact Nat.le_add_right _ _
      exact I1.fpOk hb' (I1.hok.fresh hb')
section
variable {κ : Type} [DecidableEq κ]
def valV (kvs : List (κ×V)) (k : κ) : Option V:=(kvs.find? fun kv => decide (kv.1 = k)).map (·.2)
def putK (kvs : List (κ×V)) (k : κ) (v : V) : List (κ×V) :=
  if (kvs.any fun kv => decide (kv.1 = k)) = true then kvs.map (fun kv => if kv.1 = k then (kv.1,v) else kv) else kvs ++ [(k,v)]
theorem valV_pos {p : κ×V} {r : List (κ×V)} {k : κ} (e : p.1 = k) : valV (p :: r) k = some p.2 := by simp [valV,List.find?_cons,e]
theorem valV_neg {p : κ×V} {r : List (κ×V)} {k : κ} (e : ¬ p.1 = k) : valV (p :: r) k = valV r k := by simp [valV,List.find?_cons,e]
theorem valV_any (k : κ) : ∀ kvs : List (κ×V),(kvs.any fun kv => decide (kv.1 = k)) = (valV kvs k).isSome
  | [] => rfl
  | p :: r => by
    rw [List.any_cons]
    by_cases e : p.1 = k
    · simp only [valV_pos e,decide_eq_true e,Bool.true_or,Option.isSome_some]
    · rw [valV_neg e,decide_eq_false e,Bool.false_or]; exact valV_any k r
theorem length_putK (kvs : List (κ×V)) (k : κ) (v : V) : (putK kvs k v).length≤kvs.length + 1 := by
  unfold putK
  split
  · rw [List.length_map]; lia
  · rw [List.length_append,List.length_cons,List.length_nil]; lia
theorem putK_new {kvs : List (κ×V)} {k : κ} (v : V) (h : valV kvs k = none) : putK kvs k v = kvs ++ [(k,v)] := by
  unfold putK
  rw [valV_any,h]
  exact if_neg (by decide)
theorem RelO.isSome_eq {o : Option V} {u : Option Value} (r : RelO o u) : o.isSome = u.isSome := by
  cases o with
  | none => cases u with
    | none => rfl
    | some _ => exact (show False from r).elim
  | some _ => cases u with
    | none => exact (show False from r).elim
    | some _ => rfl
theorem RelO.getD {o : Option V} {u : Option Value} {d : V} {d' : Value} (r : RelO o u) (rd : RelV d d') : RelV (o.getD d) (u.getD d') := by
  cases o with
  | none => cases u with
    | none => exact rd
    | some _ => exact (show False from r).elim
  | some _ => cases u with
    | none => exact (show False from r).elim
    | some _ => exact r
theorem KV.val {kvs : List (κ×V)} {vs : List (κ×Value)} (r : KV kvs vs) (k : κ) : RelO (valV kvs k) (valueAt vs k) := by
  unfold KV at r
  induction r with
  | nil => exact True.intro
  | @cons p q ps qs h t ih =>
    obtain ⟨h1,h2⟩:=h
    by_cases e : p.1 = k
    · have e' : q.1 = k:=h1.symm.trans e
      have b : valueAt (q :: qs) k = some q.2 := by simp [valueAt,List.find?_cons,e']
      rw [valV_pos e,b]; exact h2
    · have e' : ¬ q.1 = k:=fun z => e (h1.trans z)
      have b : valueAt (q :: qs) k = valueAt qs k := by simp [valueAt,List.find?_cons,e']
      rw [valV_neg e,b]; exact ih
theorem KV.any {kvs : List (κ×V)} {vs : List (κ×Value)} (r : KV kvs vs) (k : κ) : (kvs.any fun kv => decide (kv.1 = k)) = vs.any fun kv => decide (kv.1 = k) := by
  unfold KV at r
  induction r with
  | nil => rfl
  | cons h t ih => rw [List.any_cons,List.any_cons,ih,h.1]
theorem KV.repl {kvs : List (κ×V)} {vs : List (κ×Value)} (r : KV kvs vs) (k : κ) {y : V} {u : Value} (ry : RelV y u) :
    KV (kvs.map fun kv => if kv.1 = k then (kv.1,y) else kv) (vs.map fun kv => if kv.1 = k then (kv.1,u) else kv) := by
  unfold KV at r ⊢
  induction r with
  | nil => exact .nil
  | @cons p q ps qs h t ih =>
    rw [List.map_cons,List.map_cons]
    refine .cons ?_ ih
    obtain ⟨h1,h2⟩:=h
    by_cases e : p.1 = k
    · rw [if_pos e,if_pos (h1.symm.trans e)]; exact ⟨h1,ry⟩
    · rw [if_neg e,if_neg (fun z => e (h1.trans z))]; exact ⟨h1,h2⟩
theorem KV.put {kvs : List (κ×V)} {vs : List (κ×Value)} (r : KV kvs vs) (k : κ) {y : V} {u : Value} (ry : RelV y u) : KV (putK kvs k y) (stored vs k u) := by
  unfold putK stored
  rw [r.any k]
  by_cases e : (vs.any fun kv => decide (kv.1 = k)) = true
  · rw [if_pos e,if_pos e]; exact r.repl k ry
  · rw [if_neg e,if_neg e]; exact Paired.snoc r ⟨rfl,ry⟩
theorem KV.length {kvs : List (κ×V)} {vs : List (κ×Value)} (r : KV kvs vs) : kvs.length = vs.length:=Paired.length r
end
theorem kV_is {P : Program} {w : World} {k : Key} {u : Value} (r : RelV (kV k) u) : (mixKind P w).is k u = true := by
  cases k with
  | inl i => obtain ⟨t,e⟩:=(show ∃ t,u = Value.int i t from r); subst e; exact mixKind_int P w i t
  | inr x => obtain ⟨t,e⟩:=(show ∃ t,u = Value.str x t from r); subst e; exact mixKind_str P w x t
theorem items_are {P : Program} {w : World} : ∀ {ks : List Key} {us : List Value},Vals (ks.map kV) us→ItemsAre (mixKind P w) ks us
  | [],_,r => by rw [List.map_nil] at r; cases r; exact .nil
  | k :: ks,_,r => by
    rw [List.map_cons] at r
    cases r with
    | cons h t => exact .cons (kV_is h) (items_are t)
abbrev KT (H : Hp) : List (List Key×V)→List (List Key×Addr×Value)→Prop:=Paired fun p q => p.1 = q.1∧H q.2.1 = some (.tup (p.1.map kV))∧RelV p.2 q.2.2
theorem KT.val {H : Hp} {kvs : List (List Key×V)} {xs : List (List Key×Addr×Value)} (r : KT H kvs xs) (k : List Key) : RelO (valV kvs k) ((atKey xs k).map (·.2)) := by
  induction r with
  | nil => exact True.intro
  | @cons p q ps qs h t ih =>
    obtain ⟨h1,_,h2⟩:=h
    by_cases e : p.1 = k
    · have e' : q.1 = k:=h1.symm.trans e
      have b : atKey (q :: qs) k = some q.2 := by simp [atKey,List.find?_cons,e']
      rw [valV_pos e,b]; exact h2
    · have e' : ¬ q.1 = k:=fun z => e (h1.trans z)
      have b : atKey (q :: qs) k = atKey qs k := by simp [atKey,List.find?_cons,e']
      rw [valV_neg e,b]; exact ih
theorem KT.repl {H : Hp} {kvs : List (List Key×V)} {xs : List (List Key×Addr×Value)} (r : KT H kvs xs) (k : List Key) {y : V} {u : Value} (ry : RelV y u) :
    KT H (kvs.map fun kv => if kv.1 = k then (kv.1,y) else kv) (xs.map (putAt k u)) := by
  induction r with
  | nil => exact .nil
  | @cons p q ps qs h t ih =>
    rw [List.map_cons,List.map_cons]
    refine .cons ?_ ih
    obtain ⟨h1,h2,h3⟩:=h
    unfold putAt
    by_cases e : p.1 = k
    · rw [if_pos e,if_pos (h1.symm.trans e)]; exact ⟨h1,h2,ry⟩
    · rw [if_neg e,if_neg (fun z => e (h1.trans z))]; exact ⟨h1,h2,h3⟩
theorem KT.put {H : Hp} {kvs : List (List Key×V)} {xs : List (List Key×Addr×Value)} (r : KT H kvs xs) (k : List Key) {b : Addr} {y : V} {u : Value} (hb : H b = some (.tup (k.map kV))) (ry : RelV y u) :
    KT H (putK kvs k y) (storedH xs k b u) := by
  have e : (kvs.any fun kv => decide (kv.1 = k)) = (atKey xs k).isSome := by
    rw [valV_any,(r.val k).isSome_eq,Option.isSome_map]
  unfold putK storedH
  rw [e]
  by_cases q : (atKey xs k).isSome = true
  · rw [if_pos q,if_pos q]; exact r.repl k ry
  · rw [if_neg q,if_neg q]; exact Paired.snoc r ⟨rfl,hb,ry⟩
theorem KT.keeps {H H' : Hp} {kvs : List (List Key×V)} {xs : List (List Key×Addr×Value)} (r : KT H kvs xs) (ht : ∀ b ys,H b = some (.tup ys)→H' b = some (.tup ys)) : KT H' kvs xs :=
  Paired.mapP r fun _ _ z => ⟨z.1,ht _ _ z.2.1,z.2.2⟩
section
variable {P : Program} {w : World} {H : Hp} {h : Heap} {a : Addr}
theorem rd_of {u : HO} (ok : HOk P w H h) (e : Rd H a u) : ObjOk P w H h a u:=e.ok ok
theorem dk_rd {kvs : List (Key×V)} (ok : HOk P w H h) (e : Rd H a (.dK kvs)) : kvs.length≤sizeLine∧(a == sysModules) = false∧∃ vs,KV kvs vs∧h.DictOf (mixKind P w) a vs :=
  show ObjOk P w H h a (.dK kvs) from rd_of ok e
theorem dk_of {kvs : List (Key×V)} (ok : HOk P w H h) (e : H a = some (.dK kvs)) : kvs.length≤sizeLine∧(a == sysModules) = false∧∃ vs,KV kvs vs∧h.DictOf (mixKind P w) a vs:=dk_rd ok (.inl e)
theorem key_of {ks : List Key} (ok : HOk P w H h) (e : H a = some (.tup (ks.map kV))) : (tupleKind (mixKind P w)).is h ks a := by
  obtain ⟨_,its,r,o,h1,h2,n,h3⟩:=(show ObjOk P w H h a (.tup (ks.map kV)) from ok a _ e)
  exact ⟨o,its.toArray,n,h1,h2,h3,by simpa using items_are r⟩
theorem dt_rd {kvs : List (List Key×V)} (ok : HOk P w H h) (e : Rd H a (.dT kvs)) : kvs.length≤sizeLine∧(a == sysModules) = false ∧
    ∃ xs,KT H kvs xs∧h.DictOfH (tupleKind (mixKind P w)) a xs := by
  obtain ⟨z,y,xs,r,o,es,ep,h1,h2,h3,h4,h5⟩:=(show ObjOk P w H h a (.dT kvs) from rd_of ok e)
  refine ⟨z,y,xs,r,o,es,ep,h1,h2,h3,h4,fun x hx => ?_,h5⟩
  have all : ∀ {l : List (List Key×V)} {m : List (List Key×Addr×Value)},KT H l m→∀ x∈m,(tupleKind (mixKind P w)).is h x.1 x.2.1 := by
    intro l m q
    induction q with
    | nil => intro x hx; exact nomatch hx
    | @cons p q ps qs hq t ih =>
      intro x hx
      rcases List.mem_cons.mp hx with e | hx
      · subst e
        exact key_of ok (by rw [← hq.1]; exact hq.2.1)
      · exact ih x hx
  exact all r x hx
theorem dt_of {kvs : List (List Key×V)} (ok : HOk P w H h) (e : H a = some (.dT kvs)) : kvs.length≤sizeLine∧(a == sysModules) = false ∧
    ∃ xs,KT H kvs xs∧h.DictOfH (tupleKind (mixKind P w)) a xs:=dt_rd ok (.inl e)
end
def DGet (H : Hp) (a : Addr) (y : V) (r : Option V) : Prop :=
  (∃ kvs k,Rd H a (.dK kvs)∧y = kV k∧r = valV kvs k)∨∃ kvs k b,Rd H a (.dT kvs)∧y = .ref b∧H b = some (.tup (k.map kV))∧r = valV kvs k
def DPut (H : Hp) (a : Addr) (y v : V) (H' : Hp) : Prop :=
  (∃ kvs k,H a = some (.dK kvs)∧y = kV k∧kvs.length < sizeLine∧H' = upd H a (.dK (putK kvs k v))) ∨
  ∃ kvs k b,H a = some (.dT kvs)∧y = .ref b∧H b = some (.tup (k.map kV))∧kvs.length < sizeLine∧H' = upd H a (.dT (putK kvs k v))
theorem DGet.t {H : Hp} {a b : Addr} {kvs : List (List Key×V)} {k : List Key} (e : H a = some (.dT kvs)) (eb : H b = some (.tup (k.map kV))) : DGet H a (.ref b) (valV kvs k):=.inr ⟨kvs,k,b,.inl e,rfl,eb,rfl⟩
theorem DPut.t {H : Hp} {a b : Addr} {kvs : List (List Key×V)} {k : List Key} {v : V} (e : H a = some (.dT kvs)) (eb : H b = some (.tup (k.map kV))) (hl : kvs.length < sizeLine) :
    DPut H a (.ref b) v (upd H a (.dT (putK kvs k v))):=.inr ⟨kvs,k,b,e,rfl,eb,hl,rfl⟩
section
variable {X : Cx} {pins : List (Addr×Obj)} {σ : St} {H : Hp} {s : Shared} {a : Addr} {y v : V} {u r : Value} {o : Option V} {A : Around} {E : Value→Shared→Prop}
theorem Inv.big (I : Inv X pins σ H s) : sysModules < s.heap.objs.size := by
  have h : mainGlobals < s.heap.objs.size:=(I.mod.glob.keeps I.bk).lt
  exact Nat.lt_trans (by decide) h
theorem d_getItem {Q : Value→Shared→Prop} (hu : A.units + 1 < cLine) (I : Inv X pins σ H s) (g : DGet H a y (some v)) (ry : RelV y u) (h : ∀ w' s',Inv X pins σ H s'→RelV v w'→Q w' s') :
    wpAny (model X.prog X.w) A (getItem (.ref a) u) Q E s := by
  rcases g with ⟨kvs,k,e,ey,l⟩ | ⟨kvs,k,b,e,ey,eb,l⟩
  · subst ey
    obtain ⟨z,hd,vs,rel,dd⟩:=dk_rd I.hok e
    obtain ⟨w',hw,rw'⟩:=RelO.some_of (v:=v) (o:=valueAt vs k) (by rw [l]; exact rel.val k)
    exact wpAny_getItem_of (kV_is ry) dd.mapOf hw (h w' _ (I.tok _) rw')
  · subst ey
    cases (show u = Value.ref b from ry)
    obtain ⟨z,hd,xs,rel,dd⟩:=dt_rd I.hok e
    obtain ⟨w',hw,rw'⟩:=RelO.some_of (v:=v) (o:=(atKey xs k).map (·.2)) (by rw [l]; exact rel.val k)
    obtain ⟨p,hp,hp2⟩:=Option.map_eq_some_iff.mp hw
    refine wpAny_getItem_heap (tupleKind_room_in1 hu) (key_of I.hok eb) dd hp ?_
    rw [hp2]
    exact h w' _ (I.tok _) rw'
theorem d_write {h' : Heap} {t' : Nat} {ob : HO} (I : Inv X pins σ H s) (mu : Mut (H a)) (hs : Heap.SameBut a s.heap h') (he : ∃ q,h'.get? a = some q) (new : ObjOk X.prog X.w (upd H a ob) h' a ob) :
    Inv X pins σ (upd H a ob) { s with heap:=h',toks:=t' } :=
  I.write (x:=a) (e:=a) mu (.inl rfl) (fun b q hb z => (hs.2 b hb).trans z) he new
theorem dk_new {P : Program} {w : World} {H' : Hp} {h' : Heap} {kvs : List (Key×V)} {vs : List (Key×Value)} (z : kvs.length≤sizeLine) (hd : (a == sysModules) = false) (rel : KV kvs vs) (dd : h'.DictOf (mixKind P w) a vs) :
    ObjOk P w H' h' a (.dK kvs):=⟨z,hd,vs,rel,dd⟩
theorem d_setItem {H' : Hp} {Q : Unit→Shared→Prop} (hu : A.units + 1 < cLine) (I : Inv X pins σ H s) (g : DPut H a y v H') (ry : RelV y u) (rv : RelV v r) (h : ∀ s',Inv X pins σ H' s'→Q () s') :
    wpAny (model X.prog X.w) A (setItem (.ref a) u r) Q E s := by
  rcases g with ⟨kvs,k,e,ey,l,eH⟩ | ⟨kvs,k,b,e,ey,eb,l,eH⟩
  · subst ey eH
    obtain ⟨z,hd,vs,rel,dd⟩:=dk_of I.hok e
    have hz : vs.length≤sizeLine := by rw [← rel.length]; exact z
    have hl : (putK kvs k v).length≤sizeLine := by have:=length_putK kvs k v; lia
    refine wpAny_setItem_pairs (hsz:=hz) (kV_is ry) dd fun h' dd' hs => h _ ?_
    have he : ∃ q,h'.get? a = some q:=let ⟨q,_,_,hq,_⟩:=dd'; ⟨q,hq⟩
    exact d_write I (by rw [e]; exact True.intro) hs he (dk_new hl hd (rel.put k rv) dd')
  · subst ey eH
    cases (show u = Value.ref b from ry)
    obtain ⟨z,hd,xs,rel,dd⟩:=dt_of I.hok e
    have hz : xs.length≤sizeLine := by rw [← Paired.length rel]; exact z
    have hl : (putK kvs k v).length≤sizeLine := by have:=length_putK kvs k v; lia
    refine wpAny_setItem_heap (hsz:=hz) (tupleKind_room_in1 hu) (key_of I.hok eb) dd fun h' dd' hs => h _ ?_
    obtain ⟨q,es,ep,hq,h2,h3,h4,_,h5⟩:=dd'
    refine d_write I (by rw [e]; exact True.intro) hs ⟨q,hq⟩ ⟨hl,hd,_,(rel.put k eb rv).keeps fun c ys ec => ?_,q,es,ep,hq,h2,h3,h4,h5⟩
    rw [upd_ne (ne_of ec e (fun z => nomatch z))]
    exact ec
end
def NoSl (i : Expr) : Prop:=∀ ov iv,subscripted i false ov iv = operate [ov,iv] (getItem ov iv)
theorem subD_of {prog : Program} {w : World} {A : Around} {E : Value→Shared→Prop} {s : Shared} {env : Env} {value slice : Expr} {pos : Pos} {T id : String} {Q : Value→Shared→Prop}
    (hl : typeLookup (.type T) "__getitem__" = pure (some (.builtin id))) (hs : NoSl slice)
    (h : wpAny (model prog w) A (eval value env) (fun o s₁ => wpAny (model prog w) A (eval slice env) (fun i s₂ => s₂.TypeIs o T∧wpAny (model prog w) A (getItem o i) Q E s₂) E s₁) E s) :
    wpAny (model prog w) A (eval (.Subscript value slice pos) env) Q E s := by
  refine Subscript_ (wpAny_mono h (fun o s₁ h₁ => wpAny_mono h₁ (fun i s₂ h₂ => ?_) fun _ _ x => x) fun _ _ x => x)
  obtain ⟨hT,h₂⟩:=h₂
  unfold subscriptTail
  refine wpAny_bind ?_
  rw [getitemInPython_of_ne hT.not_modules]
  refine wpAny_bind (wpAny_specialOf hT hl ?_)
  have fin : wpAny (model prog w) A (subscripted slice false o i) (fun r s₃ => wpAny (model prog w) A (letTemporaryGo value o r >>= fun _ => pure r) Q E s₃) E s₂ := by
    rw [hs o i]
    exact wpAny_operating (wpAny_mono h₂ (fun r s₃ h₃ => wpAny_bind (wpAny_letTemporaryGo (wpAny_pure h₃))) fun _ _ x => x)
  first
    | exact wpAny_pure (wpAny_bind fin)
    | exact wpAny_bind (wpAny_pure (wpAny_bind fin))
    | exact wpAny_bind fin
theorem dict_typeIs {X : Cx} {pins : List (Addr×Obj)} {σ : St} {H : Hp} {s : Shared} {a : Addr} {y : V} {o : Option V} (I : Inv X pins σ H s) (g : DGet H a y o) : s.TypeIs (.ref a) "dict" := by
  rcases g with ⟨kvs,k,e,_,_⟩ | ⟨kvs,k,b,e,_,_,_⟩
  · obtain ⟨_,_,vs,_,dd⟩:=dk_rd I.hok e
    exact dd.typeIs
  · obtain ⟨_,_,xs,_,dd⟩:=dt_rd I.hok e
    exact dd.typeIs
def tDGet (td ty : TE) : TE:=fun σ H Q => td σ H fun x H1 => ty σ H1 fun y H2 => ∃ a v,x = .ref a∧DGet H2 a y (some v)∧Q v H2
def sDPut (td ty tv : TE) : TS:=fun D σ H => tv σ H fun v H1 => td σ H1 fun x H2 => ty σ H2 fun y H3 => ∃ a H4,x = .ref a∧DPut H3 a y v H4∧D.nx σ H4
section
variable {X : Cx} {o i value : Expr} {pos pos' : Pos} {td ty tv : TE}
theorem pe_dget (hu : X.A.units + 1 < cLine) (ho : PE X o td) (hi : PE X i ty) (hs : NoSl i) : PE X (.Subscript o i pos) (tDGet td ty) := by
  intro pins s σ H Q I h
  refine subD_of PySem.F.slot_dict_getitem.lookup hs (thn (ho pins s σ H _ I h) fun u s1 ⟨x,H1,I1,rx,q1⟩ => thn (hi pins s1 σ H1 _ I1 q1) fun iv s2 ⟨y,H2,I2,ry,a,v,ex,g,q2⟩ => ?_)
  subst ex
  obtain rfl : u = Value.ref a:=rx
  exact ⟨dict_typeIs I2 g,d_getItem hu I2 g ry fun w' s3 I3 rw' => ⟨v,H2,I3,rw',q2⟩⟩
theorem ps_dput (hu : X.A.units + 1 < cLine) (ho : PE X o td) (hi : PE X i ty) (hv : PE X value tv) (hs : swapsWith value (some (.Subscript o i pos')) pos.line X.env = pure false) :
    PS X (.Assign [.Subscript o i pos'] value pos) (sDPut td ty tv) := by
  intro pins s σ H D I h
  refine wpAny_Assign_Subscript (thn (hv pins s σ H _ I h) fun r s1 ⟨v,H1,I1,rv,q1⟩ => thn (ho pins s1 σ H1 _ I1 q1) fun u s2 ⟨x,H2,I2,rx,q2⟩ => thn (hi pins s2 σ H2 _ I2 q2) fun iv s3 ⟨y,H3,I3,ry,a,H4,ex,g,q3⟩ => ?_) hs
  subst ex
  obtain rfl : u = Value.ref a:=rx
  exact d_setItem hu I3 g ry rv fun s4 I4 => ⟨σ,H4,I4,q3⟩
end
theorem dt_empty {P : Program} {w : World} {H : Hp} (h : Heap) (hb : sysModules < h.objs.size) : ObjOk P w H (h.push { cls:=.type "dict",data:=.dict #[] }) h.objs.size (.dT []) :=
  ⟨Nat.zero_le _,beq_eq_false_iff_ne.mpr (Ne.symm (Nat.ne_of_lt hb)),[],.nil,_,#[],0,Heap.get?_push_size _ rfl,⟨rfl,rfl,rfl⟩,rfl,rfl,List.nodup_nil⟩
def tDNewT : TE:=fun _ H Q => ∀ p,H p = none→Q (.ref p) (upd H p (.dT []))
section
variable {X : Cx} {pos : Pos}
theorem pe_dnewT : PE X (.Dict [] [] pos) tDNewT:=fun pins s σ H Q I h =>
  wpAny_Dict_empty ⟨.ref s.heap.objs.size,_,I.laid (a:=s.heap.objs.size) (o:=.dT []) (t':=s.toks) (fun _ _ q => Heap.get?_push_of_some _ q) (Nat.le_refl _) (dt_empty s.heap I.big),rfl,h _ (I.hok.fresh (Nat.le_refl _))⟩
end
structure M2 (X : Cx) (o : Expr) (m : Str) (apos : Pos) (e f : Expr) (cpos : Pos) : Prop where
  base : attributeBase o m X.env (eval o X.env) = eval o X.env
  few : ((backTo cpos (starEach [e,f] X.env)).all (fun x => !x.1) && (backToKw cpos (keywordEach [] X.env)).all (fun x => x.1.isSome)
    && decide (([e,f] : List Expr).length + ([] : List Keyword).length + (if ([] : List Keyword).isEmpty then 0 else 1) < 30)) = true
  line : (apos.endLine == cpos.line) = true
  trees : backTo cpos (starEach [e,f] X.env) = [(false,eval e X.env),(false,eval f X.env)]
def IsD (H : Hp) (a : Addr) : Prop:=(∃ kvs,Rd H a (.dK kvs))∨∃ kvs,Rd H a (.dT kvs)
theorem isD_at {X : Cx} {pins : List (Addr×Obj)} {σ : St} {H : Hp} {s : Shared} {a : Addr} (I : Inv X pins σ H s) (d : IsD H a) :
    s.TypeIs (.ref a) "dict" ∧ (∀ b,Value.ref a = .ref b→∃ ob,s.heap.get? b = some ob∧ob.dict = none)∧(a == sysModules) = false := by
  rcases d with ⟨kvs,e⟩ | ⟨kvs,e⟩
  · obtain ⟨_,hd,vs,_,dd⟩:=dk_rd I.hok e
    refine ⟨dd.typeIs,fun b q => ?_,hd⟩
    cases q
    obtain ⟨ob,_,_,h1,h2,_⟩:=dd
    exact ⟨ob,h1,h2.2.1⟩
  · obtain ⟨_,hd,xs,_,dd⟩:=dt_rd I.hok e
    refine ⟨dd.typeIs,fun b q => ?_,hd⟩
    cases q
    obtain ⟨ob,_,_,h1,h2,_⟩:=dd
    exact ⟨ob,h1,h2.2.1⟩
section
variable {X : Cx} {pins : List (Addr×Obj)} {σ : St} {H : Hp} {s : Shared} {a : Addr} {y d : V} {u r : Value} {o : Option V} {A : Around} {E : Value→Shared→Prop}
theorem d_get2 {Q : Value→Shared→Prop} (hu : A.units + 1 < cLine) (I : Inv X pins σ H s) (g : DGet H a y o) (ry : RelV y u) (rd : RelV d r) (h : ∀ w' s',Inv X pins σ H s'→RelV (o.getD d) w'→Q w' s') :
    wpAny (model X.prog X.w) A (call (.builtin "dict.get") [.ref a,u,r]) Q E s := by
  rcases g with ⟨kvs,k,e,ey,l⟩ | ⟨kvs,k,b,e,ey,eb,l⟩
  · subst ey
    obtain ⟨z,hd,vs,rel,dd⟩:=dk_rd I.hok e
    refine call_meetsIn PySem.F.slot_dict_get dd.typeIs PySem.F.entry_dict_get (PySem.F.args_dict_get_3 _ _ _) (meets_dict_get_default (mixKind X.prog X.w) a (kV_is ry) hd r) ⟨_,dd.mapOf,h _ _ (I.tok _) ?_⟩
    rw [l]
    exact (rel.val k).getD rd
  · subst ey
    cases (show u = Value.ref b from ry)
    obtain ⟨z,hd,xs,rel,dd⟩:=dt_rd I.hok e
    refine call_meetsIn PySem.F.slot_dict_get dd.typeIs PySem.F.entry_dict_get (PySem.F.args_dict_get_3 _ _ _) (meetsH_dict_get_default (tupleKind (mixKind X.prog X.w)) a b hd r) ⟨tupleKind_room_in1 hu,k,xs,key_of I.hok eb,dd,h _ _ (I.tok _) ?_⟩
    rw [l]
    exact (rel.val k).getD rd
end
def tDGet2 (td ty tx : TE) : TE:=fun σ H Q => td σ H fun x H1 => ∃ a,x = .ref a∧IsD H1 a∧ty σ H1 fun y H2 => tx σ H2 fun z H3 => ∃ o,DGet H3 a y o∧Q (o.getD z) H3
section
variable {X : Cx} {o e f : Expr} {apos cpos : Pos} {td ty tx : TE}
theorem pe_dget2 (hu : X.A.units + 1 < cLine) (ho : PE X o td) (he : PE X e ty) (hf : PE X f tx) (m : M2 X o "get" apos e f cpos) : PE X (.Call (.Attribute o "get" apos) [e,f] [] cpos) (tDGet2 td ty tx) := by
  intro pins s σ H Q I h
  refine wpAny_Call_method m.base m.few m.line PySem.F.plainAttrs_dict PySem.F.slot_dict_get PySem.F.type_dict_get (thn (ho pins s σ H _ I h) fun u s1 ⟨x,H1,I1,rx,a,ex,d,q1⟩ => ?_)
  subst ex
  obtain rfl : u = Value.ref a:=rx
  obtain ⟨t1,t2,_⟩:=isD_at I1 d
  refine ⟨t1,t2,?_⟩
  rw [m.trees]
  refine Calls.callWith_builtin rfl (Calls.evalArgs_plain (Calls.spliced_cons (thn (he pins s1 σ H1 _ I1 q1) fun iv s2 ⟨y,H2,I2,ry,q2⟩ =>
    Calls.spliced_cons (thn (hf pins s2 σ H2 _ I2 q2) fun fv s3 ⟨z,H3,I3,rz,ov,g,q3⟩ => Calls.spliced_nil ?_))))
  exact d_get2 hu I3 g ry rz fun w' s4 I4 rw' => ⟨_,H3,I4,rw',q3⟩
end
end L2
namespace L2
open PySem PySem.Spec PyProof.Rows
section
variable {κ : Type} [DecidableEq κ]
theorem valV_not {kvs : List (κ×V)} {k : κ} (h : valV kvs k = none) : ¬ k∈kvs.map (·.1) := by
  intro m
  obtain ⟨p,hp,e⟩:=List.mem_map.mp m
  have q : (kvs.any fun kv => decide (kv.1 = k)) = true:=List.any_eq_true.mpr ⟨p,hp,decide_eq_true e⟩
  rw [valV_any,h] at q
  exact absurd q (by simp)
theorem nd_snoc : ∀ {l : List κ} {k : κ},l.Nodup→¬ k∈l→(l ++ [k]).Nodup
  | [],k,_,_ => by simp
  | a :: r,k,h,hk => by
    obtain ⟨h1,h2⟩:=List.nodup_cons.mp h
    show (a :: (r ++ [k])).Nodup
    refine List.nodup_cons.mpr ⟨fun m => ?_,nd_snoc h2 fun m => hk (List.mem_cons.mpr (Or.inr m))⟩
    rcases List.mem_append.mp m with q | q
    · exact h1 q
    · exact hk (List.mem_cons.mpr (Or.inl (List.mem_singleton.mp q).symm))
theorem nd_putK {kvs : List (κ×V)} {k : κ} (v : V) (hn : (kvs.map (·.1)).Nodup) (h : valV kvs k = none) : ((putK kvs k v).map (·.1)).Nodup := by
  rw [putK_new v h,List.map_append]
  exact nd_snoc hn (valV_not h)
end
end L2
namespace DI
open PySem PySem.W PyProof.Rows
def RD (h : Heap) (d : Addr) (es : Array DictEntry) (ep : Nat) : Prop:=∃ o,h.get? d = some o∧o.ExactDict∧o.data = .dict es ep
def St (h : Heap) (it d S : Addr) (i n ep : Nat) : Prop:=(i = 0∧∃ ok ov,IsItemIter h it d 0 n ep ok ov)∨∃ ok ov a f oa,KdxIt h it d i n ep ok ov a f∧h.get? a = some oa∧a≠it∧a≠S
section
variable {prog : Program} {w : World} {A : Around} {E : Value→Shared→Prop} {s : Shared} {it d : Addr} {i ep : Nat} {es : Array DictEntry} {ok ov : Value}
theorem next_first {Q : Option Value→Shared→Prop} (hit : IsItemIter s.heap it d i es.size ep ok ov) (hm : RD s.heap d es ep) (hi : i < es.size)
    (q : ∀ h',IsItemIterOut h' it d (i + 1) es.size ep es[i].key es[i].val s.heap.objs.size→h'.get? s.heap.objs.size = some { cls:=.type "tuple",data:=.seq #[es[i].key,es[i].val] }→h'.objs.size = s.heap.objs.size + 1 →
      (∀ b o,b≠it→s.heap.get? b = some o→h'.get? b = some o)→Q (some (.ref s.heap.objs.size)) { s with heap:=h' }) : wpAny (model prog w) A (pyNext (.ref it)) Q E s := by
  obtain ⟨hp,g,dr,tk,os⟩:=s
  obtain ⟨od,e1,e2,e3⟩:=hm
  have hT : Shared.TypeIs ⟨hp,g,dr,tk,os⟩ (.ref it) "dict_itemiterator" := ⟨_,hit,rfl⟩
  have own : Builtin.Dict_items.ownsTuple "dict_itemiterator" = true := by decide
  unfold pyNext
  refine wpAny_bind (wpAny_attempt (wpAny_callSpecial?_slot (name:=Str.ofString "__next__") hT F.slot_dict_itemiterator_next
    (wpAny_call_entry F.slot_dict_itemiterator_next hT F.entry_dict_itemiterator_next (wpAny_bind (wpAny_pure (wpAny_bind (wpAny_bind ?_)))) (F.args_dict_itemiterator_next_1 _))))
  first | refine wpAny_bind (wpAny_typeNameOfWhole_itemiter hT (wpAny_pure (wpAny_bind (wpAny_fieldsOf hit rfl ?_)))) | refine wpAny_bind (wpAny_typeNameOf_itemiter hT (wpAny_pure (wpAny_bind (wpAny_fieldsOf hit rfl ?_))))
  simp only [own,if_true]
  show wpAny _ _ (if (Value.ref d == Value.none) = true then _ else _) _ _ _
  rw [if_neg (show ¬ ((Value.ref d == Value.none) = true) from Bool.false_ne_true)]
  refine wpAny_bind (wpAny_pure (wpAny_bind (wpAny_dictEntries e1 e3 ?_)))
  rw [if_neg (by simp)]
  refine wpAny_bind (wpAny_pure (wpAny_bind (wpAny_dictEpoch e1 e3 ?_)))
  rw [if_neg (by simp)]
  refine wpAny_pure ?_
  simp only [show ¬ ((i : Int) < 0) from by lia,if_false,Int.toNat_natCast,Array.getElem?_eq_getElem hi]
  refine wpAny_bind ?_
  first | refine wpAny_bind (wpAny_typeNameOfWhole_itemiter hT (wpAny_pure (wpAny_bind (wpAny_isOneOf_itemiter hT ?_)))) | refine wpAny_bind (wpAny_typeNameOf_itemiter hT (wpAny_pure (wpAny_bind (wpAny_isOneOf_itemiter hT ?_))))
  show wpAny _ _ (setField (.ref it) 3 (rawInt ((i : Int) + 1)) >>= _) _ _ ⟨hp,g,dr,tk,os⟩
  refine wpAny_bind (wpAny_setField_rec hit (by simp) fun g1 z1 m1 => ?_)
  have m1 : Heap.SameBut it hp g1:=m1
  have z1 : IsItemIter g1 it d (i + 1) es.size ep ok ov := by
    have e : ((i + 1 : Nat) : Int) = (i : Int) + 1 := by lia
    unfold IsItemIter
    rw [e]
    simpa [rawInt] using z1
  have hT1 : Shared.TypeIs ⟨g1,g,dr,tk,os⟩ (.ref it) "dict_itemiterator" := ⟨_,z1,rfl⟩
  refine wpAny_bind (wpAny_holding (wpAny_bind (wpAny_isOneOf_itemiter hT1 (wpAny_bind (wpAny_isOneOf_itemiter hT1 ?_)))))
  show wpAny _ _ (Builtin.Dict_items.pairFromOwner (.ref it) 6 es[i].key es[i].val) _ _ ⟨g1,g,dr,tk,os⟩
  unfold Builtin.Dict_items.pairFromOwner
  refine wpAny_bind (wpAny_newTuple ?_)
  have z2 : IsItemIter (g1.push { cls:=.type "tuple",data:=.seq #[es[i].key,es[i].val] }) it d (i + 1) es.size ep ok ov:=Heap.get?_push_of_some _ z1
  have a2 : (g1.push { cls:=.type "tuple",data:=.seq #[es[i].key,es[i].val] }).get? hp.objs.size = some { cls:=.type "tuple",data:=.seq #[es[i].key,es[i].val] } := by rw [← m1.1]; exact Heap.get?_push_size _ rfl
  have s2 : (g1.push { cls:=.type "tuple",data:=.seq #[es[i].key,es[i].val] }).objs.size = hp.objs.size + 1 := by rw [Heap.size_push,m1.1]
  have k2 : ∀ b o,b≠it→hp.get? b = some o→(g1.push { cls:=.type "tuple",data:=.seq #[es[i].key,es[i].val] }).get? b = some o:=fun b o hb e => Heap.get?_push_of_some _ ((m1.2 b hb).trans e)
  generalize g1.push { cls:=.type "tuple",data:=.seq #[es[i].key,es[i].val] } = g2 at z2 a2 s2 k2
  have il : it < hp.objs.size:=Heap.lt_size hit
  show wpAny _ _ (Builtin.Dict_items.ownedTupleIsFree (.ref it) >>= _) _ _ ⟨g2,g,dr,tk,os⟩
  rw [m1.1]
  unfold Builtin.Dict_items.ownedTupleIsFree
  refine wpAny_bind (wpAny_bind (wpAny_field z2 rfl (x:=.none) rfl (wpAny_pure ?_)))
  simp only [if_true]
  refine wpAny_bind (wpAny_field z2 rfl (x:=ok) rfl (wpAny_bind (wpAny_field z2 rfl (x:=ov) rfl (wpAny_bind (wpAny_setField_rec z2 (by simp) fun g3 z3 m3 => ?_)))))
  refine wpAny_bind (wpAny_setField_rec (show IsItemIter g3 it d (i + 1) es.size ep es[i].key ov from z3) (by simp) fun g4 z4 m4 => ?_)
  refine wpAny_bind (wpAny_setField_rec (show IsItemIter g4 it d (i + 1) es.size ep es[i].key es[i].val from z4) (by simp) fun g5 z5 m5 => ?_)
  refine wpAny_bind (wpAny_setField_rec (show IsItemIterOut g5 it d (i + 1) es.size ep es[i].key es[i].val hp.objs.size from z5) (by simp) fun g6 z6 m6 => ?_)
  have up : ∀ b o,b≠it→g2.get? b = some o→g6.get? b = some o:=fun b o hb e => (m6.2 b hb).trans ((m5.2 b hb).trans ((m4.2 b hb).trans ((m3.2 b hb).trans e)))
  exact wpAny_bind (wpAny_letGo (wpAny_pure (wpAny_pure ⟨_,rfl,wpAny_pure (q g6 z6 (up _ _ (Nat.ne_of_gt il) a2) (by show g6.objs.size = hp.objs.size + 1; rw [m6.1,m5.1,m4.1,m3.1,s2]) fun b o hb e => up b o hb (k2 b o hb e))⟩)))
theorem next_later {a : Addr} {f : Bool} {oa : Obj} {Q : Option Value→Shared→Prop} (hit : KdxIt s.heap it d i es.size ep ok ov a f) (ha : s.heap.get? a = some oa) (hai : a≠it) (hm : RD s.heap d es ep) (hi : i < es.size)
    (q : ∀ h',KdxIt h' it d (i + 1) es.size ep ok ov a true→h'.get? s.heap.objs.size = some { cls:=.type "tuple",data:=.seq #[es[i].key,es[i].val] }→h'.objs.size = s.heap.objs.size + 1 →
      (∀ b o,b≠it→s.heap.get? b = some o→h'.get? b = some o)→Q (some (.ref s.heap.objs.size)) { s with heap:=h' }) : wpAny (model prog w) A (pyNext (.ref it)) Q E s := by
  obtain ⟨hp,g,dr,tk,os⟩:=s
  obtain ⟨od,e1,e2,e3⟩:=hm
  have hT : Shared.TypeIs ⟨hp,g,dr,tk,os⟩ (.ref it) "dict_itemiterator" := ⟨_,hit,rfl⟩
  have own : Builtin.Dict_items.ownsTuple "dict_itemiterator" = true := by decide
  unfold pyNext
  refine wpAny_bind (wpAny_attempt (wpAny_callSpecial?_slot (name:=Str.ofString "__next__") hT F.slot_dict_itemiterator_next
    (wpAny_call_entry F.slot_dict_itemiterator_next hT F.entry_dict_itemiterator_next (wpAny_bind (wpAny_pure (wpAny_bind (wpAny_bind ?_)))) (F.args_dict_itemiterator_next_1 _))))
  first | refine wpAny_bind (wpAny_typeNameOfWhole_itemiter hT (wpAny_pure (wpAny_bind (wpAny_fieldsOf hit rfl ?_)))) | refine wpAny_bind (wpAny_typeNameOf_itemiter hT (wpAny_pure (wpAny_bind (wpAny_fieldsOf hit rfl ?_))))
  simp only [own,if_true]
  show wpAny _ _ (if (Value.ref d == Value.none) = true then _ else _) _ _ _
  rw [if_neg (show ¬ ((Value.ref d == Value.none) = true) from Bool.false_ne_true)]
  refine wpAny_bind (wpAny_pure (wpAny_bind (wpAny_dictEntries e1 e3 ?_)))
  rw [if_neg (by simp)]
  refine wpAny_bind (wpAny_pure (wpAny_bind (wpAny_dictEpoch e1 e3 ?_)))
  rw [if_neg (by simp)]
  refine wpAny_pure ?_
  simp only [show ¬ ((i : Int) < 0) from by lia,if_false,Int.toNat_natCast,Array.getElem?_eq_getElem hi]
  refine wpAny_bind ?_
  first | refine wpAny_bind (wpAny_typeNameOfWhole_itemiter hT (wpAny_pure (wpAny_bind (wpAny_isOneOf_itemiter hT ?_)))) | refine wpAny_bind (wpAny_typeNameOf_itemiter hT (wpAny_pure (wpAny_bind (wpAny_isOneOf_itemiter hT ?_))))
  show wpAny _ _ (setField (.ref it) 3 (rawInt ((i : Int) + 1)) >>= _) _ _ ⟨hp,g,dr,tk,os⟩
  refine wpAny_bind (wpAny_setField_rec hit (by simp) fun g1 z1 m1 => ?_)
  have m1 : Heap.SameBut it hp g1:=m1
  have z1 : KdxIt g1 it d (i + 1) es.size ep ok ov a f := by
    have e : ((i + 1 : Nat) : Int) = (i : Int) + 1 := by lia
    unfold KdxIt
    rw [e]
    simpa [rawInt] using z1
  have hT1 : Shared.TypeIs ⟨g1,g,dr,tk,os⟩ (.ref it) "dict_itemiterator" := ⟨_,z1,rfl⟩
  refine wpAny_bind (wpAny_holding (wpAny_bind (wpAny_isOneOf_itemiter hT1 (wpAny_bind (wpAny_isOneOf_itemiter hT1 ?_)))))
  show wpAny _ _ (Builtin.Dict_items.pairFromOwner (.ref it) 6 es[i].key es[i].val) _ _ ⟨g1,g,dr,tk,os⟩
  unfold Builtin.Dict_items.pairFromOwner
  refine wpAny_bind (wpAny_newTuple ?_)
  have z2 : KdxIt (g1.push { cls:=.type "tuple",data:=.seq #[es[i].key,es[i].val] }) it d (i + 1) es.size ep ok ov a f:=Heap.get?_push_of_some _ z1
  have a2 : (g1.push { cls:=.type "tuple",data:=.seq #[es[i].key,es[i].val] }).get? hp.objs.size = some { cls:=.type "tuple",data:=.seq #[es[i].key,es[i].val] } := by rw [← m1.1]; exact Heap.get?_push_size _ rfl
  have s2 : (g1.push { cls:=.type "tuple",data:=.seq #[es[i].key,es[i].val] }).objs.size = hp.objs.size + 1 := by rw [Heap.size_push,m1.1]
  have k2 : ∀ b o,b≠it→hp.get? b = some o→(g1.push { cls:=.type "tuple",data:=.seq #[es[i].key,es[i].val] }).get? b = some o:=fun b o hb e => Heap.get?_push_of_some _ ((m1.2 b hb).trans e)
  generalize g1.push { cls:=.type "tuple",data:=.seq #[es[i].key,es[i].val] } = g2 at z2 a2 s2 k2
  have il : it < hp.objs.size:=Heap.lt_size hit
  show wpAny _ _ (Builtin.Dict_items.ownedTupleIsFree (.ref it) >>= _) _ _ ⟨g2,g,dr,tk,os⟩
  rw [m1.1]
  unfold Builtin.Dict_items.ownedTupleIsFree
  refine wpAny_bind (wpAny_bind (wpAny_field z2 rfl (x:=rawInt a) rfl ?_))
  show wpAny _ _ (loadIfAlive ((a : Int).toNat) >>= _) _ _ _
  rw [Int.toNat_natCast]
  refine wpAny_bind (kdx_alive (k2 a oa hai ha) ?_)
  simp only [Option.isNone_some,Bool.false_eq_true,if_false]
  refine wpAny_bind (wpAny_field z2 rfl (x:=.bool f) rfl ?_)
  cases f with
  | true =>
    rw [if_neg (show ¬ ((Value.bool true != Value.bool true) = true) from Bool.false_ne_true)]
    refine wpAny_pure ?_
    simp only [Bool.false_eq_true,if_false]
    exact wpAny_pure (wpAny_pure ⟨_,rfl,wpAny_pure (q g2 z2 a2 s2 k2)⟩)
  | false =>
    rw [if_pos (show (Value.bool false != Value.bool true) = true from rfl)]
    refine wpAny_bind (wpAny_setField_rec z2 (by simp) fun g3 z3 m3 => wpAny_pure ?_)
    simp only [Bool.false_eq_true,if_false]
    exact wpAny_pure (wpAny_pure ⟨_,rfl,wpAny_pure (q g3 z3 ((m3.2 _ (Nat.ne_of_gt il)).trans a2) (by show g3.objs.size = hp.objs.size + 1; rw [m3.1,s2]) fun b o hb e => (m3.2 b hb).trans (k2 b o hb e))⟩)
theorem next_end {x0 x1 : Value} {Q : Option Value→Shared→Prop} (hh : A.handled = none) (hit : s.heap.get? it = some { cls:=.type "dict_itemiterator",dict:=none,data:=.fields #[x0,x1,.ref d,.int i 0,.int es.size 0,.int ep 0,ok,ov],slots:=#[] }) (hm : RD s.heap d es ep) (hi : es.size≤i)
    (q : ∀ h',Heap.ExtBut it s.heap h'→Q none { s with heap:=h' }) : wpAny (model prog w) A (pyNext (.ref it)) Q E s := by
  obtain ⟨od,e1,e2,e3⟩:=hm
  have hT : s.TypeIs (.ref it) "dict_itemiterator" := ⟨_,hit,rfl⟩
  have own : Builtin.Dict_items.ownsTuple "dict_itemiterator" = true := by decide
  unfold pyNext
  refine wpAny_bind (wpAny_attempt (wpAny_callSpecial?_slot (name:=Str.ofString "__next__") hT F.slot_dict_itemiterator_next
    (wpAny_call_entry F.slot_dict_itemiterator_next hT F.entry_dict_itemiterator_next (wpAny_bind (wpAny_pure (wpAny_bind (wpAny_bind ?_)))) (F.args_dict_itemiterator_next_1 _))))
  first | refine wpAny_bind (wpAny_typeNameOfWhole_itemiter hT (wpAny_pure (wpAny_bind (wpAny_fieldsOf hit rfl ?_)))) | refine wpAny_bind (wpAny_typeNameOf_itemiter hT (wpAny_pure (wpAny_bind (wpAny_fieldsOf hit rfl ?_))))
  simp only [own,if_true]
  show wpAny _ _ (if (Value.ref d == Value.none) = true then _ else _) _ _ _
  rw [if_neg (show ¬ ((Value.ref d == Value.none) = true) from Bool.false_ne_true)]
  refine wpAny_bind (wpAny_pure (wpAny_bind (wpAny_dictEntries e1 e3 ?_)))
  rw [if_neg (by simp)]
  refine wpAny_bind (wpAny_pure (wpAny_bind (wpAny_dictEpoch e1 e3 ?_)))
  rw [if_neg (by simp)]
  refine wpAny_pure ?_
  simp only [show ¬ ((i : Int) < 0) from by lia,if_false,Int.toNat_natCast,Array.getElem?_eq_none hi]
  refine wpAny_bind ?_
  first | refine wpAny_bind (wpAny_typeNameOfWhole_itemiter hT (wpAny_pure ?_)) | refine wpAny_bind (wpAny_typeNameOf_itemiter hT (wpAny_pure ?_))
  show wpAny _ _ (setField (.ref it) 2 .none >>= _) _ _ s
  refine wpAny_bind (wpAny_setField hit rfl (by simp) ?_)
  show wpAny _ _ (newExc (.type "StopIteration") [] >>= _) _ _ _
  simp only [newExc,newTuple]
  refine wpAny_bind (wpAny_bind (wpAny_newObj_type ?_ (by size_fits)))
  refine wpAny_bind (m:=firstArgMember _ _) (wpAny_of_eq (a:=Value.none) (by first | rfl | (simp only [firstArgMember]; rfl)) (wpAny_newObj_type ?_ (by size_fits)))
  simp only [raiseNew]
  refine wpAny_bind (wpAny_handled ?_)
  rw [show A.in1.handled = none from hh]
  refine wpAny_bind (wpAny_pure (wpAny_throw ?_))
  refine wpAny_bind (wpAny_isInstance (T := "StopIteration") (b:=true) ⟨_,Heap.get?_push_size _ rfl,rfl⟩ isSubtype_stop (wpAny_pure (q _ ?_)))
  exact ((Heap.SameBut.update ..).extBut.push _).push _
theorem St.keep {h h' : Heap} {S : Addr} {n : Nat} (x : St h it d S i n ep) (k : ∀ b o,b≠S→h.get? b = some o→h'.get? b = some o) (hI : it≠S) : St h' it d S i n ep := by
  rcases x with ⟨e,ok,ov,hit⟩ | ⟨ok,ov,a,f,oa,hit,ha,hai,haS⟩
  · exact .inl ⟨e,ok,ov,k _ _ hI hit⟩
  · exact .inr ⟨ok,ov,a,f,oa,k _ _ hI hit,k _ _ haS ha,hai,haS⟩
theorem next_item {S : Addr} {Q : Option Value→Shared→Prop} (st : St s.heap it d S i es.size ep) (hS : S < s.heap.objs.size) (hm : RD s.heap d es ep) (hi : i < es.size)
    (q : ∀ h',St h' it d S (i + 1) es.size ep→h'.get? s.heap.objs.size = some { cls:=.type "tuple",data:=.seq #[es[i].key,es[i].val] }→h'.objs.size = s.heap.objs.size + 1 →
      (∀ b o,b≠it→s.heap.get? b = some o→h'.get? b = some o)→Q (some (.ref s.heap.objs.size)) { s with heap:=h' }) : wpAny (model prog w) A (pyNext (.ref it)) Q E s := by
  rcases st with ⟨rfl,ok,ov,hit⟩ | ⟨ok,ov,a,f,oa,hit,ha,hai,haS⟩
  · exact next_first hit hm hi fun h' r1 r2 r3 r4 => q h' (.inr ⟨_,_,_,false,_,r1,r2,Nat.ne_of_gt (Heap.lt_size hit),Nat.ne_of_gt hS⟩) r2 r3 r4
  · exact next_later hit ha hai hm hi fun h' r1 r2 r3 r4 => q h' (.inr ⟨ok,ov,a,true,oa,r1,r4 a oa hai ha,hai,haS⟩) r2 r3 r4
theorem next_done {S : Addr} {Q : Option Value→Shared→Prop} (hh : A.handled = none) (st : St s.heap it d S es.size es.size ep) (hm : RD s.heap d es ep)
    (q : ∀ h',Heap.ExtBut it s.heap h'→Q none { s with heap:=h' }) : wpAny (model prog w) A (pyNext (.ref it)) Q E s := by
  rcases st with ⟨e,ok,ov,hit⟩ | ⟨ok,ov,a,f,oa,hit,_⟩
  · rw [← e] at hit
    exact next_end (i:=es.size) hh hit hm (Nat.le_refl _) q
  · exact next_end hh hit hm (Nat.le_refl _) q
def Made (es : Array DictEntry) (lo : Addr) (h : Heap) (as : List Addr) : Prop:=∀ (j : Nat) (a : Addr),as[j]? = some a→lo < a∧∃ e,es[j]? = some e∧h.get? a = some { cls:=.type "tuple",data:=.seq #[e.key,e.val] }
theorem loop {R : Result→Shared→Prop} {S I : Addr} (hh : A.handled = none) (hSI : S < I) (hSd : d≠S) (hId : d≠I) (hn : es.size≤sizeLine) (res : Value) {h1 : Heap}
    (hR : ∀ h' tk acc c as,(∀ b o,b≠S→b≠I→h1.get? b = some o→h'.get? b = some o)→h'.get? S = some { cls:=.type "list",dict:=none,data:=.seq acc c,slots:=#[] }→as.length = es.size→Made es I h' as→acc.toList = as.map Value.ref→R (.ok (.ret res)) { s with heap:=h',toks:=tk }) :
    ∀ (k i : Nat) (h : Heap) (tk c : Nat) (acc : Array Value) (as : List Addr),es.size - i = k→i≤es.size→St h I d S i es.size ep→RD h d es ep→(∀ b o,b≠S→b≠I→h1.get? b = some o→h.get? b = some o) →
      h.get? S = some { cls:=.type "list",dict:=none,data:=.seq acc c,slots:=#[] }→acc.toList = as.map Value.ref→as.length = i→Made es I h as→I < h.objs.size →
      codeAny (model prog w) A (.builtin "list.extend.loop" ⟨[.ref S,.ref I,res],[]⟩) R { s with heap:=h,toks:=tk } := by
  have ne : S≠I:=Nat.ne_of_lt hSI
  intro k
  induction k with
  | zero =>
    intro i h tk c acc as hk hi st hD kp hS ha hl hG hIs
    have hin : i = es.size := by lia
    subst hin
    refine codeAny_builtin PySem.F.entry_extend_loop ?_
    rw [Around.under_plainId PySem.F.plain_extend_loop _]
    show wpAny _ A.in1 (pyNext (.ref I) >>= _) _ _ _
    refine wpAny_bind (next_done (s:={ s with heap:=h,toks:=tk }) (A:=A.in1) hh st hD fun h' he => wpAny_pure (hR h' tk acc c as (fun b o r1 r2 e => he b o r2 (kp b o r1 r2 e)) (he S _ ne hS) hl (fun j a hj => ?_) ha))
    obtain ⟨r1,e,r2,r3⟩:=hG j a hj
    exact ⟨r1,e,r2,he a _ (Nat.ne_of_gt r1) r3⟩
  | succ k ih =>
    intro i h tk c acc as hk hi st hD kp hS ha hl hG hIs
    have hlt : i < es.size := by lia
    have hsz : acc.size = i := by rw [← Array.length_toList,ha,List.length_map,hl]
    refine codeAny_builtin PySem.F.entry_extend_loop ?_
    rw [Around.under_plainId PySem.F.plain_extend_loop _]
    show wpAny _ A.in1 (pyNext (.ref I) >>= _) _ _ _
    refine wpAny_bind (next_item (s:={ s with heap:=h,toks:=tk }) (S:=S) st (Heap.lt_size hS) hD hlt fun h' st' ht hz hkp => ?_)
    dsimp only at ht hz hkp ⊢
    have hS':=hkp S _ ne hS
    have up : ∀ b o,b≠S→h'.get? b = some o→(h'.update S (Obj.mapSeq (·.push (Value.ref h.objs.size)))).get? b = some o:=fun b o hb e => (Heap.get?_update_other _ _ (Ne.symm hb)).trans e
    have hSl : S < h.objs.size:=Heap.lt_size hS
    have hT:=up _ _ (Nat.ne_of_gt hSl) ht
    show wpAny _ A.in1 (updateSeq S (·.push (Value.ref h.objs.size)) >>= _) _ _ _
    refine wpAny_bind (wpAny_updateSeq hS' rfl (wpAny_pure ⟨plainId_quiet PySem.F.plain_extend_loop _,ih (i + 1) _ tk _ (acc.push (Value.ref h.objs.size)) (as ++ [h.objs.size]) (by lia) hlt (st'.keep up (Ne.symm ne)) ?_ (fun b o r1 r2 e => up b o r1 (hkp b o r2 (kp b o r1 r2 e)))
      (Heap.get?_update_self _ hS' rfl) (by rw [Array.toList_push,ha,List.map_append]; rfl) (by rw [List.length_append,hl]; rfl) (fun j b hj => ?_) (Nat.lt_trans hIs (Heap.lt_size hT))⟩) (by rw [hsz]; lia) (by show (acc.push (Value.ref h.objs.size)).size≤sizeLine + 1; rw [Array.size_push,hsz]; lia))
    · obtain ⟨o,r1,r2⟩:=hD
      exact ⟨o,up d o hSd (hkp d o hId r1),r2⟩
    · by_cases hj1 : j < as.length
      · rw [List.getElem?_append_left hj1] at hj
        obtain ⟨r1,e,r2,r3⟩:=hG j b hj
        exact ⟨r1,e,r2,up b _ (Nat.ne_of_gt (Nat.lt_trans hSI r1)) (hkp b _ (Nat.ne_of_gt r1) r3)⟩
      · rw [List.getElem?_append_right (by lia)] at hj
        have hj0 : j - as.length = 0 := by
          have:=(List.getElem?_eq_some_iff.mp hj).1
          simp at this
          lia
        rw [hj0] at hj
        have hb : h.objs.size = b := by simpa using hj
        subst hb
        have hji : j = i := by lia
        subst hji
        exact ⟨hIs,_,Array.getElem?_eq_getElem hlt,hT⟩
theorem iter {v : Addr} {Q : Value→Shared→Prop} (hv : s.heap.IsItemsView v d) (hm : RD s.heap d es ep)
    (q : Q (.ref s.heap.objs.size) { s with heap:=s.heap.push { cls:=.type "dict_itemiterator",data:=.fields #[.none,.bool false,.ref d,.int 0 0,.int es.size 0,.int ep 0,.none,.none] } }) : wpAny (model prog w) A (pyIter (.ref v)) Q E s := by
  obtain ⟨o1,r1,r2,r3⟩:=id hv
  obtain ⟨od,e1,e2,e3⟩:=hm
  have own : Builtin.Dict_items.ownsTuple "dict_itemiterator" = true := by decide
  refine wpAny_pyIter_slot hv.typeIs F.slot_dict_items_iter (wpAny_call_entry F.slot_dict_items_iter hv.typeIs F.entry_dict_items_iter ?_ (F.args_dict_items_iter_1 _))
  unfold Builtin.«dict_items.__iter__»
  refine wpAny_bind (wpAny_pure (wpAny_bind ?_))
  unfold Builtin.Dict_items.dictOf
  refine wpAny_bind (wpAny_field r1 r3 (x:=.ref d) rfl (wpAny_pure (wpAny_bind ?_)))
  unfold Builtin.Dict_items.newIterator
  refine wpAny_bind (wpAny_dictEntries e1 e3 (wpAny_bind (wpAny_dictEpoch e1 e3 ?_)))
  simp only [own,if_true]
  refine wpAny_newObj_type (wpAny_pure ⟨_,rfl, "dict_itemiterator",_,⟨_,Heap.get?_push_size _ rfl,rfl⟩,F.slot_dict_itemiterator_next.lookup,?_⟩)
    (by simp only [sizeOk,Builtin.Dict_items.ownedTupleFields,List.size_toArray,List.length_append,List.length_cons,List.length_nil,sizeLine_eq]; lia)
  simpa [rawInt,Builtin.Dict_items.ownedTupleFields] using q
theorem extend {R : Result→Shared→Prop} {v : Addr} (hh : A.handled = none) (hv : s.heap.IsItemsView v d) (hm : RD s.heap d es ep) (S : Addr) (hSv : S≠v) (hSd : d≠S) (res : Value) (c0 : Nat) (hS : s.heap.get? S = some { cls:=.type "list",data:=.seq #[] c0 })
    (hR : ∀ h' tk acc c as,(∀ b o,b≠S→s.heap.get? b = some o→h'.get? b = some o)→h'.get? S = some { cls:=.type "list",dict:=none,data:=.seq acc c,slots:=#[] }→as.length = es.size→Made es s.heap.objs.size h' as→acc.toList = as.map Value.ref→R (.ok (.ret res)) { s with heap:=h',toks:=tk }) (hn : es.size≤sizeLine) :
    wpAny (model prog w) A.in1 (Builtin.List.listExtendWith (.ref S) (.ref v) res) (fun fin s' => match fin with | .done f => R (.ok f) s' | .again c' => c'.quiet = true∧codeAny (model prog w) A c' R s') (fun e s' => R (.error e) s') s := by
  have hSI : S < s.heap.objs.size:=Heap.lt_size hS
  have hdI : d < s.heap.objs.size := by obtain ⟨o,e,_⟩:=hm; exact Heap.lt_size e
  have go : ∀ (h : Heap) (c1 tk : Nat),(∀ b o,b≠S→(s.heap.push { cls:=.type "dict_itemiterator",data:=.fields #[.none,.bool false,.ref d,.int 0 0,.int es.size 0,.int ep 0,.none,.none] }).get? b = some o→h.get? b = some o) →
      h.get? S = some { cls:=.type "list",data:=.seq #[] c1 }→codeAny (model prog w) A (.builtin "list.extend.loop" ⟨[.ref S,.ref s.heap.objs.size,res],[]⟩) R { s with heap:=h,toks:=tk }:=fun h c1 tk hk hS1 => by
    have hI:=hk s.heap.objs.size _ (Nat.ne_of_gt hSI) (Heap.get?_push_size _ rfl)
    refine loop (h1:=s.heap) (ep:=ep) hh hSI hSd (Nat.ne_of_lt hdI) hn res (fun h' tk' acc c as r1 r2 r3 r4 r5 => hR h' tk' acc c as (fun b o hb e => r1 b o hb (Nat.ne_of_lt (Heap.lt_size e)) e) r2 r3 r4 r5) es.size 0 h tk c1 #[] [] (Nat.sub_zero _) (Nat.zero_le _)
      (.inl ⟨rfl,.none,.none,hI⟩) ?_ (fun b o hb _ e => hk b o hb (Heap.get?_push_of_some _ e)) hS1 rfl rfl (fun j a hj => by simp at hj) (Heap.lt_size hI)
    obtain ⟨o,e,r⟩:=hm
    exact ⟨o,hk d o hSd (Heap.get?_push_of_some _ e),r⟩
  unfold Builtin.List.listExtendWith
  refine wpAny_bind (wpAny_typeOf (T := "dict_items") hv.typeIs ?_)
  have t1 : Builtin.List.listSameRef (.ref S) (.ref v) = false := by simp [Builtin.List.listSameRef,hSv]
  have t2 : (Value.type "dict_items" == Value.type "list") = false := by decide
  have t3 : (Value.type "dict_items" == Value.type "tuple") = false := by decide
  simp only [t1,t2,t3,Bool.or_false,Bool.false_eq_true,if_false]
  refine wpAny_bind (iter hv hm ?_)
  have g1:=Heap.get?_push_of_some { cls:=.type "dict_itemiterator",data:=.fields #[.none,.bool false,.ref d,.int 0 0,.int es.size 0,.int ep 0,.none,.none] } hS
  refine wpAny_bind (wpAny_holding (kdx_hint (let ⟨o,ho,hc,_⟩:=hv; ⟨o,Heap.get?_push_of_some _ ho,hc⟩) ?_))
  refine wpAny_ite_split (fun _ => ?_) (fun _ => wpAny_pure ⟨plainId_quiet PySem.F.plain_extend_loop _,go _ c0 _ (fun b o _ e => e) g1⟩)
  refine wpAny_bind (wpAny_rule (wpAny_bind ?_))
  show wpAny _ _ (updateSeq S (·.push .none) >>= fun _ => updateSeq S (·.pop)) _ _ _
  refine wpAny_bind (wpAny_updateSeq g1 rfl ?_)
  have g2:=Heap.get?_update_self (Obj.mapSeq (·.push Value.none)) g1 rfl
  refine wpAny_updateSeq (hz := by seq_fits) g2 rfl ?_
  have g3:=Heap.get?_update_self (Obj.mapSeq (·.pop)) g2 rfl
  exact wpAny_pure ⟨plainId_quiet PySem.F.plain_extend_loop _,go _ _ _ (fun b o hb e => (Heap.get?_update_other _ _ (Ne.symm hb)).trans ((Heap.get?_update_other _ _ (Ne.symm hb)).trans e)) g3⟩
theorem gather {R : List Value→Shared→Prop} {v : Addr} (hh : A.handled = none) (hv : s.heap.IsItemsView v d) (hm : RD s.heap d es ep) (hn : es.size≤sizeLine)
    (k : ∀ (h1 : Heap) (tk : Nat) (as : List Addr),s.heap.objs.size < h1.objs.size→(∀ b u,s.heap.get? b = some u→h1.get? b = some u)→as.length = es.size→Made es s.heap.objs.size h1 as→R (as.map Value.ref) { s with heap:=h1,toks:=tk }) :
    wpAny (model prog w) A (collect (.ref v)) R E s := by
  have lv : v < s.heap.objs.size := by obtain ⟨o,e,_⟩:=hv; exact Heap.lt_size e
  have ld : d < s.heap.objs.size := by obtain ⟨o,e,_⟩:=hm; exact Heap.lt_size e
  unfold collect
  refine wpAny_bind (wpAny_runValue (codeAny_builtin entry_proto_collect' ?_))
  rw [Around.under_plainId PySem.F.plain_proto_collect _]
  show wpAny _ A.in1 (newList [] >>= fun x => again (.builtin "list.__iadd__" ⟨[x,.ref v],[]⟩)) _ _ s
  refine wpAny_bind (wpAny_newObj_type (wpAny_pure ⟨plainId_quiet PySem.F.plain_list_iadd _,codeAny_builtin entry_list_iadd' ?_⟩))
  rw [Around.under_plainId PySem.F.plain_list_iadd _]
  have g0 : (s.heap.push { cls:=.type "list",data:=.seq ([] : List Value).toArray }).get? s.heap.objs.size = some { cls:=.type "list",data:=.seq #[] }:=Heap.get?_push_size _ rfl
  have sz0 : (s.heap.push { cls:=.type "list",data:=.seq ([] : List Value).toArray }).objs.size = s.heap.objs.size + 1:=Heap.size_push ..
  have main:=extend (prog:=prog) (w:=w) (A:=A) (s:={ s with heap:=s.heap.push { cls:=.type "list",data:=.seq ([] : List Value).toArray } }) (es:=es) (ep:=ep) hh (v:=v) (d:=d) (by obtain ⟨o,e,r⟩:=hv; exact ⟨o,Heap.get?_push_of_some _ e,r⟩) (by obtain ⟨o,e,r⟩:=hm; exact ⟨o,Heap.get?_push_of_some _ e,r⟩)
    s.heap.objs.size (Nat.ne_of_gt lv) (Nat.ne_of_lt ld) (.ref s.heap.objs.size) 0 g0
    (R:=fun q s1 => ∃ h1 tk acc c as,q = .ok (.ret (.ref s.heap.objs.size))∧s1 = { s with heap:=h1,toks:=tk }∧(∀ b u,s.heap.get? b = some u→h1.get? b = some u)∧h1.get? s.heap.objs.size = some { cls:=.type "list",dict:=none,data:=.seq acc c,slots:=#[] }∧as.length = es.size∧Made es s.heap.objs.size h1 as∧acc.toList = as.map Value.ref)
    (fun h1 tk acc c as k1 g1 hl hG ha => ⟨h1,tk,acc,c,as,rfl,rfl,fun b u e => k1 b u (Nat.ne_of_lt (Heap.lt_size e)) (Heap.get?_push_of_some _ e),g1,hl,fun j a hj => by
      obtain ⟨r1,r2⟩:=hG j a hj
      exact ⟨Nat.lt_trans (by show s.heap.objs.size < (s.heap.push _).objs.size; rw [sz0]; exact Nat.lt_succ_self _) r1,r2⟩,ha⟩) hn
  refine wpAny_mono main (fun fin s1 x => ?_) fun e s1 x => ?_
  · cases fin with
    | done f =>
      obtain ⟨h1,tk,acc,c,as,e,rfl,k1,g1,hl,hG,ha⟩:=x
      cases e
      show wpAny _ A (load s.heap.objs.size >>= _) _ _ _
      refine wpAny_bind (wpAny_load g1 (wpAny_pure ?_))
      show R acc.toList _
      rw [ha]
      exact k h1 tk as (Heap.lt_size g1) k1 hl hG
    | again c1 =>
      refine ⟨x.1,codeAny_mono x.2 fun q s2 y => ?_⟩
      obtain ⟨h1,tk,acc,c,as,rfl,rfl,k1,g1,hl,hG,ha⟩:=y
      show wpAny _ A (load s.heap.objs.size >>= _) _ _ _
      refine wpAny_bind (wpAny_load g1 (wpAny_pure ?_))
      show R acc.toList _
      rw [ha]
      exact k h1 tk as (Heap.lt_size g1) k1 hl hG
  · obtain ⟨_,_,_,_,_,e,_⟩:=x
    cases e
end
end DI
namespace IT
open PySem PySem.W PyProof.Rows PySem.SeqAt
def lt : List Int→List Int→Bool
  | [],[] => false
  | [],_ :: _ => true
  | _ :: _,[] => false
  | a :: r,b :: q => if a = b then lt r q else decide (a < b)
theorem lt_irrefl : ∀ a,lt a a = false
  | [] => rfl
  | a :: r => by rw [lt,if_pos rfl,lt_irrefl r]
theorem lt_trans : ∀ a b c,lt a b = true→lt b c = true→lt a c = true
  | [],[],_,h,_ => by cases h
  | [],_ :: _,[],_,h => by cases h
  | [],_ :: _,_ :: _,_,_ => rfl
  | _ :: _,[],_,h,_ => by cases h
  | _ :: _,_ :: _,[],_,h => by cases h
  | a :: r,b :: q,c :: p,h,k => by
    rw [lt] at h k ⊢
    by_cases e1 : a = b
    · subst e1
      rw [if_pos rfl] at h
      by_cases e2 : a = c
      · rw [if_pos e2] at k ⊢
        exact lt_trans r q p h k
      · rw [if_neg e2] at k ⊢
        exact k
    · rw [if_neg e1] at h
      have h:=of_decide_eq_true h
      by_cases e2 : b = c
      · subst e2
        rw [if_neg e1]
        exact decide_eq_true h
      · rw [if_neg e2] at k
        have k:=of_decide_eq_true k
        rw [if_neg (by lia)]
        exact decide_eq_true (by lia)
theorem lt_total : ∀ a b,lt a b = false→lt b a = false→a = b
  | [],[],_,_ => rfl
  | [],_ :: _,h,_ => by cases h
  | _ :: _,[],_,h => by cases h
  | a :: r,b :: q,h,k => by
    rw [lt] at h k
    by_cases e : a = b
    · subst e
      rw [if_pos rfl] at h k
      rw [lt_total r q h k]
    · rw [if_neg e] at h
      rw [if_neg (Ne.symm e)] at k
      have h:=of_decide_eq_false h
      have k:=of_decide_eq_false k
      lia
theorem lt_negTrans (a b c : List Int) (h : lt a c = true) : lt a b = true∨lt b c = true := by
  cases k : lt a b with
  | true => exact .inl rfl
  | false =>
    right
    cases m : lt b c with
    | true => rfl
    | false =>
      cases n : lt b a with
      | true => have:=lt_trans b a c n h; rw [m] at this; cases this
      | false => have:=lt_total a b k n; subst this; rw [m] at h; cases h
def ord : KeyOrd where
  α:=List Int
  blt:=lt
  irrefl:=lt_irrefl
  trans:=lt_trans
  negTrans:=lt_negTrans
  total:=lt_total
def Is : List Int→List Value→Prop
  | [],us => us = []
  | k :: r,us => ∃ t rest,us = .int k t :: rest∧Is r rest
theorem Is.length : ∀ {ks : List Int} {us : List Value},Is ks us→us.length = ks.length
  | [],us,h => by rw [Is] at h; subst h; rfl
  | k :: r,us,h => by
    rw [Is] at h
    obtain ⟨t,rest,rfl,h⟩:=h
    rw [List.length_cons,List.length_cons,Is.length h]
theorem Is.inj : ∀ {ks js : List Int} {us : List Value},Is ks us→Is js us→ks = js
  | [],[],_,_,_ => rfl
  | [],_ :: _,us,h,k => by
    simp only [Is] at h k
    subst h
    obtain ⟨t,rest,e,_⟩:=k
    cases e
  | _ :: _,[],us,h,k => by
    simp only [Is] at h k
    subst k
    obtain ⟨t,rest,e,_⟩:=h
    cases e
  | a :: r,b :: q,us,h,k => by
    rw [Is] at h k
    obtain ⟨t,rest,rfl,h⟩:=h
    obtain ⟨t',rest',e,k⟩:=k
    injection e with e1 e2
    injection e1 with e1 e3
    subst e1 e2
    rw [Is.inj h k]
theorem Is.get : ∀ {ks : List Int} {us : List Value} {j : Nat},Is ks us→(h : j < us.length)→∃ k t,ks[j]? = some k∧us[j] = .int k t
  | [],us,j,h,hj => by rw [Is] at h; subst h; exact absurd hj (Nat.not_lt_zero _)
  | k :: r,us,j,h,hj => by
    rw [Is] at h
    obtain ⟨t,rest,rfl,h⟩:=h
    cases j with
    | zero => exact ⟨k,t,rfl,rfl⟩
    | succ j =>
      obtain ⟨k',t',h1,h2⟩:=Is.get (j:=j) h (by simpa using hj)
      exact ⟨k',t',by simpa using h1,by simpa using h2⟩
theorem tup_same {h : Heap} {a : Addr} {x y : Array Value} (h1 : h.IsTuple a x) (h2 : h.IsTuple a y) : x = y := by
  obtain ⟨o,e1,_,n,d1⟩:=h1
  obtain ⟨o',e2,_,n',d2⟩:=h2
  rw [e1] at e2
  cases e2
  rw [d1] at d2
  cases d2
  rfl
theorem rcEq {s : Shared} {ks js : List Int} {A : Around} {a b : Addr} {its its' : List Value} (h1 : s.heap.IsTuple a its.toArray) (k1 : Is ks its) (h2 : s.heap.IsTuple b its'.toArray) (k2 : Is js its') (hu : A.units < cLine) :
    RcAt A s (.ref a) (.ref b) (decide (ks = js)) := by
  have key:=RcAt.tuples (s:=s) (A:=A) (e:=fun j => decide (ks[j]? = js[j]?)) h1 h2 hu fun j x1 x2 => by
    obtain ⟨x,t,q1,q2⟩:=k1.get (j:=j) (by simpa using x1)
    obtain ⟨y,u,q3,q4⟩:=k2.get (j:=j) (by simpa using x2)
    have e : decide (ks[j]? = js[j]?) = (x == y) := by
      rw [q1,q3]
      by_cases hxy : x = y
      · subst hxy; simp
      · rw [decide_eq_false (by simpa using hxy)]; simp [hxy]
    rw [e]
    have:=EqAt.int_int (A:=A.in1) (s:=s) x t y u
    simpa [q2,q4] using this
  have ev : ((List.range (min its.toArray.size its'.toArray.size)).all (fun j => decide (ks[j]? = js[j]?)) && its.toArray.size == its'.toArray.size) = decide (ks = js) := by
    have z1 : its.toArray.size = ks.length := by rw [← k1.length]; simp
    have z2 : its'.toArray.size = js.length := by rw [← k2.length]; simp
    rw [z1,z2]
    by_cases hbc : ks = js
    · subst hbc; simp
    · rw [decide_eq_false hbc]
      cases hl : ks.length == js.length with
      | false => rw [Bool.and_false]
      | true =>
        rw [Bool.and_true]
        have hl' : ks.length = js.length := by simpa using hl
        refine Bool.eq_false_iff.mpr fun z => hbc (List.ext_getElem? fun i => ?_)
        by_cases hi : i < ks.length
        · have:=List.all_eq_true.mp z i (List.mem_range.mpr (by lia))
          simpa using this
        · rw [List.getElem?_eq_none (by lia),List.getElem?_eq_none (by lia)]
  rw [ev] at key
  exact key
theorem eqAt {s : Shared} {ks js : List Int} {A : Around} {a b : Addr} {its its' : List Value} (h1 : s.heap.IsTuple a its.toArray) (k1 : Is ks its) (h2 : s.heap.IsTuple b its'.toArray) (k2 : Is js its') (hu : A.units < cLine) :
    EqAt A s (.ref a) (.ref b) (decide (ks = js)) := by
  by_cases ea : a = b
  · subst ea
    have e2 : its = its' := by simpa using tup_same h1 h2
    subst e2
    rw [k1.inj k2,decide_eq_true rfl]
    exact EqAt.same _
  · exact EqAt.of_refs ea (rcEq h1 k1 h2 k2 hu)
section
open PySem.AutoSeq1 (wpAny_loadPart')
open PySem.MeetsSeq PySem.MeetsSeq2 PySem.MeetsSeq3
theorem tuple_lt (l b : Addr) (items items2 : Array Value) (n n2 : Nat) (dd dd2 : Option Addr) (sl sl2 : Array (Option Value)) (t u : List Int) :
    Meets (Builtin.«tuple.__lt__» ⟨[.ref l,.ref b],[]⟩)
      (fun A R s => s.heap.get? l = some { cls:=.type "tuple",dict:=dd,data:=.seq items n,slots:=sl }∧s.heap.get? b = some { cls:=.type "tuple",dict:=dd2,data:=.seq items2 n2,slots:=sl2 } ∧
        Is t items.toList∧Is u items2.toList∧A.units < cLine∧R (.ok (.ret (.bool (lt t u)))) s) :=
  .of_wp fun prog w A R s h => by
    obtain ⟨hp,g,d,tk,os⟩:=s; obtain ⟨hl,hb,hi,hj,hun,h⟩:=h
    have f2:=AutoSeq1.sub_tuple_tuple
    have z1 : items.size = t.length := by rw [← Is.length hi]; simp
    have z2 : items2.size = u.length := by rw [← Is.length hj]; simp
    wp_walk using wpAny_loadPart' hl,wpAny_loadPart' hb,wpAny_forIn_list _ (fun rest b s' => b.1 = none∧s' = ⟨hp,g,d,tk,os⟩∧∃ (vs ws : List Value) (t' u' : List Int),rest = vs.zip ws ∧
      Is t' vs∧Is u' ws∧t'.length + items2.size = u'.length + items.size∧R (.ok (.ret (.bool (lt t' u')))) ⟨hp,g,d,tk,os⟩) _
    case turn =>
      rintro ⟨y,x⟩ rest b s' ⟨hb',rfl,vs,ws,t',u',hz,hvi,hwi,hlen,hR⟩
      cases t' with
      | nil => rw [Is] at hvi; subst hvi; rw [List.zip_nil_left] at hz; cases hz
      | cons bt rt =>
        cases u' with
        | nil => rw [Is] at hwi; subst hwi; rw [List.zip_nil_right] at hz; cases hz
        | cons bu ru =>
          rw [Is] at hvi hwi
          obtain ⟨a1,v1,rfl,p3⟩:=hvi
          obtain ⟨a2,v2,rfl,q3⟩:=hwi
          rw [List.zip_cons_cons] at hz
          injection hz with hyx hrest
          injection hyx with hy hx
          subst hy hx
          rw [lt] at hR
          simp only [List.length_cons] at hlen
          have he:=EqAt.int_int (A:=A.in1) (s:=⟨hp,g,d,tk,os⟩) bt a1 bu a2
          refine wpAny_bind (he prog w _ _ ?_)
          by_cases hc : bt = bu
          · rw [if_pos hc] at hR
            rw [beq_iff_eq.mpr hc]
            wp_walk
            exact ⟨rfl,rfl,_,_,_,_,hrest,p3,q3,by lia,hR⟩
          · rw [if_neg hc] at hR
            rw [beq_eq_false_iff_ne.mpr hc]
            have hri : ∀ (E : Value→Shared→Prop) (Q : Value→Shared→Prop),Q (.bool (decide (bt < bu))) ⟨hp,g,d,tk,os⟩→wpAny (model prog w) A.in1 (richCompare .Lt (.int bt a1) (.int bu a2)) Q E ⟨hp,g,d,tk,os⟩:=fun E Q h => wpAny_lt_int h
            wp_walk using hri
            exact ⟨_,rfl,by simpa using hR⟩
    case fin =>
      rintro ⟨b1,b2⟩ s' ⟨hb',rfl,vs,ws,t',u',hz,hvi,hwi,hlen,hR⟩
      simp only at hb'
      subst hb'
      have hv : lt t' u' = decide (items.size < items2.size) := by
        cases t' with
        | nil =>
          cases u' with
          | nil =>
            simp only [List.length_nil] at hlen
            exact (decide_eq_false (by lia)).symm
          | cons c q =>
            simp only [List.length_cons,List.length_nil] at hlen
            exact (decide_eq_true (by lia)).symm
        | cons bt rt =>
          cases u' with
          | nil =>
            simp only [List.length_cons,List.length_nil] at hlen
            exact (decide_eq_false (by lia)).symm
          | cons c q =>
            rw [Is] at hvi hwi
            obtain ⟨_,_,rfl,_⟩:=hvi
            obtain ⟨_,_,rfl,_⟩:=hwi
            rw [List.zip_cons_cons] at hz
            cases hz
      rw [hv] at hR
      wp_walk
      exact ⟨_,rfl,by simpa [Builtin.Tuple.tupleCompareSizes] using hR⟩
    case h =>
      exact ⟨rfl,rfl,items.toList,items2.toList,t,u,rfl,hi,hj,by lia,h⟩
end
end IT
namespace IT
open PySem PySem.W PyProof.Rows PySem.SeqAt
section
open PySem.MeetsSeq PySem.MeetsSeq2 PySem.MeetsSeq3
variable {prog : Program} {w : World} {A : Around} {E : Value→Shared→Prop} {s : Shared} {t u : List Int} {a b : Addr} {its its' : List Value}
theorem rc_lt {Q : Value→Shared→Prop} (h1 : s.heap.IsTuple a its.toArray) (k1 : Is t its) (h2 : s.heap.IsTuple b its'.toArray) (k2 : Is u its') (hu : A.units + 1 < cLine) (h : Q (.bool (lt t u)) s) : wpAny (model prog w) A (richCompare .Lt (.ref a) (.ref b)) Q E s := by
  obtain ⟨⟨cls,dd,data,sl⟩,ho,hc,n,hdt⟩:=id h1
  obtain ⟨⟨cls2,dd2,data2,sl2⟩,ho2,hc2,n2,hdt2⟩:=id h2
  simp only at hc hdt hc2 hdt2
  subst hc hdt hc2 hdt2
  exact richCompare_meets_room (op:=.Lt) ⟨_,ho,rfl⟩ ⟨_,ho2,rfl⟩ PySem.F.slot_tuple_lt PySem.F.entry_tuple_lt (PySem.F.args_tuple_lt_2 _ _) (tuple_lt a b its.toArray its'.toArray n n2 dd dd2 sl sl2 t u)
    ⟨ho,ho2,by simpa using k1,by simpa using k2,by lia,show Value.bool (lt t u)≠Value.notImplemented∧Q (.bool (lt t u)) s from ⟨(fun x => nomatch x),h⟩⟩ (by lia)
theorem ask_gen {Q : Bool→Shared→Prop} (h1 : s.heap.IsTuple a its.toArray) (k1 : Is t its) (h2 : s.heap.IsTuple b its'.toArray) (k2 : Is u its') (hu : A.units + 1 < cLine) (h : Q (lt t u) s) : wpAny (model prog w) A (oneLt' false (.ref a) (.ref b)) Q E s := by
  rw [oneLt'_eq]
  simp only [Bool.false_eq_true,if_false]
  exact wpAny_bind (rc_lt h1 k1 h2 k2 hu (wpAny_truthy_bool h))
end
abbrev Tm:=List Int×List Int
def ltT (x y : Tm) : Bool:=if x.1 = y.1 then lt x.2 y.2 else lt x.1 y.1
theorem ltT_irrefl (x : Tm) : ltT x x = false := by unfold ltT; rw [if_pos rfl,lt_irrefl]
theorem ltT_total (x y : Tm) (h : ltT x y = false) (k : ltT y x = false) : x = y := by
  unfold ltT at h k
  by_cases e : x.1 = y.1
  · rw [if_pos e] at h
    rw [if_pos e.symm] at k
    exact Prod.ext e (lt_total _ _ h k)
  · rw [if_neg e] at h
    rw [if_neg (Ne.symm e)] at k
    exact absurd (lt_total _ _ h k) e
theorem ltT_trans (x y z : Tm) (h : ltT x y = true) (k : ltT y z = true) : ltT x z = true := by
  unfold ltT at h k ⊢
  by_cases e1 : x.1 = y.1
  · rw [if_pos e1] at h
    by_cases e2 : y.1 = z.1
    · rw [if_pos e2] at k
      rw [if_pos (e1.trans e2)]
      exact lt_trans _ _ _ h k
    · rw [if_neg e2] at k
      rw [if_neg (fun q => e2 (e1.symm.trans q)),e1]
      exact k
  · rw [if_neg e1] at h
    by_cases e2 : y.1 = z.1
    · rw [if_neg (fun q => e1 (q.trans e2.symm)),← e2]
      exact h
    · rw [if_neg e2] at k
      have:=lt_trans _ _ _ h k
      rw [if_neg (fun q => by rw [q,lt_irrefl] at this; cases this)]
      exact this
theorem ltT_negTrans (a b c : Tm) (h : ltT a c = true) : ltT a b = true∨ltT b c = true := by
  cases k : ltT a b with
  | true => exact .inl rfl
  | false =>
    right
    cases m : ltT b c with
    | true => rfl
    | false =>
      cases n : ltT b a with
      | true => have:=ltT_trans b a c n h; rw [m] at this; cases this
      | false => have:=ltT_total a b k n; subst this; rw [m] at h; cases h
def ordT : KeyOrd where
  α:=Tm
  blt:=ltT
  irrefl:=ltT_irrefl
  trans:=ltT_trans
  negTrans:=ltT_negTrans
  total:=ltT_total
def TermV (h : Heap) (k : Tm) (v : Value) : Prop:=∃ (a b c : Addr) (its its2 : List Value),v = .ref a∧h.IsTuple a [.ref b,.ref c].toArray∧h.IsTuple b its.toArray∧Is k.1 its∧h.IsTuple c its2.toArray∧Is k.2 its2
theorem TermV.ext {h h' : Heap} (e : GS.Ext h h') {k : Tm} {v : Value} (x : TermV h k v) : TermV h' k v := by
  obtain ⟨a,b,c,i1,i2,rfl,h1,h2,h3,h4,h5⟩:=x
  exact ⟨a,b,c,i1,i2,rfl,TH.tup_ext e h1,TH.tup_ext e h2,h3,TH.tup_ext e h4,h5⟩
section
open PySem.MeetsSeq PySem.MeetsSeq2 PySem.MeetsSeq3
variable {prog : Program} {w : World} {A : Around} {E : Value→Shared→Prop} {s : Shared}
theorem ask_term {x y : Tm} {u v : Value} {Q : Bool→Shared→Prop} (h1 : TermV s.heap x u) (h2 : TermV s.heap y v) (hu : A.units + 2 < cLine) (h : Q (ltT x y) s) : wpAny (model prog w) A (keyLt' (tuples' false) u v) Q E s := by
  obtain ⟨a,b,l,i1,i2,rfl,k1,k2,k3,k4,k5⟩:=h1
  obtain ⟨a',b',l',j1,j2,rfl,m1,m2,m3,m4,m5⟩:=h2
  obtain ⟨o,ho,hc,n,hd⟩:=id k1
  obtain ⟨o2,ho2,hc2,n2,hd2⟩:=id m1
  refine kat_lt ho hd ho2 hd2 ?_
  unfold ltT at h
  show KatLex prog w A false (decide (2 < 2)) Q [(.ref b,.ref b'),(.ref l,.ref l')] 0 s
  refine kat_cons (eqAt k2 k3 m2 m3 (by lia) prog w _ _ ?_)
  by_cases e1 : x.1 = y.1
  · rw [decide_eq_true e1]
    rw [if_pos e1] at h
    refine kat_yes (kat_cons (eqAt k4 k5 m4 m5 (by lia) prog w _ _ ?_))
    by_cases e2 : x.2 = y.2
    · rw [decide_eq_true e2]
      rw [e2,lt_irrefl] at h
      exact kat_yes (kat_nil h)
    · rw [decide_eq_false e2]
      exact kat_no (by rw [Bool.false_and]; exact ask_gen k4 k5 m4 m5 (by lia) h)
  · rw [decide_eq_false e1]
    rw [if_neg e1] at h
    exact kat_no (by rw [Bool.false_and]; exact ask_gen k2 k3 m2 m3 (by lia) h)
theorem TermV.tt {h : Heap} {x : Tm} {v : Value} (z : TermV h x v) : TH.TupTup h v := by
  obtain ⟨a,b,l,i1,i2,rfl,h1,h2,h3,h4,h5⟩:=z
  exact ⟨a,b,_,[.ref l],rfl,h1,h2⟩
theorem term_cmp {h0 : Heap} {ks : List Tm} {us : List Value} (hl : us.length = ks.length) (he : ∀ (i : Nat) (x : Tm) (u : Value),ks[i]? = some x→us[i]? = some u→TermV h0 x u) : GS.Cmp ordT prog w h0 2 ks us :=
  ⟨hl,fun κ => κ = tuples' false,fun A E s Q hx h => TH.kind_tt (fun v hv => by
    obtain ⟨i,hi,rfl⟩:=List.getElem_of_mem hv
    exact ((he i _ _ (List.getElem?_eq_getElem (by lia)) (List.getElem?_eq_getElem hi)).ext hx).tt) (h _ rfl),
   fun A s κ hx hr hκ E i j x y u v Q h1 h2 h3 h4 q => by
    subst hκ
    exact ask_term ((he i x u h3 h1).ext hx) ((he j y v h4 h2).ext hx) (by lia) q⟩
end
end IT
namespace DI
open PySem PySem.W PyProof.Rows PySem.SeqAt GS
section
variable {prog : Program} {w : World} {A : Around} {E : Value→Shared→Prop} {s : Shared} {d v : Addr} {ep : Nat} {es : Array DictEntry} {ks : List IT.Tm}
def EntV (h : Heap) (k : IT.Tm) (e : DictEntry) : Prop:=∃ (b c : Addr) (its its2 : List Value),e.key = .ref b∧e.val = .ref c∧h.IsTuple b its.toArray∧IT.Is k.1 its∧h.IsTuple c its2.toArray∧IT.Is k.2 its2
theorem sorted_items {b : Bool} {Q : Value→Shared→Prop} (hh : A.handled = none) (hv : s.heap.IsItemsView v d) (hm : RD s.heap d es ep) (hn : es.size < 64) (hl : ks.length = es.size) (he : ∀ (j : Nat) (k : IT.Tm) (e : DictEntry),ks[j]? = some k→es[j]? = some e→EntV s.heap k e) (hu : A.units + 4 < cLine)
    (h : ∀ (h' : Heap) (D tk : Nat) (ix : List Nat) (e1 : Nat) (as : List Addr),(∀ b u,s.heap.get? b = some u→h'.get? b = some u)→as.length = es.size→(∀ (j : Nat) (a : Addr),as[j]? = some a→s.heap.objs.size < a∧a < D∧∃ e,es[j]? = some e∧h'.get? a = some { cls:=.type "tuple",data:=.seq #[e.key,e.val] }) →
      h'.get? D = some (seqObj "list" (ix.map fun i => (as.map Value.ref).getD i Value.none).toArray e1)→ix.Perm (List.range es.size)→(ix.map fun i => ks.getD i ([],[])).Pairwise (fun x y => if b = true then IT.ordT.kle y x else IT.ordT.kle x y)→s.heap.objs.size≤D→Q (.ref D) { s with heap:=h',toks:=tk }) :
    wpAny (model prog w) A (call (.builtin "sorted") [.ref v] [(Str.ofString "reverse",.bool b)]) Q E s := by
  refine call_function_entry_kw kind_sorted plain_sorted entry_sorted (args_sorted_rev _ _) ?_
  unfold Builtin.«sorted»
  refine wpAny_bind (m:=checkCount "sorted" 1 1 _) (wpAny_pure ?_)
  refine wpAny_bind (gather (A:=A.in1) hh hv hm (by rw [sizeLine_eq]; lia) fun h1 tk as z1 k1 hal hG => ?_)
  have hus : (as.map Value.ref).length = es.size := by rw [List.length_map,hal]
  refine wpAny_bind (wpAny_newList ?_ (by rw [sizeLine_eq]; lia))
  have C : Cmp IT.ordT prog w h1 2 ks (as.map Value.ref):=IT.term_cmp (by rw [hus,hl]) fun i x u hx hu' => by
    rw [List.getElem?_map] at hu'
    obtain ⟨a,ha,rfl⟩:=Option.map_eq_some_iff.mp hu'
    obtain ⟨r1,e,r2,r3⟩:=hG i a ha
    obtain ⟨b,c,its,its2,q1,q2,q3,q4,q5,q6⟩:=he i x e hx r2
    refine ⟨a,b,c,its,its2,rfl,⟨_,r3,rfl,0,?_⟩,?_,q4,?_,q6⟩
    · rw [q1,q2]
    · obtain ⟨o,y,r⟩:=q3; exact ⟨o,k1 _ _ y,r⟩
    · obtain ⟨o,y,r⟩:=q5; exact ⟨o,k1 _ _ y,r⟩
  have hr : Runs IT.ordT prog w (if b then ks.reverse else ks) := by
    cases b with
    | true => exact runs_small (O:=IT.ordT) (ks:=ks.reverse) (show (ks.reverse : List IT.Tm).length < 64 by rw [List.length_reverse,hl]; exact hn)
    | false => exact runs_small (O:=IT.ordT) (ks:=ks) (show (ks : List IT.Tm).length < 64 by rw [hl]; exact hn)
  obtain ⟨g1,x2,fin⟩:=sorted_tail (s:={ s with heap:=h1,toks:=tk }) (h1:=h1) (T:=pure (.done (.ret .none))) (tk:=tk) (b := b) (([],[]) : IT.Tm) C (by lia) hr (fun _ _ e => e) (Nat.le_refl _)
    (Q:=fun x s' => ∃ (h' : Heap) (D tk : Nat) (ix : List Nat) (e1 : Nat),x = .ref D∧s' = { s with heap:=h',toks:=tk }∧h1.objs.size≤D∧Ext h1 h'∧h'.get? D = some (seqObj "list" (ix.map fun i => (as.map Value.ref).getD i Value.none).toArray e1)∧ix.Perm (List.range (as.map Value.ref).length)∧(ix.map fun i => ks.getD i ([],[])).Pairwise (fun x y => if b = true then IT.ordT.kle y x else IT.ordT.kle x y))
    (fun h' D tk ix e1 a1 a2 a3 a4 a5 => ⟨h',D,tk,ix,e1,rfl,rfl,a1,a2,a3,a4,a5⟩)
  refine wpAny_bind (wpAny_holding (wpAny_call_entry_kw slot_list_sort ⟨_,g1,rfl⟩ entry_list_sort ?_ (args_list_sort_rev _ _)))
  refine list_sort (s:={ s with heap:=h1.push (seqObj "list" (as.map Value.ref).toArray 0),toks:=tk }) (([],[]) : IT.Tm) C x2 (Nat.le_refl _) g1 (by lia) hr (by rw [show A.in1.in1.units = A.units + 2 from rfl]; lia) fun ix p1 p2 => ⟨_,rfl,?_⟩
  refine wpAny_pure ⟨_,rfl,?_⟩
  obtain ⟨h',D,tk',ix',e1,q1,q2,q3,q4,q5,q6,q7⟩:=fin ix p1 p2
  rw [q1]
  have:=h h' D tk' ix' e1 as (fun b u e => q4 _ _ (k1 b u e)) hal (fun j a hj => by
    obtain ⟨r1,e,r2,r3⟩:=hG j a hj
    exact ⟨r1,Nat.lt_of_lt_of_le (Heap.lt_size r3) q3,e,r2,q4 _ _ r3⟩) q5 (by rw [hus] at q6; exact q6) q7 (Nat.le_trans (Nat.le_of_lt z1) q3)
  rw [← q2] at this
  exact this
end
end DI
namespace L2
open PySem PySem.Spec PyProof.Rows
theorem Inv.many {X : Cx} {pins : List (Addr×Obj)} {σ : St} {H H' : Hp} {s : Shared} {h' : Heap} {t' : Nat} (I : Inv X pins σ H s) (k : ∀ b u,s.heap.get? b = some u→h'.get? b = some u) (hH : ∀ b,b < s.heap.objs.size→H' b = H b) (hok : HOk X.prog X.w H' h') :
    Inv X pins σ H' { s with heap:=h',toks:=t' } := by
  have lt : ∀ b o,H b = some o→b < s.heap.objs.size:=fun b o e => (I.hok b o e).lt
  have up : ∀ b o,H b = some o→H' b = some o:=fun b o e => by rw [hH b (lt b o e)]; exact e
  show Inv X pins σ H' { s with heap:=h',gens:=s.gens,drawn:=s.drawn,toks:=t' }
  refine I.step (h':=h') (ch:=[]) (fun b hb => nomatch hb) (fun b o _ _ _ e _ => k b o e) (fun b o _ _ _ e _ => ⟨o.slots,k b o e⟩) (fun b o _ e n => by rw [hH b (Heap.lt_size e)]; exact n) (fun b o _ e => ⟨o,k b o e⟩)
    (fun b xs e => up b _ e) (fun b o u e => up b _ e) (fun b ps e => ⟨#[],by rw [up b _ e]; simp⟩) (fun b _ o _ _ e => k b o e) (fun m hm => ?_) hok I.bare
  obtain ⟨o,es,ep,ho,r⟩:=hm
  exact ⟨o,es,ep,k _ o ho,r⟩
theorem is_of : ∀ {ps : List Int} {us : List Value},Vals (ps.map V.int) us→IT.Is ps us
  | [],_,r => by rw [List.map_nil] at r; cases r; rw [IT.Is]
  | p :: ps,_,r => by
    rw [List.map_cons] at r
    cases r with
    | cons h t =>
      obtain ⟨tk,rfl⟩:=h
      rw [IT.Is]
      exact ⟨tk,_,rfl,is_of t⟩
theorem items_rd {prog : Program} {w : World} (d : Addr) (nd : (d == sysModules) = false) :
    MeetsIn prog w (Builtin.«dict.items» ⟨[.ref d],[]⟩) (fun _ R s => (∃ es ep,DI.RD s.heap d es ep)∧R (.ok (.ret (.ref s.heap.objs.size))) { s with heap:=s.heap.push { cls:=.type "dict_items",data:=.fields #[.ref d] } }) :=
  .of_wp fun A R s ⟨⟨es,ep,o,r1,r2,r3⟩,h⟩ => by
    unfold Builtin.«dict.items»; refine wpAny_bind ?_; unfold Builtin.Dict.noArgs; refine wpAny_bind (wpAny_notOrdered_dict ⟨o,r1,r2.1⟩ ?_)
    refine wpAny_pure (show wpAny _ _ (Builtin.Dict.showsAll d >>= _) _ _ s from ?_)
    unfold Builtin.Dict.showsAll; rw [nd,if_neg Bool.false_ne_true]
    exact wpAny_bind (wpAny_pure (wpAny_bind (wpAny_newObj_type (wpAny_pure ⟨_,rfl,h⟩))))
def SortI (H1 : Hp) (x : V) (Q : VK) : Prop:=∃ (a : Addr) (kvs : List (List Key×V)) (ts : List IT.Tm),x = .ref a∧H1 a = some (.dT kvs)∧kvs.length < 64∧ts.length = kvs.length ∧
  (∀ (j : Nat) k v t,kvs[j]? = some (k,v)→ts[j]? = some t→k = t.1.map Sum.inl∧∃ c,v = .ref c∧H1 c = some (.tup (t.2.map V.int))) ∧
  ∀ (D : Addr) (H' : Hp) (zs : List V) (us : List IT.Tm),Same H1 H'→H1 D = none→H' D = some (.lst zs)→us.Perm ts→us.Pairwise (fun x y => IT.ordT.kle y x)→zs.length = us.length →
    (∀ (j : Nat) z t,zs[j]? = some z→us[j]? = some t→∃ p b c,z = .ref p∧H1 p = none∧H' p = some (.tup [.ref b,.ref c])∧H1 b = some (.tup (t.1.map V.int))∧H1 c = some (.tup (t.2.map V.int)))→Q (.ref D) H'
theorem map_kV (ps : List Int) : (ps.map (Sum.inl : Int→Key)).map kV = ps.map V.int := by rw [List.map_map]; rfl
theorem paired_at {α β : Type} {F : α→β→Prop} : ∀ {xs : List α} {ys : List β} {j : Nat} {x : α} {y : β},Paired F xs ys→xs[j]? = some x→ys[j]? = some y→F x y
  | _,_,j,x,y,.nil,h,_ => by simp at h
  | _,_,0,x,y,.cons f _,h,k => by simp at h k; subst h k; exact f
  | _,_,j + 1,x,y,.cons _ r,h,k => paired_at r (by simpa using h) (by simpa using k)
theorem perm_getD {α : Type} (d : α) (ts : List α) {ix : List Nat} (h : ix.Perm (List.range ts.length)) : (ix.map fun i => ts.getD i d).Perm ts := by
  have e : (List.range ts.length).map (fun i => ts.getD i d) = ts := by
    apply List.ext_getElem
    · simp
    · intro i h1 h2
      simp at h1
      simp [h1]
  have:=h.map fun i => ts.getD i d
  rwa [e] at this
theorem refs_vals : ∀ as : List Addr,Vals (as.map V.ref) (as.map Value.ref)
  | [] => .nil
  | a :: as => .cons rfl (refs_vals as)
def tupAt (h : Heap) (y : Addr) : Option HO:=match (h.get? y).map (fun o : Obj => o.data) with
  | some (Data.seq its _) => match its.toList with
    | [Value.ref b,Value.ref c] => some (.tup [.ref b,.ref c])
    | _ => none
  | _ => none
theorem sortI_fin {X : Cx} {pins : List (Addr×Obj)} {σ : St} {H : Hp} {s : Shared} {Q : VK} (I : Inv X pins σ H s) {x : V} {v : Value} (rx : RelV x v) (hc : X.calm = true) (hu : X.A.units + 64 < cLine) (q : SortI H x Q) :
    ∃ (a : Addr) (es : Array DictEntry) (ep : Nat),v = .ref a∧(a == sysModules) = false∧DI.RD s.heap a es ep ∧
      wpAny (model X.prog X.w) X.A (call (.builtin "sorted") [.ref s.heap.objs.size] [(Str.ofString "reverse",.bool true)]) (EP X pins σ Q) X.xe { s with heap:=s.heap.push { cls:=.type "dict_items",data:=.fields #[.ref a] } } := by
  obtain ⟨a,kvs,ts,rfl,ha,h64,hts,hterm,q⟩:=q
  cases rx
  obtain ⟨hz,nd,xs,kt,o,es,ep,r1,r2,r3,r4,r5,r6⟩:=dt_of I.hok ha
  refine ⟨a,es,ep,rfl,nd,⟨o,r1,r2,r3⟩,?_⟩
  have hlen : es.size = kvs.length := by rw [size_of_entries r4]; exact (Paired.length kt).symm
  have I2 : Inv X pins σ H { s with heap:=s.heap.push { cls:=.type "dict_items",data:=.fields #[.ref a] } }:=I.kept (t':=s.toks) fun b ob e => Heap.get?_push_of_some _ e
  have ent : ∀ (j : Nat) (e : DictEntry),es[j]? = some e→∃ k w x,kvs[j]? = some (k,w)∧xs[j]? = some x∧e.key = .ref x.2.1∧e.val = x.2.2∧H x.2.1 = some (.tup (k.map kV))∧RelV w x.2.2:=fun j e he => by
    rw [entry_at r4 j] at he
    obtain ⟨x,hx,rfl⟩:=Option.map_eq_some_iff.mp he
    have hj : j < kvs.length := by rw [Paired.length kt]; exact (List.getElem?_eq_some_iff.mp hx).1
    obtain ⟨kv,hkv⟩ : ∃ kv,kvs[j]? = some kv:=⟨kvs[j],by simp [hj]⟩
    have:=paired_at kt hkv hx
    exact ⟨kv.1,kv.2,x,hkv,hx,rfl,rfl,this.1 ▸ this.2.1,this.2.2⟩
  have trm : ∀ (j : Nat) (t : IT.Tm) (e : DictEntry),ts[j]? = some t→es[j]? = some e→∃ b c,e.key = .ref b∧e.val = .ref c∧H b = some (.tup (t.1.map V.int))∧H c = some (.tup (t.2.map V.int)):=fun j t e ht he => by
    obtain ⟨k,w,x,h1,h2,h3,h4,h5,h6⟩:=ent j e he
    obtain ⟨rfl,c,rfl,h7⟩:=hterm j k w t h1 ht
    rw [map_kV] at h5
    refine ⟨x.2.1,c,h3,?_,h5,h7⟩
    rw [h4]
    obtain ⟨xk,xb,xv⟩:=x
    cases h6
    rfl
  have entV : ∀ (j : Nat) (k : IT.Tm) (e : DictEntry),ts[j]? = some k→es[j]? = some e→DI.EntV (s.heap.push { cls:=.type "dict_items",data:=.fields #[.ref a] }) k e:=fun j k e hk he => by
    obtain ⟨b,c,h1,h2,h3,h4⟩:=trm j k e hk he
    obtain ⟨i1,v1,p1,_⟩:=I2.tuple (SqT.of (K:=X.K) h3)
    obtain ⟨i2,v2,p2,_⟩:=I2.tuple (SqT.of (K:=X.K) h4)
    exact ⟨b,c,i1,i2,h1,h2,p1,is_of v1,p2,is_of v2⟩
  refine DI.sorted_items (s:={ s with heap:=s.heap.push { cls:=.type "dict_items",data:=.fields #[.ref a] } }) (b:=true) (ks:=ts) (d:=a) (es:=es) (ep:=ep) (I.ok.hd hc) ⟨_,Heap.get?_push_size _ rfl,rfl,rfl⟩ ⟨o,Heap.get?_push_of_some _ r1,r2,r3⟩ (by lia) (by lia) entV (by lia) fun h' D tk ix e1 as keep hal hG hD hp hs hge => ?_
  have hsz : (s.heap.push { cls:=.type "dict_items",data:=.fields #[.ref a] }).objs.size = s.heap.objs.size + 1:=Heap.size_push ..
  simp only [hsz] at hG hge
  have ixl : ix.length = kvs.length := by rw [hp.length_eq,List.length_range]; exact hlen
  have ixm : ∀ i∈ix,i < kvs.length:=fun i hi => by
    have:=(hp.mem_iff (a:=i)).mp hi
    rw [List.mem_range] at this
    lia
  have szD : D < h'.objs.size:=Heap.lt_size hD
  have at_ : ∀ j a',as[j]? = some a'→∃ (b c : Addr) (t : IT.Tm),ts[j]? = some t∧h'.get? a' = some { cls:=.type "tuple",data:=.seq #[.ref b,.ref c] }∧H b = some (.tup (t.1.map V.int))∧H c = some (.tup (t.2.map V.int))∧s.heap.objs.size < a'∧a' < D:=fun j a' hj => by
    obtain ⟨h1,h2,e,h3,h4⟩:=hG j a' hj
    have hjk : j < ts.length := by
      rw [hts,← hlen,← hal]
      exact (List.getElem?_eq_some_iff.mp hj).1
    obtain ⟨t,ht⟩ : ∃ t,ts[j]? = some t:=⟨ts[j],by simp [hjk]⟩
    obtain ⟨b,c,k1,k2,k3,k4⟩:=trm j t e ht h3
    rw [k1,k2] at h4
    exact ⟨b,c,t,ht,h4,k3,k4,by lia,h2⟩
  let zs : List V:=ix.map fun i => (as.map V.ref).getD i .non
  let H' : Hp:=fun y => if y = D then some (.lst zs) else if y∈as then tupAt h' y else H y
  have hHD : H' D = some (.lst zs):=if_pos rfl
  have hHa : ∀ (j : Nat) a' b c,as[j]? = some a'→h'.get? a' = some { cls:=.type "tuple",data:=.seq #[.ref b,.ref c] }→H' a' = some (.tup [.ref b,.ref c]):=fun j a' b c hj hb => by
    obtain ⟨_,_,_,_,_,_,_,_,hlt⟩:=at_ j a' hj
    show (if a' = D then _ else _) = _
    rw [if_neg (Nat.ne_of_lt hlt),if_pos (List.mem_of_getElem? hj)]
    unfold tupAt
    rw [hb]
    rfl
  have hHo : ∀ y,y < s.heap.objs.size + 1→H' y = H y:=fun y hy => by
    have hyD : y≠D := by lia
    show (if y = D then _ else _) = _
    rw [if_neg hyD]
    refine if_neg fun hm => ?_
    obtain ⟨j,hj⟩:=List.getElem?_of_mem hm
    obtain ⟨_,_,_,_,_,_,_,h1,_⟩:=at_ j y hj
    lia
  have up : ∀ b o,H b = some o→H' b = some o:=fun b o e => by
    rw [hHo b (Nat.lt_succ_of_lt (I.hok b o e).lt)]; exact e
  have hok : HOk X.prog X.w H' h':=fun y u e => by
    by_cases hyD : y = D
    · subst hyD
      rw [hHD] at e
      cases e
      refine ⟨?_,_,e1,?_,hD⟩
      · show (ix.map _).length≤sizeLine
        rw [List.length_map,ixl]
        exact hz
      · exact Vals.pick (refs_vals as) ix fun i hi => by rw [List.length_map,hal,hlen]; exact ixm i hi
    · by_cases hm : y∈as
      · obtain ⟨j,hj⟩:=List.getElem?_of_mem hm
        obtain ⟨b,c,t,h1,h2,h3,h4,_,_⟩:=at_ j y hj
        rw [hHa j y b c hj h2] at e
        cases e
        exact ⟨sz2,[.ref b,.ref c],.cons rfl (.cons rfl .nil),_,h2,rfl,_,rfl⟩
      · have e' : H y = some u := by
          have : H' y = H y := by
            show (if y = D then _ else _) = _
            rw [if_neg hyD,if_neg hm]
          rw [this] at e
          exact e
        exact (I.hok y u e').stay (fun b o _ z => keep b o (Heap.get?_push_of_some _ z)) (fun b z => up _ _ z) fun b xs z => up _ _ z
  have I3 : Inv X pins σ H' { s with heap:=h',toks:=tk }:=I.many (fun b u e => keep b u (Heap.get?_push_of_some _ e)) (fun b hb => hHo b (by lia)) hok
  refine ⟨.ref D,H',I3,rfl,q D H' zs (ix.map fun i => ts.getD i ([],[])) up (I.hok.fresh (by lia)) hHD (perm_getD _ ts (by rw [hts,← hlen]; exact hp)) ?_ (by simp [zs]) fun j z t hz' ht => ?_⟩
  · simpa using hs
  · have hj : j < ix.length := by
      have:=(List.getElem?_eq_some_iff.mp ht).1
      simpa using this
    have hix : ix[j]? = some ix[j] := by simp [hj]
    have hi:=ixm ix[j] (List.getElem_mem hj)
    have k1 : z = .ref (as[ix[j]]'(by rw [hal,hlen]; exact hi)) := by
      have : zs[j]? = some ((as.map V.ref).getD ix[j] .non) := by
        show (ix.map _)[j]? = _
        rw [List.getElem?_map,hix]; rfl
      rw [this] at hz'
      cases hz'
      simp [List.getD_eq_getElem?_getD,List.getElem?_map,show ix[j] < as.length by rw [hal,hlen]; exact hi]
    have k2 : t = ts[ix[j]]'(by rw [hts]; exact hi) := by
      rw [List.getElem?_map,hix] at ht
      simp [List.getD_eq_getElem?_getD,show ix[j] < ts.length by rw [hts]; exact hi] at ht
      exact ht.symm
    obtain ⟨b,c,t',h1,h2,h3,h4,h5,h6⟩:=at_ ix[j] (as[ix[j]]'(by rw [hal,hlen]; exact hi)) (List.getElem?_eq_getElem _)
    have k3 : t' = t := by
      rw [k2]
      rw [List.getElem?_eq_getElem (by rw [hts]; exact hi)] at h1
      exact (Option.some.inj h1).symm
    subst k3
    exact ⟨_,b,c,k1,I.hok.fresh (by lia),hHa _ _ b c (List.getElem?_eq_getElem _) h2,h3,h4⟩
def tSortI (to : TE) : TE:=fun σ H Q => to σ H fun x H1 => SortI H1 x Q
theorem pe_sortI {X : Cx} {o : Expr} {to : TE} {p pos apos cpos kp kp2 : Pos} {j} (hc : X.calm = true) (hu : X.A.units + 64 < cLine) (hg : Gl X "sorted") (hm : X.mg "sorted" = none) (ho : PE X o to)
    (hbase : attributeBase o "items" X.env (eval o X.env) = eval o X.env := by rfl) (hline : (apos.endLine == cpos.line) = true := by rfl)
    (he : backTo pos (starEach [.Call (.Attribute o "items" apos) [] [] cpos] X.env) = (false,eval (.Call (.Attribute o "items" apos) [] [] cpos) X.env) :: backTo pos (starEach [] X.env) := by rfl) (hplain : (backTo pos (starEach [.Call (.Attribute o "items" apos) [] [] cpos] X.env)).any (·.1) = false := by rfl) :
    PE X (.Call (.Name "sorted" p) [.Call (.Attribute o "items" apos) [] [] cpos] [⟨some "reverse",.Constant (.bool true) j kp2,kp⟩] pos) (tSortI to) := by
  intro pins s σ H Q I h
  refine wpAny_Call_Name_kw (ld_blt I hg hm boot_sorted ?_ (by decide) (by decide))
  refine callWith_kw ?_ he hplain
  rw [he]
  refine Calls.spliced_cons (wpAny_Call_method0_late hbase hline (thn (ho pins s σ H _ I h) fun v s1 ⟨x,H1,I1,r1,q1⟩ => ?_))
  obtain ⟨a,es,ep,rfl,nd,rd,fin⟩:=sortI_fin I1 r1 hc hu q1
  obtain ⟨ob,e1,e2,e3⟩:=id rd
  refine ⟨"dict", "dict.items",PySem.F.plainAttrs_dict,PySem.F.slot_dict_items,PySem.F.type_dict_items,⟨ob,e1,e2.1⟩,fun b hb => ?_,Calls.callWith_builtin rfl (PySem.evalArgs_none ?_)⟩
  · cases hb
    exact ⟨ob,e1,e2.2.1⟩
  refine call_meetsIn PySem.F.slot_dict_items ⟨ob,e1,e2.1⟩ PySem.F.entry_dict_items (PySem.F.args_dict_items_1 _) (items_rd a nd) ⟨⟨es,ep,rd⟩,?_⟩
  exact Calls.spliced_nil (kws_cons (Constant_bool (kws_nil fin)))
end L2
namespace TH
open PySem PyProof.Rows PySem.SeqAt
def hashL : Tr→List Int
  | .nil => []
  | .cons b r => reduceHash (Builtin.Tuple.tupleHashOf (hashL b)) :: hashL r
def hashT (t : Tr) : Int:=reduceHash (Builtin.Tuple.tupleHashOf (hashL t))
end TH
namespace TH
open PySem PyProof.Rows PySem.SeqAt
section
variable {prog : Program} {w : World} {A : Around} {E : Value→Shared→Prop} {s : Shared}
theorem gather {T : String} {r d : Addr} {n : Nat} {P : Nat→Value→Prop} {OK : Heap→Prop} {R : List Value→Shared→Prop} (K : PySem.W.KdlSrc prog w T r d n P OK) (hA : A.handled = none) (hok : OK s.heap) (hn : n≤sizeLine)
    (k : ∀ (h1 : Heap) (tk : Nat) (acc : Array Value),s.heap.objs.size < h1.objs.size→(∀ b u,s.heap.get? b = some u→h1.get? b = some u)→ItemsOf P acc n→R acc.toList { s with heap:=h1,toks:=tk }) :
    wpAny (model prog w) A (collect (.ref r)) R E s := by
  obtain ⟨lr,ld⟩:=K.there _ hok
  unfold collect
  refine wpAny_bind (wpAny_runValue (codeAny_builtin entry_proto_collect' ?_))
  rw [Around.under_plainId PySem.F.plain_proto_collect _]
  show wpAny _ A.in1 (newList [] >>= fun v => again (.builtin "list.__iadd__" ⟨[v,.ref r],[]⟩)) _ _ s
  refine wpAny_bind (wpAny_newObj_type (wpAny_pure ⟨plainId_quiet PySem.F.plain_list_iadd _,codeAny_builtin entry_list_iadd' ?_⟩))
  rw [Around.under_plainId PySem.F.plain_list_iadd _]
  have g0 : (s.heap.push { cls:=.type "list",data:=.seq ([] : List Value).toArray }).get? s.heap.objs.size = some { cls:=.type "list",data:=.seq #[] }:=Heap.get?_push_size _ rfl
  have main:=PySem.W.kdl_extend (A:=A) (s:={ s with heap:=s.heap.push { cls:=.type "list",data:=.seq ([] : List Value).toArray } }) K hA
    (K.keep _ _ hok fun _ _ _ e => Heap.get?_push_of_some _ e) s.heap.objs.size (Nat.ne_of_gt lr) (Nat.ne_of_gt ld) (.ref s.heap.objs.size) 0 g0
    (R:=fun q s1 => ∃ h1 tk acc c,q = .ok (.ret (.ref s.heap.objs.size))∧s1 = { s with heap:=h1,toks:=tk }∧(∀ b u,s.heap.get? b = some u→h1.get? b = some u)∧h1.get? s.heap.objs.size = some { cls:=.type "list",dict:=none,data:=.seq acc c,slots:=#[] }∧ItemsOf P acc n)
    (fun h1 tk acc c k1 g1 ha => ⟨h1,tk,acc,c,rfl,rfl,fun b u e => k1 b u (Nat.ne_of_lt (Heap.lt_size e)) (Heap.get?_push_of_some _ e),g1,ha⟩) hn
  refine wpAny_mono main (fun fin s1 x => ?_) fun e s1 x => ?_
  · cases fin with
    | done f =>
      obtain ⟨h1,tk,acc,c,e,rfl,k1,g1,ha⟩:=x
      cases e
      show wpAny _ A (load s.heap.objs.size >>= _) _ _ _
      exact wpAny_bind (wpAny_load g1 (wpAny_pure (k h1 tk acc (Heap.lt_size g1) k1 ha)))
    | again c1 =>
      refine ⟨x.1,codeAny_mono x.2 fun q s2 y => ?_⟩
      obtain ⟨h1,tk,acc,c,rfl,rfl,k1,g1,ha⟩:=y
      show wpAny _ A (load s.heap.objs.size >>= _) _ _ _
      exact wpAny_bind (wpAny_load g1 (wpAny_pure (k h1 tk acc (Heap.lt_size g1) k1 ha)))
  · obtain ⟨_,_,_,_,z,_⟩:=x
    cases z
end
end TH
namespace TH
open PySem PyProof.Rows
def kHash : Option Tr→Int
  | none => 4238894112
  | some t => hashT t
abbrev KE:=Option Tr×Value×Value
def entN (x : KE) : DictEntry:=⟨kHash x.1,x.2.1,x.2.2⟩
end TH
namespace L2
open PySem PySem.Spec PyProof.Rows
abbrev KR:=Option Tr×V×V
def KRel (q : KR) (x : TH.KE) : Prop:=x.1 = q.1∧RelV q.2.1 x.2.1∧RelV q.2.2 x.2.2
def dN (d : Addr) (r : List KR) : HO:=.ext fun h => (d == sysModules) = false∧∃ o es ep xs,h.get? d = some o∧o.ExactDict∧o.data = .dict es ep∧es.toList = xs.map TH.entN∧PySem.Paired KRel r xs
def KeyV (H : Hp) : Option Tr→V→Prop
  | none,v => v = .non
  | some t,v => t.deep < 8∧Tv H t v
end L2
set_option maxHeartbeats 1000000
namespace L2
open PySem PySem.Spec PyProof.Rows
def rowD : Tr→List PyData
  | .nil => []
  | .cons b r => .tuple (rowD b) :: rowD r
def keyD : Option Tr→PyData
  | none => .none
  | some t => .tuple (rowD t)
mutual
def Du (H : Hp) : PyData→V→Prop
  | .none,v => v = .non
  | .bool b,v => v = .bl b
  | .int i,v => v = .int i
  | .str x,v => v = .str x
  | .tuple ds,v => ∃ a xs,v = .ref a∧H a = some (.tup xs)∧DuA H ds xs
  | .list ds,v => ∃ a xs,v = .ref a∧H a = some (.lst xs)∧DuA H ds xs
  | .dict kv,v => (∃ ea C : Addr,kv = [(.int (C : Nat),.none)]∧v = .ref ea∧H ea = some (excO ea (.ref C)))∨(∃ (a : Addr) (ns : List Int),kv = [(.none,.list (ns.map .int))]∧v = .ref a∧Rd H a (.lst (ns.map V.int)))∨DuM H kv v
def DuA (H : Hp) : List PyData→List V→Prop
  | [],xs => xs = []
  | d :: ds,xs => ∃ x r,xs = x :: r∧Du H d x∧DuA H ds r
def DuM (H : Hp) : List (PyData×PyData)→V→Prop
  | [],_ => False
  | (k0,d0) :: t,v => k0 = .bool true∧d0 = .none∧∃ a r,v = .ref a∧H a = some (dN a r)∧(r.map (·.1)).Nodup∧DuK H t r
def DuK (H : Hp) : List (PyData×PyData)→List KR→Prop
  | [],r => r = []
  | (k,d) :: t,r => ∃ q r',r = q :: r'∧k = keyD q.1∧KeyV H q.1 q.2.1∧Du H d q.2.2∧DuK H t r'
end
theorem DuA.nil {H : Hp} : DuA H [] [] := by rw [DuA]
theorem DuA.cons {H : Hp} {d : PyData} {ds : List PyData} {x : V} {xs : List V} (h : Du H d x) (k : DuA H ds xs) : DuA H (d :: ds) (x :: xs) := by rw [DuA]; exact ⟨x,xs,rfl,h,k⟩
theorem DuA.un {H : Hp} {d : PyData} {ds : List PyData} {xs : List V} (h : DuA H (d :: ds) xs) : ∃ x r,xs = x :: r∧Du H d x∧DuA H ds r := by rw [DuA] at h; exact h
theorem DuA.nil_eq {H : Hp} {xs : List V} (h : DuA H [] xs) : xs = [] := by rw [DuA] at h; exact h
section
variable  {e : Expr}  {h : Dv→Option PyData}  
theorem DuA.un1 {H : Hp} {d : PyData} {xs : List V} (h : DuA H [d] xs) : ∃ x,xs = [x]∧Du H d x := by
  obtain ⟨x,r,rfl,h1,h2⟩:=h.un
  rw [h2.nil_eq]; exact ⟨x,rfl,h1⟩
theorem DuA.un2 {H : Hp} {d e : PyData} {xs : List V} (h : DuA H [d,e] xs) : ∃ x y,xs = [x,y]∧Du H d x∧Du H e y := by
  obtain ⟨x,r,rfl,h1,h2⟩:=h.un
  obtain ⟨y,rfl,h3⟩:=h2.un1; exact ⟨x,y,rfl,h1,h3⟩
end
open PySem
end L2
set_option maxHeartbeats 2000000
set_option maxHeartbeats 1000000
set_option maxHeartbeats 4000000
set_option maxHeartbeats 1000000
set_option maxHeartbeats 4000000
set_option maxHeartbeats 1000000
set_option maxHeartbeats 4000000
set_option maxHeartbeats 1000000
set_option maxHeartbeats 4000000
set_option maxHeartbeats 1000000
set_option maxHeartbeats 4000000
set_option maxHeartbeats 1000000
set_option maxHeartbeats 2000000
set_option maxHeartbeats 4000000
namespace Tim
open PySem PyProof.Rows
def mergeHi' : Array Keyed→Array Keyed→StateT SortSt Sem (Array Keyed):=sortPriv% PySem.Builtin.mergeHi
def En (N : Nat) (a : Array Nat) : Prop:=∀ (i : Nat) (x : Nat),a[i]? = some x→x < N
section
variable {N : Nat} {a : Array Nat}
theorem En.get (h : En N a) {i : Nat} (hi : i < a.size) : ∃ x,a[i]? = some x∧x < N:=⟨a[i],Array.getElem?_eq_getElem hi,h i _ (Array.getElem?_eq_getElem hi)⟩
theorem en_mem : En N a ↔ ∀ x∈a,x < N := by
  constructor
  · intro h x hx
    obtain ⟨i,hi,rfl⟩:=Array.getElem_of_mem hx
    exact h i _ (Array.getElem?_eq_getElem hi)
  · intro h i x hx
    exact h x (Array.mem_of_getElem? hx)
theorem En.ext (h : En N a) {i j : Nat} : En N (a.extract i j):=fun k x hx => by
  have hk:=(Array.getElem?_eq_some_iff.mp hx).1
  rw [Array.getElem?_extract] at hx
  split at hx
  · exact h _ _ hx
  · cases hx
end
section
variable {M : Model} {A : Around} {E : Value→Shared→Prop} {s : Shared} {σ : Type}
theorem wpS_invL {β : Type} {body : Nat→β→StateT σ Sem (ForInStep β)} (I : Nat→β→σ→Prop) {Q : β→σ→Prop} {n : Nat}
    (hs : ∀ x i b st,i < n→I i b st→wpS M A E s (body x b) (fun r st' => match r with | .yield b' => I (i + 1) b' st' | .done b' => Q b' st') st) (he : ∀ b st,I n b st→Q b st) :
    ∀ (l : List Nat) (i : Nat) (b : β) (st : σ),i + l.length = n→I i b st→wpS M A E s (forIn l b body) Q st
  | [],i,b,st,h,q => by
    rw [List.forIn_nil]
    exact wpS_pure (he b st (by rw [← h]; exact q))
  | x :: l,i,b,st,h,q => by
    rw [List.forIn_cons]
    rw [List.length_cons] at h
    refine wpS_bind (wpS_mono (hs x i b st (by lia) q) fun r st' k => ?_)
    cases r with
    | done b' => exact wpS_pure k
    | yield b' => exact wpS_invL I hs he l (i + 1) b' st' (by lia) k
theorem wpS_inv {β : Type} {lo hi : Nat} {body : Nat→β→StateT σ Sem (ForInStep β)} (I : Nat→β→σ→Prop) {Q : β→σ→Prop} {b : β} {st : σ} (h0 : I 0 b st)
    (hs : ∀ x i b st,i < hi - lo→I i b st→wpS M A E s (body x b) (fun r st' => match r with | .yield b' => I (i + 1) b' st' | .done b' => Q b' st') st) (he : ∀ b st,I (hi - lo) b st→Q b st) :
    wpS M A E s (forIn [lo:hi] b body) Q st := by
  rw [Std.Legacy.Range.forIn_eq_forIn_range']
  have hsz : ([lo:hi] : Std.Legacy.Range).size = hi - lo := by simp [Std.Legacy.Range.size]
  show wpS M A E s (forIn (List.range' lo ([lo:hi] : Std.Legacy.Range).size 1) b body) Q st
  rw [hsz]
  exact wpS_invL I hs he _ 0 b st (by rw [List.length_range']; lia) h0
end
theorem iter_inv {T : Type} {step : T→Option (Bool×T)} (I : Nat→T→Prop) (R : T→Prop) (hs : ∀ f t,I (f + 1) t→∃ b t',step t = some (b,t')∧(if b = true then R t' else I f t')) (he : ∀ t,I 0 t→R t) : ∀ n t,I n t→∃ t',iter step n t = some t'∧R t'
  | 0,t,h => ⟨t,rfl,he t h⟩
  | n + 1,t,h => by
    obtain ⟨b,t',h1,h2⟩:=hs n t h
    cases b with
    | true => exact ⟨t',by rw [iter,h1],by simpa using h2⟩
    | false =>
      obtain ⟨t2,h3,h4⟩:=iter_inv I R hs he n t' (by simpa using h2)
      exact ⟨t2,by rw [iter,h1]; exact h3,h4⟩
section
variable {N : Nat} {lt : Nat→Nat→Bool} 
theorem cmp_some {i j : Nat} (hi : i < N) (hj : j < N) : cmp N lt i j = some (lt i j):=if_pos ⟨hi,hj⟩
end
end Tim
namespace Tim
open PySem PyProof.Rows
section
variable {prog : Program} {w : World} {A : Around} {E : Value→Shared→Prop} {s : Shared} {N : Nat}  {κ : SortKind} {it : Nat→Keyed} {p : Array Nat} {pend : Array (Nat×Nat×Nat)} {g : Nat}
def Kn (N x : Nat) : Prop:=x < N
theorem set_p {m : Nat} {β : Type} {f : Unit→StateT SortSt Sem β} {Q : β→SortSt→Prop} (q : wpS (model prog w) A E s (f ()) Q (St κ it p pend m)) : wpS (model prog w) A E s ((sortPriv% PySem.Builtin.setMinGallop) m >>= f) Q (St κ it p pend g):=wpS_bind (wpS_modify q)
theorem if_p {c : Prop} [Decidable c] {β : Type} {x y : StateT SortSt Sem β} {Q : β→SortSt→Prop} {st : SortSt} (h1 : c→wpS (model prog w) A E s x Q st) (h2 : ¬ c→wpS (model prog w) A E s y Q st) : wpS (model prog w) A E s (if c then x else y) Q st := by
  by_cases z : c
  · rw [if_pos z]; exact h1 z
  · rw [if_neg z]; exact h2 z
theorem if_q {x y : Nat} {i : Decidable ((x == y) = true)} {β : Type} {u v : StateT SortSt Sem β} {Q : β→SortSt→Prop} {st : SortSt} (h1 : x = y→wpS (model prog w) A E s u Q st) (h2 : x≠y→wpS (model prog w) A E s v Q st) : wpS (model prog w) A E s (if (x == y) = true then u else v) Q st := by
  split
  · rename_i z; exact h1 (beq_iff_eq.mp z)
  · rename_i z; exact h2 fun e => z (beq_iff_eq.mpr e)
theorem if_two {c : Prop} {ic : Decidable c} {β : Type} {x y : StateT SortSt Sem β} {Q : β→SortSt→Prop} {st : SortSt} {F : Nat→StateT SortSt Sem β} {a b : Nat} (hx : x = F a) (hy : y = F b) (h : ∀ m,wpS (model prog w) A E s (F m) Q st) : wpS (model prog w) A E s (if c then x else y) Q st := by
  subst hx hy
  split
  · exact h _
  · exact h _
end
end Tim
namespace Tim
open PySem PyProof.Rows
section
variable {N : Nat}  
theorem En.perm {a b : Array Nat} (h : En N a) (k : b.Perm a) : En N b:=en_mem.mpr fun x hx => en_mem.mp h x (by
  have:=k.mem_iff (a:=x)
  exact this.mp hx)
end
end Tim
namespace Tim
open PySem PyProof.Rows
theorem bis_is {b : Nat→Option Bool} {β : Nat→Bool} {n : Nat} (hb : ∀ i,i < n→b i = some (β i)) (an : ∀ i j,i≤j→j < n→β j = true→β i = true) {lo hi : Nat} (hl : lo≤hi) (hh : hi≤n) (h1 : ∀ i,i < lo→β i = true) (h2 : ∀ i,hi≤i→i < n→β i = false) :
    ∃ t',iter (bisS b) n (lo,hi) = some t'∧t'.2≤n∧(∀ i,i < t'.2→β i = true)∧∀ i,t'.2≤i→i < n→β i = false := by
  refine iter_inv (fun f t => t.1≤t.2∧t.2≤n∧t.2 - t.1≤f∧(∀ i,i < t.1→β i = true)∧∀ i,t.2≤i→i < n→β i = false) (fun t => t.2≤n∧(∀ i,i < t.2→β i = true)∧∀ i,t.2≤i→i < n→β i = false) (fun f t h => ?_) (fun t h => ?_) n (lo,hi) ⟨hl,hh,by show hi - lo≤n; lia,h1,h2⟩
  · obtain ⟨a1,a2,a3,a4,a5⟩:=h
    unfold bisS
    by_cases z : t.1 ≥ t.2
    · exact ⟨true,t,if_pos z,by rw [if_pos rfl]; exact ⟨a2,fun i hi => a4 i (by lia),a5⟩⟩
    · rw [if_neg z,hb (t.1 + (t.2 - t.1) / 2) (by lia)]
      cases e : β (t.1 + (t.2 - t.1) / 2) with
      | true =>
        refine ⟨false,_,rfl,?_⟩
        simp only [Bool.false_eq_true,if_false]
        exact ⟨by lia,a2,by lia,fun i hi => an i _ (by lia) (by lia) e,a5⟩
      | false =>
        refine ⟨false,_,rfl,?_⟩
        simp only [Bool.false_eq_true,if_false]
        refine ⟨by lia,by lia,by lia,a4,fun i h1 h2 => ?_⟩
        cases q : β i with
        | false => rfl
        | true => rw [an _ i h1 h2 q] at e; cases e
  · obtain ⟨a1,a2,a3,a4,a5⟩:=h
    exact ⟨a2,fun i hi => a4 i (by lia),a5⟩
theorem gal_is {b : Nat→Option Bool} {β : Nat→Bool} {n hint : Nat} (hb : ∀ i,i < n→b i = some (β i)) (an : ∀ i j,i≤j→j < n→β j = true→β i = true) (hh : hint < n) : ∃ k,galT b n hint = some k∧k≤n∧(∀ i,i < k→β i = true)∧∀ i,k≤i→i < n→β i = false := by
  have na : ∀ i j,i≤j→j < n→β i = false→β j = false:=fun i j h1 h2 e => by
    cases q : β j with
    | false => rfl
    | true => rw [an i j h1 h2 q] at e; cases e
  unfold galT
  rw [hb hint hh]
  cases e0 : β hint with
  | true =>
    obtain ⟨t,h1,l1,l2,l3,l4⟩:=iter_inv (step:=upS b hint (n - hint)) (fun f t => t.1 < t.2∧hint + t.1 < n∧β (hint + t.1) = true∧n + 1≤t.2 + f) (fun t => t.1 < t.2∧hint + t.1 < n∧β (hint + t.1) = true∧(n - hint≤t.2∨(t.2 < n - hint∧β (hint + t.2) = false))) (fun f t h => by
      obtain ⟨a1,a2,a3,a4⟩:=h
      unfold upS
      by_cases z : t.2 ≥ n - hint
      · exact ⟨true,t,if_pos z,by rw [if_pos rfl]; exact ⟨a1,a2,a3,.inl z⟩⟩
      · rw [if_neg z,hb (hint + t.2) (by lia)]
        cases e : β (hint + t.2) with
        | true => exact ⟨false,_,rfl,by simp only [Bool.false_eq_true,if_false]; exact ⟨by lia,by lia,e,by lia⟩⟩
        | false => exact ⟨true,t,rfl,by rw [if_pos rfl]; exact ⟨a1,a2,a3,.inr ⟨by lia,e⟩⟩⟩) (fun t h => ⟨h.1,h.2.1,h.2.2.1,.inl (by lia)⟩) n (0,1) ⟨by decide,hh,e0,by show n + 1≤1 + n; lia⟩
    dsimp only
    rw [h1]
    obtain ⟨t2,h2,k1,k2,k3⟩ := bis_is hb an (lo:=hint + t.1 + 1) (hi:=hint + min t.2 (n - hint)) (by lia) (by lia) (fun i hi => an i _ (by lia) l2 l3) (fun i h1 h2 => by
      rcases l4 with z | ⟨z1,z2⟩
      · lia
      · exact na _ i (by lia) h2 z2)
    refine ⟨t2.2,?_,k1,k2,k3⟩
    show (iter (bisS b) n (hint + t.1 + 1,hint + min t.2 (n - hint))).map (·.2) = _
    rw [h2]; rfl
  | false =>
    obtain ⟨t,h1,l1,l2,l3,l4⟩:=iter_inv (step:=dnS b hint (hint + 1)) (fun f t => t.1 < t.2∧t.1≤hint∧β (hint - t.1) = false∧n + 1≤t.2 + f) (fun t => t.1 < t.2∧t.1≤hint∧β (hint - t.1) = false∧(hint + 1≤t.2∨(t.2 < hint + 1∧β (hint - t.2) = true))) (fun f t h => by
      obtain ⟨a1,a2,a3,a4⟩:=h
      unfold dnS
      by_cases z : t.2 ≥ hint + 1
      · exact ⟨true,t,if_pos z,by rw [if_pos rfl]; exact ⟨a1,a2,a3,.inl z⟩⟩
      · rw [if_neg z,hb (hint - t.2) (by lia)]
        cases e : β (hint - t.2) with
        | true => exact ⟨true,t,rfl,by rw [if_pos rfl]; exact ⟨a1,a2,a3,.inr ⟨by lia,e⟩⟩⟩
        | false => exact ⟨false,_,rfl,by simp only [Bool.false_eq_true,if_false]; exact ⟨by lia,by lia,e,by lia⟩⟩) (fun t h => ⟨h.1,h.2.1,h.2.2.1,.inl (by lia)⟩) n (0,1) ⟨by decide,by show 0≤hint; lia,e0,by show n + 1≤1 + n; lia⟩
    dsimp only
    rw [h1]
    obtain ⟨t2,h2,k1,k2,k3⟩ := bis_is hb an (lo:=hint + 1 - min t.2 (hint + 1)) (hi:=hint - t.1) (by lia) (by lia) (fun i hi => by
      rcases l4 with z | ⟨z1,z2⟩
      · lia
      · exact an i _ (by lia) (by lia) z2) (fun i h1 h2 => na _ i h1 h2 l3)
    refine ⟨t2.2,?_,k1,k2,k3⟩
    show (iter (bisS b) n (hint + 1 - min t.2 (hint + 1),hint - t.1)).map (·.2) = _
    rw [h2]; rfl
end Tim
namespace Tim
open PySem PyProof.Rows
abbrev le (lt : Nat→Nat→Bool) (x y : Nat) : Prop:=lt y x = false
structure LtOk (lt : Nat→Nat→Bool) : Prop where
  as : ∀ x y,lt x y = true→lt y x = false
  tr : ∀ x y z,le lt x y→le lt y z→le lt x z
structure MS (lt : Nat→Nat→Bool) (T o ra rb : List Nat) : Prop where
  so : o.Pairwise (le lt)
  sa : ra.Pairwise (le lt)
  sb : rb.Pairwise (le lt)
  oa : ∀ x∈o,∀ y∈ra,le lt x y
  ob : ∀ x∈o,∀ y∈rb,le lt x y
  pm : (o ++ (ra ++ rb)).Perm T
def Mgd (lt : Nat→Nat→Bool) (T r : List Nat) : Prop:=r.Pairwise (le lt)∧r.Perm T
section
variable {lt : Nat→Nat→Bool} {T o ra rb c : List Nat} {x y : Nat}
theorem MS.a (h : MS lt T o (c ++ ra) rb) (k : ∀ x∈c,∀ y∈rb,le lt x y) : MS lt T (o ++ c) ra rb := by
  obtain ⟨c1,c2,c3⟩:=List.pairwise_append.mp h.sa
  refine ⟨List.pairwise_append.mpr ⟨h.so,c1,fun x hx y hy => h.oa x hx y (List.mem_append_left _ hy)⟩,c2,h.sb,fun x hx y hy => ?_,fun x hx y hy => ?_,?_⟩
  · rcases List.mem_append.mp hx with hx | hx
    · exact h.oa x hx y (List.mem_append_right _ hy)
    · exact c3 x hx y hy
  · rcases List.mem_append.mp hx with hx | hx
    · exact h.ob x hx y hy
    · exact k x hx y hy
  · refine List.Perm.trans (List.Perm.of_eq ?_) h.pm
    simp
theorem MS.b (h : MS lt T o ra (c ++ rb)) (k : ∀ x∈c,∀ y∈ra,le lt x y) : MS lt T (o ++ c) ra rb := by
  obtain ⟨c1,c2,c3⟩:=List.pairwise_append.mp h.sb
  refine ⟨List.pairwise_append.mpr ⟨h.so,c1,fun x hx y hy => h.ob x hx y (List.mem_append_left _ hy)⟩,h.sa,c2,fun x hx y hy => ?_,fun x hx y hy => ?_,?_⟩
  · rcases List.mem_append.mp hx with hx | hx
    · exact h.oa x hx y hy
    · exact k x hx y hy
  · rcases List.mem_append.mp hx with hx | hx
    · exact h.ob x hx y (List.mem_append_right _ hy)
    · exact c3 x hx y hy
  · refine List.Perm.trans ?_ h.pm
    rw [List.append_assoc]
    refine List.Perm.append_left o ?_
    rw [← List.append_assoc,← List.append_assoc]
    exact List.Perm.append_right rb List.perm_append_comm
theorem MS.fa (h : MS lt T o ra []) : Mgd lt T (o ++ ra ++ []) := by
  refine ⟨?_,?_⟩
  · rw [List.append_nil]; exact List.pairwise_append.mpr ⟨h.so,h.sa,h.oa⟩
  · have:=h.pm; rw [List.append_nil] at this ⊢; exact this
theorem MS.fb (h : MS lt T o [] rb) : Mgd lt T (o ++ [] ++ rb) := by
  refine ⟨?_,?_⟩
  · rw [List.append_nil]; exact List.pairwise_append.mpr ⟨h.so,h.sb,h.ob⟩
  · have:=h.pm; rw [List.nil_append] at this; rw [List.append_nil]; exact this
theorem MS.last (h : MS lt T o [x] rb) (k : ∀ y∈rb,le lt y x) : Mgd lt T (o ++ rb ++ [x]) := by
  refine ⟨?_,?_⟩
  · refine List.pairwise_append.mpr ⟨List.pairwise_append.mpr ⟨h.so,h.sb,h.ob⟩,List.pairwise_singleton _ _,fun u hu v hv => ?_⟩
    rw [List.mem_singleton.mp hv]
    rcases List.mem_append.mp hu with hu | hu
    · exact h.oa u hu x (.head _)
    · exact k u hu
  · refine List.Perm.trans ?_ h.pm
    rw [List.append_assoc]
    exact List.Perm.append_left o List.perm_append_comm
end
end Tim
namespace Tim
open PySem PyProof.Rows
def Ms (lt : Nat→Nat→Bool) (it : Nat→Keyed) (a b : Array Nat) (out : Array Keyed) (ia ib : Nat) : Prop:=∃ o : Array Nat,out = o.map it∧MS lt (a.toList ++ b.toList) o.toList (a.toList.drop ia) (b.toList.drop ib)
def Md (lt : Nat→Nat→Bool) (it : Nat→Keyed) (a b : Array Nat) (x : Array Keyed) : Prop:=∃ r : Array Nat,x = r.map it∧Mgd lt (a.toList ++ b.toList) r.toList
section
variable {lt : Nat→Nat→Bool} {it : Nat→Keyed} {a b : Array Nat} {out : Array Keyed} {ia ib k : Nat} {x y : Nat}
theorem drop_at {l : Array Nat} {i x : Nat} (e : l[i]? = some x) : l.toList.drop i = [x] ++ l.toList.drop (i + 1) := by
  obtain ⟨h,rfl⟩:=Array.getElem?_eq_some_iff.mp e
  rw [List.drop_eq_getElem_cons (by simpa using h)]
  rfl
theorem drop_cut {l : List Nat} {i k : Nat} : l.drop i = (l.drop i).take k ++ l.drop (i + k) := by
  rw [← List.drop_drop,List.take_append_drop]
theorem ext_l {l : Array Nat} {i j : Nat} : (l.extract i j).toList = (l.toList.drop i).take (j - i) := by
  rw [Array.toList_extract,List.extract_eq_take_drop]
theorem Ms.A (h : Ms lt it a b out ia ib) (e : a[ia]? = some x) (c : ∀ y∈b.toList.drop ib,le lt x y) : Ms lt it a b (out.push (it x)) (ia + 1) ib := by
  obtain ⟨o,rfl,h⟩:=h
  refine ⟨o.push x,by rw [Array.map_push],?_⟩
  rw [drop_at e] at h
  rw [Array.toList_push]
  exact h.a fun u hu => by rw [List.mem_singleton.mp hu]; exact c
theorem Ms.B (h : Ms lt it a b out ia ib) (e : b[ib]? = some y) (c : ∀ x∈a.toList.drop ia,le lt y x) : Ms lt it a b (out.push (it y)) ia (ib + 1) := by
  obtain ⟨o,rfl,h⟩:=h
  refine ⟨o.push y,by rw [Array.map_push],?_⟩
  rw [drop_at e] at h
  rw [Array.toList_push]
  exact h.b fun u hu => by rw [List.mem_singleton.mp hu]; exact c
theorem Ms.As (h : Ms lt it a b out ia ib) (c : ∀ x∈(a.toList.drop ia).take k,∀ y∈b.toList.drop ib,le lt x y) : Ms lt it a b (out ++ (a.map it).extract ia (ia + k)) (ia + k) ib := by
  obtain ⟨o,rfl,h⟩:=h
  refine ⟨o ++ a.extract ia (ia + k),by rw [Array.map_append,Array.map_extract],?_⟩
  rw [drop_cut (k:=k)] at h
  rw [Array.toList_append,ext_l,Nat.add_sub_cancel_left]
  exact h.a c
theorem Ms.Bs (h : Ms lt it a b out ia ib) (c : ∀ x∈(b.toList.drop ib).take k,∀ y∈a.toList.drop ia,le lt x y) : Ms lt it a b (out ++ (b.map it).extract ib (ib + k)) ia (ib + k) := by
  obtain ⟨o,rfl,h⟩:=h
  refine ⟨o ++ b.extract ib (ib + k),by rw [Array.map_append,Array.map_extract],?_⟩
  rw [drop_cut (l := b.toList) (k:=k)] at h
  rw [Array.toList_append,ext_l,Nat.add_sub_cancel_left]
  exact h.b c
theorem ext_end {l : Array Nat} {i : Nat} : (l.extract i l.size).toList = l.toList.drop i := by
  rw [ext_l]
  exact List.take_of_length_le (by simp)
theorem Ms.eb (h : Ms lt it a b out ia ib) (z : ib = b.size) : Md lt it a b (out ++ (a.map it).extract ia a.size ++ (b.map it).extract ib b.size) := by
  obtain ⟨o,rfl,h⟩:=h
  refine ⟨o ++ a.extract ia a.size ++ b.extract ib b.size,by simp only [Array.map_append,Array.map_extract],?_⟩
  have e : b.toList.drop ib = []:=List.drop_eq_nil_of_le (by simp [z])
  rw [e] at h
  rw [Array.toList_append,Array.toList_append,ext_end,ext_end,e]
  exact h.fa
theorem Ms.ea (h : Ms lt it a b out ia ib) (z : ia = a.size) : Md lt it a b (out ++ (a.map it).extract ia a.size ++ (b.map it).extract ib b.size) := by
  obtain ⟨o,rfl,h⟩:=h
  refine ⟨o ++ a.extract ia a.size ++ b.extract ib b.size,by simp only [Array.map_append,Array.map_extract],?_⟩
  have e : a.toList.drop ia = []:=List.drop_eq_nil_of_le (by simp [z])
  rw [e] at h
  rw [Array.toList_append,Array.toList_append,ext_end,ext_end,e]
  exact h.fb
theorem Ms.el (h : Ms lt it a b out ia ib) (z : ia + 1 = a.size) (c : ∀ x,a[a.size - 1]? = some x→∀ y∈b.toList,le lt y x) : Md lt it a b (out ++ (b.map it).extract ib b.size ++ (a.map it).extract ia a.size) := by
  obtain ⟨o,rfl,h⟩:=h
  refine ⟨o ++ b.extract ib b.size ++ a.extract ia a.size,by simp only [Array.map_append,Array.map_extract],?_⟩
  have e : a[ia]? = some (a[ia]'(by lia)):=Array.getElem?_eq_getElem _
  have e2 : a.toList.drop ia = [a[ia]'(by lia)] := by
    rw [drop_at e,List.drop_eq_nil_of_le (by simp [z])]; rfl
  rw [e2] at h
  rw [Array.toList_append,Array.toList_append,ext_end,ext_end,e2]
  refine h.last fun y hy => c _ ?_ y (List.mem_of_mem_drop hy)
  rw [show a.size - 1 = ia by lia]
  exact e
theorem head_d {l : Array Nat} {i u v : Nat} (ok : LtOk lt) (h : l.toList.Pairwise (le lt)) (e : l[i]? = some u) (c : le lt v u) : ∀ z∈l.toList.drop i,le lt v z := by
  intro z hz
  have hd : (l.toList.drop i).Pairwise (le lt):=h.sublist (List.drop_sublist _ _)
  rw [drop_at e] at hd hz
  rcases List.mem_cons.mp hz with rfl | hz
  · exact c
  · exact ok.tr _ _ _ c ((List.pairwise_cons.mp hd).1 z hz)
end
section
variable {prog : Program} {w : World} {A : Around} {E : Value→Shared→Prop} {s : Shared} {N : Nat} {lt : Nat→Nat→Bool} {κ : SortKind} {it : Nat→Keyed} {p : Array Nat} {pend : Array (Nat×Nat×Nat)} {g : Nat}
theorem elem_q {xs : Array Nat} {k : Nat} (hx : En N xs) (hk : k < xs.size) {β : Type} {f : Keyed→StateT SortSt Sem β} {Q : β→SortSt→Prop} {st : SortSt} (q : ∀ x,Kn N x→xs[k]? = some x→wpS (model prog w) A E s (f (it x)) Q st) : wpS (model prog w) A E s ((sortPriv% PySem.Builtin.elem) (xs.map it) k >>= f) Q st := by
  obtain ⟨x,h1,h2⟩:=hx.get hk
  exact wpS_bind (elem_ok h1 (q x h2 h1))
theorem lt_q (hc : Cm prog w A s κ it N lt) {i j : Nat} (hi : Kn N i) (hj : Kn N j) {β : Type} {f : Option Bool→StateT SortSt Sem β} {Q : β→SortSt→Prop} (q1 : lt i j = true→wpS (model prog w) A E s (f (some true)) Q (St κ it p pend g)) (q2 : lt i j = false→wpS (model prog w) A E s (f (some false)) Q (St κ it p pend g)) : wpS (model prog w) A E s ((sortPriv% PySem.Builtin.lt) (it i) (it j) >>= f) Q (St κ it p pend g) := by
  refine wpS_bind (lt_ok hc (cmp_some hi hj) ?_)
  cases e : lt i j with
  | true => exact q1 e
  | false => exact q2 e
theorem gal_r0 (hc : Cm prog w A s κ it N lt) (ok : LtOk lt) {key : Nat} {xs : Array Nat} {base n hint : Nat} (hx : En N xs) (so : xs.toList.Pairwise (le lt)) (hk : Kn N key) (hn : base + n≤xs.size) (hh : hint < n) {β : Type} {f : Option Nat→StateT SortSt Sem β} {Q : β→SortSt→Prop}
    (q : ∀ k,k≤n→(∀ i x,i < k→xs[base + i]? = some x→le lt x key)→(∀ i x,k≤i→i < n→xs[base + i]? = some x→lt key x = true)→wpS (model prog w) A E s (f (some k)) Q (St κ it p pend g)) : wpS (model prog w) A E s ((sortPriv% PySem.Builtin.gallop) false (it key) (xs.map it) base n hint >>= f) Q (St κ it p pend g) := by
  have hv : ∀ i,i < n→bey N lt false key xs base i = some (!lt key (xs[base + i]?.getD 0)):=fun i hi => by
    obtain ⟨x,h1,h2⟩:=hx.get (i := base + i) (by lia)
    unfold bey
    rw [h1]
    show (cmp N lt key x).map _ = _
    rw [cmp_some hk h2]; rfl
  obtain ⟨k,h1,h2,h3,h4⟩:=gal_is (β:=fun i => !lt key (xs[base + i]?.getD 0)) hv (fun i j hij hj e => by
    rcases Nat.lt_or_eq_of_le hij with z | rfl
    · rw [Array.getElem?_eq_getElem (by lia)] at e ⊢
      have:=(List.pairwise_iff_getElem.mp so) (base + i) (base + j) (by simp; lia) (by simp; lia) (by lia)
      simp only [Option.getD_some,Bool.not_eq_true'] at e ⊢
      simp only [Array.getElem_toList] at this
      exact ok.tr _ _ _ this e
    · exact e) hh
  refine wpS_bind (gallop_ok hc h1 (q k h2 (fun i x hi e => ?_) fun i x hi hn e => ?_))
  · have:=h3 i hi
    rw [e] at this
    simpa using this
  · have:=h4 i hi hn
    rw [e] at this
    simpa using this
theorem gal_l0 (hc : Cm prog w A s κ it N lt) (ok : LtOk lt) {key : Nat} {xs : Array Nat} {base n hint : Nat} (hx : En N xs) (so : xs.toList.Pairwise (le lt)) (hk : Kn N key) (hn : base + n≤xs.size) (hh : hint < n) {β : Type} {f : Option Nat→StateT SortSt Sem β} {Q : β→SortSt→Prop}
    (q : ∀ k,k≤n→(∀ i x,i < k→xs[base + i]? = some x→lt x key = true)→(∀ i x,k≤i→i < n→xs[base + i]? = some x→le lt key x)→wpS (model prog w) A E s (f (some k)) Q (St κ it p pend g)) : wpS (model prog w) A E s ((sortPriv% PySem.Builtin.gallop) true (it key) (xs.map it) base n hint >>= f) Q (St κ it p pend g) := by
  have hv : ∀ i,i < n→bey N lt true key xs base i = some (lt (xs[base + i]?.getD 0) key):=fun i hi => by
    obtain ⟨x,h1,h2⟩:=hx.get (i := base + i) (by lia)
    unfold bey
    rw [h1]
    exact cmp_some h2 hk
  obtain ⟨k,h1,h2,h3,h4⟩:=gal_is (β:=fun i => lt (xs[base + i]?.getD 0) key) hv (fun i j hij hj e => by
    rcases Nat.lt_or_eq_of_le hij with z | rfl
    · rw [Array.getElem?_eq_getElem (by lia)] at e ⊢
      have:=(List.pairwise_iff_getElem.mp so) (base + i) (base + j) (by simp; lia) (by simp; lia) (by lia)
      simp only [Option.getD_some] at e ⊢
      simp only [Array.getElem_toList] at this
      cases q : lt (xs[base + i]'(by lia)) key with
      | true => rfl
      | false => rw [show lt _ key = false from ok.tr key _ _ q this] at e; cases e
    · exact e) hh
  refine wpS_bind (gallop_ok hc h1 (q k h2 (fun i x hi e => ?_) fun i x hi hn e => ?_))
  · have:=h3 i hi
    rw [e] at this
    simpa using this
  · have:=h4 i hi hn
    rw [e] at this
    simpa using this
theorem tk_of {P : Nat→Prop} {xs : Array Nat} {base k n : Nat} (hn : base + n = xs.size) (hk : k≤n) (h : ∀ i x,i < k→xs[base + i]? = some x→P x) : ∀ x∈(xs.toList.drop base).take k,P x:=fun x hx => by
  obtain ⟨i,hi,rfl⟩:=List.getElem_of_mem hx
  rw [List.length_take,List.length_drop,Array.length_toList] at hi
  refine h i _ (by lia) ?_
  rw [List.getElem_take,List.getElem_drop,Array.getElem_toList]
  exact Array.getElem?_eq_getElem (by lia)
theorem dp_of {P : Nat→Prop} {xs : Array Nat} {base k n : Nat} (hn : base + n = xs.size) (h : ∀ i x,k≤i→i < n→xs[base + i]? = some x→P x) : ∀ x∈xs.toList.drop (base + k),P x:=fun x hx => by
  obtain ⟨i,hi,rfl⟩:=List.getElem_of_mem hx
  rw [List.length_drop,Array.length_toList] at hi
  refine h (k + i) _ (by lia) (by lia) ?_
  rw [List.getElem_drop,Array.getElem_toList]
  simp only [Nat.add_assoc]
  exact Array.getElem?_eq_getElem (by lia)
theorem gal_r (hc : Cm prog w A s κ it N lt) (ok : LtOk lt) {key : Nat} {xs : Array Nat} {base n hint : Nat} (hx : En N xs) (so : xs.toList.Pairwise (le lt)) (hk : Kn N key) (hn : base + n = xs.size) (hh : hint < n) {β : Type} {f : Option Nat→StateT SortSt Sem β} {Q : β→SortSt→Prop}
    (q : ∀ k,k≤n→(∀ x∈(xs.toList.drop base).take k,le lt x key)→(∀ x∈xs.toList.drop (base + k),lt key x = true)→wpS (model prog w) A E s (f (some k)) Q (St κ it p pend g)) : wpS (model prog w) A E s ((sortPriv% PySem.Builtin.gallop) false (it key) (xs.map it) base n hint >>= f) Q (St κ it p pend g) :=
  gal_r0 hc ok hx so hk (Nat.le_of_eq hn) hh fun k hk h1 h2 => q k hk (tk_of hn hk h1) (dp_of hn h2)
theorem gal_l (hc : Cm prog w A s κ it N lt) (ok : LtOk lt) {key : Nat} {xs : Array Nat} {base n hint : Nat} (hx : En N xs) (so : xs.toList.Pairwise (le lt)) (hk : Kn N key) (hn : base + n = xs.size) (hh : hint < n) {β : Type} {f : Option Nat→StateT SortSt Sem β} {Q : β→SortSt→Prop}
    (q : ∀ k,k≤n→(∀ x∈(xs.toList.drop base).take k,lt x key = true)→(∀ x∈xs.toList.drop (base + k),le lt key x)→wpS (model prog w) A E s (f (some k)) Q (St κ it p pend g)) : wpS (model prog w) A E s ((sortPriv% PySem.Builtin.gallop) true (it key) (xs.map it) base n hint >>= f) Q (St κ it p pend g) :=
  gal_l0 hc ok hx so hk (Nat.le_of_eq hn) hh fun k hk h1 h2 => q k hk (tk_of hn hk h1) (dp_of hn h2)
end
end Tim
namespace Tim
open PySem PyProof.Rows
section
variable {prog : Program} {w : World} {A : Around} {E : Value→Shared→Prop} {s : Shared} {N : Nat} {lt : Nat→Nat→Bool} {κ : SortKind} {it : Nat→Keyed} {p : Array Nat} {pend : Array (Nat×Nat×Nat)} {g : Nat}
theorem le_of_lt (ok : LtOk lt) {x y : Nat} (h : lt x y = true) : le lt x y:=ok.as _ _ h
theorem opt_eq {l : Array Nat} {i x y : Nat} (h : l[i]? = some x) (k : l[i]? = some y) : x = y:=Option.some.inj (h.symm.trans k)
theorem mergeLo_is (hc : Cm prog w A s κ it N lt) (ok : LtOk lt) {a b : Array Nat} (ha : En N a) (hb : En N b) (sa : a.toList.Pairwise (le lt)) (sb : b.toList.Pairwise (le lt)) (a1 : 1≤a.size) (b1 : 1≤b.size)
    (hf : ∀ y,b[0]? = some y→∀ x∈a.toList,le lt y x) (hl : ∀ x,a[a.size - 1]? = some x→∀ y∈b.toList,le lt y x) {Q : Array Keyed→SortSt→Prop} (q : ∀ r g',Md lt it a b r→Q r (St κ it p pend g')) : wpS (model prog w) A E s (mergeLo' (a.map it) (b.map it)) Q (St κ it p pend g) := by
  have m00 : Ms lt it a b #[] 0 0:=⟨#[],by simp,by simp; exact ⟨List.Pairwise.nil,sa,sb,(fun _ h => nomatch h),(fun _ h => nomatch h),List.Perm.refl _⟩⟩
  refine wpS_bind (wpS_lift (wpAny_rule ⟨rfl,?_⟩))
  dsimp only
  refine elem_q hb (by lia) fun y hy ey => ?_
  have m0 : Ms lt it a b #[it y] 0 1:=m00.B ey (by simpa using hf y ey)
  simp only [Array.size_map]
  by_cases z1 : (1 == b.size) = true
  · rw [if_pos z1]
    exact wpS_pure (q _ _ (m0.eb (by simpa using z1)))
  rw [if_neg z1]
  have z1' : 1≠b.size := by simpa using z1
  by_cases z2 : (0 + 1 == a.size) = true
  · rw [if_pos z2]
    exact wpS_pure (q _ _ (m0.el (by simpa using z2) hl))
  rw [if_neg z2]
  have z2' : 0 + 1≠a.size := by simpa using z2
  refine wpS_bind (wpS_get ?_)
  dsimp only
  refine wpS_bind (wpS_mono (wpS_inv (fun i (t : Option (Array Keyed)×Array Keyed×Nat×Nat×Nat) st => (∃ g',st = St κ it p pend g')∧t.1 = none∧t.2.2.1 + 1 < a.size∧t.2.2.2.1 < b.size∧Ms lt it a b t.2.1 t.2.2.1 t.2.2.2.1∧i + 1≤t.2.2.1 + t.2.2.2.1)
    (Q:=fun t st => (∃ g',st = St κ it p pend g')∧∃ r,t.1 = some r∧Md lt it a b r) ?_ ?_ ?_) fun t st' hq => ?_)
  · exact ⟨⟨_,rfl⟩,rfl,by show 0 + 1 < a.size; lia,by show 1 < b.size; lia,m0,by show 0 + 1≤0 + 1; lia⟩
  · rintro x i ⟨res,out,ia,ib,mg⟩ st hi ⟨⟨g0,rfl⟩,h1,n1,n2,mo,hs⟩
    dsimp only at h1 n1 n2 mo hs ⊢
    subst h1
    refine wpS_bind (wpS_mono (wpS_inv (fun j (t : Option (Array Keyed)×Array Keyed×Nat×Nat×Nat×Nat) st => st = St κ it p pend g0∧t.1 = none∧t.2.2.1 + 1 < a.size∧t.2.2.2.1 < b.size∧Ms lt it a b t.2.1 t.2.2.1 t.2.2.2.1∧ia + ib + j≤t.2.2.1 + t.2.2.2.1)
      (Q:=fun t st => st = St κ it p pend g0∧match t.1 with
        | some r => Md lt it a b r
        | none => t.2.2.1 + 1 < a.size∧t.2.2.2.1 < b.size∧Ms lt it a b t.2.1 t.2.2.1 t.2.2.2.1∧ia + ib < t.2.2.1 + t.2.2.2.1) ?_ ?_ ?_) fun t st' hq => ?_)
    · exact ⟨rfl,rfl,n1,n2,mo,Nat.le_refl _⟩
    · rintro x2 j ⟨res2,out2,ia2,ib2,ac2,bc2⟩ st2 hj ⟨rfl,h2,k1,k2,mo2,hs2⟩
      dsimp only at h2 k1 k2 mo2 hs2 ⊢
      subst h2
      refine elem_q hb k2 fun y1 hy1 ey1 => ?_
      refine elem_q ha (by lia) fun x1 hx1 ex1 => ?_
      refine lt_q hc hy1 hx1 (fun el => ?_) fun el => ?_
      · dsimp only
        rw [if_pos rfl]
        refine elem_q hb k2 fun y2 hy2 ey2 => ?_
        obtain rfl:=opt_eq ey1 ey2
        have m1:=mo2.B ey1 (head_d ok sa ex1 (le_of_lt ok el))
        refine if_q (fun z => ?_) fun z => ?_
        · exact wpS_pure ⟨rfl,m1.eb z⟩
        · refine if_p (fun z3 => ?_) fun z3 => ?_
          · exact wpS_pure ⟨rfl,k1,by show ib2 + 1 < b.size; lia,m1,by show ia + ib < ia2 + (ib2 + 1); lia⟩
          · exact wpS_pure ⟨rfl,rfl,k1,by show ib2 + 1 < b.size; lia,m1,by show ia + ib + (j + 1)≤ia2 + (ib2 + 1); lia⟩
      · dsimp only
        rw [if_neg Bool.false_ne_true]
        refine elem_q ha (by lia) fun x2 hx2 ex2 => ?_
        obtain rfl:=opt_eq ex1 ex2
        have m1:=mo2.A ex1 (head_d ok sb ey1 el)
        refine if_q (fun z => ?_) fun z => ?_
        · exact wpS_pure ⟨rfl,m1.el z hl⟩
        · refine if_p (fun z3 => ?_) fun z3 => ?_
          · exact wpS_pure ⟨rfl,by show ia2 + 1 + 1 < a.size; lia,k2,m1,by show ia + ib < ia2 + 1 + ib2; lia⟩
          · exact wpS_pure ⟨rfl,rfl,by show ia2 + 1 + 1 < a.size; lia,k2,m1,by show ia + ib + (j + 1)≤ia2 + 1 + ib2; lia⟩
    · rintro ⟨res2,out2,ia2,ib2,ac2,bc2⟩ st2 ⟨rfl,h2,k1,k2,mo2,hs2⟩
      dsimp only at h2 k1 k2 mo2 hs2 ⊢
      subst h2
      exact ⟨rfl,k1,k2,mo2,by lia⟩
    obtain ⟨res1,out1,ia1,ib1,ac1,bc1⟩:=t
    obtain ⟨rfl,hq⟩:=hq
    cases res1 with
    | some r => exact wpS_pure ⟨⟨_,rfl⟩,r,rfl,hq⟩
    | none =>
      dsimp only at hq ⊢
      obtain ⟨l1,l2,mo1,hs1⟩:=hq
      refine wpS_bind (wpS_lift (wpAny_rule ⟨rfl,?_⟩))
      refine wpS_bind (wpS_mono (wpS_inv (fun j (t : Option (Array Keyed)×Array Keyed×Nat×Nat×Nat×Nat×Nat) st => (∃ g',st = St κ it p pend g')∧t.1 = none∧t.2.2.1 + 1 < a.size∧t.2.2.2.1 < b.size∧Ms lt it a b t.2.1 t.2.2.1 t.2.2.2.1∧ia1 + ib1≤t.2.2.1 + t.2.2.2.1)
        (Q:=fun t st => (∃ g',st = St κ it p pend g')∧match t.1 with
          | some r => Md lt it a b r
          | none => t.2.2.1 + 1 < a.size∧t.2.2.2.1 < b.size∧Ms lt it a b t.2.1 t.2.2.1 t.2.2.2.1∧ia1 + ib1≤t.2.2.1 + t.2.2.2.1) ?_ ?_ ?_) fun t st' hq => ?_)
      · exact ⟨⟨_,rfl⟩,rfl,l1,l2,mo1,Nat.le_refl _⟩
      · rintro x2 j ⟨res2,out2,ia2,ib2,mg2,ac2,bc2⟩ st2 hj ⟨⟨g2,rfl⟩,h2,k1,k2,mo2,hs2⟩
        dsimp only at h2 k1 k2 mo2 hs2 ⊢
        subst h2
        generalize mg2 - 1 = m1
        apply if_two (a:=m1) (b:=mg2) rfl rfl
        intro m
        refine set_p ?_
        refine elem_q hb k2 fun y1 hy1 ey1 => ?_
        refine gal_r hc ok ha sa hy1 (by lia) (by lia) fun k hk g1 g2 => ?_
        dsimp only
        refine if_p (fun z5 => ?_) fun z5 => ?_
        · have m1:=mo2.As (fun x hx => head_d ok sb ey1 (g1 x hx))
          refine if_q (fun z => ?_) fun z => ?_
          · exact wpS_pure ⟨⟨_,rfl⟩,m1.el z hl⟩
          refine if_q (fun z => ?_) fun z => ?_
          · exact wpS_pure ⟨⟨_,rfl⟩,m1.ea z⟩
          refine elem_q hb k2 fun y2 hy2 ey2 => ?_
          obtain rfl:=opt_eq ey1 ey2
          have m2:=m1.B ey1 (fun x hx => le_of_lt ok (g2 x hx))
          refine if_q (fun z => ?_) fun z => ?_
          · exact wpS_pure ⟨⟨_,rfl⟩,m2.eb z⟩
          refine elem_q ha (by lia) fun x1 hx1 ex1 => ?_
          refine gal_l hc ok hb sb hx1 (by lia) (by lia) fun k' hk' g3 g4 => ?_
          dsimp only
          refine if_p (fun z4 => ?_) fun z4 => ?_
          · have m3:=m2.Bs (fun y hy => head_d ok sa ex1 (le_of_lt ok (g3 y hy)))
            refine if_q (fun z => ?_) fun z => ?_
            · exact wpS_pure ⟨⟨_,rfl⟩,m3.eb z⟩
            refine elem_q ha (by lia) fun x3 hx3 ex3 => ?_
            obtain rfl:=opt_eq ex1 ex3
            have m4:=m3.A ex1 g4
            refine if_q (fun z => ?_) fun z => ?_
            · exact wpS_pure ⟨⟨_,rfl⟩,m4.el z hl⟩
            · refine if_p (fun z3 => ?_) fun z3 => ?_
              · exact wpS_pure ⟨⟨_,rfl⟩,by show ia2 + k + 1 + 1 < a.size; lia,by show ib2 + 1 + k' < b.size; lia,m4,by show ia1 + ib1≤ia2 + k + 1 + (ib2 + 1 + k'); lia⟩
              · exact wpS_pure ⟨⟨_,rfl⟩,rfl,by show ia2 + k + 1 + 1 < a.size; lia,by show ib2 + 1 + k' < b.size; lia,m4,by show ia1 + ib1≤ia2 + k + 1 + (ib2 + 1 + k'); lia⟩
          · obtain rfl : k' = 0 := by lia
            refine elem_q ha (by lia) fun x3 hx3 ex3 => ?_
            obtain rfl:=opt_eq ex1 ex3
            have m4:=m2.A ex1 g4
            refine if_q (fun z => ?_) fun z => ?_
            · exact wpS_pure ⟨⟨_,rfl⟩,m4.el z hl⟩
            · refine if_p (fun z3 => ?_) fun z3 => ?_
              · exact wpS_pure ⟨⟨_,rfl⟩,by show ia2 + k + 1 + 1 < a.size; lia,by show (ib2 + 1) < b.size; lia,m4,by show ia1 + ib1≤ia2 + k + 1 + (ib2 + 1); lia⟩
              · exact wpS_pure ⟨⟨_,rfl⟩,rfl,by show ia2 + k + 1 + 1 < a.size; lia,by show (ib2 + 1) < b.size; lia,m4,by show ia1 + ib1≤ia2 + k + 1 + (ib2 + 1); lia⟩
        · obtain rfl : k = 0 := by lia
          have m1:=mo2
          refine elem_q hb k2 fun y2 hy2 ey2 => ?_
          obtain rfl:=opt_eq ey1 ey2
          have m2:=m1.B ey1 (fun x hx => le_of_lt ok (g2 x hx))
          refine if_q (fun z => ?_) fun z => ?_
          · exact wpS_pure ⟨⟨_,rfl⟩,m2.eb z⟩
          refine elem_q ha (by lia) fun x1 hx1 ex1 => ?_
          refine gal_l hc ok hb sb hx1 (by lia) (by lia) fun k' hk' g3 g4 => ?_
          dsimp only
          refine if_p (fun z4 => ?_) fun z4 => ?_
          · have m3:=m2.Bs (fun y hy => head_d ok sa ex1 (le_of_lt ok (g3 y hy)))
            refine if_q (fun z => ?_) fun z => ?_
            · exact wpS_pure ⟨⟨_,rfl⟩,m3.eb z⟩
            refine elem_q ha (by lia) fun x3 hx3 ex3 => ?_
            obtain rfl:=opt_eq ex1 ex3
            have m4:=m3.A ex1 g4
            refine if_q (fun z => ?_) fun z => ?_
            · exact wpS_pure ⟨⟨_,rfl⟩,m4.el z hl⟩
            · refine if_p (fun z3 => ?_) fun z3 => ?_
              · exact wpS_pure ⟨⟨_,rfl⟩,by show ia2 + 1 + 1 < a.size; lia,by show ib2 + 1 + k' < b.size; lia,m4,by show ia1 + ib1≤ia2 + 1 + (ib2 + 1 + k'); lia⟩
              · exact wpS_pure ⟨⟨_,rfl⟩,rfl,by show ia2 + 1 + 1 < a.size; lia,by show ib2 + 1 + k' < b.size; lia,m4,by show ia1 + ib1≤ia2 + 1 + (ib2 + 1 + k'); lia⟩
          · obtain rfl : k' = 0 := by lia
            refine elem_q ha (by lia) fun x3 hx3 ex3 => ?_
            obtain rfl:=opt_eq ex1 ex3
            have m4:=m2.A ex1 g4
            refine if_q (fun z => ?_) fun z => ?_
            · exact wpS_pure ⟨⟨_,rfl⟩,m4.el z hl⟩
            · refine if_p (fun z3 => ?_) fun z3 => ?_
              · exact wpS_pure ⟨⟨_,rfl⟩,by show ia2 + 1 + 1 < a.size; lia,by show (ib2 + 1) < b.size; lia,m4,by show ia1 + ib1≤ia2 + 1 + (ib2 + 1); lia⟩
              · exact wpS_pure ⟨⟨_,rfl⟩,rfl,by show ia2 + 1 + 1 < a.size; lia,by show (ib2 + 1) < b.size; lia,m4,by show ia1 + ib1≤ia2 + 1 + (ib2 + 1); lia⟩
      · rintro ⟨res2,out2,ia2,ib2,mg2,ac2,bc2⟩ st2 ⟨hg2,h2,k1,k2,mo2,hs2⟩
        dsimp only at h2 k1 k2 mo2 hs2 ⊢
        subst h2
        exact ⟨hg2,k1,k2,mo2,hs2⟩
      obtain ⟨res2,out2,ia2,ib2,mg2,ac2,bc2⟩:=t
      obtain ⟨⟨g2,rfl⟩,hq⟩:=hq
      cases res2 with
      | some r => exact wpS_pure ⟨⟨_,rfl⟩,r,rfl,hq⟩
      | none =>
        dsimp only at hq ⊢
        obtain ⟨k1,k2,mo2,hs2⟩:=hq
        refine wpS_bind (wpS_modify ?_)
        exact wpS_pure ⟨⟨_,rfl⟩,rfl,k1,k2,mo2,by show i + 1 + 1≤ia2 + ib2; lia⟩
  · rintro ⟨res,out,ia,ib,mg⟩ st ⟨_,h1,n1,n2,mo,hs⟩
    dsimp only at h1 n1 n2 mo hs
    lia
  obtain ⟨⟨g',rfl⟩,r,h1,h2⟩:=hq
  rw [h1]
  exact wpS_pure (q r g' h2)
end
end Tim
namespace Tim
open PySem PyProof.Rows
def Mh (lt : Nat→Nat→Bool) (it : Nat→Keyed) (a b : Array Nat) (out : Array Keyed) (na nb : Nat) : Prop:=∃ o : Array Nat,out = o.map it∧MS (fun x y => lt y x) (a.toList ++ b.toList) o.toList (a.toList.take na).reverse (b.toList.take nb).reverse
section
variable {lt : Nat→Nat→Bool} {it : Nat→Keyed} {a b : Array Nat} {out : Array Keyed} {na nb k : Nat} {x y : Nat} {T o ra rb : List Nat}
theorem MS.swap (h : MS lt T o ra rb) : MS lt T o rb ra:=⟨h.so,h.sb,h.sa,h.ob,h.oa,(List.Perm.append_left o List.perm_append_comm).trans h.pm⟩
theorem Mgd.rev {r : List Nat} (h : Mgd (fun x y => lt y x) T r) : Mgd lt T r.reverse:=⟨List.pairwise_reverse.mpr h.1,(List.reverse_perm r).trans h.2⟩
theorem take_at {l : Array Nat} {i x : Nat} (h1 : 1≤i) (e : l[i - 1]? = some x) : (l.toList.take i).reverse = [x] ++ (l.toList.take (i - 1)).reverse := by
  obtain ⟨j,rfl⟩ : ∃ j,i = j + 1:=⟨i - 1,by lia⟩
  rw [Nat.add_sub_cancel] at e ⊢
  obtain ⟨h,rfl⟩:=Array.getElem?_eq_some_iff.mp e
  rw [List.take_succ_eq_append_getElem (by simpa using h),List.reverse_append]
  rfl
theorem take_cut {l : List Nat} {i k : Nat} (h : k≤i) : (l.take i).reverse = ((l.take i).drop k).reverse ++ (l.take k).reverse := by
  rw [← List.reverse_append]
  congr 1
  have:=List.take_append_drop k (l.take i)
  rw [List.take_take,Nat.min_eq_left h] at this
  exact this.symm
theorem Mh.A (h : Mh lt it a b out na nb) (n1 : 1≤na) (e : a[na - 1]? = some x) (c : ∀ y∈b.toList.take nb,le lt y x) : Mh lt it a b (out.push (it x)) (na - 1) nb := by
  obtain ⟨o,rfl,h⟩:=h
  refine ⟨o.push x,by rw [Array.map_push],?_⟩
  rw [take_at n1 e] at h
  rw [Array.toList_push]
  exact h.a fun u hu => by rw [List.mem_singleton.mp hu]; exact fun y hy => c y (List.mem_reverse.mp hy)
theorem Mh.B (h : Mh lt it a b out na nb) (n1 : 1≤nb) (e : b[nb - 1]? = some y) (c : ∀ x∈a.toList.take na,le lt x y) : Mh lt it a b (out.push (it y)) na (nb - 1) := by
  obtain ⟨o,rfl,h⟩:=h
  refine ⟨o.push y,by rw [Array.map_push],?_⟩
  rw [take_at n1 e] at h
  rw [Array.toList_push]
  exact h.b fun u hu => by rw [List.mem_singleton.mp hu]; exact fun y hy => c y (List.mem_reverse.mp hy)
theorem Mh.As (h : Mh lt it a b out na nb) (hk : k≤na) (c : ∀ x∈(a.toList.take na).drop k,∀ y∈b.toList.take nb,le lt y x) : Mh lt it a b (out ++ ((a.map it).extract k na).reverse) k nb := by
  obtain ⟨o,rfl,h⟩:=h
  refine ⟨o ++ (a.extract k na).reverse,by rw [Array.map_append,Array.map_reverse,Array.map_extract],?_⟩
  rw [take_cut hk] at h
  rw [Array.toList_append,Array.toList_reverse,ext_l,← List.drop_take]
  exact h.a fun x hx y hy => c x (List.mem_reverse.mp hx) y (List.mem_reverse.mp hy)
theorem Mh.Bs (h : Mh lt it a b out na nb) (hk : k≤nb) (c : ∀ x∈(b.toList.take nb).drop k,∀ y∈a.toList.take na,le lt y x) : Mh lt it a b (out ++ ((b.map it).extract k nb).reverse) na k := by
  obtain ⟨o,rfl,h⟩:=h
  refine ⟨o ++ (b.extract k nb).reverse,by rw [Array.map_append,Array.map_reverse,Array.map_extract],?_⟩
  rw [take_cut (l := b.toList) hk] at h
  rw [Array.toList_append,Array.toList_reverse,ext_l,← List.drop_take]
  exact h.b fun x hx y hy => c x (List.mem_reverse.mp hx) y (List.mem_reverse.mp hy)
theorem ext_beg {l : Array Nat} {i : Nat} : (l.extract 0 i).toList = l.toList.take i := by
  rw [ext_l]; rfl
theorem Mh.ea (h : Mh lt it a b out na nb) (z : na = 0) : Md lt it a b ((a.map it).extract 0 na ++ (b.map it).extract 0 nb ++ out.reverse) := by
  obtain ⟨o,rfl,h⟩:=h
  refine ⟨a.extract 0 na ++ b.extract 0 nb ++ o.reverse,by simp only [Array.map_append,Array.map_extract,Array.map_reverse],?_⟩
  subst z
  have:=Mgd.rev (MS.fb h)
  simpa [ext_beg] using this
theorem Mh.eb (h : Mh lt it a b out na nb) (z : nb = 0) : Md lt it a b ((a.map it).extract 0 na ++ (b.map it).extract 0 nb ++ out.reverse) := by
  obtain ⟨o,rfl,h⟩:=h
  refine ⟨a.extract 0 na ++ b.extract 0 nb ++ o.reverse,by simp only [Array.map_append,Array.map_extract,Array.map_reverse],?_⟩
  subst z
  have:=Mgd.rev (MS.fa h)
  simpa [ext_beg] using this
theorem Mh.el (h : Mh lt it a b out na nb) (z : nb = 1) (b1 : 1≤b.size) (c : ∀ y,b[0]? = some y→∀ x∈a.toList,le lt y x) : Md lt it a b ((b.map it).extract 0 nb ++ (a.map it).extract 0 na ++ out.reverse) := by
  obtain ⟨o,rfl,h⟩:=h
  refine ⟨b.extract 0 nb ++ a.extract 0 na ++ o.reverse,by simp only [Array.map_append,Array.map_extract,Array.map_reverse],?_⟩
  subst z
  have e : b[0]? = some (b[0]'(by lia)):=Array.getElem?_eq_getElem _
  have e2:=take_at (l := b) (i:=1) (Nat.le_refl _) e
  rw [show (b.toList.take (1 - 1)).reverse = [] from rfl,List.append_nil] at e2
  rw [e2] at h
  have:=Mgd.rev (MS.last h.swap fun y hy => c _ e y (List.mem_of_mem_take (List.mem_reverse.mp hy)))
  have e3 : b.toList.take 1 = [b[0]'(by lia)] := by
    have:=congrArg List.reverse e2
    simpa using this
  rw [Array.toList_append,Array.toList_append,ext_beg,ext_beg,e3,Array.toList_reverse]
  simpa using this
theorem tail_d {l : Array Nat} {i u v : Nat} (ok : LtOk lt) (h : l.toList.Pairwise (le lt)) (e : l[i - 1]? = some u) (c : le lt u v) : ∀ z∈l.toList.take i,le lt z v := by
  intro z hz
  obtain ⟨j,hj,rfl⟩:=List.getElem_of_mem hz
  rw [List.length_take,Array.length_toList] at hj
  obtain ⟨hi,rfl⟩:=Array.getElem?_eq_some_iff.mp e
  rw [List.getElem_take]
  rcases Nat.lt_or_ge j (i - 1) with q | q
  · have:=(List.pairwise_iff_getElem.mp h) j (i - 1) (by simp; lia) (by simpa using hi) q
    exact ok.tr _ _ _ this (by simpa using c)
  · have : j = i - 1 := by lia
    subst this
    simpa using c
theorem tk0_of {P : Nat→Prop} {xs : Array Nat} {k : Nat} (h : ∀ i x,i < k→xs[0 + i]? = some x→P x) : ∀ x∈xs.toList.take k,P x:=fun x hx => by
  obtain ⟨i,hi,rfl⟩:=List.getElem_of_mem hx
  rw [List.length_take,Array.length_toList] at hi
  refine h i _ (by lia) ?_
  rw [List.getElem_take,Array.getElem_toList,Nat.zero_add]
  exact Array.getElem?_eq_getElem (by lia)
theorem dp0_of {P : Nat→Prop} {xs : Array Nat} {k n : Nat} (h : ∀ i x,k≤i→i < n→xs[0 + i]? = some x→P x) : ∀ x∈(xs.toList.take n).drop k,P x:=fun x hx => by
  obtain ⟨i,hi,rfl⟩:=List.getElem_of_mem hx
  rw [List.length_drop,List.length_take,Array.length_toList] at hi
  refine h (k + i) _ (by lia) (by lia) ?_
  rw [List.getElem_drop,List.getElem_take,Array.getElem_toList,Nat.zero_add]
  exact Array.getElem?_eq_getElem (by lia)
end
section
variable {prog : Program} {w : World} {A : Around} {E : Value→Shared→Prop} {s : Shared} {N : Nat} {lt : Nat→Nat→Bool} {κ : SortKind} {it : Nat→Keyed} {p : Array Nat} {pend : Array (Nat×Nat×Nat)} {g : Nat}
theorem gal_rh (hc : Cm prog w A s κ it N lt) (ok : LtOk lt) {key : Nat} {xs : Array Nat} {n hint : Nat} (hx : En N xs) (so : xs.toList.Pairwise (le lt)) (hk : Kn N key) (hn : n≤xs.size) (hh : hint < n) {β : Type} {f : Option Nat→StateT SortSt Sem β} {Q : β→SortSt→Prop}
    (q : ∀ k,k≤n→(∀ x∈xs.toList.take k,le lt x key)→(∀ x∈(xs.toList.take n).drop k,lt key x = true)→wpS (model prog w) A E s (f (some k)) Q (St κ it p pend g)) : wpS (model prog w) A E s ((sortPriv% PySem.Builtin.gallop) false (it key) (xs.map it) 0 n hint >>= f) Q (St κ it p pend g) :=
  gal_r0 hc ok hx so hk (by lia) hh fun k hk h1 h2 => q k hk (tk0_of h1) (dp0_of h2)
theorem gal_lh (hc : Cm prog w A s κ it N lt) (ok : LtOk lt) {key : Nat} {xs : Array Nat} {n hint : Nat} (hx : En N xs) (so : xs.toList.Pairwise (le lt)) (hk : Kn N key) (hn : n≤xs.size) (hh : hint < n) {β : Type} {f : Option Nat→StateT SortSt Sem β} {Q : β→SortSt→Prop}
    (q : ∀ k,k≤n→(∀ x∈xs.toList.take k,lt x key = true)→(∀ x∈(xs.toList.take n).drop k,le lt key x)→wpS (model prog w) A E s (f (some k)) Q (St κ it p pend g)) : wpS (model prog w) A E s ((sortPriv% PySem.Builtin.gallop) true (it key) (xs.map it) 0 n hint >>= f) Q (St κ it p pend g) :=
  gal_l0 hc ok hx so hk (by lia) hh fun k hk h1 h2 => q k hk (tk0_of h1) (dp0_of h2)
end
end Tim
namespace Tim
open PySem PyProof.Rows
section
variable {prog : Program} {w : World} {A : Around} {E : Value→Shared→Prop} {s : Shared} {N : Nat} {lt : Nat→Nat→Bool} {κ : SortKind} {it : Nat→Keyed} {p : Array Nat} {pend : Array (Nat×Nat×Nat)} {g : Nat}
theorem mergeHi_is (hc : Cm prog w A s κ it N lt) (ok : LtOk lt) {a b : Array Nat} (ha : En N a) (hb : En N b) (sa : a.toList.Pairwise (le lt)) (sb : b.toList.Pairwise (le lt)) (a1 : 1≤a.size) (b1 : 1≤b.size)
    (hf : ∀ y,b[0]? = some y→∀ x∈a.toList,le lt y x) (hl : ∀ x,a[a.size - 1]? = some x→∀ y∈b.toList,le lt y x) {Q : Array Keyed→SortSt→Prop} (q : ∀ r g',Md lt it a b r→Q r (St κ it p pend g')) : wpS (model prog w) A E s (mergeHi' (a.map it) (b.map it)) Q (St κ it p pend g) := by
  have m00 : Mh lt it a b #[] a.size b.size := by
    refine ⟨#[],by simp,?_⟩
    rw [List.take_of_length_le (by simp),List.take_of_length_le (by simp)]
    exact ⟨List.Pairwise.nil,List.pairwise_reverse.mpr sa,List.pairwise_reverse.mpr sb,(fun _ h => nomatch h),(fun _ h => nomatch h),((List.reverse_perm _).append (List.reverse_perm _))⟩
  refine wpS_bind (wpS_lift (wpAny_rule ⟨rfl,?_⟩))
  dsimp only
  refine elem_q ha (by rw [Array.size_map]; lia) fun y hy ey => ?_
  rw [Array.size_map] at ey
  have m0 : Mh lt it a b #[it y] (a.size - 1) b.size:=m00.A a1 ey (fun z hz => hl y ey z (List.mem_of_mem_take hz))
  simp only [Array.size_map]
  by_cases z1 : (a.size - 1 == 0) = true
  · rw [if_pos z1]
    exact wpS_pure (q _ _ (m0.ea (by simpa using z1)))
  rw [if_neg z1]
  have z1' : a.size - 1≠0 := by simpa using z1
  by_cases z2 : (b.size == 1) = true
  · rw [if_pos z2]
    exact wpS_pure (q _ _ (m0.el (by simpa using z2) b1 hf))
  rw [if_neg z2]
  have z2' : b.size≠1 := by simpa using z2
  refine wpS_bind (wpS_get ?_)
  dsimp only
  refine wpS_bind (wpS_mono (wpS_inv (fun i (t : Option (Array Keyed)×Nat×Nat×Array Keyed×Nat) st => (∃ g',st = St κ it p pend g')∧t.1 = none∧1≤t.2.1∧t.2.1≤a.size∧2≤t.2.2.1∧t.2.2.1≤b.size∧Mh lt it a b t.2.2.2.1 t.2.1 t.2.2.1∧t.2.1 + t.2.2.1 + i≤a.size + b.size)
    (Q:=fun t st => (∃ g',st = St κ it p pend g')∧∃ r,t.1 = some r∧Md lt it a b r) ?_ ?_ ?_) fun t st' hq => ?_)
  · exact ⟨⟨_,rfl⟩,rfl,by show 1≤a.size - 1; lia,by show a.size - 1≤a.size; lia,by show 2≤b.size; lia,Nat.le_refl _,m0,by show a.size - 1 + b.size + 0≤_; lia⟩
  · rintro x i ⟨res,na,nb,out,mg⟩ st hi ⟨⟨g0,rfl⟩,h1,n1,n2,n3,n4,mo,hs⟩
    dsimp only at h1 n1 n2 n3 n4 mo hs ⊢
    subst h1
    refine wpS_bind (wpS_mono (wpS_inv (fun j (t : Option (Array Keyed)×Nat×Nat×Array Keyed×Nat×Nat) st => st = St κ it p pend g0∧t.1 = none∧1≤t.2.1∧t.2.1≤a.size∧2≤t.2.2.1∧t.2.2.1≤b.size∧Mh lt it a b t.2.2.2.1 t.2.1 t.2.2.1∧t.2.1 + t.2.2.1 + j≤na + nb)
      (Q:=fun t st => st = St κ it p pend g0∧match t.1 with
        | some r => Md lt it a b r
        | none => 1≤t.2.1∧t.2.1≤a.size∧2≤t.2.2.1∧t.2.2.1≤b.size∧Mh lt it a b t.2.2.2.1 t.2.1 t.2.2.1∧t.2.1 + t.2.2.1 < na + nb) ?_ ?_ ?_) fun t st' hq => ?_)
    · exact ⟨rfl,rfl,n1,n2,n3,n4,mo,Nat.le_refl _⟩
    · rintro x2 j ⟨res2,na2,nb2,out2,ac2,bc2⟩ st2 hj ⟨rfl,h2,k1,k2,k3,k4,mo2,hs2⟩
      dsimp only at h2 k1 k2 k3 k4 mo2 hs2 ⊢
      subst h2
      refine elem_q hb (by lia) fun y1 hy1 ey1 => ?_
      refine elem_q ha (by lia) fun x1 hx1 ex1 => ?_
      refine lt_q hc hy1 hx1 (fun el => ?_) fun el => ?_
      · dsimp only
        rw [if_pos rfl]
        refine elem_q ha (by lia) fun x2 hx2 ex2 => ?_
        obtain rfl:=opt_eq ex1 ex2
        have m1:=mo2.A k1 ex1 (tail_d ok sb ey1 (le_of_lt ok el))
        refine if_q (fun z => ?_) fun z => ?_
        · exact wpS_pure ⟨rfl,m1.ea z⟩
        · refine if_p (fun z3 => ?_) fun z3 => ?_
          · exact wpS_pure ⟨rfl,by show 1≤na2 - 1; lia,by show na2 - 1≤a.size; lia,k3,k4,m1,by show na2 - 1 + nb2 < na + nb; lia⟩
          · exact wpS_pure ⟨rfl,rfl,by show 1≤na2 - 1; lia,by show na2 - 1≤a.size; lia,k3,k4,m1,by show na2 - 1 + nb2 + (j + 1)≤na + nb; lia⟩
      · dsimp only
        rw [if_neg Bool.false_ne_true]
        refine elem_q hb (by lia) fun y2 hy2 ey2 => ?_
        obtain rfl:=opt_eq ey1 ey2
        have m1:=mo2.B (by lia) ey1 (tail_d ok sa ex1 el)
        refine if_q (fun z => ?_) fun z => ?_
        · exact wpS_pure ⟨rfl,m1.el z b1 hf⟩
        · refine if_p (fun z3 => ?_) fun z3 => ?_
          · exact wpS_pure ⟨rfl,k1,k2,by show 2≤nb2 - 1; lia,by show nb2 - 1≤b.size; lia,m1,by show na2 + (nb2 - 1) < na + nb; lia⟩
          · exact wpS_pure ⟨rfl,rfl,k1,k2,by show 2≤nb2 - 1; lia,by show nb2 - 1≤b.size; lia,m1,by show na2 + (nb2 - 1) + (j + 1)≤na + nb; lia⟩
    · rintro ⟨res2,na2,nb2,out2,ac2,bc2⟩ st2 ⟨rfl,h2,k1,k2,k3,k4,mo2,hs2⟩
      dsimp only at h2 k1 k2 k3 k4 mo2 hs2 ⊢
      subst h2
      exact ⟨rfl,k1,k2,k3,k4,mo2,by lia⟩
    obtain ⟨res1,na1,nb1,out1,ac1,bc1⟩:=t
    obtain ⟨rfl,hq⟩:=hq
    cases res1 with
    | some r => exact wpS_pure ⟨⟨_,rfl⟩,r,rfl,hq⟩
    | none =>
      dsimp only at hq ⊢
      obtain ⟨l1,l2,l3,l4,mo1,hs1⟩:=hq
      refine wpS_bind (wpS_lift (wpAny_rule ⟨rfl,?_⟩))
      refine wpS_bind (wpS_mono (wpS_inv (fun j (t : Option (Array Keyed)×Nat×Nat×Array Keyed×Nat×Nat×Nat) st => (∃ g',st = St κ it p pend g')∧t.1 = none∧1≤t.2.1∧t.2.1≤a.size∧2≤t.2.2.1∧t.2.2.1≤b.size∧Mh lt it a b t.2.2.2.1 t.2.1 t.2.2.1∧t.2.1 + t.2.2.1≤na1 + nb1)
        (Q:=fun t st => (∃ g',st = St κ it p pend g')∧match t.1 with
          | some r => Md lt it a b r
          | none => 1≤t.2.1∧t.2.1≤a.size∧2≤t.2.2.1∧t.2.2.1≤b.size∧Mh lt it a b t.2.2.2.1 t.2.1 t.2.2.1∧t.2.1 + t.2.2.1≤na1 + nb1) ?_ ?_ ?_) fun t st' hq => ?_)
      · exact ⟨⟨_,rfl⟩,rfl,l1,l2,l3,l4,mo1,Nat.le_refl _⟩
      · rintro x2 j ⟨res2,na2,nb2,out2,mg2,ac2,bc2⟩ st2 hj ⟨⟨g2,rfl⟩,h2,k1,k2,k3,k4,mo2,hs2⟩
        dsimp only at h2 k1 k2 k3 k4 mo2 hs2 ⊢
        subst h2
        generalize mg2 - 1 = m1
        apply if_two (a:=m1) (b:=mg2) rfl rfl
        intro m
        refine set_p ?_
        refine elem_q hb (by lia) fun y1 hy1 ey1 => ?_
        refine gal_rh hc ok ha sa hy1 (by lia) (by lia) fun k hk g1 g2 => ?_
        dsimp only
        refine if_p (fun z5 => ?_) fun z5 => ?_
        · have m1:=mo2.As hk (fun x hx => tail_d ok sb ey1 (le_of_lt ok (g2 x hx)))
          refine if_q (fun z => ?_) fun z => ?_
          · exact wpS_pure ⟨⟨_,rfl⟩,m1.ea z⟩
          refine elem_q hb (by lia) fun y2 hy2 ey2 => ?_
          obtain rfl:=opt_eq ey1 ey2
          have m2:=m1.B (by lia) ey1 g1
          refine if_q (fun z => ?_) fun z => ?_
          · exact wpS_pure ⟨⟨_,rfl⟩,m2.el z b1 hf⟩
          refine elem_q ha (by lia) fun x1 hx1 ex1 => ?_
          refine gal_lh hc ok hb sb hx1 (by lia) (by lia) fun k' hk' g3 g4 => ?_
          dsimp only
          refine if_p (fun z4 => ?_) fun z4 => ?_
          · have m3:=m2.Bs hk' (fun y hy => tail_d ok sa ex1 (g4 y hy))
            refine if_q (fun z => ?_) fun z => ?_
            · exact wpS_pure ⟨⟨_,rfl⟩,m3.el z b1 hf⟩
            refine if_q (fun z => ?_) fun z => ?_
            · exact wpS_pure ⟨⟨_,rfl⟩,m3.eb z⟩
            refine elem_q ha (by lia) fun x3 hx3 ex3 => ?_
            obtain rfl:=opt_eq ex1 ex3
            have m4:=m3.A (by lia) ex1 (fun y hy => le_of_lt ok (g3 y hy))
            refine if_q (fun z => ?_) fun z => ?_
            · exact wpS_pure ⟨⟨_,rfl⟩,m4.ea z⟩
            · refine if_p (fun z3 => ?_) fun z3 => ?_
              · exact wpS_pure ⟨⟨_,rfl⟩,by show 1≤k - 1; lia,by show k - 1≤a.size; lia,by show 2≤k'; lia,by show k'≤b.size; lia,m4,by show k - 1 + k'≤na1 + nb1; lia⟩
              · exact wpS_pure ⟨⟨_,rfl⟩,rfl,by show 1≤k - 1; lia,by show k - 1≤a.size; lia,by show 2≤k'; lia,by show k'≤b.size; lia,m4,by show k - 1 + k'≤na1 + nb1; lia⟩
          · have e5 : k' = nb2 - 1 := by lia
            rw [e5] at g3
            refine elem_q ha (by lia) fun x3 hx3 ex3 => ?_
            obtain rfl:=opt_eq ex1 ex3
            have m4:=m2.A (by lia) ex1 (fun y hy => le_of_lt ok (g3 y hy))
            refine if_q (fun z => ?_) fun z => ?_
            · exact wpS_pure ⟨⟨_,rfl⟩,m4.ea z⟩
            · refine if_p (fun z3 => ?_) fun z3 => ?_
              · exact wpS_pure ⟨⟨_,rfl⟩,by show 1≤k - 1; lia,by show k - 1≤a.size; lia,by show 2≤(nb2 - 1); lia,by show (nb2 - 1)≤b.size; lia,m4,by show k - 1 + (nb2 - 1)≤na1 + nb1; lia⟩
              · exact wpS_pure ⟨⟨_,rfl⟩,rfl,by show 1≤k - 1; lia,by show k - 1≤a.size; lia,by show 2≤(nb2 - 1); lia,by show (nb2 - 1)≤b.size; lia,m4,by show k - 1 + (nb2 - 1)≤na1 + nb1; lia⟩
        · have e6 : k = na2 := by lia
          rw [e6] at g1
          have m1:=mo2
          refine elem_q hb (by lia) fun y2 hy2 ey2 => ?_
          obtain rfl:=opt_eq ey1 ey2
          have m2:=m1.B (by lia) ey1 g1
          refine if_q (fun z => ?_) fun z => ?_
          · exact wpS_pure ⟨⟨_,rfl⟩,m2.el z b1 hf⟩
          refine elem_q ha (by lia) fun x1 hx1 ex1 => ?_
          refine gal_lh hc ok hb sb hx1 (by lia) (by lia) fun k' hk' g3 g4 => ?_
          dsimp only
          refine if_p (fun z4 => ?_) fun z4 => ?_
          · have m3:=m2.Bs hk' (fun y hy => tail_d ok sa ex1 (g4 y hy))
            refine if_q (fun z => ?_) fun z => ?_
            · exact wpS_pure ⟨⟨_,rfl⟩,m3.el z b1 hf⟩
            refine if_q (fun z => ?_) fun z => ?_
            · exact wpS_pure ⟨⟨_,rfl⟩,m3.eb z⟩
            refine elem_q ha (by lia) fun x3 hx3 ex3 => ?_
            obtain rfl:=opt_eq ex1 ex3
            have m4:=m3.A (by lia) ex1 (fun y hy => le_of_lt ok (g3 y hy))
            refine if_q (fun z => ?_) fun z => ?_
            · exact wpS_pure ⟨⟨_,rfl⟩,m4.ea z⟩
            · refine if_p (fun z3 => ?_) fun z3 => ?_
              · exact wpS_pure ⟨⟨_,rfl⟩,by show 1≤na2 - 1; lia,by show na2 - 1≤a.size; lia,by show 2≤k'; lia,by show k'≤b.size; lia,m4,by show na2 - 1 + k'≤na1 + nb1; lia⟩
              · exact wpS_pure ⟨⟨_,rfl⟩,rfl,by show 1≤na2 - 1; lia,by show na2 - 1≤a.size; lia,by show 2≤k'; lia,by show k'≤b.size; lia,m4,by show na2 - 1 + k'≤na1 + nb1; lia⟩
          · have e5 : k' = nb2 - 1 := by lia
            rw [e5] at g3
            refine elem_q ha (by lia) fun x3 hx3 ex3 => ?_
            obtain rfl:=opt_eq ex1 ex3
            have m4:=m2.A (by lia) ex1 (fun y hy => le_of_lt ok (g3 y hy))
            refine if_q (fun z => ?_) fun z => ?_
            · exact wpS_pure ⟨⟨_,rfl⟩,m4.ea z⟩
            · refine if_p (fun z3 => ?_) fun z3 => ?_
              · exact wpS_pure ⟨⟨_,rfl⟩,by show 1≤na2 - 1; lia,by show na2 - 1≤a.size; lia,by show 2≤(nb2 - 1); lia,by show (nb2 - 1)≤b.size; lia,m4,by show na2 - 1 + (nb2 - 1)≤na1 + nb1; lia⟩
              · exact wpS_pure ⟨⟨_,rfl⟩,rfl,by show 1≤na2 - 1; lia,by show na2 - 1≤a.size; lia,by show 2≤(nb2 - 1); lia,by show (nb2 - 1)≤b.size; lia,m4,by show na2 - 1 + (nb2 - 1)≤na1 + nb1; lia⟩
      · rintro ⟨res2,na2,nb2,out2,mg2,ac2,bc2⟩ st2 ⟨hg2,h2,k1,k2,k3,k4,mo2,hs2⟩
        dsimp only at h2 k1 k2 k3 k4 mo2 hs2 ⊢
        subst h2
        exact ⟨hg2,k1,k2,k3,k4,mo2,hs2⟩
      obtain ⟨res2,na2,nb2,out2,mg2,ac2,bc2⟩:=t
      obtain ⟨⟨g2,rfl⟩,hq⟩:=hq
      cases res2 with
      | some r => exact wpS_pure ⟨⟨_,rfl⟩,r,rfl,hq⟩
      | none =>
        dsimp only at hq ⊢
        obtain ⟨k1,k2,k3,k4,mo2,hs2⟩:=hq
        refine wpS_bind (wpS_modify ?_)
        exact wpS_pure ⟨⟨_,rfl⟩,rfl,k1,k2,k3,k4,mo2,by show na2 + nb2 + (i + 1)≤a.size + b.size; lia⟩
  · rintro ⟨res,na,nb,out,mg⟩ st ⟨_,h1,n1,n2,n3,n4,mo,hs⟩
    dsimp only at h1 n1 n2 n3 n4 mo hs
    lia
  obtain ⟨⟨g',rfl⟩,r,h1,h2⟩:=hq
  rw [h1]
  exact wpS_pure (q r g' h2)
end
end Tim
namespace Tim
open PySem PyProof.Rows
abbrev V (p : Array Nat) (u : Nat) : Nat:=p.getD u 0
def So (lt : Nat→Nat→Bool) (p : Array Nat) (i j : Nat) : Prop:=∀ u v,i≤u→u≤v→v < j→le lt (V p u) (V p v)
def Fa (lt : Nat→Nat→Bool) (p : Array Nat) (i j : Nat) : Prop:=∀ u v,i≤u→u≤v→v < j→le lt (V p v) (V p u)
def Ev (lt : Nat→Nat→Bool) (p : Array Nat) (i j : Nat) : Prop:=∀ u v,i≤u→u < j→i≤v→v < j→le lt (V p u) (V p v)
structure Kp (lo : Nat) (p q : Array Nat) : Prop where
  perm : q.Perm p
  low : ∀ u,u < lo→V q u = V p u
section
variable {N : Nat} {lt : Nat→Nat→Bool} {p q r : Array Nat} {lo : Nat}
theorem Kp.refl : Kp lo p p:=⟨.refl _,fun _ _ => rfl⟩
theorem Kp.trans (h : Kp lo p q) (k : Kp lo q r) : Kp lo p r:=⟨k.perm.trans h.perm,fun u hu => (k.low u hu).trans (h.low u hu)⟩
theorem Kp.size (h : Kp lo p q) : q.size = p.size:=h.perm.size_eq
theorem le_refl (ok : LtOk lt) (x : Nat) : le lt x x := by
  cases e : lt x x with
  | false => exact e
  | true => exact absurd (ok.as x x e) (by rw [e]; decide)
theorem V_get {u : Nat} (h : u < p.size) : p[u]? = some (V p u) := by
  show _ = some (p.getD u 0)
  rw [Array.getD,dif_pos h]; exact Array.getElem?_eq_getElem h
theorem V_of {u x : Nat} (h : p[u]? = some x) : V p u = x := by
  show p.getD u 0 = x
  rw [Array.getD_eq_getD_getElem?,h]; rfl
theorem at_is (h : En N p) {i j : Nat} (hi : i < p.size) (hj : j < p.size) : at2 N lt p i j = some (lt (V p i) (V p j)) := by
  unfold at2
  rw [V_get hi,V_get hj]
  exact cmp_some (h _ _ (V_get hi)) (h _ _ (V_get hj))
theorem turn_V {i j : Nat} (hj : j≤p.size) (k : Nat) : V (turn p i j) k = if i≤k∧k < j then V p (i + j - 1 - k) else V p k:=SM.getD_rev hj k
theorem turn_kp {i j : Nat} (hl : lo≤i) (hj : j≤p.size) : Kp lo p (turn p i j):=⟨mirror_perm _ _ _ _,fun u hu => by rw [turn_V hj,if_neg (by lia)]⟩
theorem En.kp (h : En N p) (k : Kp lo p q) : En N q:=h.perm k.perm
theorem So.succ (ok : LtOk lt) {n : Nat} (h : So lt p lo (lo + n)) (h1 : 1≤n) (k : le lt (V p (lo + n - 1)) (V p (lo + n))) : So lt p lo (lo + (n + 1)):=fun u v a b c => by
  by_cases z : v < lo + n
  · exact h u v a b z
  · obtain rfl : v = lo + n := by lia
    by_cases y : u = lo + n
    · subst y; exact le_refl ok _
    · exact ok.tr _ _ _ (h u (lo + n - 1) a (by lia) (by lia)) k
theorem Fa.succ (ok : LtOk lt) {n : Nat} (h : Fa lt p lo (lo + n)) (k : ∀ u,lo≤u→u < lo + n→le lt (V p (lo + n)) (V p u)) : Fa lt p lo (lo + (n + 1)):=fun u v a b c => by
  by_cases z : v < lo + n
  · exact h u v a b z
  · obtain rfl : v = lo + n := by lia
    by_cases y : u = lo + n
    · subst y; exact le_refl ok _
    · exact k u a (by lia)
theorem one_So (ok : LtOk lt) : So lt p lo (lo + 1):=fun u v a b c => by
  obtain rfl : u = v := by lia
  exact le_refl ok _
theorem one_Ev (ok : LtOk lt) {i : Nat} : Ev lt p i (i + 1):=fun u v a b c d => by
  obtain rfl : u = v := by lia
  exact le_refl ok _
theorem turn_in {i j k : Nat} (hj : j≤p.size) (h1 : lo≤i) (h2 : lo≤k) (h3 : k < j) : ∃ k',lo≤k'∧k' < j∧V (turn p i j) k = V p k'∧(k < i→k' = k)∧(i≤k→i≤k') := by
  rw [turn_V hj]
  by_cases c : i≤k∧k < j
  · rw [if_pos c]; exact ⟨_,by lia,by lia,rfl,by lia,by lia⟩
  · rw [if_neg c]; exact ⟨k,h2,h3,rfl,fun _ => rfl,by lia⟩
theorem turn_Fa {i j : Nat} (hj : j≤p.size) (h1 : lo≤i) (h : Fa lt p lo j) (k : Ev lt p i j) : Fa lt (turn p i j) lo j:=fun u v a b c => by
  obtain ⟨u',a1,a2,a3,a4,a5⟩:=turn_in hj h1 a (by lia : u < j)
  obtain ⟨v',b1,b2,b3,b4,b5⟩:=turn_in hj h1 (by lia : lo≤v) c
  rw [a3,b3]
  by_cases z : i≤u
  · exact k v' u' (b5 (by lia)) b2 (a5 z) a2
  · rw [a4 (by lia)]
    by_cases y : i≤v
    · exact h u v' a (by have := b5 y; lia) b2
    · rw [b4 (by lia)]; exact h u v a b c
theorem asc_is (ok : LtOk lt) (h : En N p) {nrem n : Nat} (hz : lo + nrem≤p.size) (h1 : 1≤n) {f : Nat} (hf : n + f = nrem) (hs : So lt p lo (lo + n)) : ∃ m,iter (ascS N lt p lo) f n = some m∧1≤m∧m≤nrem∧So lt p lo (lo + m)∧(m < nrem→lt (V p (lo + m)) (V p (lo + m - 1)) = true) := by
  obtain ⟨m,h2,h3⟩:=iter_inv (step:=ascS N lt p lo) (fun f n => 1≤n∧n + f = nrem∧So lt p lo (lo + n)) (fun n => 1≤n∧n≤nrem∧So lt p lo (lo + n)∧(n < nrem→lt (V p (lo + n)) (V p (lo + n - 1)) = true)) (fun f n ⟨k1,k2,k3⟩ => by
    unfold ascS
    rw [at_is (lt:=lt) h (by lia) (by lia)]
    cases e : lt (V p (lo + n)) (V p (lo + n - 1)) with
    | true => exact ⟨true,n,rfl,by rw [if_pos rfl]; exact ⟨k1,by lia,k3,fun _ => e⟩⟩
    | false => exact ⟨false,n + 1,rfl,by rw [if_neg (by decide)]; exact ⟨by lia,by lia,k3.succ ok k1 e⟩⟩) (fun n ⟨k1,k2,k3⟩ => ⟨k1,by lia,k3,by lia⟩) f n ⟨h1,hf,hs⟩
  exact ⟨m,h2,h3⟩
theorem fall_is (ok : LtOk lt) (h : En N p) {nrem n : Nat} (hz : lo + nrem≤p.size) (hn : n + 1≤nrem) (hd : Fa lt p lo (lo + (n + 1))) : ∃ m p',fallT N lt p lo nrem n = some (m,p')∧1≤m∧m≤nrem∧Kp lo p p'∧So lt p' lo (lo + m) := by
  obtain ⟨t,h2,h3,h5,h6,h7,h8,h9⟩:=iter_inv (step:=descS N lt lo) (fun f (t : Array Nat×Nat×Nat) => Kp lo p t.1∧1≤t.2.1∧t.2.1 + f = nrem∧Fa lt t.1 lo (lo + t.2.1)∧t.2.2 + 1≤t.2.1∧Ev lt t.1 (lo + t.2.1 - (t.2.2 + 1)) (lo + t.2.1)) (fun t => Kp lo p t.1∧1≤t.2.1∧t.2.1≤nrem∧Fa lt t.1 lo (lo + t.2.1)∧t.2.2 + 1≤t.2.1∧Ev lt t.1 (lo + t.2.1 - (t.2.2 + 1)) (lo + t.2.1)) (fun f t ⟨k1,k3,k4,k5,k6,k7⟩ => by
    obtain ⟨q,n,c⟩:=t
    dsimp only at k1 k3 k4 k5 k6 k7
    have kz:=k1.size
    have he:=h.kp k1
    unfold descS
    dsimp only
    rw [at_is (lt:=lt) he (by lia) (by lia),at_is (lt:=lt) he (by lia) (by lia)]
    cases e : lt (V q (lo + n)) (V q (lo + n - 1)) with
    | true =>
      refine ⟨false,_,rfl,?_⟩
      rw [if_neg (by decide)]
      dsimp only
      have e' : le lt (V q (lo + n)) (V q (lo + n - 1)):=le_of_lt ok e
      split
      · have hj : lo + n≤q.size := by lia
        have k:=turn_Fa hj (by lia) k5 k7
        have en : V (turn q (lo + n - (c + 1)) (lo + n)) (lo + n) = V q (lo + n) := by rw [turn_V hj,if_neg (by lia)]
        refine ⟨k1.trans (turn_kp (by lia) hj),by lia,by lia,k.succ ok fun u a b => ?_,by lia,?_⟩
        · rw [en]
          obtain ⟨u',a1,a2,a3,_⟩:=turn_in (i:=lo + n - (c + 1)) hj (by lia) a b
          rw [a3]
          exact ok.tr _ _ _ e' (k5 u' _ a1 (by lia) (by lia))
        · exact one_Ev ok (i:=lo + n)
      · exact ⟨k1,by lia,by lia,k5.succ ok fun u a b => ok.tr _ _ _ e' (k5 u _ a (by lia) (by lia)),by lia,one_Ev ok (i:=lo + n)⟩
    | false =>
      dsimp only
      cases e2 : lt (V q (lo + n - 1)) (V q (lo + n)) with
      | true => exact ⟨true,_,rfl,by rw [if_pos rfl]; exact ⟨k1,k3,by show n≤nrem; lia,k5,k6,k7⟩⟩
      | false =>
        refine ⟨false,_,rfl,?_⟩
        rw [if_neg (by decide)]
        refine ⟨k1,by show 1≤n + 1; lia,by show n + 1 + f = nrem; lia,k5.succ ok fun u a b => ok.tr _ _ _ e2 (k5 u _ a (by lia) (by lia)),by show c + 1 + 1≤n + 1; lia,?_⟩
        show Ev lt q (lo + (n + 1) - (c + 1 + 1)) (lo + (n + 1))
        intro u v a b d1 d2
        by_cases zu : u = lo + n
        · subst zu
          by_cases zv : v = lo + n
          · subst zv; exact le_refl ok _
          · exact ok.tr _ _ _ e2 (k7 (lo + n - 1) v (by lia) (by lia) (by lia) (by lia))
        · by_cases zv : v = lo + n
          · subst zv; exact ok.tr _ _ _ (k7 u (lo + n - 1) (by lia) (by lia) (by lia) (by lia)) e
          · exact k7 u v (by lia) (by lia) (by lia) (by lia)) (fun t ⟨k1,k3,k4,k5,k6,k7⟩ => ⟨k1,k3,by lia,k5,k6,k7⟩) (nrem - (n + 1)) (p,n + 1,0) ⟨.refl,by show 1≤n + 1; lia,by show n + 1 + (nrem - (n + 1)) = nrem; lia,hd,by show 0 + 1≤n + 1; lia,one_Ev ok (i:=lo + n)⟩
  obtain ⟨q,m,c⟩:=t
  dsimp only at h3 h5 h6 h7 h8 h9
  unfold fallT
  rw [h2]
  dsimp only
  have hz3:=h3.size
  have k : Kp lo p (if c > 0 then turn q (lo + m - (c + 1)) (lo + m) else q)∧Fa lt (if c > 0 then turn q (lo + m - (c + 1)) (lo + m) else q) lo (lo + m) := by
    split
    · exact ⟨h3.trans (turn_kp (by lia) (by lia)),turn_Fa (by lia) (by lia) h7 h9⟩
    · exact ⟨h3,h7⟩
  generalize (if c > 0 then turn q (lo + m - (c + 1)) (lo + m) else q) = q2 at k
  have kz:=k.1.size
  have kt : Kp lo p (turn q2 lo (lo + m)):=k.1.trans (turn_kp (Nat.le_refl _) (by lia))
  have ks : So lt (turn q2 lo (lo + m)) lo (lo + m):=fun u v a b d => by
    rw [turn_V (by lia),turn_V (by lia),if_pos ⟨a,by lia⟩,if_pos ⟨by lia,d⟩]
    exact k.2 _ _ (by lia) (by lia) (by lia)
  obtain ⟨m2,y1,y2,y3,y4,_⟩:=asc_is ok (h.kp kt) (lo:=lo) (nrem:=nrem) (n:=m) (f:=nrem - m) (by rw [kt.size]; exact hz) h5 (by lia) ks
  exact ⟨m2,_,by rw [y1]; rfl,y2,y3,kt,y4⟩
theorem count_is (ok : LtOk lt) (h : En N p) {nrem : Nat} (hz : lo + nrem≤p.size) (h1 : 1≤nrem) : ∃ m p',countT N lt p lo nrem = some (m,p')∧1≤m∧m≤nrem∧Kp lo p p'∧So lt p' lo (lo + m) := by
  obtain ⟨n,h2,h3,h4,h5,h6⟩:=asc_is ok h (lo:=lo) (nrem:=nrem) (n:=1) (f:=nrem - 1) hz (Nat.le_refl _) (by lia) (one_So ok)
  unfold countT
  rw [h2]
  dsimp only
  by_cases c1 : (n == nrem) = true
  · rw [if_pos c1]
    exact ⟨n,p,rfl,h3,h4,.refl,h5⟩
  rw [if_neg c1]
  have c1' : n≠nrem := by simpa using c1
  have e:=le_of_lt ok (h6 (by lia))
  by_cases c2 : n > 1
  · rw [if_pos c2,at_is (lt:=lt) h (by lia) (by lia)]
    cases e2 : lt (V p lo) (V p (lo + n - 1)) with
    | true => exact ⟨n,p,rfl,h3,h4,.refl,h5⟩
    | false =>
      have ev : Ev lt p lo (lo + n):=fun u v a b d1 d2 => by
        exact ok.tr _ _ _ (ok.tr _ _ _ (h5 u (lo + n - 1) a (by lia) (by lia)) e2) (h5 lo v (by lia) d1 d2)
      have hj : lo + n≤p.size := by lia
      have kt : Kp lo p (turn p lo (lo + n)):=turn_kp (Nat.le_refl _) hj
      have en : V (turn p lo (lo + n)) (lo + n) = V p (lo + n) := by rw [turn_V hj,if_neg (by lia)]
      have fa : Fa lt (turn p lo (lo + n)) lo (lo + n):=turn_Fa hj (Nat.le_refl _) (fun u v a b c => ev v u (by lia) c a (by lia)) ev
      obtain ⟨m,p',y1,y2,y3,y4,y5⟩:=fall_is ok (h.kp kt) (lo:=lo) (nrem:=nrem) (n:=n) (by rw [kt.size]; exact hz) (by lia) (fa.succ ok fun u a b => by
        rw [en]
        obtain ⟨u',a1,a2,a3,_⟩:=turn_in hj (Nat.le_refl _) a b
        rw [a3]
        exact ok.tr _ _ _ e (ev _ _ (by lia) (by lia) a1 a2))
      exact ⟨m,p',y1,y2,y3,kt.trans y4,y5⟩
  · rw [if_neg c2]
    obtain rfl : n = 1 := by lia
    refine fall_is ok h hz (by lia) (Fa.succ ok (fun u v a b c => ?_) fun u a b => ?_)
    · obtain rfl : u = v := by lia
      exact le_refl ok _
    · obtain rfl : u = lo := by lia
      exact e
theorem bin_is (ok : LtOk lt) : ∀ {f k : Nat} {p : Array Nat},En N p→lo + k + f≤p.size→So lt p lo (lo + k)→∃ p',binT N lt lo f k p = some p'∧Kp lo p p'∧So lt p' lo (lo + k + f)
  | 0,k,p,h,_,hs => ⟨p,rfl,.refl,hs⟩
  | f + 1,k,p,h,hz,hs => by
    obtain ⟨t,h2,t1,t2,t3,t4⟩:=iter_inv (step:=placeS N lt p lo k) (fun f (t : Nat×Nat) => t.1≤t.2∧t.2≤k∧t.2 - t.1≤f∧(∀ i,i < t.1→le lt (V p (lo + i)) (V p (lo + k)))∧∀ i,t.2≤i→i < k→le lt (V p (lo + k)) (V p (lo + i))) (fun t => t.1 = t.2∧t.2≤k∧(∀ i,i < t.1→le lt (V p (lo + i)) (V p (lo + k)))∧∀ i,t.2≤i→i < k→le lt (V p (lo + k)) (V p (lo + i))) (fun f t ⟨k1,k2,k3,k4,k5⟩ => by
      unfold placeS
      by_cases c : t.1 ≥ t.2
      · exact ⟨true,t,if_pos c,by rw [if_pos rfl]; exact ⟨by lia,k2,k4,k5⟩⟩
      · rw [if_neg c,at_is (lt:=lt) h (by lia) (by lia)]
        cases e : lt (V p (lo + k)) (V p (lo + (t.1 + t.2) / 2)) with
        | true =>
          refine ⟨false,_,rfl,?_⟩
          rw [if_neg (by decide)]
          exact ⟨by show t.1≤(t.1 + t.2) / 2; lia,by show (t.1 + t.2) / 2≤k; lia,by show (t.1 + t.2) / 2 - t.1≤f; lia,k4,fun i a b => ok.tr _ _ _ (le_of_lt ok e) (hs _ _ (by lia) (by have : (t.1 + t.2) / 2≤i:=a; lia) (by lia))⟩
        | false =>
          refine ⟨false,_,rfl,?_⟩
          rw [if_neg (by decide)]
          exact ⟨by show (t.1 + t.2) / 2 + 1≤t.2; lia,k2,by show t.2 - ((t.1 + t.2) / 2 + 1)≤f; lia,fun i a => ok.tr _ _ _ (hs _ _ (by lia) (by have : i < (t.1 + t.2) / 2 + 1:=a; lia) (by lia)) e,k5⟩) (fun t ⟨k1,k2,k3,k4,k5⟩ => ⟨by lia,k2,k4,k5⟩) k (0,k) ⟨Nat.zero_le _,Nat.le_refl _,Nat.le_refl _,fun i a => absurd a (Nat.not_lt_zero _),fun i a b => absurd b (by have : k≤i:=a; lia)⟩
    obtain ⟨l,r⟩:=t
    dsimp only at t1 t2 t3 t4
    subst t1
    rw [binT,h2]
    dsimp only
    have bV : ∀ u,V (bubble p (lo + k) (lo + k - (lo + l))) u = if u = lo + l then V p (lo + k) else if lo + l < u∧u≤lo + k then V p (u - 1) else V p u:=fun u => by
      rw [show lo + k - (lo + l) = k - l by lia]
      have:=SM.getD_bubble (p:=p) (src:=lo + k) (d:=k - l) (by lia) (by lia) u
      rw [show lo + k - (k - l) = lo + l by lia] at this
      exact this
    have kb : Kp lo p (bubble p (lo + k) (lo + k - (lo + l))):=⟨bubble_perm _ _ _,fun u hu => by rw [bV,if_neg (by lia),if_neg (by lia)]⟩
    have sb : So lt (bubble p (lo + k) (lo + k - (lo + l))) lo (lo + (k + 1)):=fun u v a b c => by
      rw [bV,bV]
      by_cases z1 : u = lo + l
      · rw [if_pos z1]
        by_cases z2 : v = lo + l
        · rw [if_pos z2]; exact le_refl ok _
        · rw [if_neg z2,if_pos (by lia)]
          have:=t4 (v - 1 - lo) (by lia) (by lia)
          rwa [show lo + (v - 1 - lo) = v - 1 by lia] at this
      · rw [if_neg z1]
        by_cases z3 : lo + l < u∧u≤lo + k
        · rw [if_pos z3,if_neg (by lia),if_pos (by lia)]
          exact hs _ _ (by lia) (by lia) (by lia)
        · rw [if_neg z3]
          by_cases z2 : v = lo + l
          · rw [if_pos z2]
            have:=t3 (u - lo) (by lia)
            rwa [show lo + (u - lo) = u by lia] at this
          · rw [if_neg z2]
            by_cases z4 : lo + l < v∧v≤lo + k
            · rw [if_pos z4]; exact hs _ _ (by lia) (by lia) (by lia)
            · rw [if_neg z4]; exact hs _ _ (by lia) (by lia) (by lia)
    obtain ⟨p',y1,y2,y3⟩ := bin_is ok (f:=f) (k:=k + 1) (p := bubble p (lo + k) (lo + k - (lo + l))) (h.kp kb) (by rw [bubble_size]; lia) sb
    exact ⟨p',y1,kb.trans y2,by rw [show lo + k + (f + 1) = lo + (k + 1) + f by lia]; exact y3⟩
end
end Tim
namespace Tim
open PySem PyProof.Rows
theorem put_get {at_ : Nat} : ∀ (l : List Nat) (k : Nat) (p : Array Nat),at_ + k + l.length≤p.size→∀ u,((l.zipIdx k).foldl (fun a x => a.setIfInBounds (at_ + x.2) x.1) p)[u]? = if at_ + k≤u∧u < at_ + k + l.length then l[u - at_ - k]? else p[u]?
  | [],k,p,h,u => by rw [if_neg (by rw [List.length_nil]; lia)]; rfl
  | y :: l,k,p,h,u => by
    rw [List.length_cons] at h
    rw [List.zipIdx_cons,List.foldl_cons,put_get l (k + 1) _ (by rw [Array.size_setIfInBounds]; lia) u,Array.getElem?_setIfInBounds]
    rw [List.length_cons]
    by_cases c : at_ + (k + 1)≤u∧u < at_ + (k + 1) + l.length
    · rw [if_pos c,if_pos (by lia),show u - at_ - k = (u - at_ - (k + 1)) + 1 by lia,List.getElem?_cons_succ]
    · rw [if_neg c]
      by_cases d : at_ + k = u
      · rw [if_pos d,if_pos (by show at_ + k < p.size; lia),if_pos (by lia),show u - at_ - k = 0 by lia]; rfl
      · rw [if_neg d,if_neg (by lia)]
section
variable  {lt : Nat→Nat→Bool} {p m : Array Nat} {at_ : Nat}
theorem put_is (h : at_ + m.size≤p.size) (u : Nat) : (putT p at_ m)[u]? = if at_≤u∧u < at_ + m.size then m[u - at_]? else p[u]? := by
  have:=put_get (at_:=at_) m.toList 0 p (by simpa using h) u
  simpa [putT] using this
theorem put_list (h : at_ + m.size≤p.size) : (putT p at_ m).toList = p.toList.take at_ ++ m.toList ++ p.toList.drop (at_ + m.size) := by
  apply List.ext_getElem?
  intro u
  rw [Array.getElem?_toList,put_is h]
  have l1 : (p.toList.take at_).length = at_ := by simp; lia
  by_cases c : at_≤u∧u < at_ + m.size
  · rw [if_pos c,List.getElem?_append_left (by simp; lia),List.getElem?_append_right (by lia),l1,Array.getElem?_toList]
  · rw [if_neg c]
    by_cases d : u < at_
    · rw [List.getElem?_append_left (by simp; lia),List.getElem?_append_left (by lia),List.getElem?_take,if_pos d,Array.getElem?_toList]
    · have l2 : (p.toList.take at_ ++ m.toList).length = at_ + m.size := by rw [List.length_append,l1]; simp
      rw [List.getElem?_append_right (by lia),l2,List.getElem?_drop,Array.getElem?_toList]
      congr 1; lia
theorem put_perm {e : Nat} (h : at_≤e) (he : e≤p.size) (k : m.toList.Perm (p.extract at_ e).toList) : (putT p at_ m).Perm p∧m.size = e - at_ := by
  have z : m.size = e - at_ := by
    have:=k.length_eq
    simp at this
    lia
  refine ⟨?_,z⟩
  rw [Array.perm_iff_toList_perm,put_list (by lia)]
  rw [ext_l] at k
  have e2 : p.toList = p.toList.take at_ ++ (p.toList.drop at_).take (e - at_) ++ p.toList.drop (at_ + m.size) := by
    rw [z,List.append_assoc,← drop_cut,List.take_append_drop]
  refine List.Perm.trans ?_ (List.Perm.of_eq e2.symm)
  exact List.Perm.append_right _ (List.Perm.append_left _ k)
theorem ext_cut {i j k : Nat} (h1 : i≤j) (h2 : j≤k) (h3 : k≤p.size) : (p.extract i j).toList ++ (p.extract j k).toList = (p.extract i k).toList := by
  rw [← Array.toList_append,Array.extract_append_extract,Nat.min_eq_left h1,Nat.max_eq_right h2]
theorem mem_ext {i j x : Nat} (hj : j≤p.size) (h : x∈(p.extract i j).toList) : ∃ u,i≤u∧u < j∧V p u = x := by
  obtain ⟨u,hu,rfl⟩:=List.getElem_of_mem h
  have hu' : u < j - i := by simp at hu; lia
  refine ⟨i + u,by lia,by lia,?_⟩
  rw [Array.getElem_toList,Array.getElem_extract]
  exact V_of (Array.getElem?_eq_getElem (by lia))
theorem ext_so {i j : Nat} (hj : j≤p.size) (h : So lt p i j) : (p.extract i j).toList.Pairwise (le lt) := by
  refine List.pairwise_iff_getElem.mpr fun u v hu hv huv => ?_
  have hv' : v < j - i := by simp at hv; lia
  simp only [Array.getElem_toList,Array.getElem_extract]
  have:=h (i + u) (i + v) (by lia) (by lia) (by lia)
  rwa [V_of (Array.getElem?_eq_getElem (by lia)),V_of (Array.getElem?_eq_getElem (by lia))] at this
theorem merged_So (ok : LtOk lt) {sa k sb nb2 nb : Nat} (hk : sa + k≤sb) (h2 : nb2≤nb) (hz : sb + nb≤p.size) (n2 : 1≤nb) (s1 : So lt p sa sb) (s2 : So lt p sb (sb + nb)) (kb : k < sb - sa)
    (g1 : ∀ i,i < k→le lt (V p (sa + i)) (V p sb)) (g2 : ∀ i,nb2≤i→i < nb→le lt (V p (sb - 1)) (V p (sb + i))) (hm : Mgd lt ((p.extract (sa + k) sb).toList ++ (p.extract sb (sb + nb2)).toList) m.toList) :
    (putT p (sa + k) m).Perm p∧(∀ u,u < sa∨sb + nb≤u→V (putT p (sa + k) m) u = V p u)∧So lt (putT p (sa + k) m) sa (sb + nb) := by
  rw [ext_cut (by lia) (by lia) (by lia)] at hm
  obtain ⟨e1,e2⟩:=put_perm (by lia) (by lia) hm.2
  have pv : ∀ u,V (putT p (sa + k) m) u = if sa + k≤u∧u < sb + nb2 then V m (u - (sa + k)) else V p u:=fun u => by
    have:=put_is (p:=p) (m:=m) (at_:=sa + k) (by lia) u
    show (putT p (sa + k) m).getD u 0 = _
    rw [Array.getD_eq_getD_getElem?,this,show sa + k + m.size = sb + nb2 by lia]
    split
    · show _ = m.getD _ 0; rw [Array.getD_eq_getD_getElem?]
    · show _ = p.getD _ 0; rw [Array.getD_eq_getD_getElem?]
  have mm : ∀ u,sa + k≤u→u < sb + nb2→∃ u',sa + k≤u'∧u' < sb + nb2∧V m (u - (sa + k)) = V p u':=fun u a b => by
    have hx : V m (u - (sa + k))∈m.toList := by
      have:=V_get (p:=m) (u:=u - (sa + k)) (by lia)
      exact Array.mem_toList_iff.mpr (Array.mem_of_getElem? this)
    obtain ⟨u',c1,c2,c3⟩:=mem_ext (by lia) (hm.2.mem_iff.mp hx)
    exact ⟨u',c1,c2,c3.symm⟩
  refine ⟨e1,fun u hu => ?_,fun u v a b c => ?_⟩
  · rw [pv,if_neg (by lia)]
  have lowhi : ∀ u v,sa≤u→u < sa + k→sa + k≤v→v < sb + nb→le lt (V p u) (V p v):=fun u v a b c d => by
    by_cases z : v < sb
    · exact s1 u v a (by lia) z
    · have:=g1 (u - sa) (by lia)
      rw [show sa + (u - sa) = u by lia] at this
      exact ok.tr _ _ _ this (s2 sb v (Nat.le_refl _) (by lia) d)
  have hi : ∀ u v,sa + k≤u→u < sb + nb2→sb + nb2≤v→v < sb + nb→le lt (V p u) (V p v):=fun u v a b c d => by
    by_cases z : u < sb
    · have:=g2 (v - sb) (by lia) (by lia)
      rw [show sb + (v - sb) = v by lia] at this
      exact ok.tr _ _ _ (s1 u (sb - 1) (by lia) (by lia) (by lia)) this
    · exact s2 u v (by lia) (by lia) d
  rw [pv,pv]
  by_cases z1 : sa + k≤u∧u < sb + nb2
  · rw [if_pos z1]
    by_cases z2 : sa + k≤v∧v < sb + nb2
    · rw [if_pos z2]
      rcases Nat.lt_or_eq_of_le b with y | rfl
      · have:=(List.pairwise_iff_getElem.mp hm.1) (u - (sa + k)) (v - (sa + k)) (by simp; lia) (by simp; lia) (by lia)
        rwa [Array.getElem_toList,Array.getElem_toList,← V_of (p:=m) (u:=u - (sa + k)) (Array.getElem?_eq_getElem (by lia)),← V_of (p:=m) (u:=v - (sa + k)) (Array.getElem?_eq_getElem (by lia))] at this
      · exact le_refl ok _
    · rw [if_neg z2]
      obtain ⟨u',c1,c2,c3⟩:=mm u z1.1 z1.2
      rw [c3]
      exact hi u' v c1 c2 (by lia) c
  · rw [if_neg z1]
    by_cases z2 : sa + k≤v∧v < sb + nb2
    · rw [if_pos z2]
      obtain ⟨v',c1,c2,c3⟩:=mm v z2.1 z2.2
      rw [c3]
      exact lowhi u v' a (by lia) c1 (by lia)
    · rw [if_neg z2]
      by_cases z3 : v < sa + k
      · exact s1 u v a b (by lia)
      · by_cases z4 : u < sa + k
        · exact lowhi u v a z4 (by lia) c
        · exact s2 u v (by lia) b c
end
section
variable {prog : Program} {w : World} {A : Around} {E : Value→Shared→Prop} {s : Shared} {N : Nat} {lt : Nat→Nat→Bool} {κ : SortKind} {it : Nat→Keyed} {p : Array Nat} {pend : Array (Nat×Nat×Nat)} {g : Nat}
theorem gal_rs (hc : Cm prog w A s κ it N lt) (ok : LtOk lt) {key : Nat} {xs : Array Nat} {base n hint : Nat} (hx : En N xs) (so : So lt xs base (base + n)) (hk : Kn N key) (hn : base + n≤xs.size) (hh : hint < n) {β : Type} {f : Option Nat→StateT SortSt Sem β} {Q : β→SortSt→Prop}
    (q : ∀ k,k≤n→(∀ i,i < k→le lt (V xs (base + i)) key)→(∀ i,k≤i→i < n→lt key (V xs (base + i)) = true)→wpS (model prog w) A E s (f (some k)) Q (St κ it p pend g)) : wpS (model prog w) A E s ((sortPriv% PySem.Builtin.gallop) false (it key) (xs.map it) base n hint >>= f) Q (St κ it p pend g) := by
  have hv : ∀ i,i < n→bey N lt false key xs base i = some (!lt key (V xs (base + i))):=fun i hi => by
    have h1:=V_get (p:=xs) (u := base + i) (by lia)
    unfold bey
    rw [h1]
    show (cmp N lt key _).map _ = _
    rw [cmp_some hk (hx _ _ h1)]; rfl
  obtain ⟨k,h1,h2,h3,h4⟩:=gal_is hv (fun i j hij hj e => by
    rw [Bool.not_eq_true'] at e ⊢
    exact ok.tr _ _ _ (so (base + i) (base + j) (by lia) (by lia) (by lia)) e) hh
  exact wpS_bind (gallop_ok hc h1 (q k h2 (fun i hi => by simpa using h3 i hi) fun i hi hn => by simpa using h4 i hi hn))
theorem gal_ls (hc : Cm prog w A s κ it N lt) (ok : LtOk lt) {key : Nat} {xs : Array Nat} {base n hint : Nat} (hx : En N xs) (so : So lt xs base (base + n)) (hk : Kn N key) (hn : base + n≤xs.size) (hh : hint < n) {β : Type} {f : Option Nat→StateT SortSt Sem β} {Q : β→SortSt→Prop}
    (q : ∀ k,k≤n→(∀ i,i < k→lt (V xs (base + i)) key = true)→(∀ i,k≤i→i < n→le lt key (V xs (base + i)))→wpS (model prog w) A E s (f (some k)) Q (St κ it p pend g)) : wpS (model prog w) A E s ((sortPriv% PySem.Builtin.gallop) true (it key) (xs.map it) base n hint >>= f) Q (St κ it p pend g) := by
  have hv : ∀ i,i < n→bey N lt true key xs base i = some (lt (V xs (base + i)) key):=fun i hi => by
    have h1:=V_get (p:=xs) (u := base + i) (by lia)
    unfold bey
    rw [h1]
    exact cmp_some (hx _ _ h1) hk
  obtain ⟨k,h1,h2,h3,h4⟩:=gal_is hv (fun i j hij hj e => by
    cases q : lt (V xs (base + i)) key with
    | true => rfl
    | false => rw [show lt _ key = false from ok.tr key _ _ q (so (base + i) (base + j) (by lia) (by lia) (by lia))] at e; cases e) hh
  exact wpS_bind (gallop_ok hc h1 (q k h2 (fun i hi => h3 i hi) fun i hi hn => h4 i hi hn))
theorem mergeAt_is (hc : Cm prog w A s κ it N lt) (ok : LtOk lt) (hp : En N p) {i sa na pw sb nb pw2 : Nat} (h0 : pend[i]? = some (sa,na,pw)) (h1 : pend[i + 1]? = some (sb,nb,pw2)) (hs : sa + na = sb) (hz : sb + nb≤p.size) (n1 : 1≤na) (n2 : 1≤nb) (s1 : So lt p sa sb) (s2 : So lt p sb (sb + nb)) {Q : Bool→SortSt→Prop}
    (q : ∀ p' g',p'.Perm p→(∀ u,u < sa∨sb + nb≤u→V p' u = V p u)→So lt p' sa (sb + nb)→Q true (St κ it p' ((pend.setIfInBounds i (sa,na + nb,pw)).eraseIdxIfInBounds (i + 1)) g')) : wpS (model prog w) A E s (mergeAt' i) Q (St κ it p pend g) := by
  refine wpS_bind (wpS_get ?_)
  have e0 : (pendingOf (St κ it p pend g))[i]? = some (sa,na,pw):=h0
  have e1 : (pendingOf (St κ it p pend g))[i + 1]? = some (sb,nb,pw2):=h1
  rw [e0,e1]
  dsimp only
  refine wpS_bind (wpS_set ?_)
  refine elem_q hp (by lia) fun y hy ey => ?_
  obtain rfl:=(V_of ey)
  refine gal_rs (p:=p) (pend:=(pend.setIfInBounds i (sa,na + nb,pw)).eraseIdxIfInBounds (i + 1)) (g:=g) hc ok hp (by rw [hs]; exact s1) hy (by lia) (by lia) fun k hk g1 g2 => ?_
  dsimp only
  by_cases c1 : (na - k == 0) = true
  · refine wpS_pos c1 (wpS_pure (q _ _ (.refl _) (fun _ _ => rfl) fun u v a b c => ?_))
    have c1' : na - k = 0 := by simpa using c1
    by_cases z : v < sb
    · exact s1 u v a b z
    · by_cases z2 : u < sb
      · have:=g1 (u - sa) (by lia)
        rw [show sa + (u - sa) = u by lia] at this
        exact ok.tr _ _ _ this (s2 sb v (Nat.le_refl _) (by lia) c)
      · exact s2 u v (by lia) b c
  refine wpS_neg c1 ?_
  have c1' : na - k≠0 := by simpa using c1
  refine elem_q hp (by lia) fun z hz' ez => ?_
  rw [show sa + k + (na - k) - 1 = sb - 1 by lia] at ez
  obtain rfl:=(V_of ez)
  refine gal_ls (p:=p) (pend:=(pend.setIfInBounds i (sa,na + nb,pw)).eraseIdxIfInBounds (i + 1)) (g:=g) hc ok hp s2 hz' (by lia) (by lia) fun nb2 hk2 g3 g4 => ?_
  dsimp only
  by_cases c2 : (nb2 == 0) = true
  · refine wpS_pos c2 (wpS_pure (q _ _ (.refl _) (fun _ _ => rfl) fun u v a b c => ?_))
    have c2' : nb2 = 0 := by simpa using c2
    by_cases z : v < sb
    · exact s1 u v a b z
    · by_cases z2 : u < sb
      · have:=g4 (v - sb) (by lia) (by lia)
        rw [show sb + (v - sb) = v by lia] at this
        exact ok.tr _ _ _ (s1 u (sb - 1) a (by lia) (by lia)) this
      · exact s2 u v (by lia) b c
  refine wpS_neg c2 ?_
  have c2' : nb2≠0 := by simpa using c2
  have sx : (p.extract (sa + k) sb).size = sb - (sa + k) := by simp; lia
  have sy : (p.extract sb (sb + nb2)).size = nb2 := by simp; lia
  have so1 : (p.extract (sa + k) sb).toList.Pairwise (le lt):=ext_so (by lia) fun u v a b c => s1 u v (by lia) b c
  have so2 : (p.extract sb (sb + nb2)).toList.Pairwise (le lt):=ext_so (by lia) fun u v a b c => s2 u v a b (by lia)
  have hf : ∀ y,(p.extract sb (sb + nb2))[0]? = some y→∀ x∈(p.extract (sa + k) sb).toList,le lt y x:=fun y hy x hx => by
    rw [Array.getElem?_extract,if_pos (by lia),Nat.add_zero] at hy
    have ey:=V_of hy
    obtain ⟨u,a,b,rfl⟩:=mem_ext (by lia) hx
    have:=g2 (u - sa) (by lia) (by lia)
    rw [show sa + (u - sa) = u by lia] at this
    rw [← ey]
    exact le_of_lt ok this
  have hl : ∀ x,(p.extract (sa + k) sb)[(p.extract (sa + k) sb).size - 1]? = some x→∀ y∈(p.extract sb (sb + nb2)).toList,le lt y x:=fun x hx y hy => by
    rw [sx,Array.getElem?_extract,if_pos (by lia),show sa + k + (sb - (sa + k) - 1) = sb - 1 by lia] at hx
    have ex:=V_of hx
    obtain ⟨u,a,b,rfl⟩:=mem_ext (by lia) hy
    have:=g3 (u - sb) (by lia)
    rw [show sb + (u - sb) = u by lia] at this
    rw [← ex]
    exact le_of_lt ok this
  have fin : ∀ r g',Md lt it (p.extract (sa + k) sb) (p.extract sb (sb + nb2)) r→wpS (model prog w) A E s (do
      modify fun s => setArr s (r.toList.zipIdx.foldl (fun a (x : Keyed×Nat) => a.setIfInBounds (sa + k + x.2) x.1) (arrOf s))
      return (failedOf (← get)).isNone) Q (St κ it p ((pend.setIfInBounds i (sa,na + nb,pw)).eraseIdxIfInBounds (i + 1)) g'):=fun r g' hr => by
    obtain ⟨m,rfl,hm⟩:=hr
    refine wpS_bind (wpS_modify ?_)
    refine wpS_bind (wpS_get ?_)
    refine wpS_pure ?_
    obtain ⟨z1,z2,z3⟩:=merged_So ok (by lia) hk2 hz n2 s1 s2 (by lia) g1 g4 hm
    have q':=q _ g' z1 z2 z3
    have e3:=put_map (it:=it) p (sa + k) m
    unfold St at q'
    rw [← e3] at q'
    exact q'
  split
  · rw [← Array.map_extract,← Array.map_extract]
    exact wpS_bind (mergeLo_is (p:=p) (pend:=(pend.setIfInBounds i (sa,na + nb,pw)).eraseIdxIfInBounds (i + 1)) hc ok hp.ext hp.ext so1 so2 (by rw [sx]; lia) (by rw [sy]; lia) hf hl fun r g' hr => fin r g' hr)
  · rw [← Array.map_extract,← Array.map_extract]
    exact wpS_bind (mergeHi_is (p:=p) (pend:=(pend.setIfInBounds i (sa,na + nb,pw)).eraseIdxIfInBounds (i + 1)) hc ok hp.ext hp.ext so1 so2 (by rw [sx]; lia) (by rw [sy]; lia) hf hl fun r g' hr => fin r g' hr)
end
end Tim
namespace Tim
open PySem PyProof.Rows
def Adj (lt : Nat→Nat→Bool) (p : Array Nat) : Nat→Nat→List (Nat×Nat×Nat)→Prop
  | s,e,[] => s = e
  | s,e,x :: t => x.1 = s∧1≤x.2.1∧So lt p s (s + x.2.1)∧Adj lt p (s + x.2.1) e t
section
variable {lt : Nat→Nat→Bool} {p q : Array Nat}
theorem Adj.len : ∀ {l : List (Nat×Nat×Nat)} {s e : Nat},Adj lt p s e l→s + l.length≤e
  | [],s,e,h => by rw [show s = e from h]; exact Nat.le_refl _
  | x :: t,s,e,h => by
    have:=Adj.len h.2.2.2
    have:=h.2.1
    rw [List.length_cons]; lia
theorem Adj.app : ∀ {l l2 : List (Nat×Nat×Nat)} {s e : Nat},Adj lt p s e (l ++ l2) ↔ ∃ m,Adj lt p s m l∧Adj lt p m e l2
  | [],l2,s,e => ⟨fun h => ⟨s,rfl,h⟩,fun ⟨m,h1,h2⟩ => by rw [show s = m from h1]; exact h2⟩
  | x :: t,l2,s,e => by
    constructor
    · intro h
      obtain ⟨m,h1,h2⟩:=Adj.app.mp h.2.2.2
      exact ⟨m,⟨h.1,h.2.1,h.2.2.1,h1⟩,h2⟩
    · rintro ⟨m,h1,h2⟩
      exact ⟨h1.1,h1.2.1,h1.2.2.1,Adj.app.mpr ⟨m,h1.2.2.2,h2⟩⟩
theorem Adj.move : ∀ {l : List (Nat×Nat×Nat)} {s e : Nat},(∀ u,s≤u→u < e→V q u = V p u)→Adj lt p s e l→Adj lt q s e l
  | [],s,e,_,h => h
  | x :: t,s,e,k,h => by
    have hl:=Adj.len h.2.2.2
    refine ⟨h.1,h.2.1,fun u v a b c => ?_,Adj.move (fun u a b => k u (by lia) b) h.2.2.2⟩
    rw [k u a (by lia),k v (by lia) (by lia)]
    exact h.2.2.1 u v a b c
theorem Adj.push {l : List (Nat×Nat×Nat)} {s e n x : Nat} (h : Adj lt p s e l) (h1 : 1≤n) (k : So lt p e (e + n)) : Adj lt p s (e + n) (l ++ [(e,n,x)]):=Adj.app.mpr ⟨e,h,rfl,h1,k,rfl⟩
theorem Adj.modify {f : Nat×Nat×Nat→Nat×Nat×Nat} (hf : ∀ x,(f x).1 = x.1∧(f x).2.1 = x.2.1) : ∀ {l : List (Nat×Nat×Nat)} {i s e : Nat},Adj lt p s e l→Adj lt p s e (l.modify i f)
  | [],i,s,e,h => by rw [List.modify_nil]; exact h
  | x :: t,0,s,e,h => by
    rw [List.modify_zero_cons]
    refine ⟨?_,?_,?_,?_⟩
    · rw [(hf x).1]; exact h.1
    · rw [(hf x).2]; exact h.2.1
    · rw [(hf x).2]; exact h.2.2.1
    · rw [(hf x).2]; exact h.2.2.2
  | x :: t,i + 1,s,e,h => by
    rw [List.modify_succ_cons]
    exact ⟨h.1,h.2.1,h.2.2.1,Adj.modify hf h.2.2.2⟩
theorem split2 {α : Type} {l : List α} {i : Nat} {x y : α} (h0 : l[i]? = some x) (h1 : l[i + 1]? = some y) : ∃ l1 l2,l = l1 ++ x :: y :: l2∧l1.length = i := by
  obtain ⟨a1,rfl⟩:=List.getElem?_eq_some_iff.mp h0
  obtain ⟨a2,rfl⟩:=List.getElem?_eq_some_iff.mp h1
  refine ⟨l.take i,l.drop (i + 2),?_,by rw [List.length_take]; lia⟩
  rw [← List.drop_eq_getElem_cons a2,← List.drop_eq_getElem_cons a1,List.take_append_drop]
theorem Adj.two {l : List (Nat×Nat×Nat)} {i s e sa na pw sb nb pw2 : Nat} (h : Adj lt p s e l) (h0 : l[i]? = some (sa,na,pw)) (h1 : l[i + 1]? = some (sb,nb,pw2)) :
    sa + na = sb∧sb + nb≤e∧1≤na∧1≤nb∧So lt p sa sb∧So lt p sb (sb + nb)∧∀ q,(∀ u,u < sa∨sb + nb≤u→V q u = V p u)→So lt q sa (sb + nb)→Adj lt q s e ((l.set i (sa,na + nb,pw)).eraseIdx (i + 1)) := by
  obtain ⟨l1,l2,rfl,rfl⟩:=split2 h0 h1
  obtain ⟨m,k1,k2⟩:=Adj.app.mp h
  obtain ⟨c1,c2,c3,c4,c5,c6,c7⟩:=k2
  dsimp only at c1 c2 c3 c4 c5 c6 c7
  subst c1
  subst c4
  have hl1:=k1.len
  have hl2:=c7.len
  refine ⟨rfl,by lia,c2,c5,c3,c6,fun q a b => ?_⟩
  have e1 : ((l1 ++ (sa,na,pw) :: (sa + na,nb,pw2) :: l2).set l1.length (sa,na + nb,pw)).eraseIdx (l1.length + 1) = l1 ++ (sa,na + nb,pw) :: l2 := by
    rw [List.set_append_right _ _ (Nat.le_refl _),Nat.sub_self,List.set_cons_zero,List.eraseIdx_append_of_length_le (by lia),Nat.add_sub_cancel_left,List.eraseIdx_cons_succ,List.eraseIdx_cons_zero]
  rw [e1]
  refine Adj.app.mpr ⟨sa,k1.move fun u a1 a2 => a u (.inl a2),rfl,by show 1≤na + nb; lia,by show So lt q sa (sa + (na + nb)); rw [← Nat.add_assoc]; exact b,?_⟩
  show Adj lt q (sa + (na + nb)) e l2
  rw [← Nat.add_assoc]
  exact c7.move fun u a1 a2 => a u (.inr a1)
end
section
variable {prog : Program} {w : World} {A : Around} {E : Value→Shared→Prop} {s : Shared} {N : Nat} {lt : Nat→Nat→Bool} {κ : SortKind} {it : Nat→Keyed} {p : Array Nat} {pend : Array (Nat×Nat×Nat)} {g : Nat}
theorem mergeAt_adj (hc : Cm prog w A s κ it N lt) (ok : LtOk lt) (hp : En N p) {i lo : Nat} (hi : i + 1 < pend.size) (hz : lo≤p.size) (ha : Adj lt p 0 lo pend.toList) {Q : Bool→SortSt→Prop}
    (q : ∀ p' pend' g',p'.Perm p→(∀ u,lo≤u→V p' u = V p u)→Adj lt p' 0 lo pend'.toList→pend'.size + 1 = pend.size→Q true (St κ it p' pend' g')) : wpS (model prog w) A E s (mergeAt' i) Q (St κ it p pend g) := by
  have h0 : pend[i]? = some ((pend[i]'(by lia)).1,(pend[i]'(by lia)).2.1,(pend[i]'(by lia)).2.2):=Array.getElem?_eq_getElem _
  have h1 : pend[i + 1]? = some ((pend[i + 1]'(by lia)).1,(pend[i + 1]'(by lia)).2.1,(pend[i + 1]'(by lia)).2.2):=Array.getElem?_eq_getElem _
  obtain ⟨k1,k2,k3,k4,k5,k6,k7⟩:=ha.two (by rw [Array.getElem?_toList]; exact h0) (by rw [Array.getElem?_toList]; exact h1)
  refine mergeAt_is hc ok hp h0 h1 k1 (by lia) k3 k4 k5 k6 fun p' g' e1 e2 e3 => q _ _ _ e1 (fun u hu => e2 u (.inr (by lia))) ?_ ?_
  · have:=k7 p' e2 e3
    rw [← Array.toList_setIfInBounds] at this
    rw [Array.eraseIdxIfInBounds]
    rw [dif_pos (by rw [Array.size_setIfInBounds]; exact hi),Array.toList_eraseIdx]
    exact this
  · rw [Array.eraseIdxIfInBounds,dif_pos (by rw [Array.size_setIfInBounds]; exact hi),Array.size_eraseIdx,Array.size_setIfInBounds]
    lia
theorem sort_is (hc : Cm prog w A s κ it N lt) (ok : LtOk lt) (hp : En N p) (h1 : 1≤p.size) {Q : SortSt→Prop} (q : ∀ p' pend g,p'.Perm p→p'.toList.Pairwise (le lt)→Q (St κ it p' pend g)) : wpS (model prog w) A E s sortRuns' (fun _ st => Q st) (St κ it p #[] 7) := by
  refine wpS_bind (wpS_get ?_)
  dsimp only
  simp only [Array.size_map]
  generalize hz : p.size = size at h1 ⊢
  refine wpS_bind (wpS_mono (wpS_inv (fun j (t : Option Unit×Nat) st => t.1 = none∧∃ p' pend g,st = St κ it p' pend g∧p'.Perm p∧j≤t.2∧t.2≤size∧Adj lt p' 0 t.2 pend.toList)
    (Q:=fun t st => t.1 = none∧∃ p' pend g,st = St κ it p' pend g∧p'.Perm p∧Adj lt p' 0 size pend.toList) ?_ ?_ ?_) fun t st' hq => ?_)
  · exact ⟨rfl,p,#[],7,rfl,.refl _,Nat.le_refl _,Nat.zero_le _,rfl⟩
  · rintro x j ⟨res,lo⟩ st hj ⟨r1,p2,pend2,g2,rfl,pm2,hj2,hlo,ad⟩
    dsimp only at r1 hj2 hlo ad ⊢
    subst r1
    have hp2 : En N p2:=hp.perm pm2
    have hz2 : p2.size = size := by rw [pm2.size_eq,hz]
    by_cases hge : lo ≥ size
    · obtain rfl : lo = size := by lia
      exact wpS_pos hge (wpS_pure ⟨rfl,p2,pend2,g2,rfl,pm2,ad⟩)
    refine wpS_neg hge ?_
    obtain ⟨m,p3,hm,m1,m2,kp3,so3⟩:=count_is (lt:=lt) ok hp2 (lo:=lo) (nrem:=size - lo) (by lia) (by lia)
    refine wpS_bind (count_ok hc hm ?_)
    dsimp only
    by_cases hlt : m < minRun' size size 0
    · refine wpS_pos hlt ?_
      refine wpS_bind (wpS_lift (wpAny_rule ⟨rfl,?_⟩))
      obtain ⟨p4,hp4,kp4',so4⟩ := bin_is (lt:=lt) ok (f:=(min (size - lo) (minRun' size size 0)) - max m 1) (k:=max m 1) (lo:=lo) (hp2.kp kp3) (by rw [kp3.size]; lia) (by rw [Nat.max_eq_left m1]; exact so3)
      rw [show lo + max m 1 + ((min (size - lo) (minRun' size size 0)) - max m 1) = lo + (min (size - lo) (minRun' size size 0)) by lia] at so4
      refine wpS_bind (bin_ok hc hp4 ?_)
      refine wpS_neg (by decide) ?_
      have kpP : Kp lo p2 p4:=kp3.trans kp4'
      have nn : 1≤(min (size - lo) (minRun' size size 0)) := by lia
      have pmP : p4.Perm p:=kpP.perm.trans pm2
      have hpP : En N p4:=hp.perm pmP
      have hzP : p4.size = size := by rw [pmP.size_eq,hz]
      have adP : Adj lt p4 0 lo pend2.toList:=ad.move fun u _ b => kpP.low u b
      refine wpS_bind (wpS_get ?_)
      cases hb : pend2.back? with
      | none =>
        dsimp only
        exact wpS_bind (wpS_modify (wpS_pure ⟨rfl,p4,pend2.push (lo,(min (size - lo) (minRun' size size 0)),0),g2,rfl,pmP,by show j + 1≤lo + (min (size - lo) (minRun' size size 0)); lia,by show lo + (min (size - lo) (minRun' size size 0))≤size; lia,by rw [Array.toList_push]; exact adP.push nn so4⟩))
      | some x1 =>
        obtain ⟨s1,n1,w1⟩:=x1
        dsimp only
        refine wpS_bind (wpS_mono (wpS_inv (fun i (t : Option Unit×Unit) st => t.1 = none∧∃ p' pend g,st = St κ it p' pend g∧p'.Perm p4∧(∀ u,lo≤u→V p' u = V p4 u)∧Adj lt p' 0 lo pend.toList)
          (Q:=fun t st => t.1 = none∧∃ p' pend g,st = St κ it p' pend g∧p'.Perm p4∧(∀ u,lo≤u→V p' u = V p4 u)∧Adj lt p' 0 lo pend.toList) ?_ ?_ ?_) fun t st' hq => ?_)
        · exact ⟨rfl,p4,pend2,g2,rfl,.refl _,fun _ _ => rfl,adP⟩
        · rintro x5 i ⟨res,u⟩ st hi ⟨r1,p5,pend5,g5,rfl,pm5,up5,ad5⟩
          dsimp only at r1 ⊢
          subst r1
          refine wpS_bind (wpS_get ?_)
          by_cases hs : pend5.size > 1
          · have hn : (if (pendingOf (St κ it p5 pend5 g5)).size > 1 then (pendingOf (St κ it p5 pend5 g5))[(pendingOf (St κ it p5 pend5 g5)).size - 2]? else none) = some ((pend5[pend5.size - 2]'(by lia)).1,(pend5[pend5.size - 2]'(by lia)).2.1,(pend5[pend5.size - 2]'(by lia)).2.2):=(if_pos hs).trans (Array.getElem?_eq_getElem _)
            rw [hn]
            dsimp only
            refine if_p (fun _ => ?_) (fun _ => ?_)
            · exact wpS_pure ⟨rfl,p5,pend5,g5,rfl,pm5,up5,ad5⟩
            · refine wpS_bind (mergeAt_adj (p:=p5) (pend:=pend5) (g:=g5) (i:=pend5.size - 2) (lo:=lo) hc ok (hpP.perm pm5) (by lia) (by rw [pm5.size_eq]; lia) ad5 fun p6 pend6 g6 a1 a2 a3 a4 => ?_)
              refine wpS_neg (by decide) ?_
              exact wpS_pure ⟨rfl,p6,pend6,g6,rfl,a1.trans pm5,fun u hu => (a2 u hu).trans (up5 u hu),a3⟩
          · have hn : (if (pendingOf (St κ it p5 pend5 g5)).size > 1 then (pendingOf (St κ it p5 pend5 g5))[(pendingOf (St κ it p5 pend5 g5)).size - 2]? else none) = none:=if_neg hs
            rw [hn]
            exact wpS_pure ⟨rfl,p5,pend5,g5,rfl,pm5,up5,ad5⟩
        · exact fun b st h => h
        obtain ⟨res,u⟩:=t
        obtain ⟨r1,p5,pend5,g5,rfl,pm5,up5,ad5⟩:=hq
        dsimp only at r1 ⊢
        subst r1
        dsimp only
        have so5 : So lt p5 lo (lo + (min (size - lo) (minRun' size size 0))):=fun u v a b c => by rw [up5 u a,up5 v (by lia)]; exact so4 u v a b c
        exact wpS_bind (wpS_modify (wpS_bind (wpS_modify (wpS_pure ⟨rfl,p5,(pend5.modify (pend5.size - 1) fun x => (x.1,x.2.1,power' size (2 * s1 + n1) (2 * s1 + n1 + n1 + (min (size - lo) (minRun' size size 0))) size)).push (lo,(min (size - lo) (minRun' size size 0)),0),g5,rfl,pm5.trans pmP,by show j + 1≤lo + (min (size - lo) (minRun' size size 0)); lia,by show lo + (min (size - lo) (minRun' size size 0))≤size; lia,by rw [Array.toList_push,Array.toList_modify]; exact Adj.push (Adj.modify (f:=fun x => (x.1,x.2.1,power' size (2 * s1 + n1) (2 * s1 + n1 + n1 + (min (size - lo) (minRun' size size 0))) size)) (fun x => ⟨rfl,rfl⟩) ad5) nn so5⟩))))
    · refine wpS_neg hlt ?_
      have kpP : Kp lo p2 p3:=kp3
      have nn:=m1
      have pmP : p3.Perm p:=kpP.perm.trans pm2
      have hpP : En N p3:=hp.perm pmP
      have hzP : p3.size = size := by rw [pmP.size_eq,hz]
      have adP : Adj lt p3 0 lo pend2.toList:=ad.move fun u _ b => kpP.low u b
      refine wpS_bind (wpS_get ?_)
      cases hb : pend2.back? with
      | none =>
        dsimp only
        exact wpS_bind (wpS_modify (wpS_pure ⟨rfl,p3,pend2.push (lo,m,0),g2,rfl,pmP,by show j + 1≤lo + m; lia,by show lo + m≤size; lia,by rw [Array.toList_push]; exact adP.push nn so3⟩))
      | some x1 =>
        obtain ⟨s1,n1,w1⟩:=x1
        dsimp only
        refine wpS_bind (wpS_mono (wpS_inv (fun i (t : Option Unit×Unit) st => t.1 = none∧∃ p' pend g,st = St κ it p' pend g∧p'.Perm p3∧(∀ u,lo≤u→V p' u = V p3 u)∧Adj lt p' 0 lo pend.toList)
          (Q:=fun t st => t.1 = none∧∃ p' pend g,st = St κ it p' pend g∧p'.Perm p3∧(∀ u,lo≤u→V p' u = V p3 u)∧Adj lt p' 0 lo pend.toList) ?_ ?_ ?_) fun t st' hq => ?_)
        · exact ⟨rfl,p3,pend2,g2,rfl,.refl _,fun _ _ => rfl,adP⟩
        · rintro x5 i ⟨res,u⟩ st hi ⟨r1,p5,pend5,g5,rfl,pm5,up5,ad5⟩
          dsimp only at r1 ⊢
          subst r1
          refine wpS_bind (wpS_get ?_)
          by_cases hs : pend5.size > 1
          · have hn : (if (pendingOf (St κ it p5 pend5 g5)).size > 1 then (pendingOf (St κ it p5 pend5 g5))[(pendingOf (St κ it p5 pend5 g5)).size - 2]? else none) = some ((pend5[pend5.size - 2]'(by lia)).1,(pend5[pend5.size - 2]'(by lia)).2.1,(pend5[pend5.size - 2]'(by lia)).2.2):=(if_pos hs).trans (Array.getElem?_eq_getElem _)
            rw [hn]
            dsimp only
            refine if_p (fun _ => ?_) (fun _ => ?_)
            · exact wpS_pure ⟨rfl,p5,pend5,g5,rfl,pm5,up5,ad5⟩
            · refine wpS_bind (mergeAt_adj (p:=p5) (pend:=pend5) (g:=g5) (i:=pend5.size - 2) (lo:=lo) hc ok (hpP.perm pm5) (by lia) (by rw [pm5.size_eq]; lia) ad5 fun p6 pend6 g6 a1 a2 a3 a4 => ?_)
              refine wpS_neg (by decide) ?_
              exact wpS_pure ⟨rfl,p6,pend6,g6,rfl,a1.trans pm5,fun u hu => (a2 u hu).trans (up5 u hu),a3⟩
          · have hn : (if (pendingOf (St κ it p5 pend5 g5)).size > 1 then (pendingOf (St κ it p5 pend5 g5))[(pendingOf (St κ it p5 pend5 g5)).size - 2]? else none) = none:=if_neg hs
            rw [hn]
            exact wpS_pure ⟨rfl,p5,pend5,g5,rfl,pm5,up5,ad5⟩
        · exact fun b st h => h
        obtain ⟨res,u⟩:=t
        obtain ⟨r1,p5,pend5,g5,rfl,pm5,up5,ad5⟩:=hq
        dsimp only at r1 ⊢
        subst r1
        dsimp only
        have so5 : So lt p5 lo (lo + m):=fun u v a b c => by rw [up5 u a,up5 v (by lia)]; exact so3 u v a b c
        exact wpS_bind (wpS_modify (wpS_bind (wpS_modify (wpS_pure ⟨rfl,p5,(pend5.modify (pend5.size - 1) fun x => (x.1,x.2.1,power' size (2 * s1 + n1) (2 * s1 + n1 + n1 + m) size)).push (lo,m,0),g5,rfl,pm5.trans pmP,by show j + 1≤lo + m; lia,by show lo + m≤size; lia,by rw [Array.toList_push,Array.toList_modify]; exact Adj.push (Adj.modify (f:=fun x => (x.1,x.2.1,power' size (2 * s1 + n1) (2 * s1 + n1 + n1 + m) size)) (fun x => ⟨rfl,rfl⟩) ad5) nn so5⟩))))
  · rintro ⟨res,lo⟩ st ⟨r1,p2,pend2,g2,h2,pm2,hj2,hlo,ad⟩
    dsimp only at r1 hj2 hlo ad
    obtain rfl : lo = size := by lia
    exact ⟨r1,p2,pend2,g2,h2,pm2,ad⟩
  obtain ⟨res,lo⟩:=t
  obtain ⟨r1,p1,pend1,g1,rfl,pm1,ad1⟩:=hq
  dsimp only at r1 ⊢
  subst r1
  dsimp only
  refine wpS_bind (wpS_mono (wpS_inv (fun j (t : Option Unit×Unit) st => t.1 = none∧∃ p' pend g,st = St κ it p' pend g∧p'.Perm p∧Adj lt p' 0 size pend.toList∧pend.size + j≤size)
    (Q:=fun t st => t.1 = none∧∃ p' pend g,st = St κ it p' pend g∧p'.Perm p∧Adj lt p' 0 size pend.toList∧pend.size≤1) ?_ ?_ ?_) fun t st' hq => ?_)
  · exact ⟨rfl,p1,pend1,g1,rfl,pm1,ad1,by have:=ad1.len; simp at this; lia⟩
  · rintro x j ⟨res,u⟩ st hj ⟨r1,p5,pend5,g5,rfl,pm5,ad5,hs5⟩
    dsimp only at r1 ⊢
    subst r1
    refine wpS_bind (wpS_get ?_)
    dsimp only
    by_cases hle : pend5.size≤1
    · exact wpS_pos hle (wpS_pure ⟨rfl,p5,pend5,g5,rfl,pm5,ad5,hle⟩)
    refine wpS_neg hle ?_
    have fin : ∀ i,i + 1 < pend5.size→wpS (model prog w) A E s (mergeAt' i) (fun b st => b = true∧∃ p' pend g,st = St κ it p' pend g∧p'.Perm p∧Adj lt p' 0 size pend.toList∧pend.size + (j + 1)≤size) (St κ it p5 pend5 g5):=fun i hi =>
      mergeAt_adj hc ok (hp.perm pm5) hi (by rw [pm5.size_eq]; lia) ad5 fun p6 pend6 g6 a1 a2 a3 a4 => ⟨rfl,p6,pend6,g6,rfl,a1.trans pm5,a3,by lia⟩
    refine wpS_bind (wpS_mono (fin _ ?_) fun b st hb => ?_)
    · repeat' split
      all_goals first
        | (show pend5.size - 2 - 1 + 1 < pend5.size; lia)
        | (show pend5.size - 2 + 1 < pend5.size; lia)
    · obtain ⟨rfl,p6,pend6,g6,rfl,a1,a2,a3⟩:=hb
      refine wpS_neg (by decide) ?_
      exact wpS_pure ⟨rfl,p6,pend6,g6,rfl,a1,a2,a3⟩
  · rintro ⟨res,u⟩ st ⟨r1,p5,pend5,g5,h5,pm5,ad5,hs5⟩
    exact ⟨r1,p5,pend5,g5,h5,pm5,ad5,by lia⟩
  obtain ⟨r1,p5,pend5,g5,rfl,pm5,ad5,hs5⟩:=hq
  rw [r1]
  refine wpS_pure (q p5 pend5 g5 pm5 ?_)
  have hz5 : p5.size = size := by rw [pm5.size_eq,hz]
  have so : So lt p5 0 size := by
    rcases hl : pend5.toList with _ | ⟨x,_ | ⟨y,l⟩⟩
    · rw [hl] at ad5
      have : 0 = size:=ad5
      lia
    · rw [hl] at ad5
      have e : 0 + x.2.1 = size:=ad5.2.2.2
      rw [← e]
      exact ad5.2.2.1
    · have:=congrArg List.length hl
      simp at this
      lia
  have:=ext_so (p:=p5) (i:=0) (j:=size) (by lia) so
  rwa [← hz5,Array.extract_size] at this
end
end Tim
namespace GS
open PySem PySem.W PyProof.Rows PySem.SeqAt
theorem runs_any {O : KeyOrd} {prog : Program} {w : World} {ks : List O.α} : Runs O prog w ks := by
  intro d A E s κ ws hl h2 ask
  have hz : ws.toArray.zip ws.toArray = (List.range ks.length).toArray.map fun i => (ws.getD i Value.none,ws.getD i Value.none) := by
    apply Array.ext_getElem?
    intro i
    rw [← hl]
    by_cases hi : i < ws.length
    · simp [hi]
    · simp [hi]
  have hc : Tim.Cm prog w A s κ (fun i => (ws.getD i Value.none,ws.getD i Value.none)) ks.length (fun i j => O.blt (ks.getD i d) (ks.getD j d)):=fun i j E Q hi hj q => by
    have gi : ∀ k,k < ks.length→∃ u x,ws[k]? = some u∧ks[k]? = some x∧ws.getD k Value.none = u∧ks.getD k d = x:=fun k hk => by
      refine ⟨ws[k],ks[k],List.getElem?_eq_getElem (by lia),List.getElem?_eq_getElem hk,?_,?_⟩
      · rw [List.getD_eq_getElem?_getD,List.getElem?_eq_getElem (by lia)]; rfl
      · rw [List.getD_eq_getElem?_getD,List.getElem?_eq_getElem hk]; rfl
    obtain ⟨u,x,q1,q2,q3,q4⟩:=gi i hi
    obtain ⟨v,y,r1,r2,r3,r4⟩:=gi j hj
    replace q : Q (O.blt (ks.getD i d) (ks.getD j d)) s:=q
    rw [q4,r4] at q
    show wpAny _ _ (keyLt' κ (ws.getD i Value.none) (ws.getD j Value.none)) _ _ _
    rw [q3,r3]
    exact ask E i j x y u v Q q1 r1 q2 r2 q
  have ok : Tim.LtOk (fun i j => O.blt (ks.getD i d) (ks.getD j d)) := by
    refine ⟨fun x y h => ?_,fun x y z h k => ?_⟩
    · show O.blt (ks.getD y d) (ks.getD x d) = false
      have h' : O.blt (ks.getD x d) (ks.getD y d) = true:=h
      cases e : O.blt (ks.getD y d) (ks.getD x d) with
      | false => rfl
      | true =>
        have:=O.trans _ _ _ h' e
        rw [O.irrefl] at this
        cases this
    · show O.blt (ks.getD z d) (ks.getD x d) = false
      have h' : O.blt (ks.getD y d) (ks.getD x d) = false:=h
      have k' : O.blt (ks.getD z d) (ks.getD y d) = false:=k
      cases e : O.blt (ks.getD z d) (ks.getD x d) with
      | false => rfl
      | true =>
        rcases O.negTrans _ (ks.getD y d) _ e with c | c
        · rw [c] at k'; cases k'
        · rw [c] at h'; cases h'
  have en : Tim.En ks.length (List.range ks.length).toArray:=Tim.en_mem.mpr fun x hx => by simpa using hx
  rw [hz]
  refine wpAny_mono (Tim.sort_is (p:=(List.range ks.length).toArray) hc ok en (by simp; lia) (Q:=fun st => failedOf st = none∧∃ ix : List Nat,ix.Perm (List.range ws.length)∧(arrOf st).map (·.2) = (ix.map fun i => ws.getD i Value.none).toArray∧(ix.map fun i => ks.getD i d).Pairwise O.kle) fun p pend g pm so => ⟨rfl,p.toList,?_,?_,?_⟩) (fun r s' z => z) fun _ _ z => z
  · rw [hl]
    simpa using Array.perm_iff_toList_perm.mp pm
  · show (p.map _).map _ = _
    rw [Array.map_map]
    apply Array.toList_inj.mp
    rw [Array.toList_map]
    rfl
  · exact List.pairwise_map.mpr so
end GS
set_option maxHeartbeats 1000000
set_option maxHeartbeats 4000000
set_option maxHeartbeats 1000000
set_option maxHeartbeats 4000000
set_option maxHeartbeats 1000000
set_option maxHeartbeats 4000000
namespace TH
open PySem PyProof.Rows PySem.SeqAt
abbrev keyO (d : Addr) (ep n i : Nat) : Obj:={ cls:=.type "dict_keyiterator",data:=.fields #[.ref d,.int (i : Int) 0,.int (n : Int) 0,.int (ep : Int) 0] }
section
variable {prog : Program} {w : World} {A : Around} {E : Value→Shared→Prop} {s : Shared} {d I : Addr} {o : Obj} {es : Array DictEntry} {ep i : Nat}
theorem key_step {Q : Option Value→Shared→Prop} {e : DictEntry} (ho : s.heap.get? d = some o) (hd : o.data = .dict es ep) (hI : s.heap.get? I = some (keyO d ep es.size i)) (hx : es[i]? = some e)
    (h : ∀ h',h'.get? I = some (keyO d ep es.size (i + 1))→Heap.SameBut I s.heap h'→Q (some e.key) { s with heap:=h' }) : wpAny (model prog w) A (pyNext (.ref I)) Q E s := by
  have hT : s.TypeIs (.ref I) "dict_keyiterator" := ⟨_,hI,rfl⟩
  unfold pyNext
  refine wpAny_bind (wpAny_attempt (wpAny_callSpecial?_slot (name:=Str.ofString "__next__") hT F.slot_dict_keyiterator_next (wpAny_call_entry F.slot_dict_keyiterator_next hT F.entry_dict_keyiterator_next ?_ (F.args_dict_keyiterator_next_1 _))))
  refine wpAny_bind (wpAny_pure (wpAny_bind (wpAny_bind (wpAny_bind (wpAny_typeNameOfWhole_keyiter hT (wpAny_pure ?_))))))
  refine wpAny_bind (wpAny_fieldsOf hI rfl ?_)
  have q0 : Builtin.Dict_items.ownsTuple "dict_keyiterator" = false := by decide
  simp only [q0,Bool.false_eq_true,if_false]
  have q1 : ¬ (Value.ref d == Value.none) = true:=Bool.false_ne_true
  show wpAny _ _ (if (Value.ref d == Value.none) = true then _ else _) _ _ s
  rw [if_neg q1]
  refine wpAny_bind (wpAny_pure (wpAny_bind (wpAny_dictEntries ho hd ?_)))
  rw [if_neg (by simp)]
  refine wpAny_bind (wpAny_pure (wpAny_bind (wpAny_dictEpoch ho hd ?_)))
  rw [if_neg (by simp)]
  refine wpAny_pure ?_
  have q2 : ¬ ((i : Int) < 0) := by lia
  simp only [q2,if_false,Int.toNat_natCast,hx]
  refine wpAny_bind (wpAny_bind (wpAny_typeNameOfWhole_keyiter hT (wpAny_pure ?_)))
  refine wpAny_bind (wpAny_isOneOf_keyiter hT ?_)
  show wpAny _ _ (setField (.ref I) 1 (rawInt ((i : Int) + 1)) >>= _) _ _ s
  refine wpAny_bind (wpAny_setField hI rfl (by simp) ?_)
  have g1 : (s.heap.update I (Obj.mapFields (·.setIfInBounds 1 (rawInt ((i : Int) + 1))))).get? I = some (keyO d ep es.size (i + 1)):=Heap.get?_update_self _ hI rfl
  refine wpAny_bind (wpAny_holding (wpAny_bind (wpAny_isOneOf_keyiter ⟨_,g1,rfl⟩ ?_)))
  show wpAny _ _ (pure e.key) _ _ _
  exact wpAny_pure (wpAny_pure ⟨_,rfl,wpAny_pure (h _ g1 (Heap.SameBut.update ..))⟩)
theorem key_stop {Q : Option Value→Shared→Prop} (hh : A.handled = none) (ho : s.heap.get? d = some o) (hd : o.data = .dict es ep) (hI : s.heap.get? I = some (keyO d ep es.size es.size))
    (h : ∀ h',Heap.ExtBut I s.heap h'→Q none { s with heap:=h' }) : wpAny (model prog w) A (pyNext (.ref I)) Q E s := by
  have hT : s.TypeIs (.ref I) "dict_keyiterator" := ⟨_,hI,rfl⟩
  unfold pyNext
  refine wpAny_bind (wpAny_attempt (wpAny_callSpecial?_slot (name:=Str.ofString "__next__") hT F.slot_dict_keyiterator_next (wpAny_call_entry F.slot_dict_keyiterator_next hT F.entry_dict_keyiterator_next ?_ (F.args_dict_keyiterator_next_1 _))))
  refine wpAny_bind (wpAny_pure (wpAny_bind (wpAny_bind (wpAny_bind (wpAny_typeNameOfWhole_keyiter hT (wpAny_pure ?_))))))
  refine wpAny_bind (wpAny_fieldsOf hI rfl ?_)
  have q0 : Builtin.Dict_items.ownsTuple "dict_keyiterator" = false := by decide
  simp only [q0,Bool.false_eq_true,if_false]
  have q1 : ¬ (Value.ref d == Value.none) = true:=Bool.false_ne_true
  show wpAny _ _ (if (Value.ref d == Value.none) = true then _ else _) _ _ s
  rw [if_neg q1]
  refine wpAny_bind (wpAny_pure (wpAny_bind (wpAny_dictEntries ho hd ?_)))
  rw [if_neg (by simp)]
  refine wpAny_bind (wpAny_pure (wpAny_bind (wpAny_dictEpoch ho hd ?_)))
  rw [if_neg (by simp)]
  refine wpAny_pure ?_
  have q2 : ¬ ((es.size : Int) < 0) := by lia
  have q3 : es[es.size]? = none:=Array.getElem?_eq_none (Nat.le_refl _)
  simp only [q2,if_false,Int.toNat_natCast,q3]
  refine wpAny_bind (wpAny_bind (wpAny_typeNameOfWhole_keyiter hT (wpAny_pure ?_)))
  show wpAny _ _ (setField (.ref I) 0 .none >>= _) _ _ s
  refine wpAny_bind (wpAny_setField hI rfl (by simp) ?_)
  refine wpAny_bind ?_
  simp only [newExc,newTuple]
  refine wpAny_bind (wpAny_newObj_type ?_ (by size_fits))
  refine wpAny_bind (m:=firstArgMember _ _) (wpAny_of_eq (a:=Value.none) (by first | rfl | (simp only [firstArgMember]; rfl)) (wpAny_newObj_type ?_ (by size_fits)))
  simp only [raiseNew]
  refine wpAny_bind (wpAny_handled ?_)
  have hh1 : A.in1.handled = none:=hh
  rw [hh1]
  refine wpAny_bind (wpAny_pure (wpAny_throw ?_))
  refine wpAny_bind (wpAny_isInstance (b:=true) (T := "StopIteration") ⟨_,Heap.get?_push_size _ rfl,rfl⟩ isSubtype_stop ?_)
  exact wpAny_pure (h _ (((Heap.SameBut.update ..).extBut.push _).push _))
theorem key_self {Q : Value→Shared→Prop} (hI : s.heap.get? I = some (keyO d ep es.size i)) (h : Q (.ref I) s) : wpAny (model prog w) A (pyIter (.ref I)) Q E s := by
  have hT : s.TypeIs (.ref I) "dict_keyiterator" := ⟨_,hI,rfl⟩
  refine wpAny_pyIter_slot hT F.slot_dict_keyiterator_iter (wpAny_call_entry F.slot_dict_keyiterator_iter hT F.entry_dict_keyiterator_iter ?_ (F.args_dict_keyiterator_iter_1 _))
  show wpAny _ _ (ret (.ref I)) _ _ s
  exact wpAny_pure ⟨_,rfl, "dict_keyiterator",_,hT,F.slot_dict_keyiterator_next.lookup,h⟩
theorem key_iter {Q : Value→Shared→Prop} (hs : (d == sysModules) = false) (ho : s.heap.get? d = some o) (hc : o.cls = .type "dict") (hd : o.data = .dict es ep) (h : Q (.ref s.heap.objs.size) { s with heap:=s.heap.push (keyO d ep es.size 0) }) :
    wpAny (model prog w) A (pyIter (.ref d)) Q E s := by
  have hT : s.TypeIs (.ref d) "dict" := ⟨o,ho,hc⟩
  refine wpAny_pyIter_slot hT F.slot_dict_iter (wpAny_call_entry F.slot_dict_iter hT F.entry_dict_iter ?_ (F.args_dict_iter_1 _))
  unfold Builtin.«dict.__iter__»
  refine wpAny_bind ?_
  unfold Builtin.Dict.dictSlotNone
  refine wpAny_bind (wpAny_notOrdered_dict hT (show wpAny _ _ (pure (Value.ref d)) _ _ s from wpAny_pure ?_))
  have hn : ¬ (d == sysModules) = true := by rw [hs]; exact Bool.false_ne_true
  show wpAny _ _ (Builtin.Dict.showsAll d >>= _) _ _ s
  unfold Builtin.Dict.showsAll
  rw [if_neg hn]
  refine wpAny_bind (wpAny_pure (wpAny_bind (wpAny_dictEntries ho hd (wpAny_bind (wpAny_dictEpoch ho hd ?_)))))
  exact wpAny_bind (wpAny_newObj_type (wpAny_pure ⟨_,rfl, "dict_keyiterator",_,⟨_,Heap.get?_push_size _ rfl,rfl⟩,F.slot_dict_keyiterator_next.lookup,h⟩))
theorem walks_keys (hh : A.handled = none) (hne : d≠I) (hd : o.data = .dict es ep) :
    Walks prog w A I [I,d] [I] es.size (fun i v => ∃ e,es[i]? = some e∧v = e.key) (fun i h => h.get? I = some (keyO d ep es.size i)∧h.get? d = some o) where
  sub:=fun b hb => by simp at hb; simp [hb]
  frame:=fun _ _ _ x k => ⟨k I (by simp) _ x.1,k d (by simp) _ x.2⟩
  item:=fun i s Q E hi x hQ => by
    have hx : es[i]? = some es[i]:=Array.getElem?_eq_getElem hi
    refine key_step x.2 hd x.1 hx fun h' g sb => hQ _ h' s.toks ⟨_,hx,rfl⟩ ⟨g,(sb.2 d hne).trans x.2⟩ fun b u hb e => ?_
    rw [sb.2 b fun q => hb (by simp [q])]
    exact e
  done:=fun s Q E x hQ => key_stop hh x.2 hd x.1 fun h' eb => hQ h' s.toks fun b u hb e => eb b u (fun q => hb (by simp [q])) e
  self:=fun _ _ _ _ x hQ => key_self x.1 hQ
theorem src_keys (hs : (d == sysModules) = false) (hc : o.cls = .type "dict") (hd : o.data = .dict es ep) : PySem.W.KdlSrc prog w "dict" d d es.size (fun i v => ∃ e,es[i]? = some e∧v = e.key) (fun h => h.get? d = some o) where
  type:=fun _ ho => ⟨o,ho,hc⟩
  there:=fun _ ho => ⟨Heap.lt_size ho,Heap.lt_size ho⟩
  keep:=fun _ _ ho k => k d (.inl rfl) _ ho
  notList := by decide
  notTuple := by decide
  hint:=fun _ _ s _ ho h => PySem.W.kdl_hint_dict ⟨o,ho,hc⟩ h
  iter:=fun A s hh ho => ⟨keyO d ep es.size 0,_,(fun E Q h => key_iter hs ho hc hd h),walks_keys hh (Nat.ne_of_lt (Heap.lt_size ho)) hd,⟨Heap.get?_push_size _ rfl,Heap.get?_push_of_some _ ho⟩⟩
end
end TH
namespace L2
open PySem PySem.Spec PyProof.Rows
section
variable {prog : Program} {w : World} {K : Type} [DecidableEq K] {knd : HeapKind prog w K} {A : Around} {E : Value→Shared→Prop} {s : Shared} {d a : Addr} {k : K} {xs : List (K×Addr×Value)} {dflt : Value}
theorem atKey_none (h : ∀ (j : Nat) (p : Addr×Value),xs[j]?≠some (k,p)) : atKey xs k = none := by
  unfold atKey
  rw [Option.map_eq_none_iff,List.find?_eq_none]
  intro x hx z
  obtain ⟨j,hj⟩:=List.getElem?_of_mem hx
  have : x.1 = k:=of_decide_eq_true z
  exact h j x.2 (by rw [hj,← this])
theorem atKey_at (nd : (xs.map (·.1)).Nodup) {j : Nat} {p : Addr×Value} (h : xs[j]? = some (k,p)) : atKey xs k = some p := by
  unfold atKey
  induction xs generalizing j with
  | nil => simp at h
  | cons x xs ih =>
    rw [List.find?_cons]
    cases j with
    | zero =>
      simp at h
      subst h
      simp
    | succ j =>
      simp at h
      rw [List.map_cons,List.nodup_cons] at nd
      have hne : x.1≠k:=fun z => nd.1 (by rw [z]; exact List.mem_map.mpr ⟨(k,p),List.mem_of_getElem? h,rfl⟩)
      rw [decide_eq_false hne]
      exact ih nd.2 h
theorem setDefault_heap {Q : Value→Shared→Prop} (hr : knd.room A) (hk : knd.is s.heap k a) (hd : s.heap.DictOfH knd d xs) (hsz : xs.length≤sizeLine)
    (hp : ∀ p,atKey xs k = some p→Q p.2 { s with toks:=s.toks + knd.draws k })
    (ha : atKey xs k = none→∀ h',h'.DictOfH knd d (xs ++ [(k,a,dflt)])→Heap.SameBut d s.heap h'→Q dflt { s with heap:=h',toks:=s.toks + knd.draws k }) :
    wpAny (model prog w) A (dictSetDefault d (.ref a) dflt) Q E s := by
  obtain ⟨o,es,ep,h1,h2,h3,h4,h5,h6⟩:=hd
  unfold dictSetDefault
  refine wpAny_holding (wpAny_bind (knd.pyHash hr hk (wpAny_bind (wpAny_dictFind_heap (s:={ s with toks:=s.toks + knd.draws k }) hr hk h1 h3 h4 h5 h6 (fun hn => ?_) (fun j p hj => ?_)))))
  · refine wpAny_bind (wpAny_rule (wpAny_bind (wpAny_updateDictKeys h1 h3 (wpAny_pure ?_) ?_ ?_)))
    · have sb:=Heap.SameBut.update s.heap d (Obj.mapDictKeys fun x => x.push { hash:=knd.hash k,key:=.ref a,val:=dflt })
      refine ha (atKey_none hn) _ ?_ sb
      obtain ⟨oc,od,oda,osl⟩:=o
      cases h3
      refine ⟨_,es.push { hash:=knd.hash k,key:=.ref a,val:=dflt },ep + 1,Heap.get?_update_self _ h1 rfl,h2,rfl,?_,fun x hx => ?_,?_⟩
      · rw [Array.toList_push,h4,List.map_append]; rfl
      · rcases List.mem_append.mp hx with hx | hx
        · exact knd.keeps (h5 x hx) h1 rfl sb
        · rw [List.mem_singleton.mp hx]; exact knd.keeps hk h1 rfl sb
      · rw [List.map_append,List.nodup_append]
        refine ⟨h6,by simp,fun y hy z hz => ?_⟩
        have hz : z = k := by simpa using hz
        intro e
        rw [e,hz] at hy
        obtain ⟨x,hx,hxe⟩:=List.mem_map.mp hy
        obtain ⟨j,hj⟩:=List.getElem?_of_mem hx
        exact hn j x.2 (by rw [hj,← hxe])
    · have : es.size = xs.length := by
        have:=congrArg List.length h4
        simpa using this
      show es.size≤sizeLine
      lia
    · simp
  · have he : es[j]? = some (entryOfKey knd (k,p)) := by
      rw [← Array.getElem?_toList,h4,List.getElem?_map,hj]; rfl
    refine wpAny_bind (wpAny_dictEntries h1 h3 ?_)
    rw [he]
    exact wpAny_bind (wpAny_rule (wpAny_pure (hp p (atKey_at h6 hj))))
theorem meetsH_setdefault (hsys : (d == sysModules) = false) : MeetsIn prog w (Builtin.«dict.setdefault» { pos:=[.ref d,.ref a,dflt] }) fun A R s =>
    knd.room A.in1∧∃ k xs,knd.is s.heap k a∧s.heap.DictOfH knd d xs∧xs.length≤sizeLine ∧
      (∀ p,atKey xs k = some p→R (.ok (.ret p.2)) { s with toks:=s.toks + knd.draws k }) ∧
      (atKey xs k = none→∀ h',h'.DictOfH knd d (xs ++ [(k,a,dflt)])→Heap.SameBut d s.heap h'→R (.ok (.ret dflt)) { s with heap:=h',toks:=s.toks + knd.draws k }) := by
  rintro A R s ⟨hr,k,xs,hk,hd,hsz,hp,ha⟩
  unfold Builtin.«dict.setdefault»
  have hb : ∀ {Q : Addr×Value×Option Value→Shared→Prop} {E : Value→Shared→Prop},Q (d,.ref a,some dflt) s→wpAny (model prog w) A.in1 (Builtin.Dict.keyAndDefault "setdefault" { pos:=[.ref d,.ref a,dflt] }) Q E s:=fun h => by
    unfold Builtin.Dict.keyAndDefault
    refine wpAny_bind (wpAny_notOrdered_dict hd.typeIs ?_)
    refine wpAny_bind (wpAny_pure ?_)
    refine wpAny_bind ?_
    unfold selfAndSome noKeywords
    exact wpAny_bind (wpAny_pure (wpAny_bind (wpAny_pure (wpAny_pure (wpAny_bind (wpAny_pure (wpAny_pure h)))))))
  refine wpAny_bind (hb ?_)
  dsimp only
  rw [if_neg (by rw [hsys]; simp)]
  refine wpAny_bind (setDefault_heap hr hk hd hsz (fun p h => ?_) fun h h' hd' sb => ?_)
  · exact wpAny_pure (hp p h)
  · exact wpAny_pure (ha h h' hd' sb)
end
theorem d_setDef {X : Cx} {pins : List (Addr×Obj)} {σ : St} {H : Hp} {s : Shared} {a b : Addr} {A : Around} {E : Value→Shared→Prop} {kvs : List (List Key×V)} {k : List Key} {z : V} {r : Value} {Q : Value→Shared→Prop} (hu : A.units + 1 < cLine) (I : Inv X pins σ H s) (e : H a = some (.dT kvs)) (eb : H b = some (.tup (k.map kV))) (hl : kvs.length < sizeLine) (rz : RelV z r)
    (hp : ∀ v w' s',valV kvs k = some v→Inv X pins σ H s'→RelV v w'→Q w' s') (ha : valV kvs k = none→∀ s',Inv X pins σ (upd H a (.dT (kvs ++ [(k,z)]))) s'→Q r s') :
    wpAny (model X.prog X.w) A (call (.builtin "dict.setdefault") [.ref a,.ref b,r]) Q E s := by
  obtain ⟨zz,hd,xs,rel,dd⟩:=dt_of I.hok e
  have hz : xs.length≤sizeLine := by rw [← Paired.length rel]; exact zz
  have hv:=rel.val k
  refine call_meetsIn PySem.F.slot_dict_setdefault dd.typeIs PySem.F.entry_dict_setdefault (PySem.F.args_dict_setdefault_3 _ _ _) (meetsH_setdefault (knd:=tupleKind (mixKind X.prog X.w)) hd) ⟨tupleKind_room_in1 hu,k,xs,key_of I.hok eb,dd,hz,fun p h => ?_,fun h h' dd' sb => ?_⟩
  · rw [h] at hv
    cases l : valV kvs k with
    | none => rw [l] at hv; exact hv.elim
    | some v => rw [l] at hv; exact hp v _ _ l (I.tok _) hv
  · have l : valV kvs k = none := by
      cases l : valV kvs k with
      | none => rfl
      | some v => rw [l,h] at hv; exact hv.elim
    refine ha l _ ?_
    obtain ⟨q,es,ep,hq,h2,h3,h4,_,h5⟩:=dd'
    have rel':=rel.put k eb rz
    rw [putK_new _ l,storedH_new h] at rel'
    refine d_write I (by rw [e]; exact True.intro) sb ⟨q,hq⟩ ⟨by rw [List.length_append,List.length_singleton]; lia,hd,_,rel'.keeps fun c ys ec => ?_,q,es,ep,hq,h2,h3,h4,h5⟩
    rw [upd_ne (ne_of ec e (fun z => nomatch z))]
    exact ec
def tSetDef (td ty tx : TE) : TE:=fun σ H Q => td σ H fun x H1 => ∃ a,x = .ref a∧IsD H1 a∧ty σ H1 fun y H2 => tx σ H2 fun z H3 => ∃ kvs k b,H3 a = some (.dT kvs)∧y = .ref b∧H3 b = some (.tup (k.map kV))∧kvs.length < sizeLine ∧
  (∀ v,valV kvs k = some v→Q v H3)∧(valV kvs k = none→Q z (upd H3 a (.dT (kvs ++ [(k,z)]))))
theorem pe_setDef {X : Cx} {o e f : Expr} {apos cpos : Pos} {td ty tx : TE} (hu : X.A.units + 1 < cLine) (ho : PE X o td) (he : PE X e ty) (hf : PE X f tx) (m : M2 X o "setdefault" apos e f cpos) : PE X (.Call (.Attribute o "setdefault" apos) [e,f] [] cpos) (tSetDef td ty tx) := by
  intro pins s σ H Q I h
  refine wpAny_Call_method m.base m.few m.line PySem.F.plainAttrs_dict PySem.F.slot_dict_setdefault PySem.F.type_dict_setdefault (thn (ho pins s σ H _ I h) fun u s1 ⟨x,H1,I1,rx,a,ex,d,q1⟩ => ?_)
  subst ex
  obtain rfl : u = Value.ref a:=rx
  obtain ⟨t1,t2,_⟩:=isD_at I1 d
  refine ⟨t1,t2,?_⟩
  rw [m.trees]
  refine Calls.callWith_builtin rfl (Calls.evalArgs_plain (Calls.spliced_cons (thn (he pins s1 σ H1 _ I1 q1) fun iv s2 ⟨y,H2,I2,ry,q2⟩ =>
    Calls.spliced_cons (thn (hf pins s2 σ H2 _ I2 q2) fun fv s3 ⟨z,H3,I3,rz,kvs,k,b,ea,ey,eb,hl,q3,q4⟩ => Calls.spliced_nil ?_))))
  subst ey
  obtain rfl : iv = Value.ref b:=ry
  exact d_setDef hu I3 ea eb hl rz (fun v w' s4 l I4 rw' => ⟨v,H3,I4,rw',q3 v l⟩) fun l s4 I4 => ⟨z,_,I4,rz,q4 l⟩
end L2
namespace IT
open PySem PySem.W PyProof.Rows PySem.SeqAt
def TupV (h : Heap) (k : List Int) (v : Value) : Prop:=∃ (a : Addr) (its : List Value),v = .ref a∧h.IsTuple a its.toArray∧Is k its∧k≠[]
theorem TupV.ext {h h' : Heap} (e : GS.Ext h h') {k : List Int} {v : Value} (x : TupV h k v) : TupV h' k v := by
  obtain ⟨a,i1,rfl,h1,h2,h3⟩:=x
  exact ⟨a,i1,rfl,TH.tup_ext e h1,h2,h3⟩
section
open PySem.MeetsSeq PySem.MeetsSeq2 PySem.MeetsSeq3
variable {prog : Program} {w : World} {A : Around} {s : Shared}
theorem lt_int {b : Bool} {x y : Int} {t u : Tok} {Q : Bool→Shared→Prop} {E : Value→Shared→Prop} (h : Q (decide (x < y)) s) : wpAny (model prog w) A (oneLt' b (.int x t) (.int y u)) Q E s := by
  cases b with
  | true => exact oneLt_int h
  | false =>
    rw [oneLt'_eq]
    simp only [Bool.false_eq_true,if_false]
    exact wpAny_bind (wpAny_lt_int (wpAny_truthy_bool h))
theorem lex_it {b fin : Bool} {Q : Bool→Shared→Prop} : ∀ (x y : List Int) (us vs : List Value) (i : Nat),Is x us→Is y vs→fin = decide (x.length < y.length)→Q (lt x y) s→KatLex prog w A b fin Q (us.zip vs) i s
  | [],y,us,vs,i,h1,h2,hf,q => by
    rw [Is] at h1
    subst h1
    rw [List.zip_nil_left]
    refine kat_nil ?_
    cases y with
    | nil => rw [hf]; exact q
    | cons c y => rw [hf,decide_eq_true (by simp)]; exact q
  | a :: x,[],us,vs,i,h1,h2,hf,q => by
    rw [Is] at h2
    subst h2
    rw [List.zip_nil_right]
    refine kat_nil ?_
    rw [hf,decide_eq_false (by simp)]
    exact q
  | a :: x,c :: y,us,vs,i,h1,h2,hf,q => by
    rw [Is] at h1 h2
    obtain ⟨t,us,rfl,h1⟩:=h1
    obtain ⟨t',vs,rfl,h2⟩:=h2
    rw [List.zip_cons_cons]
    refine kat_cons (EqAt.int_int a t c t' prog w _ _ ?_)
    rw [lt] at q
    by_cases e : a = c
    · rw [if_pos e] at q
      rw [beq_iff_eq.mpr e]
      refine kat_yes (lex_it x y us vs (i + 1) h1 h2 (by rw [hf]; simp) q)
    · rw [if_neg e] at q
      rw [beq_eq_false_iff_ne.mpr e]
      exact kat_no (lt_int q)
theorem ask_it {x y : List Int} {u v : Value} {Q : Bool→Shared→Prop} {E : Value→Shared→Prop} {b : Bool} (h1 : TupV s.heap x u) (h2 : TupV s.heap y v) (h : Q (lt x y) s) : wpAny (model prog w) A (keyLt' (tuples' b) u v) Q E s := by
  obtain ⟨a,i1,rfl,k1,k2,k3⟩:=h1
  obtain ⟨a',j1,rfl,m1,m2,m3⟩:=h2
  obtain ⟨o,ho,hc,n,hd⟩:=id k1
  obtain ⟨o2,ho2,hc2,n2,hd2⟩:=id m1
  refine kat_lt ho hd ho2 hd2 ?_
  exact lex_it x y _ _ 0 k2 m2 (by rw [← k2.length,← m2.length]; simp) h
theorem tups {h : Heap} : ∀ {us : List Value},(∀ v∈us,∃ x,TupV h x v)→∃ fs,KatTups h us fs∧fs.length = us.length∧∀ v∈fs,∃ n t,v = .int n t
  | [],_ => ⟨[],KatTups.nil,rfl,fun _ h => by cases h⟩
  | v :: us,e => by
    obtain ⟨fs,h1,h2,h3⟩:=tups (us:=us) fun v hv => e v (List.mem_cons_of_mem _ hv)
    obtain ⟨x,a,its,rfl,k1,k2,k3⟩:=e v List.mem_cons_self
    obtain ⟨o,ho,hc,n,hd⟩:=id k1
    cases x with
    | nil => exact absurd rfl k3
    | cons c x =>
      rw [Is] at k2
      obtain ⟨t,rest,rfl,k2⟩:=k2
      exact ⟨.int c t :: fs,KatTups.cons ho hc hd rfl h1,by simp [h2],fun v hv => by
        rcases List.mem_cons.mp hv with rfl | hv
        · exact ⟨c,t,rfl⟩
        · exact h3 v hv⟩
theorem cmp_it {h0 : Heap} {ks : List (List Int)} {us : List Value} (hl : us.length = ks.length) (he : ∀ (i : Nat) (x : List Int) (u : Value),ks[i]? = some x→us[i]? = some u→TupV h0 x u) : GS.Cmp ord prog w h0 0 ks us :=
  ⟨hl,fun κ => ∃ b,κ = tuples' b,fun A E s Q hx h => by
    obtain ⟨fs,t1,t2,t3⟩:=tups (h:=s.heap) (us:=us) fun v hv => by
      obtain ⟨i,hi,rfl⟩:=List.getElem_of_mem hv
      exact ⟨_,(he i _ _ (List.getElem?_eq_getElem (by lia)) (List.getElem?_eq_getElem hi)).ext hx⟩
    by_cases hne : us = []
    · subst hne
      exact TH.kind_tt (us:=[]) (fun v hv => by cases hv) (h _ ⟨_,rfl⟩)
    refine kat_kind (T:=.type "int") t1 (by rw [t2]; exact List.length_pos_iff.mpr hne) (fun v hv => ?_) (by decide) (h _ ⟨_,rfl⟩)
    obtain ⟨n,t,rfl⟩:=t3 v hv
    exact Looks.now,
   fun A s κ hx hr hκ E i j x y u v Q h1 h2 h3 h4 q => by
    obtain ⟨b,rfl⟩:=hκ
    exact ask_it ((he i x u h3 h1).ext hx) ((he j y v h4 h2).ext hx) q⟩
end
end IT
namespace GS
open PySem PySem.W PyProof.Rows PySem.SeqAt TH
section
variable {prog : Program} {w : World} {A : Around} {E : Value→Shared→Prop} {s : Shared} {us : List Value}
theorem gathers_dict {d : Addr} {o : Obj} {es : Array DictEntry} {ep : Nat} (hs : (d == sysModules) = false) (ho : s.heap.get? d = some o) (hc : o.cls = .type "dict") (hdt : o.data = .dict es ep) (hA : A.handled = none)
    (hv : es.toList.map (·.key) = us) (hz : us.length≤1000) : Gathers prog w A E s (.ref d) us:=fun Q h => by
  have hes : es.size = us.length := by rw [← hv,List.length_map,Array.length_toList]
  refine gather (A:=A) (src_keys hs hc hdt) hA ho (by rw [sizeLine_eq]; lia) fun h1 tk acc z1 k1 hacc => ?_
  have hal : acc.toList = us := by
    rw [← hv]
    apply List.ext_getElem?
    intro j
    rw [List.getElem?_map]
    by_cases hj : j < acc.size
    · have e1 : acc[j]? = some acc[j]:=Array.getElem?_eq_getElem hj
      obtain ⟨e,e2,e3⟩:=hacc.2 j _ e1
      rw [Array.getElem?_toList,e1,Array.getElem?_toList,e2,e3]
      rfl
    · have hj2 : ¬ j < es.size := by rw [← hacc.1]; exact hj
      rw [List.getElem?_eq_none (by simpa using hj),List.getElem?_eq_none (by simpa using hj2)]
      rfl
  rw [hal]
  exact h h1 tk k1 (Nat.le_of_lt z1)
end
end GS
namespace L2
open PySem PySem.Spec PyProof.Rows
def SortD (H : Hp) (x : V) (Q : VK) : Prop:=∃ (a : Addr) (kvs : List (List Key×V)) (ps : List (List Int)),x = .ref a∧H a = some (.dT kvs)∧kvs.length≤1000∧(∀ prog w,GS.Runs IT.ord prog w ps.reverse)∧(∀ p∈ps,p≠[])∧kvs.map (·.1) = ps.map (·.map Sum.inl) ∧
  ∀ (D : Addr) (L : List (List Int×Addr)),H D = none→(L.map (·.1)).Perm ps→L.Pairwise (fun p q => IT.ord.kle q.1 p.1)→(∀ l∈L,H l.2 = some (.tup (l.1.map V.int)))→Q (.ref D) (upd H D (.lst (L.map fun l => V.ref l.2)))
theorem sortD_fin {X : Cx} {pins : List (Addr×Obj)} {σ : St} {H : Hp} {s : Shared} {Q : VK} (I : Inv X pins σ H s) {x : V} {v : Value} (rx : RelV x v) (hu : X.A.units + 64 < cLine) (hc : X.calm = true) (q : SortD H x Q) :
    wpAny (model X.prog X.w) X.A (call (.builtin "sorted") [v] [(Str.ofString "reverse",.bool true)]) (EP X pins σ Q) X.xe s := by
  obtain ⟨a,kvs,ps,rfl,ha,hk,hr,hne,hps,q⟩:=q
  cases rx
  obtain ⟨hz,nd,xs,kt,o,es,ep,r1,r2,r3,r4,r5,r6⟩:=dt_of I.hok ha
  have hlen : es.size = kvs.length := by rw [size_of_entries r4]; exact (Paired.length kt).symm
  have hpl : ps.length = kvs.length := by
    have:=congrArg List.length hps
    simpa using this.symm
  have hxl : xs.length = kvs.length:=(Paired.length kt).symm
  let L0 : List (List Int×Addr):=ps.zip (xs.map (·.2.1))
  have hL : L0.length = kvs.length := by simp [L0,hpl,hxl]
  have l1 : L0.map (·.1) = ps := by
    show (ps.zip _).map Prod.fst = ps
    exact List.map_fst_zip (by simp [hpl,hxl])
  have l2 : L0.map (·.2) = xs.map (·.2.1) := by
    show (ps.zip _).map Prod.snd = _
    exact List.map_snd_zip (by simp [hpl,hxl])
  have hkey : es.toList.map (·.key) = L0.map fun l => Value.ref l.2 := by
    have : (L0.map fun l => Value.ref l.2) = (L0.map (·.2)).map Value.ref := by simp
    rw [this,l2]
    apply List.ext_getElem?
    intro j
    rw [List.getElem?_map,Array.getElem?_toList,entry_at r4 j,List.map_map,List.getElem?_map]
    cases xs[j]? <;> rfl
  have hin : ∀ l∈L0,H l.2 = some (.tup (l.1.map V.int)):=fun l hl => by
    obtain ⟨j,hj⟩:=List.getElem?_of_mem hl
    have h1 : (L0.map (·.1))[j]? = some l.1 := by rw [List.getElem?_map,hj]; rfl
    have h2 : (L0.map (·.2))[j]? = some l.2 := by rw [List.getElem?_map,hj]; rfl
    rw [l1] at h1
    rw [l2,List.getElem?_map] at h2
    obtain ⟨y,hy,e⟩:=Option.map_eq_some_iff.mp h2
    have hjk : j < kvs.length := by rw [← hxl]; exact (List.getElem?_eq_some_iff.mp hy).1
    obtain ⟨kv,hkv⟩ : ∃ kv,kvs[j]? = some kv:=⟨kvs[j],by simp [hjk]⟩
    have p1:=paired_at kt hkv hy
    have h3 : kv.1 = l.1.map Sum.inl := by
      have:=congrArg (·[j]?) hps
      simp only [List.getElem?_map,hkv,h1] at this
      exact Option.some.inj this
    have h4 : H y.2.1 = some (.tup (kv.1.map kV)):=p1.1 ▸ p1.2.1
    rw [e,h3,map_kV] at h4
    exact h4
  have C : GS.Cmp IT.ord X.prog X.w s.heap 0 ps (L0.map fun l => Value.ref l.2):=IT.cmp_it (by rw [List.length_map,hL,hpl]) fun i x u h1 h2 => by
    have h1 : (L0.map (·.1))[i]? = some x := by rw [l1]; exact h1
    rw [List.getElem?_map] at h1 h2
    obtain ⟨l,e1,rfl⟩:=Option.map_eq_some_iff.mp h1
    rw [e1] at h2
    cases h2
    have hm:=List.mem_of_getElem? e1
    obtain ⟨its,v1,p1,_⟩:=I.tuple (SqT.of (K:=X.K) (hin l hm))
    exact ⟨_,its,rfl,p1,is_of v1,hne _ (l1 ▸ List.mem_map.mpr ⟨l,hm,rfl⟩)⟩
  refine GS.sorted_R (b:=true) ([] : List Int) (GS.gathers_dict (A:=X.A.in1) nd r1 r2.1 r3 (show X.A.in1.handled = none from I.ok.hd hc) hkey (by rw [List.length_map,hL]; exact hk)) C (by rw [List.length_map,hL]; exact hk) (show GS.Runs IT.ord X.prog X.w ps.reverse from hr _ _) (by lia) fun h' D tk ix e1 hD k1 gD p1 p2 => ?_
  rw [List.length_map] at p1
  let L : List (List Int×Addr):=ix.map fun i => L0.getD i ([],0)
  have hix : ∀ i∈ix,i < L0.length:=fun i hi => List.mem_range.mp (p1.mem_iff.mp hi)
  have hp : L.Perm L0 := by
    have:=p1.map fun i => L0.getD i ([],0)
    refine this.trans (List.Perm.of_eq ?_)
    apply List.ext_getElem?
    intro j
    rw [List.getElem?_map]
    by_cases hj : j < L0.length
    · rw [List.getElem?_range hj]
      simp [hj]
    · rw [List.getElem?_eq_none (by simpa using hj),List.getElem?_eq_none (by simpa using hj)]
      rfl
  have e3 : ix.map (fun i => (L0.map fun l => Value.ref l.2).getD i Value.none) = L.map fun l => Value.ref l.2 := by
    rw [List.map_map]
    refine List.map_congr_left fun i hi => ?_
    have:=hix i hi
    simp [this]
  have e4 : ix.map (fun i => ps.getD i []) = L.map (·.1) := by
    rw [← l1,List.map_map]
    refine List.map_congr_left fun i hi => ?_
    have:=hix i hi
    simp [this]
  rw [e3] at gD
  simp only [if_true] at p2
  have p2 : (L.map (·.1)).Pairwise (fun x y : List Int => IT.ord.kle y x):=e4 ▸ (show (ix.map fun i => ps.getD i []).Pairwise (fun x y : List Int => IT.ord.kle y x) from p2)
  clear_value L
  have e5 : (L.map fun l => Value.ref l.2) = (L.map (·.2)).map Value.ref := by rw [List.map_map]; rfl
  have e6 : (L.map fun l => V.ref l.2) = (L.map (·.2)).map V.ref := by rw [List.map_map]; rfl
  exact ⟨.ref D,upd H D (.lst (L.map fun l => V.ref l.2)),I.laid (t':=tk) k1 hD ⟨by rw [List.length_map,hp.length_eq,hL]; exact hz,L.map (fun l => Value.ref l.2),e1,by rw [e5,e6]; exact refs_vals _,gD⟩,rfl,q D L (I.hok.fresh hD) (by rw [← l1]; exact hp.map _) (List.pairwise_map.mp p2) fun l hl => hin l (hp.mem_iff.mp hl)⟩
def tSortD (to : TE) : TE:=fun σ H Q => to σ H fun x H1 => SortD H1 x Q
theorem pe_sortD {X : Cx} {o : Expr} {to : TE} {p pos kp kp2 : Pos} {j} (hu : X.A.units + 64 < cLine) (hc : X.calm = true) (hg : Gl X "sorted") (hm : X.mg "sorted" = none) (ho : PE X o to)
    (he : backTo pos (starEach [o] X.env) = (false,eval o X.env) :: backTo pos (starEach [] X.env) := by rfl) (hplain : (backTo pos (starEach [o] X.env)).any (·.1) = false := by rfl) :
    PE X (.Call (.Name "sorted" p) [o] [⟨some "reverse",.Constant (.bool true) j kp2,kp⟩] pos) (tSortD to) := by
  intro pins s σ H Q I h
  refine wpAny_Call_Name_kw (ld_blt I hg hm boot_sorted ?_ (by decide) (by decide))
  refine callWith_kw ?_ he hplain
  rw [he]
  refine Calls.spliced_cons (thn (ho pins s σ H _ I h) fun v s1 ⟨x,H1,I1,r1,q1⟩ => ?_)
  exact Calls.spliced_nil (kws_cons (Constant_bool (kws_nil (sortD_fin I1 r1 hu hc q1))))
end L2
namespace L2
open PySem PySem.Spec PyProof.Rows
def SortTA (H1 : Hp) (vs : List V) (Q : VK) : Prop:=∃ (p : Addr) (ys : List V) (ts : List IT.Tm),vs = [.ref p]∧H1 p = some (.lst ys)∧ys.length≤1000∧ts.length = ys.length ∧
  (∀ (j : Nat) y t,ys[j]? = some y→ts[j]? = some t→∃ a b c,y = .ref a∧H1 a = some (.tup [.ref b,.ref c])∧H1 b = some (.tup (t.1.map V.int))∧H1 c = some (.tup (t.2.map V.int))) ∧
  ∀ (D : Addr) (ix : List Nat),H1 D = none→ix.Perm (List.range ys.length)→(ix.map fun i => ts.getD i ([],[])).Pairwise (fun x y => IT.ordT.kle y x)→Q (.ref D) (upd H1 D (.lst (ix.map fun i => ys.getD i .non)))
theorem pe_sortTmA {X : Cx} {e : Expr} {t : TA} {p pos kp kp2 : Pos} {j} (hu : X.A.units + 64 < cLine) (hg : Gl X "sorted") (hm : X.mg "sorted" = none) (ha : PA X [e] t)
    (he : backTo pos (starEach [e] X.env) = (false,eval e X.env) :: backTo pos (starEach [] X.env) := by rfl) (hplain : (backTo pos (starEach [e] X.env)).any (·.1) = false := by rfl) :
    PE X (.Call (.Name "sorted" p) [e] [⟨some "reverse",.Constant (.bool true) j kp2,kp⟩] pos) (fun σ H Q => t σ H fun vs H1 => SortTA H1 vs Q) := by
  intro pins s σ H Q I h
  refine wpAny_Call_Name_kw (ld_blt I hg hm boot_sorted ?_ (by decide) (by decide))
  refine callWith_kw (thn (ha pos pins s σ H _ I h) fun us s1 ⟨vs,H1,I1,r1,q1⟩ => kws_cons (Constant_bool (kws_nil ?_))) he hplain
  obtain ⟨p,ys,ts,rfl,hp,h64,hl,ht,q⟩:=q1
  obtain ⟨u,rfl,r2⟩:=r1.one
  cases r2
  obtain ⟨its,rv,pl,_⟩:=I1.list (SqL.of (K:=X.K) hp)
  have hlen:=rv.length
  have C : GS.Cmp IT.ordT X.prog X.w s1.heap 2 ts its:=IT.term_cmp (by lia) fun i x u h1 h2 => by
    have hi:=(List.getElem?_eq_some_iff.mp h2).1
    have hy:=List.getElem?_eq_getElem (l:=ys) (i:=i) (by lia)
    obtain ⟨u',h3,h4⟩:=rv.get hy
    rw [h2] at h3
    cases h3
    obtain ⟨a,b,c,e1,k1,k2,k3⟩:=ht i _ x hy h1
    rw [e1] at h4
    cases h4
    obtain ⟨i0,v0,p0,_⟩:=I1.tuple (SqT.of (K:=X.K) k1)
    obtain ⟨i1,v1,p1,_⟩:=I1.tuple (SqT.of (K:=X.K) k2)
    obtain ⟨i2,v2,p2,_⟩:=I1.tuple (SqT.of (K:=X.K) k3)
    have e0 : i0 = [.ref b,.ref c] := by
      cases v0 with
      | cons w1 w2 =>
        cases w2 with
        | cons w3 w4 =>
          cases w4
          cases w1
          cases w3
          rfl
    subst e0
    exact ⟨a,b,c,i1,i2,rfl,p0,p1,is_of v1,p2,is_of v2⟩
  refine GS.sorted_R (b:=true) (([],[]) : IT.Tm) (GS.gathers_list pl.isList (by lia)) C (by lia) GS.runs_any (by lia) fun h' D tk ix e1 hD k1 gD p1 p2 => ?_
  have hix : ∀ i∈ix,i < ys.length:=fun i hi => by
    have:=List.mem_range.mp (p1.mem_iff.mp hi)
    lia
  have hil : ix.length = its.length := by rw [p1.length_eq,List.length_range]
  exact ⟨.ref D,upd H1 D (.lst (ix.map fun i => ys.getD i .non)),I1.laid (t':=tk) k1 hD ⟨by rw [List.length_map,hil,sizeLine_eq]; lia,_,e1,rv.pick ix hix,gD⟩,rfl,q D ix (I1.hok.fresh hD) (by rw [hlen]; exact p1) (by simp only [if_true] at p2; exact p2)⟩
section
variable {X : Cx} {pins : List (Addr×Obj)} {σ : St} {H : Hp} {s : Shared} {d : Addr} {o : Obj} {kvs : List (List Key×V)}
theorem Inv.freeze (I : Inv X pins σ H s) (hd : H d = some (.dT kvs)) (ho : s.heap.get? d = some o) : Inv X pins σ (upd H d (.frz o (.dT kvs))) s := by
  have ne : ∀ b u,H b = some u→(∀ l,u≠.dT l)→b≠d:=fun b u e n z => by subst z; rw [hd] at e; cases e; exact n _ rfl
  have tu : ∀ b xs,H b = some (.tup xs)→upd H d (.frz o (.dT kvs)) b = some (.tup xs):=fun b xs e => by rw [upd_ne (ne b _ e fun l z => by cases z)]; exact e
  have ow : ∀ b a,H b = some (.own a)→upd H d (.frz o (.dT kvs)) b = some (.own a):=fun b a e => by rw [upd_ne (ne b _ e fun l z => by cases z)]; exact e
  show Inv X pins σ _ { s with heap:=s.heap,gens:=s.gens,drawn:=s.drawn,toks:=s.toks }
  refine I.step (ch:=[]) (fun b hb => nomatch hb) (fun b o _ _ _ e _ => e) (fun b o _ _ _ e _ => ⟨o.slots,e⟩) (fun b ob _ e n => ?_) (fun b o _ e => ⟨o,e⟩) tu (fun b ob u e => ?_) (fun b ps e => ⟨#[],?_⟩) (fun b xs o _ _ e => e) (fun m h => h) (fun b ob e => ?_) I.bare
  · rw [upd_ne (fun z => by subst z; rw [hd] at n; cases n)]; exact n
  · rw [upd_ne (ne b _ e fun l z => by cases z)]; exact e
  · rw [upd_ne (ne b _ e fun l z => by cases z),e]; simp
  · by_cases z : b = d
    · subst z
      rw [upd_same] at e
      cases e
      exact ⟨ho,(I.hok _ _ hd).stay (fun c u _ q => q) (fun c q => ow c _ q) tu⟩
    · rw [upd_ne z] at e
      exact (I.hok b ob e).stay (fun c u _ q => q) (fun c q => ow c _ q) tu
theorem Inv.thaw (I : Inv X pins σ H s) (hd : H d = some (.frz o (.dT kvs))) (h0 : ∀ o u,X.H₀ d≠some (.frz o u)) : Inv X pins σ (upd H d (.dT kvs)) s := by
  have ne : ∀ b u,H b = some u→(∀ ob l,u≠.frz ob l)→b≠d:=fun b u e n z => by subst z; rw [hd] at e; cases e; exact n _ _ rfl
  have no : ∀ b,H b = none→upd H d (.dT kvs) b = none:=fun b e => by rw [upd_ne (fun z => by subst z; rw [hd] at e; cases e)]; exact e
  have tu : ∀ b xs,H b = some (.tup xs)→upd H d (.dT kvs) b = some (.tup xs):=fun b xs e => by rw [upd_ne (ne b _ e fun _ l z => by cases z)]; exact e
  have ow : ∀ b a,H b = some (.own a)→upd H d (.dT kvs) b = some (.own a):=fun b a e => by rw [upd_ne (ne b _ e fun _ l z => by cases z)]; exact e
  refine ⟨I.ok,I.os,I.bare,⟨I.base.keep,I.base.slot,fun b ob e n hx => no b (I.base.free b ob e n hx),I.base.there,fun b xs e => tu b xs (I.base.tups b xs e),fun b ob u e => ?_,fun b ps e => ?_,I.base.tupo⟩,I.loc,I.cell,no _ I.free,fun x c e => no _ (I.freeC x c e),fun p hp => ?_,fun b ob e => ?_,I.len⟩
  · rw [upd_ne (fun z => by subst z; exact h0 _ _ e)]
    exact I.base.frzs b ob u e
  · obtain ⟨more,q⟩:=I.base.tbls b ps e
    exact ⟨more,by rw [upd_ne (ne b _ q fun _ l z => by cases z)]; exact q⟩
  · obtain ⟨a,b,c⟩:=I.pin p hp
    exact ⟨a,no _ b,c⟩
  · by_cases z : b = d
    · subst z
      rw [upd_same] at e
      cases e
      exact (show ObjOk X.prog X.w H s.heap _ (.dT kvs) from (I.hok _ _ hd).2).stay (fun c u _ q => q) (fun c q => ow c _ q) tu
    · rw [upd_ne z] at e
      exact (I.hok b ob e).stay (fun c u _ q => q) (fun c q => ow c _ q) tu
end
def tHold (t : TE) : TE:=fun σ H Q => ∃ d kvs,H d = some (.dT kvs)∧∀ o,t σ (upd H d (.frz o (.dT kvs))) fun v H' => H' d = some (.frz o (.dT kvs))∧Q v (upd H' d (.dT kvs))
theorem pe_hold {X : Cx} {e : Expr} {t : TE} (h : PE X e t) : PE X e (tHold t) := by
  intro pins s σ H Q I ⟨d,kvs,hd,q⟩
  obtain ⟨_,_,_,_,ob,es,ep,ho,_⟩:=(show ObjOk X.prog X.w H s.heap d (.dT kvs) from I.hok d _ hd)
  have h0 : ∀ o u,X.H₀ d≠some (.frz o u):=fun o u z => by
    have:=I.base.frzs d o u z
    rw [hd] at this; cases this
  refine thn (h pins s σ _ _ (I.freeze hd ho) (q ob)) fun v s1 ⟨x,H1,I1,r1,q1,q2⟩ => ⟨x,_,I1.thaw q1 h0,r1,q2⟩
def Iti (d : Addr) (od : Obj) : It :=
  ⟨fun i H => ∃ kvs kv,H d = some (.frz od (.dT kvs))∧kvs[i]? = some kv,
   fun i H v H' => ∃ p b k x,v = .ref p∧H p = none∧H' = upd H p (.tup [.ref b,x])∧H b = some (.tup (k.map kV))∧∀ kvs,H d = some (.frz od (.dT kvs))→kvs[i]? = some (k,x),
   fun i H => ∃ kvs,H d = some (.frz od (.dT kvs))∧i = kvs.length⟩
theorem frz_rd {X : Cx} {pins : List (Addr×Obj)} {σ : St} {H : Hp} {s : Shared} (I : Inv X pins σ H s) {d : Addr} {od : Obj} {kvs : List (List Key×V)} (hd : H d = some (.frz od (.dT kvs))) :
    (d == sysModules) = false∧od.ExactDict∧s.heap.get? d = some od∧∃ es ep,od.data = .dict es ep∧es.size = kvs.length∧∀ (i : Nat) k x,kvs[i]? = some (k,x)→∃ b u t,es[i]? = some t∧t.key = .ref b∧t.val = u∧H b = some (.tup (k.map kV))∧RelV x u := by
  obtain ⟨e0,z,nd,xs,kt,o,es,ep,r1,r2,r3,r4,r5⟩:=(show ObjOk X.prog X.w H s.heap d (.frz od (.dT kvs)) from I.hok d _ hd)
  rw [e0] at r1
  cases r1
  have hl : es.size = kvs.length := by
    rw [← Array.length_toList,r4,List.length_map]; exact (Paired.length kt).symm
  refine ⟨nd,r2,e0,es,ep,r3,hl,fun i k x hx => ?_⟩
  have hi : i < xs.length := by rw [← Paired.length kt]; exact (List.getElem?_eq_some_iff.mp hx).1
  have hq:=List.getElem?_eq_getElem (l:=xs) hi
  have f:=paired_at kt hx hq
  obtain ⟨f1,f2,f3⟩:=f
  refine ⟨xs[i].2.1,xs[i].2.2,entryOfKey (tupleKind (mixKind X.prog X.w)) xs[i],?_,rfl,rfl,f2,f3⟩
  rw [← Array.getElem?_toList,r4,List.getElem?_map,hq]; rfl
theorem turn_items {P : Program} {w : World} {K : PySem.W.Frag} {elts : List Expr} {x1} {pos : Pos} {it d : Addr} {od : Obj} {es : Array DictEntry} {ep : Nat} (hx : od.ExactDict) (hes : od.data = .dict es ep) (ne : d≠it) :
    Turn P w K (.Tuple elts x1 pos) (Iti d od) [it] it (fun i h => ∃ ok ov,PySem.IsItemIter h it d i es.size ep ok ov) where
  mem := by simp
  obj:=fun i h ⟨ok,ov,st⟩ b hb => by
    rw [List.mem_singleton.mp hb]
    exact ⟨_,st,fun v z => by cases z⟩
  keep:=fun i h h' ⟨ok,ov,st⟩ k => ⟨ok,ov,k it (.head _) _ st⟩
  item := by
    intro X hP hw hK hc i pins s σ H E I hf st hg
    subst hP hw hK
    obtain ⟨ok,ov,st⟩:=st
    obtain ⟨kvs,⟨k,x⟩,hd,hkv⟩:=hg
    obtain ⟨nd,r2,e0,es',ep',r3,hl,ent⟩:=frz_rd I hd
    rw [hes] at r3
    cases r3
    obtain ⟨b,u,t,t1,t2,t3,hb,ru⟩:=ent i k x hkv
    obtain ⟨hi,ht⟩:=Array.getElem?_eq_some_iff.mp t1
    refine DI.next_first st ⟨od,e0,r2,hes⟩ hi fun h' r1 r2 r3 r4 => ⟨_,rfl,wpAny_letOwnedTupleGo_items (s:={ s with heap:=h' }) r1 fun h'' z'' sb => ?_⟩
    rw [ht,t2,t3] at r2
    have lt : it < s.heap.objs.size:=Heap.lt_size st
    have keep : ∀ b o,b ∉ [it]→s.heap.get? b = some o→h''.get? b = some o:=fun b o hb q => by
      have hb : b≠it := by simpa using hb
      exact (sb.2 b hb).trans (r4 b o hb q)
    have hTn : H s.heap.objs.size = none:=I.hok.fresh (Nat.le_refl _)
    have hT'' : h''.get? s.heap.objs.size = some { cls:=.type "tuple",data:=.seq #[.ref b,u] }:=(sb.2 _ (Nat.ne_of_gt lt)).trans r2
    refine ⟨.ref s.heap.objs.size,upd H s.heap.objs.size (.tup [.ref b,x]),?_,rfl,⟨_,b,k,x,rfl,hTn,rfl,hb,fun zs hz => by rw [hd] at hz; cases hz; exact hkv⟩,⟨_,_,z''⟩,fun c hc => ?_⟩
    · exact I.tupNew (tk:=s.toks) hf keep sz2 (.cons rfl (.cons ru .nil)) hT''
    · rw [List.mem_singleton.mp hc,upd_ne (Nat.ne_of_lt lt)]
      exact (hf it (.head _)).1
  done := by
    intro X hP hw hK hc i pins s σ H E I hf st hg
    subst hP hw hK
    obtain ⟨ok,ov,st⟩:=st
    obtain ⟨kvs,hd,rfl⟩:=hg
    obtain ⟨nd,r2,e0,es',ep',r3,hl,ent⟩:=frz_rd I hd
    rw [hes] at r3
    cases r3
    refine DI.next_end (I.ok.hd hc) st ⟨od,e0,r2,hes⟩ (Nat.le_of_eq hl) fun h' kp => ⟨rfl,?_⟩
    exact I.turn (tk:=s.toks) hf fun b o hb q => kp b o (by simpa using hb) q
  self:=fun _ _ _ _ _ ⟨ok,ov,st⟩ h => PySem.W.kcp_self st h
def iItems (to : TE) : TI:=fun σ H R => to σ H fun x H1 => ∃ d od kvs,x = .ref d∧H1 d = some (.frz od (.dT kvs))∧R (Iti d od) H1
theorem pi_items {X : Cx} {elts : List Expr} {x1} {tpos : Pos} {o : Expr} {to : TE} {apos cpos : Pos} (ho : PE X o to)
    (hbase : attributeBase o "items" X.env (eval o X.env) = eval o X.env := by rfl) (hline : (apos.endLine == cpos.line) = true := by rfl) :
    PI X (.Tuple elts x1 tpos) (.Call (.Attribute o "items" apos) [] [] cpos) (iItems to) := by
  intro pins s σ H R I h
  refine wpAny_Call_method0_late hbase hline (thn (ho pins s σ H _ I h) fun v s1 ⟨x,H1,I1,r1,q1⟩ => ?_)
  obtain ⟨d,od,kvs,rfl,hd,q⟩:=q1
  cases r1
  obtain ⟨nd,r2,e0,es,ep,r3,hl,ent⟩:=frz_rd I1 hd
  have rd : DI.RD s1.heap d es ep:=⟨od,e0,r2,r3⟩
  refine ⟨"dict", "dict.items",PySem.F.plainAttrs_dict,PySem.F.slot_dict_items,PySem.F.type_dict_items,⟨od,e0,r2.1⟩,fun b hb => ?_,Calls.callWith_builtin rfl (PySem.evalArgs_none ?_)⟩
  · cases hb
    exact ⟨od,e0,r2.2.1⟩
  refine call_meetsIn PySem.F.slot_dict_items ⟨od,e0,r2.1⟩ PySem.F.entry_dict_items (PySem.F.args_dict_items_1 _) (items_rd d nd) ⟨⟨es,ep,rd⟩,?_⟩
  refine DI.iter (d:=d) (es:=es) (ep:=ep) (s:={ s1 with heap:=s1.heap.push { cls:=.type "dict_items",data:=.fields #[.ref d] } }) ⟨_,Heap.get?_push_size _ rfl,rfl,rfl⟩ ⟨od,Heap.get?_push_of_some _ e0,r2,r3⟩ ?_
  have sz : (s1.heap.push { cls:=.type "dict_items",data:=.fields #[.ref d] }).objs.size = s1.heap.objs.size + 1:=Heap.size_push ..
  refine ⟨_,[s1.heap.objs.size + 1],_,_,H1,by rw [sz],I1.kept (t':=s1.toks) fun b ob e => Heap.get?_push_of_some _ (Heap.get?_push_of_some _ e),turn_items r2 r3 (Nat.ne_of_lt (Nat.lt_succ_of_lt (Heap.lt_size e0))),⟨.none,.none,?_⟩,fun b hb => ?_,q⟩
  · rw [← sz]
    exact Heap.get?_push_size _ rfl
  · rw [List.mem_singleton.mp hb]
    exact I1.fpOk (Nat.le_succ _) (I1.hok.fresh (Nat.le_succ _))
end L2
set_option maxHeartbeats 1000000
set_option maxHeartbeats 2000000
set_option maxHeartbeats 4000000
set_option maxHeartbeats 2000000
set_option maxHeartbeats 4000000
namespace Opn
open PySem PySem.W PyProof.Rows PySem.Calls
noncomputable def q0 : Pos:=⟨0,0,0,0⟩
noncomputable def o11 : Obj:={ cls:=.type "tuple",data:=.seq #[] }
noncomputable def o12 : Obj:={ cls:=.none,data:=.fields #[] }
noncomputable def o13 : Obj:={ cls:=.type "code",data:=.fields #[.str (Str.ofString "<module>") 182,.str (Str.ofString "<module>") 183,.str (Str.ofString "/claim/cut.py") 184,.int 1 0,.int 0 0,.int 0 0,.int 0 0,.int 0 0,.ref 11,.bool false,.int 181 0,.ref 12,.none,.none,.none,.none,.int 185 0,.int 1 0,.str (Str.ofString "/claim/cut.py") 186] }
noncomputable def o14 : Obj:={ cls:=.type "frame",slots:=#[some (.ref 13),some (.ref 3),some (.ref 3),none,some (.str (Str.ofString "__main__") 164),none,some (.ref 0)] }
noncomputable def objsB (P : Params) : List Obj:=(boot_heap P).objs.toList ++ [o11,o12,o13,o14]
noncomputable def nN (P : Params) (o : Params→Obj) (l r : BT) : BT:=.node (o P) l r
noncomputable def lN (P : Params) (o : Params→Obj) : BT:=.node (o P) .nil .nil
noncomputable def treeB (P : Params) : BT :=
  nN P boot_o_0 (nN P boot_o_1 (nN P boot_o_3 (lN P boot_o_7) (.node o11 .nil .nil)) (nN P boot_o_5 (lN P boot_o_9) (.node o13 .nil .nil)))
    (nN P boot_o_2 (nN P boot_o_4 (lN P boot_o_8) (.node o12 .nil .nil)) (nN P boot_o_6 (lN P boot_o_10) (.node o14 .nil .nil)))
noncomputable def lifeB : Life:=Life.mk [] [] [] 0 [] [] false #[] [] 0 false false false 0 [2000,10,10] false 0 true [] [] 0 false
noncomputable def sA (w : World) (os : OsState) : Shared:=⟨⟨⟨objsB w.params⟩,lifeB⟩,#[],boot_drawn,187,os⟩
noncomputable def sB (w : World) (os : OsState) : SharedT:=⟨treeB w.params,15,lifeB,#[],boot_drawn,187,os⟩
noncomputable def envB (p : Program) : Env:={ scope:=p.main.scope,locals:=mainNs,globals:=mainNs,cells:=[],code:=.ref 13,frame:=some 14 }
noncomputable def cB (p : Program) : Code:=.body (behindTheImports p) (envB p)
noncomputable abbrev annB : Option Value:=some (.ref 6)
noncomputable abbrev bB : List Frame:=[topFrame q0]
noncomputable def runB (p : Program) (M : Nat) (w : World) (os : OsState) : Option (Flow×SharedT×Code×Pos) :=
  PySem.W.Fast.tw10110043849684766642 PySem.W.Fast.tw14364793385576792824 p w 11 annB 1 M (sB w os) (piecesOf (behindTheImports p) (envB p) (cB p) q0 bB)
noncomputable def endB (p : Program) (M : Nat) (w : World) (os : OsState) : SharedT:=match runB p M w os with | some (_,s,_) => s | none => sB w os
theorem runB_eq {p : Program} {M : Nat} {w : World} {os : OsState} {r : Option (Flow×SharedT×Code×Pos)} (h : runB p M w os = r) :
    segRunT treeTable p w 11 annB 1 M (sB w os) (piecesOf (behindTheImports p) (envB p) (cB p) q0 bB) = r := by
  have e : segRunT treeTable = PySem.W.Fast.tw10110043849684766642 PySem.W.Fast.tw14364793385576792824:=congr PySem.W.Fast.te10110043849684766642 PySem.W.Fast.te14364793385576792824
  rw [e]; exact h
theorem run_of {p : Program} {M M0 : Nat} {posE : Pos} {w : World} {os : OsState}
    (pre : topGo treeTable p w 11 annB 12 ⟨boot_heap w.params,#[],boot_drawn,boot_toks,os⟩ (topStub p) = some (sA w os,⟨denote treeTable (cB p),cB p,q0,bB⟩))
    (blk : segRun treeTable p w 11 annB 1 1 (sA w os) (blockOf (behindTheImports p) (envB p) (cB p) q0 bB) = some (.next,(sB w os).abs,cB p,q0))
    (seg : runB p M w os = some (.next,endB p M w os,cB p,posE))
    (fin : ∀ s,topRun treeTable p w 11 annB 2 s (restOf [] (envB p) (cB p) posE bB) = some s) (hM : M0 = 12 + (1 + (M + 2))) :
    topRun treeTable p w 11 annB M0 ⟨boot_heap w.params,#[],boot_drawn,boot_toks,os⟩ (topStub p) = some (endB p M w os).abs := by
  subst hM
  refine go_top pre (piece_block blk ?_)
  have h:=piece_app (rest:=[]) (segRun_of (runB_eq seg)) (fin _)
  rw [List.append_nil] at h
  exact h
theorem left_of {p q : Program} {loose : List Str} {Xt : Shared→Bool} {α : Type} {Yf : Shared→α} {Ya : World→α} {N M : Nat} {S : World→OsState→Shared}
    (open_ : ∀ w : World,(fencedOpening treeTable p w N).map (fun s => (s.heap,s.gens,s.drawn,s.toks)) = some (boot_heap w.params,#[],boot_drawn,boot_toks))
    (size : ∀ w : World,((boot_heap w.params).isNs mainGlobals && (#[] : Array GenState).size == 0,(boot_heap w.params).objs.size,(boot_heap w.params).nsMap mainGlobals "__annotations__") = (true,11,annB))
    (run : ∀ w os,topRun treeTable p w 11 annB M ⟨boot_heap w.params,#[],boot_drawn,boot_toks,os⟩ (topStub p) = some (S w os)) (le : Nat.ble M N = true)
    (ok : ∀ w os,(staticsOk (importedModules p.main.body) (boot_heap w.params) (S w os).heap && namesBound p (S w os).heap && gensDone (S w os) && laidKept (boot_heap w.params) (S w os).heap) = true)
    (seen : ∀ w os,openSeen q loose (importedModules p.main.body) Xt true (S w os) = openGood q loose)
    (hY : ∀ w os,Yf (S w os) = Ya w) : LeftO p q loose Xt Yf Ya N:=fun w => by
  obtain ⟨⟨h,gs,d,k,os⟩,e,e'⟩:=Option.map_eq_some_iff.mp (open_ w)
  obtain ⟨rfl,rfl,rfl,rfl⟩ : h = boot_heap w.params∧gs = #[]∧d = boot_drawn∧k = boot_toks := by simpa using e'
  obtain ⟨z1,z2,z3⟩ : _∧_∧_ := by simpa only [Prod.mk.injEq] using size w
  have l1:=ok w os
  have r:=topRun_mono (N - M) _ _ _ _ (run w os)
  rw [show M + (N - M) = N by have:=Nat.le_of_ble_eq_true le; lia] at r
  have t : topFrom treeTable p w N ⟨boot_heap w.params,#[],boot_drawn,boot_toks,os⟩ = some (S w os) := by
    unfold topFrom
    dsimp only
    rw [z1,z2,z3,r]
    show (match staticsOk (importedModules p.main.body) (boot_heap w.params) (S w os).heap && namesBound p (S w os).heap && gensDone (S w os) && laidKept (boot_heap w.params) (S w os).heap with | true => _ | false => _) = _
    rw [l1]
  unfold openEnds
  rw [e]
  show (topFrom treeTable p w N _).map _ = _
  rw [t]
  exact congrArg some (Prod.ext (seen w os) (hY w os))
theorem sizeB (w : World) : ((boot_heap w.params).isNs mainGlobals && (#[] : Array GenState).size == 0,(boot_heap w.params).objs.size,(boot_heap w.params).nsMap mainGlobals "__annotations__") = (true,11,annB) := by kernel_rfl
end Opn
namespace Q17
open PySem L2
def top (i : Nat) : Stmt:=PySem.Challenge.pw_stepgrove_k17_polynomials_reckoned.main.body.getD i (.Pass ⟨0,0,0,0⟩)
abbrev s_fraction_of : Stmt:=top 4
abbrev s_frac_times : Stmt:=top 5
abbrev s_greatest_divisor : Stmt:=top 6
abbrev s_common_bottom : Stmt:=top 7
abbrev s_frac_total : Stmt:=top 8
abbrev s_poly_sum : Stmt:=top 10
abbrev s_poly_times : Stmt:=top 11
abbrev s_poly_scaled : Stmt:=top 12
abbrev s_powers_joined : Stmt:=top 13
abbrev s_gathered : Stmt:=top 14
abbrev s__law_cell : Stmt:=top 16
abbrev s__law_take : Stmt:=top 17
abbrev s__law_shared : Stmt:=top 18
abbrev s__law_frac : Stmt:=top 19
abbrev s__law_plus : Stmt:=top 20
abbrev s__law_by : Stmt:=top 21
abbrev s__law_part : Stmt:=top 22
abbrev s__law_poly : Stmt:=top 23
abbrev s__law_gathered : Stmt:=top 24
abbrev s__law_sum : Stmt:=top 25
abbrev s__law_product : Stmt:=top 26
abbrev s__law_same : Stmt:=top 27
abbrev s_law : Stmt:=top 28
theorem nnt {n : String} : clsV (.ty n)≠.none:=fun z => nomatch z
theorem mulC {i j : Int} (h1 : -18446744073709551616 < j) (h2 : j < 18446744073709551616) : CMul i j∨CMulW i j:=.inl (.inr ⟨h1,h2⟩)
theorem mulL {i j : Int} (h1 : -18446744073709551616 < i) (h2 : i < 18446744073709551616) : CMul i j∨CMulW i j:=.inl (.inl ⟨h1,h2⟩)
def spGd : Sp:=fun vs H Q _ => ∃ a b,vs = [.int a,.int b]∧Q (.int (FM.gi a b)) H
def spFr : Sp:=fun vs H Q _ => ∃ t b m,vs = [.int t,.int b]∧b≠0∧m≤9000∧b.natAbs < 2 ^ m∧∀ l H',Same H H'→H' l = some (.tup (ratV (Rat.divInt t b)))→Q (.ref l) H'
def spOp (K : PySem.W.Frag) (op : Rat→Rat→Rat) (ok : Rat→Prop) : Sp:=fun vs H Q _ => ∃ v w p q n,vs = [v,w]∧Rt K H p v∧Rt K H q w∧FM.Fits p n∧FM.Fits q n∧n≤4000∧ok q ∧
  ∀ l H',Same H H'→H' l = some (.tup (ratV (op p q)))→Q (.ref l) H'
section
variable {P : Program} {w : World} {K : PySem.W.Frag} {mg : Str→Option Value} {base : Heap} {f g : Addr} {fd gd : FuncData}
theorem sc_greatest_divisor : FnScope ["one", "other", "greater", "lesser", "rest"] ["one", "other"] (defScope s_greatest_divisor):=⟨rfl,rfl,rfl,by decide +kernel,rfl,by decide +kernel,by decide +kernel⟩
def mu3 (σ : St) : Nat:=match σ[3]? with | some (some (V.int l)) => l.natAbs | _ => 0
theorem ok_greatest_divisor (F : Fn K mg "greatest_divisor" s_greatest_divisor ["one", "other"] f fd) (z_abs : mg "abs" = none) : FnOk P w K mg base CX0 1 f fd ["one", "other"] spGd := by
  have sc:=sc_greatest_divisor
  refine F.F.ok (k:=0) sc (fun vs H Q E h => ?_) (fun cdv A outer s H vs Q E hr h => ?_)
  · obtain ⟨a,b,rfl,_⟩:=h
    rfl
  obtain ⟨a,b,rfl,q⟩:=h
  refine ⟨_,(pss_cons (ps_set (i:=2) sc.nd rfl (Or.inl rfl) (pe_callB call_abs rfl z_abs PyProof.Rows.boot_abs (pa_cons (pv 0) pa_nil)))
  (pss_cons (ps_set (i:=3) sc.nd rfl (Or.inl rfl) (pe_callB call_abs rfl z_abs PyProof.Rows.boot_abs (pa_cons (pv 1) pa_nil)))
  (pss_cons (ps_while PassesOwn.never (pt_cmpR op_ne (pv 3) pe_int (nomark _))
    (pss_cons (ps_set (i:=4) sc.nd rfl (Or.inl rfl) (pe_op op_modN (pv 2) (pv 3)))
    (pss_cons (ps_set (i:=2) sc.nd rfl (Or.inl rfl) (pv 3))
    (pss_one (ps_set (i:=3) sc.nd rfl (Or.inl rfl) (pv 4))))))
  (pss_one (ps_ret (pv 2)))))),?_⟩
  refine ⟨_,rfl,_,rfl,_,rfl,_,rfl,?_⟩
  refine while_by (fun σ H' => ∃ g l r,σ = [some (.int a),some (.int b),some (.int g),some (.int l),r]∧H = H'∧Int.gcd g l = Int.gcd a b∧0≤g∧0≤l) (fun σ _ => mu3 σ) ?_ ?_ ?_
  · exact ⟨_,_,_,rfl,rfl,FM.gcd_abs a b,FM.abs_nonneg a,FM.abs_nonneg b⟩
  · rintro σ H' ⟨g,l,r,rfl,rfl,hg,h0,h1⟩
    refine ⟨_,rfl,rfl,_,rfl,ite2 (fun c => ?_) (fun c => ?_)⟩
    · have hl : l≠0:=fun z => by subst z; simp at c
      refine ⟨_,rfl,_,rfl,_,_,rfl,rfl,hl,_,rfl,_,rfl,⟨_,_,_,rfl,rfl,?_,h1,FM.fmod_nonneg hl h1⟩,?_⟩
      · rw [FM.gcd_step]; exact hg
      · exact FM.fmod_less g l hl
    · have hl : l = 0 := by simpa using c
      subst hl
      refine ⟨_,rfl,?_⟩
      rw [FM.gi_end hg h0]
      exact q
  · exact fun σ H Q Q' hq ⟨v,e,s,k,e2,q⟩ => ⟨v,e,s,k,e2,hq _ _ q⟩
theorem sc_fraction_of : FnScope ["top", "bottom", "shared"] ["top", "bottom"] (defScope s_fraction_of):=⟨rfl,rfl,rfl,by decide +kernel,rfl,by decide +kernel,by decide +kernel⟩
theorem ok_fraction_of (F : Fn K mg "fraction_of" s_fraction_of ["top", "bottom"] f fd) (T_greatest_divisor : Fn K mg "greatest_divisor" s_greatest_divisor ["one", "other"] g gd)
    (G_greatest_divisor : FnOk P w K mg base CX0 1 g gd ["one", "other"] spGd) : FnOk P w K mg base CX0 2 f fd ["top", "bottom"] spFr := by
  have sc:=sc_fraction_of
  refine F.F.ok (k:=1) sc (fun vs H Q E h => ?_) (fun cdv A outer s H vs Q E hr h => ?_)
  · obtain ⟨t,b,m,rfl,_⟩:=h
    rfl
  obtain ⟨t,b,m,rfl,hb,hm,hs,q⟩:=h
  refine ⟨_,(pss_cons (ps_if (pt_cmpR op_eq (pv 1) pe_int (nomark _))
    (pss_one ps_never)
    pss_nil)
  (pss_cons (ps_set (i:=2) sc.nd rfl (Or.inl rfl) (pe_fn T_greatest_divisor G_greatest_divisor hr rfl (pa_cons (pv 0) (pa_cons (pv 1) pa_nil))))
  (pss_cons (ps_if (pt_cmpR op_lt (pv 1) pe_int (nomark _))
    (pss_one (ps_set (i:=2) sc.nd rfl (Or.inl rfl) (pe_un un_neg (pv 2))))
    pss_nil)
  (pss_one (ps_ret (pe_tup (pa_cons (pe_op op_fdivW (pv 0) (pv 2)) (pa_cons (pe_op op_fdivW (pv 1) (pv 2)) pa_nil)))))))),?_⟩
  refine ⟨_,rfl,rfl,_,rfl,ite2 (fun c => absurd c (by simpa using hb)) (fun _ => ?_)⟩
  refine ⟨_,rfl,_,rfl,t,b,rfl,?_⟩
  try dsimp only [gName]
  refine seq_join (fun σ' H' => σ' = [some (.int t),some (.int b),some (.int (FM.gs t b))]∧H = H') (fun nx hn => ?_) ?_
  · refine ⟨_,rfl,_,_,rfl,rfl,_,rfl,ite2 (fun c => ?_) (fun c => ?_)⟩
    · have c' : b < 0:=of_decide_eq_true c
      refine ⟨_,rfl,_,rfl,hn _ _ ⟨?_,rfl⟩⟩
      unfold FM.gs
      rw [if_pos c']
      rfl
    · have c' : ¬ b < 0:=of_decide_eq_false (Bool.eq_false_iff.mpr c)
      refine hn _ _ ⟨?_,rfl⟩
      unfold FM.gs
      rw [if_neg c']
      rfl
  · rintro σ' H' ⟨rfl,rfl⟩
    have h0 : FM.gs t b≠0:=FM.gs_ne hb
    have h1 : (FM.gs t b).natAbs < 2 ^ m:=Nat.lt_of_le_of_lt (FM.gs_le hb) hs
    refine ⟨_,rfl,_,rfl,_,_,rfl,rfl,⟨h0,m,hm,h1⟩,_,rfl,_,rfl,_,_,rfl,rfl,⟨h0,m,hm,h1⟩,sz2,fun p hp => ?_⟩
    refine q p _ (same_new hp _) ?_
    rw [upd_same]
    show some (HO.tup [V.int (t.fdiv (FM.gs t b)),V.int (b.fdiv (FM.gs t b))]) = _
    rw [FM.num_eq hb,FM.den_eq hb]
    rfl
theorem sc_frac_times : FnScope ["one", "other"] ["one", "other"] (defScope s_frac_times):=⟨rfl,rfl,rfl,by decide +kernel,rfl,by decide +kernel,by decide +kernel⟩
theorem ok_frac_times (F : Fn K mg "frac_times" s_frac_times ["one", "other"] f fd) (T_fraction_of : Fn K mg "fraction_of" s_fraction_of ["top", "bottom"] g gd)
    (G_fraction_of : FnOk P w K mg base CX0 2 g gd ["top", "bottom"] spFr) : FnOk P w K mg base CX0 3 f fd ["one", "other"] (spOp K (fun p q => p * q) (fun _ => True)) := by
  have sc:=sc_frac_times
  refine F.F.ok (k:=2) sc (fun vs H Q E h => ?_) (fun cdv A outer s H vs Q E hr h => ?_)
  · obtain ⟨v,w,p,q,n,rfl,_⟩:=h
    rfl
  obtain ⟨v,w,p,q,n,rfl,⟨a,rfl,sp⟩,⟨b,rfl,sq⟩,hp,hq,hn,hok,k⟩:=h
  refine ⟨_,(pss_one (ps_ret (pe_fn T_fraction_of G_fraction_of hr rfl (pa_cons (pe_op op_mulW (pe_ix ix_tup (pv 0) pe_int (fun _ _ => rfl)) (pe_ix ix_tup (pv 1) pe_int (fun _ _ => rfl))) (pa_cons (pe_op op_mulW (pe_ix ix_tup (pv 0) pe_int (fun _ _ => rfl)) (pe_ix ix_tup (pv 1) pe_int (fun _ _ => rfl))) pa_nil))))),?_⟩
  refine ⟨_,rfl,_,_,_,_,rfl,rfl,sp,rfl,_,rfl,_,_,_,_,rfl,rfl,sq,rfl,_,_,rfl,rfl,mulW hp.1 hq.1 (by lia),_,rfl,_,_,_,_,rfl,rfl,sp,rfl,_,rfl,_,_,_,_,rfl,rfl,sq,rfl,_,_,rfl,rfl,mulW hp.d hq.d (by lia),_,_,n + n,rfl,FM.prod_ne p q,by lia,FM.dd hp hq,fun l H' e1 e2 => ?_⟩
  exact k l H' e1 (by rw [FM.times_eq p q] at e2; exact e2)
end
def spTake : Sp:=fun vs H Q _ => ∃ (l : Addr) (x n : Int),vs = [.ref l,.int n]∧H l = some (.lst [.int x])∧0 < n∧n < 2 ^ 64∧∀ r y : Int,0≤r→r < n→Q (.int r) (upd H l (.lst [.int y]))
def spCellP (K : PySem.W.Frag) : Sp:=fun vs H Q _ => ∃ (a : Addr) (ns : List Int) (k : Int),vs = [.ref a,.int k]∧SqL K H a (ns.map V.int)∧0≤k∧k < 1000∧∀ x : Int,Q (.int x) H
def spDrawn : Sp:=fun vs H Q _ => ∃ (l : Addr) (x : Int),vs = [.ref l]∧H l = some (.lst [.int x])∧∀ (p : Addr) (r : Rat) (y : Int) (H' : Hp),Same (upd H l (.lst [.int y])) H'→H' p = some (.tup (ratV r))→r.num.natAbs≤6→r.den≤6→Q (.ref p) H'
theorem drawn_all : ∀ i,i < 13→∀ j,j < 6→(Rat.divInt ((i : Nat) - 6 : Int) (1 + (j : Nat) : Int)).num.natAbs≤6∧(Rat.divInt ((i : Nat) - 6 : Int) (1 + (j : Nat) : Int)).den≤6 := by decide +kernel
theorem drawn_small {i j : Int} (h1 : 0≤i) (h2 : i < 13) (h3 : 0≤j) (h4 : j < 6) : (Rat.divInt (i - 6) (1 + j)).num.natAbs≤6∧(Rat.divInt (i - 6) (1 + j)).den≤6 := by
  have:=drawn_all i.toNat (by lia) j.toNat (by lia)
  rwa [Int.toNat_of_nonneg h1,Int.toNat_of_nonneg h3] at this
section
variable {P : Program} {w : World} {K : PySem.W.Frag} {mg : Str→Option Value} {base : Heap} {f g g1 g2 : Addr} {fd gd gd1 gd2 : FuncData}
theorem sc__law_take : FnScope ["_law_pile", "_law_size", "_law_digit"] ["_law_pile", "_law_size"] (defScope s__law_take):=⟨rfl,rfl,rfl,by decide +kernel,rfl,by decide +kernel,by decide +kernel⟩
theorem ok__law_take (F : Fn K mg "_law_take" s__law_take ["_law_pile", "_law_size"] f fd) : FnOk P w K mg base CX0 1 f fd ["_law_pile", "_law_size"] spTake := by
  have sc:=sc__law_take
  refine F.F.ok (k:=0) sc (fun vs H Q E h => ?_) (fun cdv A outer s H vs Q E hr h => ?_)
  · obtain ⟨l,x,n,rfl,_⟩:=h
    rfl
  obtain ⟨l,x,n,rfl,hl,h0,h1,q⟩:=h
  refine ⟨_,(pss_cons (ps_set (i:=2) sc.nd rfl (Or.inl rfl) (pe_op op_modN (pe_ix ix_list (pv 0) pe_int (fun _ _ => rfl)) (pv 1)))
  (pss_cons (ps_asg (pe_op op_fdivW (pe_ix ix_list (pv 0) pe_int (fun _ _ => rfl)) (pv 1)) (pg_sub (pv 0) pe_int set_list))
  (pss_one (ps_ret (pv 2))))),?_⟩
  refine ⟨_,rfl,_,_,_,_,rfl,rfl,SqL.of hl,rfl,_,rfl,_,_,rfl,rfl,(by show n≠0; lia),?_⟩
  refine ⟨_,rfl,_,_,_,_,rfl,rfl,SqL.of hl,rfl,_,rfl,_,_,rfl,rfl,⟨by lia,64,by decide,by lia⟩,_,rfl,l,_,_,0,rfl,rfl,hl,rfl,_,rfl,?_⟩
  exact q _ _ (Int.fmod_nonneg_of_pos x h0) (Int.fmod_lt_of_pos x h0)
theorem sc__law_shared : FnScope ["_law_one", "_law_other"] ["_law_one", "_law_other"] (defScope s__law_shared):=⟨rfl,rfl,rfl,by decide +kernel,rfl,by decide +kernel,by decide +kernel⟩
def mu1 (σ : St) : Nat:=match σ[1]? with | some (some (V.int l)) => l.natAbs | _ => 0
theorem ok__law_shared (F : Fn K mg "_law_shared" s__law_shared ["_law_one", "_law_other"] f fd) (z_abs : mg "abs" = none) : FnOk P w K mg base CX0 1 f fd ["_law_one", "_law_other"] spGd := by
  have sc:=sc__law_shared
  refine F.F.ok (k:=0) sc (fun vs H Q E h => ?_) (fun cdv A outer s H vs Q E hr h => ?_)
  · obtain ⟨a,b,rfl,_⟩:=h
    rfl
  obtain ⟨a,b,rfl,q⟩:=h
  refine ⟨_,(pss_cons (ps_while PassesOwn.never (pt_cmpR op_ne (pv 1) pe_int (nomark _))
    (pss_one (ps_par (i:=0) (j:=1) rfl sc.nd rfl rfl (by decide) rfl rfl (pa_cons (pv 1) (pa_cons (pe_op op_modN (pv 0) (pv 1)) pa_nil)) rfl)))
  (pss_one (ps_ret (pe_callB call_abs rfl z_abs PyProof.Rows.boot_abs (pa_cons (pv 0) pa_nil))))),?_⟩
  refine while_by (fun σ H' => ∃ g l,σ = [some (.int g),some (.int l)]∧H = H'∧Int.gcd g l = Int.gcd a b) (fun σ _ => mu1 σ) ⟨_,_,rfl,rfl,rfl⟩ ?_ ?_
  · rintro σ H' ⟨g,l,rfl,rfl,hg⟩
    refine ⟨_,rfl,rfl,_,rfl,ite2 (fun c => ?_) (fun c => ?_)⟩
    · have hl : l≠0:=fun z => by subst z; simp at c
      refine ⟨_,rfl,_,rfl,_,rfl,_,_,rfl,rfl,hl,_,_,rfl,⟨_,_,rfl,rfl,?_⟩,?_⟩
      · rw [FM.gcd_step]; exact hg
      · exact FM.fmod_less g l hl
    · have hl : l = 0 := by simpa using c
      subst hl
      refine ⟨_,rfl,_,rfl,?_⟩
      rw [FM.gi_end' hg]
      exact q
  · exact fun σ H Q Q' hq ⟨v,e,s,k,e2,q⟩ => ⟨v,e,s,k,e2,hq _ _ q⟩
theorem sc__law_frac : FnScope ["_law_top", "_law_bottom", "_law_by_here"] ["_law_top", "_law_bottom"] (defScope s__law_frac):=⟨rfl,rfl,rfl,by decide +kernel,rfl,by decide +kernel,by decide +kernel⟩
theorem ok__law_frac (F : Fn K mg "_law_frac" s__law_frac ["_law_top", "_law_bottom"] f fd) (T__law_shared : Fn K mg "_law_shared" s__law_shared ["_law_one", "_law_other"] g gd)
    (G__law_shared : FnOk P w K mg base CX0 1 g gd ["_law_one", "_law_other"] spGd) : FnOk P w K mg base CX0 2 f fd ["_law_top", "_law_bottom"] spFr := by
  have sc:=sc__law_frac
  refine F.F.ok (k:=1) sc (fun vs H Q E h => ?_) (fun cdv A outer s H vs Q E hr h => ?_)
  · obtain ⟨t,b,m,rfl,_⟩:=h
    rfl
  obtain ⟨t,b,m,rfl,hb,hm,hs,q⟩:=h
  refine ⟨_,(pss_cons (ps_set (i:=2) sc.nd rfl (Or.inl rfl) (pe_fn T__law_shared G__law_shared hr rfl (pa_cons (pv 0) (pa_cons (pv 1) pa_nil))))
  (pss_cons (ps_if (pt_cmpR op_lt (pv 1) pe_int (nomark _))
    (pss_one (ps_set (i:=2) sc.nd rfl (Or.inl rfl) (pe_op op_sub pe_int (pv 2))))
    pss_nil)
  (pss_one (ps_ret (pe_tup (pa_cons (pe_op op_fdivW (pv 0) (pv 2)) (pa_cons (pe_op op_fdivW (pv 1) (pv 2)) pa_nil))))))),?_⟩
  refine ⟨_,rfl,_,rfl,t,b,rfl,?_⟩
  try dsimp only [gName]
  refine seq_join (fun σ' H' => σ' = [some (.int t),some (.int b),some (.int (FM.gs t b))]∧H = H') (fun nx hn => ?_) ?_
  · refine ⟨_,rfl,_,_,rfl,rfl,_,rfl,ite2 (fun c => ?_) (fun c => ?_)⟩
    · have c' : b < 0:=of_decide_eq_true c
      refine ⟨_,rfl,_,_,rfl,rfl,hn _ _ ⟨?_,rfl⟩⟩
      show [some (V.int t),some (V.int b),some (V.int (0 - FM.gi t b))] = _
      unfold FM.gs
      rw [if_pos c',Int.zero_sub]
    · have c' : ¬ b < 0:=of_decide_eq_false (Bool.eq_false_iff.mpr c)
      refine hn _ _ ⟨?_,rfl⟩
      unfold FM.gs
      rw [if_neg c']
      rfl
  · rintro σ' H' ⟨rfl,rfl⟩
    have h0 : FM.gs t b≠0:=FM.gs_ne hb
    have h1 : (FM.gs t b).natAbs < 2 ^ m:=Nat.lt_of_le_of_lt (FM.gs_le hb) hs
    refine ⟨_,rfl,_,rfl,_,_,rfl,rfl,⟨h0,m,hm,h1⟩,_,rfl,_,rfl,_,_,rfl,rfl,⟨h0,m,hm,h1⟩,sz2,fun p hp => ?_⟩
    refine q p _ (same_new hp _) ?_
    rw [upd_same]
    show some (HO.tup [V.int (t.fdiv (FM.gs t b)),V.int (b.fdiv (FM.gs t b))]) = _
    rw [FM.num_eq hb,FM.den_eq hb]
    rfl
theorem sc__law_cell : FnScope ["_law_script", "_law_k", "_law_cell_here", "_law_number", "_law_found", "_law_turn"] ["_law_script", "_law_k"] (defScope s__law_cell):=⟨rfl,rfl,rfl,by decide +kernel,rfl,by decide +kernel,by decide +kernel⟩
theorem ok__law_cell (F : Fn K mg "_law_cell" s__law_cell ["_law_script", "_law_k"] f fd) (z_len : mg "len" = none) (z_range : mg "range" = none) : FnOk P w K mg base CX0 1 f fd ["_law_script", "_law_k"] (spCellP K) := by
  have sc:=sc__law_cell
  refine F.F.ok (k:=0) sc (fun vs H Q E h => ?_) (fun cdv A outer s H vs Q E hr h => ?_)
  · obtain ⟨a,ns,k,rfl,_⟩:=h
    rfl
  obtain ⟨a,ns,k,rfl,hS,h0,hk,q⟩:=h
  refine ⟨_,(pss_cons (ps_set (i:=2) sc.nd rfl (Or.inl rfl) pe_int)
  (pss_cons (ps_if (pt_cmpR op_lt (pv 1) (pe_callB call_len_seq rfl z_len PySem.boot_len (pa_cons (pv 0) pa_nil)) (nomark _))
    (pss_one (ps_set (i:=2) sc.nd rfl (Or.inl rfl) (pe_ix ix_list (pv 0) (pv 1) (fun _ _ => rfl))))
    pss_nil)
  (pss_cons (ps_if (pt_cmpR op_ge (pv 2) (pe_op op_pow pe_int pe_int) (nomark _))
    (pss_one (ps_ret (pe_op op_mod (pe_op op_sub (pv 2) (pe_op op_pow pe_int pe_int)) (pe_op op_pow pe_int pe_int))))
    pss_nil)
  (pss_cons (ps_set (i:=3) sc.nd rfl (Or.inl rfl) (pe_op op_mod (pe_op op_add (pe_op op_add (pe_op op_mulW (pv 2) pe_int) (pe_op op_mulW (pv 1) pe_int)) pe_int) pe_int))
  (pss_cons (ps_set (i:=4) sc.nd rfl (Or.inl rfl) pe_int)
  (pss_cons (ps_for PassesOwn.never rfl (pi_range1 rfl z_range (pa_cons pe_int pa_nil)) (pg_name (i:=5) sc.nd rfl (Or.inl rfl))
    (pss_cons (ps_set (i:=3) sc.nd rfl (Or.inl rfl) (pe_op op_mod (pe_op op_add (pe_op op_add (pe_op op_mulW (pv 3) (pv 3)) (pe_op op_mulW pe_int (pv 5))) pe_int) pe_int))
    (pss_one (ps_set (i:=4) sc.nd rfl (Or.inl rfl) (pe_op op_add (pe_op op_mulW (pv 4) pe_int) (pe_op op_mod (pe_op op_mulW (pv 3) (pv 3)) pe_int))))))
  (pss_one (ps_ret (pv 4))))))))),?_⟩
  try dsimp only [gName]
  refine seq_join (fun σ' H' => ∃ c : Int,σ' = [some (.ref a),some (.int k),some (.int c),none,none,none]∧H = H') (fun nx hn => ?_) ?_
  · exact hn _ _ ⟨0,rfl,rfl⟩
  rintro _ _ ⟨_,rfl,rfl⟩
  try dsimp only [gName]
  refine seq_join (fun σ' H' => ∃ c : Int,σ' = [some (.ref a),some (.int k),some (.int c),none,none,none]∧H = H') (fun nx hn => ?_) ?_
  · refine ⟨_,rfl,_,rfl,a,_,rfl,.inl hS,_,_,rfl,rfl,_,rfl,ite2 (fun c => ?_) (fun c => ?_)⟩
    · have c' : k < (((ns.map V.int).length : Nat) : Int):=of_decide_eq_true c
      rw [List.length_map] at c'
      have hk : k.toNat < ns.length := by lia
      have hat : atI (ns.map V.int) k = some (.int ns[k.toNat]) := by
        have z:=atI_nat (xs:=ns.map V.int) (j:=k.toNat) (v:=.int ns[k.toNat]) (by rw [List.getElem?_map,List.getElem?_eq_getElem hk]; rfl)
        rwa [show ((k.toNat : Nat) : Int) = k by lia] at z
      exact ⟨_,rfl,_,rfl,a,_,_,_,rfl,rfl,hS,hat,hn _ _ ⟨_,rfl,rfl⟩⟩
    · exact hn _ _ ⟨_,rfl,rfl⟩
  rintro _ _ ⟨c,rfl,rfl⟩
  refine ⟨_,rfl,_,_,rfl,rfl,⟨by decide,by decide,by decide⟩,_,_,rfl,rfl,_,rfl,ite2 (fun _ => ?_) (fun _ => ?_)⟩
  · exact ⟨_,rfl,_,_,rfl,rfl,⟨by decide,by decide,by decide⟩,_,_,rfl,rfl,_,_,rfl,rfl,⟨by decide,by decide,by decide⟩,_,_,rfl,rfl,(by show (0 : Int) < 10 ^ 60; decide),q _⟩
  · refine ⟨_,rfl,_,_,rfl,rfl,mulC (by decide) (by decide),_,rfl,_,_,rfl,rfl,mulC (by decide) (by decide),_,_,rfl,rfl,_,_,rfl,rfl,_,_,rfl,rfl,(by show (0 : Int) < 2147483629; decide),?_⟩
    have z0 : 0≤(c * 48271 + k * 69621 + 11) % 2147483629:=Int.emod_nonneg _ (by decide)
    have z1 : (c * 48271 + k * 69621 + 11) % 2147483629 < 2147483629:=Int.emod_lt_of_pos _ (by decide)
    refine ⟨8,rfl,by decide,by decide,for_range (n:=8) (fun _ σ H' => ∃ (m fo : Int) (jj : Option V),σ = [some (.ref a),some (.int k),some (.int c),some (.int m),some (.int fo),jj]∧0≤m∧m < 2147483629∧H = H') ⟨(c * 48271 + k * 69621 + 11) % 2147483629,0,none,rfl,z0,z1,rfl⟩ ?_ ?_⟩
    · rintro i σ H' hi ⟨m,fo,jj,rfl,m0,m1,rfl⟩
      refine ⟨_,rfl,_,rfl,_,_,rfl,rfl,mulC (by lia) (by lia),_,rfl,_,_,rfl,rfl,mulL (by decide) (by decide),_,_,rfl,rfl,_,_,rfl,rfl,_,_,rfl,rfl,(by show (0 : Int) < 2147483587; decide),?_⟩
      have y0 : 0≤(m * m + 69621 * (0 + (i : Nat)) + 7) % 2147483587:=Int.emod_nonneg _ (by decide)
      have y1 : (m * m + 69621 * (0 + (i : Nat)) + 7) % 2147483587 < 2147483587:=Int.emod_lt_of_pos _ (by decide)
      exact ⟨_,rfl,_,_,rfl,rfl,mulC (by decide) (by decide),_,rfl,_,rfl,((m * m + 69621 * (0 + (i : Nat)) + 7) % 2147483587 : Int),((m * m + 69621 * (0 + (i : Nat)) + 7) % 2147483587 : Int),rfl,rfl,mulC (by lia) (by lia),_,_,rfl,rfl,(by show (0 : Int) < 2147483563; decide),_,_,rfl,rfl,_,_,_,rfl,y0,by lia,rfl⟩
    · rintro σ H' ⟨m,fo,jj,rfl,m0,m1,rfl⟩
      exact ⟨_,rfl,q _⟩
theorem sc__law_part : FnScope ["_law_pile", "_law_top"] ["_law_pile"] (defScope s__law_part):=⟨rfl,rfl,rfl,by decide +kernel,rfl,by decide +kernel,by decide +kernel⟩
theorem ok__law_part (F : Fn K mg "_law_part" s__law_part ["_law_pile"] f fd) (T__law_take : Fn K mg "_law_take" s__law_take ["_law_pile", "_law_size"] g1 gd1) (T__law_frac : Fn K mg "_law_frac" s__law_frac ["_law_top", "_law_bottom"] g2 gd2)
    (G__law_take : FnOk P w K mg base CX0 2 g1 gd1 ["_law_pile", "_law_size"] spTake) (G__law_frac : FnOk P w K mg base CX0 2 g2 gd2 ["_law_top", "_law_bottom"] spFr) : FnOk P w K mg base CX0 3 f fd ["_law_pile"] spDrawn := by
  have sc:=sc__law_part
  refine F.F.ok (k:=2) sc (fun vs H Q E h => ?_) (fun cdv A outer s H vs Q E hr h => ?_)
  · obtain ⟨l,x,rfl,_⟩:=h
    rfl
  obtain ⟨l,x,rfl,hl,q⟩:=h
  refine ⟨_,(pss_cons (ps_set (i:=1) sc.nd rfl (Or.inl rfl) (pe_op op_sub (pe_fn T__law_take G__law_take hr rfl (pa_cons (pv 0) (pa_cons pe_int pa_nil))) pe_int))
  (pss_one (ps_ret (pe_fn T__law_frac G__law_frac hr rfl (pa_cons (pv 1) (pa_cons (pe_op op_add pe_int (pe_fn T__law_take G__law_take hr rfl (pa_cons (pv 0) (pa_cons pe_int pa_nil)))) pa_nil)))))),?_⟩
  refine ⟨_,rfl,l,x,13,rfl,hl,by decide,by decide,fun i y i0 i1 => ⟨_,_,rfl,rfl,?_⟩⟩
  refine ⟨_,rfl,_,rfl,l,y,6,rfl,upd_same,by decide,by decide,fun j z j0 j1 => ⟨_,_,rfl,rfl,?_⟩⟩
  have hd:=drawn_small i0 i1 j0 j1
  refine ⟨i - 6,1 + j,8,rfl,by lia,by decide,by lia,fun p H' e hp => ?_⟩
  refine q p _ z H' (fun b o hb => e _ _ ?_) hp hd.1 hd.2
  by_cases hbl : b = l
  · subst hbl
    rw [upd_same] at hb ⊢
    exact hb
  · rw [upd_ne hbl] at hb
    rw [upd_ne hbl,upd_ne hbl]
    exact hb
end
def spCom : Sp:=fun vs H Q _ => ∃ (a : Addr) (bs : List Int) (k : Nat),vs = [.ref a]∧H a = some (.lst (bs.map V.int))∧(∀ b∈bs,1≤b∧b.natAbs < 2 ^ k)∧k * bs.length≤4000 ∧
  ∀ c : Int,1≤c→c.natAbs < 2 ^ (k * bs.length + 1)→(∀ b∈bs,b ∣ c)→Q (.int c) H
theorem com_step {c b : Int} (hc : 1≤c) (hb : 1≤b) : 1≤c.fdiv (FM.gi c b) * b∧c ∣ c.fdiv (FM.gi c b) * b∧b ∣ c.fdiv (FM.gi c b) * b∧(c.fdiv (FM.gi c b)).natAbs≤c.natAbs := by
  have hg : 0 < FM.gi c b:=FM.gi_pos (by lia)
  obtain ⟨q,hq⟩:=FM.gi_dvd_left c b
  obtain ⟨r,hr⟩:=FM.gi_dvd_right c b
  have e:=FM.fdiv_exact (Int.ne_of_gt hg) hq
  refine ⟨?_,?_,Int.dvd_mul_left _ _,FM.natAbs_fdiv_le' _ _⟩
  · rw [e]
    have hq0 : 0 < q := by
      rcases Int.lt_or_le 0 q with h | h
      · exact h
      · have:=Int.mul_nonpos_of_nonneg_of_nonpos (Int.le_of_lt hg) h
        lia
    exact Int.mul_pos hq0 (by lia)
  · rw [e]
    refine ⟨r,?_⟩
    rw [hr]
    conv => rhs; rw [hq]
    rw [← hr,Int.mul_comm (FM.gi c b) q,Int.mul_assoc,Int.mul_comm (FM.gi c b) r]
    conv => lhs; rw [hr]
    rw [Int.mul_comm (FM.gi c b) r]
theorem div_add (x y : Int) {c : Int} (hc : c≠0) : Rat.divInt (x + y) c = Rat.divInt x c + Rat.divInt y c := by
  rw [Rat.divInt_add_divInt _ _ hc hc,← Int.add_mul,Rat.divInt_mul_right hc]
theorem div_one {t b c : Int} (hb : b≠0) (hc : c≠0) (h : b ∣ c) : Rat.divInt (t * c.fdiv b) c = Rat.divInt t b := by
  obtain ⟨q,rfl⟩:=h
  rw [FM.fdiv_exact hb rfl,Rat.divInt_mul_right (fun z => hc (by rw [z,Int.mul_zero]))]
theorem tot_sum {c : Int} (hc : c≠0) : ∀ {ps : List (Int×Int)},(∀ p∈ps,p.2≠0∧p.2 ∣ c)→Rat.divInt (ps.map fun p => p.1 * c.fdiv p.2).sum c = (ps.map fun p => Rat.divInt p.1 p.2).sum
  | [],_ => by simp
  | p :: ps,h => by
    obtain ⟨h1,h2⟩:=h p List.mem_cons_self
    rw [List.map_cons,List.sum_cons,List.map_cons,List.sum_cons,div_add _ _ hc,div_one h1 hc h2,tot_sum hc fun q hq => h q (List.mem_cons_of_mem _ hq)]
section
variable {P : Program} {w : World} {K : PySem.W.Frag} {mg : Str→Option Value} {base : Heap} {f g : Addr} {fd gd : FuncData}
theorem sc_common_bottom : FnScope ["bottoms", "common", "bottom"] ["bottoms"] (defScope s_common_bottom):=⟨rfl,rfl,rfl,by decide +kernel,rfl,by decide +kernel,by decide +kernel⟩
theorem ok_common_bottom (F : Fn K mg "common_bottom" s_common_bottom ["bottoms"] f fd) (T_greatest_divisor : Fn K mg "greatest_divisor" s_greatest_divisor ["one", "other"] g gd)
    (G_greatest_divisor : FnOk P w K mg base CX0 1 g gd ["one", "other"] spGd) : FnOk P w K mg base CX0 2 f fd ["bottoms"] spCom := by
  have sc:=sc_common_bottom
  refine F.F.ok (k:=1) sc (fun vs H Q E h => ?_) (fun cdv A outer s H vs Q E hr h => ?_)
  · obtain ⟨a,bs,k,rfl,_⟩:=h
    rfl
  obtain ⟨a,bs,k,rfl,ha,hb,hk,q⟩:=h
  refine ⟨_,(pss_cons (ps_set (i:=1) sc.nd rfl (Or.inl rfl) pe_int)
  (pss_cons (ps_for PassesOwn.never rfl (pi_list (pv 0)) (pg_name (i:=2) sc.nd rfl (Or.inl rfl))
    (pss_one (ps_set (i:=1) sc.nd rfl (Or.inl rfl) (pe_op op_mulW (pe_op op_fdivW (pv 1) (pe_fn T_greatest_divisor G_greatest_divisor hr rfl (pa_cons (pv 1) (pa_cons (pv 2) pa_nil)))) (pv 2)))))
  (pss_one (ps_ret (pv 1))))),?_⟩
  refine ⟨_,rfl,a,rfl,⟨_,SqL.of ha⟩,for_list (xs := bs.map V.int) (fun i σ H' => ∃ (c : Int) (r : Option V),σ = [some (.ref a),some (.int c),r]∧H = H'∧1≤c∧c.natAbs < 2 ^ (k * i + 1)∧∀ j b,j < i→bs[j]? = some b→b ∣ c) ?_ ?_ ?_ ?_⟩
  · exact ⟨1,_,rfl,rfl,by decide,by simp,fun j b h => absurd h (Nat.not_lt_zero _)⟩
  · rintro i σ H' _ ⟨c,r,rfl,rfl,_⟩
    exact SqL.of ha
  · rintro i x σ H' hx ⟨c,r,rfl,rfl,c1,c2,c3⟩
    have hi : i < bs.length := by have:=(List.getElem?_eq_some_iff.mp hx).1; simpa using this
    rw [List.getElem?_map,List.getElem?_eq_getElem hi] at hx
    cases hx
    obtain ⟨b1,b2⟩:=hb _ (List.getElem_mem hi)
    obtain ⟨s1,s2,s3,s4⟩:=com_step c1 b1
    have hg : FM.gi c bs[i]≠0:=Int.ne_of_gt (FM.gi_pos (by lia))
    have hki : k * i + k≤4000 := by
      have : k * (i + 1)≤k * bs.length:=Nat.mul_le_mul_left k hi
      rw [Nat.mul_succ] at this
      lia
    have n1 : (c.fdiv (FM.gi c bs[i])).natAbs < 2 ^ (k * i + 1):=Nat.lt_of_le_of_lt s4 c2
    refine ⟨_,rfl,_,rfl,_,rfl,c,bs[i],rfl,_,_,rfl,rfl,⟨hg,k,by have : k * 1≤k * bs.length:=Nat.mul_le_mul_left k (by lia); lia,Nat.lt_of_le_of_lt (FM.gi_le (by lia)) b2⟩,_,rfl,_,_,rfl,rfl,mulW n1 b2 (by lia),_,_,rfl,rfl,s1,?_,fun j b hj hbj => ?_⟩
    · have:=FM.nb_mul n1 b2
      rw [Nat.mul_succ,show k * i + k + 1 = k * i + 1 + k by lia]
      exact this
    · by_cases z : j = i
      · subst z
        rw [List.getElem?_eq_getElem hi] at hbj
        cases hbj
        exact s3
      · exact Int.dvd_trans (c3 j b (by lia) hbj) s2
  · rintro σ H' ⟨c,r,rfl,rfl,c1,c2,c3⟩
    rw [List.length_map] at c2 c3
    refine ⟨_,rfl,q c c1 c2 fun b hb => ?_⟩
    obtain ⟨j,hj⟩:=List.getElem?_of_mem hb
    exact c3 j b (List.getElem?_eq_some_iff.mp hj).1 hj
theorem sc_frac_total : FnScope ["some", "bottom"] ["some"] (defScope s_frac_total):=⟨rfl,rfl,rfl,by decide +kernel,rfl,by decide +kernel,by decide +kernel⟩
end
def DU (H : Hp) (d : PyData) (v : V) : Prop:=∃ N : Nat,∀ l,N≤l→Dt l H d v
def DUs (H : Hp) (ds : List PyData) (xs : List V) : Prop:=∃ N : Nat,∀ l,N≤l→DtAll l H ds xs
theorem DU.same {H H' : Hp} {d : PyData} {v : V} (h : DU H d v) (e : Same H H') : DU H' d v:=let ⟨N,k⟩:=h; ⟨N,fun l hl => (k l hl).same e⟩
theorem DUs.same {H H' : Hp} {d : List PyData} {v : List V} (h : DUs H d v) (e : Same H H') : DUs H' d v:=let ⟨N,k⟩:=h; ⟨N,fun l hl => (k l hl).same e⟩
theorem DU.int {H : Hp} {i : Int} : DU H (.int i) (.int i):=⟨0,fun _ _ => .int⟩
theorem DUs.nil {H : Hp} : DUs H [] []:=⟨0,fun _ _ => .nil⟩
theorem DUs.cons {H : Hp} {d : PyData} {ds : List PyData} {x : V} {xs : List V} (h : DU H d x) (k : DUs H ds xs) : DUs H (d :: ds) (x :: xs) :=
  let ⟨N,a⟩:=h; let ⟨M,b⟩:=k; ⟨max N M,fun l hl => .cons (a l (by lia)) (b l (by lia))⟩
theorem DUs.len {H : Hp} {ds : List PyData} {xs : List V} (h : DUs H ds xs) : xs.length = ds.length:=let ⟨N,a⟩:=h; (a N (Nat.le_refl _)).len
theorem DUs.get {H : Hp} {ds : List PyData} {xs : List V} {i : Nat} {d : PyData} (h : DUs H ds xs) (e : ds[i]? = some d) : ∃ v,xs[i]? = some v∧DU H d v := by
  have hl:=h.len
  have hi : i < xs.length := by rw [hl]; exact (List.getElem?_eq_some_iff.mp e).1
  have hx : xs[i]? = some xs[i] := by simp [hi]
  obtain ⟨N,a⟩:=h
  refine ⟨xs[i],hx,N,fun l hl => ?_⟩
  obtain ⟨d',h1,h2⟩:=(a l hl).get hx
  rw [e] at h1; cases h1
  exact h2
theorem DU.lst {H : Hp} {a : Addr} {ds : List PyData} {xs : List V} (h : H a = some (.lst xs)) (k : DUs H ds xs) : DU H (.list ds) (.ref a) :=
  let ⟨N,b⟩:=k; ⟨max N (a + 1),fun l hl => .lst (Nat.ne_of_lt (show a < l from Nat.lt_of_lt_of_le (Nat.lt_succ_self a) (Nat.le_trans (Nat.le_max_right _ _) hl))) h (b l (by lia))⟩
theorem DU.tup {H : Hp} {a : Addr} {ds : List PyData} {xs : List V} (h : H a = some (.tup xs)) (k : DUs H ds xs) : DU H (.tuple ds) (.ref a) :=
  let ⟨N,b⟩:=k; ⟨max N (a + 1),fun l hl => .tup (Nat.ne_of_lt (show a < l from Nat.lt_of_lt_of_le (Nat.lt_succ_self a) (Nat.le_trans (Nat.le_max_right _ _) hl))) h (b l (by lia))⟩
theorem DU.unL {H : Hp} {ds : List PyData} {v : V} (h : DU H (.list ds) v) : ∃ a xs,v = .ref a∧H a = some (.lst xs)∧DUs H ds xs := by
  obtain ⟨N,b⟩:=h
  have h0 := b N (Nat.le_refl _)
  rw [Dt] at h0
  obtain ⟨a,xs,rfl,_,ha,_⟩:=h0
  refine ⟨a,xs,rfl,ha,N,fun l hl => ?_⟩
  have h1 := b l hl
  rw [Dt] at h1
  obtain ⟨a',xs',e,_,ha',hx'⟩:=h1
  cases e
  rw [ha] at ha'; cases ha'
  exact hx'
theorem DU.unT {H : Hp} {ds : List PyData} {v : V} (h : DU H (.tuple ds) v) : ∃ a xs,v = .ref a∧H a = some (.tup xs)∧DUs H ds xs := by
  obtain ⟨N,b⟩:=h
  have h0 := b N (Nat.le_refl _)
  rw [Dt] at h0
  obtain ⟨a,xs,rfl,_,ha,_⟩:=h0
  refine ⟨a,xs,rfl,ha,N,fun l hl => ?_⟩
  have h1 := b l hl
  rw [Dt] at h1
  obtain ⟨a',xs',e,_,ha',hx'⟩:=h1
  cases e
  rw [ha] at ha'; cases ha'
  exact hx'
theorem DU.br {K : PySem.W.Frag} {H : Hp} {d : PyData} {v : V} (h : DU H d v) : Br K H d v:=let ⟨N,b⟩:=h; (b N (Nat.le_refl _)).br
theorem du_l {p : Addr} {H H' : Hp} {xs : List V} {ds : List PyData} (hH : upd H p (.lst xs) = H') (hp : H p = none) (k : DUs H ds xs) : Same H H'∧DU H' (.list ds) (.ref p)∧H' p = some (.lst xs) := by
  subst hH
  have es:=same_new hp (.lst xs)
  exact ⟨es,.lst upd_same (k.same es),upd_same⟩
theorem sz60 {i n : Nat} (h : i < n) (hn : n≤60) : i < sizeLine:=Nat.lt_of_lt_of_le (show i < 60 by lia) (by rw [sizeLine_eq]; decide)
theorem sz60' {n : Nat} (hn : n≤60) : n≤sizeLine:=Nat.le_trans hn (by rw [sizeLine_eq]; decide)
abbrev Mono:=List Int×Rat
def monoD (m : Mono) : PyData:=.tuple [.tuple (m.1.map .int),ratD m.2]
def polyD (us : List Mono) : PyData:=.list (us.map monoD)
def spTotG : Sp:=fun vs H Q _ => ∃ (a : Addr) (xs : List V) (ps : List (Int×Int)) (kt k : Nat),vs = [.ref a]∧H a = some (.lst xs)∧xs.length = ps.length∧ps.length≤1000∧(∀ (j : Nat) x p,xs[j]? = some x→ps[j]? = some p→∃ c,x = .ref c∧H c = some (.tup [.int p.1,.int p.2])) ∧
  (∀ p∈ps,1≤p.2∧p.1.natAbs < 2 ^ kt∧p.2.natAbs < 2 ^ k)∧k * ps.length≤4000∧kt≤100000∧∀ l H',Same H H'→H' l = some (.tup (ratV (ps.map fun p => Rat.divInt p.1 p.2).sum))→Q (.ref l) H'
section
variable {P : Program} {w : World} {K : PySem.W.Frag} {mg : Str→Option Value} {base : Heap} {f g1 g2 : Addr} {fd gd1 gd2 : FuncData}
theorem ok_frac_totalG (F : Fn K mg "frac_total" s_frac_total ["some"] f fd) (T_common_bottom : Fn K mg "common_bottom" s_common_bottom ["bottoms"] g1 gd1) (T_fraction_of : Fn K mg "fraction_of" s_fraction_of ["top", "bottom"] g2 gd2)
    (G_common_bottom : FnOk P w K mg base CX0 2 g1 gd1 ["bottoms"] spCom) (G_fraction_of : FnOk P w K mg base CX0 2 g2 gd2 ["top", "bottom"] spFr) (z_sum : mg "sum" = none) : FnOk P w K mg base CX0 3 f fd ["some"] spTotG := by
  have sc:=sc_frac_total
  refine F.F.ok (k:=2) sc (fun vs H Q E h => ?_) (fun cdv A outer s H vs Q E hr h => ?_)
  · obtain ⟨a,xs,ps,kt,k,rfl,_⟩:=h
    rfl
  obtain ⟨a,xs,ps,kt,k,rfl,ha,hl,h1000,hx,hp,hk,hkt,q⟩:=h
  have hk1 : ps≠[]→k≤4000:=fun hne => by
    have : k * 1≤k * ps.length:=Nat.mul_le_mul_left k (List.length_pos_iff.mpr hne)
    lia
  have at_ : ∀ (i : Nat) (hi : i < xs.length),∃ (p : Int×Int) (c : Addr),ps[i]? = some p∧xs[i] = .ref c∧H c = some (.tup [.int p.1,.int p.2]):=fun i hi => by
    have hpi : ps[i]? = some (ps[i]'(by lia)):=List.getElem?_eq_getElem _
    obtain ⟨c,h1,h2⟩:=hx i xs[i] _ (List.getElem?_eq_getElem hi) hpi
    exact ⟨_,c,hpi,h1,h2⟩
  refine ⟨_,(pss_cons (ps_set (i:=1) sc.nd rfl (Or.inr rfl) (pe_fn T_common_bottom G_common_bottom hr rfl (pa_cons (pe_compr [".0", "part"] 1 [none,none] (pi_list (pv 0)) (fun _ _ _ _ _ => pif_nil) (fun _ _ _ _ _ => (pe_ix ix_tupC (pv 1) pe_int (fun _ _ => rfl)))) pa_nil)))
  (pss_one (ps_ret (pe_fn T_fraction_of G_fraction_of hr rfl (pa_cons (pe_callB (call_sum rfl) rfl z_sum PyProof.Rows.boot_sum (pa_cons (pe_compr [".0", "part", "bottom"] 1 [none,none,some 1] (pi_list (pv 0)) (fun _ _ _ _ _ => pif_nil) (fun _ _ _ _ _ => (pe_op op_mulW (pe_ix ix_tupC (pv 1) pe_int (fun _ _ => rfl)) (pe_op op_fdivW (pv 2) (pe_ix ix_tupC (pv 1) pe_int (fun _ _ => rfl)))))) pa_nil)) (pa_cons (pv 1) pa_nil)))))),?_⟩
  refine ⟨_,rfl,a,rfl,⟨_,SqL.of ha⟩,fun D hD => comp_by (n:=xs.length) (fun i ys H' => Same H H'∧ys = ((ps.take i).map (·.2)).map V.int) ?_ ?_ ?_⟩
  · exact ⟨same_new hD _,rfl⟩
  · rintro i ys H0 hi ⟨e0,rfl⟩ hD0
    obtain ⟨p,c,h1,h2,h3⟩:=at_ i hi
    refine ⟨⟨xs,xs[i],SqL.of (e0 _ _ ha),by simp [hi]⟩,?_,fun x H' y => ?_⟩
    · rw [List.length_map,List.length_map,List.length_take]
      exact Nat.lt_of_le_of_lt (Nat.min_le_left _ _) (Nat.lt_of_lt_of_le (show i < 1000 by lia) (by rw [sizeLine_eq]; decide))
    · obtain ⟨rfl,y⟩:=y
      have hxi:=y xs (SqL.of (e0 _ _ ha))
      rw [List.getElem?_eq_getElem hi,h2] at hxi
      cases hxi
      unfold tNoIf
      refine iteT ⟨_,rfl,_,_,_,_,rfl,rfl,SqT.of (e0 _ _ h3),rfl,hD0,cw_next hi ⟨fun b o z => ?_,?_⟩⟩
      · rw [upd_ne (ne_of_none z hD)]; exact e0 _ _ z
      · rw [List.take_succ,h1]; simp
  rintro ys H0 ⟨e0,rfl⟩ hD0
  refine ⟨⟨xs,SqL.of (e0 _ _ ha),Nat.le_refl _⟩,?_⟩
  rw [hl,List.take_length] at hD0
  refine ⟨D,ps.map (·.2),k,rfl,hD0,fun b hb => ?_,by rw [List.length_map]; exact hk,fun c c1 c2 c3 => ?_⟩
  · obtain ⟨p,hp',rfl⟩:=List.mem_map.mp hb
    exact ⟨(hp p hp').1,(hp p hp').2.2⟩
  rw [List.length_map] at c2
  refine ⟨_,rfl,a,rfl,⟨_,SqL.of (e0 _ _ ha)⟩,fun D2 hD2 => comp_by (n:=xs.length) (fun i ys H' => Same H0 H'∧ys = ((ps.take i).map fun p => p.1 * c.fdiv p.2).map V.int) ?_ ?_ ?_⟩
  · exact ⟨same_new hD2 _,rfl⟩
  · rintro i ys H1 hi ⟨e1,rfl⟩ hD1
    have E1:=e0.trans e1
    obtain ⟨p,d,h1,h2,h3⟩:=at_ i hi
    have hpm:=List.mem_of_getElem? h1
    have hkk:=hk1 (List.ne_nil_of_mem hpm)
    obtain ⟨p1,p2,p3⟩:=hp p hpm
    refine ⟨⟨xs,xs[i],SqL.of (E1 _ _ ha),by simp [hi]⟩,?_,fun x H' y => ?_⟩
    · rw [List.length_map,List.length_map,List.length_take]
      exact Nat.lt_of_le_of_lt (Nat.min_le_left _ _) (Nat.lt_of_lt_of_le (show i < 1000 by lia) (by rw [sizeLine_eq]; decide))
    · obtain ⟨rfl,y⟩:=y
      have hxi:=y xs (SqL.of (E1 _ _ ha))
      rw [List.getElem?_eq_getElem hi,h2] at hxi
      cases hxi
      unfold tNoIf
      refine iteT ⟨_,rfl,_,_,_,_,rfl,rfl,SqT.of (E1 _ _ h3),rfl,_,rfl,_,rfl,_,_,_,_,rfl,rfl,SqT.of (E1 _ _ h3),rfl,_,_,rfl,rfl,⟨by lia,k,by lia,p3⟩,_,_,rfl,rfl,mulW p2 (Nat.lt_of_le_of_lt (FM.natAbs_fdiv_le' c p.2) c2) (by lia),hD1,cw_next hi ⟨fun b o z => ?_,?_⟩⟩
      · rw [upd_ne (ne_of_none z hD2)]; exact e1 _ _ z
      · rw [List.take_succ,h1]; simp
  rintro ys H1 ⟨e1,rfl⟩ hD1
  refine ⟨⟨xs,SqL.of ((e0.trans e1) _ _ ha),Nat.le_refl _⟩,?_⟩
  rw [hl,List.take_length] at hD1
  refine ⟨D2,_,rfl,SqL.of hD1,_,rfl,_,c,k * ps.length + 1,rfl,by lia,by lia,c2,fun l H' e2 hl' => ?_⟩
  refine q l H' (e0.trans (e1.trans e2)) ?_
  rw [tot_sum (by lia) fun p hp' => ⟨by have:=(hp p hp').1; lia,c3 _ (List.mem_map_of_mem hp')⟩] at hl'
  exact hl'
end
theorem snocInd {α : Type} {P : List α→Prop} (h0 : P []) (h1 : ∀ l a,P l→P (l ++ [a])) (l : List α) : P l := by
  have : ∀ r : List α,P r.reverse:=fun r => by
    induction r with
    | nil => exact h0
    | cons a r ih => rw [List.reverse_cons]; exact h1 _ _ ih
  have:=this l.reverse
  rwa [List.reverse_reverse] at this
theorem noneS {H H' : Hp} {p : Addr} (e : Same H H') (h : H' p = none) : H p = none := by
  cases k : H p with
  | none => rfl
  | some o => rw [e _ _ k] at h; cases h
abbrev T3:=List Int×Int×Int
def keysO (ts : List T3) : List (List Int):=ts.foldl (fun acc t => if t.1∈acc then acc else acc ++ [t.1]) []
theorem keysO_snoc (ts : List T3) (t : T3) : keysO (ts ++ [t]) = if t.1∈keysO ts then keysO ts else keysO ts ++ [t.1] := by unfold keysO; rw [List.foldl_append]; rfl
theorem keysO_nd : ∀ ts : List T3,(keysO ts).Nodup:=snocInd .nil fun l t ih => by
  rw [keysO_snoc]
  split
  · exact ih
  · rename_i z
    exact List.nodup_append.mpr ⟨ih,by simp,fun a ha b hb e => z (by rw [List.mem_singleton.mp hb] at e; exact e ▸ ha)⟩
theorem keysO_mem {k : List Int} : ∀ ts : List T3,k∈keysO ts→∃ t∈ts,t.1 = k:=snocInd (fun h => by cases h) fun l t ih h => by
  rw [keysO_snoc] at h
  split at h
  · obtain ⟨u,a,b⟩:=ih h; exact ⟨u,List.mem_append_left _ a,b⟩
  · rcases List.mem_append.mp h with h | h
    · obtain ⟨u,a,b⟩:=ih h; exact ⟨u,List.mem_append_left _ a,b⟩
    · exact ⟨t,List.mem_append_right _ (.head _),(List.mem_singleton.mp h).symm⟩
theorem keysO_len (ts : List T3) : (keysO ts).length≤ts.length := by
  refine snocInd (P:=fun ts : List T3 => (keysO ts).length≤ts.length) (Nat.le_refl _) (fun l t ih => ?_) ts
  rw [keysO_snoc,List.length_append]
  split
  · lia
  · rw [List.length_append]; exact Nat.add_le_add_right ih 1
def ofK (k : List Int) (ts : List T3) : List (Int×Int):=(ts.filter fun t => decide (t.1 = k)).map (·.2)
theorem ofK_snoc (k : List Int) (ts : List T3) (t : T3) : ofK k (ts ++ [t]) = if t.1 = k then ofK k ts ++ [t.2] else ofK k ts := by
  unfold ofK
  rw [List.filter_append,List.map_append]
  by_cases z : t.1 = k
  · rw [if_pos z,List.filter_cons_of_pos (by simpa using z)]; rfl
  · rw [if_neg z,List.filter_cons_of_neg (by simpa using z)]; exact List.append_nil _
theorem ofK_new {k : List Int} {ts : List T3} (h : k ∉ keysO ts) : ofK k ts = [] := by
  revert h
  refine snocInd (P:=fun ts : List T3 => k ∉ keysO ts→ofK k ts = []) (fun _ => rfl) (fun l t ih h => ?_) ts
  rw [keysO_snoc] at h
  rw [ofK_snoc]
  split at h
  · rename_i z
    rw [if_neg fun e : t.1 = k => h (e ▸ z)]; exact ih h
  · rw [if_neg fun e => h (List.mem_append_right _ (by rw [e]; exact .head _))]; exact ih fun z => h (List.mem_append_left _ z)
theorem ofK_mem {k : List Int} {ts : List T3} {p : Int×Int} (h : p∈ofK k ts) : ∃ t∈ts,t.2 = p := by
  obtain ⟨t,h1,h2⟩:=List.mem_map.mp h
  exact ⟨t,(List.mem_filter.mp h1).1,h2⟩
theorem ofK_len (k : List Int) (ts : List T3) : (ofK k ts).length≤ts.length := by unfold ofK; rw [List.length_map]; exact List.length_filter_le _ _
def sumK (ts : List T3) (k : List Int) : Rat:=((ofK k ts).map fun p => Rat.divInt p.1 p.2).sum
def desc (a b : List Int) : Bool:=!IT.lt a b
def gathK (ts : List T3) : List (List Int):=(keysO ts).mergeSort desc
def gathO (ts : List T3) (k : List Int) : Option Mono:=if sumK ts k = 0 then none else some (k,sumK ts k)
def gath (ts : List T3) : List Mono:=(gathK ts).filterMap (gathO ts)
theorem gathK_of {ts : List T3} {l : List (List Int)} (p : l.Perm (keysO ts)) (s : l.Pairwise fun a b => IT.ord.kle b a) : l = gathK ts := by
  have e : ∀ a b : List Int,IT.ord.kle b a ↔ desc a b = true:=fun a b => by
    unfold desc
    show IT.lt a b = false ↔ _
    cases IT.lt a b <;> simp
  refine List.Perm.eq_of_pairwise (le:=fun a b => IT.ord.kle b a) (fun a b _ _ h1 h2 => PyProof.Rows.KeyOrd.kle_antisymm (O:=IT.ord) h2 h1) s ?_ (p.trans (List.mergeSort_perm _ _).symm)
  refine (List.pairwise_mergeSort (le:=desc) (fun a b c h1 h2 => (e a c).mp (PyProof.Rows.KeyOrd.kle_trans (O:=IT.ord) ((e b c).mpr h2) ((e a b).mpr h1))) (fun a b => ?_) (keysO ts)).imp fun h => (e _ _).mpr h
  unfold desc
  cases h : IT.lt a b with
  | false => rfl
  | true =>
    cases h2 : IT.lt b a with
    | false => rfl
    | true => have:=IT.lt_trans a b a h h2; rw [IT.lt_irrefl] at this; cases this
theorem nd_inj {α β : Type} {f : α→β} {l : List α} (h : (l.map f).Nodup) {a b : α} (ha : a∈l) (hb : b∈l) (e : f a = f b) : a = b := by
  induction l with
  | nil => cases ha
  | cons x l ih =>
    rw [List.map_cons,List.nodup_cons] at h
    rcases List.mem_cons.mp ha with ea | ha
    · rcases List.mem_cons.mp hb with eb | hb
      · rw [ea,eb]
      · exact absurd (List.mem_map.mpr ⟨b,hb,by rw [← e,ea]⟩) h.1
    · rcases List.mem_cons.mp hb with eb | hb
      · exact absurd (List.mem_map.mpr ⟨a,ha,by rw [e,eb]⟩) h.1
      · exact ih h.2 ha hb
def Fs (H : Hp) (ps : List (Int×Int)) (ys : List V) : Prop:=ys.length = ps.length∧∀ (j : Nat) x p,ys[j]? = some x→ps[j]? = some p→∃ c,x = .ref c∧H c = some (.tup [.int p.1,.int p.2])
theorem Fs.but {H : Hp} {ps : List (Int×Int)} {ys : List V} {a : Addr} {o : HO} (h : Fs H ps ys) (k : ∀ xs,H a≠some (.tup xs)) : Fs (upd H a o) ps ys:=⟨h.1,fun j x p hx hp => let ⟨c,e,q⟩:=h.2 j x p hx hp; ⟨c,e,by rw [upd_ne (fun z => k _ (z ▸ q))]; exact q⟩⟩
theorem Fs.snoc {H : Hp} {ps : List (Int×Int)} {ys : List V} {p : Int×Int} {F : Addr} (h : Fs H ps ys) (k : H F = some (.tup [.int p.1,.int p.2])) : Fs H (ps ++ [p]) (ys ++ [.ref F]) := by
  refine ⟨by rw [List.length_append,List.length_append,h.1]; rfl,fun j x q hx hq => ?_⟩
  by_cases z : j < ps.length
  · rw [List.getElem?_append_left z] at hq
    rw [List.getElem?_append_left (by rw [h.1]; exact z)] at hx
    exact h.2 j x q hx hq
  · rw [List.getElem?_append_right (by lia)] at hq
    rw [List.getElem?_append_right (by rw [h.1]; lia),h.1] at hx
    have:=(List.getElem?_eq_some_iff.mp hq).1
    rw [List.length_singleton] at this
    rw [show j - ps.length = 0 by lia] at hq hx
    cases hq
    cases hx
    exact ⟨F,rfl,k⟩
abbrev kvsOf (kls : List (List Int×Addr)) : List (List Key×V):=kls.map fun q => (q.1.map Sum.inl,V.ref q.2)
structure GI (H0 : Hp) (A : Addr) (ts : List T3) (H : Hp) (kls : List (List Int×Addr)) : Prop where
  at_ : H A = some (.dT (kvsOf kls))
  keys : kls.map (·.1) = keysO ts
  grp : ∀ q∈kls,∃ ys,H q.2 = some (.lst ys)∧Fs H (ofK q.1 ts) ys
  new : ∀ q∈kls,H0 q.2 = none
  nd : (kls.map (·.2)).Nodup
  same : Same H0 H
theorem inl_inj {a b : List Int} : a.map (Sum.inl (β:=Str)) = b.map Sum.inl ↔ a = b:=⟨fun h => by
  induction a generalizing b with
  | nil => cases b with
    | nil => rfl
    | cons y b => cases h
  | cons x a ih => cases b with
    | nil => cases h
    | cons y b =>
      rw [List.map_cons,List.map_cons] at h
      injection h with h1 h2
      injection h1 with h1
      rw [h1,ih h2],fun h => by rw [h]⟩
theorem val_kls {k : List Int} : ∀ kls : List (List Int×Addr),valV (kvsOf kls) (k.map Sum.inl) = (kls.find? fun q => decide (q.1 = k)).map fun q => V.ref q.2
  | [] => rfl
  | q :: kls => by
    have ih:=val_kls (k:=k) kls
    unfold valV at ih ⊢
    rw [show kvsOf (q :: kls) = (q.1.map Sum.inl,V.ref q.2) :: kvsOf kls from rfl,List.find?_cons,List.find?_cons]
    by_cases z : q.1 = k
    · rw [decide_eq_true z,decide_eq_true (by rw [z])]; rfl
    · rw [decide_eq_false z,decide_eq_false (fun e => z (inl_inj.mp e))]; exact ih
theorem GI.old {H0 H : Hp} {A p F : Addr} {ts : List T3} {kls : List (List Int×Addr)} {t : T3} {v : V} (g : GI H0 A ts H kls) (hA : H0 A = none) (hp : H p = none) (hF : H F = some (.tup [.int t.2.1,.int t.2.2])) (hv : valV (kvsOf kls) (t.1.map Sum.inl) = some v) :
    ∃ l ys,v = .ref l∧upd H p (.lst []) l = some (.lst ys)∧ys.length≤ts.length∧GI H0 A (ts ++ [t]) (upd (upd H p (.lst [])) l (.lst (ys ++ [.ref F]))) kls := by
  rw [val_kls] at hv
  obtain ⟨q,h1,rfl⟩:=Option.map_eq_some_iff.mp hv
  have hq:=List.mem_of_find?_eq_some h1
  have hk : q.1 = t.1 := by simpa using List.find?_some h1
  obtain ⟨ys,hl,fs⟩:=g.grp q hq
  have npl : q.2≠p:=ne_of_none hl hp
  have hkey : t.1∈keysO ts := by rw [← g.keys,← hk]; exact List.mem_map.mpr ⟨q,hq,rfl⟩
  have e1:=same_new hp (.lst [])
  have hl1 : upd H p (.lst []) q.2 = some (.lst ys):=e1 _ _ hl
  have nlA : q.2≠A:=fun z => by rw [z,g.at_] at hl; cases hl
  refine ⟨q.2,ys,rfl,hl1,by rw [fs.1]; exact ofK_len _ _,?_⟩
  have tup : ∀ xs,upd H p (.lst []) q.2≠some (.tup xs):=fun xs z => by rw [hl1] at z; cases z
  have fsUp : ∀ {ps zs},Fs H ps zs→Fs (upd (upd H p (.lst [])) q.2 (.lst (ys ++ [.ref F]))) ps zs:=fun h => (h.but (fun xs z => by rw [hp] at z; cases z)).but tup
  refine ⟨?_,by rw [keysO_snoc,if_pos hkey]; exact g.keys,fun r hr => ?_,g.new,g.nd,fun b o z => ?_⟩
  · rw [upd_ne (Ne.symm nlA)]; exact e1 _ _ g.at_
  · obtain ⟨zs,hz,fz⟩:=g.grp r hr
    rw [ofK_snoc]
    by_cases e : r.2 = q.2
    · have er : r = q:=nd_inj g.nd hr hq e
      subst er
      rw [hl] at hz
      cases hz
      rw [if_pos hk.symm]
      exact ⟨_,by rw [upd_same],(fsUp fz).snoc (by rw [upd_ne (fun z => tup _ (z ▸ e1 _ _ hF))]; exact e1 _ _ hF)⟩
    · rw [if_neg fun z => e (congrArg Prod.snd (nd_inj (f:=Prod.fst) (by rw [g.keys]; exact keysO_nd ts) hr hq (z.symm.trans hk.symm)))]
      exact ⟨zs,by rw [upd_ne e]; exact e1 _ _ hz,fsUp fz⟩
  · rw [upd_ne (ne_of_none z (g.new q hq))]
    exact e1 _ _ (g.same _ _ z)
theorem GI.fresh {H0 H : Hp} {A p F : Addr} {ts : List T3} {kls : List (List Int×Addr)} {t : T3} (g : GI H0 A ts H kls) (hA : H0 A = none) (hp : H p = none) (hF : H F = some (.tup [.int t.2.1,.int t.2.2])) (hv : valV (kvsOf kls) (t.1.map Sum.inl) = none) :
    GI H0 A (ts ++ [t]) (upd (upd (upd H p (.lst [])) A (.dT (kvsOf kls ++ [(t.1.map Sum.inl,.ref p)]))) p (.lst ([] ++ [.ref F]))) (kls ++ [(t.1,p)]) := by
  rw [val_kls] at hv
  have hn : t.1 ∉ keysO ts:=fun z => by
    rw [← g.keys] at z
    obtain ⟨q,h1,h2⟩:=List.mem_map.mp z
    rw [Option.map_eq_none_iff,List.find?_eq_none] at hv
    exact hv q h1 (by simpa using h2)
  have npA : A≠p:=ne_of_none g.at_ hp
  have e1:=same_new hp (.lst [])
  have hA1:=e1 _ _ g.at_
  have tupA : ∀ xs,upd H p (.lst []) A≠some (.tup xs):=fun xs z => by rw [hA1] at z; cases z
  have tupP : ∀ xs,upd (upd H p (.lst [])) A (.dT (kvsOf kls ++ [(t.1.map Sum.inl,.ref p)])) p≠some (.tup xs):=fun xs z => by rw [upd_ne (Ne.symm npA),upd_same] at z; cases z
  have fsUp : ∀ {ps zs},Fs H ps zs→Fs (upd (upd (upd H p (.lst [])) A (.dT (kvsOf kls ++ [(t.1.map Sum.inl,.ref p)]))) p (.lst ([] ++ [.ref F]))) ps zs:=fun h => ((h.but (fun xs z => by rw [hp] at z; cases z)).but tupA).but tupP
  have hF3 : (upd (upd (upd H p (.lst [])) A (.dT (kvsOf kls ++ [(t.1.map Sum.inl,.ref p)]))) p (.lst ([] ++ [.ref F]))) F = some (.tup [.int t.2.1,.int t.2.2]) := by
    rw [upd_ne (fun z => by subst z; rw [hF] at hp; cases hp),upd_ne (fun z => tupA _ (z ▸ e1 _ _ hF))]; exact e1 _ _ hF
  refine ⟨?_,?_,fun r hr => ?_,fun r hr => ?_,?_,fun b o z => ?_⟩
  · rw [upd_ne npA,upd_same]; unfold kvsOf; rw [List.map_append]; rfl
  · rw [List.map_append,g.keys,keysO_snoc,if_neg hn]; rfl
  · rcases List.mem_append.mp hr with hr | hr
    · obtain ⟨zs,hz,fz⟩:=g.grp r hr
      have hr1 : r.1∈keysO ts := by rw [← g.keys]; exact List.mem_map.mpr ⟨r,hr,rfl⟩
      rw [ofK_snoc,if_neg fun e : t.1 = r.1 => hn (e ▸ hr1)]
      refine ⟨zs,?_,fsUp fz⟩
      rw [upd_ne (ne_of_none hz hp),upd_ne (fun e => by rw [e,g.at_] at hz; cases hz)]; exact e1 _ _ hz
    · rw [List.mem_singleton.mp hr]
      refine ⟨[] ++ [.ref F],upd_same,?_⟩
      rw [ofK_snoc,if_pos rfl,ofK_new hn]
      exact Fs.snoc (ps:=[]) (ys:=[]) ⟨rfl,fun j x p hx => by cases hx⟩ hF3
  · rcases List.mem_append.mp hr with hr | hr
    · exact g.new r hr
    · rw [List.mem_singleton.mp hr]; exact noneS g.same hp
  · rw [List.map_append,List.nodup_append]
    refine ⟨g.nd,by simp,fun a ha b hb e => ?_⟩
    obtain ⟨r,hr,rfl⟩:=List.mem_map.mp ha
    obtain ⟨zs,hz,_⟩:=g.grp r hr
    rw [List.map_cons,List.map_nil,List.mem_singleton] at hb
    rw [e,hb,hp] at hz
    cases hz
  · rw [upd_ne (ne_of_none z (noneS g.same hp)),upd_ne (ne_of_none z hA)]
    exact e1 _ _ (g.same _ _ z)
theorem szK {n : Nat} (h : n≤1000) : n < sizeLine:=Nat.lt_of_le_of_lt h (by decide)
theorem GI.but {H0 H H' : Hp} {A S : Addr} {ts : List T3} {kls : List (List Int×Addr)} (g : GI H0 A ts H kls) (e : SameBut S H H') (nA : A≠S) (nq : ∀ q∈kls,q.2≠S) (hS : ∀ xs,H S≠some (.tup xs)) (h0 : H0 S = none) : GI H0 A ts H' kls :=
  ⟨e _ _ nA g.at_,g.keys,fun q hq => let ⟨ys,h1,h2⟩:=g.grp q hq; ⟨ys,e _ _ (nq q hq) h1,h2.1,fun j x p hx hp => let ⟨c,a,b⟩:=h2.2 j x p hx hp; ⟨c,a,e _ _ (fun z => hS _ (z ▸ b)) b⟩⟩,g.new,g.nd,fun b o z => e _ _ (ne_of_none z h0) (g.same _ _ z)⟩
theorem GI.up {H0 H H' : Hp} {A : Addr} {ts : List T3} {kls : List (List Int×Addr)} (g : GI H0 A ts H kls) (e : Same H H') : GI H0 A ts H' kls :=
  ⟨e _ _ g.at_,g.keys,fun q hq => let ⟨ys,h1,h2⟩:=g.grp q hq; ⟨ys,e _ _ h1,h2.1,fun j x p hx hp => let ⟨c,a,b⟩:=h2.2 j x p hx hp; ⟨c,a,e _ _ b⟩⟩,g.new,g.nd,fun b o z => e _ _ (g.same _ _ z)⟩
def Tms (H : Hp) (ts : List T3) (xs : List V) : Prop:=xs.length = ts.length∧∀ (j : Nat) t,ts[j]? = some t→∃ c P F,xs[j]? = some (.ref c)∧H c = some (.tup [.ref P,.ref F])∧H P = some (.tup (t.1.map V.int))∧H F = some (.tup [.int t.2.1,.int t.2.2])
def mT3 (m : Mono) : T3:=(m.1,m.2.num,(m.2.den : Int))
theorem Tms.but {H H' : Hp} {ts : List T3} {xs : List V} {S : Addr} (h : Tms H ts xs) (e : SameBut S H H') (hS : ∀ xs,H S≠some (.tup xs)) : Tms H' ts xs:=⟨h.1,fun j t ht => let ⟨c,P,F,a,b,d,f⟩:=h.2 j t ht; ⟨c,P,F,a,e _ _ (fun z => hS _ (z ▸ b)) b,e _ _ (fun z => hS _ (z ▸ d)) d,e _ _ (fun z => hS _ (z ▸ f)) f⟩⟩
theorem Tms.same {H H' : Hp} {ts : List T3} {xs : List V} (h : Tms H ts xs) (e : Same H H') : Tms H' ts xs:=⟨h.1,fun j t ht => let ⟨c,P,F,a,b,d,f⟩:=h.2 j t ht; ⟨c,P,F,a,e _ _ b,e _ _ d,e _ _ f⟩⟩
theorem Tms.snoc {H : Hp} {ts : List T3} {xs : List V} {t : T3} {c P F : Addr} (h : Tms H ts xs) (b : H c = some (.tup [.ref P,.ref F])) (d : H P = some (.tup (t.1.map V.int))) (f : H F = some (.tup [.int t.2.1,.int t.2.2])) : Tms H (ts ++ [t]) (xs ++ [.ref c]) := by
  refine ⟨by rw [List.length_append,List.length_append,h.1]; rfl,fun j u hu => ?_⟩
  by_cases z : j < ts.length
  · rw [List.getElem?_append_left z] at hu
    rw [List.getElem?_append_left (by rw [h.1]; exact z)]
    exact h.2 j u hu
  · rw [List.getElem?_append_right (by lia)] at hu
    have:=(List.getElem?_eq_some_iff.mp hu).1
    rw [List.length_singleton] at this
    rw [show j - ts.length = 0 by lia] at hu
    cases hu
    exact ⟨c,P,F,by rw [List.getElem?_append_right (by rw [h.1]; lia),h.1,show j - ts.length = 0 by lia]; rfl,b,d,f⟩
def spGath : Sp:=fun vs H Q _ => ∃ (T : Addr) (xs : List V) (ts : List T3) (kt k : Nat),vs = [.ref T]∧H T = some (.lst xs)∧Tms H ts xs∧ts.length≤1000∧(∀ t∈ts,t.1≠[]∧1≤t.2.2∧t.2.1.natAbs < 2 ^ kt∧t.2.2.natAbs < 2 ^ k)∧k * ts.length≤4000∧kt≤100000 ∧
  ∀ D H' zs,Same H H'→H D = none→H' D = some (.lst zs)→Tms H' ((gath ts).map mT3) zs→Q (.ref D) H'
section
variable {P : Program} {w : World} {K : PySem.W.Frag} {mg : Str→Option Value} {base : Heap} {f g1 : Addr} {fd gd1 : FuncData}
theorem sc_gathered : FnScope ["terms", "alike", "powers", "part", "some", "total"] ["terms"] (defScope s_gathered):=⟨rfl,rfl,rfl,by decide +kernel,rfl,by decide +kernel,by decide +kernel⟩
theorem ok_gathered {k : Nat} (F : Fn K mg "gathered" s_gathered ["terms"] f fd) (T_frac_total : Fn K mg "frac_total" s_frac_total ["some"] g1 gd1) (G_frac_total : FnOk P w K mg base CX0 k g1 gd1 ["some"] spTotG) (z_sorted : mg "sorted" = none) : FnOk P w K mg base CX0 (k + 1) f fd ["terms"] spGath := by
  have sc:=sc_gathered
  refine F.F.ok (k:=k) sc (fun vs H Q E h => ?_) (fun cdv A outer s H vs Q E hr h => ?_)
  · obtain ⟨T,xs,ts,kt,kk,rfl,_⟩:=h
    rfl
  obtain ⟨T,xs,ts,kt,kk,rfl,hT,tm,h1000,hok,hk4,hkt,q⟩:=h
  refine ⟨_,(pss_cons (ps_set (i:=1) sc.nd rfl (Or.inl rfl) pe_dnewT)
    (pss_cons (ps_for PassesOwn.never rfl (pi_list (pv 0)) (pg_tup rfl (pgs_cons (pg_name (i:=2) sc.nd rfl (Or.inl rfl)) (pgs_cons (pg_name (i:=3) sc.nd rfl (Or.inl rfl)) pgs_nil)))
      (pss_one (ps_expr (pe_bm PySem.F.plainAttrs_list PySem.F.slot_list_append PySem.F.type_list_append mt_append (pe_setDef (by have:=hr.units; exact Nat.lt_of_le_of_lt (Nat.add_le_add_left (show 1≤64 by decide) _) this) (pv 1) (pv 2) (pe_lst pa_nil) ⟨rfl,rfl,rfl,rfl⟩) (pa_cons (pv 3) pa_nil)))))
    (pss_cons (ps_set (i:=4) sc.nd rfl (Or.inl rfl) (pe_lst pa_nil))
    (pss_cons (ps_for PassesOwn.never rfl (pi_list (pe_sortD (by have:=hr.units; exact this) rfl rfl z_sorted (pv 1))) (pg_name (i:=2) sc.nd rfl (Or.inl rfl))
      (pss_cons (ps_set (i:=5) sc.nd rfl (Or.inl rfl) (pe_fn T_frac_total G_frac_total hr rfl (pa_cons (pe_dget (by have:=hr.units; exact Nat.lt_of_le_of_lt (Nat.add_le_add_left (show 1≤64 by decide) _) this) (pv 1) (pv 2) (fun _ _ => rfl)) pa_nil)))
      (pss_one (ps_if (pt_cmpR op_ne (pe_ix ix_tup (pv 5) pe_int (fun _ _ => rfl)) pe_int (nomark _))
        (pss_one (ps_expr (pe_bm PySem.F.plainAttrs_list PySem.F.slot_list_append PySem.F.type_list_append mt_append (pv 4) (pa_cons (pe_tup (pa_cons (pv 2) (pa_cons (pv 5) pa_nil))) pa_nil))))
        pss_nil))))
    (pss_one (ps_ret (pv 4))))))),?_⟩
  refine fun A hA => ?_
  have e1:=same_new hA (.dT [])
  have g1 : GI H A [] (upd H A (.dT [])) []:=⟨upd_same,rfl,(fun _ z => (List.not_mem_nil z).elim),(fun _ z => (List.not_mem_nil z).elim),List.nodup_nil,e1⟩
  generalize upd H A (.dT []) = H1 at e1 g1
  refine ⟨_,rfl,T,rfl,⟨_,SqL.of (e1 _ _ hT)⟩,for_list (xs:=xs) (fun i σ H' => ∃ (r2 r3 : Option V) (kls : List (List Int×Addr)),σ = [some (.ref T),some (.ref A),r2,r3,none,none]∧GI H A (ts.take i) H' kls) ?_ ?_ ?_ ?_⟩
  · exact ⟨_,_,[],rfl,g1⟩
  · rintro i σ H' _ ⟨r2,r3,kls,rfl,g⟩
    exact SqL.of (g.same _ _ hT)
  · rintro i x σ H2 hx ⟨r2,r3,kls,rfl,g⟩
    have hi : i < ts.length := by rw [← tm.1]; exact (List.getElem?_eq_some_iff.mp hx).1
    have hti : ts[i]? = some ts[i] := by simp [hi]
    obtain ⟨c,Pw,Fr,q1,q2,q3,q4⟩:=tm.2 i _ hti
    have tk : ts.take (i + 1) = ts.take i ++ [ts[i]] := by rw [List.take_add_one,hti]; rfl
    rw [tk]
    generalize ts[i] = t at q3 q4
    rw [hx] at q1
    cases q1
    have hkl : kls.length≤i := by
      have:=congrArg List.length g.keys
      rw [List.length_map] at this
      have:=keysO_len (ts.take i)
      rw [List.length_take] at this
      lia
    refine ⟨c,_,rfl,SqT.of (g.same _ _ q2),rfl,_,_,rfl,_,_,rfl,rfl,?_⟩
    refine ⟨_,rfl,A,rfl,.inr ⟨_,.inl g.at_⟩,_,rfl,(by show 0≤sizeLine; decide),fun p hp => ?_⟩
    have nAp : A≠p:=ne_of_none g.at_ hp
    have e3:=same_new hp (.lst [])
    refine ⟨kvsOf kls,t.1.map Sum.inl,Pw,e3 _ _ g.at_,rfl,(by rw [List.map_map]; exact e3 _ _ (g.same _ _ q3)),(by rw [List.length_map]; exact szK (by lia)),fun v hv => ?_,fun hv => ?_⟩
    · obtain ⟨l,ys,rfl,hl,hyl,g'⟩:=g.old hA hp (g.same _ _ q4) hv
      refine ⟨.inl ⟨rfl,_,SqL.of hl⟩,_,rfl,l,ys,_,rfl,rfl,hl,szK (by rw [List.length_take] at hyl; lia),?_⟩
      exact ⟨_,_,kls,rfl,g'⟩
    · have g':=g.fresh hA hp (g.same _ _ q4) hv
      have hl : upd (upd H2 p (.lst [])) A (.dT (kvsOf kls ++ [(t.1.map Sum.inl,.ref p)])) p = some (.lst []) := by rw [upd_ne (Ne.symm nAp)]; exact upd_same
      refine ⟨.inl ⟨rfl,_,SqL.of hl⟩,_,rfl,p,[],_,rfl,rfl,hl,(by show 0 < sizeLine; decide),?_⟩
      exact ⟨_,_,_,rfl,g'⟩
  · rintro σ H2 ⟨r2,r3,kls,rfl,g⟩
    rw [tm.1,List.take_length] at g
    refine ⟨(by show 0≤sizeLine; decide),fun S hS => ?_⟩
    have e3:=same_new hS (.lst [])
    have hS3 : upd H2 S (.lst []) S = some (.lst []):=upd_same
    have g3:=g.up e3
    have nAS : A≠S:=ne_of_none g.at_ hS
    have nqS : ∀ q∈kls,q.2≠S:=fun q hq => let ⟨ys,h1,_⟩:=g.grp q hq; ne_of_none h1 hS
    have hS0 : H S = none:=noneS g.same hS
    generalize upd H2 S (.lst []) = H3 at e3 hS3 g3
    have hkl : kls.length = (keysO ts).length := by rw [← g.keys,List.length_map]
    refine ⟨_,rfl,A,kvsOf kls,keysO ts,rfl,g3.at_,(by have:=keysO_len ts; rw [List.length_map]; lia),fun prog w => GS.runs_any,fun p hp => ?_,(by rw [List.map_map,← g.keys,List.map_map]; rfl),fun D L hD perm pw hL => ?_⟩
    · obtain ⟨t,ht,rfl⟩:=keysO_mem ts hp
      exact (hok t ht).1
    have e4:=same_new hD (.lst (L.map fun l => V.ref l.2))
    have hD4 : upd H3 D (.lst (L.map fun l => V.ref l.2)) D = some (.lst (L.map fun l => V.ref l.2)):=upd_same
    have g4:=g3.up e4
    have hS4:=e4 _ _ hS3
    have nDS : D≠S:=(ne_of_none hS3 hD).symm
    have hL4 : ∀ l∈L,upd H3 D (.lst (L.map fun l => V.ref l.2)) l.2 = some (.tup (l.1.map V.int)):=fun l hl => e4 _ _ (hL l hl)
    have hLk : L.map (·.1) = gathK ts:=gathK_of perm (List.pairwise_map.mpr pw)
    generalize upd H3 D (.lst (L.map fun l => V.ref l.2)) = H4 at e4 hD4 g4 hS4 hL4
    refine ⟨D,rfl,⟨_,SqL.of hD4⟩,for_list (xs:=L.map fun l => V.ref l.2) (fun i σ H' => ∃ (r2 r5 : Option V) (zs : List V),σ = [some (.ref T),some (.ref A),r2,r3,some (.ref S),r5]∧SameBut S H4 H'∧GI H A ts H' kls∧H' S = some (.lst zs)∧zs.length≤i∧Tms H' ((((gathK ts).take i).filterMap (gathO ts)).map mT3) zs) ?_ ?_ ?_ ?_⟩
    · exact ⟨_,_,[],rfl,fun _ _ _ z => z,g4,hS4,Nat.le_refl _,rfl,fun j t ht => by cases ht⟩
    · rintro i σ H' _ ⟨r2,r5,zs,rfl,e,_⟩
      exact SqL.of (e _ _ nDS hD4)
    · rintro i x σ H5 hx ⟨r2,r5,zs,rfl,e5,g5,hS5,hzl,tz⟩
      rw [List.getElem?_map] at hx
      obtain ⟨l,hl,rfl⟩:=Option.map_eq_some_iff.mp hx
      have hi : i < L.length:=(List.getElem?_eq_some_iff.mp hl).1
      have hLm:=List.mem_of_getElem? hl
      have hki : (gathK ts)[i]? = some l.1 := by rw [← hLk,List.getElem?_map,hl]; rfl
      have tk : (gathK ts).take (i + 1) = (gathK ts).take i ++ [l.1] := by rw [List.take_add_one,hki]; rfl
      have hP5:=e5 _ _ (fun z => by rw [← z,hL4 l hLm] at hS4; cases hS4) (hL4 l hLm)
      have hmem : l.1∈kls.map (·.1) := by
        rw [g.keys]
        have : l.1∈L.map (·.1):=List.mem_map.mpr ⟨l,hLm,rfl⟩
        exact perm.mem_iff.mp this
      obtain ⟨kq,hkq,hkq1⟩:=List.mem_map.mp hmem
      obtain ⟨ys,hy,fs⟩:=g5.grp kq hkq
      have hval : valV (kvsOf kls) (l.1.map Sum.inl) = some (.ref kq.2) := by
        rw [val_kls]
        cases hf : kls.find? fun q => decide (q.1 = l.1) with
        | none =>
          rw [List.find?_eq_none] at hf
          exact absurd (by simpa using hkq1) (hf kq hkq)
        | some r =>
          have:=nd_inj (f:=Prod.fst) (by rw [g.keys]; exact keysO_nd ts) (List.mem_of_find?_eq_some hf) hkq ((show r.1 = l.1 by simpa using List.find?_some hf).trans hkq1.symm)
          rw [this]; rfl
      have hget : DGet H5 A (.ref l.2) (some (.ref kq.2)) := by
        have:=DGet.t (k:=l.1.map Sum.inl) (b:=l.2) g5.at_ (by rw [List.map_map]; exact hP5)
        rw [hval] at this; exact this
      rw [tk,List.filterMap_append,List.map_append]
      rw [hkq1] at fs
      refine ⟨_,rfl,_,rfl,A,.ref kq.2,rfl,hget,kq.2,ys,ofK l.1 ts,kt,kk,rfl,hy,fs.1,Nat.le_trans (ofK_len _ _) h1000,fs.2,fun p hp => ?_,Nat.le_trans (Nat.mul_le_mul_left _ (ofK_len _ _)) hk4,hkt,fun Fo H6 e6 hFo => ?_⟩
      · obtain ⟨t,ht,rfl⟩:=ofK_mem hp
        exact (hok t ht).2
      have hFo : H6 Fo = some (.tup (ratV (sumK ts l.1))):=hFo
      have g6:=g5.up e6
      have tz6:=tz.same e6
      have hS6:=e6 _ _ hS5
      have hP6:=e6 _ _ hP5
      have sb6 : SameBut S H4 H6:=e5.trans (.of e6)
      refine ⟨_,rfl,_,_,_,_,rfl,rfl,SqT.of hFo,rfl,rfl,_,rfl,ite2 (fun cc => ?_) (fun cc => ?_)⟩
      · have hne : sumK ts l.1≠0:=fun z => by
          rw [z] at cc
          simp at cc
        have hgo : gathO ts l.1 = some (l.1,sumK ts l.1):=if_neg hne
        rw [List.filterMap_cons,hgo]
        refine ⟨_,rfl,.inl ⟨rfl,_,SqL.of hS6⟩,_,rfl,_,rfl,(by show 2≤sizeLine; decide),fun c hc => ?_⟩
        have e7:=same_new hc (.tup [.ref l.2,.ref Fo])
        have hc7 : upd H6 c (.tup [.ref l.2,.ref Fo]) c = some (.tup [.ref l.2,.ref Fo]):=upd_same
        generalize upd H6 c (.tup [.ref l.2,.ref Fo]) = H7 at e7 hc7
        have hS7:=e7 _ _ hS6
        refine ⟨S,zs,_,rfl,rfl,hS7,szK (by have : L.length≤1000:=(by have:=perm.length_eq; have:=keysO_len ts; rw [List.length_map] at *; lia); lia),?_⟩
        have hSt : ∀ xs,H7 S≠some (.tup xs):=fun xs z => by rw [hS7] at z; cases z
        refine ⟨_,_,zs ++ [.ref c],rfl,sb6.trans ((SameBut.of e7).trans .upd),(g6.up e7).but .upd nAS nqS hSt hS0,upd_same,by rw [List.length_append]; exact Nat.add_le_add_right hzl 1,?_⟩
        exact ((tz6.same e7).snoc (t:=mT3 (l.1,sumK ts l.1)) hc7 (e7 _ _ hP6) (e7 _ _ hFo)).but .upd hSt
      · have hz : sumK ts l.1 = 0 := by
          refine Rat.num_eq_zero.mp (Decidable.byContradiction fun z => cc ?_)
          simpa using z
        have hgo : gathO ts l.1 = none:=if_pos hz
        rw [List.filterMap_cons,hgo]
        refine ⟨_,_,zs,rfl,sb6,g6,hS6,by lia,?_⟩
        rw [show List.filterMap (gathO ts) [] = [] from rfl,List.map_nil,List.append_nil]
        exact tz6
    · rintro σ H5 ⟨r2,r5,zs,rfl,e5,g5,hS5,hzl,tz⟩
      have hll : (L.map fun l => V.ref l.2).length = (gathK ts).length := by rw [← hLk,List.length_map,List.length_map]
      rw [hll,List.take_length] at tz
      exact ⟨_,rfl,q S H5 zs g5.same hS0 hS5 tz⟩
end
mutual
theorem dt_Du {l : Addr} {H : Hp} : ∀ {d : PyData} {v : V},Dt l H d v→Du H d v
  | .none,_,h => by rw [Dt] at h; rw [Du]; exact h
  | .bool _,_,h => by rw [Dt] at h; rw [Du]; exact h
  | .int _,_,h => by rw [Dt] at h; rw [Du]; exact h
  | .str _,_,h => by rw [Dt] at h; rw [Du]; exact h
  | .tuple _,_,h => by
    rw [Dt] at h; rw [Du]
    obtain ⟨a,xs,rfl,n,h1,h2⟩:=h
    exact ⟨a,xs,rfl,h1,dtA_DuA h2⟩
  | .list _,_,h => by
    rw [Dt] at h; rw [Du]
    obtain ⟨a,xs,rfl,n,h1,h2⟩:=h
    exact ⟨a,xs,rfl,h1,dtA_DuA h2⟩
  | .dict _,_,h => by rw [Dt] at h; exact h.elim
theorem dtA_DuA {l : Addr} {H : Hp} : ∀ {ds : List PyData} {xs : List V},DtAll l H ds xs→DuA H ds xs
  | [],_,h => by rw [DtAll] at h; subst h; exact .nil
  | _ :: _,_,h => by
    rw [DtAll] at h
    obtain ⟨x,r,rfl,h1,h2⟩:=h
    exact .cons (dt_Du h1) (dtA_DuA h2)
end
open Classical in
def t3D (t : T3) : PyData:=.tuple [.tuple (t.1.map .int),.tuple [.int t.2.1,.int t.2.2]]
theorem t3_du {G : Hp} {t : T3} {v : V} (h : Du G (t3D t) v) : ∃ c P F,v = .ref c∧G c = some (.tup [.ref P,.ref F])∧G P = some (.tup (t.1.map V.int))∧G F = some (.tup [.int t.2.1,.int t.2.2]) := by
  unfold t3D at h
  rw [Du] at h
  obtain ⟨c,xs,rfl,hc,d⟩:=h
  obtain ⟨x,y,rfl,d1,d2⟩:=d.un2
  rw [Du] at d1 d2
  obtain ⟨P,ps,rfl,hP,dp⟩:=d1
  obtain ⟨F,fs,rfl,hF,df⟩:=d2
  obtain ⟨u,v,rfl,e1,e2⟩:=df.un2
  rw [Du] at e1 e2
  subst e1 e2
  refine ⟨c,P,F,rfl,hc,?_,hF⟩
  have : ∀ {is : List Int} {us : List V},DuA G (is.map .int) us→us = is.map V.int:=fun {is} => by
    induction is with
    | nil => intro us h; exact h.nil_eq
    | cons i is ih =>
      intro us h
      obtain ⟨x,r,rfl,m1,m2⟩:=h.un
      rw [Du] at m1
      subst m1
      rw [ih m2]; rfl
  rw [← this dp]; exact hP
theorem tms_du {G : Hp} : ∀ {ts : List T3} {xs : List V},DuA G (ts.map t3D) xs→Tms G ts xs
  | [],xs,h => by rw [h.nil_eq]; exact ⟨rfl,fun j t ht => by cases ht⟩
  | t :: ts,xs,h => by
    obtain ⟨x,r,rfl,h1,h2⟩:=h.un
    obtain ⟨c,P,F,rfl,a,b,d⟩:=t3_du h1
    have ih:=tms_du h2
    refine ⟨congrArg (· + 1) ih.1,fun j u hu => ?_⟩
    cases j with
    | zero => cases hu; exact ⟨c,P,F,rfl,a,b,d⟩
    | succ j => exact ih.2 j u hu
def tmT (t : T3) : IT.Tm:=(t.1,[t.2.1,t.2.2])
def nz (t : T3) : Bool:=decide (t.2.1≠0)
def spLG : Sp:=fun vs H Q _ => ∃ (A : Addr) (kls : List (List Int×Addr)) (ts : List T3),vs = [.ref A]∧H A = some (.dT (kvsOf kls))∧ts.length = kls.length∧ts.length≤1000 ∧
  (∀ (j : Nat) q t,kls[j]? = some q→ts[j]? = some t→q.1 = t.1∧H q.2 = some (.tup [.int t.2.1,.int t.2.2])) ∧
  ∀ D H' zs us,Same H H'→H D = none→H' D = some (.lst zs)→us.Perm (ts.filter nz)→(us.map tmT).Pairwise (fun x y => IT.ordT.kle y x)→Tms H' us zs→Q (.ref D) H'
section
variable {P : Program} {w : World} {K : PySem.W.Frag} {mg : Str→Option Value} {base : Heap} {f : Addr} {fd : FuncData}
theorem sc__law_gathered : FnScope ["_law_counts"] ["_law_counts"] (defScope s__law_gathered):=⟨rfl,rfl,rfl,by decide +kernel,rfl,by decide +kernel,by decide +kernel⟩
theorem ok__law_gathered {k : Nat} (F : Fn K mg "_law_gathered" s__law_gathered ["_law_counts"] f fd) (z_sorted : mg "sorted" = none) : FnOk P w K mg base CX0 (k + 1) f fd ["_law_counts"] spLG := by
  have sc:=sc__law_gathered
  refine F.F.ok (k:=k) sc (fun vs H Q E h => ?_) (fun cdv A outer s H vs Q E hr h => ?_)
  · obtain ⟨A,kls,ts,rfl,_⟩:=h
    rfl
  obtain ⟨A,kls,ts,rfl,hA,hl,h1000,hk,q⟩:=h
  refine ⟨_,(pss_one (ps_ret (pe_sortTmA (by have:=hr.units; exact this) rfl z_sorted (pa_cons (pe_hold (pe_compr2 [".0", "_law_powers", "_law_part_here"] 1 2 [none,none,none] (pi_items (pv 0)) (fun _ _ _ _ _ => (pif_one (pt_cmpR op_ne (pe_ix ix_tupC (pv 2) pe_int (fun _ _ => rfl)) pe_int (nomark _)))) (fun _ _ _ _ _ => (pe_tup (pa_cons (pv 1) (pa_cons (pv 2) pa_nil)))))) pa_nil)))),?_⟩
  refine ⟨A,_,hA,fun o => ⟨_,rfl,A,o,_,rfl,upd_same,fun D hD => ?_⟩⟩
  have nAD : A≠D:=ne_of_none upd_same hD
  have hD0 : H D = none := by rw [upd_ne (Ne.symm nAD)] at hD; exact hD
  have eH : ∀ b u,b≠A→H b = some u→upd H A (.frz o (.dT (kvsOf kls))) b = some u:=fun b u n z => by rw [upd_ne n]; exact z
  refine comp_by2 (n:=ts.length) (fun i ys H' => SameBut D (upd H A (.frz o (.dT (kvsOf kls)))) H'∧Tms H' ((ts.take i).filter nz) ys∧ys.length≤i) ?_ ?_ ?_
  · exact ⟨.upd,⟨rfl,fun j t ht => by cases ht⟩,Nat.le_refl _⟩
  · rintro i ys H2 hi ⟨e2,tm2,hyl⟩ hD2
    have hA2:=e2 _ _ nAD upd_same
    obtain ⟨t,ht⟩ : ∃ t,ts[i]? = some t:=⟨ts[i],by simp [hi]⟩
    obtain ⟨r,hr'⟩ : ∃ r,kls[i]? = some r:=⟨kls[i]'(by lia),by simp⟩
    obtain ⟨k1,k2⟩:=hk i r t hr' ht
    have hkv : (kvsOf kls)[i]? = some (r.1.map Sum.inl,.ref r.2) := by unfold kvsOf; rw [List.getElem?_map,hr']; rfl
    have nr : r.2≠A:=fun z => by rw [z,hA] at k2; cases k2
    have k3:=e2 _ _ (fun z => by rw [z,hD0] at k2; cases k2) (eH _ _ nr k2)
    refine ⟨⟨_,_,hA2,hkv⟩,szK (by lia),?_⟩
    rintro x H3 ⟨p,b,kk,x2,rfl,hp,rfl,hb,hkk⟩
    have:=hkk _ hA2
    rw [hkv] at this
    cases this
    have e3:=same_new hp (.tup [.ref b,.ref r.2])
    have hp3 : upd H2 p (.tup [.ref b,.ref r.2]) p = some (.tup [.ref b,.ref r.2]):=upd_same
    generalize upd H2 p (.tup [.ref b,.ref r.2]) = H3 at e3 hp3
    have hb3:=e3 _ _ hb
    have k4:=e3 _ _ k3
    have hD3:=e3 _ _ hD2
    have tk : ts.take (i + 1) = ts.take i ++ [t] := by rw [List.take_add_one,ht]; rfl
    refine ⟨p,_,_,rfl,SqT.of hp3,?_⟩
    refine ⟨_,rfl,_,_,_,_,rfl,rfl,SqT.of k4,rfl,rfl,_,rfl,ite2 (fun cc => ?_) (fun cc => ?_)⟩
    · have hn : nz t = true := by
        have : ¬ (V.int t.2.1 = V.int 0) := by simpa using cc
        exact decide_eq_true fun z => this (by rw [z])
      refine ⟨_,rfl,_,rfl,(by show 2≤sizeLine; decide),fun c hc => ?_⟩
      have e4:=same_new hc (.tup [.ref b,.ref r.2])
      have hc4 : upd H3 c (.tup [.ref b,.ref r.2]) c = some (.tup [.ref b,.ref r.2]):=upd_same
      have hD4:=e4 _ _ hD3
      refine ⟨hD4,ts.length - (i + 1),by lia,rfl,by lia,upd_same,?_⟩
      generalize upd H3 c (.tup [.ref b,.ref r.2]) = H4 at e4 hc4 hD4
      have hSt : ∀ xs,H4 D≠some (.tup xs):=fun xs z => by rw [hD4] at z; cases z
      refine ⟨e2.trans ((SameBut.of (e3.trans e4)).trans .upd),?_,by rw [List.length_append]; exact Nat.add_le_add_right hyl 1⟩
      rw [tk,List.filter_append,List.filter_cons_of_pos hn,List.filter_nil]
      refine ((tm2.same (e3.trans e4)).snoc (t:=t) hc4 ?_ (e4 _ _ k4)).but .upd hSt
      have hb4:=e4 _ _ hb3
      rw [map_kV,k1] at hb4
      exact hb4
    · have hn : ¬ nz t = true:=fun z => by
        have : t.2.1≠0:=of_decide_eq_true z
        exact cc (by simp [this])
      refine ⟨ts.length - (i + 1),by lia,rfl,by lia,hD3,e2.trans (.of e3),?_,by lia⟩
      rw [tk,List.filter_append,List.filter_cons_of_neg hn,List.filter_nil,List.append_nil]
      exact tm2.same e3
  · rintro ys H2 ⟨e2,tm2,hyl⟩ hD2
    have hA2:=e2 _ _ nAD upd_same
    refine ⟨⟨_,hA2,by unfold kvsOf; rw [List.length_map,hl]⟩,hA2,?_⟩
    rw [List.take_length] at tm2
    have tm3 : Tms (upd H2 A (.dT (kvsOf kls))) (ts.filter nz) ys:=tm2.but .upd fun xs z => by rw [hA2] at z; cases z
    have hD3 : upd H2 A (.dT (kvsOf kls)) D = some (.lst ys) := by rw [upd_ne (Ne.symm nAD)]; exact hD2
    have sm : Same H (upd H2 A (.dT (kvsOf kls))):=fun b u z => by
      by_cases y : b = A
      · subst y; rw [upd_same,← z]; exact hA.symm
      · rw [upd_ne y]; exact e2 _ _ (ne_of_none z hD0) (eH b u y z)
    generalize upd H2 A (.dT (kvsOf kls)) = H3 at tm3 hD3 sm
    have hfl : (ts.filter nz).length≤ts.length:=List.length_filter_le _ _
    generalize ts.filter nz = fs at tm3 hfl q
    refine ⟨D,ys,fs.map tmT,rfl,hD3,by rw [tm3.1]; lia,by rw [List.length_map,tm3.1],fun j y t hy ht => ?_,fun D' ix hD' pm pw => ?_⟩
    · rw [List.getElem?_map] at ht
      obtain ⟨u,hu,rfl⟩:=Option.map_eq_some_iff.mp ht
      obtain ⟨c,p,F,a1,a2,a3,a4⟩:=tm3.2 j u hu
      rw [hy] at a1
      cases a1
      exact ⟨c,p,F,rfl,a2,a3,a4⟩
    · have hix : ∀ i∈ix,i < fs.length:=fun i hi => by rw [← tm3.1]; exact List.mem_range.mp (pm.mem_iff.mp hi)
      have e4:=same_new hD' (.lst (ix.map fun i => ys.getD i .non))
      refine q D' _ _ (ix.map fun i => fs.getD i ([],0,0)) (sm.trans e4) (noneS sm hD') upd_same (perm_getD _ fs (by rw [← tm3.1]; exact pm)) ?_ ⟨by rw [List.length_map,List.length_map],fun j u hu => ?_⟩
      · rw [List.map_map]
        have e5 : (ix.map fun i => (fs.map tmT).getD i ([],[])) = ix.map (tmT ∘ fun i => fs.getD i ([],0,0)):=List.map_congr_left fun i hi => by
          have:=hix i hi
          simp [this]
        rw [← e5]; exact pw
      · rw [List.getElem?_map] at hu
        obtain ⟨i,hi,rfl⟩:=Option.map_eq_some_iff.mp hu
        have hil:=hix i (List.mem_of_getElem? hi)
        obtain ⟨c,p,F,a1,a2,a3,a4⟩:=tm3.2 i (fs.getD i ([],0,0)) (by simp [hil])
        exact ⟨c,p,F,by rw [List.getElem?_map,hi,Option.map_some,List.getD_eq_getElem?_getD,a1]; rfl,e4 _ _ a2,e4 _ _ a3,e4 _ _ a4⟩
end
def dicL (ts : List T3) : List T3:=(keysO ts).map fun k => mT3 (k,sumK ts k)
theorem tmT_inj {a b : T3} (h : tmT a = tmT b) : a = b := by
  obtain ⟨a1,a2,a3⟩:=a
  obtain ⟨b1,b2,b3⟩ := b
  unfold tmT at h
  injection h with h1 h2
  injection h2 with h2 h3
  injection h3 with h3
  simp only at h1 h2 h3
  rw [h1,h2,h3]
theorem nz_m {k : List Int} {r : Rat} : nz (mT3 (k,r)) = decide (r≠0) := by
  unfold nz mT3
  simp only [ne_eq,Rat.num_eq_zero]
theorem gath_m (ts : List T3) : (gath ts).map mT3 = ((gathK ts).map fun k => mT3 (k,sumK ts k)).filter nz := by
  unfold gath
  generalize gathK ts = l
  induction l with
  | nil => rfl
  | cons k l ih =>
    rw [List.filterMap_cons,List.map_cons]
    by_cases z : sumK ts k = 0
    · rw [show gathO ts k = none from if_pos z,List.filter_cons_of_neg (by rw [nz_m]; simp [z])]
      exact ih
    · rw [show gathO ts k = some (k,sumK ts k) from if_neg z,List.filter_cons_of_pos (by rw [nz_m]; simp [z]),List.map_cons,ih]
theorem gathK_perm (ts : List T3) : (gathK ts).Perm (keysO ts):=List.mergeSort_perm _ _
theorem ordT_key {a b : T3} (h : IT.lt b.1 a.1 = true) : IT.ordT.kle (tmT b) (tmT a) := by
  show IT.ltT (tmT a) (tmT b) = false
  unfold IT.ltT tmT
  dsimp only
  rw [if_neg (fun e => by rw [e,IT.lt_irrefl] at h; cases h)]
  cases k : IT.lt a.1 b.1 with
  | false => rfl
  | true => have:=IT.lt_trans _ _ _ h k; rw [IT.lt_irrefl] at this; cases this
theorem gath_is {ts us : List T3} (p : us.Perm ((dicL ts).filter nz)) (s : (us.map tmT).Pairwise fun x y => IT.ordT.kle y x) : us = (gath ts).map mT3 := by
  have e : ((gath ts).map mT3).Perm ((dicL ts).filter nz) := by
    rw [gath_m]
    exact ((gathK_perm ts).map _).filter _
  refine List.Perm.eq_of_pairwise (le:=fun a b => IT.ordT.kle (tmT b) (tmT a)) (fun a b _ _ h1 h2 => tmT_inj (PyProof.Rows.KeyOrd.kle_antisymm (O:=IT.ordT) h2 h1)) (List.pairwise_map.mp s) ?_ (p.trans e.symm)
  rw [gath_m]
  refine List.Pairwise.filter _ (List.pairwise_map.mpr ?_)
  have nd : (gathK ts).Nodup:=(gathK_perm ts).nodup_iff.mpr (keysO_nd ts)
  have so : (gathK ts).Pairwise fun a b => desc a b = true:=List.pairwise_mergeSort (le:=desc) (fun a b c h1 h2 => ?_) (fun a b => ?_) (keysO ts)
  · refine (so.and nd).imp fun h => ordT_key ?_
    obtain ⟨h1,h2⟩:=h
    rename_i a b
    show IT.lt b a = true
    cases k : IT.lt b a with
    | true => rfl
    | false =>
      have : IT.lt a b = false := by simpa [desc] using h1
      exact absurd (IT.lt_total _ _ this k) h2
  · have h1 : IT.ord.kle b a := by show IT.lt a b = false; simpa [desc] using h1
    have h2 : IT.ord.kle c b := by show IT.lt b c = false; simpa [desc] using h2
    have h3 : IT.lt a c = false:=PyProof.Rows.KeyOrd.kle_trans (O:=IT.ord) h2 h1
    simp [desc,h3]
  · unfold desc
    cases h : IT.lt a b with
    | false => rfl
    | true =>
      cases h2 : IT.lt b a with
      | false => rfl
      | true => have:=IT.lt_trans a b a h h2; rw [IT.lt_irrefl] at this; cases this
theorem sumK_snoc (ts : List T3) (t : T3) (k : List Int) : sumK (ts ++ [t]) k = if t.1 = k then sumK ts k + Rat.divInt t.2.1 t.2.2 else sumK ts k := by
  unfold sumK
  rw [ofK_snoc]
  split
  · rw [List.map_append,List.sum_append]
    simp [Rat.add_zero]
  · rfl
structure LD (H0 : Hp) (A : Addr) (ts : List T3) (H : Hp) (kls : List (List Int×Addr)) : Prop where
  at_ : H A = some (.dT (kvsOf kls))
  keys : kls.map (·.1) = keysO ts
  val : ∀ q∈kls,H q.2 = some (.tup (ratV (sumK ts q.1)))
  same : Same H0 H
section
variable {H0 H H' : Hp} {A F : Addr} {ts : List T3} {t : T3} {kls : List (List Int×Addr)}
theorem LD.up (g : LD H0 A ts H kls) (e : Same H H') : LD H0 A ts H' kls:=⟨e _ _ g.at_,g.keys,fun q hq => e _ _ (g.val q hq),g.same.trans e⟩
theorem LD.get (g : LD H0 A ts H kls) (k : List Int) : (∃ c,valV (kvsOf kls) (k.map Sum.inl) = some (.ref c)∧H c = some (.tup (ratV (sumK ts k))))∨(valV (kvsOf kls) (k.map Sum.inl) = none∧sumK ts k = 0) := by
  rw [val_kls]
  cases hf : kls.find? fun q => decide (q.1 = k) with
  | some q =>
    have hq:=List.mem_of_find?_eq_some hf
    have e : q.1 = k := by simpa using List.find?_some hf
    exact .inl ⟨q.2,rfl,by rw [← e]; exact g.val q hq⟩
  | none =>
    refine .inr ⟨rfl,?_⟩
    have : k ∉ keysO ts:=fun z => by
      rw [← g.keys] at z
      obtain ⟨q,h1,h2⟩:=List.mem_map.mp z
      rw [List.find?_eq_none] at hf
      exact hf q h1 (by simpa using h2)
    unfold sumK
    rw [ofK_new this]; rfl
theorem any_kls {k : List Int} : ((kvsOf kls).any fun kv => decide (kv.1 = k.map Sum.inl)) = true ↔ k∈kls.map (·.1) := by
  rw [List.any_eq_true]
  constructor
  · rintro ⟨x,hx,e⟩
    obtain ⟨q,hq,rfl⟩:=List.mem_map.mp hx
    exact List.mem_map.mpr ⟨q,hq,inl_inj.mp (of_decide_eq_true e)⟩
  · intro h
    obtain ⟨q,hq,rfl⟩:=List.mem_map.mp h
    exact ⟨_,List.mem_map.mpr ⟨q,hq,rfl⟩,decide_eq_true rfl⟩
theorem LD.put (g : LD H0 A ts H kls) (hA : H0 A = none) (hF : H F = some (.tup (ratV (sumK ts t.1 + Rat.divInt t.2.1 t.2.2)))) :
    ∃ kls',LD H0 A (ts ++ [t]) (upd H A (.dT (putK (kvsOf kls) (t.1.map Sum.inl) (.ref F)))) kls' := by
  have tup : ∀ {b : Addr} {xs : List V},H b = some (.tup xs)→upd H A (.dT (putK (kvsOf kls) (t.1.map Sum.inl) (.ref F))) b = some (.tup xs):=fun {b xs} hb => by
    rw [upd_ne (fun z => by rw [z,g.at_] at hb; cases hb)]; exact hb
  have sm : Same H0 (upd H A (.dT (putK (kvsOf kls) (t.1.map Sum.inl) (.ref F)))):=fun b u z => by
    rw [upd_ne (ne_of_none z hA)]; exact g.same _ _ z
  have hF':=tup hF
  by_cases hm : t.1∈keysO ts
  · have ha:=any_kls.mpr (show t.1∈kls.map (·.1) by rw [g.keys]; exact hm)
    refine ⟨kls.map fun q => if q.1 = t.1 then (q.1,F) else q,?_,?_,fun q hq => ?_,sm⟩
    · rw [upd_same]
      unfold putK
      rw [if_pos ha]
      unfold kvsOf
      rw [List.map_map,List.map_map]
      congr 2
      refine List.map_congr_left fun q _ => ?_
      show (if q.1.map Sum.inl = t.1.map Sum.inl then _ else _) = _
      by_cases z : q.1 = t.1
      · rw [if_pos (inl_inj.mpr z)]; simp [z]
      · rw [if_neg (fun e => z (inl_inj.mp e))]; simp [z]
    · rw [List.map_map,keysO_snoc,if_pos hm,← g.keys]
      refine List.map_congr_left fun q _ => ?_
      show (if q.1 = t.1 then (q.1,F) else q).1 = q.1
      split <;> rfl
    · obtain ⟨r,hr,rfl⟩:=List.mem_map.mp hq
      rw [sumK_snoc]
      by_cases z : r.1 = t.1
      · rw [if_pos z,if_pos z.symm,z]; exact hF'
      · rw [if_neg z,if_neg (Ne.symm z)]; exact tup (g.val r hr)
  · have ha : ¬ ((kvsOf kls).any fun kv => decide (kv.1 = t.1.map Sum.inl)) = true:=fun z => hm (by rw [← g.keys]; exact any_kls.mp z)
    refine ⟨kls ++ [(t.1,F)],?_,?_,fun q hq => ?_,sm⟩
    · rw [upd_same]
      unfold putK
      rw [if_neg ha]
      unfold kvsOf
      rw [List.map_append]; rfl
    · rw [List.map_append,g.keys,keysO_snoc,if_neg hm]; rfl
    · rw [sumK_snoc]
      rcases List.mem_append.mp hq with hq | hq
      · have hk : q.1∈keysO ts := by rw [← g.keys]; exact List.mem_map.mpr ⟨q,hq,rfl⟩
        rw [if_neg (fun z : t.1 = q.1 => hm (by rw [z]; exact hk))]
        exact tup (g.val q hq)
      · rw [List.mem_singleton.mp hq,if_pos rfl]; exact hF'
end
section
variable {P : Program} {w : World} {K : PySem.W.Frag} {mg : Str→Option Value} {base : Heap} {f g : Addr} {fd gd : FuncData}
theorem sc__law_plus : FnScope ["_law_one", "_law_other"] ["_law_one", "_law_other"] (defScope s__law_plus):=⟨rfl,rfl,rfl,by decide +kernel,rfl,by decide +kernel,by decide +kernel⟩
theorem ok__law_plus (F : Fn K mg "_law_plus" s__law_plus ["_law_one", "_law_other"] f fd) (T__law_frac : Fn K mg "_law_frac" s__law_frac ["_law_top", "_law_bottom"] g gd)
    (G__law_frac : FnOk P w K mg base CX0 2 g gd ["_law_top", "_law_bottom"] spFr) : FnOk P w K mg base CX0 3 f fd ["_law_one", "_law_other"] (spOp K (fun p q => p + q) (fun _ => True)) := by
  have sc:=sc__law_plus
  refine F.F.ok (k:=2) sc (fun vs H Q E h => ?_) (fun cdv A outer s H vs Q E hr h => ?_)
  · obtain ⟨v,w,p,q,n,rfl,_⟩:=h
    rfl
  obtain ⟨v,w,p,q,n,rfl,⟨a,rfl,sp⟩,⟨b,rfl,sq⟩,hp,hq,hn,hok,k⟩:=h
  refine ⟨_,(pss_one (ps_ret (pe_fn T__law_frac G__law_frac hr rfl (pa_cons (pe_op op_add (pe_op op_mulW (pe_ix ix_tup (pv 0) pe_int (fun _ _ => rfl)) (pe_ix ix_tup (pv 1) pe_int (fun _ _ => rfl))) (pe_op op_mulW (pe_ix ix_tup (pv 1) pe_int (fun _ _ => rfl)) (pe_ix ix_tup (pv 0) pe_int (fun _ _ => rfl)))) (pa_cons (pe_op op_mulW (pe_ix ix_tup (pv 0) pe_int (fun _ _ => rfl)) (pe_ix ix_tup (pv 1) pe_int (fun _ _ => rfl))) pa_nil))))),?_⟩
  refine ⟨_,rfl,_,_,_,_,rfl,rfl,sp,rfl,_,rfl,_,_,_,_,rfl,rfl,sq,rfl,_,_,rfl,rfl,mulW hp.1 hq.d (by lia),_,rfl,_,_,_,_,rfl,rfl,sq,rfl,_,rfl,_,_,_,_,rfl,rfl,sp,rfl,_,_,rfl,rfl,mulW hq.1 hp.d (by lia),_,_,rfl,rfl,_,rfl,_,_,_,_,rfl,rfl,sp,rfl,_,rfl,_,_,_,_,rfl,rfl,sq,rfl,_,_,rfl,rfl,mulW hp.d hq.d (by lia),_,_,n + n,rfl,FM.prod_ne p q,by lia,FM.dd hp hq,fun l H' e1 e2 => ?_⟩
  exact k l H' e1 (by rw [FM.sum_eq p q] at e2; exact e2)
theorem sc__law_by : FnScope ["_law_one", "_law_other"] ["_law_one", "_law_other"] (defScope s__law_by):=⟨rfl,rfl,rfl,by decide +kernel,rfl,by decide +kernel,by decide +kernel⟩
theorem ok__law_by (F : Fn K mg "_law_by" s__law_by ["_law_one", "_law_other"] f fd) (T__law_frac : Fn K mg "_law_frac" s__law_frac ["_law_top", "_law_bottom"] g gd)
    (G__law_frac : FnOk P w K mg base CX0 2 g gd ["_law_top", "_law_bottom"] spFr) : FnOk P w K mg base CX0 3 f fd ["_law_one", "_law_other"] (spOp K (fun p q => p * q) (fun _ => True)) := by
  have sc:=sc__law_by
  refine F.F.ok (k:=2) sc (fun vs H Q E h => ?_) (fun cdv A outer s H vs Q E hr h => ?_)
  · obtain ⟨v,w,p,q,n,rfl,_⟩:=h
    rfl
  obtain ⟨v,w,p,q,n,rfl,⟨a,rfl,sp⟩,⟨b,rfl,sq⟩,hp,hq,hn,hok,k⟩:=h
  refine ⟨_,(pss_one (ps_ret (pe_fn T__law_frac G__law_frac hr rfl (pa_cons (pe_op op_mulW (pe_ix ix_tup (pv 0) pe_int (fun _ _ => rfl)) (pe_ix ix_tup (pv 1) pe_int (fun _ _ => rfl))) (pa_cons (pe_op op_mulW (pe_ix ix_tup (pv 0) pe_int (fun _ _ => rfl)) (pe_ix ix_tup (pv 1) pe_int (fun _ _ => rfl))) pa_nil))))),?_⟩
  refine ⟨_,rfl,_,_,_,_,rfl,rfl,sp,rfl,_,rfl,_,_,_,_,rfl,rfl,sq,rfl,_,_,rfl,rfl,mulW hp.1 hq.1 (by lia),_,rfl,_,_,_,_,rfl,rfl,sp,rfl,_,rfl,_,_,_,_,rfl,rfl,sq,rfl,_,_,rfl,rfl,mulW hp.d hq.d (by lia),_,_,n + n,rfl,FM.prod_ne p q,by lia,FM.dd hp hq,fun l H' e1 e2 => ?_⟩
  exact k l H' e1 (by rw [FM.times_eq p q] at e2; exact e2)
end
def spLSum : Sp:=fun vs H Q _ => ∃ (a b : Addr) (xs ys : List V) (u1 u2 : List Mono) (n : Nat),vs = [.ref a,.ref b]∧H a = some (.lst xs)∧H b = some (.lst ys)∧Tms H (u1.map mT3) xs∧Tms H (u2.map mT3) ys∧u1.length + u2.length≤1000∧n≤4000 ∧
  (∀ m∈u1 ++ u2,FM.Fits m.2 n)∧(∀ (j : Nat) k,FM.Fits (sumK (((u1 ++ u2).map mT3).take j) k) n) ∧
  ∀ D H' zs,Same H H'→H D = none→H' D = some (.lst zs)→Tms H' ((gath ((u1 ++ u2).map mT3)).map mT3) zs→Q (.ref D) H'
theorem Tms.app {H : Hp} {t1 t2 : List T3} {xs ys : List V} (h : Tms H t1 xs) (k : Tms H t2 ys) : Tms H (t1 ++ t2) (xs ++ ys) := by
  refine ⟨by rw [List.length_append,List.length_append,h.1,k.1],fun j t ht => ?_⟩
  by_cases z : j < t1.length
  · rw [List.getElem?_append_left z] at ht
    rw [List.getElem?_append_left (by rw [h.1]; exact z)]
    exact h.2 j t ht
  · rw [List.getElem?_append_right (by lia)] at ht
    rw [List.getElem?_append_right (by rw [h.1]; lia),h.1]
    exact k.2 _ t ht
section
variable {P : Program} {w : World} {K : PySem.W.Frag} {mg : Str→Option Value} {base : Heap} {f g1 g2 : Addr} {fd gd1 gd2 : FuncData}
theorem sc__law_sum : FnScope ["_law_one", "_law_other", "_law_counts", "_law_powers", "_law_part_here"] ["_law_one", "_law_other"] (defScope s__law_sum):=⟨rfl,rfl,rfl,by decide +kernel,rfl,by decide +kernel,by decide +kernel⟩
theorem ok__law_sum (F : Fn K mg "_law_sum" s__law_sum ["_law_one", "_law_other"] f fd) (T__law_plus : Fn K mg "_law_plus" s__law_plus ["_law_one", "_law_other"] g1 gd1) (G__law_plus : FnOk P w K mg base CX0 3 g1 gd1 ["_law_one", "_law_other"] (spOp K (fun p q => p + q) (fun _ => True)))
    (T__law_gathered : Fn K mg "_law_gathered" s__law_gathered ["_law_counts"] g2 gd2) (G__law_gathered : FnOk P w K mg base CX0 3 g2 gd2 ["_law_counts"] spLG) : FnOk P w K mg base CX0 4 f fd ["_law_one", "_law_other"] spLSum := by
  have sc:=sc__law_sum
  refine F.F.ok (k:=3) sc (fun vs H Q E h => ?_) (fun cdv A outer s H vs Q E hr h => ?_)
  · obtain ⟨a,b,xs,ys,u1,u2,n,rfl,_⟩:=h
    rfl
  obtain ⟨a,b,xs,ys,u1,u2,n,rfl,ha,hb,t1,t2,hlen,hn,hfit,hsum,q⟩:=h
  refine ⟨_,(pss_cons (ps_set (i:=2) sc.nd rfl (Or.inl rfl) pe_dnewT)
  (pss_cons (ps_for PassesOwn.never rfl (pi_list (pe_op op_cat (pv 0) (pv 1))) (pg_tup rfl (pgs_cons (pg_name (i:=3) sc.nd rfl (Or.inl rfl)) (pgs_cons (pg_name (i:=4) sc.nd rfl (Or.inl rfl)) pgs_nil)))
    (pss_one (ps_dput (by have:=hr.units; exact Nat.lt_of_le_of_lt (Nat.add_le_add_left (show 1≤64 by decide) _) this) (pv 2) (pv 3) (pe_fn T__law_plus G__law_plus hr rfl (pa_cons (pe_dget2 (by have:=hr.units; exact Nat.lt_of_le_of_lt (Nat.add_le_add_left (show 1≤64 by decide) _) this) (pv 2) (pv 3) (pe_tup (pa_cons pe_int (pa_cons pe_int pa_nil))) ⟨rfl,rfl,rfl,rfl⟩) (pa_cons (pv 4) pa_nil))) rfl)))
  (pss_one (ps_ret (pe_fn T__law_gathered G__law_gathered hr rfl (pa_cons (pv 2) pa_nil)))))),?_⟩
  refine fun C hC => ?_
  have e1:=same_new hC (.dT [])
  have hC1 : upd H C (.dT []) C = some (.dT []):=upd_same
  generalize upd H C (.dT []) = H1 at e1 hC1
  have tm:=t1.app t2
  rw [← List.map_append] at tm
  have hxl : (xs ++ ys).length≤1000 := by rw [tm.1,List.length_map,List.length_append]; exact hlen
  refine ⟨_,rfl,_,rfl,a,b,xs,ys,rfl,rfl,e1 _ _ ha,e1 _ _ hb,(by rw [List.length_append] at hxl; exact Nat.le_of_lt (szK hxl)),fun L hL => ?_⟩
  have nCL : C≠L:=ne_of_none hC1 hL
  have hL0 : H L = none:=noneS e1 hL
  have e2:=same_new hL (.lst (xs ++ ys))
  have hL2 : upd H1 L (.lst (xs ++ ys)) L = some (.lst (xs ++ ys)):=upd_same
  have s2 : Same (upd H L (.lst (xs ++ ys))) (upd H1 L (.lst (xs ++ ys))):=fun c u z => by
    by_cases y : c = L
    · subst y; rw [upd_same] at z ⊢; exact z
    · rw [upd_ne y] at z ⊢; exact e1 _ _ z
  have s0 : Same H (upd H L (.lst (xs ++ ys))):=same_new hL0 _
  have hC0 : upd H L (.lst (xs ++ ys)) C = none := by rw [upd_ne nCL]; exact hC
  have hLL : upd H L (.lst (xs ++ ys)) L = some (.lst (xs ++ ys)):=upd_same
  have g0 : LD (upd H L (.lst (xs ++ ys))) C [] (upd H1 L (.lst (xs ++ ys))) []:=⟨e2 _ _ hC1,rfl,(fun _ z => (List.not_mem_nil z).elim),s2⟩
  generalize upd H1 L (.lst (xs ++ ys)) = H2 at e2 hL2 s2 g0
  generalize upd H L (.lst (xs ++ ys)) = H0 at s2 s0 hC0 hLL g0
  have hts : ((u1 ++ u2).map mT3).length = (xs ++ ys).length:=tm.1.symm
  generalize hte : (u1 ++ u2).map mT3 = ts at tm hsum q hts
  refine ⟨L,rfl,⟨_,SqL.of hL2⟩,for_list (xs:=xs ++ ys) (fun i σ H' => ∃ (r3 r4 : Option V) (kls : List (List Int×Addr)),σ = [some (.ref a),some (.ref b),some (.ref C),r3,r4]∧LD H0 C (ts.take i) H' kls) ?_ ?_ ?_ ?_⟩
  · exact ⟨_,_,[],rfl,g0⟩
  · rintro i σ H' _ ⟨r3,r4,kls,rfl,g⟩
    exact SqL.of (g.same _ _ hLL)
  · rintro i x σ H3 hx ⟨r3,r4,kls,rfl,g⟩
    have hi : i < ts.length := by rw [hts]; exact (List.getElem?_eq_some_iff.mp hx).1
    have hti : ts[i]? = some ts[i] := by simp [hi]
    have tk : ts.take (i + 1) = ts.take i ++ [ts[i]] := by rw [List.take_add_one,hti]; rfl
    rw [tk]
    obtain ⟨c,Pw,Fr,q1,q2,q3,q4⟩:=tm.2 i _ hti
    obtain ⟨mm,hmm,hmt⟩ : ∃ mm,mm∈u1 ++ u2∧mT3 mm = ts[i] := by
      have : ts[i]∈(u1 ++ u2).map mT3 := by rw [hte]; exact List.mem_of_getElem? hti
      exact List.mem_map.mp this
    rw [← hmt] at q3 q4 ⊢
    rw [hx] at q1
    cases q1
    have up : Same H H3:=s0.trans g.same
    refine ⟨c,_,rfl,SqT.of (up _ _ q2),rfl,_,_,rfl,_,_,rfl,rfl,?_⟩
    refine ⟨_,rfl,C,rfl,.inr ⟨_,.inl g.at_⟩,_,rfl,(by show 2≤sizeLine; decide),fun p hp => ?_⟩
    have e4:=same_new hp (.tup [.int 0,.int 1])
    have hp4 : upd H3 p (.tup [.int 0,.int 1]) p = some (.tup [.int 0,.int 1]):=upd_same
    generalize upd H3 p (.tup [.int 0,.int 1]) = H4 at e4 hp4
    have g4:=g.up e4
    have hP4 : H4 Pw = some (.tup ((mm.1.map (Sum.inl : Int→Key)).map kV)) := by rw [map_kV]; exact e4 _ _ (up _ _ q3)
    have hF4 : H4 Fr = some (.tup (ratV mm.2)):=e4 _ _ (up _ _ q4)
    have hkl : kls.length≤1000 := by
      have h1:=congrArg List.length g.keys
      rw [List.length_map] at h1
      have h2:=keysO_len (ts.take i)
      rw [List.length_take] at h2
      lia
    have fin : ∀ l H5,Same H4 H5→H5 l = some (.tup (ratV (sumK (ts.take i) mm.1 + mm.2)))→∃ kls',LD H0 C (ts.take i ++ [mT3 mm]) (upd H5 C (.dT (putK (kvsOf kls) (mm.1.map Sum.inl) (.ref l)))) kls':=fun l H5 e5 hl => (g4.up e5).put hC0 (t:=mT3 mm) (by
      show H5 l = some (.tup (ratV (sumK (ts.take i) mm.1 + Rat.divInt mm.2.num mm.2.den)))
      rw [Rat.num_divInt_den]; exact hl)
    have put : ∀ l H5,Same H4 H5→DPut H5 C (.ref Pw) (.ref l) (upd H5 C (.dT (putK (kvsOf kls) (mm.1.map Sum.inl) (.ref l)))):=fun l H5 e5 => DPut.t (k:=mm.1.map Sum.inl) (e5 _ _ g4.at_) (e5 _ _ hP4) (by rw [List.length_map]; exact szK hkl)
    rcases g4.get mm.1 with ⟨c0,v1,v2⟩ | ⟨v1,v2⟩
    · have hget : DGet H4 C (.ref Pw) (some (.ref c0)) := by
        have:=DGet.t (k:=mm.1.map Sum.inl) (b:=Pw) g4.at_ hP4
        rw [v1] at this; exact this
      refine ⟨_,hget,_,rfl,.ref c0,.ref Fr,sumK (ts.take i) mm.1,mm.2,n,rfl,⟨c0,rfl,SqT.of v2⟩,⟨Fr,rfl,SqT.of hF4⟩,hsum i _,hfit mm hmm,hn,trivial,fun l H5 e5 hl => ?_⟩
      obtain ⟨kls',g6⟩:=fin l H5 e5 hl
      exact ⟨_,rfl,_,rfl,C,_,rfl,put l H5 e5,_,_,kls',rfl,g6⟩
    · have hget : DGet H4 C (.ref Pw) none := by
        have:=DGet.t (k:=mm.1.map Sum.inl) (b:=Pw) g4.at_ hP4
        rw [v1] at this; exact this
      have hs0:=hsum i mm.1
      rw [v2] at hs0
      refine ⟨_,hget,_,rfl,.ref p,.ref Fr,0,mm.2,n,rfl,⟨p,rfl,SqT.of hp4⟩,⟨Fr,rfl,SqT.of hF4⟩,hs0,hfit mm hmm,hn,trivial,fun l H5 e5 hl => ?_⟩
      obtain ⟨kls',g6⟩:=fin l H5 e5 (by rw [v2]; exact hl)
      exact ⟨_,rfl,_,rfl,C,_,rfl,put l H5 e5,_,_,kls',rfl,g6⟩
  · rintro σ H3 ⟨r3,r4,kls,rfl,g⟩
    rw [← hts,List.take_length] at g
    have hdl : (dicL ts).length = kls.length := by unfold dicL; rw [List.length_map,← g.keys,List.length_map]
    have hd1 : (dicL ts).length≤1000 := by unfold dicL; rw [List.length_map]; have:=keysO_len ts; lia
    refine ⟨_,rfl,C,kls,dicL ts,rfl,g.at_,hdl,hd1,fun j r t hr' ht => ?_,fun D H4 zs us e4 hD hD4 pm so tz => ?_⟩
    · have hk : (keysO ts)[j]? = some r.1 := by rw [← g.keys,List.getElem?_map,hr']; rfl
      unfold dicL at ht
      rw [List.getElem?_map,hk] at ht
      cases ht
      exact ⟨rfl,g.val r (List.mem_of_getElem? hr')⟩
    · have up:=s0.trans g.same
      rw [gath_is pm so] at tz
      exact q D H4 zs (up.trans e4) (noneS up hD) hD4 tz
end
def addP (p q : List Int) : List Int:=List.zipWith (· + ·) p q
def rowP (m : Mono) (u : List Mono) : List T3:=u.map fun m2 => mT3 (addP m.1 m2.1,m.2 * m2.2)
def prodT (u1 u2 : List Mono) : List T3:=u1.flatMap fun m => rowP m u2
def spLProd : Sp:=fun vs H Q _ => ∃ (a b : Addr) (xs ys : List V) (u1 u2 : List Mono) (n many : Nat),vs = [.ref a,.ref b]∧H a = some (.lst xs)∧H b = some (.lst ys)∧Tms H (u1.map mT3) xs∧Tms H (u2.map mT3) ys∧u1.length≤30∧u2.length≤30∧n≤4000∧many≤30 ∧
  (∀ m∈u1 ++ u2,FM.Fits m.2 n∧m.1.length = many)∧(∀ m1∈u1,∀ m2∈u2,FM.Fits (m1.2 * m2.2) n)∧(∀ l k,l <+: prodT u1 u2→FM.Fits (sumK l k) n) ∧
  ∀ D H' zs,Same H H'→H D = none→H' D = some (.lst zs)→Tms H' ((gath (prodT u1 u2)).map mT3) zs→Q (.ref D) H'
section
variable {P : Program} {w : World} {K : PySem.W.Frag} {mg : Str→Option Value} {base : Heap} {f g1 g2 g3 : Addr} {fd gd1 gd2 gd3 : FuncData}
theorem sc__law_product : FnScope ["_law_one", "_law_other", "_law_counts", "_law_left", "_law_first", "_law_right", "_law_second", "_law_powers"] ["_law_one", "_law_other"] (defScope s__law_product):=⟨rfl,rfl,rfl,by decide +kernel,rfl,by decide +kernel,by decide +kernel⟩
theorem ok__law_product (F : Fn K mg "_law_product" s__law_product ["_law_one", "_law_other"] f fd) (T__law_plus : Fn K mg "_law_plus" s__law_plus ["_law_one", "_law_other"] g1 gd1) (G__law_plus : FnOk P w K mg base CX0 3 g1 gd1 ["_law_one", "_law_other"] (spOp K (fun p q => p + q) (fun _ => True)))
    (T__law_by : Fn K mg "_law_by" s__law_by ["_law_one", "_law_other"] g3 gd3) (G__law_by : FnOk P w K mg base CX0 3 g3 gd3 ["_law_one", "_law_other"] (spOp K (fun p q => p * q) (fun _ => True)))
    (T__law_gathered : Fn K mg "_law_gathered" s__law_gathered ["_law_counts"] g2 gd2) (G__law_gathered : FnOk P w K mg base CX0 3 g2 gd2 ["_law_counts"] spLG) (z_zip : mg "zip" = none) (z_tuple : mg "tuple" = none) : FnOk P w K mg base CX0 4 f fd ["_law_one", "_law_other"] spLProd := by
  have sc:=sc__law_product
  refine F.F.ok (k:=3) sc (fun vs H Q E h => ?_) (fun cdv A outer s H vs Q E hr h => ?_)
  · obtain ⟨a,b,xs,ys,u1,u2,n,many,rfl,_⟩:=h
    rfl
  obtain ⟨a,b,xs,ys,u1,u2,n,many,rfl,ha,hb,t1,t2,l1,l2,hn,hmany,hfit,hpro,hsum,q⟩:=h
  refine ⟨_,(pss_cons (ps_set (i:=2) sc.nd rfl (Or.inl rfl) pe_dnewT)
  (pss_cons (ps_for PassesOwn.never rfl (pi_list (pv 0)) (pg_tup rfl (pgs_cons (pg_name (i:=3) sc.nd rfl (Or.inl rfl)) (pgs_cons (pg_name (i:=4) sc.nd rfl (Or.inl rfl)) pgs_nil)))
    (pss_one (ps_for PassesOwn.never rfl (pi_list (pv 1)) (pg_tup rfl (pgs_cons (pg_name (i:=5) sc.nd rfl (Or.inl rfl)) (pgs_cons (pg_name (i:=6) sc.nd rfl (Or.inl rfl)) pgs_nil)))
      (pss_cons (ps_set (i:=7) sc.nd rfl (Or.inl rfl) (pe_callTy call_tuple_of rfl z_tuple PyProof.Rows.boot_tuple (pa_cons (pe_compr2 [".0", "_law_a", "_law_b"] 1 2 [none,none,none] (pi_zip rfl z_zip (pa_cons (pv 3) (pa_cons (pv 5) pa_nil))) (fun _ _ _ _ _ => pif_nil) (fun _ _ _ _ _ => (pe_op op_add (pv 1) (pv 2)))) pa_nil)))
      (pss_one (ps_dput (by have:=hr.units; exact Nat.lt_of_le_of_lt (Nat.add_le_add_left (show 1≤64 by decide) _) this) (pv 2) (pv 7) (pe_fn T__law_plus G__law_plus hr rfl (pa_cons (pe_dget2 (by have:=hr.units; exact Nat.lt_of_le_of_lt (Nat.add_le_add_left (show 1≤64 by decide) _) this) (pv 2) (pv 7) (pe_tup (pa_cons pe_int (pa_cons pe_int pa_nil))) ⟨rfl,rfl,rfl,rfl⟩) (pa_cons (pe_fn T__law_by G__law_by hr rfl (pa_cons (pv 4) (pa_cons (pv 6) pa_nil))) pa_nil))) rfl))))))
  (pss_one (ps_ret (pe_fn T__law_gathered G__law_gathered hr rfl (pa_cons (pv 2) pa_nil)))))),?_⟩
  refine fun C hC => ?_
  have e1:=same_new hC (.dT [])
  have g0 : LD H C [] (upd H C (.dT [])) []:=⟨upd_same,rfl,(fun _ z => (List.not_mem_nil z).elim),e1⟩
  generalize upd H C (.dT []) = H1 at e1 g0
  have hpl : (prodT u1 u2).length≤900 := by
    have : ∀ l : List Mono,(prodT l u2).length = l.length * u2.length:=fun l => by
      induction l with
      | nil => simp [prodT]
      | cons m l ih =>
        have : prodT (m :: l) u2 = rowP m u2 ++ prodT l u2:=rfl
        rw [this,List.length_append,ih,List.length_cons,Nat.succ_mul]
        unfold rowP
        rw [List.length_map]; lia
    rw [this]
    exact Nat.mul_le_mul l1 l2
  have hlenP : ∀ l,l <+: prodT u1 u2→l.length≤1000:=fun l h => by have:=h.length_le; lia
  refine ⟨_,rfl,a,rfl,⟨_,SqL.of (e1 _ _ ha)⟩,for_list (xs:=xs) (fun i σ H' => ∃ (r3 r4 r5 r6 r7 : Option V) (kls : List (List Int×Addr)),σ = [some (.ref a),some (.ref b),some (.ref C),r3,r4,r5,r6,r7]∧LD H C (prodT (u1.take i) u2) H' kls) ?_ ?_ ?_ ?_⟩
  · exact ⟨_,_,_,_,_,[],rfl,g0⟩
  · rintro i σ H' _ ⟨r3,r4,r5,r6,r7,kls,rfl,g⟩
    exact SqL.of (g.same _ _ ha)
  · rintro i x σ H2 hx ⟨r3,r4,r5,r6,r7,kls,rfl,g⟩
    have hi : i < u1.length := by have:=(List.getElem?_eq_some_iff.mp hx).1; rw [t1.1,List.length_map] at this; exact this
    have hu : u1[i]? = some u1[i] := by simp [hi]
    have tk : prodT (u1.take (i + 1)) u2 = prodT (u1.take i) u2 ++ rowP u1[i] u2 := by
      unfold prodT; rw [List.take_add_one,hu,List.flatMap_append]; simp
    have pre : prodT (u1.take i) u2 ++ rowP u1[i] u2 <+: prodT u1 u2 := by
      rw [← tk]
      refine ⟨prodT (u1.drop (i + 1)) u2,?_⟩
      unfold prodT; rw [← List.flatMap_append,List.take_append_drop]
    rw [tk]
    obtain ⟨c,Pl,Fl,q1,q2,q3,q4⟩:=t1.2 i (mT3 u1[i]) (by rw [List.getElem?_map,hu]; rfl)
    have hm1 : u1[i]∈u1:=List.getElem_mem hi
    generalize u1[i] = m1 at *
    rw [hx] at q1
    cases q1
    refine ⟨c,_,rfl,SqT.of (g.same _ _ q2),rfl,_,_,rfl,_,_,rfl,rfl,?_⟩
    refine ⟨_,rfl,b,rfl,⟨_,SqL.of (g.same _ _ hb)⟩,for_list (xs:=ys) (fun j σ H' => ∃ (r5 r6 r7 : Option V) (kls : List (List Int×Addr)),σ = [some (.ref a),some (.ref b),some (.ref C),some (.ref Pl),some (.ref Fl),r5,r6,r7]∧LD H C (prodT (u1.take i) u2 ++ (rowP m1 u2).take j) H' kls) ?_ ?_ ?_ ?_⟩
    · exact ⟨_,_,_,kls,rfl,by rw [List.take_zero,List.append_nil]; exact g⟩
    · rintro j σ H' _ ⟨r5,r6,r7,kls,rfl,g⟩
      exact SqL.of (g.same _ _ hb)
    · rintro j y σ H3 hy ⟨r5,r6,r7,kls3,rfl,g3⟩
      have hj : j < u2.length := by have:=(List.getElem?_eq_some_iff.mp hy).1; rw [t2.1,List.length_map] at this; exact this
      have hv : u2[j]? = some u2[j] := by simp [hj]
      have tk3 : (rowP m1 u2).take (j + 1) = (rowP m1 u2).take j ++ [mT3 (addP m1.1 u2[j].1,m1.2 * u2[j].2)] := by
        rw [List.take_add_one,show (rowP m1 u2)[j]? = some (mT3 (addP m1.1 u2[j].1,m1.2 * u2[j].2)) by unfold rowP; rw [List.getElem?_map,hv]; rfl]; rfl
      rw [tk3,← List.append_assoc]
      obtain ⟨c2,Pr,Fr,w1,w2,w3,w4⟩:=t2.2 j (mT3 u2[j]) (by rw [List.getElem?_map,hv]; rfl)
      have hm2 : u2[j]∈u2:=List.getElem_mem hj
      have hsm : ∀ k,FM.Fits (sumK (prodT (u1.take i) u2 ++ (rowP m1 u2).take j) k) n:=fun k => hsum _ k (List.IsPrefix.trans ((List.prefix_append_right_inj _).mpr (List.take_prefix _ _)) pre)
      have hl3 : (prodT (u1.take i) u2 ++ (rowP m1 u2).take j).length≤1000:=hlenP _ (List.IsPrefix.trans ((List.prefix_append_right_inj _).mpr (List.take_prefix _ _)) pre)
      clear tk3
      generalize u2[j] = m2 at *
      generalize prodT (u1.take i) u2 ++ (rowP m1 u2).take j = ts at *
      rw [hy] at w1
      cases w1
      obtain ⟨f1,len1⟩:=hfit m1 (List.mem_append_left _ hm1)
      obtain ⟨f2,len2⟩:=hfit m2 (List.mem_append_right _ hm2)
      have hPl : H3 Pl = some (.tup (m1.1.map V.int)):=g3.same _ _ q3
      have hPr : H3 Pr = some (.tup (m2.1.map V.int)):=g3.same _ _ w3
      have hFl : H3 Fl = some (.tup (ratV m1.2)):=g3.same _ _ q4
      have hFr : H3 Fr = some (.tup (ratV m2.2)):=g3.same _ _ w4
      refine ⟨c2,_,rfl,SqT.of (g3.same _ _ w2),rfl,_,_,rfl,_,_,rfl,rfl,?_⟩
      refine ⟨_,rfl,_,rfl,true,true,Pl,Pr,rfl,⟨_,hPl⟩,⟨_,hPr⟩,fun D hD => comp_by2 (n:=many) (fun z us H' => Same H3 H'∧us = ((addP m1.1 m2.1).take z).map V.int) ⟨same_new hD _,rfl⟩ ?_ ?_⟩
      · rintro z us H4 hz ⟨e4,rfl⟩ hD4
        have hx1 : (m1.1.map V.int)[z]? = some (.int (m1.1[z]'(by lia))) := by rw [List.getElem?_map,List.getElem?_eq_getElem (by lia)]; rfl
        have hx2 : (m2.1.map V.int)[z]? = some (.int (m2.1[z]'(by lia))) := by rw [List.getElem?_map,List.getElem?_eq_getElem (by lia)]; rfl
        refine ⟨⟨_,_,_,_,e4 _ _ hPl,e4 _ _ hPr,hx1,hx2⟩,szK (by rw [List.length_map,List.length_take]; lia),?_⟩
        rintro x H5 ⟨p,v1,v2,rfl,hp,rfl,y1,y2⟩
        have y1:=y1 _ (e4 _ _ hPl)
        have y2:=y2 _ (e4 _ _ hPr)
        rw [hx1] at y1
        rw [hx2] at y2
        cases y1
        cases y2
        refine ⟨p,_,_,rfl,SqT.of upd_same,?_⟩
        unfold tNoIf
        have e5:=same_new hp (.tup [.int (m1.1[z]'(by lia)),.int (m2.1[z]'(by lia))])
        refine iteT ⟨_,rfl,_,rfl,_,_,rfl,rfl,e5 _ _ hD4,cw_next hz ⟨fun b o y => ?_,?_⟩⟩
        · rw [upd_ne (ne_of_none y hD)]; exact e5 _ _ (e4 _ _ y)
        · have : (addP m1.1 m2.1)[z]? = some (m1.1[z]'(by lia) + m2.1[z]'(by lia)) := by
            unfold addP
            rw [List.getElem?_zipWith,List.getElem?_eq_getElem (by lia),List.getElem?_eq_getElem (by lia)]
          rw [List.take_add_one,this,List.map_append]; rfl
      · rintro us H4 ⟨e4,rfl⟩ hD4
        have hal : (addP m1.1 m2.1).length = many := by unfold addP; rw [List.length_zipWith]; lia
        have hD4' : H4 D = some (.lst ((addP m1.1 m2.1).map V.int)) := by rw [← hal,List.take_length] at hD4; exact hD4
        refine ⟨⟨_,_,e4 _ _ hPl,e4 _ _ hPr,.inl (by rw [List.length_map]; lia)⟩,D,_,rfl,.inl ⟨SqL.of hD4',fun Pw hPw => ?_⟩⟩
        have e5:=same_new hPw (.tup ((addP m1.1 m2.1).map V.int))
        have hPw5 : upd H4 Pw (.tup ((addP m1.1 m2.1).map V.int)) Pw = some (.tup ((addP m1.1 m2.1).map V.int)):=upd_same
        generalize upd H4 Pw (.tup ((addP m1.1 m2.1).map V.int)) = H5 at e5 hPw5
        have g5:=g3.up (e4.trans e5)
        refine ⟨_,rfl,C,rfl,.inr ⟨_,.inl g5.at_⟩,_,rfl,(by show 2≤sizeLine; decide),fun p hp => ?_⟩
        have e6:=same_new hp (.tup [.int 0,.int 1])
        have hp6 : upd H5 p (.tup [.int 0,.int 1]) p = some (.tup [.int 0,.int 1]):=upd_same
        generalize upd H5 p (.tup [.int 0,.int 1]) = H6 at e6 hp6
        have g6:=g5.up e6
        have e36:=(e4.trans e5).trans e6
        have hP6 : H6 Pw = some (.tup (((addP m1.1 m2.1).map (Sum.inl : Int→Key)).map kV)) := by rw [map_kV]; exact e6 _ _ hPw5
        have hkl : kls3.length≤1000 := by
          have h1:=congrArg List.length g3.keys
          rw [List.length_map] at h1
          have h2:=keysO_len ts
          lia
        have fin : ∀ l H7,Same H6 H7→H7 l = some (.tup (ratV (sumK ts (addP m1.1 m2.1) + m1.2 * m2.2)))→∃ kls',LD H C (ts ++ [mT3 (addP m1.1 m2.1,m1.2 * m2.2)]) (upd H7 C (.dT (putK (kvsOf kls3) ((addP m1.1 m2.1).map Sum.inl) (.ref l)))) kls':=fun l H7 e7 hl => (g6.up e7).put hC (t:=mT3 (addP m1.1 m2.1,m1.2 * m2.2)) (by
          show H7 l = some (.tup (ratV (sumK ts (addP m1.1 m2.1) + Rat.divInt (m1.2 * m2.2).num (m1.2 * m2.2).den)))
          rw [Rat.num_divInt_den]; exact hl)
        have put : ∀ l H7,Same H6 H7→DPut H7 C (.ref Pw) (.ref l) (upd H7 C (.dT (putK (kvsOf kls3) ((addP m1.1 m2.1).map Sum.inl) (.ref l)))):=fun l H7 e7 => DPut.t (k:=(addP m1.1 m2.1).map Sum.inl) (e7 _ _ g6.at_) (e7 _ _ hP6) (by rw [List.length_map]; exact szK hkl)
        rcases g6.get (addP m1.1 m2.1) with ⟨c0,v1,v2⟩ | ⟨v1,v2⟩
        · have hget : DGet H6 C (.ref Pw) (some (.ref c0)) := by
            have:=DGet.t (k:=(addP m1.1 m2.1).map Sum.inl) (b:=Pw) g6.at_ hP6
            rw [v1] at this; exact this
          refine ⟨_,hget,_,rfl,_,rfl,.ref Fl,.ref Fr,m1.2,m2.2,n,rfl,⟨Fl,rfl,SqT.of (e36 _ _ hFl)⟩,⟨Fr,rfl,SqT.of (e36 _ _ hFr)⟩,f1,f2,hn,trivial,fun lb H7 e7 hlb => ?_⟩
          refine ⟨.ref c0,.ref lb,sumK ts (addP m1.1 m2.1),m1.2 * m2.2,n,rfl,⟨c0,rfl,SqT.of (e7 _ _ v2)⟩,⟨lb,rfl,SqT.of hlb⟩,hsm _,hpro m1 hm1 m2 hm2,hn,trivial,fun l H8 e8 hl => ?_⟩
          obtain ⟨kls',g9⟩:=fin l H8 (e7.trans e8) hl
          exact ⟨_,rfl,_,rfl,C,_,rfl,put l H8 (e7.trans e8),_,_,_,kls',rfl,g9⟩
        · have hget : DGet H6 C (.ref Pw) none := by
            have:=DGet.t (k:=(addP m1.1 m2.1).map Sum.inl) (b:=Pw) g6.at_ hP6
            rw [v1] at this; exact this
          have hs0:=hsm (addP m1.1 m2.1)
          rw [v2] at hs0
          refine ⟨_,hget,_,rfl,_,rfl,.ref Fl,.ref Fr,m1.2,m2.2,n,rfl,⟨Fl,rfl,SqT.of (e36 _ _ hFl)⟩,⟨Fr,rfl,SqT.of (e36 _ _ hFr)⟩,f1,f2,hn,trivial,fun lb H7 e7 hlb => ?_⟩
          refine ⟨.ref p,.ref lb,0,m1.2 * m2.2,n,rfl,⟨p,rfl,SqT.of (e7 _ _ hp6)⟩,⟨lb,rfl,SqT.of hlb⟩,hs0,hpro m1 hm1 m2 hm2,hn,trivial,fun l H8 e8 hl => ?_⟩
          obtain ⟨kls',g9⟩:=fin l H8 (e7.trans e8) (by rw [v2]; exact hl)
          exact ⟨_,rfl,_,rfl,C,_,rfl,put l H8 (e7.trans e8),_,_,_,kls',rfl,g9⟩
    · rintro σ H3 ⟨r5,r6,r7,kls3,rfl,g3⟩
      have : (rowP m1 u2).length = ys.length := by unfold rowP; rw [List.length_map,t2.1,List.length_map]
      rw [← this,List.take_length] at g3
      exact ⟨_,_,_,_,_,kls3,rfl,g3⟩
  · rintro σ H3 ⟨r3,r4,r5,r6,r7,kls,rfl,g⟩
    have hxl : xs.length = u1.length := by rw [t1.1,List.length_map]
    rw [hxl,List.take_length] at g
    generalize prodT u1 u2 = ts at *
    have hdl : (dicL ts).length = kls.length := by unfold dicL; rw [List.length_map,← g.keys,List.length_map]
    have hd1 : (dicL ts).length≤1000 := by unfold dicL; rw [List.length_map]; have:=keysO_len ts; lia
    refine ⟨_,rfl,C,kls,dicL ts,rfl,g.at_,hdl,hd1,fun j r t hr' ht => ?_,fun D H4 zs us e4 hD hD4 pm so tz => ?_⟩
    · have hk : (keysO ts)[j]? = some r.1 := by rw [← g.keys,List.getElem?_map,hr']; rfl
      unfold dicL at ht
      rw [List.getElem?_map,hk] at ht
      cases ht
      exact ⟨rfl,g.val r (List.mem_of_getElem? hr')⟩
    · rw [gath_is pm so] at tz
      exact q D H4 zs (g.same.trans e4) (noneS g.same hD) hD4 tz
end
def wt (t : T3) : List Int×Rat:=(t.1,Rat.divInt t.2.1 t.2.2)
theorem keysO_wt (ts : List T3) : keysO ts = (ts.map wt).foldl (fun acc t => if t.1∈acc then acc else acc ++ [t.1]) [] := by
  unfold keysO
  rw [List.foldl_map]
  rfl
theorem sumK_wt (ts : List T3) (k : List Int) : sumK ts k = (((ts.map wt).filter fun t => decide (t.1 = k)).map (·.2)).sum := by
  unfold sumK ofK
  rw [List.filter_map,List.map_map,List.map_map]
  rfl
theorem gath_wt {l l' : List T3} (h : l.map wt = l'.map wt) : gath l = gath l' := by
  have hk : keysO l = keysO l' := by rw [keysO_wt,keysO_wt,h]
  have hs : sumK l = sumK l':=funext fun k => by rw [sumK_wt,sumK_wt,h]
  unfold gath gathK
  rw [hk]
  congr 1
  funext k
  unfold gathO
  rw [hs]
def rowQ (m : Mono) (u : List Mono) : List T3:=u.map fun m2 => (addP m.1 m2.1,m.2.num * m2.2.num,(m.2.den : Int) * m2.2.den)
def prodQ (u1 u2 : List Mono) : List T3:=u1.flatMap fun m => rowQ m u2
theorem wt_mul (p q : List Int) (a b : Rat) : wt (addP p q,a.num * b.num,(a.den : Int) * b.den) = wt (mT3 (addP p q,a * b)) := by
  unfold wt mT3
  dsimp only
  rw [Rat.num_divInt_den,FM.times_eq a b]
theorem gath_prod (u1 u2 : List Mono) : gath (prodQ u1 u2) = gath (prodT u1 u2) := by
  refine gath_wt ?_
  unfold prodQ prodT
  rw [List.map_flatMap,List.map_flatMap]
  congr 1
  funext m
  unfold rowQ rowP
  rw [List.map_map,List.map_map]
  exact List.map_congr_left fun m2 _ => wt_mul _ _ _ _
def spPSum : Sp:=fun vs H Q _ => ∃ (a b : Addr) (xs ys : List V) (t1 t2 : List T3) (kt k : Nat),vs = [.ref a,.ref b]∧H a = some (.lst xs)∧H b = some (.lst ys)∧Tms H t1 xs∧Tms H t2 ys∧(t1 ++ t2).length≤1000 ∧
  (∀ t∈t1 ++ t2,t.1≠[]∧1≤t.2.2∧t.2.1.natAbs < 2 ^ kt∧t.2.2.natAbs < 2 ^ k)∧k * (t1 ++ t2).length≤4000∧kt≤100000 ∧
  ∀ D H' zs,Same H H'→H D = none→H' D = some (.lst zs)→Tms H' ((gath (t1 ++ t2)).map mT3) zs→Q (.ref D) H'
section
variable {P : Program} {w : World} {K : PySem.W.Frag} {mg : Str→Option Value} {base : Heap} {f g1 : Addr} {fd gd1 : FuncData}
theorem scO_poly_sum : FnScope ["one", "other"] ["one", "other"] (defScope s_poly_sum):=⟨rfl,rfl,rfl,by decide +kernel,rfl,by decide +kernel,by decide +kernel⟩
theorem ok_poly_sum {m : Nat} (F : Fn K mg "poly_sum" s_poly_sum ["one", "other"] f fd) (T_gathered : Fn K mg "gathered" s_gathered ["terms"] g1 gd1) (G_gathered : FnOk P w K mg base CX0 m g1 gd1 ["terms"] spGath) : FnOk P w K mg base CX0 (m + 1) f fd ["one", "other"] spPSum := by
  have sc:=scO_poly_sum
  refine F.F.ok (k:=m) sc (fun vs H Q E h => ?_) (fun cdv A outer s H vs Q E hr h => ?_)
  · obtain ⟨a,b,xs,ys,t1,t2,kt,k,rfl,_⟩:=h
    rfl
  obtain ⟨a,b,xs,ys,t1,t2,kt,k,rfl,ha,hb,m1,m2,hl,hok,h4,hkt,q⟩:=h
  have tm:=m1.app m2
  have hxl : (xs ++ ys).length≤1000 := by rw [tm.1]; exact hl
  refine ⟨_,pss_one (ps_ret (pe_fn T_gathered G_gathered hr rfl (pa_cons (pe_op op_cat (pv 0) (pv 1)) pa_nil))),?_⟩
  refine ⟨_,rfl,_,rfl,a,b,xs,ys,rfl,rfl,ha,hb,(by rw [List.length_append] at hxl; exact Nat.le_of_lt (szK hxl)),fun L hL => ?_⟩
  have e:=same_new hL (.lst (xs ++ ys))
  exact ⟨L,xs ++ ys,t1 ++ t2,kt,k,rfl,upd_same,tm.same e,hl,hok,h4,hkt,fun D H' zs e' hD hD' tz => q D H' zs (e.trans e') (noneS e hD) hD' tz⟩
end
def spJoin : Sp:=fun vs H Q _ => ∃ (a b : Addr) (p q : List Int) (many : Nat),vs = [.ref a,.ref b]∧H a = some (.tup (p.map V.int))∧H b = some (.tup (q.map V.int))∧p.length = many∧q.length = many∧many≤1000 ∧
  ∀ l H',Same H H'→H' l = some (.tup ((addP p q).map V.int))→Q (.ref l) H'
section
variable {P : Program} {w : World} {K : PySem.W.Frag} {mg : Str→Option Value} {base : Heap} {f : Addr} {fd : FuncData}
theorem scO_powers_joined : FnScope ["powers", "more"] ["powers", "more"] (defScope s_powers_joined):=⟨rfl,rfl,rfl,by decide +kernel,rfl,by decide +kernel,by decide +kernel⟩
theorem ok_powers_joined {m : Nat} (F : Fn K mg "powers_joined" s_powers_joined ["powers", "more"] f fd) (z_zip : mg "zip" = none) (z_tuple : mg "tuple" = none) : FnOk P w K mg base CX0 (m + 1) f fd ["powers", "more"] spJoin := by
  have sc:=scO_powers_joined
  refine F.F.ok (k:=m) sc (fun vs H Q E h => ?_) (fun cdv A outer s H vs Q E hr h => ?_)
  · obtain ⟨a,b,p,q,many,rfl,_⟩:=h
    rfl
  obtain ⟨a,b,p,q,many,rfl,ha,hb,lp,lq,hm,k⟩:=h
  refine ⟨_,(pss_one (ps_ret (pe_callTy call_tuple_of rfl z_tuple PyProof.Rows.boot_tuple (pa_cons (pe_compr2 [".0", "power", "other"] 1 2 [none,none,none] (pi_zip rfl z_zip (pa_cons (pv 0) (pa_cons (pv 1) pa_nil))) (fun _ _ _ _ _ => pif_nil) (fun _ _ _ _ _ => (pe_op op_add (pv 1) (pv 2)))) pa_nil)))),?_⟩
  refine ⟨_,rfl,_,rfl,true,true,a,b,rfl,⟨_,ha⟩,⟨_,hb⟩,fun D hD => comp_by2 (n:=many) (fun z us H' => Same H H'∧us = ((addP p q).take z).map V.int) ⟨same_new hD _,rfl⟩ ?_ ?_⟩
  · rintro z us H4 hz ⟨e4,rfl⟩ hD4
    have hx1 : (p.map V.int)[z]? = some (.int (p[z]'(by lia))) := by rw [List.getElem?_map,List.getElem?_eq_getElem (by lia)]; rfl
    have hx2 : (q.map V.int)[z]? = some (.int (q[z]'(by lia))) := by rw [List.getElem?_map,List.getElem?_eq_getElem (by lia)]; rfl
    refine ⟨⟨_,_,_,_,e4 _ _ ha,e4 _ _ hb,hx1,hx2⟩,szK (by rw [List.length_map,List.length_take]; lia),?_⟩
    rintro x H5 ⟨c,v1,v2,rfl,hc,rfl,y1,y2⟩
    have y1:=y1 _ (e4 _ _ ha)
    have y2:=y2 _ (e4 _ _ hb)
    rw [hx1] at y1
    rw [hx2] at y2
    cases y1
    cases y2
    refine ⟨c,_,_,rfl,SqT.of upd_same,?_⟩
    unfold tNoIf
    have e5:=same_new hc (.tup [.int (p[z]'(by lia)),.int (q[z]'(by lia))])
    refine iteT ⟨_,rfl,_,rfl,_,_,rfl,rfl,e5 _ _ hD4,cw_next hz ⟨fun b o y => ?_,?_⟩⟩
    · rw [upd_ne (ne_of_none y hD)]; exact e5 _ _ (e4 _ _ y)
    · have : (addP p q)[z]? = some (p[z]'(by lia) + q[z]'(by lia)) := by
        unfold addP
        rw [List.getElem?_zipWith,List.getElem?_eq_getElem (by lia),List.getElem?_eq_getElem (by lia)]
      rw [List.take_add_one,this,List.map_append]; rfl
  · rintro us H4 ⟨e4,rfl⟩ hD4
    have hal : (addP p q).length = many := by unfold addP; rw [List.length_zipWith]; lia
    have hD4' : H4 D = some (.lst ((addP p q).map V.int)) := by rw [← hal,List.take_length] at hD4; exact hD4
    refine ⟨⟨_,_,e4 _ _ ha,e4 _ _ hb,.inl (by rw [List.length_map]; lia)⟩,D,_,rfl,.inl ⟨SqL.of hD4',fun Pw hPw => ?_⟩⟩
    exact k Pw _ (e4.trans (same_new hPw _)) upd_same
end
def spPTimes : Sp:=fun vs H Q _ => ∃ (a b : Addr) (xs ys : List V) (u1 u2 : List Mono) (n many kt k : Nat),vs = [.ref a,.ref b]∧H a = some (.lst xs)∧H b = some (.lst ys)∧Tms H (u1.map mT3) xs∧Tms H (u2.map mT3) ys∧(prodQ u1 u2).length≤999∧n≤2000∧many≤1000 ∧
  (∀ m∈u1 ++ u2,FM.Fits m.2 n∧m.1.length = many)∧(∀ t∈prodQ u1 u2,t.1≠[]∧1≤t.2.2∧t.2.1.natAbs < 2 ^ kt∧t.2.2.natAbs < 2 ^ k)∧k * (prodQ u1 u2).length≤4000∧kt≤100000 ∧
  ∀ D H' zs,Same H H'→H D = none→H' D = some (.lst zs)→Tms H' ((gath (prodQ u1 u2)).map mT3) zs→Q (.ref D) H'
section
variable {P : Program} {w : World} {K : PySem.W.Frag} {mg : Str→Option Value} {base : Heap} {f g1 g2 : Addr} {fd gd1 gd2 : FuncData}
theorem scO_poly_times : FnScope ["one", "other", "terms", "powers", "part", "more", "share"] ["one", "other"] (defScope s_poly_times):=⟨rfl,rfl,rfl,by decide +kernel,rfl,by decide +kernel,by decide +kernel⟩
theorem ok_poly_times {m : Nat} (F : Fn K mg "poly_times" s_poly_times ["one", "other"] f fd) (T_gathered : Fn K mg "gathered" s_gathered ["terms"] g1 gd1) (G_gathered : FnOk P w K mg base CX0 m g1 gd1 ["terms"] spGath)
    (T_powers_joined : Fn K mg "powers_joined" s_powers_joined ["powers", "more"] g2 gd2) (G_powers_joined : FnOk P w K mg base CX0 m g2 gd2 ["powers", "more"] spJoin) : FnOk P w K mg base CX0 (m + 1) f fd ["one", "other"] spPTimes := by
  have sc:=scO_poly_times
  refine F.F.ok (k:=m) sc (fun vs H Q E h => ?_) (fun cdv A outer s H vs Q E hr h => ?_)
  · obtain ⟨a,b,xs,ys,u1,u2,n,many,kt,k,rfl,_⟩:=h
    rfl
  obtain ⟨a,b,xs,ys,u1,u2,n,many,kt,k,rfl,ha,hb,t1,t2,hpl,hn,hmany,hfit,hok,h4,hkt,q⟩:=h
  refine ⟨_,(pss_cons (ps_set (i:=2) sc.nd rfl (Or.inl rfl) (pe_lst pa_nil))
  (pss_cons (ps_for PassesOwn.never rfl (pi_list (pv 0)) (pg_tup rfl (pgs_cons (pg_name (i:=3) sc.nd rfl (Or.inl rfl)) (pgs_cons (pg_name (i:=4) sc.nd rfl (Or.inl rfl)) pgs_nil)))
    (pss_one (ps_for PassesOwn.never rfl (pi_list (pv 1)) (pg_tup rfl (pgs_cons (pg_name (i:=5) sc.nd rfl (Or.inl rfl)) (pgs_cons (pg_name (i:=6) sc.nd rfl (Or.inl rfl)) pgs_nil)))
      (pss_one (ps_expr (pe_bm PySem.F.plainAttrs_list PySem.F.slot_list_append PySem.F.type_list_append mt_append (pv 2) (pa_cons (pe_tup (pa_cons (pe_fn T_powers_joined G_powers_joined hr rfl (pa_cons (pv 3) (pa_cons (pv 5) pa_nil))) (pa_cons (pe_tup (pa_cons (pe_op op_mulW (pe_ix ix_tup (pv 4) pe_int (fun _ _ => rfl)) (pe_ix ix_tup (pv 6) pe_int (fun _ _ => rfl))) (pa_cons (pe_op op_mulW (pe_ix ix_tup (pv 4) pe_int (fun _ _ => rfl)) (pe_ix ix_tup (pv 6) pe_int (fun _ _ => rfl))) pa_nil))) pa_nil))) pa_nil)))))))
  (pss_one (ps_ret (pe_fn T_gathered G_gathered hr rfl (pa_cons (pv 2) pa_nil)))))),?_⟩
  refine ⟨(by show 0≤sizeLine; decide),fun S hS => ?_⟩
  have e1:=same_new hS (.lst [])
  have hS1 : upd H S (.lst []) S = some (.lst []):=upd_same
  generalize upd H S (.lst []) = H1 at e1 hS1
  refine ⟨_,rfl,a,rfl,⟨_,SqL.of (e1 _ _ ha)⟩,for_list (xs:=xs) (fun i σ H' => ∃ (r3 r4 r5 r6 : Option V) (zs : List V),σ = [some (.ref a),some (.ref b),some (.ref S),r3,r4,r5,r6]∧Same H H'∧H' S = some (.lst zs)∧Tms H' (prodQ (u1.take i) u2) zs) ?_ ?_ ?_ ?_⟩
  · exact ⟨_,_,_,_,[],rfl,e1,hS1,rfl,fun j t ht => by cases ht⟩
  · rintro i σ H' _ ⟨r3,r4,r5,r6,zs,rfl,e,_⟩
    exact SqL.of (e _ _ ha)
  · rintro i x σ H2 hx ⟨r3,r4,r5,r6,zs,rfl,e2,hS2,tz⟩
    have hi : i < u1.length := by have:=(List.getElem?_eq_some_iff.mp hx).1; rw [t1.1,List.length_map] at this; exact this
    have hu : u1[i]? = some u1[i] := by simp [hi]
    have tk : prodQ (u1.take (i + 1)) u2 = prodQ (u1.take i) u2 ++ rowQ u1[i] u2 := by
      unfold prodQ; rw [List.take_add_one,hu,List.flatMap_append]; simp
    have pre : prodQ (u1.take i) u2 ++ rowQ u1[i] u2 <+: prodQ u1 u2 := by
      rw [← tk]
      refine ⟨prodQ (u1.drop (i + 1)) u2,?_⟩
      unfold prodQ; rw [← List.flatMap_append,List.take_append_drop]
    rw [tk]
    obtain ⟨c,Pl,Fl,q1,q2,q3,q4⟩:=t1.2 i (mT3 u1[i]) (by rw [List.getElem?_map,hu]; rfl)
    have hm1 : u1[i]∈u1:=List.getElem_mem hi
    generalize u1[i] = m1 at *
    rw [hx] at q1
    cases q1
    refine ⟨c,_,rfl,SqT.of (e2 _ _ q2),rfl,_,_,rfl,_,_,rfl,rfl,?_⟩
    refine ⟨_,rfl,b,rfl,⟨_,SqL.of (e2 _ _ hb)⟩,for_list (xs:=ys) (fun j σ H' => ∃ (r5 r6 : Option V) (zs : List V),σ = [some (.ref a),some (.ref b),some (.ref S),some (.ref Pl),some (.ref Fl),r5,r6]∧Same H H'∧H' S = some (.lst zs)∧Tms H' (prodQ (u1.take i) u2 ++ (rowQ m1 u2).take j) zs) ?_ ?_ ?_ ?_⟩
    · exact ⟨_,_,zs,rfl,e2,hS2,by rw [List.take_zero,List.append_nil]; exact tz⟩
    · rintro j σ H' _ ⟨r5,r6,zs,rfl,e,_⟩
      exact SqL.of (e _ _ hb)
    · rintro j y σ H3 hy ⟨r5,r6,zs3,rfl,e3,hS3,tz3⟩
      have hj : j < u2.length := by have:=(List.getElem?_eq_some_iff.mp hy).1; rw [t2.1,List.length_map] at this; exact this
      have hv : u2[j]? = some u2[j] := by simp [hj]
      have tk3 : (rowQ m1 u2).take (j + 1) = (rowQ m1 u2).take j ++ [(addP m1.1 u2[j].1,m1.2.num * u2[j].2.num,(m1.2.den : Int) * u2[j].2.den)] := by
        rw [List.take_add_one,show (rowQ m1 u2)[j]? = some (addP m1.1 u2[j].1,m1.2.num * u2[j].2.num,(m1.2.den : Int) * u2[j].2.den) by unfold rowQ; rw [List.getElem?_map,hv]; rfl]; rfl
      rw [tk3,← List.append_assoc]
      obtain ⟨c2,Pr,Fr,w1,w2,w3,w4⟩:=t2.2 j (mT3 u2[j]) (by rw [List.getElem?_map,hv]; rfl)
      have hm2 : u2[j]∈u2:=List.getElem_mem hj
      have hl3 : (prodQ (u1.take i) u2 ++ (rowQ m1 u2).take j).length≤999 := by
        have:=(List.IsPrefix.trans ((List.prefix_append_right_inj (prodQ (u1.take i) u2)).mpr (List.take_prefix j (rowQ m1 u2))) pre).length_le
        lia
      clear tk3
      generalize u2[j] = m2 at *
      generalize prodQ (u1.take i) u2 ++ (rowQ m1 u2).take j = ts at *
      rw [hy] at w1
      cases w1
      obtain ⟨f1,len1⟩:=hfit m1 (List.mem_append_left _ hm1)
      obtain ⟨f2,len2⟩:=hfit m2 (List.mem_append_right _ hm2)
      have hFl : H3 Fl = some (.tup (ratV m1.2)):=e3 _ _ q4
      have hFr : H3 Fr = some (.tup (ratV m2.2)):=e3 _ _ w4
      refine ⟨c2,_,rfl,SqT.of (e3 _ _ w2),rfl,_,_,rfl,_,_,rfl,rfl,?_⟩
      refine ⟨_,rfl,.inl ⟨rfl,_,SqL.of hS3⟩,_,rfl,_,rfl,Pl,Pr,m1.1,m2.1,many,rfl,e3 _ _ q3,e3 _ _ w3,len1,len2,hmany,fun Pw H4 e4 hPw => ?_⟩
      refine ⟨_,rfl,_,_,_,_,rfl,rfl,SqT.of (e4 _ _ hFl),rfl,_,rfl,_,_,_,_,rfl,rfl,SqT.of (e4 _ _ hFr),rfl,_,_,rfl,rfl,mulW f1.1 f2.1 (by lia),_,rfl,_,_,_,_,rfl,rfl,SqT.of (e4 _ _ hFl),rfl,_,rfl,_,_,_,_,rfl,rfl,SqT.of (e4 _ _ hFr),rfl,_,_,rfl,rfl,mulW f1.d f2.d (by lia),?_⟩
      refine ⟨(by show 2≤sizeLine; decide),fun Fo hFo => ⟨(by show 2≤sizeLine; decide),fun c hc => ?_⟩⟩
      have e5:=same_new hFo (.tup [.int (m1.2.num * m2.2.num),.int ((m1.2.den : Int) * m2.2.den)])
      have e6:=same_new hc (.tup [.ref Pw,.ref Fo])
      have hS6:=e6 _ _ (e5 _ _ (e4 _ _ hS3))
      refine ⟨S,zs3,_,rfl,rfl,hS6,szK (by rw [tz3.1]; lia),_,_,zs3 ++ [.ref c],rfl,?_,upd_same,?_⟩
      · exact fun b o z => by rw [upd_ne (ne_of_none z hS)]; exact e6 _ _ (e5 _ _ (e4 _ _ (e3 _ _ z)))
      · exact ((tz3.same ((e4.trans e5).trans e6)).snoc (t:=(addP m1.1 m2.1,m1.2.num * m2.2.num,(m1.2.den : Int) * m2.2.den)) upd_same (e6 _ _ (e5 _ _ hPw)) (e6 _ _ upd_same)).but .upd fun xs z => by rw [hS6] at z; cases z
    · rintro σ H3 ⟨r5,r6,zs3,rfl,e3,hS3,tz3⟩
      have : (rowQ m1 u2).length = ys.length := by unfold rowQ; rw [List.length_map,t2.1,List.length_map]
      rw [← this,List.take_length] at tz3
      exact ⟨_,_,_,_,zs3,rfl,e3,hS3,tz3⟩
  · rintro σ H3 ⟨r3,r4,r5,r6,zs,rfl,e3,hS3,tz⟩
    have hxl : xs.length = u1.length := by rw [t1.1,List.length_map]
    rw [hxl,List.take_length] at tz
    exact ⟨_,rfl,S,zs,prodQ u1 u2,kt,k,rfl,hS3,tz,by lia,hok,h4,hkt,fun D H' ws e hD hD' tw => q D H' ws (e3.trans e) (noneS e3 hD) hD' tw⟩
end
def scal (u : List Mono) (r : Rat) : List Mono:=if r = 0 then [] else u.map fun m => (m.1,m.2 * r)
def spScal : Sp:=fun vs H Q _ => ∃ (a F : Addr) (xs : List V) (u : List Mono) (r : Rat) (n : Nat),vs = [.ref a,.ref F]∧H a = some (.lst xs)∧H F = some (.tup (ratV r))∧Tms H (u.map mT3) xs∧u.length≤1000∧n≤4000∧FM.Fits r n∧(∀ m∈u,FM.Fits m.2 n) ∧
  ∀ D H' zs,Same H H'→H D = none→H' D = some (.lst zs)→Tms H' ((scal u r).map mT3) zs→Q (.ref D) H'
section
variable {P : Program} {w : World} {K : PySem.W.Frag} {mg : Str→Option Value} {base : Heap} {f g1 : Addr} {fd gd1 : FuncData}
theorem scO_poly_scaled : FnScope ["some", "part"] ["some", "part"] (defScope s_poly_scaled):=⟨rfl,rfl,rfl,by decide +kernel,rfl,by decide +kernel,by decide +kernel⟩
theorem ok_poly_scaled (F : Fn K mg "poly_scaled" s_poly_scaled ["some", "part"] f fd) (T_frac_times : Fn K mg "frac_times" s_frac_times ["one", "other"] g1 gd1) (G_frac_times : FnOk P w K mg base CX0 3 g1 gd1 ["one", "other"] (spOp K (fun p q => p * q) (fun _ => True))) : FnOk P w K mg base CX0 4 f fd ["some", "part"] spScal := by
  have sc:=scO_poly_scaled
  refine F.F.ok (k:=3) sc (fun vs H Q E h => ?_) (fun cdv A outer s H vs Q E hr h => ?_)
  · obtain ⟨a,F,xs,u,r,n,rfl,_⟩:=h
    rfl
  obtain ⟨a,F,xs,u,r,n,rfl,ha,hF,tm,hu,hn,hr0,hfit,q⟩:=h
  refine ⟨_,(pss_cons (ps_if (pt_cmpR op_eq (pe_ix ix_tup (pv 1) pe_int (fun _ _ => rfl)) pe_int (nomark _))
    (pss_one (ps_ret (pe_lst pa_nil)))
    pss_nil)
  (pss_one (ps_ret (pe_compr2 [".0", "powers", "share", "part"] 1 2 [none,none,none,some 1] (pi_list (pv 0)) (fun _ _ _ _ _ => pif_nil) (fun _ _ _ _ _ => (pe_tup (pa_cons (pv 1) (pa_cons (pe_fn T_frac_times G_frac_times hr rfl (pa_cons (pv 2) (pa_cons (pv 3) pa_nil))) pa_nil)))))))),?_⟩
  refine ⟨_,rfl,_,_,_,_,rfl,rfl,SqT.of hF,rfl,rfl,_,rfl,ite2 (fun cc => ?_) (fun cc => ?_)⟩
  · have hz : r = 0:=Rat.num_eq_zero.mp (by simpa using cc)
    refine ⟨(by show 0≤sizeLine; decide),fun D hD => ?_⟩
    exact q D _ [] (same_new hD _) hD upd_same ⟨by unfold scal; rw [if_pos hz]; rfl,fun j t ht => by unfold scal at ht; rw [if_pos hz] at ht; cases ht⟩
  · have hz : r≠0:=fun z => cc (by rw [z]; simp)
    have hxl : xs.length = u.length := by rw [tm.1,List.length_map]
    refine ⟨_,rfl,a,rfl,⟨_,SqL.of ha⟩,fun D hD => comp_by2 (n:=u.length) (fun i zs H' => Same H H'∧Tms H' (((u.take i).map fun m => (m.1,m.2 * r)).map mT3) zs) ⟨same_new hD _,rfl,fun j t ht => by cases ht⟩ ?_ ?_⟩
    · rintro i zs H1 hi ⟨e1,tz⟩ hD1
      have hui : u[i]? = some u[i] := by simp [hi]
      have tk : u.take (i + 1) = u.take i ++ [u[i]] := by rw [List.take_add_one,hui]; rfl
      have hm : u[i]∈u:=List.getElem_mem hi
      obtain ⟨c,Pw,Fr,q1,q2,q3,q4⟩:=tm.2 i (mT3 u[i]) (by rw [List.getElem?_map,hui]; rfl)
      have hzl : zs.length≤1000 := by rw [tz.1,List.length_map,List.length_map,List.length_take]; lia
      refine ⟨⟨xs,.ref c,SqL.of (e1 _ _ ha),q1⟩,szK hzl,fun x H' y => ?_⟩
      obtain ⟨rfl,y⟩:=y
      have hx:=y xs (SqL.of (e1 _ _ ha))
      rw [q1] at hx
      cases hx
      refine ⟨c,_,_,rfl,SqT.of (e1 _ _ q2),?_⟩
      unfold tNoIf
      refine iteT ⟨_,rfl,_,rfl,_,rfl,.ref Fr,.ref F,u[i].2,r,n,rfl,⟨Fr,rfl,SqT.of (e1 _ _ q4)⟩,⟨F,rfl,SqT.of (e1 _ _ hF)⟩,hfit _ hm,hr0,hn,trivial,fun l H2 e2 hl => ?_⟩
      refine ⟨(by show 2≤sizeLine; decide),fun t ht => ?_⟩
      have e3:=same_new ht (.tup [.ref Pw,.ref l])
      have hD3:=e3 _ _ (e2 _ _ hD1)
      refine ⟨hD3,cw_next hi ⟨fun b o z => by rw [upd_ne (ne_of_none z hD)]; exact e3 _ _ (e2 _ _ (e1 _ _ z)),?_⟩⟩
      rw [tk,List.map_append,List.map_append]
      exact ((tz.same (e2.trans e3)).snoc (t:=mT3 (u[i].1,u[i].2 * r)) upd_same (e3 _ _ (e2 _ _ (e1 _ _ q3))) (e3 _ _ hl)).but .upd fun xs z => by rw [hD3] at z; cases z
    · rintro zs H1 ⟨e1,tz⟩ hD1
      refine ⟨⟨xs,SqL.of (e1 _ _ ha),by lia⟩,?_⟩
      rw [List.take_length] at tz
      refine q D H1 zs e1 hD hD1 ?_
      unfold scal
      rw [if_neg hz]; exact tz
end
def NumD : Nat→PyData→Prop
  | 0,d => ∃ i,d = .int i
  | n + 1,d => (∃ i,d = .int i)∨∃ ds,(d = .tuple ds∨d = .list ds)∧ds.length≤1000∧∀ e∈ds,NumD n e
theorem num_un_l {n : Nat} {ds : List PyData} (h : NumD (n + 1) (.list ds)) : ds.length≤1000∧∀ e∈ds,NumD n e := by
  rcases h with ⟨i,z⟩ | ⟨cs,h1,h2,h3⟩
  · cases z
  · rcases h1 with h1 | h1
    · cases h1
    · cases h1; exact ⟨h2,h3⟩
theorem num_un_t {n : Nat} {ds : List PyData} (h : NumD (n + 1) (.tuple ds)) : ds.length≤1000∧∀ e∈ds,NumD n e := by
  rcases h with ⟨i,z⟩ | ⟨cs,h1,h2,h3⟩
  · cases z
  · rcases h1 with h1 | h1
    · cases h1; exact ⟨h2,h3⟩
    · cases h1
def spSame (n : Nat) : Sp:=fun vs H Q _ => ∃ d v1 v2 m,vs = [v1,v2]∧n = m + 1∧NumD m d∧DU H d v1∧DU H d v2∧∀ H',Same H H'→Q (.bl true) H'
section
variable {P : Program} {w : World} {K : PySem.W.Frag} {mg : Str→Option Value} {base : Heap} {f : Addr} {fd : FuncData}
theorem sc__law_same : FnScope ["_law_found", "_law_due"] ["_law_found", "_law_due"] (defScope s__law_same):=⟨rfl,rfl,rfl,by decide +kernel,rfl,by decide +kernel,by decide +kernel⟩
theorem ok__law_same (T__law_same : Fn K mg "_law_same" s__law_same ["_law_found", "_law_due"] f fd) (z_isinstance : mg "isinstance" = none) (z_list : mg "list" = none) (z_tuple : mg "tuple" = none) (z_int : mg "int" = none) (z_bool : mg "bool" = none) (z_len : mg "len" = none) (z_all : mg "all" = none) (z_zip : mg "zip" = none) :
    ∀ n,FnOk P w K mg base CX0 n f fd ["_law_found", "_law_due"] (spSame n)
  | 0 => ⟨fun _ _ _ _ ⟨_,_,_,_,_,h,_⟩ => absurd h (Nat.succ_ne_zero _).symm,fun _ _ _ _ _ _ _ _ _ _ _ _ _ ⟨_,_,_,_,_,h,_⟩ => absurd h (Nat.succ_ne_zero _).symm⟩
  | n + 1 => by
    have sc:=sc__law_same
    have G__law_same:=ok__law_same T__law_same z_isinstance z_list z_tuple z_int z_bool z_len z_all z_zip n
    refine T__law_same.F.ok (k:=n) sc (fun vs H Q E h => ?_) (fun cdv A outer s H vs Q E hr h => ?_)
    · obtain ⟨d,v1,v2,m,rfl,_⟩:=h
      rfl
    obtain ⟨d,v1,v2,m,rfl,hm,hn,d1,d2,q⟩:=h
    have hm : n = m := by lia
    subst hm
    refine ⟨_,(pss_cons (ps_if (PW.pt (pw_or (pt_val (pe_callB call_isi rfl z_isinstance PyProof.Rows.boot_isinstance (pa_cons (pv 1) (pa_cons (pe_bltn (v:=.ty "list") rfl z_list PyProof.Rows.boot_list rfl) pa_nil)))) (pw_or1 (pt_val (pe_callB call_isi rfl z_isinstance PyProof.Rows.boot_isinstance (pa_cons (pv 1) (pa_cons (pe_bltn (v:=.ty "tuple") rfl z_tuple PyProof.Rows.boot_tuple rfl) pa_nil)))))))
    (pss_cons (ps_if (PW.pt (pw_or (pt_cmpR op_ne (pe_callB call_isi rfl z_isinstance PyProof.Rows.boot_isinstance (pa_cons (pv 0) (pa_cons (pe_bltn (v:=.ty "list") rfl z_list PyProof.Rows.boot_list rfl) pa_nil))) (pe_callB call_isi rfl z_isinstance PyProof.Rows.boot_isinstance (pa_cons (pv 1) (pa_cons (pe_bltn (v:=.ty "list") rfl z_list PyProof.Rows.boot_list rfl) pa_nil))) (nomark _)) (pw_or1 (pt_cmpR op_ne (pe_callB call_isi rfl z_isinstance PyProof.Rows.boot_isinstance (pa_cons (pv 0) (pa_cons (pe_bltn (v:=.ty "tuple") rfl z_tuple PyProof.Rows.boot_tuple rfl) pa_nil))) (pe_callB call_isi rfl z_isinstance PyProof.Rows.boot_isinstance (pa_cons (pv 1) (pa_cons (pe_bltn (v:=.ty "tuple") rfl z_tuple PyProof.Rows.boot_tuple rfl) pa_nil))) (nomark _)))))
      (pss_one (ps_ret pe_bl))
      pss_nil)
    (pss_cons (ps_if (pt_cmpR op_ne (pe_callB call_len_seq rfl z_len PySem.boot_len (pa_cons (pv 0) pa_nil)) (pe_callB call_len_seq rfl z_len PySem.boot_len (pa_cons (pv 1) pa_nil)) (nomark _))
      (pss_one (ps_ret pe_bl))
      pss_nil)
    (pss_one (ps_ret (pe_callB (call_all rfl) rfl z_all PyProof.Rows.boot_all (pa_cons (pe_compr2 [".0", "_law_one", "_law_other"] 1 2 [none,none,none] (pi_zip rfl z_zip (pa_cons (pv 0) (pa_cons (pv 1) pa_nil))) (fun _ _ _ _ _ => pif_nil) (fun _ _ _ _ _ => (pe_fn T__law_same G__law_same hr rfl (pa_cons (pv 1) (pa_cons (pv 2) pa_nil))))) pa_nil))))))
    pss_nil)
  (pss_cons (ps_if (pt_cmpR op_isN (pv 1) pe_non (nomark _))
    (pss_one (ps_ret (pe_cmpR op_isN (pv 0) pe_non (nomark _))))
    pss_nil)
  (pss_one (ps_ret (pe_and (pe_callB call_isi rfl z_isinstance PyProof.Rows.boot_isinstance (pa_cons (pv 0) (pa_cons (pe_bltn (v:=.ty "int") rfl z_int PyProof.Rows.boot_int rfl) pa_nil))) (pe_and (pe_not (pe_callB call_isi rfl z_isinstance PyProof.Rows.boot_isinstance (pa_cons (pv 0) (pa_cons (pe_bltn (v:=.ty "bool") rfl z_bool PyProof.Rows.boot_bool rfl) pa_nil)))) (pe_one (pe_cmpR op_eq (pv 0) (pv 1) (nomark _))))))))),?_⟩
    have kind : (∃ i,d = .int i)∨(∃ ds,d = .list ds)∨∃ ds,d = .tuple ds := by
      cases n with
      | zero => exact .inl hn
      | succ n =>
        rcases hn with h | ⟨ds,h | h,_⟩
        · exact .inl h
        · exact .inr (.inr ⟨ds,h⟩)
        · exact .inr (.inl ⟨ds,h⟩)
    rcases kind with ⟨i,rfl⟩ | ⟨ds,rfl⟩ | ⟨ds,rfl⟩
    · obtain ⟨N1,h1⟩:=d1
      obtain ⟨N2,h2⟩:=d2
      replace h1:=h1 N1 (Nat.le_refl _)
      replace h2:=h2 N2 (Nat.le_refl _)
      have e1:=h1
      have e2:=h2
      rw [Dt] at e1 e2
      subst e1 e2
      refine ⟨_,rfl,_,_,_,_,rfl,nnt,h2.ty,kit_lstD K _ h2.nodict,_,rfl,iteF ⟨_,rfl,_,_,_,_,rfl,nnt,h2.ty,kit_tupD K _ h2.nodict,_,rfl,iteF ?_⟩⟩
      refine ⟨_,rfl,rfl,_,rfl,iteF ?_⟩
      refine ⟨_,rfl,_,_,_,_,rfl,nnt,h1.ty,kit_intD K _ h1.nodict,_,rfl,iteT ⟨_,rfl,_,_,_,_,rfl,nnt,h1.ty,kit_boolD K _ h1.nodict,_,rfl,_,rfl,iteT ⟨_,rfl,_,rfl,rfl,?_⟩⟩⟩
      have:=q H (.refl H)
      have ed : decide (V.int i = V.int i) = true:=decide_eq_true rfl
      rw [← ed] at this
      exact this
    ·
      obtain ⟨m',rfl⟩ : ∃ m',n = m' + 1 := by
        cases n with
        | zero => obtain ⟨_,z⟩:=hn; cases z
        | succ m' => exact ⟨m',rfl⟩
      obtain ⟨hlen1000,hall⟩:=num_un_l hn
      obtain ⟨N1,h1⟩:=d1
      obtain ⟨N2,h2⟩:=d2
      have d1 : DU H (.list ds) v1:=⟨N1,h1⟩
      have d2 : DU H (.list ds) v2:=⟨N2,h2⟩
      replace h1:=h1 N1 (Nat.le_refl _)
      replace h2:=h2 N2 (Nat.le_refl _)
      refine ⟨_,rfl,_,_,_,_,rfl,nnt,h2.ty,kit_lstD K _ h2.nodict,_,rfl,iteT (iteT ?_)⟩
      refine ⟨_,rfl,_,_,_,_,rfl,nnt,h1.ty,kit_lstD K _ h1.nodict,_,rfl,_,_,_,_,rfl,nnt,h2.ty,kit_lstD K _ h2.nodict,rfl,_,rfl,iteF ⟨_,rfl,_,_,_,_,rfl,nnt,h1.ty,kit_tupD K _ h1.nodict,_,rfl,_,_,_,_,rfl,nnt,h2.ty,kit_tupD K _ h2.nodict,rfl,_,rfl,iteF ?_⟩⟩
      obtain ⟨a1,xs,rfl,ha1,k1⟩:=d1.unL
      obtain ⟨a2,ys,rfl,ha2,k2⟩:=d2.unL
      have l1:=k1.len
      have l2:=k2.len
      refine ⟨_,rfl,a1,xs,rfl,.inl (SqL.of ha1),_,rfl,a2,ys,rfl,.inl (SqL.of ha2),rfl,_,rfl,?_⟩
      have el : (!decide (V.int (xs.length : Nat) = V.int (ys.length : Nat))) = false := by rw [l1,l2]; simp
      rw [el]
      refine iteF ⟨_,rfl,_,rfl,false,false,a1,a2,rfl,⟨_,ha1⟩,⟨_,ha2⟩,fun D hD => comp_by2 (n:=xs.length) (fun i zs H' => Same H H'∧zs = (List.replicate i true).map V.bl) ?_ ?_ ?_⟩
      · exact ⟨same_new hD _,rfl⟩
      · rintro i zs H1 hi ⟨e1,rfl⟩ hD1
        have e1a:=e1 _ _ ha1
        have e1b:=e1 _ _ ha2
        have hx:=List.getElem?_eq_getElem hi
        have hy:=List.getElem?_eq_getElem (l:=ys) (i:=i) (by lia)
        refine ⟨⟨_,_,_,_,e1a,e1b,hx,hy⟩,Nat.lt_of_lt_of_le (show ((List.replicate i true).map V.bl).length < 1000 by rw [List.length_map,List.length_replicate]; lia) (by rw [sizeLine_eq]; decide),fun v H' y => ?_⟩
        obtain ⟨p,x,z,rfl,np,rfl,q1,q2⟩:=y
        have hx':=q1 _ e1a
        have hy':=q2 _ e1b
        rw [hx] at hx'
        rw [hy] at hy'
        cases hx'
        cases hy'
        obtain ⟨e,he⟩ : ∃ e,ds[i]? = some e:=⟨ds[i]'(by lia),by simp [show i < ds.length by lia]⟩
        obtain ⟨u1,w1,w2⟩:=k1.get he
        obtain ⟨u2,w3,w4⟩:=k2.get he
        rw [hx] at w1
        rw [hy] at w3
        cases w1
        cases w3
        have sp:=same_new np (.tup [xs[i],ys[i]'(by lia)])
        refine ⟨p,_,_,rfl,SqT.of upd_same,?_⟩
        have E:=e1.trans sp
        unfold tNoIf
        refine iteT ⟨_,rfl,_,rfl,e,_,_,m',rfl,rfl,hall e (List.mem_of_getElem? he),w2.same E,w4.same E,fun H2 e2 => ⟨e2 _ _ (sp _ _ hD1),cw_next hi ⟨fun c o zz => ?_,?_⟩⟩⟩
        · rw [upd_ne (ne_of_none zz hD)]
          exact e2 _ _ (E _ _ zz)
        · rw [List.replicate_succ',List.map_append]; rfl
      · rintro zs H1 ⟨e1,rfl⟩ hD1
        refine ⟨⟨_,_,e1 _ _ ha1,e1 _ _ ha2,.inl rfl⟩,D,_,rfl,SqL.of hD1,?_⟩
        have:=q H1 e1
        have ea : (List.replicate xs.length true).all id = true := by simp
        rw [← ea] at this
        exact this
    ·
      obtain ⟨m',rfl⟩ : ∃ m',n = m' + 1 := by
        cases n with
        | zero => obtain ⟨_,z⟩:=hn; cases z
        | succ m' => exact ⟨m',rfl⟩
      obtain ⟨hlen1000,hall⟩:=num_un_t hn
      obtain ⟨N1,h1⟩:=d1
      obtain ⟨N2,h2⟩:=d2
      have d1 : DU H (.tuple ds) v1:=⟨N1,h1⟩
      have d2 : DU H (.tuple ds) v2:=⟨N2,h2⟩
      replace h1:=h1 N1 (Nat.le_refl _)
      replace h2:=h2 N2 (Nat.le_refl _)
      refine ⟨_,rfl,_,_,_,_,rfl,nnt,h2.ty,kit_lstD K _ h2.nodict,_,rfl,iteF ⟨_,rfl,_,_,_,_,rfl,nnt,h2.ty,kit_tupD K _ h2.nodict,_,rfl,iteT ?_⟩⟩
      refine ⟨_,rfl,_,_,_,_,rfl,nnt,h1.ty,kit_lstD K _ h1.nodict,_,rfl,_,_,_,_,rfl,nnt,h2.ty,kit_lstD K _ h2.nodict,rfl,_,rfl,iteF ⟨_,rfl,_,_,_,_,rfl,nnt,h1.ty,kit_tupD K _ h1.nodict,_,rfl,_,_,_,_,rfl,nnt,h2.ty,kit_tupD K _ h2.nodict,rfl,_,rfl,iteF ?_⟩⟩
      obtain ⟨a1,xs,rfl,ha1,k1⟩:=d1.unT
      obtain ⟨a2,ys,rfl,ha2,k2⟩:=d2.unT
      have l1:=k1.len
      have l2:=k2.len
      refine ⟨_,rfl,a1,xs,rfl,.inr (SqT.of ha1),_,rfl,a2,ys,rfl,.inr (SqT.of ha2),rfl,_,rfl,?_⟩
      have el : (!decide (V.int (xs.length : Nat) = V.int (ys.length : Nat))) = false := by rw [l1,l2]; simp
      rw [el]
      refine iteF ⟨_,rfl,_,rfl,true,true,a1,a2,rfl,⟨_,ha1⟩,⟨_,ha2⟩,fun D hD => comp_by2 (n:=xs.length) (fun i zs H' => Same H H'∧zs = (List.replicate i true).map V.bl) ?_ ?_ ?_⟩
      · exact ⟨same_new hD _,rfl⟩
      · rintro i zs H1 hi ⟨e1,rfl⟩ hD1
        have e1a:=e1 _ _ ha1
        have e1b:=e1 _ _ ha2
        have hx:=List.getElem?_eq_getElem hi
        have hy:=List.getElem?_eq_getElem (l:=ys) (i:=i) (by lia)
        refine ⟨⟨_,_,_,_,e1a,e1b,hx,hy⟩,Nat.lt_of_lt_of_le (show ((List.replicate i true).map V.bl).length < 1000 by rw [List.length_map,List.length_replicate]; lia) (by rw [sizeLine_eq]; decide),fun v H' y => ?_⟩
        obtain ⟨p,x,z,rfl,np,rfl,q1,q2⟩:=y
        have hx':=q1 _ e1a
        have hy':=q2 _ e1b
        rw [hx] at hx'
        rw [hy] at hy'
        cases hx'
        cases hy'
        obtain ⟨e,he⟩ : ∃ e,ds[i]? = some e:=⟨ds[i]'(by lia),by simp [show i < ds.length by lia]⟩
        obtain ⟨u1,w1,w2⟩:=k1.get he
        obtain ⟨u2,w3,w4⟩:=k2.get he
        rw [hx] at w1
        rw [hy] at w3
        cases w1
        cases w3
        have sp:=same_new np (.tup [xs[i],ys[i]'(by lia)])
        refine ⟨p,_,_,rfl,SqT.of upd_same,?_⟩
        have E:=e1.trans sp
        unfold tNoIf
        refine iteT ⟨_,rfl,_,rfl,e,_,_,m',rfl,rfl,hall e (List.mem_of_getElem? he),w2.same E,w4.same E,fun H2 e2 => ⟨e2 _ _ (sp _ _ hD1),cw_next hi ⟨fun c o zz => ?_,?_⟩⟩⟩
        · rw [upd_ne (ne_of_none zz hD)]
          exact e2 _ _ (E _ _ zz)
        · rw [List.replicate_succ',List.map_append]; rfl
      · rintro zs H1 ⟨e1,rfl⟩ hD1
        refine ⟨⟨_,_,e1 _ _ ha1,e1 _ _ ha2,.inl rfl⟩,D,_,rfl,SqL.of hD1,?_⟩
        have:=q H1 e1
        have ea : (List.replicate xs.length true).all id = true := by simp
        rw [← ea] at this
        exact this
end
def TmOk (many : Nat) (t : IT.Tm) : Prop:=t.1.length = many∧(∀ p∈t.1,(0 : Int)≤p∧p≤3)∧∃ r : Rat,t.2 = [r.num,(r.den : Int)]∧r≠0∧r.num.natAbs≤6∧r.den≤6
def tmD (t : IT.Tm) : PyData:=.tuple [.tuple (t.1.map .int),.tuple (t.2.map .int)]
def PolyOk (many : Nat) (us : List IT.Tm) : Prop:=us.length≤12∧(∀ t∈us,TmOk many t)∧us.Pairwise (fun x y => IT.lt y.1 x.1 = true)
theorem mem_putK {κ : Type} [DecidableEq κ] {kvs : List (κ×V)} {k : κ} {v : V} {x : κ×V} (h : x∈putK kvs k v) : x∈kvs∨x = (k,v) := by
  unfold putK at h
  split at h
  · obtain ⟨y,hy,e⟩:=List.mem_map.mp h
    split at e
    · rename_i z
      right; rw [← e,← z]
    · left; rw [← e]; exact hy
  · rcases List.mem_append.mp h with h | h
    · exact .inl h
    · exact .inr (List.mem_singleton.mp h)
theorem nodup_putK {κ : Type} [DecidableEq κ] {kvs : List (κ×V)} {k : κ} (v : V) (h : (kvs.map (·.1)).Nodup) : ((putK kvs k v).map (·.1)).Nodup := by
  cases e : valV kvs k with
  | none => exact nd_putK v h e
  | some y =>
    unfold putK
    rw [valV_any,e,if_pos (show (some y).isSome = true from rfl),List.map_map]
    have : (kvs.map ((fun x : κ×V => x.1) ∘ fun kv => if kv.1 = k then (kv.1,v) else kv)) = kvs.map (·.1) := by
      apply List.map_congr_left
      intro x _
      simp only [Function.comp]
      split <;> rfl
    rw [this]; exact h
def KvOk (many : Nat) (H : Hp) (kv : List Key×V) : Prop:=∃ t : IT.Tm,kv.1 = t.1.map Sum.inl∧(∃ c,kv.2 = .ref c∧H c = some (.tup (t.2.map V.int)))∧TmOk many t
theorem KvOk.step {many : Nat} {H H' : Hp} {kv : List Key×V} (e : ∀ c ys,H c = some (.tup ys)→H' c = some (.tup ys)) (h : KvOk many H kv) : KvOk many H' kv := by
  obtain ⟨t,h1,⟨c,h2,h3⟩,h4⟩:=h
  exact ⟨t,h1,⟨c,h2,e _ _ h3⟩,h4⟩
theorem kvs_terms {many : Nat} {H : Hp} : ∀ {kvs : List (List Key×V)},(∀ kv∈kvs,KvOk many H kv)→∃ ts : List IT.Tm,ts.length = kvs.length∧(∀ t∈ts,TmOk many t)∧kvs.map (·.1) = ts.map (fun t => t.1.map Sum.inl) ∧
    ∀ (j : Nat) k v t,kvs[j]? = some (k,v)→ts[j]? = some t→k = t.1.map Sum.inl∧∃ c,v = .ref c∧H c = some (.tup (t.2.map V.int))
  | [],_ => ⟨[],rfl,fun _ z => (List.not_mem_nil z).elim,rfl,fun j k v t h => by simp at h⟩
  | kv :: kvs,h => by
    obtain ⟨ts,h1,h2,h3,h4⟩:=kvs_terms (kvs:=kvs) fun x hx => h x (List.mem_cons_of_mem _ hx)
    obtain ⟨t,k1,k2,k3⟩:=h kv List.mem_cons_self
    refine ⟨t :: ts,by simp [h1],fun x hx => ?_,by rw [List.map_cons,List.map_cons,h3,k1],fun j k v t' e1 e2 => ?_⟩
    · rcases List.mem_cons.mp hx with rfl | hx
      · exact k3
      · exact h2 x hx
    · cases j with
      | zero =>
        simp at e1 e2
        subst e1 e2
        exact ⟨k1,k2⟩
      | succ j => exact h4 j k v t' (by simpa using e1) (by simpa using e2)
theorem sorted_strict {us ts : List IT.Tm} (hp : us.Perm ts) (hn : (ts.map fun t => t.1.map (Sum.inl : Int→Key)).Nodup) (hs : us.Pairwise (fun x y => IT.ordT.kle y x)) : us.Pairwise (fun x y => IT.lt y.1 x.1 = true) := by
  have hn' : (us.map fun t => t.1.map (Sum.inl : Int→Key)).Nodup:=(hp.map _).nodup_iff.mpr hn
  rw [List.Nodup,List.pairwise_map] at hn'
  refine (hs.and hn').imp fun {x y} h => ?_
  obtain ⟨h1,h2⟩:=h
  have hne : x.1≠y.1:=fun z => h2 (by rw [z])
  have h3 : IT.ltT x y = false:=h1
  unfold IT.ltT at h3
  rw [if_neg hne] at h3
  cases h4 : IT.lt y.1 x.1 with
  | true => rfl
  | false => exact absurd (IT.lt_total _ _ h3 h4) hne
theorem dt_ints {c : Addr} {H : Hp} : ∀ (ps : List Int),DtAll c H (ps.map .int) (ps.map V.int)
  | [] => .nil
  | p :: ps => .cons .int (dt_ints ps)
theorem terms_dt {c : Addr} {zc : List V} {H1 H' : Hp} (e : Same H1 H') (hc : H1 c = some (.lst zc)) : ∀ {us : List IT.Tm} {zs : List V},zs.length = us.length →
    (∀ (j : Nat) z t,zs[j]? = some z→us[j]? = some t→∃ p b d,z = .ref p∧H1 p = none∧H' p = some (.tup [.ref b,.ref d])∧H1 b = some (.tup (t.1.map V.int))∧H1 d = some (.tup (t.2.map V.int)))→DtAll c H' (us.map tmD) zs
  | [],[],_,_ => .nil
  | [],_ :: _,h,_ => by simp at h
  | _ :: _,[],h,_ => by simp at h
  | t :: us,z :: zs,hl,h => by
    obtain ⟨p,b,d,rfl,h1,h2,h3,h4⟩:=h 0 z t rfl rfl
    have nt : ∀ {x : Addr} {ys : List V},H1 x = some (.tup ys)→x≠c:=fun hx zz => by rw [zz,hc] at hx; cases hx
    exact .cons (.tup (fun zz => by rw [zz,hc] at h1; cases h1) h2 (.cons (.tup (nt h3) (e _ _ h3) (dt_ints _)) (.cons (.tup (nt h4) (e _ _ h4) (dt_ints _)) .nil)))
      (terms_dt e hc (by simpa using hl) fun j z' t' hz ht => h (j + 1) z' t' (by simpa using hz) (by simpa using ht))
def spPoly : Sp:=fun vs H Q _ => ∃ (l : Addr) (x : Int) (many : Nat),vs = [.ref l,.int many,.int 3]∧H l = some (.lst [.int x])∧1≤many∧many≤4 ∧
  ∀ v H' us,SameBut l H H'→PolyOk many us→(∀ c zs,H c = some (.lst zs)→Dt c H' (.list (us.map tmD)) v)→Q v H'
theorem cut_two {ps : List Int} {r : Int} (h0 : 0≤r) (h1 : r≤(ps.length : Nat)) : cutV (ps.map V.int) (some r) none ++ cutV (ps.map V.int) none (some r) = (ps.drop r.toNat ++ ps.take r.toNat).map V.int := by
  have e : (some r) = some ((r.toNat : Nat) : Int) := by rw [show ((r.toNat : Nat) : Int) = r by lia]
  unfold cutV
  rw [e,HT.sIx_none,HT.sIx_none,HT.sIx_nat,HT.sIx_nat,List.length_map,Nat.min_eq_left (by lia),List.drop_zero,Nat.sub_zero,List.map_append,List.map_drop,List.map_take]
  congr 1
  rw [List.take_of_length_le (by rw [List.length_drop,List.length_map]; lia)]
section
variable {P : Program} {w : World} {K : PySem.W.Frag} {mg : Str→Option Value} {base : Heap} {f g g1 g2 g4 g5 : Addr} {fd gd gd1 gd2 : FuncData}
theorem sc__law_poly : FnScope ["_law_pile", "_law_many", "_law_most", "_law_counts", "_law_count", "_law_k", "_law_powers", "_law_left", "_law_j", "_law_turn", "_law_part_here"] ["_law_pile", "_law_many", "_law_most"] (defScope s__law_poly):=⟨rfl,rfl,rfl,by decide +kernel,rfl,by decide +kernel,by decide +kernel⟩
structure Grow (H : Hp) (l C : Addr) (kvs : List (List Key×V)) (many n : Nat) (H' : Hp) : Prop where
  tr : SameBut l H H'
  pile : ∃ y,H' l = some (.lst [.int y])
  dic : H' C = some (.dT kvs)
  len : kvs.length≤n
  nd : (kvs.map (·.1)).Nodup
  ok : ∀ kv∈kvs,KvOk many H' kv
theorem Grow.same {H : Hp} {l C : Addr} {kvs : List (List Key×V)} {many n : Nat} {H1 H2 : Hp} (g : Grow H l C kvs many n H1) (e : Same H1 H2) : Grow H l C kvs many n H2 :=
  ⟨g.tr.trans (.of e),let ⟨y,h⟩:=g.pile; ⟨y,e _ _ h⟩,e _ _ g.dic,g.len,g.nd,fun kv h => (g.ok kv h).step fun c ys => e c _⟩
theorem Grow.take {H : Hp} {l C : Addr} {kvs : List (List Key×V)} {many n : Nat} {H1 : Hp} (g : Grow H l C kvs many n H1) (nC : C≠l) (y : Int) : Grow H l C kvs many n (upd H1 l (.lst [.int y])) :=
  let ⟨_,hl⟩:=g.pile
  ⟨g.tr.trans .upd,⟨y,upd_same⟩,by rw [upd_ne nC]; exact g.dic,g.len,g.nd,fun kv h => (g.ok kv h).step fun c ys hc => by rw [upd_ne (fun z => by rw [z,hl] at hc; cases hc)]; exact hc⟩
theorem Grow.list {H : Hp} {l C p : Addr} {kvs : List (List Key×V)} {many n : Nat} {H1 : Hp} {ys zs : List V} (g : Grow H l C kvs many n H1) (hp : H p = none) (np : p≠l) (nC : p≠C) (h : H1 p = some (.lst ys)) : Grow H l C kvs many n (upd H1 p (.lst zs)) :=
  ⟨fun b o nb z => by rw [upd_ne (ne_of_none z hp)]; exact g.tr _ _ nb z,let ⟨y,hy⟩:=g.pile; ⟨y,by rw [upd_ne np.symm]; exact hy⟩,by rw [upd_ne nC.symm]; exact g.dic,g.len,g.nd,fun kv hk => (g.ok kv hk).step fun c ws hc => by rw [upd_ne (fun z => by rw [z,h] at hc; cases hc)]; exact hc⟩
theorem ok__law_poly (F : Fn K mg "_law_poly" s__law_poly ["_law_pile", "_law_many", "_law_most"] f fd) (T__law_take : Fn K mg "_law_take" s__law_take ["_law_pile", "_law_size"] g1 gd1) (T__law_part : Fn K mg "_law_part" s__law_part ["_law_pile"] g2 gd2)
    (G__law_take : FnOk P w K mg base CX0 3 g1 gd1 ["_law_pile", "_law_size"] spTake) (G__law_part : FnOk P w K mg base CX0 3 g2 gd2 ["_law_pile"] spDrawn) (z_range : mg "range" = none) (z_sorted : mg "sorted" = none) (z_tuple : mg "tuple" = none) : FnOk P w K mg base CX0 4 f fd ["_law_pile", "_law_many", "_law_most"] spPoly := by
  have sc:=sc__law_poly
  refine F.F.ok (k:=3) sc (fun vs H Q E h => ?_) (fun cdv A outer s H vs Q E hr h => ?_)
  · obtain ⟨l,x,many,rfl,_⟩:=h
    rfl
  obtain ⟨l,x,many,rfl,hl,hm1,hm4,q⟩:=h
  refine ⟨_,(pss_cons (ps_set (i:=3) sc.nd rfl (Or.inl rfl) pe_dnewT)
  (pss_cons (ps_set (i:=4) sc.nd rfl (Or.inl rfl) (pe_fn T__law_take G__law_take hr rfl (pa_cons (pv 0) (pa_cons pe_int pa_nil))))
  (pss_cons (ps_if (pt_cmpR op_eq (pv 4) pe_int (nomark _))
    (pss_one (ps_set (i:=4) sc.nd rfl (Or.inl rfl) (pe_op op_add (pv 4) (pe_fn T__law_take G__law_take hr rfl (pa_cons (pv 0) (pa_cons pe_int pa_nil))))))
    pss_nil)
  (pss_cons (ps_for PassesOwn.never rfl (pi_range1 rfl z_range (pa_cons (pv 4) pa_nil)) (pg_name (i:=5) sc.nd rfl (Or.inl rfl))
    (pss_cons (ps_set (i:=6) sc.nd rfl (Or.inl rfl) (pe_lst pa_nil))
    (pss_cons (ps_set (i:=7) sc.nd rfl (Or.inl rfl) (pv 2))
    (pss_cons (ps_for PassesOwn.never rfl (pi_range1 rfl z_range (pa_cons (pv 1) pa_nil)) (pg_name (i:=8) sc.nd rfl (Or.inl rfl))
      (pss_cons (ps_expr (pe_bm PySem.F.plainAttrs_list PySem.F.slot_list_append PySem.F.type_list_append mt_append (pv 6) (pa_cons (pe_fn T__law_take G__law_take hr rfl (pa_cons (pv 0) (pa_cons (pe_op op_add (pv 7) pe_int) pa_nil))) pa_nil)))
      (pss_one (ps_set (i:=7) sc.nd rfl (Or.inl rfl) (pe_op op_sub (pv 7) (pe_ix ix_list (pv 6) (pe_un un_neg pe_int) (fun _ _ => rfl)))))))
    (pss_cons (ps_set (i:=9) sc.nd rfl (Or.inl rfl) (pe_fn T__law_take G__law_take hr rfl (pa_cons (pv 0) (pa_cons (pv 1) pa_nil))))
    (pss_cons (ps_set (i:=10) sc.nd rfl (Or.inl rfl) (pe_fn T__law_part G__law_part hr rfl (pa_cons (pv 0) pa_nil)))
    (pss_one (ps_if (pt_cmpR (op_neD (by have:=hr.units; exact this)) (pv 10) (pe_tup (pa_cons pe_int (pa_cons pe_int pa_nil))) (nomark _))
      (pss_one (ps_dput (by have:=hr.units; exact Nat.lt_of_le_of_lt (Nat.add_le_add_left (show 1≤64 by decide) _) this) (pv 3) (pe_callTy call_tuple_of rfl z_tuple PyProof.Rows.boot_tuple (pa_cons (pe_op op_cat (pe_slice sl_list (pv 6) (po_some (pv 9)) po_none) (pe_slice sl_list (pv 6) po_none (po_some (pv 9)))) pa_nil)) (pv 10) rfl))
      pss_nil))))))))
  (pss_one (ps_ret (pe_sortI rfl (by have:=hr.units; exact this) rfl z_sorted (pv 3)))))))),?_⟩
  refine fun C hC => ?_
  have nC : C≠l:=(ne_of_none hl hC).symm
  have g0 : Grow H l C [] many 0 (upd H C (.dT [])):=⟨.of (same_new hC _),⟨x,same_new hC _ _ _ hl⟩,upd_same,Nat.le_refl _,List.nodup_nil,fun _ z => (List.not_mem_nil z).elim⟩
  generalize upd H C (.dT []) = H1 at g0
  obtain ⟨x1,hl1⟩:=g0.pile
  refine ⟨_,rfl,l,x1,5,rfl,hl1,by decide,by decide,fun cnt y0 c0 c1 => ?_⟩
  have g0:=g0.take nC y0
  generalize upd H1 l (.lst [.int y0]) = H2 at g0
  try dsimp only [gName]
  refine seq_join (fun σ' H' => ∃ n : Nat,n≤12∧σ' = [some (.ref l),some (.int many),some (.int 3),some (.ref C),some (.int n),none,none,none,none,none,none]∧Grow H l C [] many 0 H') (fun nx hnx => ?_) ?_
  · refine ⟨_,rfl,rfl,_,rfl,ite2 (fun c => ?_) (fun c => ?_)⟩
    · obtain ⟨x2,hl2⟩:=g0.pile
      have e4 : cnt = 4 := by simpa using c
      refine ⟨_,rfl,_,rfl,l,x2,9,rfl,hl2,by decide,by decide,fun r y1 r0 r1 => ⟨_,_,rfl,rfl,hnx _ _ ⟨(cnt + r).toNat,by lia,?_,g0.take nC y1⟩⟩⟩
      show [some (V.ref l),some (V.int many),some (V.int 3),some (V.ref C),some (V.int (cnt + r)),none,none,none,none,none,none] = _
      rw [show (((cnt + r).toNat : Nat) : Int) = cnt + r by lia]
    · refine hnx _ _ ⟨cnt.toNat,by lia,?_,g0⟩
      show [some (V.ref l),some (V.int many),some (V.int 3),some (V.ref C),some (V.int cnt),none,none,none,none,none,none] = _
      rw [show ((cnt.toNat : Nat) : Int) = cnt by lia]
  rintro σ' H3 ⟨n,hn,rfl,g0⟩
  refine ⟨_,rfl,(n : Int),rfl,by lia,by lia,for_range (n:=(n : Int).toNat) (fun i σ H' => ∃ (r5 r6 r7 r8 r9 r10 : Option V) (kvs : List (List Key×V)),σ = [some (.ref l),some (.int many),some (.int 3),some (.ref C),some (.int n),r5,r6,r7,r8,r9,r10]∧Grow H l C kvs many i H') ?_ ?_ ?_⟩
  · exact ⟨_,_,_,_,_,_,[],rfl,g0⟩
  · rintro i σ H4 hi ⟨r5,r6,r7,r8,r9,r10,kvs,rfl,g4⟩
    refine ⟨sz60' (by decide),fun p hp => ?_⟩
    have hpn : H p = none := by
      cases z : H p with
      | none => rfl
      | some o =>
        have np : p≠l:=fun zz => by
          obtain ⟨y,hy⟩:=g4.pile
          rw [zz,hy] at hp; cases hp
        rw [g4.tr _ _ np z] at hp; cases hp
    have np : p≠l:=let ⟨y,hy⟩:=g4.pile; (ne_of_none hy hp).symm
    have npC : p≠C:=(ne_of_none g4.dic hp).symm
    have g5:=g4.same (same_new hp (.lst []))
    have h5 : upd H4 p (.lst []) p = some (.lst []):=upd_same
    generalize upd H4 p (.lst []) = H5 at g5 h5
    refine ⟨_,rfl,?_⟩
    refine ⟨_,rfl,(many : Int),rfl,by lia,by lia,for_range (n:=(many : Int).toNat) (fun j σ H' => ∃ (r8 : Option V) (left : Int) (ps : List Int),σ = [some (.ref l),some (.int many),some (.int 3),some (.ref C),some (.int n),some (.int (0 + (i : Nat))),some (.ref p),some (.int left),r8,r9,r10]∧Grow H l C kvs many i H'∧H' p = some (.lst (ps.map V.int))∧ps.length = j∧(∀ z∈ps,(0 : Int)≤z∧z≤3)∧0≤left∧left≤3) ?_ ?_ ?_⟩
    · exact ⟨_,3,[],rfl,g5,h5,rfl,fun _ z => (List.not_mem_nil z).elim,by decide,by decide⟩
    · rintro j σ H6 hj ⟨r8,left,ps,rfl,g6,h6,hpl,hps,l0,l3⟩
      obtain ⟨x6,hl6⟩:=g6.pile
      refine ⟨_,rfl,.inl ⟨rfl,_,SqL.of h6⟩,_,rfl,_,rfl,_,_,rfl,rfl,l,x6,left + 1,rfl,hl6,by lia,by lia,fun r y r0 r1 => ?_⟩
      have g7:=g6.take nC y
      have h7 : upd H6 l (.lst [.int y]) p = some (.lst (ps.map V.int)) := by rw [upd_ne np]; exact h6
      generalize upd H6 l (.lst [.int y]) = H7 at g7 h7
      refine ⟨p,_,_,rfl,rfl,h7,sz60 (n:=60) (by rw [List.length_map]; lia) (by decide),?_⟩
      have g8:=g7.list hpn np npC h7 (zs:=ps.map V.int ++ [.int r])
      have h8 : upd H7 p (.lst (ps.map V.int ++ [.int r])) p = some (.lst ((ps ++ [r]).map V.int)) := by rw [upd_same,List.map_append]; rfl
      generalize upd H7 p (.lst (ps.map V.int ++ [.int r])) = H8 at g8 h8
      have hat : atI ((ps ++ [r]).map V.int) (-1) = some (.int r) := by
        unfold atI ixN
        rw [if_neg (by decide),if_pos (by rw [List.length_map,List.length_append,List.length_singleton]; lia)]
        rw [List.length_map,List.length_append,List.length_singleton,show ((-1 : Int) + ((ps.length + 1 : Nat) : Int)).toNat = ps.length by lia]
        simp
      refine ⟨_,rfl,_,rfl,_,rfl,_,_,_,_,rfl,rfl,SqL.of h8,hat,_,_,rfl,rfl,_,left - r,ps ++ [r],rfl,g8,h8,by simp [hpl],fun z hz => ?_,by lia,by lia⟩
      rcases List.mem_append.mp hz with hz | hz
      · exact hps z hz
      · rw [List.mem_singleton.mp hz]; exact ⟨r0,by lia⟩
    · rintro σ H6 ⟨r8,left,ps,rfl,g6,h6,hpl,hps,l0,l3⟩
      obtain ⟨x6,hl6⟩:=g6.pile
      refine ⟨_,rfl,_,rfl,l,x6,(many : Int),rfl,hl6,by lia,by lia,fun turn y t0 t1 => ?_⟩
      have g7:=g6.take nC y
      have h7 : upd H6 l (.lst [.int y]) p = some (.lst (ps.map V.int)) := by rw [upd_ne np]; exact h6
      generalize upd H6 l (.lst [.int y]) = H7 at g7 h7
      obtain ⟨x7,hl7⟩:=g7.pile
      refine ⟨_,rfl,l,x7,rfl,hl7,fun c fr y8 H8 e8 hc r6 d6 => ?_⟩
      have g8:=(g7.take nC y8).same e8
      have h8 : H8 p = some (.lst (ps.map V.int)):=e8 _ _ (by rw [upd_ne np]; exact h7)
      obtain ⟨ta,hta0⟩ : ∃ ta,ta = fr.num:=⟨_,rfl⟩
      obtain ⟨tb,htb0⟩ : ∃ tb,tb = (fr.den : Int):=⟨_,rfl⟩
      replace hc : H8 c = some (.tup [.int ta,.int tb]) := by rw [hta0,htb0]; exact hc
      refine ⟨_,rfl,sz60' (show 2≤60 by decide),fun q0 hq => ?_⟩
      have e9:=same_new hq (.tup [.int 0,.int 1])
      have hq9 : upd H8 q0 (.tup [.int 0,.int 1]) q0 = some (.tup [.int 0,.int 1]):=upd_same
      generalize upd H8 q0 (.tup [.int 0,.int 1]) = H9 at e9 hq9
      have g9:=g8.same e9
      have h9:=e9 _ _ h8
      have hc9:=e9 _ _ hc
      have sh : ∀ a b : Int,SeqAt.shaped (.tuple [.int a,.int b]) = true:=fun a b => (Sm.tup (n:=0) (ds:=[.int a,.int b]) (show 2≤60 by decide) (fun x hx => by
        rcases List.mem_cons.mp hx with rfl | hx
        · trivial
        · rw [List.mem_singleton.mp hx]; trivial)).ok.shaped (by decide)
      obtain ⟨x9,hl9⟩:=g9.pile
      have ntl : ∀ {b : Addr} {ys : List V},H9 b = some (.tup ys)→b≠l:=fun hb z => by rw [z,hl9] at hb; cases hb
      refine ⟨.tuple [.int ta,.int tb],.tuple [.int 0,.int 1],(Dt.tup (ntl hc9) hc9 (.cons .int (.cons .int .nil))).br,(Dt.tup (ntl hq9) hq9 (.cons .int (.cons .int .nil))).br,sh _ _,sh _ _,_,rfl,ite2 (fun b => ?_) (fun b => ?_)⟩
      · have hfr0 : fr≠0:=fun z => by
          have e1 : ta = 0 := by rw [hta0,z]; rfl
          have e2 : tb = 1 := by rw [htb0,z]; rfl
          subst e1 e2
          exact absurd b (by simp [PyData.eqv,PyData.eqvAll])
        refine ⟨_,rfl,_,rfl,_,rfl,_,rfl,_,rfl,p,_,rfl,SqL.of h9,fun p1 hp1 => ?_⟩
        have ea:=same_new hp1 (.lst (cutV (ps.map V.int) (some turn) none))
        have ha1 : upd H9 p1 (.lst (cutV (ps.map V.int) (some turn) none)) p1 = some (.lst (cutV (ps.map V.int) (some turn) none)):=upd_same
        generalize upd H9 p1 (.lst (cutV (ps.map V.int) (some turn) none)) = Ha at ea ha1
        refine ⟨_,rfl,_,rfl,_,rfl,p,_,rfl,SqL.of (ea _ _ h9),fun p2 hp2 => ?_⟩
        have eb:=same_new hp2 (.lst (cutV (ps.map V.int) none (some turn)))
        have hb2 : upd Ha p2 (.lst (cutV (ps.map V.int) none (some turn))) p2 = some (.lst (cutV (ps.map V.int) none (some turn))):=upd_same
        generalize upd Ha p2 (.lst (cutV (ps.map V.int) none (some turn))) = Hb at eb hb2
        refine ⟨p1,p2,_,_,rfl,rfl,eb _ _ ha1,hb2,?_,fun p3 hp3 => ?_⟩
        · have z1:=cutV_length (ps.map V.int) (some turn) none
          have z2:=cutV_length (ps.map V.int) none (some turn)
          rw [List.length_map] at z1 z2
          exact sz60' (by lia)
        rw [cut_two t0 (by lia)] at *
        have ec:=same_new hp3 (.lst ((ps.drop turn.toNat ++ ps.take turn.toNat).map V.int))
        have hc3 : upd Hb p3 (.lst ((ps.drop turn.toNat ++ ps.take turn.toNat).map V.int)) p3 = some (.lst ((ps.drop turn.toNat ++ ps.take turn.toNat).map V.int)):=upd_same
        generalize upd Hb p3 (.lst ((ps.drop turn.toNat ++ ps.take turn.toNat).map V.int)) = Hc at ec hc3
        refine ⟨p3,_,rfl,.inl ⟨SqL.of hc3,fun p4 hp4 => ?_⟩⟩
        have ed:=same_new hp4 (.tup ((ps.drop turn.toNat ++ ps.take turn.toNat).map V.int))
        have hd4 : upd Hc p4 (.tup ((ps.drop turn.toNat ++ ps.take turn.toNat).map V.int)) p4 = some (.tup ((ps.drop turn.toNat ++ ps.take turn.toNat).map V.int)):=upd_same
        generalize upd Hc p4 (.tup ((ps.drop turn.toNat ++ ps.take turn.toNat).map V.int)) = Hd at ed hd4
        have E:=ea.trans (eb.trans (ec.trans ed))
        have gd:=g9.same E
        have hcd:=E _ _ hc9
        refine ⟨C,_,rfl,DPut.t gd.dic (k:=(ps.drop turn.toNat ++ ps.take turn.toNat).map Sum.inl) (by rw [map_kV]; exact hd4) (sz60 (n:=60) (by have:=gd.len; lia) (by decide)),?_⟩
        have hCn : ∀ c ys,Hd c = some (.tup ys)→c≠C:=fun c ys hh z => by rw [z,gd.dic] at hh; cases hh
        refine ⟨_,_,_,_,_,_,_,rfl,⟨fun b o nb z => by rw [upd_ne (ne_of_none z hC)]; exact gd.tr _ _ nb z,let ⟨y,hy⟩:=gd.pile; ⟨y,by rw [upd_ne nC.symm]; exact hy⟩,upd_same,Nat.le_trans (length_putK _ _ _) (Nat.succ_le_succ gd.len),nodup_putK _ gd.nd,fun kv hk => ?_⟩⟩
        rcases mem_putK hk with hk | rfl
        · exact (gd.ok kv hk).step fun c ys hh => by rw [upd_ne (hCn c ys hh)]; exact hh
        · refine ⟨(ps.drop turn.toNat ++ ps.take turn.toNat,[ta,tb]),rfl,⟨c,rfl,by rw [upd_ne (hCn _ _ hcd)]; exact hcd⟩,?_,fun z hz => ?_,fr,by rw [hta0,htb0],hfr0,r6,d6⟩
          · simp only [List.length_append,List.length_drop,List.length_take]; lia
          · rcases List.mem_append.mp hz with hz | hz
            · exact hps z (List.mem_of_mem_drop hz)
            · exact hps z (List.mem_of_mem_take hz)
      · exact ⟨_,_,_,_,_,_,kvs,rfl,⟨g9.tr,g9.pile,g9.dic,Nat.le_succ_of_le g9.len,g9.nd,g9.ok⟩⟩
  · rintro σ H4 ⟨r5,r6,r7,r8,r9,r10,kvs,rfl,g4⟩
    obtain ⟨ts,k1,k2,k3,k4⟩:=kvs_terms g4.ok
    have hlen:=g4.len
    refine ⟨_,rfl,C,kvs,ts,rfl,g4.dic,by lia,k1,k4,fun D H' zs us e hD hD' hp hs hzl hz => ?_⟩
    obtain ⟨y4,hl4⟩:=g4.pile
    refine q _ H' us (g4.tr.trans (.of e)) ⟨by rw [hp.length_eq,k1]; lia,fun t ht => k2 t (hp.mem_iff.mp ht),sorted_strict hp (by rw [← k3]; exact g4.nd) hs⟩ fun c zc hc => ?_
    have hc4 : ∃ zc',H4 c = some (.lst zc') := by
      by_cases z : c = l
      · subst z; exact ⟨_,hl4⟩
      · exact ⟨_,g4.tr _ _ z hc⟩
    obtain ⟨zc',hc4⟩:=hc4
    exact .lst (ne_of_none hc4 hD).symm hD' (terms_dt e hc4 hzl hz)
end
def Gd (B M : Nat) (r : Rat) : Prop:=∃ z : Int,r = Rat.divInt z B∧z.natAbs≤M
theorem Gd.zero {B : Nat} : Gd B 0 0:=⟨0,by rw [Rat.zero_divInt],Nat.le_refl _⟩
theorem Gd.up {B M M' : Nat} {r : Rat} (h : Gd B M r) (k : M≤M') : Gd B M' r:=let ⟨z,a,b⟩:=h; ⟨z,a,Nat.le_trans b k⟩
theorem Gd.add {B M M' : Nat} {a b : Rat} (hB : B≠0) (h : Gd B M a) (k : Gd B M' b) : Gd B (M + M') (a + b) := by
  obtain ⟨x,rfl,hx⟩:=h
  obtain ⟨y,rfl,hy⟩:=k
  have h0 : (B : Int)≠0 := by lia
  refine ⟨x + y,?_,by lia⟩
  rw [Rat.divInt_add_divInt _ _ h0 h0,← Int.add_mul,Rat.divInt_mul_right h0]
theorem sumK_gd {B M : Nat} (hB : B≠0) {ts : List T3} (h : ∀ t∈ts,Gd B M (Rat.divInt t.2.1 t.2.2)) (k : List Int) : Gd B (ts.length * M) (sumK ts k) := by
  revert h
  refine snocInd (P:=fun ts : List T3 => (∀ t∈ts,Gd B M (Rat.divInt t.2.1 t.2.2))→Gd B (ts.length * M) (sumK ts k)) (fun _ => by rw [List.length_nil,Nat.zero_mul]; exact Gd.zero) (fun l t ih h => ?_) ts
  have h1:=ih fun u hu => h u (List.mem_append_left _ hu)
  rw [sumK_snoc,List.length_append,List.length_singleton,Nat.add_mul,Nat.one_mul]
  split
  · exact h1.add hB (h t (List.mem_append_right _ (.head _)))
  · exact h1.up (Nat.le_add_right _ _)
theorem Gd.fits {B M n : Nat} {r : Rat} (h : Gd B M r) (hB : B≠0) (h1 : M < 2 ^ n) (h2 : B < 2 ^ n) : FM.Fits r n := by
  obtain ⟨z,rfl,hz⟩:=h
  have h0 : (B : Int)≠0 := by lia
  exact FM.Fits.of_div h0 (Nat.lt_of_le_of_lt hz h1) (by simpa using h2)
theorem gd_small {r : Rat} (h1 : r.num.natAbs≤6) (h2 : r.den≤6) : Gd 60 360 r := by
  have h0 : r.den≠0:=r.den_nz
  have hd : ∃ c : Nat,r.den * c = 60∧c≤60 := by
    have : r.den = 1∨r.den = 2∨r.den = 3∨r.den = 4∨r.den = 5∨r.den = 6 := by lia
    rcases this with e | e | e | e | e | e <;> rw [e]
    · exact ⟨60,rfl,Nat.le_refl _⟩
    · exact ⟨30,rfl,by decide⟩
    · exact ⟨20,rfl,by decide⟩
    · exact ⟨15,rfl,by decide⟩
    · exact ⟨12,rfl,by decide⟩
    · exact ⟨10,rfl,by decide⟩
  obtain ⟨c,hc,hc2⟩:=hd
  have c0 : (c : Int)≠0 := by
    intro z
    have : c = 0 := by lia
    rw [this] at hc; lia
  refine ⟨r.num * c,?_,?_⟩
  · rw [← hc,Int.natCast_mul,Rat.divInt_mul_right c0,Rat.num_divInt_den]
  · rw [Int.natAbs_mul,Int.natAbs_natCast]
    exact Nat.le_trans (Nat.mul_le_mul h1 hc2) (by decide)
theorem Gd.mul {B M M' : Nat} {a b : Rat} (hB : B≠0) (h : Gd B M a) (k : Gd B M' b) : Gd (B * B) (M * M') (a * b) := by
  obtain ⟨x,rfl,hx⟩:=h
  obtain ⟨y,rfl,hy⟩:=k
  refine ⟨x * y,?_,by rw [Int.natAbs_mul]; exact Nat.mul_le_mul hx hy⟩
  rw [Rat.divInt_mul_divInt,Int.natCast_mul]
def toMo (t : IT.Tm) : Mono:=(t.1,Rat.divInt (t.2.getD 0 0) (t.2.getD 1 1))
structure MoOk (many : Nat) (m : Mono) : Prop where
  len : m.1.length = many
  pow : ∀ p∈m.1,(0 : Int)≤p∧p≤3
  nz : m.2≠0
  top : m.2.num.natAbs≤6
  bot : m.2.den≤6
theorem toMo_ok {many : Nat} {t : IT.Tm} (h : TmOk many t) : MoOk many (toMo t)∧tmT (mT3 (toMo t)) = t := by
  obtain ⟨a,b,r,e,c,d,f⟩:=h
  have e2 : toMo t = (t.1,r) := by
    unfold toMo
    rw [e]
    show (t.1,Rat.divInt r.num r.den) = _
    rw [Rat.num_divInt_den]
  rw [e2]
  exact ⟨⟨a,b,c,d,f⟩,Prod.ext rfl e.symm⟩
theorem poly_mo {many : Nat} {us : List IT.Tm} (h : PolyOk many us) : ∃ u : List Mono,us = u.map (fun m => tmT (mT3 m))∧u.length≤12∧(∀ m∈u,MoOk many m)∧u.Pairwise (fun x y => IT.lt y.1 x.1 = true) := by
  obtain ⟨a,b,c⟩:=h
  refine ⟨us.map toMo,?_,by rw [List.length_map]; exact a,fun m hm => ?_,List.pairwise_map.mpr c⟩
  · rw [List.map_map]
    refine (List.map_id us).symm.trans (List.map_congr_left fun t ht => ?_)
    exact (toMo_ok (b t ht)).2.symm
  · obtain ⟨t,ht,rfl⟩:=List.mem_map.mp hm
    exact (toMo_ok (b t ht)).1
theorem poly_tms {l : Addr} {H : Hp} {u : List Mono} {v : V} (h : Dt l H (.list ((u.map fun m => tmT (mT3 m)).map tmD)) v) : ∃ a xs,v = .ref a∧H a = some (.lst xs)∧Tms H (u.map mT3) xs := by
  have d:=dt_Du h
  rw [Du] at d
  obtain ⟨a,xs,rfl,ha,dx⟩:=d
  refine ⟨a,xs,rfl,ha,tms_du ?_⟩
  rw [List.map_map] at dx ⊢
  exact dx
theorem gath_self {u : List Mono} (h : u.Pairwise fun x y => IT.lt y.1 x.1 = true) (k : ∀ m∈u,m.2≠0) : gath (u.map mT3) = u := by
  have keys : ∀ u : List Mono,u.Pairwise (fun x y => IT.lt y.1 x.1 = true)→keysO (u.map mT3) = u.map (·.1):=fun u => by
    refine snocInd (P:=fun u : List Mono => u.Pairwise (fun x y => IT.lt y.1 x.1 = true)→keysO (u.map mT3) = u.map (·.1)) (fun _ => rfl) (fun l m ih h => ?_) u
    obtain ⟨h1,_,h3⟩:=List.pairwise_append.mp h
    rw [List.map_append,List.map_append,List.map_cons,List.map_nil,keysO_snoc,ih h1,if_neg ?_]
    · rfl
    · intro z
      obtain ⟨y,hy,e⟩:=List.mem_map.mp z
      have e : y.1 = m.1:=e
      have:=h3 y hy m (.head _)
      rw [e,IT.lt_irrefl] at this; cases this
  have sums : ∀ u : List Mono,u.Pairwise (fun x y => IT.lt y.1 x.1 = true)→∀ m∈u,sumK (u.map mT3) m.1 = m.2:=fun u => by
    refine snocInd (P:=fun u : List Mono => u.Pairwise (fun x y => IT.lt y.1 x.1 = true)→∀ m∈u,sumK (u.map mT3) m.1 = m.2) (fun _ m hm => by cases hm) (fun l m ih h x hx => ?_) u
    obtain ⟨h1,_,h3⟩:=List.pairwise_append.mp h
    rw [List.map_append,List.map_cons,List.map_nil,sumK_snoc]
    show (if m.1 = x.1 then sumK (l.map mT3) x.1 + Rat.divInt m.2.num m.2.den else sumK (l.map mT3) x.1) = x.2
    rw [Rat.num_divInt_den]
    rcases List.mem_append.mp hx with hx | hx
    · rw [if_neg (fun e => by have:=h3 x hx m (.head _); rw [e,IT.lt_irrefl] at this; cases this)]
      exact ih h1 x hx
    · have : x = m:=List.mem_singleton.mp hx
      subst this
      rw [if_pos rfl]
      have : sumK (l.map mT3) x.1 = 0 := by
        unfold sumK
        rw [ofK_new]
        · rfl
        · rw [keys l h1]
          intro z
          obtain ⟨y,hy,e⟩:=List.mem_map.mp z
          have:=h3 y hy x (.head _)
          rw [show y.1 = x.1 from e,IT.lt_irrefl] at this; cases this
      rw [this,Rat.zero_add]
  have hk : u.map (·.1) = gathK (u.map mT3):=gathK_of (by rw [keys u h]) (List.pairwise_map.mpr (h.imp fun {x y} e => by
    show IT.lt x.1 y.1 = false
    cases z : IT.lt x.1 y.1 with
    | false => rfl
    | true => have:=IT.lt_trans _ _ _ e z; rw [IT.lt_irrefl] at this; cases this))
  unfold gath
  rw [← hk,List.filterMap_map]
  have : ∀ l : List Mono,(∀ m∈l,m∈u)→l.filterMap (gathO (u.map mT3) ∘ fun m => m.1) = l:=fun l => by
    induction l with
    | nil => intro _; rfl
    | cons m l ih =>
      intro hl
      have hm:=hl m (.head _)
      rw [List.filterMap_cons,show (gathO (u.map mT3) ∘ fun m => m.1) m = some m from (if_neg (by rw [sums u h m hm]; exact k m hm)).trans (by rw [sums u h m hm])]
      show m :: _ = _
      rw [ih fun x hx => hl x (.tail _ hx)]
  exact this u fun m hm => hm
structure PM (H : Hp) (a : Addr) (u : List Mono) (many : Nat) : Prop where
  at_ : ∃ xs,H a = some (.lst xs)∧Tms H (u.map mT3) xs
  len : u.length≤12
  ok : ∀ m∈u,MoOk many m
  srt : u.Pairwise fun x y => IT.lt y.1 x.1 = true
  m1 : 1≤many
  m4 : many≤4
theorem PM.same {H H' : Hp} {a : Addr} {u : List Mono} {many : Nat} (h : PM H a u many) (e : Same H H') : PM H' a u many:=⟨let ⟨xs,p,q⟩:=h.at_; ⟨xs,e _ _ p,q.same e⟩,h.len,h.ok,h.srt,h.m1,h.m4⟩
theorem mo_fits {many : Nat} {m : Mono} (h : MoOk many m) {n : Nat} (hn : 3≤n) : FM.Fits m.2 n:=⟨Nat.lt_of_lt_of_le (Nat.lt_of_le_of_lt h.top (show 6 < 2 ^ 3 by decide)) (Nat.pow_le_pow_right (by decide) hn),Nat.lt_of_lt_of_le (Nat.lt_of_le_of_lt h.bot (show 6 < 2 ^ 3 by decide)) (Nat.pow_le_pow_right (by decide) hn)⟩
theorem mo_gd {many : Nat} {m : Mono} (h : MoOk many m) : Gd 60 360 (Rat.divInt (mT3 m).2.1 (mT3 m).2.2) := by
  show Gd 60 360 (Rat.divInt m.2.num m.2.den)
  rw [Rat.num_divInt_den]; exact gd_small h.top h.bot
theorem sum_fits {many : Nat} {u1 u2 : List Mono} (h1 : u1.length≤12) (h2 : u2.length≤12) (h : ∀ m∈u1 ++ u2,MoOk many m) (j : Nat) (k : List Int) : FM.Fits (sumK (((u1 ++ u2).map mT3).take j) k) 14 := by
  have hl : (((u1 ++ u2).map mT3).take j).length≤24 := by rw [List.length_take,List.length_map,List.length_append]; lia
  have g:=sumK_gd (B:=60) (M:=360) (by decide) (ts:=((u1 ++ u2).map mT3).take j) (fun t ht => by
    obtain ⟨m,hm,rfl⟩:=List.mem_map.mp (List.mem_of_mem_take ht)
    exact mo_gd (h m hm)) k
  exact (g.up (Nat.mul_le_mul_right 360 hl)).fits (by decide) (by decide) (by decide)
theorem prodT_len (u1 u2 : List Mono) : (prodT u1 u2).length = u1.length * u2.length := by
  induction u1 with
  | nil => simp [prodT]
  | cons m l ih =>
    have : prodT (m :: l) u2 = rowP m u2 ++ prodT l u2:=rfl
    rw [this,List.length_append,ih,List.length_cons,Nat.succ_mul]
    unfold rowP
    rw [List.length_map]; lia
theorem prodQ_len (u1 u2 : List Mono) : (prodQ u1 u2).length = u1.length * u2.length := by
  induction u1 with
  | nil => simp [prodQ]
  | cons m l ih =>
    have : prodQ (m :: l) u2 = rowQ m u2 ++ prodQ l u2:=rfl
    rw [this,List.length_append,ih,List.length_cons,Nat.succ_mul]
    unfold rowQ
    rw [List.length_map]; lia
theorem prodT_mem {u1 u2 : List Mono} {t : T3} (h : t∈prodT u1 u2) : ∃ m1∈u1,∃ m2∈u2,t = mT3 (addP m1.1 m2.1,m1.2 * m2.2) := by
  obtain ⟨m1,h1,h2⟩:=List.mem_flatMap.mp h
  obtain ⟨m2,h3,rfl⟩:=List.mem_map.mp h2
  exact ⟨m1,h1,m2,h3,rfl⟩
theorem prodQ_mem {u1 u2 : List Mono} {t : T3} (h : t∈prodQ u1 u2) : ∃ m1∈u1,∃ m2∈u2,t = (addP m1.1 m2.1,m1.2.num * m2.2.num,(m1.2.den : Int) * m2.2.den) := by
  obtain ⟨m1,h1,h2⟩:=List.mem_flatMap.mp h
  obtain ⟨m2,h3,rfl⟩:=List.mem_map.mp h2
  exact ⟨m1,h1,m2,h3,rfl⟩
theorem addP_len {many : Nat} {p q : List Int} (h : p.length = many) (k : q.length = many) : (addP p q).length = many := by unfold addP; rw [List.length_zipWith]; lia
theorem pro_gd {many : Nat} {m1 m2 : Mono} (h1 : MoOk many m1) (h2 : MoOk many m2) : Gd (60 * 60) (360 * 360) (m1.2 * m2.2):=(gd_small h1.top h1.bot).mul (by decide) (gd_small h2.top h2.bot)
theorem len144 {a b : Nat} (h : a≤12) (k : b≤12) : a * b≤144:=Nat.mul_le_mul h k
theorem pro_fits {many : Nat} {u1 u2 : List Mono} (l1 : u1.length≤12) (l2 : u2.length≤12) (h1 : ∀ m∈u1,MoOk many m) (h2 : ∀ m∈u2,MoOk many m) (l : List T3) (k : List Int) (hp : l <+: prodT u1 u2) : FM.Fits (sumK l k) 25 := by
  have hl : l.length≤144:=Nat.le_trans hp.length_le (by rw [prodT_len]; exact len144 l1 l2)
  have g:=sumK_gd (B:=60 * 60) (M:=360 * 360) (by decide) (ts:=l) (fun t ht => by
    obtain ⟨m1,k1,m2,k2,rfl⟩:=prodT_mem (hp.subset ht)
    show Gd _ _ (Rat.divInt (m1.2 * m2.2).num (m1.2 * m2.2).den)
    rw [Rat.num_divInt_den]
    exact pro_gd (h1 _ k1) (h2 _ k2)) k
  exact (g.up (Nat.mul_le_mul_right _ hl)).fits (by decide) (by decide) (by decide)
def TP (H : Hp) (D : Addr) (u : List Mono) : Prop:=∃ zs,H D = some (.lst zs)∧Tms H (u.map mT3) zs
theorem TP.same {H H' : Hp} {D : Addr} {u : List Mono} (h : TP H D u) (e : Same H H') : TP H' D u:=let ⟨zs,p,q⟩:=h; ⟨zs,e _ _ p,q.same e⟩
section
variable {H : Hp} {Q E : VK} {a b : Addr} {u1 u2 : List Mono} {many : Nat}
theorem PM.app (h : PM H a u1 many) (k : PM H b u2 many) : ∀ m∈u1 ++ u2,MoOk many m:=fun m hm => (List.mem_append.mp hm).elim (h.ok m) (k.ok m)
theorem pre_lsum {E} (h : PM H a u1 many) (k : PM H b u2 many) (q : ∀ D H',Same H H'→H D = none→TP H' D (gath ((u1 ++ u2).map mT3))→Q (.ref D) H') : spLSum [.ref a,.ref b] H Q E := by
  obtain ⟨xs,p1,t1⟩:=h.at_
  obtain ⟨ys,p2,t2⟩:=k.at_
  have:=h.len
  have:=k.len
  exact ⟨a,b,xs,ys,u1,u2,14,rfl,p1,p2,t1,t2,by lia,by decide,fun m hm => mo_fits (h.app k m hm) (by decide),sum_fits h.len k.len (h.app k),fun D H' zs e n p t => q D H' e n ⟨zs,p,t⟩⟩
theorem pre_lprod {E} (h : PM H a u1 many) (k : PM H b u2 many) (q : ∀ D H',Same H H'→H D = none→TP H' D (gath (prodT u1 u2))→Q (.ref D) H') : spLProd [.ref a,.ref b] H Q E := by
  obtain ⟨xs,p1,t1⟩:=h.at_
  obtain ⟨ys,p2,t2⟩:=k.at_
  have:=h.len
  have:=k.len
  have:=h.m4
  exact ⟨a,b,xs,ys,u1,u2,25,many,rfl,p1,p2,t1,t2,by lia,by lia,by decide,by lia,fun m hm => ⟨mo_fits (h.app k m hm) (by decide),(h.app k m hm).len⟩,fun m1 h1 m2 h2 => (pro_gd (h.ok m1 h1) (k.ok m2 h2)).fits (by decide) (by decide) (by decide),pro_fits h.len k.len h.ok k.ok,fun D H' zs e n p t => q D H' e n ⟨zs,p,t⟩⟩
theorem ne_nil {p : List Int} (h : p.length = many) (k : 1≤many) : p≠[]:=fun z => by rw [z] at h; simp at h; lia
theorem pre_psum {E} (h : PM H a u1 many) (k : PM H b u2 many) (q : ∀ D H',Same H H'→H D = none→TP H' D (gath ((u1 ++ u2).map mT3))→Q (.ref D) H') : spPSum [.ref a,.ref b] H Q E := by
  obtain ⟨xs,p1,t1⟩:=h.at_
  obtain ⟨ys,p2,t2⟩:=k.at_
  have:=h.len
  have:=k.len
  have hl : (u1.map mT3 ++ u2.map mT3).length≤24 := by rw [List.length_append,List.length_map,List.length_map]; lia
  refine ⟨a,b,xs,ys,u1.map mT3,u2.map mT3,3,3,rfl,p1,p2,t1,t2,by lia,fun t ht => ?_,by lia,by decide,fun D H' zs e n p t => q D H' e n ⟨zs,p,by rw [List.map_append]; exact t⟩⟩
  rw [← List.map_append] at ht
  obtain ⟨m,hm,rfl⟩:=List.mem_map.mp ht
  have o:=h.app k m hm
  have:=o.bot
  have:=m.2.den_pos
  have:=o.top
  exact ⟨ne_nil o.len h.m1,by show 1≤(m.2.den : Int); lia,by show m.2.num.natAbs < 8; lia,by show (m.2.den : Int).natAbs < 8; lia⟩
theorem pre_ptimes {E} (h : PM H a u1 many) (k : PM H b u2 many) (q : ∀ D H',Same H H'→H D = none→TP H' D (gath (prodT u1 u2))→Q (.ref D) H') : spPTimes [.ref a,.ref b] H Q E := by
  obtain ⟨xs,p1,t1⟩:=h.at_
  obtain ⟨ys,p2,t2⟩:=k.at_
  have:=h.m4
  have hl : (prodQ u1 u2).length≤144 := by rw [prodQ_len]; exact len144 h.len k.len
  refine ⟨a,b,xs,ys,u1,u2,3,many,6,6,rfl,p1,p2,t1,t2,by lia,by decide,by lia,fun m hm => ⟨mo_fits (h.app k m hm) (by decide),(h.app k m hm).len⟩,fun t ht => ?_,by lia,by decide,fun D H' zs e n p t => q D H' e n ⟨zs,p,by rw [← gath_prod]; exact t⟩⟩
  obtain ⟨m1,h1,m2,h2,rfl⟩:=prodQ_mem ht
  have o1:=h.ok m1 h1
  have o2:=k.ok m2 h2
  have d1:=m1.2.den_pos
  have d2:=m2.2.den_pos
  have e : (m1.2.den : Int) * m2.2.den = ((m1.2.den * m2.2.den : Nat) : Int):=(Int.natCast_mul _ _).symm
  refine ⟨ne_nil (addP_len o1.len o2.len) h.m1,?_,?_,?_⟩
  · show 1≤(m1.2.den : Int) * m2.2.den
    rw [e]
    have:=Nat.mul_pos d1 d2
    lia
  · show (m1.2.num * m2.2.num).natAbs < 64
    rw [Int.natAbs_mul]
    exact Nat.lt_of_le_of_lt (Nat.mul_le_mul o1.top o2.top) (by decide)
  · show ((m1.2.den : Int) * m2.2.den).natAbs < 64
    rw [e,Int.natAbs_natCast]
    exact Nat.lt_of_le_of_lt (Nat.mul_le_mul o1.bot o2.bot) (by decide)
theorem pre_scal {E} {F : Addr} {r : Rat} (h : PM H a u1 many) (hF : H F = some (.tup (ratV r))) (h1 : r.num.natAbs≤6) (h2 : r.den≤6) (q : ∀ D H',Same H H'→H D = none→TP H' D (scal u1 r)→Q (.ref D) H') : spScal [.ref a,.ref F] H Q E := by
  obtain ⟨xs,p1,t1⟩:=h.at_
  have:=h.len
  exact ⟨a,F,xs,u1,r,3,rfl,p1,hF,t1,by lia,by decide,⟨Nat.lt_of_le_of_lt h1 (by decide),Nat.lt_of_le_of_lt h2 (by decide)⟩,fun m hm => mo_fits (h.ok m hm) (by decide),fun D H' zs e n p t => q D H' e n ⟨zs,p,t⟩⟩
end
theorem du_intsL {H : Hp} : ∀ (ps : List Int),DUs H (ps.map .int) (ps.map V.int)
  | [] => .nil
  | _ :: ps => .cons .int (du_intsL ps)
theorem tms_dus {H : Hp} : ∀ {us : List Mono} {xs : List V},Tms H (us.map mT3) xs→DUs H (us.map monoD) xs
  | [],xs,h => by rw [List.eq_nil_of_length_eq_zero h.1]; exact .nil
  | m :: us,[],h => by cases h.1
  | m :: us,x :: xs,h => by
    obtain ⟨c,P,F,e,a,b,d⟩:=h.2 0 _ rfl
    cases e
    exact .cons (DU.tup a (.cons (DU.tup b (du_intsL m.1)) (.cons (DU.tup d (.cons .int (.cons .int .nil))) .nil))) (tms_dus ⟨by simpa using h.1,fun j u hu => h.2 (j + 1) u hu⟩)
theorem TP.du {H : Hp} {D : Addr} {u : List Mono} (h : TP H D u) : DU H (polyD u) (.ref D):=let ⟨_,p,q⟩:=h; DU.lst p (tms_dus q)
theorem PM.tp {H : Hp} {a : Addr} {u : List Mono} {many : Nat} (h : PM H a u many) : TP H a u:=h.at_
theorem gath_mem {ts : List T3} {m : Mono} (h : m∈gath ts) : ∃ t∈ts,t.1 = m.1 := by
  unfold gath at h
  obtain ⟨k,h1,h2⟩:=List.mem_filterMap.mp h
  unfold gathK at h1
  obtain ⟨t,h3,h4⟩:=keysO_mem ts ((List.mergeSort_perm _ _).mem_iff.mp h1)
  unfold gathO at h2
  split at h2
  · cases h2
  · cases h2; exact ⟨t,h3,h4⟩
theorem gath_len (ts : List T3) : (gath ts).length≤ts.length := by
  unfold gath
  refine Nat.le_trans (List.length_filterMap_le _ _) ?_
  unfold gathK
  rw [List.length_mergeSort]; exact keysO_len ts
theorem num_ints {n : Nat} {ps : List Int} (h : ps.length≤1000) : NumD (n + 1) (.tuple (ps.map .int)):=.inr ⟨_,.inl rfl,by rw [List.length_map]; exact h,fun e he => by
  obtain ⟨i,_,rfl⟩:=List.mem_map.mp he
  cases n with
  | zero => exact ⟨i,rfl⟩
  | succ n => exact .inl ⟨i,rfl⟩⟩
theorem num_poly {u : List Mono} (h : u.length≤1000) (k : ∀ m∈u,m.1.length≤1000) : NumD 3 (polyD u):=.inr ⟨_,.inr rfl,by rw [List.length_map]; exact h,fun e he => by
  obtain ⟨m,hm,rfl⟩:=List.mem_map.mp he
  refine .inr ⟨_,.inl rfl,show 2≤1000 by decide,fun e he => ?_⟩
  rcases List.mem_cons.mp he with rfl | he
  · exact num_ints (k m hm)
  · rw [List.mem_singleton.mp he]
    exact num_ints (n:=0) (ps:=[m.2.num,(m.2.den : Int)]) (show 2≤1000 by decide)⟩
theorem num_two {a b : PyData} {n : Nat} (h : NumD n a) (k : NumD n b) : NumD (n + 1) (.list [a,b]):=.inr ⟨_,.inr rfl,show 2≤1000 by decide,fun e he => by
  rcases List.mem_cons.mp he with rfl | he
  · exact h
  · rw [List.mem_singleton.mp he]; exact k⟩
theorem sm_ints {n : Nat} {ps : List Int} (h : ps.length≤60) : Sm (n + 1) (.tuple (ps.map .int)) := by
  refine .tup (by rw [List.length_map]; exact h) fun e he => ?_
  obtain ⟨i,_,rfl⟩:=List.mem_map.mp he
  exact leaf.sm trivial
theorem sm_poly {u : List Mono} (h : u.length≤60) (k : ∀ m∈u,m.1.length≤60) : Sm 3 (polyD u) := by
  refine .lst (by rw [List.length_map]; exact h) fun e he => ?_
  obtain ⟨m,hm,rfl⟩:=List.mem_map.mp he
  refine .tup (show 2≤60 by decide) fun e he => ?_
  rcases List.mem_cons.mp he with rfl | he
  · exact sm_ints (k m hm)
  · rw [List.mem_singleton.mp he]
    exact sm_ints (n:=0) (ps:=[m.2.num,(m.2.den : Int)]) (show 2≤60 by decide)
theorem num_up : ∀ {n : Nat} {d : PyData},NumD n d→NumD (n + 1) d
  | 0,_,⟨i,h⟩ => .inl ⟨i,h⟩
  | _ + 1,_,.inl h => .inl h
  | _ + 1,_,.inr ⟨ds,h1,h2,h3⟩ => .inr ⟨ds,h1,h2,fun e he => num_up (h3 e he)⟩
theorem scal_num {u : List Mono} {r : Rat} {many : Nat} (h : u.length≤12) (k : ∀ m∈u,MoOk many m) (h4 : many≤4) : NumD 4 (polyD (scal u r)) := by
  refine num_up (num_poly ?_ fun m hm => ?_)
  · unfold scal; split
    · exact Nat.zero_le _
    · rw [List.length_map]; lia
  · unfold scal at hm; split at hm
    · cases hm
    · obtain ⟨x,hx,rfl⟩:=List.mem_map.mp hm
      have:=(k x hx).len
      show x.1.length≤1000; lia
theorem scal_one (u : List Mono) : scal u 1 = u := by
  unfold scal
  rw [if_neg (by decide)]
  refine (List.map_congr_left fun m _ => ?_).trans (List.map_id u)
  show (m.1,m.2 * 1) = m
  rw [Rat.mul_one]
theorem pm_nil {H : Hp} {a : Addr} {many : Nat} (h : H a = some (.lst [])) (h1 : 1≤many) (h4 : many≤4) : PM H a [] many:=⟨⟨[],h,rfl,fun j t ht => by cases ht⟩,Nat.zero_le _,(fun m hm => by cases hm),.nil,h1,h4⟩
@[irreducible] def PSo (X : Cx) (st : Stmt) (t : TS) : Prop:=PS X st t
@[irreducible] def PSq (X : Cx) (sts : List Stmt) (t : TS) : Prop:=PSs X sts t
@[irreducible] def PIo (X : Cx) (tg e : Expr) (t : TI) : Prop:=PI X tg e t
@[irreducible] def PGo (X : Cx) (tg : Expr) (t : TG) : Prop:=PG X tg t
@[irreducible] def PTo (X : Cx) (e : Expr) (t : TT) : Prop:=PT X e t
@[irreducible] def PEo (X : Cx) (e : Expr) (t : TE) : Prop:=PE X e t
section
variable {X : Cx}
theorem PEo.of {e : Expr} {t : TE} (h : PE X e t) : PEo X e t := by unfold PEo; exact h
theorem PSo.of {st : Stmt} {t : TS} (h : PS X st t) : PSo X st t := by unfold PSo; exact h
theorem PIo.of {tg e : Expr} {t : TI} (h : PI X tg e t) : PIo X tg e t := by unfold PIo; exact h
theorem PGo.of {tg : Expr} {t : TG} (h : PG X tg t) : PGo X tg t := by unfold PGo; exact h
theorem PTo.of {e : Expr} {t : TT} (h : PT X e t) : PTo X e t := by unfold PTo; exact h
theorem q_nil : PSq X [] tNext := by unfold PSq; exact pss_nil
theorem q_one {s : Stmt} {t : TS} (h : PSo X s t) : PSq X [s] t := by unfold PSo at h; unfold PSq; exact pss_one h
theorem q_cons {s : Stmt} {sts : List Stmt} {t u : TS} (h : PSo X s t) (k : PSq X sts u) : PSq X (s :: sts) (tSeq t u) := by unfold PSo at h; unfold PSq at k ⊢; exact pss_cons h k
theorem q_if {c : Expr} {a b : List Stmt} {pos : Pos} {tc : TT} {t u : TS} (hc : PTo X c tc) (ha : PSq X a t) (hb : PSq X b u) : PSo X (.If c a b pos) (tIfS tc t u) := by unfold PTo at hc; unfold PSq at ha hb; unfold PSo; exact ps_if hc ha hb
theorem q_for {tg iter : Expr} {body : List Stmt} {wi : TI} {g : TG} {tb : TS} {pos : Pos} (hp : PassesOwn (model X.prog X.w) X.A X.env X.xe) (hc : X.calm = true) (hi : PIo X tg iter wi) (hg : PGo X tg g) (hb : PSq X body tb)
    (hs : ∀ x,foldedSetIterable iter X.env x = pure x := by intro _; rfl) : PSo X (.For tg iter body [] pos) (tFor wi g tb) := by unfold PIo at hi; unfold PGo at hg; unfold PSq at hb; unfold PSo; exact ps_for hp hc hi hg hb hs
theorem q_list4 {tg e1 e2 e3 e4 : Expr} {t1 t2 t3 t4 : TE} {pos : Pos} (h1 : PEo X e1 t1) (h2 : PEo X e2 t2) (h3 : PEo X e3 t3) (h4 : PEo X e4 t4) (k1 : starEach (e1 :: e2 :: e3 :: e4 :: []) X.env = (false,eval e1 X.env) :: starEach (e2 :: e3 :: e4 :: []) X.env := by rfl) (k2 : starEach (e2 :: e3 :: e4 :: []) X.env = (false,eval e2 X.env) :: starEach (e3 :: e4 :: []) X.env := by rfl) (k3 : starEach (e3 :: e4 :: []) X.env = (false,eval e3 X.env) :: starEach (e4 :: []) X.env := by rfl) (k4 : starEach (e4 :: []) X.env = (false,eval e4 X.env) :: starEach ([]) X.env := by rfl) : PIo X tg (.List [e1,e2,e3,e4] pos) (iList X.K (tLst (tCons t1 (tCons t2 (tCons t3 (tCons t4 tNil)))))) := by
  unfold PEo at h1 h2 h3 h4; unfold PIo; exact pi_list (pe_lst (pa_cons h1 (pa_cons h2 (pa_cons h3 (pa_cons h4 pa_nil k4) k3) k2) k1))
theorem q_go {sts : List Stmt} {t : TS} (h : PSq X sts t) {Pz : TS→Prop} (k : Pz t) : ∃ t,PSs X sts t∧Pz t := by unfold PSq at h; exact ⟨t,h,k⟩
end
theorem nil_go {σ : St} {H : Hp} {Q : List V→Hp→Prop} (h : Q [] H) : tNil σ H Q:=h
def spLaw (K : PySem.W.Frag) : Sp:=fun vs H Q _ => ∃ (a : Addr) (ns : List Int),vs = [.ref a]∧SqL K H a (ns.map V.int)∧ns.length≤63∧∀ H',Q (.bl true) H'
section
variable {P : Program} {w : World} {K : PySem.W.Frag} {mg : Str→Option Value} {base : Heap} {f g1 g2 g3 g4 g5 g6 g7 g8 g9 g10 : Addr} {fd gd1 gd2 gd3 gd4 gd5 gd6 gd7 gd8 gd9 gd10 : FuncData}
theorem sc_law : FnScope ["_law_script", "_law_many", "_law_one", "_law_other", "_law_part_here", "_law_handed", "_law_left", "_law_right", "_law_pair", "_law_due", "_law_turn", "_law_found", "_law_taken_so", "_law_some"] ["_law_script"] (defScope s_law):=⟨rfl,rfl,rfl,by decide +kernel,rfl,by decide +kernel,by decide +kernel⟩
theorem ok_law (F : Fn K mg "law" s_law ["_law_script"] f fd) (T__law_cell : Fn K mg "_law_cell" s__law_cell ["_law_script", "_law_k"] g1 gd1) (T__law_poly : Fn K mg "_law_poly" s__law_poly ["_law_pile", "_law_many", "_law_most"] g2 gd2) (T__law_part : Fn K mg "_law_part" s__law_part ["_law_pile"] g3 gd3) (T__law_sum : Fn K mg "_law_sum" s__law_sum ["_law_one", "_law_other"] g4 gd4) (T__law_product : Fn K mg "_law_product" s__law_product ["_law_one", "_law_other"] g5 gd5) (T__law_same : Fn K mg "_law_same" s__law_same ["_law_found", "_law_due"] g6 gd6) (T_poly_sum : Fn K mg "poly_sum" s_poly_sum ["one", "other"] g7 gd7) (T_poly_times : Fn K mg "poly_times" s_poly_times ["one", "other"] g8 gd8) (T_poly_scaled : Fn K mg "poly_scaled" s_poly_scaled ["some", "part"] g9 gd9) (T__law_by : Fn K mg "_law_by" s__law_by ["_law_one", "_law_other"] g10 gd10)
    (G__law_cell : FnOk P w K mg base CX0 9 g1 gd1 ["_law_script", "_law_k"] (spCellP K)) (G__law_poly : FnOk P w K mg base CX0 9 g2 gd2 ["_law_pile", "_law_many", "_law_most"] spPoly) (G__law_part : FnOk P w K mg base CX0 9 g3 gd3 ["_law_pile"] spDrawn) (G__law_sum : FnOk P w K mg base CX0 9 g4 gd4 ["_law_one", "_law_other"] spLSum) (G__law_product : FnOk P w K mg base CX0 9 g5 gd5 ["_law_one", "_law_other"] spLProd) (G__law_same : FnOk P w K mg base CX0 9 g6 gd6 ["_law_found", "_law_due"] (spSame 5)) (G_poly_sum : FnOk P w K mg base CX0 9 g7 gd7 ["one", "other"] spPSum) (G_poly_times : FnOk P w K mg base CX0 9 g8 gd8 ["one", "other"] spPTimes) (G_poly_scaled : FnOk P w K mg base CX0 9 g9 gd9 ["some", "part"] spScal) (G__law_by : FnOk P w K mg base CX0 9 g10 gd10 ["_law_one", "_law_other"] (spOp K (fun p q => p * q) (fun _ => True)))
    (z_list : mg "list" = none) (z_range : mg "range" = none) : FnOk P w K mg base CX0 10 f fd ["_law_script"] (spLaw K) := by
  have sc:=sc_law
  refine F.F.ok (k:=9) sc (fun vs H Q E h => ?_) (fun cdv A outer s H vs Q E hr h => ?_)
  · obtain ⟨a,ns,rfl,_⟩:=h
    rfl
  obtain ⟨a,ns,rfl,hS,h63,fin⟩:=h
  refine' q_go (q_cons ?c1 (q_cons ?c2 (q_cons ?c3 (q_cons ?c4 (q_cons ?c5 (q_cons ?c6 (q_cons ?c7 (q_cons ?c8 (q_cons ?c9 (q_cons ?c10 (q_cons ?c11 (q_cons ?c12 (q_one ?c13))))))))))))) ?c37
  case c1 => exact .of (ps_set (i:=1) sc.nd rfl (Or.inl rfl) (pe_op op_add pe_int (pe_op op_mod (pe_fn T__law_cell G__law_cell hr rfl (pa_cons (pv 0) (pa_cons pe_int pa_nil))) pe_int)))
  case c2 => exact .of (ps_set (i:=2) sc.nd rfl (Or.inl rfl) (pe_fn T__law_poly G__law_poly hr rfl (pa_cons (pe_lst (pa_cons (pe_fn T__law_cell G__law_cell hr rfl (pa_cons (pv 0) (pa_cons pe_int pa_nil))) pa_nil)) (pa_cons (pv 1) (pa_cons pe_int pa_nil)))))
  case c3 => exact .of (ps_set (i:=3) sc.nd rfl (Or.inl rfl) (pe_fn T__law_poly G__law_poly hr rfl (pa_cons (pe_lst (pa_cons (pe_fn T__law_cell G__law_cell hr rfl (pa_cons (pv 0) (pa_cons pe_int pa_nil))) pa_nil)) (pa_cons (pv 1) (pa_cons pe_int pa_nil)))))
  case c4 => exact .of (ps_set (i:=4) sc.nd rfl (Or.inr rfl) (pe_fn T__law_part G__law_part hr rfl (pa_cons (pe_lst (pa_cons (pe_fn T__law_cell G__law_cell hr rfl (pa_cons (pv 0) (pa_cons pe_int pa_nil))) pa_nil)) pa_nil)))
  case c5 => exact .of (ps_set (i:=5) sc.nd rfl (Or.inl rfl) (pe_lst (pa_cons (pe_callTy call_list_of rfl z_list PyProof.Rows.boot_list (pa_cons (pv 2) pa_nil)) (pa_cons (pe_callTy call_list_of rfl z_list PyProof.Rows.boot_list (pa_cons (pv 3) pa_nil)) pa_nil))))
  case c6 =>
    refine' (q_for PassesOwn.never rfl ?c14 ?c15 (q_cons ?c16 (q_cons ?c17 (q_one ?c18))))
    case c14 => exact q_list4 (.of (pe_tup (pa_cons pe_int (pa_cons pe_int pa_nil)))) (.of (pe_tup (pa_cons pe_int (pa_cons pe_int pa_nil)))) (.of (pe_tup (pa_cons pe_int (pa_cons pe_int pa_nil)))) (.of (pe_tup (pa_cons pe_int (pa_cons pe_int pa_nil))))
    case c15 => exact .of (pg_tup rfl (pgs_cons (pg_name (i:=6) sc.nd rfl (Or.inl rfl)) (pgs_cons (pg_name (i:=7) sc.nd rfl (Or.inl rfl)) pgs_nil)))
    case c16 => exact .of (ps_set (i:=8) sc.nd rfl (Or.inl rfl) (pe_lst (pa_cons (pv 2) (pa_cons (pv 3) pa_nil))))
    case c17 => exact .of (ps_set (i:=9) sc.nd rfl (Or.inl rfl) (pe_lst (pa_cons (pe_fn T__law_sum G__law_sum hr rfl (pa_cons (pe_ix ix_list (pv 8) (pv 6) (fun _ _ => rfl)) (pa_cons (pe_ix ix_list (pv 8) (pv 7) (fun _ _ => rfl)) pa_nil))) (pa_cons (pe_fn T__law_product G__law_product hr rfl (pa_cons (pe_ix ix_list (pv 8) (pv 6) (fun _ _ => rfl)) (pa_cons (pe_ix ix_list (pv 8) (pv 7) (fun _ _ => rfl)) pa_nil))) pa_nil))))
    case c18 =>
      refine' (q_for PassesOwn.never rfl ?c19 ?c20 (q_cons ?c21 (q_cons ?c22 (q_cons ?c23 (q_one ?c24)))))
      case c19 => exact .of (pi_range1 rfl z_range (pa_cons pe_int pa_nil))
      case c20 => exact .of (pg_name (i:=10) sc.nd rfl (Or.inl rfl))
      case c21 => exact .of (ps_set (i:=11) sc.nd rfl (Or.inl rfl) (pe_lst (pa_cons (pe_fn T_poly_sum G_poly_sum hr rfl (pa_cons (pe_ix ix_list (pv 5) (pv 6) (fun _ _ => rfl)) (pa_cons (pe_ix ix_list (pv 5) (pv 7) (fun _ _ => rfl)) pa_nil))) (pa_cons (pe_fn T_poly_times G_poly_times hr rfl (pa_cons (pe_ix ix_list (pv 5) (pv 6) (fun _ _ => rfl)) (pa_cons (pe_ix ix_list (pv 5) (pv 7) (fun _ _ => rfl)) pa_nil))) pa_nil))))
      case c22 =>
        refine' (q_if ?c25 (q_one ?c26) q_nil)
        case c25 => exact .of (PW.pt (pw_or (pt_not (pt_val (pe_fn T__law_same G__law_same hr rfl (pa_cons (pv 11) (pa_cons (pv 9) pa_nil))))) (pw_or1 (pt_cmpR (op_neD (by have:=hr.units; exact this)) (pv 5) (pv 8) (nomark _)))))
        case c26 => exact .of (ps_ret pe_bl)
      case c23 => exact .of (ps_expr (pe_bm PySem.F.plainAttrs_list PySem.F.slot_list_append PySem.F.type_list_append mt_append (pe_ix ix_list (pv 11) pe_int (fun _ _ => rfl)) (pa_cons (pe_tup (pa_cons (pe_tup (pa_cons pe_int pa_nil)) (pa_cons (pe_tup (pa_cons pe_int (pa_cons pe_int pa_nil))) pa_nil))) pa_nil)))
      case c24 => exact .of (ps_expr (pe_bm0 PySem.F.plainAttrs_list PySem.F.slot_list_clear PySem.F.type_list_clear mt_clear (pe_ix ix_list (pv 11) pe_int (fun _ _ => rfl))))
  case c7 => exact .of (ps_setCompr2 (i:=12) [".0", "_law_powers", "_law_count", "_law_part_here"] 1 2 [none,none,none,some 4] sc.nd rfl rfl (pi_list (pv 2)) (fun _ _ _ _ _ => pif_nil) (fun _ _ _ _ _ => (pe_tup (pa_cons (pv 1) (pa_cons (pe_fn T__law_by G__law_by hr rfl (pa_cons (pv 2) (pa_cons (pv 3) pa_nil))) pa_nil)))))
  case c8 =>
    refine' (q_if ?c27 (q_one ?c28) q_nil)
    case c27 => exact .of (pt_cmpR op_eq (pe_ix ix_tup (pv 4) pe_int (fun _ _ => rfl)) pe_int (nomark _))
    case c28 => exact .of (ps_set (i:=12) sc.nd rfl (Or.inl rfl) (pe_lst pa_nil))
  case c9 => exact .of (ps_set (i:=11) sc.nd rfl (Or.inl rfl) (pe_fn T_poly_scaled G_poly_scaled hr rfl (pa_cons (pe_ix ix_list (pv 5) pe_int (fun _ _ => rfl)) (pa_cons (pv 4) pa_nil))))
  case c10 =>
    refine' (q_if ?c29 (q_one ?c30) q_nil)
    case c29 => exact .of (PW.pt (pw_or (pt_not (pt_val (pe_fn T__law_same G__law_same hr rfl (pa_cons (pv 11) (pa_cons (pv 12) pa_nil))))) (pw_or1 (pt_cmpR (op_neD (by have:=hr.units; exact this)) (pe_fn T_poly_scaled G_poly_scaled hr rfl (pa_cons (pe_ix ix_list (pv 5) pe_int (fun _ _ => rfl)) (pa_cons (pe_tup (pa_cons pe_int (pa_cons pe_int pa_nil))) pa_nil))) (pe_lst pa_nil) (nomark _)))))
    case c30 => exact .of (ps_ret pe_bl)
  case c11 => exact .of (ps_expr (pe_bm PySem.F.plainAttrs_list PySem.F.slot_list_append PySem.F.type_list_append mt_append (pv 11) (pa_cons pe_int pa_nil)))
  case c12 =>
    refine' (q_for PassesOwn.never rfl ?c31 ?c32 (q_cons ?c33 (q_one ?c34)))
    case c31 => exact .of (pi_list (pe_lst (pa_cons (pe_fn T_poly_sum G_poly_sum hr rfl (pa_cons (pe_ix ix_list (pv 5) pe_int (fun _ _ => rfl)) (pa_cons (pe_lst pa_nil) pa_nil))) (pa_cons (pe_fn T_poly_scaled G_poly_scaled hr rfl (pa_cons (pe_ix ix_list (pv 5) pe_int (fun _ _ => rfl)) (pa_cons (pe_tup (pa_cons pe_int (pa_cons pe_int pa_nil))) pa_nil))) pa_nil))))
    case c32 => exact .of (pg_name (i:=13) sc.nd rfl (Or.inl rfl))
    case c33 =>
      refine' (q_if ?c35 (q_one ?c36) q_nil)
      case c35 => exact .of (pt_cmpR (op_neD (by have:=hr.units; exact this)) (pv 13) (pv 2) (nomark _))
      case c36 => exact .of (ps_ret pe_bl)
    case c34 => exact .of (ps_expr (pe_bm PySem.F.plainAttrs_list PySem.F.slot_list_append PySem.F.type_list_append mt_append (pv 13) (pa_cons pe_int pa_nil)))
  case c13 => exact .of (ps_ret (pe_and (pe_cmpR (op_eqD (by have:=hr.units; exact this)) (pv 5) (pe_lst (pa_cons (pv 2) (pa_cons (pv 3) pa_nil))) (nomark _)) (pe_one (pe_fn T__law_same G__law_same hr rfl (pa_cons (pe_fn T_poly_scaled G_poly_scaled hr rfl (pa_cons (pe_ix ix_list (pv 5) pe_int (fun _ _ => rfl)) (pa_cons (pv 4) pa_nil))) (pa_cons (pv 12) pa_nil))))))
  case c37 =>
  skip
  refine ⟨_,rfl,a,ns,0,rfl,hS,by decide,by decide,fun x0 => ⟨_,_,rfl,rfl,(by show (0 : Int) < 4; decide),_,_,rfl,rfl,?_⟩⟩
  obtain ⟨many,hm1,hm4,em⟩ : ∃ many : Nat,1≤many∧many≤4∧1 + x0 % 4 = (many : Int):=⟨(1 + x0 % 4).toNat,by lia,by lia,by lia⟩
  rw [show ((fun i j : Int => V.int (i + j)) 1 (x0 % 4)) = V.int (many : Int) from congrArg V.int em]
  clear em
  refine ⟨_,rfl,a,ns,1,rfl,hS,by decide,by decide,fun x1 => ⟨sz60' (show 1≤60 by decide),fun l hl => ?_⟩⟩
  have e0:=same_new hl (.lst [.int x1])
  have hl0 : upd H l (.lst [.int x1]) l = some (.lst [.int x1]):=upd_same
  generalize upd H l (.lst [.int x1]) = H0 at e0 hl0
  refine ⟨_,rfl,l,x1,many,rfl,hl0,hm1,hm4,fun v H1 us e1 ok dv => ?_⟩
  obtain ⟨u1,rfl,n1,o1,s1⟩:=poly_mo ok
  obtain ⟨A1,xs,rfl,hA,tx⟩:=poly_tms (dv l _ hl0)
  have tr : Same H H1:=e0.but e1 hl
  have po1 : PM H1 A1 u1 many:=⟨⟨xs,hA,tx⟩,n1,o1,s1,hm1,hm4⟩
  have hS:=tr.seq hS
  clear dv hA tx e0 e1 hl0 hl tr ok n1 s1
  refine ⟨_,rfl,a,ns,2,rfl,hS,by decide,by decide,fun x2 => ⟨sz60' (show 1≤60 by decide),fun l hl => ?_⟩⟩
  have e0:=same_new hl (.lst [.int x2])
  have hl0 : upd H1 l (.lst [.int x2]) l = some (.lst [.int x2]):=upd_same
  generalize upd H1 l (.lst [.int x2]) = H0 at e0 hl0
  refine ⟨_,rfl,l,x2,many,rfl,hl0,hm1,hm4,fun v H2 us e1 ok dv => ?_⟩
  obtain ⟨u2,rfl,n2,o2,s2⟩:=poly_mo ok
  obtain ⟨A2,xs,rfl,hA,tx⟩:=poly_tms (dv l _ hl0)
  have tr : Same H1 H2:=e0.but e1 hl
  have po2 : PM H2 A2 u2 many:=⟨⟨xs,hA,tx⟩,n2,o2,s2,hm1,hm4⟩
  have po1:=po1.same tr
  have hS:=tr.seq hS
  clear dv hA tx e0 e1 hl0 hl tr ok n2 s2
  refine ⟨_,rfl,a,ns,3,rfl,hS,by decide,by decide,fun x3 => ⟨sz60' (show 1≤60 by decide),fun l hl => ?_⟩⟩
  refine ⟨l,x3,rfl,upd_same,fun Fp r y H3 e3 hF r6' d6 => ?_⟩
  have tr : Same H2 H3:=fun b o z => e3 _ _ (by rw [upd_ne (ne_of_none z hl),upd_ne (ne_of_none z hl)]; exact z)
  have po1:=po1.same tr
  have po2:=po2.same tr
  clear e3 hl tr hS
  obtain ⟨xs1,ha1,tx1⟩:=po1.at_
  obtain ⟨xs2,ha2,tx2⟩:=po2.at_
  refine ⟨_,rfl,A1,xs1,rfl,.inl (SqL.of ha1),fun p1 hp1 => ?_⟩
  have e4:=same_new hp1 (.lst xs1)
  have pq1 : PM (upd H3 p1 (.lst xs1)) p1 u1 many:=⟨⟨xs1,upd_same,tx1.same e4⟩,po1.len,po1.ok,po1.srt,hm1,hm4⟩
  generalize upd H3 p1 (.lst xs1) = H4 at e4 pq1
  refine ⟨_,rfl,A2,xs2,rfl,.inl (SqL.of (e4 _ _ ha2)),fun p2 hp2 => ?_⟩
  have e5:=same_new hp2 (.lst xs2)
  have pq2 : PM (upd H4 p2 (.lst xs2)) p2 u2 many:=⟨⟨xs2,upd_same,(tx2.same e4).same e5⟩,po2.len,po2.ok,po2.srt,hm1,hm4⟩
  generalize upd H4 p2 (.lst xs2) = H5 at e5 pq2
  refine ⟨sz60' (show 2≤60 by decide),fun p3 hp3 => ?_⟩
  have e6:=same_new hp3 (.lst [.ref p1,.ref p2])
  have h3 : upd H5 p3 (.lst [.ref p1,.ref p2]) p3 = some (.lst [.ref p1,.ref p2]):=upd_same
  generalize upd H5 p3 (.lst [.ref p1,.ref p2]) = H6 at e6 h3
  have E:=(e4.trans e5).trans e6
  have po1:=po1.same E
  have po2:=po2.same E
  have pq1:=pq1.same (e5.trans e6)
  have pq2:=pq2.same e6
  have hF:=E _ _ hF
  clear e4 e5 e6 E tx1 tx2 ha1 ha2 hp1 hp2 hp3
  have two : ∀ {Hx : Hp} {t : Addr} (i j : Int),Hx t = none→Same Hx (upd Hx t (.tup [.int i,.int j]))∧upd Hx t (.tup [.int i,.int j]) t = some (.tup [.int i,.int j]):=fun i j h => ⟨same_new h _,upd_same⟩
  refine ⟨sz60' (show 2≤60 by decide),fun t1 ht1 => ?_⟩
  obtain ⟨f1,w1⟩:=two 0 1 ht1
  generalize upd H6 t1 _ = H7 at f1 w1
  refine ⟨sz60' (show 2≤60 by decide),fun t2 ht2 => ?_⟩
  obtain ⟨f2,w2⟩:=two 1 0 ht2
  generalize upd H7 t2 _ = H8 at f2 w2
  refine ⟨sz60' (show 2≤60 by decide),fun t3 ht3 => ?_⟩
  obtain ⟨f3,w3⟩:=two 0 0 ht3
  generalize upd H8 t3 _ = H9 at f3 w3
  refine ⟨sz60' (show 2≤60 by decide),fun t4 ht4 => ?_⟩
  obtain ⟨f4,w4⟩:=two 1 1 ht4
  generalize upd H9 t4 _ = H10 at f4 w4
  refine ⟨sz60' (show 4≤60 by decide),fun Lp hLp => ?_⟩
  have f5:=same_new hLp (.lst [.ref t1,.ref t2,.ref t3,.ref t4])
  have hL : upd H10 Lp (.lst [.ref t1,.ref t2,.ref t3,.ref t4]) Lp = some (.lst [.ref t1,.ref t2,.ref t3,.ref t4]):=upd_same
  generalize upd H10 Lp (.lst [.ref t1,.ref t2,.ref t3,.ref t4]) = H11 at f5 hL
  have E : Same H6 H11:=f1.trans (f2.trans (f3.trans (f4.trans f5)))
  have hpair : ∀ (i : Nat) x,[V.ref t1,.ref t2,.ref t3,.ref t4][i]? = some x→∃ (t : Addr) (i j : Int),x = .ref t∧H11 t = some (.tup [.int i,.int j])∧(i = 0∨i = 1)∧(j = 0∨j = 1):=fun i x hx => by
    match i,hx with
    | 0,hx => cases hx; exact ⟨t1,0,1,rfl,f5 _ _ (f4 _ _ (f3 _ _ (f2 _ _ w1))),.inl rfl,.inr rfl⟩
    | 1,hx => cases hx; exact ⟨t2,1,0,rfl,f5 _ _ (f4 _ _ (f3 _ _ w2)),.inr rfl,.inl rfl⟩
    | 2,hx => cases hx; exact ⟨t3,0,0,rfl,f5 _ _ (f4 _ _ w3),.inl rfl,.inl rfl⟩
    | 3,hx => cases hx; exact ⟨t4,1,1,rfl,f5 _ _ w4,.inr rfl,.inr rfl⟩
    | n + 4,hx => simp at hx
  have po1:=po1.same E
  have po2:=po2.same E
  have pq1:=pq1.same E
  have pq2:=pq2.same E
  have hF:=E _ _ hF
  have h3:=E _ _ h3
  clear f1 f2 f3 f4 f5 w1 w2 w3 w4 ht1 ht2 ht3 ht4 hLp E two
  have pick : ∀ i : Int,(i = 0∨i = 1)→∃ (a' b' : Addr) (u : List Mono),atI [V.ref A1,.ref A2] i = some (.ref a')∧atI [V.ref p1,.ref p2] i = some (.ref b')∧PM H11 a' u many∧PM H11 b' u many:=fun i hi => by
    rcases hi with rfl | rfl
    · exact ⟨A1,p1,u1,rfl,rfl,po1,pq1⟩
    · exact ⟨A2,p2,u2,rfl,rfl,po2,pq2⟩
  have smx : Sm 4 (.list [polyD u1,polyD u2]):=.lst (show 2≤60 by decide) fun e he => by
    rcases List.mem_cons.mp he with rfl | he
    · exact sm_poly (by have:=po1.len; lia) fun m hm => by rw [(po1.ok m hm).len]; lia
    · rw [List.mem_singleton.mp he]; exact sm_poly (by have:=po2.len; lia) fun m hm => by rw [(po2.ok m hm).len]; lia
  have zz:=eqv_self _ smx.ok.1
  have hd : ∀ {Hx : Hp},Same H11 Hx→DU Hx (.list [polyD u1,polyD u2]) (.ref p3):=fun e => DU.lst (e _ _ h3) (.cons ((pq1.same e).tp.du) (.cons ((pq2.same e).tp.du) .nil))
  refine ⟨Lp,rfl,⟨_,SqL.of hL⟩,for_list (xs:=[.ref t1,.ref t2,.ref t3,.ref t4]) (fun i σ H' => ∃ (r6 r7 r8 r9 r10 r11 : Option V),σ = [some (.ref a),some (.int many),some (.ref A1),some (.ref A2),some (.ref Fp),some (.ref p3),r6,r7,r8,r9,r10,r11,none,none]∧Same H11 H') ?_ ?_ ?_ ?_⟩
  · exact ⟨_,_,_,_,_,_,rfl,.refl _⟩
  · rintro i σ H' _ ⟨r6,r7,r8,r9,r10,r11,rfl,e⟩
    exact SqL.of (e _ _ hL)
  · rintro i x σ G0 hx ⟨r6,r7,r8,r9,r10,r11,rfl,e0⟩
    obtain ⟨t,il,ir,rfl,ht,hil,hir⟩:=hpair i x hx
    obtain ⟨aL,bL,uL,ea1,eb1,pa1,pb1⟩:=pick il hil
    obtain ⟨aR,bR,uR,ea2,eb2,pa2,pb2⟩:=pick ir hir
    refine ⟨t,_,rfl,SqT.of (e0 _ _ ht),rfl,_,_,rfl,_,_,rfl,rfl,?_⟩
    refine ⟨_,rfl,_,rfl,sz60' (show 2≤60 by decide),fun pp hpp => ?_⟩
    have e1:=same_new hpp (.lst [.ref A1,.ref A2])
    have hpp1 : upd G0 pp (.lst [.ref A1,.ref A2]) pp = some (.lst [.ref A1,.ref A2]):=upd_same
    generalize upd G0 pp (.lst [.ref A1,.ref A2]) = G1 at e1 hpp1
    have E1:=e0.trans e1
    refine ⟨_,rfl,_,rfl,_,_,_,_,rfl,rfl,SqL.of hpp1,ea1,?_⟩
    refine ⟨_,rfl,_,rfl,_,_,_,_,rfl,rfl,SqL.of hpp1,ea2,?_⟩
    refine nil_go ?_
    refine pre_lsum (pa1.same E1) (pa2.same E1) fun D1 G2 e2 _ tp1 => ?_
    refine ⟨_,rfl,_,rfl,_,_,_,_,rfl,rfl,SqL.of (e2 _ _ hpp1),ea1,?_⟩
    refine ⟨_,rfl,_,rfl,_,_,_,_,rfl,rfl,SqL.of (e2 _ _ hpp1),ea2,?_⟩
    have E2:=E1.trans e2
    refine nil_go ?_
    refine pre_lprod (pa1.same E2) (pa2.same E2) fun D2 G3 e3 _ tp2 => ?_
    have tp1:=tp1.same e3
    have E3:=E2.trans e3
    have hpp3:=e3 _ _ (e2 _ _ hpp1)
    refine ⟨sz60' (show 2≤60 by decide),fun dd hdd => ?_⟩
    generalize hG : upd _ dd _ = G4
    obtain ⟨e4,hdue,_⟩:=du_l hG hdd (.cons tp1.du (.cons tp2.du .nil))
    clear hG
    have E4:=E3.trans e4
    have hpp4:=e4 _ _ hpp3
    clear tp1 tp2 e2 e3 e4 E3 hpp3 hpp1 e1 E1 E2 hdd
    have nm : NumD 4 (.list [polyD (gath ((uL ++ uR).map mT3)),polyD (gath (prodT uL uR))]) := by
      refine num_two (num_poly ?_ fun m hm => ?_) (num_poly ?_ fun m hm => ?_)
      · have:=gath_len ((uL ++ uR).map mT3)
        have:=pa1.len
        have:=pa2.len
        rw [List.length_map,List.length_append] at *
        lia
      · obtain ⟨t,ht,e⟩:=gath_mem hm
        obtain ⟨m',hm',rfl⟩:=List.mem_map.mp ht
        have:=(pa1.app pa2 m' hm').len
        rw [← e]; show m'.1.length≤1000; lia
      · have:=gath_len (prodT uL uR)
        have:=len144 pa1.len pa2.len
        rw [prodT_len] at *
        lia
      · obtain ⟨t,ht,e⟩:=gath_mem hm
        obtain ⟨k1,j1,k2,j2,rfl⟩:=prodT_mem ht
        have:=addP_len (pa1.ok k1 j1).len (pa2.ok k2 j2).len
        rw [← e]; show (addP k1.1 k2.1).length≤1000; lia
    refine ⟨2,rfl,by decide,by decide,for_range (n:=(2 : Int).toNat) (fun i σ H' => ∃ (r10 r11 : Option V),σ = [some (.ref a),some (.int many),some (.ref A1),some (.ref A2),some (.ref Fp),some (.ref p3),some (.int il),some (.int ir),some (.ref pp),some (.ref dd),r10,r11,none,none]∧Same G4 H') ?_ ?_ ?_⟩
    · exact ⟨_,_,rfl,.refl _⟩
    · rintro k σ G5 hk ⟨r10,r11,rfl,e5⟩
      have E5:=E4.trans e5
      refine ⟨_,rfl,_,rfl,_,_,_,_,rfl,rfl,SqL.of (E5 _ _ h3),eb1,?_⟩
      refine ⟨_,rfl,_,rfl,_,_,_,_,rfl,rfl,SqL.of (E5 _ _ h3),eb2,?_⟩
      refine nil_go ?_
      refine pre_psum (pb1.same E5) (pb2.same E5) fun F1 G6 e6 n6 tp1 => ?_
      have E6:=E5.trans e6
      refine ⟨_,rfl,_,rfl,_,_,_,_,rfl,rfl,SqL.of (E6 _ _ h3),eb1,?_⟩
      refine ⟨_,rfl,_,rfl,_,_,_,_,rfl,rfl,SqL.of (E6 _ _ h3),eb2,?_⟩
      refine nil_go ?_
      refine pre_ptimes (pb1.same E6) (pb2.same E6) fun F2 G7 e7 n7 tp2 => ?_
      have E7:=E6.trans e7
      refine ⟨sz60' (show 2≤60 by decide),fun ff hff => ?_⟩
      have e8:=same_new hff (.lst [.ref F1,.ref F2])
      have hff8 : upd G7 ff (.lst [.ref F1,.ref F2]) ff = some (.lst [.ref F1,.ref F2]):=upd_same
      generalize upd G7 ff (.lst [.ref F1,.ref F2]) = G8 at e8 hff8
      have tp1_:=tp1
      have tp1:=(tp1.same e7).same e8
      have tp2:=tp2.same e8
      have up8 : Same G5 G8:=(e6.trans e7).trans e8
      refine ⟨_,rfl,_,rfl,_,_,_,4,rfl,rfl,nm,DU.lst hff8 (.cons tp1.du (.cons tp2.du .nil)),hdue.same (e5.trans up8),fun G9 e9 => ?_⟩
      have up9:=up8.trans e9
      have E9:=E5.trans up9
      have hpp9:=up9 _ _ (e5 _ _ hpp4)
      refine ⟨_,rfl,iteF ⟨_,rfl,_,rfl,_,_,(hd E9).br,(DU.lst hpp9 (.cons ((po1.same E9).tp.du) (.cons ((po2.same E9).tp.du) .nil))).br,smx.ok.shaped (by decide),smx.ok.shaped (by decide),_,rfl,?_⟩⟩
      have z' : (if true = true then !PyData.eqv (.list [polyD u1,polyD u2]) (.list [polyD u1,polyD u2]) else PyData.eqv (.list [polyD u1,polyD u2]) (.list [polyD u1,polyD u2])) = false := by rw [zz]; rfl
      first
        | rw [z']
        | rw [zz]
        | skip
      refine iteF ?_
      obtain ⟨zs1,hz1,tz1⟩:=tp1
      obtain ⟨zs2,hz2,tz2⟩:=tp2
      have hf9:=e9 _ _ hff8
      have hz1:=e9 _ _ hz1
      have hz2:=e9 _ _ hz2
      have k1 : H11 F1 = none:=noneS E5 n6
      refine ⟨_,rfl,_,_,_,_,rfl,rfl,SqL.of hf9,rfl,?_⟩
      have l1 : zs1.length≤1000 := by
        have:=gath_len ((uL ++ uR).map mT3)
        have:=pa1.len
        have:=pa2.len
        rw [tz1.1,List.length_map]
        rw [List.length_map,List.length_append] at *
        lia
      refine ⟨.inl ⟨rfl,_,SqL.of hz1⟩,sz60' (show 1≤60 by decide),fun q1 hq1 => ⟨sz60' (show 2≤60 by decide),fun q2 hq2 => ⟨sz60' (show 2≤60 by decide),fun q3 hq3 => ?_⟩⟩⟩
      generalize hG : upd (upd (upd G9 q1 _) q2 _) q3 _ = G10
      have e10 : Same G9 G10:=hG ▸ (same_new hq1 _).trans ((same_new hq2 _).trans (same_new hq3 _))
      clear hG hq1 hq2 hq3
      have hz1:=e10 _ _ hz1
      refine ⟨F1,zs1,_,rfl,rfl,hz1,szK l1,?_⟩
      have n12 : F2≠F1:=fun z => by
        rw [z] at n7
        obtain ⟨_,y,_⟩:=tp1_
        rw [y] at n7; cases n7
      have nfF : ff≠F1:=fun z => by obtain ⟨_,y,_⟩:=tp1_; rw [z,e7 _ _ y] at hff; cases hff
      have h1f : upd G10 F1 (.lst (zs1 ++ [.ref q3])) ff = some (.lst [.ref F1,.ref F2]) := by rw [upd_ne nfF]; exact e10 _ _ hf9
      have h1z : upd G10 F1 (.lst (zs1 ++ [.ref q3])) F2 = some (.lst zs2) := by rw [upd_ne n12]; exact e10 _ _ hz2
      have e11 : Same G4 (upd G10 F1 (.lst (zs1 ++ [.ref q3]))):=fun b o z => by
        rw [upd_ne (ne_of_none (e5 _ _ z) n6)]
        exact e10 _ _ (up9 _ _ (e5 _ _ z))
      have k2 : G4 F2 = none:=noneS e5 (noneS e6 n7)
      generalize upd G10 F1 (.lst (zs1 ++ [.ref q3])) = G11 at h1f h1z e11
      refine ⟨_,rfl,_,_,_,_,rfl,rfl,SqL.of h1f,rfl,.inl ⟨rfl,_,SqL.of h1z⟩,F2,zs2,rfl,rfl,h1z,?_⟩
      exact ⟨_,_,rfl,fun b o z => by rw [upd_ne (ne_of_none z k2)]; exact e11 _ _ z⟩
    · rintro σ G5 ⟨r10,r11,rfl,e5⟩
      exact ⟨_,_,_,_,_,_,rfl,E4.trans e5⟩
  rintro σ G0 ⟨r6,r7,r8,r9,r10,r11,rfl,e0⟩
  obtain ⟨xs1,ha1,tx1⟩:=(po1.same e0).at_
  have hxl : xs1.length = u1.length := by rw [tx1.1,List.length_map]
  have n12:=po1.len
  have hF0:=e0 _ _ hF
  refine ⟨_,rfl,A1,rfl,⟨_,SqL.of ha1⟩,fun D hD => comp_by2 (n:=u1.length) (fun i zs H' => Same G0 H'∧Tms H' (((u1.take i).map fun m => (m.1,m.2 * r)).map mT3) zs) ⟨same_new hD _,rfl,fun j t ht => by cases ht⟩ ?_ ?_⟩
  · rintro i zs H1 hi ⟨e1,tz⟩ hD1
    have hui : u1[i]? = some u1[i] := by simp [hi]
    have tk : u1.take (i + 1) = u1.take i ++ [u1[i]] := by rw [List.take_add_one,hui]; rfl
    have hm : u1[i]∈u1:=List.getElem_mem hi
    obtain ⟨c,Pw,Fr,q1,q2,q3,q4⟩:=tx1.2 i (mT3 u1[i]) (by rw [List.getElem?_map,hui]; rfl)
    have hzl : zs.length≤1000 := by rw [tz.1,List.length_map,List.length_map,List.length_take]; lia
    refine ⟨⟨xs1,.ref c,SqL.of (e1 _ _ ha1),q1⟩,szK hzl,fun x H' y => ?_⟩
    obtain ⟨rfl,y⟩:=y
    have hx:=y xs1 (SqL.of (e1 _ _ ha1))
    rw [q1] at hx
    cases hx
    refine ⟨c,_,_,rfl,SqT.of (e1 _ _ q2),?_⟩
    unfold tNoIf
    refine iteT ⟨_,rfl,_,rfl,_,rfl,.ref Fr,.ref Fp,u1[i].2,r,3,rfl,⟨Fr,rfl,SqT.of (e1 _ _ q4)⟩,⟨Fp,rfl,SqT.of (e1 _ _ hF0)⟩,mo_fits (po1.ok _ hm) (by decide),⟨Nat.lt_of_le_of_lt r6' (by decide),Nat.lt_of_le_of_lt d6 (by decide)⟩,by decide,trivial,fun l H2 e2 hl => ?_⟩
    refine ⟨(by show 2≤sizeLine; decide),fun t ht => ?_⟩
    have e3:=same_new ht (.tup [.ref Pw,.ref l])
    have hD3:=e3 _ _ (e2 _ _ hD1)
    refine ⟨hD3,cw_next hi ⟨fun b o z => by rw [upd_ne (ne_of_none z hD)]; exact e3 _ _ (e2 _ _ (e1 _ _ z)),?_⟩⟩
    rw [tk,List.map_append,List.map_append]
    exact ((tz.same (e2.trans e3)).snoc (t:=mT3 (u1[i].1,u1[i].2 * r)) upd_same (e3 _ _ (e2 _ _ (e1 _ _ q3))) (e3 _ _ hl)).but .upd fun xs z => by rw [hD3] at z; cases z
  rintro zs G1 ⟨e1,tz⟩ hD1
  refine ⟨⟨xs1,SqL.of (e1 _ _ ha1),by lia⟩,?_⟩
  rw [List.take_length] at tz
  have E1:=e0.trans e1
  have hF1:=e1 _ _ hF0
  try dsimp only [gName]
  refine seq_join (fun σ' H' => ∃ (Tk : Addr) (r6 r7 r8 r9 r10 r11 : Option V),σ' = [some (.ref a),some (.int many),some (.ref A1),some (.ref A2),some (.ref Fp),some (.ref p3),r6,r7,r8,r9,r10,r11,some (.ref Tk),none]∧Same H11 H'∧TP H' Tk (scal u1 r)) (fun nx hnx => ?_) ?_
  · refine ⟨_,rfl,_,_,_,_,rfl,rfl,SqT.of hF1,rfl,rfl,_,rfl,ite2 (fun cc => ?_) (fun cc => ?_)⟩
    · have hz : r = 0:=Rat.num_eq_zero.mp (by simpa using cc)
      refine ⟨(by show 0≤sizeLine; decide),fun D2 hD2 => ?_⟩
      exact hnx _ _ ⟨D2,_,_,_,_,_,_,rfl,E1.trans (same_new hD2 _),[],upd_same,by unfold scal; rw [if_pos hz]; rfl,fun j t ht => by unfold scal at ht; rw [if_pos hz] at ht; cases ht⟩
    · have hz : r≠0:=fun z => cc (by rw [z]; simp)
      exact hnx _ _ ⟨D,_,_,_,_,_,_,rfl,E1,zs,hD1,by unfold scal; rw [if_neg hz]; exact tz⟩
  clear tz hD1 E1 hF1 e1 hF0 tx1 ha1 e0 hxl
  rintro σ G2 ⟨Tk,r6,r7,r8,r9,r10,r11,rfl,e2,tk⟩
  have nm:=scal_num (r:=r) po1.len po1.ok hm4
  refine ⟨_,rfl,_,_,_,_,rfl,rfl,SqL.of (e2 _ _ h3),rfl,_,rfl,?_⟩
  refine nil_go ?_
  refine pre_scal (pq1.same e2) (e2 _ _ hF) r6' d6 fun Fd G3 e3 n3 tp3 => ?_
  have E3:=e2.trans e3
  refine ⟨_,rfl,_,rfl,_,_,_,4,rfl,rfl,nm,tp3.du,(tk.same e3).du,fun G4 e4 => ?_⟩
  have E4:=E3.trans e4
  refine ⟨_,rfl,iteF ⟨_,rfl,_,_,_,_,rfl,rfl,SqL.of (E4 _ _ h3),rfl,sz60' (show 2≤60 by decide),fun q hq => ?_⟩⟩
  have e5:=same_new hq (.tup [.int 0,.int 1])
  have hq5 : upd G4 q (.tup [.int 0,.int 1]) q = some (.tup (ratV 0)):=upd_same
  generalize upd G4 q (.tup [.int 0,.int 1]) = G5 at e5 hq5
  have E5:=E4.trans e5
  refine nil_go ?_
  refine pre_scal (pq1.same E5) hq5 (by decide) (by decide) fun Fz G6 e6 _ tp6 => ?_
  rw [show scal u1 0 = [] from if_pos rfl] at tp6
  refine ⟨sz60' (show 0≤60 by decide),fun q2 hq2 => ?_⟩
  generalize hG : upd _ q2 _ = G7
  obtain ⟨e7,dn,_⟩:=du_l hG hq2 .nil
  clear hG hq2
  have sm0 : Sm 3 (polyD []):=sm_poly (Nat.zero_le _) fun m hm => by cases hm
  refine ⟨_,_,(tp6.same e7).du.br,dn.br,sm0.ok.shaped (by decide),sm0.ok.shaped (by decide),_,rfl,?_⟩
  refine iteF ?_
  have up7 : Same G3 G7:=e4.trans (e5.trans (e6.trans e7))
  obtain ⟨zs3,hz3,tz3⟩:=tp3
  have hz7:=up7 _ _ hz3
  have l3 : zs3.length≤1000 := by
    have : (scal u1 r).length≤12 := by
      unfold scal; split
      · exact Nat.zero_le _
      · rw [List.length_map]; exact n12
    rw [tz3.1,List.length_map]; lia
  refine ⟨_,rfl,.inl ⟨rfl,_,SqL.of hz7⟩,Fd,zs3,_,rfl,rfl,hz7,szK l3,?_⟩
  have e8 : Same G2 (upd G7 Fd (.lst (zs3 ++ [.int 0]))):=fun b o z => by rw [upd_ne (ne_of_none z n3)]; exact up7 _ _ (e3 _ _ z)
  generalize upd G7 Fd (.lst (zs3 ++ [.int 0])) = G8 at e8
  have E8:=e2.trans e8
  have tk:=tk.same e8
  clear up7 hz7 hz3 tz3 l3 e7 e6 e5 e4 e3 E5 E4 E3 e2 n3 dn tp6 hq5
  refine ⟨_,rfl,_,_,_,_,rfl,rfl,SqL.of (E8 _ _ h3),rfl,sz60' (show 0≤60 by decide),fun q hq => ?_⟩
  have e9:=same_new hq (.lst [])
  have hq9 : upd G8 q (.lst []) q = some (.lst []):=upd_same
  generalize upd G8 q (.lst []) = G9 at e9 hq9
  have E9:=E8.trans e9
  refine nil_go ?_
  refine pre_psum (pq1.same E9) (pm_nil hq9 hm1 hm4) fun S1 G10 e10 n10 tp1 => ?_
  rw [List.append_nil,gath_self po1.srt fun m hm => (po1.ok m hm).nz] at tp1
  have E10:=E9.trans e10
  refine ⟨_,rfl,_,_,_,_,rfl,rfl,SqL.of (E10 _ _ h3),rfl,sz60' (show 2≤60 by decide),fun q2 hq2 => ?_⟩
  have e11:=same_new hq2 (.tup [.int 1,.int 1])
  have hq11 : upd G10 q2 (.tup [.int 1,.int 1]) q2 = some (.tup (ratV 1)):=upd_same
  generalize upd G10 q2 (.tup [.int 1,.int 1]) = G11 at e11 hq11
  have E11:=E10.trans e11
  refine nil_go ?_
  refine pre_scal (pq1.same E11) hq11 (by decide) (by decide) fun S2 G12 e12 n12' tp2 => ?_
  rw [scal_one] at tp2
  refine ⟨sz60' (show 2≤60 by decide),fun L2 hL2 => ?_⟩
  have e13:=same_new hL2 (.lst [.ref S1,.ref S2])
  have hL13 : upd G12 L2 (.lst [.ref S1,.ref S2]) L2 = some (.lst [.ref S1,.ref S2]):=upd_same
  generalize upd G12 L2 (.lst [.ref S1,.ref S2]) = G13 at e13 hL13
  have s1L : L2≠S1:=fun z => by obtain ⟨_,y,_⟩:=tp1; rw [z,e12 _ _ (e11 _ _ y)] at hL2; cases hL2
  have s2L : L2≠S2:=fun z => by obtain ⟨_,y,_⟩:=tp2; rw [z,y] at hL2; cases hL2
  have s12 : S2≠S1:=fun z => by obtain ⟨_,y,_⟩:=tp1; rw [z,e11 _ _ y] at n12'; cases n12'
  have tp1:=tp1.same (e11.trans (e12.trans e13))
  have tp2:=tp2.same e13
  have k1 : G8 S1 = none:=noneS e9 n10
  have k2 : G8 S2 = none:=noneS e9 (noneS e10 (noneS e11 n12'))
  have up : Same G8 G13:=e9.trans (e10.trans (e11.trans (e12.trans e13)))
  clear e9 e10 e11 e12 e13 E9 E10 E11 hq11 hq9 n10 n12' hL2 hq hq2
  have sm1 : Sm 3 (polyD u1):=sm_poly (by lia) fun m hm => by rw [(po1.ok m hm).len]; lia
  have z1:=eqv_self _ sm1.ok.1
  refine ⟨L2,rfl,⟨_,SqL.of hL13⟩,for_list (xs:=[.ref S1,.ref S2]) (fun i σ H' => ∃ (r6 r7 r8 r9 r10 r11 r13 : Option V),σ = [some (.ref a),some (.int many),some (.ref A1),some (.ref A2),some (.ref Fp),some (.ref p3),r6,r7,r8,r9,r10,r11,some (.ref Tk),r13]∧Same G8 H'∧H' L2 = some (.lst [.ref S1,.ref S2])∧(i = 0→TP H' S1 u1)∧(i≤1→TP H' S2 u1)) ?_ ?_ ?_ ?_⟩
  · exact ⟨_,_,_,_,_,_,_,rfl,up,hL13,fun _ => tp1,fun _ => tp2⟩
  · rintro i σ H' _ ⟨r6,r7,r8,r9,r10,r11,r13,rfl,e,hL,_⟩
    exact SqL.of hL
  · rintro i x σ G14 hx ⟨r6,r7,r8,r9,r10,r11,r13,rfl,e14,hL14,c1,c2⟩
    obtain ⟨S,rfl,tS,nL,kS,n2⟩ : ∃ S : Addr,x = .ref S∧TP G14 S u1∧L2≠S∧G8 S = none∧(i + 1≤1→S2≠S) := by
      match i,hx with
      | 0,hx => cases hx; exact ⟨S1,rfl,c1 rfl,s1L,k1,fun _ => s12⟩
      | 1,hx => cases hx; exact ⟨S2,rfl,c2 (Nat.le_refl _),s2L,k2,fun z => absurd z (by decide)⟩
      | n + 2,hx => simp at hx
    obtain ⟨zs,hz,tz⟩:=tS
    have hz12 : zs.length≤12 := by rw [tz.1,List.length_map]; exact n12
    have tS : TP G14 S u1:=⟨zs,hz,tz⟩
    refine ⟨_,rfl,_,rfl,_,_,tS.du.br,((po1.same (E8.trans e14)).tp.du).br,sm1.ok.shaped (by decide),sm1.ok.shaped (by decide),_,rfl,?_⟩
    have z' : (if true = true then !PyData.eqv (polyD u1) (polyD u1) else PyData.eqv (polyD u1) (polyD u1)) = false := by rw [z1]; rfl
    first
      | rw [z']
      | rw [z1]
      | skip
    refine iteF ?_
    refine ⟨_,rfl,.inl ⟨rfl,_,SqL.of hz⟩,S,zs,_,rfl,rfl,hz,szK (by lia),?_⟩
    refine ⟨_,_,_,_,_,_,_,rfl,fun b o z => by rw [upd_ne (ne_of_none z kS)]; exact e14 _ _ z,by rw [upd_ne nL]; exact hL14,fun z => absurd z (Nat.succ_ne_zero _),fun z => ?_⟩
    obtain ⟨ws,y,ty⟩:=c2 (by lia)
    exact ⟨ws,by rw [upd_ne (n2 z)]; exact y,ty.but .upd fun xs z => by rw [hz] at z; cases z⟩
  rintro σ G14 ⟨r6,r7,r8,r9,r10,r11,r13,rfl,e14,_⟩
  have E14:=E8.trans e14
  refine ⟨_,rfl,_,rfl,_,rfl,sz60' (show 2≤60 by decide),fun p4 hp4 => ?_⟩
  generalize hH : upd _ p4 _ = G15
  obtain ⟨e15,hb,_⟩:=du_l hH hp4 (.cons ((po1.same E14).tp.du) (.cons ((po2.same E14).tp.du) .nil))
  clear hH hp4
  have E15:=E14.trans e15
  refine ⟨_,_,(hd E15).br,hb.br,smx.ok.shaped (by decide),smx.ok.shaped (by decide),?_⟩
  have z' : (if false = true then !PyData.eqv (.list [polyD u1,polyD u2]) (.list [polyD u1,polyD u2]) else PyData.eqv (.list [polyD u1,polyD u2]) (.list [polyD u1,polyD u2])) = true := by rw [zz]; rfl
  first
    | rw [z']
    | rw [zz]
    | skip
  refine ⟨_,rfl,iteT ⟨_,rfl,_,_,_,_,rfl,rfl,SqL.of (E15 _ _ h3),rfl,_,rfl,?_⟩⟩
  refine nil_go ?_
  refine pre_scal (pq1.same E15) (E15 _ _ hF) r6' d6 fun Fe G16 e16 _ tp => ?_
  exact ⟨_,rfl,_,_,_,4,rfl,rfl,nm,tp.du,(tk.same (e14.trans (e15.trans e16))).du,fun G17 _ => fin G17⟩
end
section
open PySem.W PyProof.Rows PySem.Calls
abbrev pwX : Program:=PySem.Challenge.pw_stepgrove_k17_polynomials_reckoned
abbrev rwX : OpenLaw:=PySem.Challenge.rw_stepgrove_k17_polynomials_reckoned
noncomputable abbrev dE (P : Params) (x : String) (t : Nat) (v : Value) : DictEntry:=⟨PyData.keyHash P (Str.ofString x),.str (Str.ofString x) t,v⟩
noncomputable abbrev sV (x : String) (t : Nat) : Value:=.str (Str.ofString x) t
noncomputable abbrev fO (n : String) (i : Nat) (m : String) (t c : Nat) : Obj:=⟨.type "function",none,.func (fnOf n n (defArgs (top i)) (defBody (top i)) (defScope (top i)) .none .none .none (.str (Str.ofString m) t) none (.ref c) .none),#[]⟩
noncomputable abbrev cO (n : String) (t l a k r : Nat) (b : Bool) (r2 : Nat) (v1 v2 v3 v4 : Value) (t2 : Nat) : Obj:=⟨.type "code",none,.fields #[sV n t,sV n (t + 1),sV "/claim/cut.py" (t + 2),.int l 0,.int a 0,.int 0 0,.int 0 0,.int k 0,.ref r,.bool b,.int 181 0,.ref r2,v1,v2,v3,v4,.int t2 0,.int l 0,sV "/claim/cut.py" (t2 + 1)],#[]⟩
noncomputable abbrev mX0 : String×Nat:=("stepgrove.fracs",223)
noncomputable abbrev mX1 : String×Nat:=("stepgrove.polys",268)
noncomputable abbrev mX2 : String×Nat:=("law_stepgrove_k17_polynomials_reckoned",315)
noncomputable def oC (P : Params) (K : Frag) : Nat→List String→Frag
  | _,[] => K
  | k,x :: xs => (16 + 12 * k,⟨.type "tuple",none,.seq #[.ref 24] 0,#[]⟩) :: (23 + 12 * k,⟨.type "tuple",none,.seq #[] 0,#[]⟩) ::
    (24 + 12 * k,⟨.type "dict",none,.dict #[dE P "__module__" (198 + 16 * k) (sV "stepgrove.errors" 187),dE P "__firstlineno__" (202 + 16 * k) (.int (Int.ofNat (2 + 2 * k)) (201 + 16 * k)),dE P "__static_attributes__" (203 + 16 * k) (.ref (23 + 12 * k)),dE P "__doc__" (204 + 16 * k) .none] 2,#[]⟩) ::
    (25 + 12 * k,⟨.type "type",none,.cls ⟨Str.ofString x,[.ref 24],[.ref (25 + 12 * k),.ref 24,.type "ValueError",.type "Exception",.type "BaseException",.type "object"],24 + 12 * k,Str.ofString x,true,[],[],false,none,false⟩,#[some (.ref (16 + 12 * k)),none,some (sV x (191 + 16 * k)),some (sV x (199 + 16 * k)),some (.builtin "ValueError.__new__"),some (.bool true)]⟩) :: oC P K (k + 1) xs
noncomputable def oW (m : String×Nat) (n : String) (t l a r t2 i : Nat) (K : Frag) : Frag:=(r + 5,cO n t l a 3 r true (r + 1) .none (.ref (r + 2)) (.ref (r + 3)) (.ref (r + 4)) t2) :: (r + 6,fO n i m.1 m.2 (r + 5)) :: K
noncomputable def oN (m : String×Nat) (n : String) (t l a r t2 i : Nat) (K : Frag) : Frag:=(r + 3,cO n t l a 3 r true (r + 1) .none .none .none (.ref (r + 2)) t2) :: (r + 4,fO n i m.1 m.2 (r + 3)) :: K
def unL : Nat→List Nat→List Nat
  | _,[] => []
  | a,d :: ds => (a + d) :: unL (a + d) ds
noncomputable abbrev dR (P : Params) (x : String) (t a : Nat) : DictEntry:=dE P x t (.ref a)
noncomputable def kH : Params→Frag:=fun P =>
  (nat_lit 2,⟨.none,none,(.dict #[] 0),#[]⟩) ::
  (nat_lit 3,⟨(.type "dict"),none,(.dict #[dE P "__name__" 165 (sV "law_stepgrove_k17_polynomials_reckoned" 315),dE P "__doc__" 166 .none,dE P "__package__" 167 .none,dE P "__loader__" 168 (.builtin "__main__.__loader__#opaque"),dE P "__spec__" 169 .none,dR P "__annotations__" 170 6,dR P "__builtins__" 171 4,dE P "__file__" 173 (sV "/claim/cut.py" 172),dE P "__cached__" 174 .none,dR P "GroveError" 206 24,dR P "NoBottom" 222 37,dR P "fraction_of" 233 46,dR P "frac_times" 241 53,dR P "greatest_divisor" 252 60,dR P "common_bottom" 261 67,dR P "frac_total" 267 72,dR P "poly_sum" 277 79,dR P "poly_times" 290 86,dR P "poly_scaled" 296 91,dR P "powers_joined" 302 96,dR P "gathered" 314 103,dR P "_law_cell" 328 110,dR P "_law_take" 337 117,dR P "_law_shared" 345 124,dR P "_law_frac" 354 131,dR P "_law_plus" 362 138,dR P "_law_by" 370 145,dR P "_law_part" 378 152,dR P "_law_poly" 395 159,dR P "_law_gathered" 401 164,dR P "_law_sum" 412 171,dR P "_law_product" 418 176,dR P "_law_same" 424 181,dR P "law" 430 186] 34),#[]⟩) ::
  (nat_lit 15,⟨(.type "tuple"),none,(.seq #[(.type "ValueError")] 0),#[]⟩) ::
  (nat_lit 22,⟨(.type "tuple"),none,(.seq #[] 0),#[]⟩) ::
  (nat_lit 23,⟨(.type "dict"),none,(.dict #[dE P "__module__" 196 (sV "stepgrove.errors" 187),dE P "__firstlineno__" 200 (.int 2 199),dR P "__static_attributes__" 201 22,dR P "__weakref__" 203 25,dE P "__doc__" 204 .none] 3),#[]⟩) ::
  (nat_lit 24,⟨(.type "type"),none,(.cls ⟨Str.ofString "GroveError",[(.type "ValueError")],[(.ref 24),(.type "ValueError"),(.type "Exception"),(.type "BaseException"),(.type "object")],23,Str.ofString "GroveError",true,[],[(.ref 37)],false,none,false⟩),#[some (.ref 15),none,some (sV "GroveError" 189),some (sV "GroveError" 197),some (.builtin "ValueError.__new__"),some (.bool true)]⟩) ::
  (nat_lit 25,⟨(.type "getset_descriptor"),none,(.fields #[(sV "__weakref__" 202),(.ref 24),(.builtin "ExceptionGroup.__weakref__"),.none]),#[]⟩) ::
  oC P (
  oW mX0 "fraction_of" 225 7 2 40 231 4 (
  oW mX0 "frac_times" 234 14 2 47 239 5 (
  oW mX0 "greatest_divisor" 242 16 2 54 250 6 (
  oW mX0 "common_bottom" 253 24 1 61 259 7 (
  oN mX0 "frac_total" 262 29 1 68 265 8 (
  oW mX1 "poly_sum" 270 33 2 73 275 10 (
  oW mX1 "poly_times" 278 35 2 80 288 11 (
  oN mX1 "poly_scaled" 291 41 2 87 294 12 (
  oN mX1 "powers_joined" 297 45 2 92 300 13 (
  oW mX1 "gathered" 303 47 1 97 312 14 (
  oW mX2 "_law_cell" 317 58 2 104 326 16 (
  oW mX2 "_law_take" 329 70 2 111 335 17 (
  oW mX2 "_law_shared" 338 74 2 118 343 18 (
  oW mX2 "_law_frac" 346 78 2 125 352 19 (
  oW mX2 "_law_plus" 355 83 2 132 360 20 (
  oW mX2 "_law_by" 363 85 2 139 368 21 (
  oW mX2 "_law_part" 371 87 1 146 376 22 (
  oW mX2 "_law_poly" 379 90 3 153 393 23 (
  oN mX2 "_law_gathered" 396 106 1 160 399 24 (
  oW mX2 "_law_sum" 402 108 2 165 410 25 (
  oN mX2 "_law_product" 413 113 2 172 416 26 (
  oN mX2 "_law_same" 419 120 2 177 422 27 (
  oN mX2 "law" 425 130 1 182 428 28 (
  [])))))))))))))))))))))))) 1 ["NoBottom"]
abbrev qX : Program:=view pwX [1,2,4,5,6,7,8,10,11,12,13,14,16,17,18,19,20,21,22,23,24,25,26,27,28]
noncomputable abbrev hX : Hook:=kHook kH (unL 0 [2,1,12,7,1,1,1,3,7,1,1,8,1,6,1,6,1,6,1,4,1,6,1,6,1,4,1,4,1,6,1,6,1,6,1,6,1,6,1,6,1,6,1,6,1,6,1,4,1,6,1,4,1,4,1,4,1]) (fun _ => by kernel_rfl)
noncomputable def dX : DefRec:=⟨Str.ofString "law",defArgs (top 28),defBody (top 28),defScope (top 28),⟨130,0,156,122⟩⟩
theorem saidX : rwX.wellSaid = true:=(congrFun PySem.W.Fast.te9446332074065402090 _).trans (by kernel_rfl)
theorem preX (w : World) (os : OsState) : topGo treeTable pwX w 11 Opn.annB 12 ⟨boot_heap w.params,#[],boot_drawn,boot_toks,os⟩ (topStub pwX) = some (Opn.sA w os,⟨denote treeTable (Opn.cB pwX),Opn.cB pwX,Opn.q0,Opn.bB⟩) := by kernel_rfl
theorem blkX (w : World) (os : OsState) : segRun treeTable pwX w 11 Opn.annB 1 1 (Opn.sA w os) (blockOf (behindTheImports pwX) (Opn.envB pwX) (Opn.cB pwX) Opn.q0 Opn.bB) = some (.next,(Opn.sB w os).abs,Opn.cB pwX,Opn.q0) := by kernel_rfl
theorem finX (w : World) (s : Shared) : topRun treeTable pwX w 11 Opn.annB 2 s (restOf [] (Opn.envB pwX) (Opn.cB pwX) ⟨130,0,156,122⟩ Opn.bB) = some s := by kernel_rfl
theorem segX (w : World) (os : OsState) : Opn.runB pwX 1130 w os = some (.next,Opn.endB pwX 1130 w os,Opn.cB pwX,⟨130,0,156,122⟩) := by kernel_rfl
noncomputable abbrev sX (w : World) (os : OsState) : Shared:=(Opn.endB pwX 1130 w os).abs
theorem okX (w : World) (os : OsState) : (staticsOk (importedModules pwX.main.body) (boot_heap w.params) (sX w os).heap && namesBound pwX (sX w os).heap && gensDone (sX w os) && laidKept (boot_heap w.params) (sX w os).heap) = true := by kernel_rfl
theorem hookX (w : World) (os : OsState) : hX.obs (sX w os) = hX.val w := by kernel_rfl
noncomputable abbrev xtX : Shared→Bool:=fun s => xlAt qX [] s && recOk (RowW.records rwX.row.toRowW) s
theorem seen0 (w : World) (os : OsState) : (openSeen qX [] (importedModules pwX.main.body) xtX true (sX w os)).1 = (openGood qX []).1 := by kernel_rfl
theorem seen1 (w : World) (os : OsState) : (openSeen qX [] (importedModules pwX.main.body) xtX true (sX w os)).2.1 = (openGood qX []).2.1 := by kernel_rfl
theorem seen2 (w : World) (os : OsState) : (openSeen qX [] (importedModules pwX.main.body) xtX true (sX w os)).2.2 = (openGood qX []).2.2 := by kernel_rfl
theorem seenX (w : World) (os : OsState) : openSeen qX [] (importedModules pwX.main.body) xtX true (sX w os) = openGood qX []:=Prod.ext (seen0 w os) (Prod.ext (seen1 w os) (seen2 w os))
theorem bootX (w : World) : (fencedOpening treeTable pwX w 2384).map (fun s => (s.heap,s.gens,s.drawn,s.toks)) = some (boot_heap w.params,#[],boot_drawn,boot_toks) := boot_open (p:=pwX) (N:=2384) (by kernel_rfl) (by kernel_rfl) (fun _ => by kernel_rfl) w
theorem leftX : LeftO pwX qX [] xtX hX.obs hX.val 2384:=Opn.left_of (M:=1145) (S:=sX) bootX Opn.sizeB (fun w os => Opn.run_of (preX w os) (blkX w os) (segX w os) (finX w) (by kernel_rfl)) (by kernel_rfl) okX seenX hookX
theorem defX : defOf qX rwX.row.name = some (dX,[]) := by kernel_rfl
theorem theX : pwX.theDef rwX.row.name = some (dX.params,dX.body,dX.scope) := by kernel_rfl
theorem kwX : kwWritten? dX.params.kwonlyargs dX.params.kw_defaults = some [] := by kernel_rfl
theorem chnX : (chainsOk qX && opensWell rwX.row.prog && (frees rwX.row.toRowW && rwX.row.within.isEmpty)) = true := by kernel_rfl
theorem bareX : pwX.bare:=⟨rfl,rfl,rfl,rfl,rfl,by decide +kernel⟩
theorem openX (hw : rwX.row.toRowW.promised) (hc : WalkO qX [] (XL qX []) hX.says rwX.row.toRowW dX [] (fun f vs => PySem.call f vs)) : rwX.Holds :=
  holds_law saidX fun said => holds_open (r:=rwX.row) (q:=qX) (loose:=[]) (Xt:=xtX) (XP:=XL qX []) (Yf:=hX.obs) (Ya:=hX.val) (YP:=hX.says) (d:=dX) (kwd:=[]) (N:=2384) leftX hX.of hX.keeps (fun s e => xl_of s (Bool.and_eq_true_iff.mp e).1) XL.keeps defX theX kwX (fun s e => recFacts_of (Bool.and_eq_true_iff.mp e).2) rfl said chnX bareX hw hc
end
section
open PySem.W
theorem fnX {w : World} {mg : Str→Option Value} {h : Heap} (X : (kH w.params).In h) (G : h.Ns mainGlobals mg) (n : String) (i : Nat) (m : String×Nat) (c : Nat) (ps : List Str)
    (ha : nsIn (kH w.params) mainGlobals (Str.ofString n) = some (some (.ref (c + 1))) := by kernel_rfl) (hl : (kH w.params).lookup (c + 1) = some (fO n i m.1 m.2 c) := by kernel_rfl) (hc : codeIn (kH w.params) (.ref c) (Str.ofString n) = true := by kernel_rfl) (hk : keepIn (kH w.params) (.ref (c + 1)) = true := by kernel_rfl)
    (hb : ∀ (kV doc pm : Value) (an : Option Addr) (cdv ct : Value) (us : List Value),us.length = ps.length→bindArgs (fnOf (Str.ofString n) (Str.ofString n) (defArgs (top i)) (defBody (top i)) (defScope (top i)) .none kV doc pm an cdv ct) ⟨us,[]⟩ = pure (ps.zip us) := by first | (exact fun _ _ _ _ _ _ us hl => match us,hl with | [_],_ => rfl) | (exact fun _ _ _ _ _ _ us hl => match us,hl with | [_,_],_ => rfl) | (exact fun _ _ _ _ _ _ us hl => match us,hl with | [_,_,_],_ => rfl) | (exact fun _ _ _ _ _ _ us hl => match us,hl with | [_,_,_,_],_ => rfl) | (exact fun _ _ _ _ _ _ us hl => match us,hl with | [_,_,_,_,_],_ => rfl) | (exact fun _ _ _ _ _ _ us hl => match us,hl with | [],_ => rfl)) :
    Fn (kH w.params) mg (Str.ofString n) (top i) ps (c + 1) (fnOf (Str.ofString n) (Str.ofString n) (defArgs (top i)) (defBody (top i)) (defScope (top i)) .none .none .none (.str (Str.ofString m.1) m.2) none (.ref c) .none) :=
  ⟨fun_mk hl hc hk,(fun_mk (st:=top i) hl hc hk).binds hb,mg_of X G ha⟩
theorem nzX {w : World} {mg : Str→Option Value} {h : Heap} (X : (kH w.params).In h) (G : h.Ns mainGlobals mg) (n : String) (e : nsIn (kH w.params) mainGlobals (Str.ofString n) = some none := by kernel_rfl) : mg (Str.ofString n) = none:=mg_none_of X G e
set_option maxHeartbeats 4000000 in
theorem allX (w : World) (mg : Str→Option Value) (fa : Addr) (h : Heap) (X : (kH w.params).In h) (G : h.Ns mainGlobals mg) (hfa : mg "law" = some (.ref fa)) :
    ∃ fd : FuncData,(∀ (s : Shared) (v : Value),BindsTo s fd ⟨[v],[]⟩ [("_law_script",v)])∧∀ base : Heap,(kH w.params).In base→base.Ns mainGlobals mg→FnOk rwX.prog w (kH w.params) mg base CX0 10 fa fd ["_law_script"] (spLaw (kH w.params)) := by
  have e:=hfa.symm.trans (mg_of X G (v:=.ref 186) (by kernel_rfl))
  cases e
  have T_fraction_of:=fnX X G "fraction_of" 4 mX0 45 ["top", "bottom"]
  have T_frac_times:=fnX X G "frac_times" 5 mX0 52 ["one", "other"]
  have T_greatest_divisor:=fnX X G "greatest_divisor" 6 mX0 59 ["one", "other"]
  have T_common_bottom:=fnX X G "common_bottom" 7 mX0 66 ["bottoms"]
  have T_frac_total:=fnX X G "frac_total" 8 mX0 71 ["some"]
  have T_poly_sum:=fnX X G "poly_sum" 10 mX1 78 ["one", "other"]
  have T_poly_times:=fnX X G "poly_times" 11 mX1 85 ["one", "other"]
  have T_poly_scaled:=fnX X G "poly_scaled" 12 mX1 90 ["some", "part"]
  have T_powers_joined:=fnX X G "powers_joined" 13 mX1 95 ["powers", "more"]
  have T_gathered:=fnX X G "gathered" 14 mX1 102 ["terms"]
  have T__law_cell:=fnX X G "_law_cell" 16 mX2 109 ["_law_script", "_law_k"]
  have T__law_take:=fnX X G "_law_take" 17 mX2 116 ["_law_pile", "_law_size"]
  have T__law_shared:=fnX X G "_law_shared" 18 mX2 123 ["_law_one", "_law_other"]
  have T__law_frac:=fnX X G "_law_frac" 19 mX2 130 ["_law_top", "_law_bottom"]
  have T__law_plus:=fnX X G "_law_plus" 20 mX2 137 ["_law_one", "_law_other"]
  have T__law_by:=fnX X G "_law_by" 21 mX2 144 ["_law_one", "_law_other"]
  have T__law_part:=fnX X G "_law_part" 22 mX2 151 ["_law_pile"]
  have T__law_poly:=fnX X G "_law_poly" 23 mX2 158 ["_law_pile", "_law_many", "_law_most"]
  have T__law_gathered:=fnX X G "_law_gathered" 24 mX2 163 ["_law_counts"]
  have T__law_sum:=fnX X G "_law_sum" 25 mX2 170 ["_law_one", "_law_other"]
  have T__law_product:=fnX X G "_law_product" 26 mX2 175 ["_law_one", "_law_other"]
  have T__law_same:=fnX X G "_law_same" 27 mX2 180 ["_law_found", "_law_due"]
  have T_law:=fnX X G "law" 28 mX2 185 ["_law_script"]
  have z_len:=nzX X G "len"
  have z_range:=nzX X G "range"
  have z_abs:=nzX X G "abs"
  have z_isinstance:=nzX X G "isinstance"
  have z_int:=nzX X G "int"
  have z_bool:=nzX X G "bool"
  have z_tuple:=nzX X G "tuple"
  have z_list:=nzX X G "list"
  have z_sorted:=nzX X G "sorted"
  have z_zip:=nzX X G "zip"
  have z_sum:=nzX X G "sum"
  have z_all:=nzX X G "all"
  refine ⟨fnOf (Str.ofString "law") (Str.ofString "law") (defArgs (top 28)) (defBody (top 28)) (defScope (top 28)) .none .none .none (.str (Str.ofString "law_stepgrove_k17_polynomials_reckoned") 315) none (.ref 185) .none,fun s v => .of_eq rfl,fun base _ _ => ?_⟩
  have g_gd:=ok_greatest_divisor (P:=rwX.prog) (w:=w) (base := base) T_greatest_divisor z_abs
  have g_fr:=ok_fraction_of T_fraction_of T_greatest_divisor g_gd
  have g_ti:=ok_frac_times T_frac_times T_fraction_of g_fr
  have g_cb:=ok_common_bottom T_common_bottom T_greatest_divisor g_gd
  have g_tot:=ok_frac_totalG T_frac_total T_common_bottom T_fraction_of g_cb g_fr z_sum
  have g_ga:=ok_gathered (k:=6) T_gathered T_frac_total (g_tot.mono) z_sorted
  have g_pj:=ok_powers_joined (m:=6) (P:=rwX.prog) (w:=w) (base := base) T_powers_joined z_zip z_tuple
  have g_ps:=ok_poly_sum (m:=7) T_poly_sum T_gathered g_ga
  have g_pt:=ok_poly_times (m:=7) T_poly_times T_gathered g_ga T_powers_joined g_pj
  have g_sc:=ok_poly_scaled T_poly_scaled T_frac_times g_ti
  have g_take:=ok__law_take (P:=rwX.prog) (w:=w) (base := base) T__law_take
  have g_shared:=ok__law_shared (P:=rwX.prog) (w:=w) (base := base) T__law_shared z_abs
  have g_frac:=ok__law_frac T__law_frac T__law_shared g_shared
  have g_cell:=ok__law_cell (P:=rwX.prog) (w:=w) (base := base) T__law_cell z_len z_range
  have g_part:=ok__law_part T__law_part T__law_take T__law_frac (g_take.mono) g_frac
  have g_lp:=ok__law_poly T__law_poly T__law_take T__law_part (g_take.mono) g_part z_range z_sorted z_tuple
  have g_pl:=ok__law_plus T__law_plus T__law_frac g_frac
  have g_by:=ok__law_by T__law_by T__law_frac g_frac
  have g_lg:=ok__law_gathered (k:=2) (P:=rwX.prog) (w:=w) (base := base) T__law_gathered z_sorted
  have g_ls:=ok__law_sum T__law_sum T__law_plus g_pl T__law_gathered g_lg
  have g_lpr:=ok__law_product T__law_product T__law_plus g_pl T__law_by g_by T__law_gathered g_lg z_zip z_tuple
  have g_same:=ok__law_same (P:=rwX.prog) (w:=w) (base := base) T__law_same z_isinstance z_list z_tuple z_int z_bool z_len z_all z_zip 5
  exact ok_law T_law T__law_cell T__law_poly T__law_part T__law_sum T__law_product T__law_same T_poly_sum T_poly_times T_poly_scaled T__law_by (g_cell.mono) (g_lp.mono) (g_part.mono) (g_ls.mono) (g_lpr.mono) (g_same.mono) (g_ps.mono) (g_pt.mono) (g_sc.mono) (g_by.mono) z_list z_range
theorem walkX : WalkO qX [] (XL qX []) hX.says rwX.row.toRowW dX [] (fun f vs => PySem.call f vs) :=
  L2.walk_of (l:=rwX) (n:=63) (k:=10) (x := "_law_script") (CX:=fun _ => CX0) (K:=kH) (sp:=fun w => spLaw (kH w.params)) rfl (by decide) rfl ⟨rfl,by decide,by decide⟩ (fun w mg h X G H => .no (mg_none_of X G (by kernel_rfl)) (mg_none_of X G (by kernel_rfl)) H) (fun w h Y => kIn_of Y) allX (fun _ _ a ns hl _ hS => ⟨a,ns,rfl,hS,hl,fun _ => rfl⟩) fun _ _ _ _ _ z => z
end
end Q17
open PySem PySem.W PyProof.Rows
set_option maxRecDepth 100000 in
theorem PySem.Challenge.cw_stepgrove_k17_polynomials_reckoned_holds : PySem.Challenge.rw_stepgrove_k17_polynomials_reckoned.Holds := by
  refine Q17.openX ?hw Q17.walkX
  w_witness2
#print axioms PySem.Challenge.cw_stepgrove_k17_polynomials_reckoned_holds
