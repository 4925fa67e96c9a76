import PyProof.Rows.All
import Wide.All
import OpenK.AllK
import Wide.FinOn
import Lean
import PyProof.EqAt
import PyProof.EqKinds
import PyProof.TupleCall
import PySem.Challenge.RW_stepgrove_k30_tables_of_names
set_option Elab.async false
set_option linter.all false
set_option maxRecDepth 100000
namespace L2
open PySem PySem.Spec PyProof.Rows
abbrev Key:=Sum Int Str
def keyIs : Key→Value→Bool
  | .inl k,v => Value.isInt k v
  | .inr x,v => Value.isStrOf x v
def keyH (w : World) : Key→Int
  | .inl k => hashInt k
  | .inr x => hashStr w x
theorem keyIs_shape : ∀ {k : Key} {v : Value},keyIs k v = true→(∃ i t,k = Sum.inl i∧v = Value.int i t)∨(∃ x t,k = Sum.inr x∧v = Value.str x t)
  | .inl i,v,h => by
    obtain ⟨t,e⟩:=Value.isInt_shape (k:=i) (v:=v) h
    exact .inl ⟨i,t,rfl,e⟩
  | .inr x,v,h => by
    obtain ⟨t,e⟩:=Value.isStrOf_shape (x:=x) (v:=v) h
    exact .inr ⟨x,t,rfl,e⟩
theorem keyIs_int (i : Int) (t : Tok) : keyIs (.inl i) (.int i t) = true := by simp [keyIs,Value.isInt]
theorem keyIs_str (x : Str) (t : Tok) : keyIs (.inr x) (.str x t) = true := by simp [keyIs,Value.isStrOf]
theorem key_ll (a b : Int) : decide ((Sum.inl a : Key) = Sum.inl b) = (a == b) := by
  by_cases e : a = b
  · subst e; simp
  · have h : ¬ (Sum.inl a : Key) = Sum.inl b:=fun q => e (Sum.inl.inj q)
    rw [decide_eq_false h]
    exact (beq_eq_false_iff_ne.mpr e).symm
theorem key_rr (a b : Str) : decide ((Sum.inr a : Key) = Sum.inr b) = decide (a = b) := by
  by_cases e : a = b
  · subst e; simp
  · have h : ¬ (Sum.inr a : Key) = Sum.inr b:=fun q => e (Sum.inr.inj q)
    rw [decide_eq_false h,decide_eq_false e]
theorem key_lr (a : Int) (b : Str) : decide ((Sum.inl a : Key) = Sum.inr b) = false:=decide_eq_false (fun q => nomatch q)
theorem key_rl (a : Str) (b : Int) : decide ((Sum.inr a : Key) = Sum.inl b) = false:=decide_eq_false (fun q => nomatch q)
def mixKind (prog : Program) (w : World) : PySem.KeyKind prog w Key where
  is:=keyIs
  hash:=keyH w
  inj:=fun v a b ha hb => by
    rcases keyIs_shape ha with ⟨i,t,rfl,rfl⟩ | ⟨x,t,rfl,rfl⟩
    · rcases keyIs_shape hb with ⟨j,u,rfl,e⟩ | ⟨y,u,rfl,e⟩
      · injection e with e1 _; rw [e1]
      · exact nomatch e
    · rcases keyIs_shape hb with ⟨j,u,rfl,e⟩ | ⟨y,u,rfl,e⟩
      · exact nomatch e
      · injection e with e1 _; rw [e1]
  byValue:=fun k v h => by
    rcases keyIs_shape h with ⟨i,t,rfl,rfl⟩ | ⟨x,t,rfl,rfl⟩ <;> rfl
  pyHash:=fun hv h => by
    rcases keyIs_shape hv with ⟨i,t,rfl,rfl⟩ | ⟨x,t,rfl,rfl⟩
    · exact wpAny_pyHash_int h
    · exact wpAny_pyHash_str h
  eqBool:=fun hu hv h => by
    rcases keyIs_shape hu with ⟨i,t,rfl,rfl⟩ | ⟨x,t,rfl,rfl⟩
    · rcases keyIs_shape hv with ⟨j,u,rfl,rfl⟩ | ⟨y,u,rfl,rfl⟩
      · rw [key_ll] at h; exact wpAny_eqBool_int h
      · rw [key_lr] at h; exact SeqAt.EqAt.int_str i t y u _ _ _ _ h
    · rcases keyIs_shape hv with ⟨j,u,rfl,rfl⟩ | ⟨y,u,rfl,rfl⟩
      · rw [key_rl] at h; exact SeqAt.EqAt.str_int x t j u _ _ _ _ h
      · rw [key_rr] at h; exact wpAny_eqBool_str h
  «strs»:=fun k x t v h => by
    rcases keyIs_shape h with ⟨i,u,rfl,e⟩ | ⟨y,u,rfl,e⟩
    · exact nomatch e
    · injection e with e1 _
      subst e1
      cases v <;> rfl
theorem mixKind_int (prog : Program) (w : World) (i : Int) (t : Tok) : (mixKind prog w).is (.inl i) (.int i t) = true:=keyIs_int i t
theorem mixKind_str (prog : Program) (w : World) (x : Str) (t : Tok) : (mixKind prog w).is (.inr x) (.str x t) = true:=keyIs_str x t
inductive V where
  | non | bl (b : Bool) | int (i : Int) | str (x : Str) | byt (b : Array UInt8) | flt (b : UInt64) | ref (a : Addr) | ty (n : String)
  deriving DecidableEq
def RelV : V→Value→Prop
  | .non,u => u = Value.none
  | .bl b,u => u = Value.bool b
  | .int i,u => ∃ t,u = Value.int i t
  | .str x,u => ∃ t,u = Value.str x t
  | .byt b,u => ∃ t,u = Value.bytes b t
  | .flt b,u => ∃ t,u = Value.float b t
  | .ref a,u => u = Value.ref a
  | .ty n,u => u = Value.type n
abbrev Vals : List V→List Value→Prop:=Paired RelV
theorem Vals.length {xs : List V} {us : List Value} (r : Vals xs us) : xs.length = us.length:=Paired.length r
theorem Vals.get : ∀ {xs : List V} {us : List Value} {i : Nat} {x : V},Vals xs us→xs[i]? = some x→∃ u,us[i]? = some u∧RelV x u
  | _,_,_,_,.nil,e => by simp at e
  | _,_,0,_,.cons r _,e => by simp at e; subst e; exact ⟨_,rfl,r⟩
  | _,_,i + 1,x,.cons _ t,e => by
    obtain ⟨u,h1,h2⟩:=Vals.get (i:=i) (x:=x) t (by simpa using e)
    exact ⟨u,by simpa using h1,h2⟩
theorem Vals.set {x : V} {u : Value} (r : RelV x u) : ∀ {xs : List V} {us : List Value} (i : Nat),Vals xs us→Vals (xs.set i x) (us.set i u)
  | _,_,_,.nil => .nil
  | _,_,0,.cons _ t => .cons r t
  | _,_,i + 1,.cons q t => .cons q (Vals.set r i t)
theorem Vals.append : ∀ {xs ys : List V} {us ws : List Value},Vals xs us→Vals ys ws→Vals (xs ++ ys) (us ++ ws)
  | _,_,_,_,.nil,s => s
  | _,_,_,_,.cons r t,s => .cons r (Vals.append t s)
theorem Vals.take : ∀ {xs : List V} {us : List Value} (n : Nat),Vals xs us→Vals (xs.take n) (us.take n)
  | _,_,0,_ => .nil
  | _,_,_ + 1,.nil => .nil
  | _,_,n + 1,.cons r t => .cons r (Vals.take n t)
theorem Vals.drop : ∀ {xs : List V} {us : List Value} (n : Nat),Vals xs us→Vals (xs.drop n) (us.drop n)
  | _,_,0,r => r
  | _,_,_ + 1,.nil => .nil
  | _,_,n + 1,.cons _ t => Vals.drop n t
def RelO : Option V→Option Value→Prop
  | some v,some u => RelV v u
  | none,none => True
  | _,_ => False
def KV {κ : Type} : List (κ×V)→List (κ×Value)→Prop:=Paired fun (p : κ×V) (q : κ×Value) => p.1 = q.1∧RelV p.2 q.2
def kV : Key→V
  | .inl i => .int i
  | .inr x => .str x
inductive HO where
  | lst (xs : List V)
  | tup (xs : List V)
  | dK (kvs : List (Key×V)) | dT (kvs : List (List Key×V))
  | set (S : Int→Bool) (n : Nat)
  | ins (C dx : Addr) (fs : List (Str×V))
  | own (x : Addr)
  | xd (fs : List (Str×V))
  | met (f x : Addr)
  | rng (lo hi : Int)
  | frz (o : Obj) (u : HO)
  | tbl (ps : Array Value)
  | ext (φ : Heap→Prop)
abbrev Hp:=Addr→Option HO
def upd (H : Hp) (a : Addr) (o : HO) : Hp:=fun b => if b = a then some o else H b
theorem upd_same {H : Hp} {a : Addr} {o : HO} : upd H a o a = some o := by unfold upd; rw [if_pos rfl]
theorem upd_ne {H : Hp} {a b : Addr} {o : HO} (h : b≠a) : upd H a o b = H b := by unfold upd; rw [if_neg h]
theorem ne_of {H : Hp} {a b : Addr} {o u : HO} (h : H a = some o) (h' : H b = some u) (d : o≠u) : a≠b := by
  intro e; subst e; rw [h] at h'; exact d (Option.some.inj h')
theorem ne_of_none {H : Hp} {a b : Addr} {o : HO} (h : H a = some o) (h' : H b = none) : a≠b := by
  intro e; subst e; rw [h] at h'; cases h'
section
variable (P : Program) (w : World)
def ObjOk (H : Hp) (h : Heap) (a : Addr) : HO→Prop
  | .lst xs => xs.length≤sizeLine∧∃ (its : List Value) (n : Nat),Vals xs its∧h.get? a = some { cls:=.type "list",data:=.seq its.toArray n }
  | .tup xs => xs.length≤sizeLine∧∃ its : List Value,Vals xs its∧IsTup h a its.toArray
  | .dK kvs => kvs.length≤sizeLine∧(a == sysModules) = false∧∃ vs,KV kvs vs∧h.DictOf (mixKind P w) a vs
  | .dT kvs => kvs.length≤sizeLine∧(a == sysModules) = false∧∃ xs : List (List Key×Addr×Value),
      Paired (fun (p : List Key×V) (q : List Key×Addr×Value) => p.1 = q.1∧H q.2.1 = some (.tup (p.1.map kV))∧RelV p.2 q.2.2) kvs xs ∧
      ∃ o es ep,h.get? a = some o∧o.ExactDict∧o.data = .dict es ep∧es.toList = xs.map (entryOfKey (tupleKind (mixKind P w)))∧(xs.map (·.1)).Nodup
  | .set S n => h.SetOf (intKind P w) a S n
  | .ins C dx fs => H dx = some (.own a)∧fs.length≤1000∧dx≠a∧h.get? a = some (PySem.W.instObj C dx) ∧
      ∃ mA,h.Ns1 dx mA∧(∀ f,RelO (fs.lookup f) (mA f))∧PySem.Within mA (fs.map (·.1))
  | .own _ => ∃ o,h.get? a = some o
  | .xd fs => ∃ mA,h.Ns1 a mA∧∀ f,RelO (fs.lookup f) (mA f)
  | .rng lo hi => ∃ t u v,h.get? a = some { cls:=.type "range",data:=.fields #[.int lo t,.int hi u,.int 1 v] }
  | .frz o u => h.get? a = some o∧ObjOk H h a u
  | .tbl ps => h.get? a = some { cls:=.none,data:=.fields ps }
  | .met f x => h.get? a = some (PySem.W.methodObj (.ref f) (.ref x))
  | .ext φ => φ h∧(∃ o,h.get? a = some o)∧∀ h1 h2 : Heap,φ h1→(∀ o,h1.get? a = some o→h2.get? a = some o)→φ h2
def HOk (H : Hp) (h : Heap) : Prop:=∀ a o,H a = some o→ObjOk P w H h a o
end
section
variable {P : Program} {w : World} {H H' : Hp} {h h' : Heap} {a : Addr} {o : HO}
theorem ObjOk.lt (x : ObjOk P w H h a o) : a < h.objs.size := by
  cases o with
  | lst xs => obtain ⟨_,_,_,_,e⟩:=x; exact Heap.lt_size e
  | tup xs => obtain ⟨_,_,_,p⟩:=x; exact p.lt
  | dK kvs => obtain ⟨_,_,_,_,o,_,_,e,_⟩:=x; exact Heap.lt_size e
  | dT kvs => obtain ⟨_,_,_,_,o,_,_,e,_⟩:=x; exact Heap.lt_size e
  | set S n => obtain ⟨o,_,_,_,e,_⟩:=x; exact Heap.lt_size e
  | ins C dx fs => obtain ⟨_,_,_,e,_⟩:=x; exact Heap.lt_size e
  | own y => obtain ⟨_,e⟩:=x; exact Heap.lt_size e
  | xd fs => obtain ⟨_,⟨_,_,_,e,_⟩,_⟩:=x; exact Heap.lt_size e
  | rng lo hi => obtain ⟨_,_,_,e⟩:=x; exact Heap.lt_size e
  | frz ob u => obtain ⟨e,_⟩:=x; exact Heap.lt_size e
  | tbl ps => exact Heap.lt_size (show h.get? a = some _ from x)
  | met f y => exact Heap.lt_size (show h.get? a = some _ from x)
  | ext φ => obtain ⟨_,⟨_,e⟩,_⟩:=x; exact Heap.lt_size e
theorem Paired.mapP {α β : Type} {F G : α→β→Prop} : ∀ {l₁ : List α} {l₂ : List β},Paired F l₁ l₂→(∀ a b,F a b→G a b)→Paired G l₁ l₂
  | _,_,.nil,_ => .nil
  | _,_,.cons r t,f => .cons (f _ _ r) (Paired.mapP t f)
theorem ObjOk.stay (x : ObjOk P w H h a o) (k : ∀ b u,(b = a∨H b = some (.own a))→h.get? b = some u→h'.get? b = some u)
    (ho : ∀ b,H b = some (.own a)→H' b = some (.own a)) (ht : ∀ b xs,H b = some (.tup xs)→H' b = some (.tup xs)) : ObjOk P w H' h' a o := by
  induction o with
  | lst xs => obtain ⟨z,its,n,r,e⟩:=x; exact ⟨z,its,n,r,k _ _ (.inl rfl) e⟩
  | tup xs => obtain ⟨z,its,r,ob,e,c⟩:=x; exact ⟨z,its,r,ob,k _ _ (.inl rfl) e,c⟩
  | dK kvs => obtain ⟨z,y,vs,r,ob,es,ep,e,c⟩:=x; exact ⟨z,y,vs,r,ob,es,ep,k _ _ (.inl rfl) e,c⟩
  | dT kvs =>
    obtain ⟨z,y,xs,r,ob,es,ep,e,c⟩:=x
    exact ⟨z,y,xs,Paired.mapP r fun p q z => ⟨z.1,ht _ _ z.2.1,z.2.2⟩,ob,es,ep,k _ _ (.inl rfl) e,c⟩
  | set S n => obtain ⟨ob,es,ep,t,e,c⟩:=x; exact ⟨ob,es,ep,t,k _ _ (.inl rfl) e,c⟩
  | ins C dx fs =>
    obtain ⟨d,z,ne,e,mA,⟨od,es,ep,e2,c⟩,r⟩:=x
    exact ⟨ho _ d,z,ne,k _ _ (.inl rfl) e,mA,⟨od,es,ep,k _ _ (.inr d) e2,c⟩,r⟩
  | own y => obtain ⟨ob,e⟩:=x; exact ⟨ob,k _ _ (.inl rfl) e⟩
  | xd fs => obtain ⟨mA,⟨od,es,ep,e,c⟩,r⟩:=x; exact ⟨mA,⟨od,es,ep,k _ _ (.inl rfl) e,c⟩,r⟩
  | rng lo hi => obtain ⟨t,u,v,e⟩:=x; exact ⟨t,u,v,k _ _ (.inl rfl) e⟩
  | frz ob u ih => obtain ⟨e,q⟩:=x; exact ⟨k _ _ (.inl rfl) e,ih q⟩
  | tbl ps =>
    have e : h.get? a = some { cls:=.none,data:=.fields ps }:=x
    show h'.get? a = some { cls:=.none,data:=.fields ps }
    exact k a _ (.inl rfl) e
  | met f y =>
    have e : h.get? a = some (PySem.W.methodObj (.ref f) (.ref y)):=x
    show h'.get? a = some (PySem.W.methodObj (.ref f) (.ref y))
    exact k a _ (.inl rfl) e
  | ext φ => obtain ⟨p,⟨o,e⟩,st⟩:=x; exact ⟨st _ _ p fun o q => k _ _ (.inl rfl) q,⟨o,k _ _ (.inl rfl) e⟩,st⟩
theorem HOk.lt (x : HOk P w H h) (e : H a = some o) : a < h.objs.size:=(x a o e).lt
theorem HOk.fresh (x : HOk P w H h) (e : h.objs.size≤a) : H a = none := by
  cases q : H a with
  | none => rfl
  | some u => exact absurd (Nat.lt_of_lt_of_le (x.lt q) e) (Nat.lt_irrefl _)
theorem HOk.kept (x : HOk P w H h) (k : ∀ b u,h.get? b = some u→h'.get? b = some u) : HOk P w H h':=fun a o e =>
  (x a o e).stay (fun b u _ q => k b u q) (fun _ q => q) fun _ _ q => q
theorem HOk.laid (x : HOk P w H h) (k : ∀ b u,h.get? b = some u→h'.get? b = some u) (hp : h.objs.size≤a) (new : ObjOk P w (upd H a o) h' a o) : HOk P w (upd H a o) h':=fun b u e => by
  have hn:=x.fresh hp
  by_cases hb : b = a
  · subst hb; rw [upd_same] at e; cases e; exact new
  · rw [upd_ne hb] at e
    exact (x b u e).stay (fun c v _ q => k c v q) (fun c q => by rw [upd_ne (ne_of_none q hn)]; exact q) fun c xs q => by rw [upd_ne (ne_of_none q hn)]; exact q
end
def Rd (H : Hp) (a : Addr) (u : HO) : Prop:=H a = some u∨∃ o,H a = some (.frz o u)
theorem Rd.ok {P : Program} {w : World} {H : Hp} {h : Heap} {a : Addr} {u : HO} (r : Rd H a u) (x : HOk P w H h) : ObjOk P w H h a u := by
  rcases r with r | ⟨o,r⟩
  · exact x a u r
  · obtain ⟨_,q⟩:=x a _ r
    exact q
def Mut : Option HO→Prop
  | some (.lst _) => True
  | some (.dK _) => True
  | some (.dT _) => True
  | some (.set _ _) => True
  | some (.ins _ _ _) => True
  | some (.ext _) => True
  | _ => False
section
variable {P : Program} {w : World} {H : Hp} {h h' : Heap} {x e : Addr} {o' : HO}
theorem HOk.write (ok : HOk P w H h) (mu : Mut (H x)) (he : e = x∨H e = some (.own x)) (k : ∀ b u,b≠e→h.get? b = some u→h'.get? b = some u) (heo : ∃ u,h'.get? e = some u)
    (new : ObjOk P w (upd H x o') h' x o') : HOk P w (upd H x o') h':=fun b u q => by
  have nown : ∀ c y,H c = some (.own y)→c≠x:=fun c y r z => by subst z; rw [r] at mu; exact mu
  have ntup : ∀ c xs,H c = some (.tup xs)→c≠x:=fun c xs r z => by subst z; rw [r] at mu; exact mu
  by_cases hb : b = x
  · subst hb; rw [upd_same] at q; cases q; exact new
  · rw [upd_ne hb] at q
    by_cases hbe : b = e
    · have q' : H b = some (.own x) := by
        rcases he with z | z
        · exact absurd (hbe.trans z) hb
        · rw [hbe]; exact z
      rw [q] at q'; cases q'
      obtain ⟨v,hv⟩:=heo
      exact ⟨v,by rw [hbe]; exact hv⟩
    · refine (ok b u q).stay (fun c v hc r => k c v ?_ r) (fun c r => by rw [upd_ne (nown c b r)]; exact r) fun c xs r => by rw [upd_ne (ntup c xs r)]; exact r
      rcases hc with rfl | hc
      · exact hbe
      · rintro rfl
        rcases he with z | z
        · exact nown c b hc z
        · rw [hc] at z; cases z; exact hb rfl
end
structure Un (fs ex : List Addr) (H H' : Hp) (h h' : Heap) : Prop where
  keep : ∀ b o,h.get? b = some o→H b = none→b ∉ fs→b ∉ ex→h'.get? b = some o
  slot : ∀ b o,h.get? b = some o→H b = none→b∈fs→b ∉ ex→∃ sl,h'.get? b = some { o with slots:=sl }
  free : ∀ b o,h.get? b = some o→H b = none→b ∉ ex→H' b = none
  there : ∀ b o,h.get? b = some o→b ∉ ex→∃ o',h'.get? b = some o'
  tups : ∀ b xs,H b = some (.tup xs)→H' b = some (.tup xs)
  frzs : ∀ b o u,H b = some (.frz o u)→H' b = some (.frz o u)
  tbls : ∀ b ps,H b = some (.tbl ps)→∃ more,H' b = some (.tbl (ps ++ more))
  tupo : ∀ b xs o,H b = some (.tup xs)→h.get? b = some o→b ∉ ex→h'.get? b = some o
section
variable {fs ex : List Addr} {H H1 : Hp} {h h1 h' : Heap} {a x e : Addr} {o : HO}
theorem Un.any (u : Un fs ex H H1 h h1) {b : Addr} {ob : Obj} (q : h.get? b = some ob) (n : H b = none) (hx : b ∉ ex) : ∃ sl,h1.get? b = some { ob with slots:=sl } := by
  by_cases hb : b∈fs
  · exact u.slot b ob q n hb hx
  · exact ⟨ob.slots,u.keep b ob q n hb hx⟩
theorem Un.kept (k : ∀ b u,h.get? b = some u→h'.get? b = some u) : Un fs ex H H h h' :=
  ⟨fun b ob q _ _ _ => k b ob q,fun b ob q _ _ _ => ⟨ob.slots,k b ob q⟩,fun _ _ _ n _ => n,fun b ob q _ => ⟨ob,k b ob q⟩,fun _ _ q => q,fun _ _ _ q => q,fun _ ps q => ⟨#[],by rw [q]; simp⟩,fun _ _ ob _ e _ => k _ ob e⟩
theorem Un.refl : Un fs ex H H h h:=Un.kept fun _ _ q => q
theorem Un.laid (k : ∀ b u,h.get? b = some u→h'.get? b = some u) (hp : h.objs.size≤a) (hn : H a = none) : Un fs ex H (upd H a o) h h' where
  keep:=fun b u q _ _ _ => k b u q
  slot:=fun b u q _ _ _ => ⟨u.slots,k b u q⟩
  free:=fun b u q n _ => by rw [upd_ne (Nat.ne_of_lt (Nat.lt_of_lt_of_le (Heap.lt_size q) hp))]; exact n
  there:=fun b u q _ => ⟨u,k b u q⟩
  tups:=fun b xs q => by rw [upd_ne (ne_of_none q hn)]; exact q
  frzs:=fun b u xs q => by rw [upd_ne (ne_of_none q hn)]; exact q
  tbls:=fun b ps q => ⟨#[],by rw [upd_ne (ne_of_none q hn),q]; simp⟩
  tupo:=fun b _ u _ e _ => k b u e
theorem Un.write (mu : Mut (H x)) (he : e = x∨H e = some (.own x)) (k : ∀ b u,b≠e→h.get? b = some u→h'.get? b = some u) (heo : ∃ u,h'.get? e = some u) : Un fs ex H (upd H x o) h h' := by
  have hx : ∀ b,H b = none→b≠x:=fun b n z => by subst z; rw [n] at mu; exact mu
  have hb : ∀ b,H b = none→b≠e:=fun b n z => by
    subst z
    rcases he with r | r
    · exact hx b n r
    · rw [n] at r; cases r
  have hm : ∀ b u,H b = some u→¬ Mut (some u)→b≠x:=fun b u q nm z => by subst z; rw [q] at mu; exact nm mu
  refine ⟨fun b u q n _ _ => k b u (hb b n) q,fun b u q n _ _ => ⟨u.slots,k b u (hb b n) q⟩,fun b u q n _ => by rw [upd_ne (hx b n)]; exact n,fun b u q _ => ?_,
    fun b xs q => by rw [upd_ne (hm b _ q fun z => z)]; exact q,fun b u xs q => by rw [upd_ne (hm b _ q fun z => z)]; exact q,fun b ps q => ⟨#[],by rw [upd_ne (hm b _ q fun z => z),q]; simp⟩,fun b xs u q e _ => k b u (fun z => by
      rcases he with r | r
      · exact hm b _ q (fun z => z) (z.trans r)
      · rw [← z,q] at r; cases r) e⟩
  by_cases hbe : b = e
  · subst hbe; exact heo
  · exact ⟨u,k b u hbe q⟩
end
def trk (h : Heap) (H : Hp) : List Addr:=(List.range h.objs.size).filter fun a => (H a).isSome
def hidT (h : Heap) (H : Hp) : Heap:=PySem.W.hideAll h (trk h H)
theorem hidT_size (h : Heap) (H : Hp) : (hidT h H).objs.size = h.objs.size:=PySem.W.hideAll_size _ _
theorem hidT_get {h : Heap} {H : Hp} {b : Addr} {o : Obj} (e : h.get? b = some o) (n : H b = none) : (hidT h H).get? b = some o :=
  PySem.W.hideAll_get _ e fun hm => by
    have q : (H b).isSome = true:=(List.mem_filter.mp hm).2
    rw [n] at q; simp at q
theorem of_hidT {h : Heap} {H : Hp} {b : Addr} {o : Obj} (e : (hidT h H).get? b = some o) : h.get? b = some o∧H b = none := by
  have e' : h.get? b = some o:=PySem.W.of_hideAll (trk h H) e
  refine ⟨e',?_⟩
  cases q : H b with
  | none => rfl
  | some x =>
    have hm : b∈trk h H:=List.mem_filter.mpr ⟨List.mem_range.mpr (Heap.lt_size e'),by simp [q]⟩
    have z : (hidT h H).get? b = none:=PySem.W.hideAll_none (trk h H) hm
    rw [z] at e; cases e
structure Mod (K : PySem.W.Frag) (mg : Str→Option Value) (base : Heap) : Prop where
  kin : K.In base
  glob : base.Ns mainGlobals mg
  blt : ∃ mb,base.Ns builtinsNs mb∧∀ x : Str,x ≠ "__name__" → mb x = bootBuiltins x
  nolimit : base.NoLimit
def tbT (d : Nat) : List (List V):=[[],[.ref (d + 1)],[.int 1,.int 1],[.ref (d + 3)],[.ref (d + 2),.ref (d + 4)],[],[.int 1,.int 2],[.ref (d + 7)],[.ref (d + 6),.ref (d + 8)],[.int 0,.int 1],[.int 1,.int 1],[.ref (d + 10),.ref (d + 11)],[.ref (d + 9),.ref (d + 12)],[],[.int 1,.int 1],[.ref (d + 15)],[.ref (d + 14),.ref (d + 16)],[.int 1,.int 2],[.int 1,.int 2],[.ref (d + 18),.ref (d + 19)],[.ref (d + 17),.ref (d + 20)],[],[.int 1,.int 3],[.ref (d + 23)],[.int 0,.int 1],[.int 2,.int 3],[.ref (d + 25),.ref (d + 26)],[.ref (d + 22),.ref (d + 24),.ref (d + 27)],[.int 1,.int 4],[.int 0,.int 1],[.int 3,.int 4],[.ref (d + 29),.ref (d + 30),.ref (d + 31)],[.ref (d + 28),.ref (d + 32)],[],[.int 1,.int 2],[.ref (d + 35)],[.int 0,.int 1],[.int 1,.int 2],[.ref (d + 37),.ref (d + 38)],[.int 0,.int 1],[.int 0,.int 1],[.int 1,.int 1],[.ref (d + 40),.ref (d + 41),.ref (d + 42)],[.ref (d + 34),.ref (d + 36),.ref (d + 39),.ref (d + 43)],[.int 1,.int 6],[.int 1,.int 3],[.int 1,.int 3],[.int 1,.int 6],[.ref (d + 45),.ref (d + 46),.ref (d + 47),.ref (d + 48)],[.ref (d + 44),.ref (d + 49)]]
def tbK (d : Nat) : List (Key×V):=[(.inr "plain",.ref (d + 5)),(.inr "middle",.ref (d + 13)),(.inr "heel",.ref (d + 21)),(.inr "third",.ref (d + 33)),(.inr "fourth",.ref (d + 50))]
def KTb (mg : Str→Option Value) (H : Hp) : Prop:=∀ d : Addr,mg "NAMED_TABLES" = some (.ref d)→(∃ o,H d = some (.frz o (.dK (tbK d))))∧∀ j xs,(tbT d)[j]? = some xs→H (d + 1 + j) = some (.tup xs)
theorem KTb.un {mg : Str→Option Value} {fs ex : List Addr} {H H' : Hp} {h h' : Heap} (k : KTb mg H) (u : Un fs ex H H' h h') : KTb mg H':=fun d e => by
  obtain ⟨⟨o,h1⟩,h2⟩:=k d e
  exact ⟨⟨o,u.frzs _ _ _ h1⟩,fun j xs q => u.tups _ _ (h2 j xs q)⟩
structure Cx where
  prog : Program
  w : World
  K : PySem.W.Frag
  mg : Str→Option Value
  base : Heap
  A : Around
  N : List Str
  s₀ : Shared
  H₀ : Hp
  env : Env
  outer : List Env
  stack : List Env
  ex : List Addr
  fn : Str→Bool
  calm : Bool
  pn : List (Addr×Obj)
  xe : Value→Shared→Prop
def frs (l : List Env) : List Addr:=l.filterMap (·.frame)
abbrev Cx.fs (X : Cx) : List Addr:=frs X.outer
def Vis (sc : Scope) (x : Str) : Prop:=sc.names.lookup x = some .local∨sc.names.lookup x = some .cell∨sc.names.lookup x = some .free
def Loc (sc : Scope) (x : Str) : Prop:=sc.names.lookup x = some .local∨sc.names.lookup x = some .cell
def Look (env : Env) (h : Heap) (m : Str→Option Value) (x : Str) (u : Value) : Prop :=
  (env.kindOf x = some .local∧m x = some u)∨((env.kindOf x = some .cell∨env.kindOf x = some .free)∧∃ c,env.cells.lookup x = some c∧h.IsCell c (some u))
structure Cx.Ok (X : Cx) : Prop where
  mod : Mod X.K X.mg X.base
  kind : X.env.scope.kind = .function
  glob : X.env.globals = mainGlobals
  blt : X.env.builtins = builtinsNs
  above : X.s₀.heap.objs.size≤X.env.locals
  inj : ∀ x y c,X.env.cells.lookup x = some c→X.env.cells.lookup y = some c→x = y
  has : ∀ x,(X.env.kindOf x = some .cell∨X.env.kindOf x = some .free)→∃ c,X.env.cells.lookup x = some c
  cab : ∀ x c,X.fn x = true→X.env.cells.lookup x = some c→X.s₀.heap.objs.size≤c
  hd : X.calm = true→X.A.handled = none
  frames : X.A.frames = some X.stack
  stk : X.stack = X.outer∨(X.stack = X.env :: X.outer∧X.env.frame = some X.env.locals)
  exf : ∀ b∈X.ex,b≠X.env.locals∧∀ x c,X.env.cells.lookup x = some c→c≠b
  bs : ∀ b o,X.base.get? b = some o→X.s₀.heap.get? b = some o∧X.H₀ b = none
  bsz : X.base.objs.size≤X.s₀.heap.objs.size
  noex : ∀ b o,X.base.get? b = some o→b ∉ X.ex
  exfs : ∀ b∈X.ex,b ∉ X.fs
  funs : X.s₀.heap.FunFrames X.base X.outer
  frf : ∀ b∈X.fs,X.H₀ b = none
  kt : KTb X.mg X.H₀
structure Inv (X : Cx) (pins : List (Addr×Obj)) (σ : List (Option V)) (H : Hp) (s : Shared) : Prop where
  ok : X.Ok
  os : s.os = X.s₀.os
  bare : AllBare s.gens
  base : Un X.fs X.ex X.H₀ H X.s₀.heap s.heap
  loc : ∃ m,s.heap.Ns X.env.locals m∧∀ (i : Nat) (x : Str) (v : V),X.N[i]? = some x→σ[i]? = some (some v)→Vis X.env.scope x→∃ u,RelV v u∧Look X.env s.heap m x u
  cell : ∀ x c,X.env.cells.lookup x = some c→∃ v,s.heap.IsCell c v
  free : H X.env.locals = none
  freeC : ∀ x c,X.env.cells.lookup x = some c→H c = none
  pin : ∀ p∈X.pn ++ pins,s.heap.get? p.1 = some p.2∧H p.1 = none∧p.1≠X.env.locals∧p.1 ∉ X.fs∧∀ v,p.2.data≠.cell v
  hok : HOk X.prog X.w H s.heap
  len : σ.length = X.N.length
theorem Inv.kt {X : Cx} {pins : List (Addr×Obj)} {σ : List (Option V)} {H : Hp} {s : Shared} (I : Inv X pins σ H s) : KTb X.mg H:=I.ok.kt.un I.base
section
variable {X : Cx} {pins : List (Addr×Obj)} {σ : List (Option V)} {H H' : Hp} {s : Shared} {h' : Heap}
theorem Cx.Ok.nofr (ok : X.Ok) {b : Addr} {o : Obj} (e : X.base.get? b = some o) : b ∉ X.fs:=fun hb => by
  have:=(ok.funs.mem hb).1
  rw [e] at this; cases this
theorem Inv.bs (I : Inv X pins σ H s) : ∀ b o,X.base.get? b = some o→s.heap.get? b = some o∧H b = none:=fun b o e =>
  ⟨I.base.keep b o (I.ok.bs b o e).1 (I.ok.bs b o e).2 (I.ok.nofr e) (I.ok.noex b o e),I.base.free b o (I.ok.bs b o e).1 (I.ok.bs b o e).2 (I.ok.noex b o e)⟩
theorem Inv.bk (I : Inv X pins σ H s) : ∀ b o,X.base.get? b = some o→s.heap.get? b = some o:=fun b o e => (I.bs b o e).1
theorem Inv.mod (I : Inv X pins σ H s) : Mod X.K X.mg X.base:=I.ok.mod
theorem Inv.kIn (I : Inv X pins σ H s) : X.K.In s.heap:=I.ok.mod.kin.keeps I.bk
theorem Inv.lt (I : Inv X pins σ H s) : X.env.locals < s.heap.objs.size:=let ⟨_,hn,_⟩:=I.loc; hn.lt
theorem Inv.sz (I : Inv X pins σ H s) : X.s₀.heap.objs.size≤s.heap.objs.size:=Nat.le_trans I.ok.above (Nat.le_of_lt I.lt)
theorem Inv.nofs (I : Inv X pins σ H s) {a : Addr} (h : s.heap.objs.size≤a) : a ∉ X.fs:=fun hb => by
  obtain ⟨_,o,ho,_⟩:=I.ok.funs.mem hb
  exact absurd (Nat.lt_of_lt_of_le (Heap.lt_size ho) (Nat.le_trans I.sz h)) (Nat.lt_irrefl _)
theorem Inv.cne (I : Inv X pins σ H s) : ∀ x c,X.env.cells.lookup x = some c→c≠X.env.locals:=fun x c e z => by
  obtain ⟨v,o,ho,hd⟩:=I.cell x c e
  obtain ⟨m,⟨o',es,ep,ho',hd',_⟩,_⟩:=I.loc
  rw [z,ho'] at ho; cases ho; rw [hd'] at hd; cases hd
theorem Inv.funs (I : Inv X pins σ H s) : s.heap.FunFrames X.base X.outer := by
  have all : ∀ (l : List Env),(∀ b∈frs l,b∈X.fs)→X.s₀.heap.FunFrames X.base l→s.heap.FunFrames X.base l := by
    intro l
    induction l with
    | nil => intro _ _; trivial
    | cons env r ih =>
      intro hs hl
      obtain ⟨hk,⟨L,o,hf,hn,ho,hd⟩,hr⟩:=hl
      have hL : L∈X.fs:=hs L (by unfold frs; rw [List.filterMap_cons,hf]; exact List.mem_cons_self)
      obtain ⟨sl,e⟩:=I.base.slot L o ho (I.ok.frf L hL) hL fun z => I.ok.exfs L z hL
      exact ⟨hk,⟨L,_,hf,hn,e,hd⟩,ih (fun b hb => hs b (by unfold frs; rw [List.filterMap_cons,hf]; exact List.mem_cons_of_mem _ hb)) hr⟩
  exact all X.outer (fun _ hb => hb) I.ok.funs
theorem Inv.stack (I : Inv X pins σ H s) : s.heap.FunFrames X.base X.stack := by
  rcases I.ok.stk with e | ⟨e,hf⟩
  · rw [e]; exact I.funs
  · rw [e]
    obtain ⟨m,hn,_⟩:=I.loc
    refine .cons (by rw [I.ok.kind]; decide) hf hn ?_ I.funs
    exact Heap.get?_none_of_le (Nat.le_trans I.ok.bsz I.ok.above)
theorem Inv.stkSub (I : Inv X pins σ H s) : ∀ b∈frs X.stack,b∈X.env.locals :: X.fs:=fun b hb => by
  rcases I.ok.stk with e | ⟨e,hf⟩
  · rw [e] at hb; exact List.mem_cons_of_mem _ hb
  · rw [e] at hb
    unfold frs at hb
    rw [List.filterMap_cons,hf] at hb
    exact hb
theorem Inv.stkFree (I : Inv X pins σ H s) : ∀ b∈frs X.stack,H b = none:=fun b hb => by
  rcases List.mem_cons.mp (I.stkSub b hb) with e | hb
  · rw [e]; exact I.free
  · obtain ⟨_,o,ho,_⟩:=I.ok.funs.mem hb
    exact I.base.free b o ho (I.ok.frf b hb) fun z => I.ok.exfs b z hb
theorem Inv.step {g' : Array GenState} {t' : Nat} {d' : Drawn} {ch : List Addr} (I : Inv X pins σ H s)
    (hch : ∀ b∈ch,(b∈X.ex∨X.s₀.heap.objs.size≤b)∧b≠X.env.locals∧(∀ x c,X.env.cells.lookup x = some c→c≠b)∧∀ p∈X.pn ++ pins,p.1≠b)
    (keep : ∀ b o,b≠X.env.locals→b ∉ X.fs→b ∉ ch→s.heap.get? b = some o→H b = none→h'.get? b = some o)
    (slot : ∀ b o,b≠X.env.locals→b∈X.fs→b ∉ ch→s.heap.get? b = some o→H b = none→∃ sl,h'.get? b = some { o with slots:=sl }) (free : ∀ b o,b ∉ ch→s.heap.get? b = some o→H b = none→H' b = none)
    (there : ∀ b o,b ∉ ch→s.heap.get? b = some o→∃ o',h'.get? b = some o')
    (tups : ∀ b xs,H b = some (.tup xs)→H' b = some (.tup xs)) (frzs : ∀ b o u,H b = some (.frz o u)→H' b = some (.frz o u)) (tbls : ∀ b ps,H b = some (.tbl ps)→∃ more,H' b = some (.tbl (ps ++ more)))
    (tupo : ∀ b xs o,b ∉ ch→H b = some (.tup xs)→s.heap.get? b = some o→h'.get? b = some o)
    (ns : ∀ m,s.heap.Ns X.env.locals m→h'.Ns X.env.locals m) (hok : HOk X.prog X.w H' h') (hg : AllBare g') :
    Inv X pins σ H' { s with heap:=h',gens:=g',drawn:=d',toks:=t' } := by
  have neL : ∀ b o,X.s₀.heap.get? b = some o→b≠X.env.locals:=fun b o e => Nat.ne_of_lt (Nat.lt_of_lt_of_le (Heap.lt_size e) I.ok.above)
  have neC : ∀ b o,X.s₀.heap.get? b = some o→b ∉ X.ex→b ∉ ch:=fun b o e hx hb => by
    rcases (hch b hb).1 with z | z
    · exact hx z
    · exact absurd (Nat.lt_of_lt_of_le (Heap.lt_size e) z) (Nat.lt_irrefl _)
  have cellK : ∀ x c,X.env.cells.lookup x = some c→∀ v,s.heap.IsCell c v→h'.IsCell c v:=fun x c e v ⟨o,ho,hd⟩ => by
    have nch : c ∉ ch:=fun z => (hch c z).2.2.1 x c e rfl
    by_cases hc : c∈X.fs
    · obtain ⟨sl,q⟩:=slot c o (I.cne x c e) hc nch ho (I.freeC x c e)
      exact ⟨_,q,hd⟩
    · exact ⟨o,keep c o (I.cne x c e) hc nch ho (I.freeC x c e),hd⟩
  refine ⟨I.ok,I.os,hg,⟨fun b o e n hb hx => ?_,fun b o e n hb hx => ?_,fun b o e n hx => ?_,fun b o e hx => ?_,fun b xs e => tups b xs (I.base.tups b xs e),fun b o xs e => frzs b o xs (I.base.frzs b o xs e),fun b ps e => ?_,fun b xs o q e hx => tupo b xs o (neC b o e hx) (I.base.tups b xs q) (I.base.tupo b xs o q e hx)⟩,?_,fun x c e => ?_,?_,fun x c e => ?_,fun p hp => ?_,hok,I.len⟩
  · exact keep b o (neL b o e) hb (neC b o e hx) (I.base.keep b o e n hb hx) (I.base.free b o e n hx)
  · obtain ⟨sl,e1⟩:=I.base.slot b o e n hb hx
    obtain ⟨sl',e2⟩:=slot b _ (neL b o e) hb (neC b o e hx) e1 (I.base.free b o e n hx)
    exact ⟨sl',e2⟩
  · obtain ⟨o',e1⟩:=I.base.there b o e hx
    exact free b o' (neC b o e hx) e1 (I.base.free b o e n hx)
  · obtain ⟨o',e1⟩:=I.base.there b o e hx
    exact there b o' (neC b o e hx) e1
  · obtain ⟨m1,e1⟩:=I.base.tbls b ps e
    obtain ⟨m2,e2⟩:=tbls b _ e1
    exact ⟨m1 ++ m2,by rw [e2,Array.append_assoc]⟩
  · obtain ⟨m,hn,hl⟩:=I.loc
    refine ⟨m,ns m hn,fun i x v e1 e2 e3 => ?_⟩
    obtain ⟨u,r,l⟩:=hl i x v e1 e2 e3
    refine ⟨u,r,?_⟩
    rcases l with l | ⟨k,c,e,z⟩
    · exact .inl l
    · exact .inr ⟨k,c,e,cellK x c e _ z⟩
  · obtain ⟨v,z⟩:=I.cell x c e
    exact ⟨v,cellK x c e v z⟩
  · obtain ⟨m,⟨o,_,_,ho,_⟩,_⟩:=I.loc
    exact free _ o (fun z => (hch _ z).2.1 rfl) ho I.free
  · obtain ⟨v,o,ho,hd⟩:=I.cell x c e
    exact free c o (fun z => (hch c z).2.2.1 x c e rfl) ho (I.freeC x c e)
  · obtain ⟨e,n,ne,nf,d⟩:=I.pin p hp
    have nch : p.1 ∉ ch:=fun z => (hch p.1 z).2.2.2 p hp rfl
    exact ⟨keep p.1 p.2 ne nf nch e n,free p.1 p.2 nch e n,ne,nf,d⟩
theorem Inv.un {t' : Nat} (I : Inv X pins σ H s) (u : Un X.fs [] H H' s.heap h') (hok : HOk X.prog X.w H' h') : Inv X pins σ H' { s with heap:=h',toks:=t' } := by
  obtain ⟨m,⟨o,es,ep,ho,r⟩,_⟩:=id I.loc
  obtain ⟨sl,hL⟩:=u.any ho I.free (by simp)
  exact I.step (g':=s.gens) (d':=s.drawn) (ch:=[]) (fun _ z => nomatch z) (fun b o _ hb _ e n => u.keep b o e n hb (by simp)) (fun b o _ hb _ e n => u.slot b o e n hb (by simp)) (fun b o _ e n => u.free b o e n (by simp)) (fun b o _ e => u.there b o e (by simp)) u.tups u.frzs u.tbls (fun b xs o _ q e => u.tupo b xs o q e (by simp)) (fun m' hm => by
    obtain ⟨o',es',ep',ho',r'⟩:=hm
    rw [ho] at ho'; cases ho'
    exact ⟨_,es',ep',hL,r'⟩) hok I.bare
theorem Inv.call {g' : Array GenState} {t' : Nat} {d' : Drawn} {ch : List Addr} (I : Inv X pins σ H s) (u : Un (frs X.stack) ch H H' s.heap h') (hok : HOk X.prog X.w H' h') (hg : AllBare g')
    (hch : ∀ b∈ch,(b∈X.ex∨X.s₀.heap.objs.size≤b)∧b≠X.env.locals∧(∀ x c,X.env.cells.lookup x = some c→c≠b)∧∀ p∈X.pn ++ pins,p.1≠b) :
    Inv X pins σ H' { s with heap:=h',gens:=g',drawn:=d',toks:=t' } := by
  obtain ⟨m,⟨o,es,ep,ho,r⟩,_⟩:=id I.loc
  obtain ⟨sl,hL⟩:=u.any ho I.free fun z => (hch _ z).2.1 rfl
  exact I.step (ch:=ch) hch (fun b o hL hb hc e n => u.keep b o e n (fun z => (List.mem_cons.mp (I.stkSub b z)).elim hL hb) hc) (fun b o _ _ hc e n => u.any e n hc) (fun b o hc e n => u.free b o e n hc) (fun b o hc e => u.there b o e hc) u.tups u.frzs u.tbls (fun b xs o hc q e => u.tupo b xs o q e hc) (fun m' hm => by
    obtain ⟨o',es',ep',ho',r'⟩:=hm
    rw [ho] at ho'; cases ho'
    exact ⟨_,es',ep',hL,r'⟩) hok hg
theorem Inv.turned {t' : Nat} {it : Addr} (I : Inv X pins σ H s) (k : ∀ b o,b≠it→s.heap.get? b = some o→h'.get? b = some o) (hn : H it = none) (hL : it≠X.env.locals)
    (h1 : it∈X.ex∨X.s₀.heap.objs.size≤it) (h2 : ∀ x c,X.env.cells.lookup x = some c→c≠it) (h3 : ∀ p∈X.pn ++ pins,p.1≠it) : Inv X pins σ H { s with heap:=h',toks:=t' } := by
  have nit : ∀ b u,H b = some u→b≠it:=fun b u e z => by rw [z,hn] at e; cases e
  refine I.step (g':=s.gens) (d':=s.drawn) (ch:=[it]) (fun b hb => ?_) (fun b o _ _ hc e _ => k b o (fun z => hc (by simp [z])) e) (fun b o _ _ hc e _ => ⟨o.slots,k b o (fun z => hc (by simp [z])) e⟩) (fun _ _ _ _ n => n)
    (fun b o hc e => ⟨o,k b o (fun z => hc (by simp [z])) e⟩) (fun _ _ e => e) (fun _ _ _ e => e) (fun b ps e => ⟨#[],by rw [e]; simp⟩) (fun b xs o hc _ e => k b o (fun z => hc (by simp [z])) e) (fun m hm => ?_) (fun b u e => ?_) I.bare
  · have e : b = it := by simpa using hb
    subst e
    exact ⟨h1,hL,h2,h3⟩
  · obtain ⟨o,es,ep,ho,r⟩:=hm
    exact ⟨o,es,ep,k _ o (Ne.symm hL) ho,r⟩
  · refine (I.hok b u e).stay (fun c v hc q => k c v ?_ q) (fun _ q => q) fun _ _ q => q
    rcases hc with z | z
    · rw [z]; exact nit b u e
    · exact nit c _ z
theorem Inv.tok (I : Inv X pins σ H s) (t : Nat) : Inv X pins σ H { s with toks:=t }:=I.un (h':=s.heap) (t':=t) Un.refl I.hok
theorem Inv.kept {t' : Nat} (I : Inv X pins σ H s) (k : ∀ b u,s.heap.get? b = some u→h'.get? b = some u) : Inv X pins σ H { s with heap:=h',toks:=t' }:=I.un (Un.kept k) (I.hok.kept k)
theorem Inv.laid {a : Addr} {o : HO} {t' : Nat} (I : Inv X pins σ H s) (k : ∀ b u,s.heap.get? b = some u→h'.get? b = some u) (hp : s.heap.objs.size≤a) (new : ObjOk X.prog X.w (upd H a o) h' a o) :
    Inv X pins σ (upd H a o) { s with heap:=h',toks:=t' }:=I.un (Un.laid k hp (I.hok.fresh hp)) (I.hok.laid k hp new)
theorem Inv.write {x e : Addr} {o : HO} {t' : Nat} (I : Inv X pins σ H s) (mu : Mut (H x)) (he : e = x∨H e = some (.own x)) (k : ∀ b u,b≠e→s.heap.get? b = some u→h'.get? b = some u) (heo : ∃ u,h'.get? e = some u)
    (new : ObjOk X.prog X.w (upd H x o) h' x o) : Inv X pins σ (upd H x o) { s with heap:=h',toks:=t' }:=I.un (Un.write mu he k heo) (I.hok.write mu he k heo new)
theorem Inv.pins_of {pins' : List (Addr×Obj)} (I : Inv X pins σ H s) (h : ∀ p∈pins',s.heap.get? p.1 = some p.2∧H p.1 = none∧p.1≠X.env.locals∧p.1 ∉ X.fs∧∀ v,p.2.data≠.cell v) : Inv X pins' σ H s :=
  ⟨I.ok,I.os,I.bare,I.base,I.loc,I.cell,I.free,I.freeC,fun p hp => (List.mem_append.mp hp).elim (fun z => I.pin p (List.mem_append_left _ z)) (h p),I.hok,I.len⟩
theorem nodup_ix {N : List Str} (hN : N.Nodup) {i j : Nat} {x : Str} (a : N[i]? = some x) (b : N[j]? = some x) : i = j := by
  obtain ⟨h1,e1⟩:=List.getElem?_eq_some_iff.mp a
  obtain ⟨h2,e2⟩:=List.getElem?_eq_some_iff.mp b
  exact (List.getElem_inj hN).mp (e1.trans e2.symm)
theorem store_ok2 {M : Model} {A : Around} {E : Value→Shared→Prop} {i : Nat} {x : Str} {v : V} {u : Value} {Q : Unit→Shared→Prop} (I : Inv X pins σ H s) (hN : X.N.Nodup) (hi : X.N[i]? = some x) (hx : Loc X.env.scope x) (r : RelV v u)
    (h : ∀ s',Inv X pins (σ.set i (some v)) H s'→(∃ a,Heap.SameBut a s.heap s'.heap∧(a = X.env.locals∨X.env.cells.lookup x = some a))→Q () s') (hf : X.fn x = true∨X.env.scope.names.lookup x = some .local := by first | exact .inl rfl | exact .inr rfl | assumption) : wpAny M A (storeName X.env x u) Q E s := by
  obtain ⟨m,hn,hl⟩:=id I.loc
  have hcls : (X.env.scope.kind == .class || (X.env.scope.kind == .module && X.env.locals != X.env.globals)) = false := by rw [I.ok.kind]; rfl
  have hiσ : i < σ.length := by rw [I.len]; exact (List.getElem?_eq_some_iff.mp hi).1
  have cne:=I.cne
  have tracked : ∀ {a : Addr} {h' : Heap},(∃ o,s.heap.get? a = some o∧H a = none)→Heap.SameBut a s.heap h'→HOk X.prog X.w H h':=fun {a h'} ha hs b ob e => by
    obtain ⟨_,_,hfree⟩:=ha
    refine (I.hok b ob e).stay (fun c w' hc q => (hs.2 c ?_).trans q) (fun _ q => q) fun _ _ q => q
    rintro rfl
    rcases hc with rfl | hc
    · rw [hfree] at e; cases e
    · rw [hfree] at hc; cases hc
  rcases hx with hk | hk
  · refine wpAny_storeName_local hk hn (fun h' hn' hs => ?_) hcls
    obtain ⟨oL,_,_,hoL,_⟩:=id hn
    refine h _ ⟨I.ok,I.os,I.bare,⟨fun b o e n hb hx => ?_,fun b o e n hb hx => ?_,I.base.free,fun b o e hx => ?_,I.base.tups,I.base.frzs,I.base.tbls,fun b xs o q e hx => (hs.2 b (Nat.ne_of_lt (Nat.lt_of_lt_of_le (Heap.lt_size e) I.ok.above))).trans (I.base.tupo b xs o q e hx)⟩,⟨_,hn',fun j y v' e1 e2 e3 => ?_⟩,fun y c e => ?_,I.free,I.freeC,fun p hp => ?_,tracked ⟨oL,hoL,I.free⟩ hs,by simpa using I.len⟩ ⟨_,hs,.inl rfl⟩
    · exact (hs.2 b (Nat.ne_of_lt (Nat.lt_of_lt_of_le (Heap.lt_size e) I.ok.above))).trans (I.base.keep b o e n hb hx)
    · obtain ⟨sl,e1⟩:=I.base.slot b o e n hb hx
      exact ⟨sl,(hs.2 b (Nat.ne_of_lt (Nat.lt_of_lt_of_le (Heap.lt_size e) I.ok.above))).trans e1⟩
    · obtain ⟨o',e1⟩:=I.base.there b o e hx
      exact ⟨o',(hs.2 b (Nat.ne_of_lt (Nat.lt_of_lt_of_le (Heap.lt_size e) I.ok.above))).trans e1⟩
    · by_cases hj : j = i
      · subst hj
        rw [hi] at e1; cases e1
        rw [List.getElem?_set_self hiσ] at e2
        cases e2
        exact ⟨u,r,.inl ⟨hk,by simp⟩⟩
      · rw [List.getElem?_set_ne (Ne.symm hj)] at e2
        obtain ⟨u',r',q⟩:=hl j y v' e1 e2 e3
        refine ⟨u',r',?_⟩
        rcases q with ⟨k,e⟩ | ⟨k,c,e,z⟩
        · refine .inl ⟨k,?_⟩
          have : y≠x:=fun e => hj (nodup_ix hN e1 (e ▸ hi))
          simp [this,e]
        · exact .inr ⟨k,c,e,z.sameBut hs (cne y c e)⟩
    · obtain ⟨w',z⟩:=I.cell y c e
      exact ⟨w',z.sameBut hs (cne y c e)⟩
    · obtain ⟨e,n,ne,nf,d⟩:=I.pin p hp
      exact ⟨(hs.2 p.1 ne).trans e,n,ne,nf,d⟩
  · have hfn : X.fn x = true := by
      rcases hf with z | z
      · exact z
      · rw [z] at hk; cases hk
    obtain ⟨c,hc⟩:=I.ok.has x (.inl hk)
    obtain ⟨w',z⟩:=I.cell x c hc
    refine wpAny_storeName_cell I.ok.kind hk hc z (fun h' hc' hs => ?_)
    obtain ⟨oc,hoc,hocd⟩:=id z
    refine h { s with heap:=h' } ⟨I.ok,I.os,I.bare,⟨fun b o e n hb hx => ?_,fun b o e n hb hx => ?_,I.base.free,fun b o e hx => ?_,I.base.tups,I.base.frzs,I.base.tbls,fun b xs o q e hx => (hs.2 b (Nat.ne_of_lt (Nat.lt_of_lt_of_le (Heap.lt_size e) (I.ok.cab x c hfn hc)))).trans (I.base.tupo b xs o q e hx)⟩,⟨m,hn.sameBut hs (Ne.symm (cne x c hc)),fun j y v' e1 e2 e3 => ?_⟩,fun y c' e => ?_,I.free,I.freeC,fun p hp => ?_,tracked ⟨oc,hoc,I.freeC x c hc⟩ hs,by simpa using I.len⟩ ⟨c,hs,.inr hc⟩
    · exact (hs.2 b (Nat.ne_of_lt (Nat.lt_of_lt_of_le (Heap.lt_size e) (I.ok.cab x c hfn hc)))).trans (I.base.keep b o e n hb hx)
    · obtain ⟨sl,e1⟩:=I.base.slot b o e n hb hx
      exact ⟨sl,(hs.2 b (Nat.ne_of_lt (Nat.lt_of_lt_of_le (Heap.lt_size e) (I.ok.cab x c hfn hc)))).trans e1⟩
    · obtain ⟨o',e1⟩:=I.base.there b o e hx
      exact ⟨o',(hs.2 b (Nat.ne_of_lt (Nat.lt_of_lt_of_le (Heap.lt_size e) (I.ok.cab x c hfn hc)))).trans e1⟩
    · by_cases hj : j = i
      · subst hj
        rw [hi] at e1; cases e1
        rw [List.getElem?_set_self hiσ] at e2
        cases e2
        exact ⟨u,r,.inr ⟨.inl hk,c,hc,hc'⟩⟩
      · rw [List.getElem?_set_ne (Ne.symm hj)] at e2
        obtain ⟨u',r',q⟩:=hl j y v' e1 e2 e3
        refine ⟨u',r',?_⟩
        rcases q with q | ⟨k,c',e,z'⟩
        · exact .inl q
        · refine .inr ⟨k,c',e,z'.sameBut hs ?_⟩
          rintro rfl
          exact hj (nodup_ix hN e1 (I.ok.inj _ _ _ e hc ▸ hi))
    · by_cases hcc : c' = c
      · subst hcc; exact ⟨_,hc'⟩
      · obtain ⟨w2,z2⟩:=I.cell y c' e
        exact ⟨w2,z2.sameBut hs hcc⟩
    · obtain ⟨e,n,ne,nf,d⟩:=I.pin p hp
      refine ⟨(hs.2 p.1 ?_).trans e,n,ne,nf,d⟩
      intro q
      rw [q,hoc] at e
      have q' : oc = p.2:=Option.some.inj e
      exact d w' (by rw [← q']; exact hocd)
theorem store_ok {M : Model} {A : Around} {E : Value→Shared→Prop} {i : Nat} {x : Str} {v : V} {u : Value} {Q : Unit→Shared→Prop} (I : Inv X pins σ H s) (hN : X.N.Nodup) (hi : X.N[i]? = some x) (hx : Loc X.env.scope x) (r : RelV v u)
    (h : ∀ s',Inv X pins (σ.set i (some v)) H s'→Q () s') (hf : X.fn x = true∨X.env.scope.names.lookup x = some .local := by first | exact .inl rfl | exact .inr rfl | assumption) : wpAny M A (storeName X.env x u) Q E s :=
  store_ok2 I hN hi hx r (fun s' I' _ => h s' I') hf
theorem Inv.call' {s' : Shared} {ch : List Addr} (I : Inv X pins σ H s) (ho : s'.os = s.os) (u : Un (frs X.stack) ch H H' s.heap s'.heap) (hok : HOk X.prog X.w H' s'.heap) (hg : AllBare s'.gens)
    (hch : ∀ b∈ch,(b∈X.ex∨X.s₀.heap.objs.size≤b)∧b≠X.env.locals∧(∀ x c,X.env.cells.lookup x = some c→c≠b)∧∀ p∈X.pn ++ pins,p.1≠b) : Inv X pins σ H' s' := by
  obtain ⟨h',g',d',t',o'⟩:=s'
  have e : o' = s.os:=ho
  subst e
  exact I.call (g':=g') (t':=t') (d':=d') u hok hg hch
end
abbrev XK:=Value→Option Addr→Hp→Prop
abbrev St:=List (Option V)
abbrev VK:=V→Hp→Prop
abbrev TE:=St→Hp→VK→Prop
abbrev TT:=St→Hp→(Bool→Hp→Prop)→Prop
abbrev TA:=St→Hp→(List V→Hp→Prop)→Prop
structure Ends where
  nx : St→Hp→Prop
  rt : VK
  bk : St→Hp→Prop:=fun _ _ => False
  ct : St→Hp→Prop:=fun _ _ => False
abbrev TS:=Ends→St→Hp→Prop
def EP (X : Cx) (pins : List (Addr×Obj)) (σ : St) (Q : VK) (u : Value) (s' : Shared) : Prop:=∃ v H',Inv X pins σ H' s'∧RelV v u∧Q v H'
def TP (X : Cx) (pins : List (Addr×Obj)) (σ : St) (Q : Bool→Hp→Prop) (b : Bool) (s' : Shared) : Prop:=∃ H',Inv X pins σ H' s'∧Q b H'
def AP (X : Cx) (pins : List (Addr×Obj)) (σ : St) (Q : List V→Hp→Prop) (us : List Value) (s' : Shared) : Prop:=∃ vs H',Inv X pins σ H' s'∧Vals vs us∧Q vs H'
def SP (X : Cx) (pins : List (Addr×Obj)) (D : Ends) (f : Flow) (s' : Shared) : Prop :=
  match f with
  | .next => ∃ σ' H',Inv X pins σ' H' s'∧D.nx σ' H'
  | .brk => ∃ σ' H',Inv X pins σ' H' s'∧D.bk σ' H'
  | .cont => ∃ σ' H',Inv X pins σ' H' s'∧D.ct σ' H'
  | .ret u => ∃ v σ' H',Inv X pins σ' H' s'∧RelV v u∧D.rt v H'
def PE (X : Cx) (e : Expr) (t : TE) : Prop :=
  ∀ (pins : List (Addr×Obj)) (s : Shared) (σ : St) (H : Hp) (Q : VK),Inv X pins σ H s→t σ H Q→wpAny (model X.prog X.w) X.A (eval e X.env) (EP X pins σ Q) X.xe s
def PT (X : Cx) (e : Expr) (t : TT) : Prop :=
  ∀ (pins : List (Addr×Obj)) (s : Shared) (σ : St) (H : Hp) (Q : Bool→Hp→Prop),Inv X pins σ H s→t σ H Q→wpAny (model X.prog X.w) X.A (isTrue e X.env (eval e X.env)) (TP X pins σ Q) X.xe s
def PW (X : Cx) (e : Expr) (t : TT) : Prop :=
  ∀ (whole : Sem Value) (pins : List (Addr×Obj)) (s : Shared) (σ : St) (H : Hp) (Q : Bool→Hp→Prop),Inv X pins σ H s→t σ H Q→wpAny (model X.prog X.w) X.A (isTrue e X.env whole) (TP X pins σ Q) X.xe s
theorem PW.pt {X : Cx} {e : Expr} {t : TT} (h : PW X e t) : PT X e t:=h _
def PA (X : Cx) (es : List Expr) (t : TA) : Prop :=
  ∀ (pos : Pos) (pins : List (Addr×Obj)) (s : Shared) (σ : St) (H : Hp) (Q : List V→Hp→Prop),Inv X pins σ H s→t σ H Q→wpAny (model X.prog X.w) X.A (spliced (backTo pos (starEach es X.env))) (AP X pins σ Q) X.xe s
def PS (X : Cx) (st : Stmt) (t : TS) : Prop :=
  ∀ (pins : List (Addr×Obj)) (s : Shared) (σ : St) (H : Hp) (D : Ends),Inv X pins σ H s→t D σ H→wpAny (model X.prog X.w) X.A (exec st X.env) (SP X pins D) X.xe s
def PSs (X : Cx) (st : List Stmt) (t : TS) : Prop :=
  ∀ (pins : List (Addr×Obj)) (s : Shared) (σ : St) (H : Hp) (D : Ends),Inv X pins σ H s→t D σ H→wpAny (model X.prog X.w) X.A (execs st X.env) (SP X pins D) X.xe s
theorem thn {α : Type} {t : Sem α} {Q Q' : α→Shared→Prop} {M : Model} {A : Around} {E : Value→Shared→Prop} {s : Shared} (h : wpAny M A t Q E s) (hQ : ∀ a s,Q a s→Q' a s) : wpAny M A t Q' E s:=wpAny_mono h hQ fun _ _ x => x
section
variable {X : Cx}
def tVar (i : Nat) : TE:=fun σ H Q => ∃ v,σ[i]? = some (some v)∧Q v H
def tC (v : V) : TE:=fun _ H Q => Q v H
theorem pe_var {i : Nat} {x : Str} {pos : Pos} (hN : X.N[i]? = some x) (hv : Vis X.env.scope x) (hd : (x == ("__debug__" : Str)) = false := by decide) (hcd : (x == ("__classdict__" : Str)) = false := by decide) : PE X (.Name x pos) (tVar i) := by
  intro pins s σ H Q I h
  obtain ⟨v,e,h⟩:=h
  obtain ⟨m,hn,hl⟩:=I.loc
  obtain ⟨u,r,l⟩:=hl i x v hN e hv
  have fin : EP X pins σ Q u s:=⟨v,H,I,r,h⟩
  rcases l with ⟨hk,hm⟩ | ⟨hk,c,hc,hcell⟩
  · exact wpAny_Name (wpAny_loadName_local I.ok.kind hk hn hm fin) hd
  · rcases hk with hk | hk
    · exact wpAny_Name (wpAny_loadName_cell I.ok.kind hk hc hcell fin) hd
    · exact wpAny_Name (wpAny_loadName_free I.ok.kind hk hc hcell fin hcd) hd
theorem pe_int {i j pos} : PE X (.Constant (.int i) j pos) (tC (.int i)):=fun _ _ _ H _ I h => wpAny_Constant_int ⟨.int i,H,I.tok _,⟨_,rfl⟩,h⟩
theorem pe_bl {b j pos} : PE X (.Constant (.bool b) j pos) (tC (.bl b)):=fun _ _ _ H _ I h => Constant_bool ⟨.bl b,H,I,rfl,h⟩
theorem pe_non {j pos} : PE X (.Constant .none j pos) (tC .non):=fun _ _ _ H _ I h => Constant_none ⟨.non,H,I,rfl,h⟩
theorem pe_str {x j pos} : PE X (.Constant (.str x) j pos) (tC (.str x)):=fun _ _ _ H _ I h => Calls.Constant_str ⟨.str x,H,I.tok _,⟨_,rfl⟩,h⟩
def Gl (X : Cx) (x : Str) : Prop:=X.env.kindOf x = some .globalImplicit
theorem ld_glob {E : Value→Shared→Prop} {pins : List (Addr×Obj)} {s : Shared} {σ : St} {H : Hp} {x : Str} {u : Value} {pos : Pos} {Q : Value→Shared→Prop} (I : Inv X pins σ H s) (hg : Gl X x) (hm : X.mg x = some u) (h : Q u s)
    (hd : (x == ("__debug__" : Str)) = false := by decide) : wpAny (model X.prog X.w) X.A (eval (.Name x pos) X.env) Q E s :=
  Calls.Name_function_global I.ok.kind hg (Calls.loadGlobal_global (by rw [I.ok.glob]; exact I.mod.glob.keeps I.bk) hm h) hd
theorem ld_blt {E : Value→Shared→Prop} {pins : List (Addr×Obj)} {s : Shared} {σ : St} {H : Hp} {x : Str} {u : Value} {pos : Pos} {Q : Value→Shared→Prop} (I : Inv X pins σ H s) (hg : Gl X x) (hm : X.mg x = none) (hv : bootBuiltins x = some u) (h : Q u s)
    (hn : x ≠ "__name__" := by decide) (hd : (x == ("__debug__" : Str)) = false := by decide) : wpAny (model X.prog X.w) X.A (eval (.Name x pos) X.env) Q E s := by
  obtain ⟨mb,h1,h2⟩:=I.mod.blt
  exact Calls.Name_function_global I.ok.kind hg (Calls.loadGlobal_builtin (by rw [I.ok.glob]; exact I.mod.glob.keeps I.bk) hm (by rw [I.ok.blt]; exact h1.keeps I.bk) ((h2 x hn).trans hv) h) hd
theorem pe_glob {x : Str} {v : V} {u : Value} {pos : Pos} (hg : Gl X x) (hm : X.mg x = some u) (r : RelV v u) (hd : (x == ("__debug__" : Str)) = false := by decide) : PE X (.Name x pos) (tC v) :=
  fun _ _ _ H _ I h => ld_glob I hg hm ⟨v,H,I,r,h⟩ hd
theorem pe_bltn {x : Str} {v : V} {u : Value} {pos : Pos} (hg : Gl X x) (hm : X.mg x = none) (hv : bootBuiltins x = some u) (r : RelV v u) (hn : x ≠ "__name__" := by decide) (hd : (x == ("__debug__" : Str)) = false := by decide) : PE X (.Name x pos) (tC v) :=
  fun _ _ _ H _ I h => ld_blt I hg hm hv ⟨v,H,I,r,h⟩ hn hd
variable {a b : Expr} {ta tb : TE} {pos : Pos}
def PC (X : Cx) (op : CmpOp) (a b : Expr) (t : TE) : Prop :=
  ∀ (pins : List (Addr×Obj)) (s : Shared) (σ : St) (H : Hp) (Q : VK),Inv X pins σ H s→t σ H Q →
    wpAny (model X.prog X.w) X.A (eval a X.env) (fun v s₁ => wpAny (model X.prog X.w) X.A (eval b X.env) (fun u s₂ => wpAny (model X.prog X.w) X.A (compareOp op v u) (EP X pins σ Q) X.xe s₂) X.xe s₁) X.xe s
def tB (t : TE) : TT:=fun σ H Q => t σ H fun x H1 => ∃ c,x = .bl c∧Q c H1
theorem pt_cmp {op : CmpOp} {t : TE} (h : PC X op a b t) (h1 : behindInMarks op b = false := by first | exact nobehind _ (by decide) (by decide) | rfl) : PT X (.Compare a [op] [b] pos) (tB t) := by
  intro pins s σ H Q I hw
  refine wpAny_isTrue_Compare1 (thn (h pins s σ H _ I hw) fun v s1 h1 => thn h1 fun u s2 h2 => thn h2 fun c s3 ⟨x,H1,I1,r1,q1⟩ => ?_) h1
  obtain ⟨d,rfl,q⟩:=q1
  cases r1
  exact wpAny_truthy_bool ⟨H1,I1,q⟩
theorem pt_val {e : Expr} {t : TE} (h : PE X e t) (he : ∀ whole,isTrue e X.env whole = (do let v ← whole; standAt e.pos; holding [v] (truthy v)) := by intro _; rfl) : PT X e (tB t) := by
  intro pins s σ H Q I hw
  refine isTrue_plain (thn (h pins s σ H _ I hw) fun v s1 ⟨x,H1,I1,r1,q1⟩ => ?_) (he _)
  obtain ⟨d,rfl,q⟩:=q1
  cases r1
  exact wpAny_truthy_bool ⟨H1,I1,q⟩
variable {tA tB' : TT} {rest : List Expr}
def tOr (t u : TT) : TT:=fun σ H Q => t σ H fun c H1 => if c = true then Q true H1 else u σ H1 Q
def tNot (t : TT) : TT:=fun σ H Q => t σ H fun c H1 => Q (!c) H1
theorem pw_and1 (ha : PT X a tA) : PW X (.BoolOp .And [a] pos) tA := by
  intro wh pins s σ H Q I h
  refine isTrue_and (thn (ha pins s σ H Q I h) fun c s1 e => ?_)
  cases c with
  | true => exact isTrue_and_nil e
  | false => exact e
theorem pw_or1 (ha : PT X a tA) : PW X (.BoolOp .Or [a] pos) tA := by
  intro wh pins s σ H Q I h
  refine isTrue_or (thn (ha pins s σ H Q I h) fun c s1 e => ?_)
  cases c with
  | false => exact isTrue_or_nil e
  | true => exact e
theorem pw_or (ha : PT X a tA) (hb : PW X (.BoolOp .Or (b :: rest) pos) tB') : PW X (.BoolOp .Or (a :: b :: rest) pos) (tOr tA tB') := by
  intro wh pins s σ H Q I h
  refine isTrue_or (thn (ha pins s σ H _ I h) fun c s1 ⟨H1,I1,q1⟩ => ?_)
  cases c with
  | true => exact ⟨H1,I1,q1⟩
  | false => exact hb wh pins s1 σ H1 Q I1 q1
theorem pt_not (ha : PT X a tA) : PT X (.UnaryOp .Not a pos) (tNot tA) := by
  intro pins s σ H Q I h
  exact isTrue_not (ha pins s σ H (fun c H1 => Q (!c) H1) I h)
def tAndV (ta tb : TE) : TE:=fun σ H Q => ta σ H fun x H1 => ∃ c,x = .bl c∧if c = true then tb σ H1 Q else Q (.bl false) H1
def tNotV (ta : TE) : TE:=fun σ H Q => ta σ H fun x H1 => ∃ c,x = .bl c∧Q (.bl (!c)) H1
theorem pe_one {op} {t : TE} (h : PE X a t) : PE X (.BoolOp op [a] pos) t:=fun pins s σ H Q I hw => BoolOp_one (h pins s σ H Q I hw)
theorem pe_and (ha : PE X a ta) (hb : PE X (.BoolOp .And (b :: rest) pos) tb) : PE X (.BoolOp .And (a :: b :: rest) pos) (tAndV ta tb) := by
  intro pins s σ H Q I h
  refine BoolOp_and (thn (ha pins s σ H _ I h) fun v s1 ⟨x,H1,I1,r1,q1⟩ => ?_)
  obtain ⟨c,rfl,q1⟩:=q1
  cases r1
  refine wpAny_truthy_bool ?_
  cases c with
  | true => exact hb pins s1 σ H1 Q I1 q1
  | false => exact ⟨.bl false,H1,I1,rfl,q1⟩
theorem pe_not (ha : PE X a ta) : PE X (.UnaryOp .Not a pos) (tNotV ta) := by
  intro pins s σ H Q I h
  refine UnaryOp_ (thn (ha pins s σ H _ I h) fun v s1 ⟨x,H1,I1,r1,q1⟩ => ?_)
  obtain ⟨c,rfl,q1⟩:=q1
  cases r1
  exact not_of (wpAny_truthy_bool ⟨.bl (!c),H1,I1,rfl,q1⟩)
end
def SqL (K : PySem.W.Frag) (H : Hp) (a : Addr) (xs : List V) : Prop :=
  Rd H a (.lst xs) ∨
    ∃ (o : Obj) (its : Array Value) (n : Nat),K.lookup a = some o∧o.cls = .type "list" ∧ o.dict = none∧o.data = .seq its n∧its.size≤sizeLine∧Vals xs its.toList
def SqT (K : PySem.W.Frag) (H : Hp) (a : Addr) (xs : List V) : Prop :=
  Rd H a (.tup xs) ∨
    ∃ (o : Obj) (its : Array Value) (n : Nat),K.lookup a = some o∧o.cls = .type "tuple" ∧ o.data = .seq its n∧its.size≤sizeLine∧Vals xs its.toList
def absV : Value→Option V
  | .none => some .non
  | .bool b => some (.bl b)
  | .int i _ => some (.int i)
  | .str x _ => some (.str x)
  | .bytes b _ => some (.byt b)
  | .float b _ => some (.flt b)
  | .ref a => some (.ref a)
  | .type n => some (.ty n)
  | _ => none
theorem RelV.abs {x : V} {u : Value} (r : RelV x u) : absV u = some x := by
  cases x with
  | non => cases r; rfl
  | bl _ => cases r; rfl
  | int _ => obtain ⟨t,rfl⟩:=r; rfl
  | str _ => obtain ⟨t,rfl⟩:=r; rfl
  | byt _ => obtain ⟨t,rfl⟩:=r; rfl
  | flt _ => obtain ⟨t,rfl⟩:=r; rfl
  | ref _ => cases r; rfl
  | ty _ => cases r; rfl
theorem RelV.inj {x y : V} {u : Value} (r : RelV x u) (q : RelV y u) : x = y:=Option.some.inj (r.abs.symm.trans q.abs)
theorem Vals.inj : ∀ {xs ys : List V} {us : List Value},Vals xs us→Vals ys us→xs = ys
  | _,_,_,.nil,.nil => rfl
  | _,_,_,.cons r t,.cons r' t' => by rw [r.inj r',Vals.inj t t']
section
variable {X : Cx} {pins : List (Addr×Obj)} {σ : St} {H : Hp} {s : Shared} {a : Addr} {xs ys : List V}
theorem SqL.of {K : PySem.W.Frag} (h : H a = some (.lst xs)) : SqL K H a xs:=.inl (.inl h)
theorem SqT.of {K : PySem.W.Frag} (h : H a = some (.tup xs)) : SqT K H a xs:=.inl (.inl h)
theorem Inv.list (I : Inv X pins σ H s) (h : SqL X.K H a xs) : ∃ its : List Value,Vals xs its∧PlainL s.heap a its.toArray∧xs.length≤sizeLine := by
  rcases h with h | ⟨o,its,n,hk,hc,hd,hs,hz,r⟩
  · obtain ⟨z,its,n,r,e⟩:=h.ok I.hok
    exact ⟨its,r,⟨_,n,e,rfl,rfl,rfl⟩,z⟩
  · refine ⟨its.toList,r,⟨o,n,I.kIn a o hk,hc,hd,by simpa using hs⟩,?_⟩
    have e:=r.length
    simp only [Array.length_toList] at e
    lia
theorem Inv.tuple (I : Inv X pins σ H s) (h : SqT X.K H a xs) : ∃ its : List Value,Vals xs its∧IsTup s.heap a its.toArray∧xs.length≤sizeLine := by
  rcases h with h | ⟨o,its,n,hk,hc,hs,hz,r⟩
  · obtain ⟨z,its,r,p⟩:=h.ok I.hok
    exact ⟨its,r,p,z⟩
  · refine ⟨its.toList,r,⟨o,I.kIn a o hk,hc,n,by simpa using hs⟩,?_⟩
    have e:=r.length
    simp only [Array.length_toList] at e
    lia
theorem Inv.list_inj (I : Inv X pins σ H s) (h : SqL X.K H a xs) (h' : SqL X.K H a ys) : xs = ys := by
  obtain ⟨its,r,⟨o,n,e,_,_,d⟩,_⟩:=I.list h
  obtain ⟨its',r',⟨o',n',e',_,_,d'⟩,_⟩:=I.list h'
  rw [e] at e'; cases e'
  rw [d] at d'
  injection d' with d1 _
  have : its = its' := by simpa using congrArg Array.toList d1
  subst this
  exact r.inj r'
theorem Inv.tuple_inj (I : Inv X pins σ H s) (h : SqT X.K H a xs) (h' : SqT X.K H a ys) : xs = ys := by
  obtain ⟨its,r,⟨o,e,_,n,d⟩,_⟩:=I.tuple h
  obtain ⟨its',r',⟨o',e',_,n',d'⟩,_⟩:=I.tuple h'
  rw [e] at e'; cases e'
  rw [d] at d'
  injection d' with d1 _
  have : its = its' := by simpa using congrArg Array.toList d1
  subst this
  exact r.inj r'
end
abbrev Cx.wish (X : Cx) (E : Value→Shared→Prop) : Cx:={ X with xe:=E }
abbrev Cx.nox (X : Cx) : Cx:=X.wish fun _ _ => False
theorem Cx.Ok.wish {X : Cx} (ok : X.Ok) (E : Value→Shared→Prop) : (X.wish E).Ok :=
  ⟨ok.mod,ok.kind,ok.glob,ok.blt,ok.above,ok.inj,ok.has,ok.cab,ok.hd,ok.frames,ok.stk,ok.exf,ok.bs,ok.bsz,ok.noex,ok.exfs,ok.funs,ok.frf,ok.kt⟩
theorem Cx.Ok.unwish {X : Cx} {E : Value→Shared→Prop} (ok : (X.wish E).Ok) : X.Ok :=
  ⟨ok.mod,ok.kind,ok.glob,ok.blt,ok.above,ok.inj,ok.has,ok.cab,ok.hd,ok.frames,ok.stk,ok.exf,ok.bs,ok.bsz,ok.noex,ok.exfs,ok.funs,ok.frf,ok.kt⟩
section
variable {X : Cx} {pins : List (Addr×Obj)} {σ : St} {H : Hp} {s : Shared} {E : Value→Shared→Prop}
theorem Inv.wish (I : Inv X pins σ H s) (E : Value→Shared→Prop) : Inv (X.wish E) pins σ H s:=⟨I.ok.wish E,I.os,I.bare,I.base,I.loc,I.cell,I.free,I.freeC,I.pin,I.hok,I.len⟩
theorem Inv.unwish (I : Inv (X.wish E) pins σ H s) : Inv X pins σ H s:=⟨I.ok.unwish,I.os,I.bare,I.base,I.loc,I.cell,I.free,I.freeC,I.pin,I.hok,I.len⟩
theorem SP.unwish {D : Ends} {f : Flow} {s' : Shared} (h : SP (X.wish E) pins D f s') : SP X pins D f s' := by
  cases f with
  | next => obtain ⟨σ',H',I,q⟩:=h; exact ⟨σ',H',I.unwish,q⟩
  | brk => obtain ⟨σ',H',I,q⟩:=h; exact ⟨σ',H',I.unwish,q⟩
  | cont => obtain ⟨σ',H',I,q⟩:=h; exact ⟨σ',H',I.unwish,q⟩
  | ret u => obtain ⟨v,σ',H',I,r,q⟩:=h; exact ⟨v,σ',H',I.unwish,r,q⟩
theorem PSs.nox {st : List Stmt} {t : TS} (h : PSs X.nox st t) : PSs X st t:=fun pins s σ H D I hw =>
  wpAny_mono (h pins s σ H D (I.wish _) hw) (fun _ _ q => q.unwish) fun _ _ z => False.elim z
end
section
variable {X : Cx} {st : Stmt} {rest : List Stmt} {t u : TS} {e : Expr} {te : TE} {pos : Pos}
def tNext : TS:=fun D σ H => D.nx σ H
def tSeq (t u : TS) : TS:=fun D σ H => t { D with nx:=u D } σ H
theorem pss_nil : PSs X [] tNext:=fun _ _ σ H _ I h => wpAny_execs_nil ⟨σ,H,I,h⟩
theorem pss_cons (h1 : PS X st t) (h2 : PSs X rest u) : PSs X (st :: rest) (tSeq t u) := by
  intro pins s σ H D I h
  refine wpAny_execs_cons (thn (h1 pins s σ H { D with nx:=u D } I h) fun f s1 q => ?_)
  cases f with
  | next =>
    obtain ⟨σ',H',I',q⟩:=q
    exact h2 pins s1 σ' H' D I' q
  | ret v => exact q
  | brk => exact q
  | cont => exact q
theorem pss_one (h1 : PS X st t) : PSs X [st] t := by
  intro pins s σ H D I h
  refine wpAny_execs_cons (thn (h1 pins s σ H D I h) fun f s1 q => ?_)
  cases f with
  | next => exact wpAny_execs_nil q
  | ret v => exact q
  | brk => exact q
  | cont => exact q
theorem Inv.quiet {pins : List (Addr×Obj)} {σ : St} {H : Hp} {s : Shared} (I : Inv X pins σ H s) : interactive X.env = false := by simp [interactive,I.ok.kind]
def tDrop (te : TE) : TS:=fun D σ H => te σ H fun _ H1 => D.nx σ H1
theorem ps_expr (he : PE X e te) (hs : swapsWith e none pos.line X.env = pure false := by rfl) : PS X (.Expr e pos) (tDrop te) := by
  intro pins s σ H D I h
  exact wpAny_Expr_any (thn (he pins s σ H _ I h) fun v s1 ⟨x,H1,I1,r1,q1⟩ => ⟨σ,H1,I1,q1⟩) I.quiet hs
def tRet (te : TE) : TS:=fun D σ H => te σ H D.rt
theorem ps_ret (he : PE X e te) : PS X (.Return (some e) pos) (tRet te) := by
  intro pins s σ H D I h
  exact wpAny_Return_some (thn (he pins s σ H _ I h) fun v s1 ⟨x,H1,I1,r1,q1⟩ => ⟨x,σ,H1,I1,r1,q1⟩)
def tIfS (c : TT) (t u : TS) : TS:=fun D σ H => c σ H fun b H1 => if b = true then t D σ H1 else u D σ H1
theorem ps_if {c : Expr} {a b : List Stmt} {tc : TT} (hc : PT X c tc) (ha : PSs X a t) (hb : PSs X b u) : PS X (.If c a b pos) (tIfS tc t u) := by
  intro pins s σ H D I h
  refine wpAny_If (thn (hc pins s σ H _ I h) fun d s1 ⟨H1,I1,q1⟩ => ?_)
  cases d with
  | true => exact ha pins s1 σ H1 D I1 q1
  | false => exact hb pins s1 σ H1 D I1 q1
end
abbrev TG:=V→St→Hp→(St→Hp→Prop)→Prop
abbrev TGs:=List V→St→Hp→(St→Hp→Prop)→Prop
def PG (X : Cx) (target : Expr) (t : TG) : Prop :=
  ∀ (pins : List (Addr×Obj)) (s : Shared) (σ : St) (H : Hp) (v : V) (u : Value) (Q : St→Hp→Prop),Inv X pins σ H s→RelV v u→t v σ H Q →
    wpAny (model X.prog X.w) X.A (assign target X.env u) (fun _ s' => ∃ σ' H',Inv X pins σ' H' s'∧Q σ' H') X.xe s
def PGs (X : Cx) (ts : List Expr) (t : TGs) : Prop :=
  ∀ (pins : List (Addr×Obj)) (s : Shared) (σ : St) (H : Hp) (vs : List V) (us : List Value) (Q : St→Hp→Prop),Inv X pins σ H s→Vals vs us→t vs σ H Q →
    wpAny (model X.prog X.w) X.A (assignInOrder ((assignEach ts X.env).map (·.2)) us) (fun _ s' => ∃ σ' H',Inv X pins σ' H' s'∧Q σ' H') X.xe s
abbrev TSet:=V→V→V→Hp→(Hp→Prop)→Prop
def PSet (X : Cx) (t : TSet) : Prop :=
  ∀ (pins : List (Addr×Obj)) (s : Shared) (σ : St) (H : Hp) (o i v : V) (ov iv u : Value) (Q : Hp→Prop),Inv X pins σ H s→RelV o ov→RelV i iv→RelV v u→t o i v H Q →
    wpAny (model X.prog X.w) X.A (setItem ov iv u) (fun _ s' => ∃ H',Inv X pins σ H' s'∧Q H') X.xe s
section
variable {X : Cx} {pos : Pos}
def gName (i : Nat) : TG:=fun v σ H Q => Q (σ.set i (some v)) H
theorem pg_name {i : Nat} {x : Str} (hN : X.N.Nodup) (hi : X.N[i]? = some x) (hx : Loc X.env.scope x) (hf : X.fn x = true∨X.env.scope.names.lookup x = some .local := by first | exact .inl rfl | exact .inr rfl | assumption) : PG X (.Name x pos) (gName i) := by
  intro pins s σ H v u Q I r h
  exact wpAny_assign_Name (store_ok I hN hi hx r (fun s' I' => ⟨_,H,I',h⟩) hf)
def gNil : TGs:=fun vs σ H Q => vs = []∧Q σ H
def gCons (t : TG) (u : TGs) : TGs:=fun vs σ H Q => ∃ v r,vs = v :: r∧t v σ H fun σ' H' => u r σ' H' Q
theorem pgs_nil : PGs X [] gNil := by
  intro pins s σ H vs us Q I r h
  obtain ⟨e,h⟩:=h
  subst e
  cases r
  exact assignInOrder_nil ⟨σ,H,I,h⟩
theorem pgs_cons {e : Expr} {es : List Expr} {t : TG} {u : TGs} (h1 : PG X e t) (h2 : PGs X es u)
    (hs : (assignEach (e :: es) X.env).map (·.2) = assign e X.env :: (assignEach es X.env).map (·.2) := by rfl) : PGs X (e :: es) (gCons t u) := by
  intro pins s σ H vs us Q I r h
  obtain ⟨v,vr,e1,h⟩:=h
  subst e1
  cases r with
  | cons r rr =>
    rw [hs]
    refine assignInOrder_cons (thn (h1 pins s σ H _ _ _ I r h) fun _ s1 ⟨σ1,H1,I1,q1⟩ => ?_)
    exact h2 pins s1 σ1 H1 _ _ Q I1 rr q1
def gTup (K : PySem.W.Frag) (n : Nat) (t : TGs) : TG:=fun v σ H Q => ∃ a xs,v = .ref a∧SqT K H a xs∧xs.length = n∧t xs σ H Q
theorem pg_tup {es : List Expr} {k : Nat} {t : TGs} {n : Nat} (hc : X.calm = true) (h : PGs X es t)
    (hn : (assignEach es X.env).length = n := by rfl) (hst : (assignEach es X.env).findIdx? (·.1) = none := by rfl) : PG X (.Tuple es k pos) (gTup X.K n t) := by
  intro pins s σ H v u Q I r hw
  obtain ⟨a,xs,e1,hq,hl,hw⟩:=hw
  subst e1
  cases r
  obtain ⟨its,rv,ht,hz⟩:=I.tuple hq
  refine assign_Tuple_tuple (I.ok.hd hc) ht (by simp [hn,← hl,rv.length]) hst fun h' hx => ?_
  have I1 : Inv X pins σ H { s with heap:=h' }:=I.kept (t':=s.toks) fun b o e => hx b o (Nat.ne_of_lt (Heap.lt_size e)) e
  exact h pins _ σ H xs _ Q I1 (by simpa using rv) hw
def gSub (to ti : TE) (t : TSet) : TG:=fun v σ H Q => to σ H fun o H1 => ti σ H1 fun i H2 => t o i v H2 fun H3 => Q σ H3
theorem pg_sub {o i : Expr} {to ti : TE} {t : TSet} (ho : PE X o to) (hi : PE X i ti) (hs : PSet X t)
    (ha : ∀ v,assign (.Subscript o i pos) X.env v = (do
      let ov ← holding [v] (eval o X.env)
      let iv ← holding [v,ov] (eval i X.env)
      standAt pos
      holding [v,ov,iv] (setItem ov iv v)
      release [v,ov,iv] []) := by intro _; rfl) : PG X (.Subscript o i pos) (gSub to ti t) := by
  intro pins s σ H v u Q I r h
  rw [ha]
  refine wpAny_bind (wpAny_holding (thn (ho pins s σ H _ I h) fun ov s1 ⟨x,H1,I1,r1,q1⟩ => ?_))
  refine wpAny_bind (wpAny_holding (thn (hi pins s1 σ H1 _ I1 q1) fun iv s2 ⟨y,H2,I2,r2,q2⟩ => ?_))
  refine wpAny_bind (wpAny_standAt (wpAny_bind (wpAny_holding (thn (hs pins s2 σ H2 x y v ov iv u _ I2 r1 r2 r q2) fun _ s3 ⟨H3,I3,q3⟩ => ?_))))
  exact wpAny_release ⟨σ,H3,I3,q3⟩
def tAsg (te : TE) (g : TG) : TS:=fun D σ H => te σ H fun x H1 => g x σ H1 D.nx
theorem ps_asg {tg e : Expr} {te : TE} {g : TG} (he : PE X e te) (hg : PG X tg g) (hs : swapsWithSole [tg] e pos.line X.env = pure false := by rfl) (hw : swappedStores [tg] e X.env = pure none := by rfl)
    (h1 : (assignEach [tg] X.env).map (·.2) = [assign tg X.env] := by rfl) : PS X (.Assign [tg] e pos) (tAsg te g) := by
  intro pins s σ H D I h
  refine wpAny_Assign_stores (thn (he pins s σ H _ I h) fun v s1 ⟨x,H1,I1,r1,q1⟩ => ?_) hs hw
  rw [h1]
  exact thn (hg pins s1 σ H1 x v _ I1 r1 q1) fun _ s2 q => q
theorem ps_set {i : Nat} {x : Str} {e : Expr} {te : TE} {pos' : Pos} (hN : X.N.Nodup) (hi : X.N[i]? = some x) (hx : Loc X.env.scope x) (he : PE X e te) (hs : swapsWith e (some (.Name x pos')) pos.line X.env = pure false := by rfl) (hf : X.fn x = true∨X.env.scope.names.lookup x = some .local := by first | exact .inl rfl | exact .inr rfl | assumption) :
    PS X (.Assign [.Name x pos'] e pos) (tAsg te (gName i)) := by
  intro pins s σ H D I h
  refine wpAny_Assign_Name (thn (he pins s σ H _ I h) fun v s1 ⟨y,H1,I1,r1,q1⟩ => ?_) hs
  exact store_ok I1 hN hi hx r1 (fun s2 I2 => ⟨_,H1,I2,q1⟩) hf
end
section
variable {X : Cx} {pos : Pos}
def tWhile (c : TT) (tb : TS) : TS:=fun D σ H => ∃ W : Nat→St→Hp→Prop,(∃ m,W m σ H)∧∀ m σ H,W m σ H →
  c σ H fun b H1 => if b = true then ∃ N : St→Hp→Prop,(∀ σ' H',N σ' H'→∃ m',m' < m∧W m' σ' H')∧tb { D with nx:=N,ct:=N,bk:=D.nx } σ H1 else D.nx σ H1
theorem ps_while {c : Expr} {body : List Stmt} {tc : TT} {tb : TS} (hp : PassesOwn (model X.prog X.w) X.A X.env X.xe) (hc : PT X c tc) (hb : PSs X body tb) : PS X (.While c body [] pos) (tWhile tc tb) := by
  intro pins s σ H D I h
  obtain ⟨W,⟨m0,w0⟩,turn⟩:=h
  refine wpAny_While (codeAny_whileLoop (fun n s' => ∃ σ' H',Inv X pins σ' H' s'∧W n σ' H') ?_ m0 ⟨σ,H,I,w0⟩)
  rintro n s1 ⟨σ1,H1,I1,w1⟩
  refine wpAny_passesOwn hp (thn (hc pins s1 σ1 H1 _ I1 (turn n σ1 H1 w1)) fun b s2 ⟨H2,I2,q2⟩ => ?_)
  cases b with
  | true =>
    obtain ⟨N,hN,q2⟩:=q2
    rw [if_pos rfl]
    refine wpAny_passesOwn hp (thn (hb pins s2 σ1 H2 _ I2 q2) fun f s3 q3 => ?_)
    cases f with
    | next =>
      obtain ⟨σ3,H3,I3,n3⟩:=q3
      obtain ⟨m',hm,w3⟩:=hN σ3 H3 n3
      exact ⟨m',hm,σ3,H3,I3,w3⟩
    | cont =>
      obtain ⟨σ3,H3,I3,n3⟩:=q3
      obtain ⟨m',hm,w3⟩:=hN σ3 H3 n3
      exact ⟨m',hm,σ3,H3,I3,w3⟩
    | brk => exact q3
    | ret v => exact q3
  | false =>
    rw [if_neg Bool.false_ne_true]
    exact wpAny_execs_nil ⟨σ1,H2,I2,q2⟩
end
structure It where
  go : Nat→Hp→Prop
  yld : Nat→Hp→V→Hp→Prop
  stop : Nat→Hp→Prop
def FpOk (X : Cx) (pins : List (Addr×Obj)) (H : Hp) (b : Addr) : Prop :=
  H b = none∧b≠X.env.locals∧b ∉ X.fs∧(b∈X.ex∨X.s₀.heap.objs.size≤b)∧(∀ x c,X.env.cells.lookup x = some c→c≠b)∧∀ p∈X.pn ++ pins,p.1≠b
theorem Inv.fpOk {X : Cx} {pins : List (Addr×Obj)} {σ : St} {H H' : Hp} {s : Shared} {b : Addr} (I : Inv X pins σ H s) (hb : s.heap.objs.size≤b) (hn : H' b = none) : FpOk X pins H' b := by
  refine ⟨hn,Nat.ne_of_gt (Nat.lt_of_lt_of_le I.lt hb),I.nofs hb,.inr (Nat.le_trans I.sz hb),fun x c e z => ?_,fun p hp z => ?_⟩
  · obtain ⟨v,q⟩:=I.cell x c e
    exact absurd (Nat.lt_of_lt_of_le q.lt (by rw [z]; exact hb)) (Nat.lt_irrefl _)
  · exact absurd (Nat.lt_of_lt_of_le (Heap.lt_size (I.pin p hp).1) (by rw [z]; exact hb)) (Nat.lt_irrefl _)
structure Turn (P : Program) (w : World) (K : PySem.W.Frag) (tg : Expr) (J : It) (fp : List Addr) (it : Addr) (tn : Nat→Heap→Prop) : Prop where
  mem : it∈fp
  obj : ∀ i h,tn i h→∀ b∈fp,∃ o,h.get? b = some o∧∀ v,o.data≠.cell v
  keep : ∀ i h h',tn i h→(∀ b∈fp,∀ o,h.get? b = some o→h'.get? b = some o)→tn i h'
  item : ∀ (X : Cx),X.prog = P→X.w = w→X.K = K→X.calm = true→∀ (i : Nat) (pins : List (Addr×Obj)) (s : Shared) (σ : St) (H : Hp) (E : Value→Shared→Prop),Inv X pins σ H s→(∀ b∈fp,FpOk X pins H b)→tn i s.heap→J.go i H →
    wpAny (model P w) X.A (pyNext (.ref it)) (fun r s1 => ∃ u,r = some u ∧
      wpAny (model P w) X.A (letOwnedTupleGo tg (.ref it) u) (fun _ s2 => ∃ x H',Inv X pins σ H' s2∧RelV x u∧J.yld i H x H'∧tn (i + 1) s2.heap∧∀ b∈fp,H' b = none) E s1) E s
  done : ∀ (X : Cx),X.prog = P→X.w = w→X.K = K→X.calm = true→∀ (i : Nat) (pins : List (Addr×Obj)) (s : Shared) (σ : St) (H : Hp) (E : Value→Shared→Prop),Inv X pins σ H s→(∀ b∈fp,FpOk X pins H b)→tn i s.heap→J.stop i H →
    wpAny (model P w) X.A (pyNext (.ref it)) (fun r s1 => r = none∧Inv X pins σ H s1) E s
  self : ∀ (A : Around) (i : Nat) (s : Shared) (Q : Value→Shared→Prop) (E : Value→Shared→Prop),tn i s.heap→Q (.ref it) s→wpAny (model P w) A (pyIter (.ref it)) Q E s
abbrev TI:=St→Hp→(It→Hp→Prop)→Prop
def PIE (X : Cx) (pins : List (Addr×Obj)) (σ : St) (tg : Expr) (R : It→Hp→Prop) (itv : Value) (s2 : Shared) : Prop :=
  ∃ (it : Addr) (fp : List Addr) (tn : Nat→Heap→Prop) (J : It) (H' : Hp),itv = .ref it∧Inv X pins σ H' s2∧Turn X.prog X.w X.K tg J fp it tn∧tn 0 s2.heap∧(∀ b∈fp,FpOk X pins H' b)∧R J H'
def PI (X : Cx) (tg iter : Expr) (wi : TI) : Prop :=
  ∀ (pins : List (Addr×Obj)) (s : Shared) (σ : St) (H : Hp) (R : It→Hp→Prop),Inv X pins σ H s→wi σ H R →
    wpAny (model X.prog X.w) X.A (eval iter X.env) (fun v s1 => wpAny (model X.prog X.w) X.A (pyIter v) (PIE X pins σ tg R) X.xe s1) X.xe s
theorem go_of {M : Model} {A : Around} {E : Value→Shared→Prop} {s : Shared} {tg : Expr} {it : Addr} {u : Value} {o : Obj} {n : String} {vs : Array Value} {Q : Unit→Shared→Prop} (ho : s.heap.get? it = some o) (hc : o.cls = .type n) (hd : o.data = .fields vs)
    (hn : ["enumerate", "zip", "dict_itemiterator", "dict_reverseitemiterator", "odict_iterator", "itertools.zip_longest", "itertools.pairwise"].contains n = false) (hQ : Q () s) : wpAny M A (letOwnedTupleGo tg (.ref it) u) Q E s := by
  unfold letOwnedTupleGo
  cases tg <;> first
    | exact wpAny_pure hQ
    | (cases u <;> first
        | exact wpAny_pure hQ
        | (refine wpAny_bind (wpAny_load ho ?_)
           rw [hc,hd]
           show wpAny M A (if (["enumerate", "zip", "dict_itemiterator", "dict_reverseitemiterator", "odict_iterator", "itertools.zip_longest", "itertools.pairwise"].contains n && vs[0]? == some (rawInt _)) = true then _ else _) Q E s
           rw [if_neg (by intro h; rw [hn,Bool.false_and] at h; cases h)]
           exact wpAny_pure hQ))
def Itl (K : PySem.W.Frag) (a : Addr) : It :=
  ⟨fun i H => ∃ xs x,SqL K H a xs∧xs[i]? = some x,fun i H x H' => H' = H∧∀ xs,SqL K H a xs→xs[i]? = some x,fun i H => ∃ xs,SqL K H a xs∧xs.length≤i⟩
def Itt (K : PySem.W.Frag) (a : Addr) : It :=
  ⟨fun i H => ∃ xs x,SqT K H a xs∧xs[i]? = some x,fun i H x H' => H' = H∧∀ xs,SqT K H a xs→xs[i]? = some x,fun i H => ∃ xs,SqT K H a xs∧xs.length≤i⟩
def Itr (lo : Int) (n : Nat) : It:=⟨fun i _ => i < n,fun i H x H' => H' = H∧x = .int (lo + i),fun i _ => n≤i⟩
theorem turn_list {P : Program} {w : World} {K : PySem.W.Frag} {tg : Expr} (a it : Addr) : Turn P w K tg (Itl K a) [it] it (fun i h => h.IsListIter it a i) where
  mem := by simp
  obj:=fun i h st b hb => by
    have e : b = it := by simpa using hb
    subst e
    obtain ⟨o,e,c,d⟩:=st
    exact ⟨o,e,fun v z => by rw [d] at z; cases z⟩
  keep:=fun i h h' st k => st.at fun o e => k it (by simp) o e
  item := by
    intro X hP hw hK hc i pins s σ H E I hf st hg
    subst hP hw hK
    obtain ⟨xs,x,hq,hx⟩:=hg
    obtain ⟨its,rv,p,hz⟩:=I.list hq
    obtain ⟨u,hu,ru⟩:=rv.get hx
    obtain ⟨f0,f1,f2,f3,f4,f5⟩:=hf it (by simp)
    refine wpAny_pyNext_list_item st p.isList (x:=u) (by simpa using hu) fun h' st' sb => ?_
    have I1 : Inv X pins σ H { s with heap:=h' }:=I.turned (t':=s.toks) (fun b o hb e => (sb.2 b hb).trans e) f0 f1 f3 f4 f5
    obtain ⟨o,e,c,d⟩:=id st'
    exact ⟨u,rfl,go_of (s:={ s with heap:=h' }) e c d (by decide) ⟨x,H,I1,ru,⟨rfl,fun ys hy => by rw [I.list_inj hy hq]; exact hx⟩,st',fun b hb => (hf b hb).1⟩⟩
  done := by
    intro X hP hw hK hc i pins s σ H E I hf st hg
    subst hP hw hK
    obtain ⟨xs,hq,hx⟩:=hg
    obtain ⟨its,rv,p,hz⟩:=I.list hq
    obtain ⟨f0,f1,f2,f3,f4,f5⟩:=hf it (by simp)
    have hl:=rv.length
    exact wpAny_pyNext_list_end (I.ok.hd hc) st p.isList (by simp; lia) fun h' eb => ⟨rfl,I.turned (t':=s.toks) (fun b o hb e => eb b o hb e) f0 f1 f3 f4 f5⟩
  self:=fun _ _ _ _ _ st h => wpAny_pyIter_listiter st h
theorem turn_tuple {P : Program} {w : World} {K : PySem.W.Frag} {tg : Expr} (a it : Addr) : Turn P w K tg (Itt K a) [it] it (fun i h => h.IsTupleIter it a i) where
  mem := by simp
  obj:=fun i h st b hb => by
    have e : b = it := by simpa using hb
    subst e
    obtain ⟨o,e,c,d⟩:=st
    exact ⟨o,e,fun v z => by rw [d] at z; cases z⟩
  keep:=fun i h h' st k => st.at fun o e => k it (by simp) o e
  item := by
    intro X hP hw hK hc i pins s σ H E I hf st hg
    subst hP hw hK
    obtain ⟨xs,x,hq,hx⟩:=hg
    obtain ⟨its,rv,p,hz⟩:=I.tuple hq
    obtain ⟨u,hu,ru⟩:=rv.get hx
    obtain ⟨f0,f1,f2,f3,f4,f5⟩:=hf it (by simp)
    refine wpAny_pyNext_tuple_item st (show s.heap.IsTuple a its.toArray from p) (x:=u) (by simpa using hu) fun h' st' sb => ?_
    have I1 : Inv X pins σ H { s with heap:=h' }:=I.turned (t':=s.toks) (fun b o hb e => (sb.2 b hb).trans e) f0 f1 f3 f4 f5
    obtain ⟨o,e,c,d⟩:=id st'
    exact ⟨u,rfl,go_of (s:={ s with heap:=h' }) e c d (by decide) ⟨x,H,I1,ru,⟨rfl,fun ys hy => by rw [I.tuple_inj hy hq]; exact hx⟩,st',fun b hb => (hf b hb).1⟩⟩
  done := by
    intro X hP hw hK hc i pins s σ H E I hf st hg
    subst hP hw hK
    obtain ⟨xs,hq,hx⟩:=hg
    obtain ⟨its,rv,p,hz⟩:=I.tuple hq
    obtain ⟨f0,f1,f2,f3,f4,f5⟩:=hf it (by simp)
    have hl:=rv.length
    exact wpAny_pyNext_tuple_end (I.ok.hd hc) st (show s.heap.IsTuple a its.toArray from p) (by simp; lia) fun h' eb => ⟨rfl,I.turned (t':=s.toks) (fun b o hb e => eb b o hb e) f0 f1 f3 f4 f5⟩
  self:=fun _ _ _ _ _ st h => wpAny_pyIter_tupleiter st h
theorem turn_range {P : Program} {w : World} {K : PySem.W.Frag} {tg : Expr} (it : Addr) (lo : Int) (n : Nat) : Turn P w K tg (Itr lo n) [it] it (fun i h => IsRangeIter h it (lo + (i : Nat) * 1) ((n : Int) - (i : Nat)) 1) where
  mem := by simp
  obj:=fun i h st b hb => by
    have e : b = it := by simpa using hb
    subst e
    exact ⟨_,st,fun v z => by
      have z' : Data.fields _ = Data.cell v:=z
      cases z'⟩
  keep:=fun i h h' st k => k it (by simp) _ st
  item := by
    intro X hP hw hK hc i pins s σ H E I hf st hg
    subst hP hw hK
    obtain ⟨f0,f1,f2,f3,f4,f5⟩:=hf it (by simp)
    have W:=Walks.range (prog:=X.prog) (w:=X.w) (I.ok.hd hc) it lo 1 n
    refine W.item i s _ _ hg st fun v h' tk hv st' kk => ?_
    obtain ⟨t,rfl⟩:=hv
    have I1 : Inv X pins σ H { s with heap:=h',toks:=tk }:=I.turned (fun b o hb e => kk b o (by simpa using hb) e) f0 f1 f3 f4 f5
    refine ⟨_,rfl,go_of (s:={ s with heap:=h',toks:=tk }) (n := "range_iterator") st' rfl rfl (by decide) ⟨.int (lo + i),H,I1,⟨t,?_⟩,⟨rfl,rfl⟩,st',fun b hb => (hf b hb).1⟩⟩
    rw [Int.mul_one]
  done := by
    intro X hP hw hK hc i pins s σ H E I hf st hg
    subst hP hw hK
    obtain ⟨f0,f1,f2,f3,f4,f5⟩:=hf it (by simp)
    exact wpAny_pyNext_range_end (I.ok.hd hc) st (by have : n≤i:=hg; lia) fun h' eb => ⟨rfl,I.turned (t':=s.toks) (fun b o hb e => eb b o hb e) f0 f1 f3 f4 f5⟩
  self:=fun _ _ _ _ _ st h => wpAny_pyIter_rangeiter st h
section
variable {X : Cx} {tg : Expr}
def iList (K : PySem.W.Frag) (tl : TE) : TI:=fun σ H R => tl σ H fun x H1 => ∃ a,x = .ref a∧(∃ xs,SqL K H1 a xs)∧R (Itl K a) H1
def iTup (K : PySem.W.Frag) (tl : TE) : TI:=fun σ H R => tl σ H fun x H1 => ∃ a,x = .ref a∧(∃ xs,SqT K H1 a xs)∧R (Itt K a) H1
theorem pi_list {l : Expr} {tl : TE} (hl : PE X l tl) : PI X tg l (iList X.K tl) := by
  intro pins s σ H R I h
  refine thn (hl pins s σ H _ I h) fun v s1 ⟨x,H1,I1,r1,q1⟩ => ?_
  obtain ⟨a,e,⟨xs,hq⟩,q⟩:=q1
  subst e
  cases r1
  obtain ⟨its,rv,p,hz⟩:=I1.list hq
  refine wpAny_pyIter_list p.isList ?_
  refine ⟨s1.heap.objs.size,[s1.heap.objs.size],_,_,H1,rfl,I1.kept (t':=s1.toks) fun b o e => Heap.get?_push_of_some _ e,turn_list a _,⟨_,Heap.get?_push_size _ rfl,rfl,rfl⟩,fun b hb => ?_,q⟩
  have e : b = s1.heap.objs.size := by simpa using hb
  subst e
  exact I1.fpOk (Nat.le_refl _) (I1.hok.fresh (Nat.le_refl _))
theorem pi_tup {l : Expr} {tl : TE} (hl : PE X l tl) : PI X tg l (iTup X.K tl) := by
  intro pins s σ H R I h
  refine thn (hl pins s σ H _ I h) fun v s1 ⟨x,H1,I1,r1,q1⟩ => ?_
  obtain ⟨a,e,⟨xs,hq⟩,q⟩:=q1
  subst e
  cases r1
  obtain ⟨its,rv,p,hz⟩:=I1.tuple hq
  refine wpAny_pyIter_tuple (show s1.heap.IsTuple a its.toArray from p) ?_
  refine ⟨s1.heap.objs.size,[s1.heap.objs.size],_,_,H1,rfl,I1.kept (t':=s1.toks) fun b o e => Heap.get?_push_of_some _ e,turn_tuple a _,⟨_,Heap.get?_push_size _ rfl,rfl,rfl⟩,fun b hb => ?_,q⟩
  have e : b = s1.heap.objs.size := by simpa using hb
  subst e
  exact I1.fpOk (Nat.le_refl _) (I1.hok.fresh (Nat.le_refl _))
theorem range_it {pins : List (Addr×Obj)} {σ : St} {H : Hp} {s : Shared} {R : It→Hp→Prop} {E : Value→Shared→Prop} {lo hi : Int} {t u v : Tok} {tk : Nat} (I : Inv X pins σ H s) (h1 : -(2 ^ 62)≤lo) (h2 : lo < 2 ^ 62) (h3 : -(2 ^ 62)≤hi) (h4 : hi < 2 ^ 62)
    (q : R (Itr lo (hi - lo).toNat) H) : wpAny (model X.prog X.w) X.A (pyIter (.ref s.heap.objs.size)) (PIE X pins σ tg R) E { s with heap:=s.heap.push { cls:=.type "range",data:=.fields #[.int lo t,.int hi u,.int 1 v] },toks:=tk } := by
  refine wpAny_pyIter_range (IsRange.new ..) (small_one h1 h2 h3 h4) ?_
  have I1 : Inv X pins σ H { s with heap:=s.heap.push { cls:=.type "range",data:=.fields #[.int lo t,.int hi u,.int 1 v] },toks:=tk }:=I.kept fun b o e => Heap.get?_push_of_some _ e
  refine ⟨(s.heap.push { cls:=.type "range",data:=.fields #[.int lo t,.int hi u,.int 1 v] }).objs.size,[(s.heap.push { cls:=.type "range",data:=.fields #[.int lo t,.int hi u,.int 1 v] }).objs.size],_,_,H,rfl,
    I1.kept (t':=tk) fun b o e => Heap.get?_push_of_some _ e,turn_range _ lo (hi - lo).toNat,?_,fun b hb => ?_,q⟩
  · have e1 : lo + ((0 : Nat) : Int) * 1 = lo := by simp
    have e2 : (((hi - lo).toNat : Nat) : Int) - ((0 : Nat) : Int) = Builtin.Range.rangeSize lo hi 1 := by rw [rangeSize_one]; split <;> lia
    show IsRangeIter _ _ (lo + ((0 : Nat) : Int) * 1) ((((hi - lo).toNat : Nat) : Int) - ((0 : Nat) : Int)) 1
    rw [e1,e2]
    exact Heap.get?_push_size _ rfl
  · have e : b = (s.heap.push { cls:=.type "range",data:=.fields #[.int lo t,.int hi u,.int 1 v] }).objs.size := by simpa using hb
    subst e
    exact I1.fpOk (Nat.le_refl _) (I1.hok.fresh (Nat.le_refl _))
def iRng1 (ta : TA) : TI:=fun σ H R => ta σ H fun vs H1 => ∃ j : Int,vs = [.int j]∧-(2 ^ 62)≤j∧j < 2 ^ 62∧R (Itr 0 j.toNat) H1
theorem pi_range1 {a : Expr} {ta : TA} {p pos : Pos} (hg : Gl X "range") (hm : X.mg "range" = none) (ha : PA X [a] ta) (hs : starEach [a] X.env = [(false,eval a X.env)] := by rfl) : PI X tg (.Call (.Name "range" p) [a] [] pos) (iRng1 ta) := by
  intro pins s σ H R I h
  refine Call_ (ld_blt I hg hm boot_range (PyProof.Rows.callWith_type1 (thn (ha pos pins s σ H _ I h) fun us s1 ⟨vs,H1,I1,r1,q1⟩ => ?_) hs rfl))
  obtain ⟨j,e,q1,q2,q⟩:=q1
  subst e
  cases r1 with
  | cons r rr =>
    cases rr
    obtain ⟨t,rfl⟩:=r
    exact call_range_1 (range_it I1 (by lia) (by lia) q1 q2 (by simpa using q))
def tFor (wi : TI) (g : TG) (tb : TS) : TS:=fun D σ H => wi σ H fun J H1 => ∃ W : Nat→Nat→St→Hp→Prop,(∃ m,W 0 m σ H1)∧∀ i m σ H,W i m σ H →
  (J.stop i H∧D.nx σ H)∨(J.go i H∧∃ N : St→Hp→Prop,(∀ σ' H',N σ' H'→∃ m',m' < m∧W (i + 1) m' σ' H')∧∀ x H',J.yld i H x H'→g x σ H' fun σ2 H2 => tb { D with nx:=N,ct:=N,bk:=D.nx } σ2 H2)
def pinsAt (fp : List Addr) (h : Heap) : List (Addr×Obj):=fp.filterMap fun b => (h.get? b).map fun o => (b,o)
theorem mem_pinsAt {fp : List Addr} {h : Heap} {b : Addr} {o : Obj} (hb : b∈fp) (e : h.get? b = some o) : (b,o)∈pinsAt fp h:=List.mem_filterMap.mpr ⟨b,hb,by rw [e]; rfl⟩
theorem of_pinsAt {fp : List Addr} {h : Heap} {p : Addr×Obj} (hp : p∈pinsAt fp h) : p.1∈fp∧h.get? p.1 = some p.2 := by
  obtain ⟨b,hb,e⟩:=List.mem_filterMap.mp hp
  cases q : h.get? b with
  | none => rw [q] at e; cases e
  | some o =>
    rw [q] at e
    have e' : (b,o) = p:=Option.some.inj e
    subst e'
    exact ⟨hb,q⟩
theorem Inv.pinned {pins : List (Addr×Obj)} {σ : St} {H : Hp} {s : Shared} {fp : List Addr} (I : Inv X pins σ H s) (hf : ∀ b∈fp,FpOk X pins H b) (ho : ∀ b∈fp,∃ o,s.heap.get? b = some o∧∀ v,o.data≠.cell v) : Inv X (pins ++ pinsAt fp s.heap) σ H s :=
  I.pins_of fun p hp => (List.mem_append.mp hp).elim (fun z => I.pin p (List.mem_append_right _ z)) fun z => by
    obtain ⟨hb,e⟩:=of_pinsAt z
    obtain ⟨f0,f1,f2,_⟩:=hf p.1 hb
    obtain ⟨o,e',d⟩:=ho p.1 hb
    rw [e] at e'; cases e'
    exact ⟨e,f0,f1,f2,d⟩
theorem Inv.unpinned {pins pl : List (Addr×Obj)} {σ : St} {H : Hp} {s : Shared} (I : Inv X (pins ++ pl) σ H s) : Inv X pins σ H s:=I.pins_of fun p hp => I.pin p (List.mem_append_right _ (List.mem_append_left _ hp))
theorem ps_for {iter : Expr} {body : List Stmt} {wi : TI} {g : TG} {tb : TS} {pos : Pos} (hp : PassesOwn (model X.prog X.w) X.A X.env X.xe) (hc : X.calm = true) (hi : PI X tg iter wi) (hg : PG X tg g) (hb : PSs X body tb)
    (hs : ∀ x,foldedSetIterable iter X.env x = pure x := by intro _; rfl) : PS X (.For tg iter body [] pos) (tFor wi g tb) := by
  intro pins s σ H D I h
  refine wpAny_For (thn (hi pins s σ H _ I h) fun v s1 h1 => thn h1 fun itv s2 h2 => ?_) hs
  obtain ⟨it,fp,tn,J,H2,e,I2,T,st2,f2,W,⟨m0,w0⟩,turn⟩:=h2
  subst e
  have stat : ∀ {H' : Hp},(∀ b∈fp,H' b = none)→∀ b∈fp,FpOk X pins H' b:=fun hn b hb => ⟨hn b hb,(f2 b hb).2⟩
  refine codeAny_forLoop_any (fun n s' => ∃ i σ' H',Inv X pins σ' H' s'∧tn i s'.heap∧(∀ b∈fp,H' b = none)∧W i n σ' H') ?_ m0 ⟨0,σ,H2,I2,st2,fun b hb => (f2 b hb).1,w0⟩
  rintro n s3 ⟨i,σ3,H3,I3,st3,fr3,w3⟩
  rcases turn i n σ3 H3 w3 with ⟨stop,qn⟩ | ⟨go,N,hN,step⟩
  · refine wpAny_passesOwn hp (thn (T.done X rfl rfl rfl hc i pins s3 σ3 H3 X.xe I3 (stat fr3) st3 stop) fun r s4 ⟨hr,I4⟩ => ?_)
    subst hr
    exact wpAny_execs_nil ⟨σ3,H3,I4,qn⟩
  · refine wpAny_passesOwn hp (thn (T.item X rfl rfl rfl hc i pins s3 σ3 H3 X.xe I3 (stat fr3) st3 go) fun r s4 ⟨u,hr,h4⟩ => ?_)
    subst hr
    refine wpAny_passesOwn hp (thn h4 fun _ s5 ⟨x,H5,I5,r5,y5,st5,fr5⟩ => ?_)
    have I5':=I5.pinned (stat fr5) (T.obj _ _ st5)
    refine wpAny_passesOwn hp (thn (hg _ s5 σ3 H5 x u _ I5' r5 (step x H5 y5)) fun _ s6 ⟨σ6,H6,I6,q6⟩ => ?_)
    refine wpAny_passesOwn hp (thn (hb _ s6 σ6 H6 _ I6 q6) fun f s7 q7 => ?_)
    have again : ∀ {σ7 : St} {H7 : Hp},Inv X (pins ++ pinsAt fp s5.heap) σ7 H7 s7→N σ7 H7→∃ m,m < n∧∃ i σ' H',Inv X pins σ' H' s7∧tn i s7.heap∧(∀ b∈fp,H' b = none)∧W i m σ' H':=fun {σ7 H7} I7 n7 => by
      obtain ⟨m',hm,w7⟩:=hN σ7 H7 n7
      refine ⟨m',hm,i + 1,σ7,H7,I7.unpinned,T.keep _ _ _ st5 fun b hb o e => (I7.pin (b,o) (List.mem_append_right _ (List.mem_append_right _ (mem_pinsAt hb e)))).1,fun b hb => ?_,w7⟩
      obtain ⟨o,e,d⟩:=T.obj _ _ st5 b hb
      exact (I7.pin (b,o) (List.mem_append_right _ (List.mem_append_right _ (mem_pinsAt hb e)))).2.1
    cases f with
    | next => obtain ⟨σ7,H7,I7,n7⟩:=q7; exact again I7 n7
    | cont => obtain ⟨σ7,H7,I7,n7⟩:=q7; exact again I7 n7
    | brk => obtain ⟨σ7,H7,I7,q7⟩:=q7; exact ⟨σ7,H7,I7.unpinned,q7⟩
    | ret v => obtain ⟨x7,σ7,H7,I7,r7,q7⟩:=q7; exact ⟨x7,σ7,H7,I7.unpinned,r7,q7⟩
end
theorem for_list {K : PySem.W.Frag} {a : Addr} {xs : List V} {g : TG} {tb : TS} {D : Ends} {σ : St} {H : Hp} (Pv : Nat→St→Hp→Prop) (h0 : Pv 0 σ H) (hl : ∀ i σ H,i≤xs.length→Pv i σ H→SqL K H a xs)
    (hs : ∀ i x σ H,xs[i]? = some x→Pv i σ H→g x σ H fun σ2 H2 => tb { D with nx:=Pv (i + 1),ct:=Pv (i + 1),bk:=D.nx } σ2 H2) (hd : ∀ σ H,Pv xs.length σ H→D.nx σ H) :
    ∃ W : Nat→Nat→St→Hp→Prop,(∃ m,W 0 m σ H)∧∀ i m σ H,W i m σ H →
      ((Itl K a).stop i H∧D.nx σ H)∨((Itl K a).go i H∧∃ N : St→Hp→Prop,(∀ σ' H',N σ' H'→∃ m',m' < m∧W (i + 1) m' σ' H')∧∀ x H',(Itl K a).yld i H x H'→g x σ H' fun σ2 H2 => tb { D with nx:=N,ct:=N,bk:=D.nx } σ2 H2) := by
  refine ⟨fun i m σ H => m = xs.length - i∧i≤xs.length∧Pv i σ H,⟨xs.length,by simp,Nat.zero_le _,h0⟩,?_⟩
  rintro i m σ H ⟨rfl,hi,p⟩
  have q:=hl i σ H hi p
  by_cases hlt : i < xs.length
  · refine .inr ⟨⟨xs,xs[i],q,by simp [hlt]⟩,Pv (i + 1),fun σ' H' p' => ⟨xs.length - (i + 1),by lia,rfl,hlt,p'⟩,fun x H' y => ?_⟩
    obtain ⟨e,y⟩:=y
    subst e
    exact hs i x σ _ (y xs q) p
  · have e : i = xs.length := by lia
    subst e
    exact .inl ⟨⟨xs,q,Nat.le_refl _⟩,hd σ H p⟩
theorem for_range {lo : Int} {n : Nat} {g : TG} {tb : TS} {D : Ends} {σ : St} {H : Hp} (Pv : Nat→St→Hp→Prop) (h0 : Pv 0 σ H)
    (hs : ∀ i σ H,i < n→Pv i σ H→g (.int (lo + i)) σ H fun σ2 H2 => tb { D with nx:=Pv (i + 1),ct:=Pv (i + 1),bk:=D.nx } σ2 H2) (hd : ∀ σ H,Pv n σ H→D.nx σ H) :
    ∃ W : Nat→Nat→St→Hp→Prop,(∃ m,W 0 m σ H)∧∀ i m σ H,W i m σ H →
      ((Itr lo n).stop i H∧D.nx σ H)∨((Itr lo n).go i H∧∃ N : St→Hp→Prop,(∀ σ' H',N σ' H'→∃ m',m' < m∧W (i + 1) m' σ' H')∧∀ x H',(Itr lo n).yld i H x H'→g x σ H' fun σ2 H2 => tb { D with nx:=N,ct:=N,bk:=D.nx } σ2 H2) := by
  refine ⟨fun i m σ H => m = n - i∧i≤n∧Pv i σ H,⟨n,by simp,Nat.zero_le _,h0⟩,?_⟩
  rintro i m σ H ⟨rfl,hi,p⟩
  by_cases hlt : i < n
  · refine .inr ⟨hlt,Pv (i + 1),fun σ' H' p' => ⟨n - (i + 1),by lia,rfl,hlt,p'⟩,fun x H' y => ?_⟩
    obtain ⟨e,y⟩:=y
    subst e y
    exact hs i σ _ hlt p
  · have e : i = n := by lia
    subst e
    exact .inl ⟨Nat.le_refl _,hd σ H p⟩
theorem while_by {c : TT} {tb : TS} {D : Ends} {σ : St} {H : Hp} (Pv : St→Hp→Prop) (μ : St→Hp→Nat) (h0 : Pv σ H)
    (hs : ∀ σ H,Pv σ H→c σ H fun b H1 => if b = true then tb { D with nx:=fun σ' H' => Pv σ' H'∧μ σ' H' < μ σ H,ct:=fun σ' H' => Pv σ' H'∧μ σ' H' < μ σ H,bk:=D.nx } σ H1 else D.nx σ H1)
    (mono : ∀ σ H Q Q',(∀ b H1,Q b H1→Q' b H1)→c σ H Q→c σ H Q') : tWhile c tb D σ H := by
  refine ⟨fun m σ H => m = μ σ H∧Pv σ H,⟨_,rfl,h0⟩,?_⟩
  rintro m σ H ⟨rfl,p⟩
  refine mono σ H _ _ (fun b H1 q => ?_) (hs σ H p)
  cases b with
  | true => exact ⟨_,fun σ' H' ⟨p',l⟩ => ⟨_,l,rfl,p'⟩,q⟩
  | false => exact q
abbrev R2:=V→V→Hp→VK→Prop
def OpR (X : Cx) (f : Value→Value→Sem Value) (r : R2) : Prop :=
  ∀ (pins : List (Addr×Obj)) (s : Shared) (σ : St) (H : Hp) (x y : V) (v u : Value) (Q : VK),Inv X pins σ H s→RelV x v→RelV y u→r x y H Q →
    wpAny (model X.prog X.w) X.A (f v u) (EP X pins σ Q) X.xe s
def CallR (X : Cx) (f : Value) (r : List V→Hp→VK→Prop) : Prop :=
  ∀ (pins : List (Addr×Obj)) (s : Shared) (σ : St) (H : Hp) (xs : List V) (us : List Value) (Q : VK),Inv X pins σ H s→Vals xs us→r xs H Q →
    wpAny (model X.prog X.w) X.A (call f us) (EP X pins σ Q) X.xe s
def tOp (r : R2) (ta tb : TE) : TE:=fun σ H Q => ta σ H fun x H1 => tb σ H1 fun y H2 => r x y H2 Q
def rI (C : Int→Int→Prop) (g : Int→Int→V) : R2:=fun x y H Q => ∃ i j,x = .int i∧y = .int j∧C i j∧Q (g i j) H
def rI0 (g : Int→Int→V) : R2:=fun x y H Q => ∃ i j,x = .int i∧y = .int j∧Q (g i j) H
section
variable {X : Cx} {a b : Expr} {ta tb : TE} {pos : Pos}
theorem binT (ha : PE X a ta) (hb : PE X b tb) {pins : List (Addr×Obj)} {s : Shared} {σ : St} {H : Hp} {R : V→V→Hp→Prop} (I : Inv X pins σ H s)
    (h : ta σ H fun x H1 => tb σ H1 fun y H2 => R x y H2) {Q : Value→Shared→Prop} {f : Value→Value→Sem Value}
    (hf : ∀ v u s2 x y H2,Inv X pins σ H2 s2→RelV x v→RelV y u→R x y H2→wpAny (model X.prog X.w) X.A (f v u) Q X.xe s2) :
    wpAny (model X.prog X.w) X.A (eval a X.env) (fun v s₁ => wpAny (model X.prog X.w) X.A (eval b X.env) (fun u s₂ => wpAny (model X.prog X.w) X.A (f v u) Q X.xe s₂) X.xe s₁) X.xe s := by
  refine thn (ha pins s σ H _ I h) fun v s1 ⟨x,H1,I1,r1,q1⟩ => ?_
  refine thn (hb pins s1 σ H1 _ I1 q1) fun u s2 ⟨y,H2,I2,r2,q2⟩ => ?_
  exact hf v u s2 x y H2 I2 r1 r2 q2
theorem pe_op {op : Operator} {r : R2} (ho : OpR X (binaryOp op) r) (ha : PE X a ta) (hb : PE X b tb) : PE X (.BinOp a op b pos) (tOp r ta tb) := by
  intro pins s σ H Q I h
  exact wpAny_BinOp (binT ha hb I h fun v u s2 x y H2 I2 rx ry q => ho pins s2 σ H2 x y v u Q I2 rx ry q)
theorem opI {f : Value→Value→Sem Value} {C : Int→Int→Prop} {g : Int→Int→Int}
    (rule : ∀ (i j : Int) (t u : Tok) (s : Shared) (Q : Value→Shared→Prop) (E : Value→Shared→Prop),C i j→Q (.int (g i j) s.toks) { s with toks:=s.toks + 1 }→wpAny (model X.prog X.w) X.A (f (.int i t) (.int j u)) Q E s) :
    OpR X f (rI C fun i j => .int (g i j)) := by
  intro pins s σ H x y v u Q I rx ry h
  obtain ⟨i,j,rfl,rfl,hc,q⟩:=h
  obtain ⟨t,rfl⟩:=rx
  obtain ⟨t',rfl⟩:=ry
  exact rule i j t t' s _ _ hc ⟨.int (g i j),H,I.tok _,⟨_,rfl⟩,q⟩
theorem opI0 {f : Value→Value→Sem Value} {g : Int→Int→Int}
    (rule : ∀ (i j : Int) (t u : Tok) (s : Shared) (Q : Value→Shared→Prop) (E : Value→Shared→Prop),Q (.int (g i j) s.toks) { s with toks:=s.toks + 1 }→wpAny (model X.prog X.w) X.A (f (.int i t) (.int j u)) Q E s) :
    OpR X f (rI0 fun i j => .int (g i j)) := by
  intro pins s σ H x y v u Q I rx ry h
  obtain ⟨i,j,rfl,rfl,q⟩:=h
  obtain ⟨t,rfl⟩:=rx
  obtain ⟨t',rfl⟩:=ry
  exact rule i j t t' s _ _ ⟨.int (g i j),H,I.tok _,⟨_,rfl⟩,q⟩
theorem opB0 {f : Value→Value→Sem Value} {g : Int→Int→Bool}
    (rule : ∀ (i j : Int) (t u : Tok) (s : Shared) (Q : Value→Shared→Prop) (E : Value→Shared→Prop),Q (.bool (g i j)) s→wpAny (model X.prog X.w) X.A (f (.int i t) (.int j u)) Q E s) :
    OpR X f (rI0 fun i j => .bl (g i j)) := by
  intro pins s σ H x y v u Q I rx ry h
  obtain ⟨i,j,rfl,rfl,q⟩:=h
  obtain ⟨t,rfl⟩:=rx
  obtain ⟨t',rfl⟩:=ry
  exact rule i j t t' s _ _ ⟨.bl (g i j),H,I,rfl,q⟩
def CPow (i j : Int) : Prop:=0≤j∧j≤1000000∧i.natAbs < 2 ^ 64
def CMul (i j : Int) : Prop:=(-(2 ^ 64) < i∧i < 2 ^ 64)∨(-(2 ^ 64) < j∧j < 2 ^ 64)
theorem CMul.ok {i j : Int} (h : CMul i j) : IntMulOk i j := by
  rcases h with ⟨h1,h2⟩ | ⟨h1,h2⟩
  · exact .of_left (intBits_le_64 h1 h2)
  · exact .of_right (intBits_le_64 h1 h2)
theorem op_add : OpR X (binaryOp .Add) (rI0 fun i j => .int (i + j)):=opI0 fun _ _ _ _ _ _ _ q => add_int q
theorem op_sub : OpR X (binaryOp .Sub) (rI0 fun i j => .int (i - j)):=opI0 fun _ _ _ _ _ _ _ q => sub_int q
theorem op_mod : OpR X (binaryOp .Mod) (rI (fun _ j => 0 < j) fun i j => .int (i % j)):=opI fun i j _ _ _ _ _ hc q => by
  have h1 : (0 : Int) < j:=hc
  exact mod_int' (by lia) (by rw [Int.fmod_eq_emod_of_nonneg i (by lia)]; exact q)
theorem op_modN : OpR X (binaryOp .Mod) (rI (fun _ j => j≠0) fun i j => .int (i.fmod j)):=opI fun _ _ _ _ _ _ _ hc q => mod_int' hc q
theorem op_pow : OpR X (binaryOp .Pow) (rI CPow fun i j => .int (i ^ j.toNat)):=opI fun _ _ _ _ _ _ _ hc q => pow_int_small hc.1 hc.2.1 hc.2.2 q
end
def scal : V→V→Bool
  | .non,.non => true | .non,.int _ => true | .int _,.non => true | .non,.bl _ => true | .bl _,.non => true | .non,.str _ => true | .str _,.non => true
  | .int _,.int _ => true | .bl _,.bl _ => true | .str _,.str _ => true | .byt _,.byt _ => true
  | .int _,.str _ => true | .str _,.int _ => true | .bl _,.str _ => true | .str _,.bl _ => true
  | _,_ => false
def rEq : R2:=fun x y H Q => scal x y = true∧Q (.bl (decide (x = y))) H
def rNe : R2:=fun x y H Q => scal x y = true∧Q (.bl (!decide (x = y))) H
theorem dec_int {i j : Int} : decide (V.int i = V.int j) = (i == j) := by
  rw [Bool.eq_iff_iff]
  simp
theorem dec_bl {i j : Bool} : decide (V.bl i = V.bl j) = (i == j) := by
  rw [Bool.eq_iff_iff]
  simp
theorem dec_str {i j : Str} : decide (V.str i = V.str j) = (i == j) := by
  rw [Bool.eq_iff_iff]
  simp
theorem dec_byt {i j : Array UInt8} : decide (V.byt i = V.byt j) = (i.toList == j.toList) := by
  rw [Bool.eq_iff_iff]
  cases i
  cases j
  simp
section
variable {X : Cx} {a b c : Expr} {ta tb : TE} {pos : Pos}
theorem fin_bl {pins : List (Addr×Obj)} {σ : St} {H : Hp} {s : Shared} {Q : VK} {k k' : Bool} (I : Inv X pins σ H s) (q : Q (.bl k) H) (e : k = k') : EP X pins σ Q (.bool k') s := by
  subst e
  exact ⟨.bl k,H,I,rfl,q⟩
theorem op_eq : OpR X (compareOp .Eq) rEq := by
  intro pins s σ H x y v u Q I rx ry h
  obtain ⟨hs,q⟩:=h
  cases x with
  | non =>
    cases rx
    cases y with
    | non => cases ry; exact PySem.EqNone.eq_none_none (fin_bl I q (by simp))
    | bl j => cases ry; exact PySem.EqNone.eq_none_bool (fin_bl I q (by simp))
    | int j => obtain ⟨t',rfl⟩:=ry; exact PySem.EqNone.eq_none_int (fin_bl I q (by simp))
    | str j => obtain ⟨t',rfl⟩:=ry; exact PySem.EqNone.eq_none_str (fin_bl I q (by simp))
    | _ => exact absurd (show false = true from hs) Bool.false_ne_true
  | bl i =>
    cases rx
    cases y with
    | non => cases ry; exact PySem.EqNone.eq_bool_none (fin_bl I q (by simp))
    | bl j => cases ry; exact eq_bool (fin_bl I q dec_bl)
    | str j => obtain ⟨t',rfl⟩:=ry; exact PySem.EqMixed.eq_bool_str (fin_bl I q (by simp))
    | _ => exact absurd (show false = true from hs) Bool.false_ne_true
  | int i =>
    obtain ⟨t,rfl⟩:=rx
    cases y with
    | non => cases ry; exact PySem.EqNone.eq_int_none (fin_bl I q (by simp))
    | int j => obtain ⟨t',rfl⟩:=ry; exact eq_int (fin_bl I q dec_int)
    | str j => obtain ⟨t',rfl⟩:=ry; exact PySem.EqMixed.eq_int_str (fin_bl I q (by simp))
    | _ => exact absurd (show false = true from hs) Bool.false_ne_true
  | str i =>
    obtain ⟨t,rfl⟩:=rx
    cases y with
    | non => cases ry; exact PySem.EqNone.eq_str_none (fin_bl I q (by simp))
    | bl j => cases ry; exact PySem.EqMixed.eq_str_bool (fin_bl I q (by simp))
    | int j => obtain ⟨t',rfl⟩:=ry; exact PySem.EqMixed.eq_str_int (fin_bl I q (by simp))
    | str j => obtain ⟨t',rfl⟩:=ry; exact eq_str (fin_bl I q dec_str)
    | _ => exact absurd (show false = true from hs) Bool.false_ne_true
  | byt i =>
    obtain ⟨t,rfl⟩:=rx
    cases y with
    | byt j => obtain ⟨t',rfl⟩:=ry; exact PySem.W.eq_bytes (fin_bl I q dec_byt)
    | _ => exact absurd (show false = true from hs) Bool.false_ne_true
  | _ => cases y <;> exact absurd (show false = true from hs) Bool.false_ne_true
theorem op_ne : OpR X (compareOp .NotEq) rNe := by
  intro pins s σ H x y v u Q I rx ry h
  obtain ⟨hs,q⟩:=h
  cases x with
  | non =>
    cases rx
    cases y with
    | non => cases ry; exact PySem.EqNone.ne_none_none (fin_bl I q (by simp))
    | bl j => cases ry; exact PySem.EqNone.ne_none_bool (fin_bl I q (by simp))
    | int j => obtain ⟨t',rfl⟩:=ry; exact PySem.EqNone.ne_none_int (fin_bl I q (by simp))
    | str j => obtain ⟨t',rfl⟩:=ry; exact PySem.EqNone.ne_none_str (fin_bl I q (by simp))
    | _ => exact absurd (show false = true from hs) Bool.false_ne_true
  | bl i =>
    cases rx
    cases y with
    | non => cases ry; exact PySem.EqNone.ne_bool_none (fin_bl I q (by simp))
    | bl j => cases ry; exact ne_bool (fin_bl I q (congrArg not dec_bl))
    | str j => obtain ⟨t',rfl⟩:=ry; exact PySem.EqMixed.ne_bool_str (fin_bl I q (by simp))
    | _ => exact absurd (show false = true from hs) Bool.false_ne_true
  | int i =>
    obtain ⟨t,rfl⟩:=rx
    cases y with
    | non => cases ry; exact PySem.EqNone.ne_int_none (fin_bl I q (by simp))
    | int j => obtain ⟨t',rfl⟩:=ry; exact ne_int (fin_bl I q (congrArg not dec_int))
    | str j => obtain ⟨t',rfl⟩:=ry; exact PySem.EqMixed.ne_int_str (fin_bl I q (by simp))
    | _ => exact absurd (show false = true from hs) Bool.false_ne_true
  | str i =>
    obtain ⟨t,rfl⟩:=rx
    cases y with
    | non => cases ry; exact PySem.EqNone.ne_str_none (fin_bl I q (by simp))
    | bl j => cases ry; exact PySem.EqMixed.ne_str_bool (fin_bl I q (by simp))
    | int j => obtain ⟨t',rfl⟩:=ry; exact PySem.EqMixed.ne_str_int (fin_bl I q (by simp))
    | str j => obtain ⟨t',rfl⟩:=ry; exact ne_str (fin_bl I q (congrArg not dec_str))
    | _ => exact absurd (show false = true from hs) Bool.false_ne_true
  | byt i =>
    obtain ⟨t,rfl⟩:=rx
    cases y with
    | byt j => obtain ⟨t',rfl⟩:=ry; exact PySem.W.ne_bytes (fin_bl I q (congrArg not dec_byt))
    | _ => exact absurd (show false = true from hs) Bool.false_ne_true
  | _ => cases y <;> exact absurd (show false = true from hs) Bool.false_ne_true
theorem op_lt : OpR X (compareOp .Lt) (rI0 fun i j => .bl (decide (i < j))):=opB0 fun _ _ _ _ _ _ _ q => lt_int q
theorem op_gt : OpR X (compareOp .Gt) (rI0 fun i j => .bl (decide (j < i))):=opB0 fun _ _ _ _ _ _ _ q => gt_int q
theorem op_ge : OpR X (compareOp .GtE) (rI0 fun i j => .bl (decide (j≤i))):=opB0 fun _ _ _ _ _ _ _ q => ge_int q
theorem op_notN : OpR X (compareOp .IsNot) (fun x y H Q => y = .non∧Q (.bl (!decide (x = .non))) H) := by
  intro pins s σ H x y v u Q I rx ry h
  obtain ⟨rfl,q⟩:=h
  cases ry
  refine isnot_none_gen (fin_bl I q ?_)
  cases x <;> first
    | (cases rx; rfl)
    | (obtain ⟨t,rfl⟩:=rx; rfl)
theorem OpR.or {f : Value→Value→Sem Value} {r r' : R2} (h : OpR X f r) (h' : OpR X f r') : OpR X f (fun x y H Q => r x y H Q∨r' x y H Q) := by
  intro pins s σ H x y v u Q I rx ry q
  rcases q with q | q
  · exact h pins s σ H x y v u Q I rx ry q
  · exact h' pins s σ H x y v u Q I rx ry q
theorem nomark (b : Expr) {op : CmpOp} (h : op≠.In := by decide) (h2 : op≠.NotIn := by decide) : behindInMarks op b = false := by
  have e1 : (op == CmpOp.In) = false := by cases op <;> first | rfl | exact absurd rfl h
  have e2 : (op == CmpOp.NotIn) = false := by cases op <;> first | rfl | exact absurd rfl h2
  cases b <;> simp [behindInMarks,e1,e2]
theorem pe_cmpR {op : CmpOp} {r : R2} (ho : OpR X (compareOp op) r) (ha : PE X a ta) (hb : PE X b tb) (hm : behindInMarks op b = false) : PE X (.Compare a [op] [b] pos) (tOp r ta tb) := by
  intro pins s σ H Q I h
  exact wpAny_Compare1 (binT ha hb I h fun v u s2 x y H2 I2 rx ry q => ho pins s2 σ H2 x y v u Q I2 rx ry q) hm
def tTest (t : TE) : TT:=fun σ H Q => t σ H fun x H' => ∃ k,x = .bl k∧Q k H'
theorem pt_cmpR {op : CmpOp} {r : R2} (ho : OpR X (compareOp op) r) (ha : PE X a ta) (hb : PE X b tb) (hm : behindInMarks op b = false) : PT X (.Compare a [op] [b] pos) (tTest (tOp r ta tb)) := by
  intro pins s σ H Q I h
  refine wpAny_isTrue_Compare1 (thn (ha pins s σ H _ I h) fun v s1 ⟨x,H1,I1,r1,q1⟩ => thn (hb pins s1 σ H1 _ I1 q1) fun u s2 ⟨y,H2,I2,r2,q2⟩ =>
    thn (ho pins s2 σ H2 x y v u _ I2 r1 r2 q2) fun c s3 ⟨z,H3,I3,r3,k,e,q3⟩ => ?_) hm
  subst e
  cases r3
  exact wpAny_truthy_bool ⟨H3,I3,q3⟩
theorem line63 : (sizeLine : Nat) < 2 ^ 63 := by rw [sizeLine_eq]; decide
theorem op_add_str : OpR X (binaryOp .Add) (fun x y H Q => ∃ i j,x = .str i∧y = .str j∧i.length + j.length≤sizeLine∧Q (.str (i ++ j)) H) := by
  intro pins s σ H x y v u Q I rx ry h
  obtain ⟨i,j,rfl,rfl,hz,q⟩:=h
  obtain ⟨t,rfl⟩:=rx
  obtain ⟨t',rfl⟩:=ry
  exact add_str (fun t' tk => ⟨.str (i ++ j),H,I.tok _,⟨_,rfl⟩,q⟩) hz
def PlainIxT (b : Expr) : Prop:=∀ o i,subscripted b false o i = operate [o,i] (getItem o i)
theorem pe_item_str (ha : PE X a ta) (hb : PE X b tb) (hs : PlainIxT b) :
    PE X (.Subscript a b pos) (tOp (fun x y H Q => ∃ z i c,x = .str z∧y = .int i∧0≤i∧i < 2 ^ 63∧i < z.length∧z.cps[i.toNat]? = some c∧Q (.str ⟨#[c]⟩) H) ta tb) := by
  intro pins s σ H Q I h
  refine Subscript_ (binT ha hb I h fun v u s2 x y H2 I2 rx ry q => ?_)
  obtain ⟨z,i,c,rfl,rfl,h0,h63,h1,hc,q⟩:=q
  obtain ⟨t,rfl⟩:=rx
  obtain ⟨t',rfl⟩:=ry
  have e : seqIndex? i z.length = some i.toNat:=PySem.StrLaws.seqIndex_nonneg h0 h1
  exact tail_any (typeIs_str s2 z t) slot_str_getitem.lookup (getItem_str (c:=c) (by
    have e1 : decide (i < -(2 ^ 63 : Int)) = false:=decide_eq_false (by lia)
    have e2 : decide (i ≥ 2 ^ 63) = false:=decide_eq_false (by lia)
    rw [e1,e2] <;> rfl) (by rw [e]; exact hc) ⟨.str ⟨#[c]⟩,H2,I2.tok _,⟨_,rfl⟩,q⟩) (hs _ _)
theorem vals1 {x : V} {us : List Value} (r : Vals [x] us) : ∃ u,us = [u]∧RelV x u := by
  cases r with
  | cons r1 r2 => cases r2; exact ⟨_,rfl,r1⟩
theorem vals2 {x y : V} {us : List Value} (r : Vals [x,y] us) : ∃ u w',us = [u,w']∧RelV x u∧RelV y w' := by
  cases r with
  | cons r1 r2 =>
    cases r2 with
    | cons r3 r4 => cases r4; exact ⟨_,_,rfl,r1,r3⟩
theorem call_abs : CallR X (.builtin "abs") (fun xs H Q => ∃ i,xs = [.int i]∧Q (.int (if i < 0 then -i else i)) H) := by
  intro pins s σ H xs us Q I r h
  obtain ⟨i,rfl,q⟩:=h
  obtain ⟨u,rfl,t,rfl⟩:=vals1 r
  exact call_abs_int fun u tk => ⟨.int (if i < 0 then -i else i),H,I.tok _,⟨_,rfl⟩,q⟩
theorem call_max2 (hc : X.calm = true) : CallR X (.builtin "max") (fun xs H Q => ∃ i j,xs = [.int i,.int j]∧Q (.int (if j > i then j else i)) H) := by
  intro pins s σ H xs us Q I r h
  obtain ⟨i,j,rfl,q⟩:=h
  obtain ⟨u,w',rfl,⟨t,rfl⟩,⟨t',rfl⟩⟩:=vals2 r
  refine max_two_ints (I.ok.hd hc) fun h' tk k => ⟨_,H,I.kept k,?_,q⟩
  by_cases hj : j > i
  · rw [if_pos hj,if_pos hj]; exact ⟨_,rfl⟩
  · rw [if_neg hj,if_neg hj]; exact ⟨_,rfl⟩
theorem call_min2 (hc : X.calm = true) : CallR X (.builtin "min") (fun xs H Q => ∃ i j,xs = [.int i,.int j]∧Q (.int (if j < i then j else i)) H) := by
  intro pins s σ H xs us Q I r h
  obtain ⟨i,j,rfl,q⟩:=h
  obtain ⟨u,w',rfl,⟨t,rfl⟩,⟨t',rfl⟩⟩:=vals2 r
  refine min_two_ints (I.ok.hd hc) fun h' tk k => ⟨_,H,I.kept k,?_,q⟩
  by_cases hj : j < i
  · rw [if_pos hj,if_pos hj]; exact ⟨_,rfl⟩
  · rw [if_neg hj,if_neg hj]; exact ⟨_,rfl⟩
end
structure ObjM (h : Heap) (x dx C : Addr) (mA : Str→Option Value) : Prop where
  obj : h.get? x = some (PySem.W.instObj C dx)
  ns : h.Ns1 dx mA
  ne : dx≠x
theorem lookIn_ns {h : Heap} {dx : Addr} {mA : Str→Option Value} (n : h.Ns1 dx mA) : ∃ od,h.get? dx = some od∧∀ name,PySem.W.lookIn name od = some (mA name) := by
  obtain ⟨o,es,ep,ho,hd,hk,_,hm⟩:=n
  refine ⟨o,ho,fun name => ?_⟩
  have e:=hm name
  unfold nsFind findBy at e
  rw [← Array.find?_toList] at e
  unfold PySem.W.lookIn
  rw [hd]
  dsimp only
  split
  · rename_i y q
    rw [q] at e
    exact congrArg some e
  · rename_i q
    rw [q] at e
    have a : es.toList.any (·.refKey) = false := by
      rw [List.any_eq_false]
      intro y hy
      obtain ⟨z,t,hkey⟩:=hk y (Array.mem_toList_iff.mp hy)
      simp [DictEntry.refKey,hkey]
    have a' : ¬ es.toList.any (·.refKey) = true := by rw [a]; exact Bool.false_ne_true
    rw [if_neg a']
    exact congrArg some e
theorem ObjM.look {h : Heap} {x dx C : Addr} {mA : Str→Option Value} (I : ObjM h x dx C mA) : ∃ od,PySem.W.InstAt h x (PySem.W.instObj C dx) C (some od)∧∀ name,PySem.W.lookIn name od = some (mA name) :=
  let ⟨od,ho,hl⟩:=lookIn_ns I.ns
  ⟨od,⟨I.obj,rfl,rfl,ho⟩,hl⟩
theorem RelO.some_of {v : V} {o : Option Value} (r : RelO (some v) o) : ∃ u,o = some u∧RelV v u := by
  cases o with
  | none => exact (show False from r).elim
  | some u => exact ⟨u,rfl,r⟩
section
variable {P : Program} {w : World} {H : Hp} {h : Heap} {a C dx : Addr} {fs : List (Str×V)}
theorem ins_get (hok : HOk P w H h) (e : H a = some (.ins C dx fs)) : ∃ mA,ObjM h a dx C mA∧(∀ f,RelO (fs.lookup f) (mA f))∧PySem.Within mA (fs.map (·.1))∧fs.length≤1000∧H dx = some (.own a) := by
  obtain ⟨d,z,ne,ob,mA,n,r,q⟩:=(show ObjOk P w H h a (.ins C dx fs) from hok a _ e)
  exact ⟨mA,⟨ob,n,ne⟩,r,q,z,d⟩
end
structure Cls (K : PySem.W.Frag) (C : Addr) : Prop where
  pg : PySem.W.plainGet K C Str.empty = true
  hd : PySem.W.hasDictIn K C = true
  po : PySem.W.plainOver K C = true
  sa : PySem.W.findIn K (.ref C) "__setattr__" = some (some (.builtin "object.__setattr__"))
theorem Cls.get {K : PySem.W.Frag} {C : Addr} (c : Cls K C) (f : Str) : PySem.W.plainGet K C f = true:=c.pg
section
variable {X : Cx} {pins : List (Addr×Obj)} {σ : St} {H : Hp} {s : Shared} {A : Around} {E : Value→Shared→Prop} {Q : Value→Shared→Prop} {c : Value} {b : Bool}
inductive TyOf (K : PySem.W.Frag) (H : Hp) : V→Value→Prop where
  | non : TyOf K H .non (.type "NoneType")
  | bl (x : Bool) : TyOf K H (.bl x) (.type "bool")
  | int (i : Int) : TyOf K H (.int i) (.type "int")
  | str (x : Str) : TyOf K H (.str x) (.type "str")
  | flt (x : UInt64) : TyOf K H (.flt x) (.type "float")
  | lst {a : Addr} {xs : List V} (e : H a = some (.lst xs)) : TyOf K H (.ref a) (.type "list")
  | frz {a : Addr} {o : Obj} {xs : List V} (e : H a = some (.frz o (.lst xs))) : TyOf K H (.ref a) (.type "list")
  | tup {a : Addr} {xs : List V} (e : H a = some (.tup xs)) : TyOf K H (.ref a) (.type "tuple")
  | dK {a : Addr} {kvs : List (Key×V)} (e : H a = some (.dK kvs)) : TyOf K H (.ref a) (.type "dict")
  | dT {a : Addr} {kvs : List (List Key×V)} (e : H a = some (.dT kvs)) : TyOf K H (.ref a) (.type "dict")
  | ins {a C dx : Addr} {fs : List (Str×V)} (e : H a = some (.ins C dx fs)) (cl : Cls K C) (ha : PySem.W.findIn K (.ref C) "__class__" = some (some (.builtin "object.__class__")))
      (hn : PySem.W.specialIn K (.builtin "object.__class__") "__get__" = some (some (.builtin "getset_descriptor.__get__"))) (htk : PySem.W.takesIn K (.builtin "object.__class__") = some true)
      (hm : PySem.W.mroIn K C (.type "object") = some true) : TyOf K H (.ref a) (.ref C)
theorem isinst_ok {x : V} {u t : Value} (I : Inv X pins σ H s) (rx : RelV x u) (ty : TyOf X.K H x t) (e : PySem.W.kitOne X.K t c = some b) (h : ∀ tk,Q (.bool b) { s with toks:=tk }) :
    wpAny (model X.prog X.w) A (call (.builtin "isinstance") [u,c]) Q E s := by
  cases ty with
  | non => cases (show u = Value.none from rx); exact PySem.W.kia_one PySem.W.kitx_none I.kIn True.intro e (fun z => nomatch z) h
  | bl y => cases (show u = Value.bool y from rx); exact PySem.W.kia_one PySem.W.kitx_bool I.kIn True.intro e (fun z => nomatch z) h
  | int i => obtain ⟨t,q⟩:=(show ∃ t,u = Value.int i t from rx); cases q; exact PySem.W.kia_one PySem.W.kitx_int I.kIn True.intro e (fun z => nomatch z) h
  | str y => obtain ⟨t,q⟩:=(show ∃ t,u = Value.str y t from rx); cases q; exact PySem.W.kia_one PySem.W.kitx_str I.kIn True.intro e (fun z => nomatch z) h
  | flt y => obtain ⟨t,q⟩:=(show ∃ t,u = Value.float y t from rx); cases q; exact PySem.W.kia_one PySem.W.kitx_float I.kIn True.intro e (fun z => nomatch z) h
  | @lst a xs ea =>
    cases (show u = Value.ref a from rx)
    obtain ⟨_,_,n,_,h1⟩:=(show ObjOk X.prog X.w H s.heap a (.lst xs) from I.hok a _ ea)
    exact PySem.W.kia_one PySem.W.kitx_list I.kIn ⟨_,h1,rfl⟩ e (fun z => nomatch z) h
  | @frz a ob xs ea =>
    cases (show u = Value.ref a from rx)
    obtain ⟨_,_,_,n,_,h1⟩:=(show ObjOk X.prog X.w H s.heap a (.frz ob (.lst xs)) from I.hok a _ ea)
    exact PySem.W.kia_one PySem.W.kitx_list I.kIn ⟨_,h1,rfl⟩ e (fun z => nomatch z) h
  | @tup a xs ea =>
    cases (show u = Value.ref a from rx)
    obtain ⟨_,_,_,p⟩:=(show ObjOk X.prog X.w H s.heap a (.tup xs) from I.hok a _ ea)
    obtain ⟨o,h1,h2,_⟩:=p
    exact PySem.W.kia_one PySem.W.kitx_tuple I.kIn ⟨o,h1,h2⟩ e (fun z => nomatch z) h
  | @dK a kvs ea =>
    cases (show u = Value.ref a from rx)
    obtain ⟨_,_,vs,_,p⟩:=(show ObjOk X.prog X.w H s.heap a (.dK kvs) from I.hok a _ ea)
    obtain ⟨o,es,ep,h1,h2,_⟩:=p
    exact PySem.W.kia_one PySem.W.kitx_dict I.kIn ⟨o,h1,h2.1⟩ e (fun z => nomatch z) h
  | @dT a kvs ea =>
    cases (show u = Value.ref a from rx)
    obtain ⟨_,_,xs,_,o,es,ep,h1,h2,_⟩:=(show ObjOk X.prog X.w H s.heap a (.dT kvs) from I.hok a _ ea)
    exact PySem.W.kia_one PySem.W.kitx_dict I.kIn ⟨o,h1,h2.1⟩ e (fun z => nomatch z) h
  | @ins a C dx fs ea cl ha hn htk hm =>
    cases (show u = Value.ref a from rx)
    obtain ⟨mA,O,_⟩:=ins_get I.hok ea
    obtain ⟨od,J,_⟩:=O.look
    exact PySem.W.kia_one (PySem.W.kitx_own (cl.get _) cl.hd ha hn htk hm) I.kIn J e (fun z => nomatch z) h
end
structure Room (k : Nat) (A : Around) : Prop where
  hd : A.handled = none
  dp : A.depth + 3 * k + 5 < recursionLimit
  un : A.units + 16 * k + 200 < cLine
theorem Room.mono {j k : Nat} {A : Around} (r : Room k A) (h : j≤k := by decide) : Room j A:=⟨r.hd,by have:=r.dp; lia,by have:=r.un; lia⟩
theorem Room.deeper {k : Nat} {A : Around} (r : Room (k + 1) A) (env : Env) : Room k (A.deeper env) :=
  ⟨r.hd,by have:=r.dp; show A.depth + 1 + 3 * k + 5 < _; lia,by have:=r.un; show A.units + 3 + 16 * k + 200 < _; lia⟩
theorem Room.depth {k : Nat} {A : Around} (r : Room k A) : A.depth < recursionLimit := by have:=r.dp; lia
theorem Room.units {k : Nat} {A : Around} (r : Room k A) : A.units + 64 < cLine := by have:=r.un; lia
def tNil : TA:=fun _ H Q => Q [] H
def tCons (ta : TE) (tr : TA) : TA:=fun σ H Q => ta σ H fun x H1 => tr σ H1 fun xs H2 => Q (x :: xs) H2
section
variable {X : Cx} {e : Expr} {es : List Expr} {te : TE} {t : TA} {pos : Pos}
theorem pa_nil : PA X [] tNil:=fun _ _ _ _ H Q I h => Calls.spliced_nil ⟨[],H,I,.nil,h⟩
theorem pa_cons (ha : PE X e te) (hr : PA X es t) (hs : starEach (e :: es) X.env = (false,eval e X.env) :: starEach es X.env := by rfl) : PA X (e :: es) (tCons te t) := by
  intro pos pins s σ H Q I h
  rw [hs]
  show wpAny _ _ (spliced ((false,eval e X.env) :: backTo pos (starEach es X.env))) _ _ s
  refine Calls.spliced_cons (thn (ha pins s σ H _ I h) fun u s1 ⟨x,H1,I1,r1,q1⟩ => ?_)
  exact thn (hr pos pins s1 σ H1 _ I1 q1) fun us s2 ⟨xs,H2,I2,r2,q2⟩ => ⟨x :: xs,H2,I2,.cons r1 r2,q2⟩
def tTup (t : TA) : TE:=fun σ H Q => t σ H fun xs H1 => xs.length≤sizeLine∧∀ p,H1 p = none→Q (.ref p) (upd H1 p (.tup xs))
def tLst (t : TA) : TE:=fun σ H Q => t σ H fun xs H1 => xs.length≤sizeLine∧∀ p,H1 p = none→Q (.ref p) (upd H1 p (.lst xs))
theorem pe_tup {x1} (h : PA X es t) : PE X (.Tuple es x1 pos) (tTup t) := by
  intro pins s σ H Q I hq
  refine wpAny_Tuple_spliced (thn (h pos pins s σ H _ I hq) fun us s1 ⟨xs,H1,I1,r,z,q⟩ => ⟨by rw [← r.length]; exact z,?_⟩)
  have hf : H1 s1.heap.objs.size = none:=I1.hok.fresh (Nat.le_refl _)
  refine ⟨.ref s1.heap.objs.size,upd H1 s1.heap.objs.size (.tup xs),I1.laid (t':=s1.toks) (fun b u e => Heap.get?_push_of_some _ e) (Nat.le_refl _) ?_,rfl,q _ hf⟩
  exact ⟨z,us,r,⟨_,Heap.get?_push_size _ rfl,rfl,_,rfl⟩⟩
theorem pe_lst (h : PA X es t) : PE X (.List es pos) (tLst t) := by
  intro pins s σ H Q I hq
  refine wpAny_List_spliced (thn (h pos pins s σ H _ I hq) fun us s1 ⟨xs,H1,I1,r,z,q⟩ => ⟨by rw [← r.length]; exact z,?_⟩)
  have hf : H1 s1.heap.objs.size = none:=I1.hok.fresh (Nat.le_refl _)
  refine ⟨.ref s1.heap.objs.size,upd H1 s1.heap.objs.size (.lst xs),I1.laid (t':=s1.toks) (fun b u e => Heap.get?_push_of_some _ e) (Nat.le_refl _) ?_,rfl,q _ hf⟩
  exact ⟨z,us,0,r,Heap.get?_push_size _ rfl⟩
end
abbrev Sp:=List V→Hp→VK→XK→Prop
abbrev CXT:=List Env→Hp→Shared→XK→Value→Shared→Prop
structure Env0 (P : Program) (w : World) (K : PySem.W.Frag) (mg : Str→Option Value) (base : Heap) (A : Around) (outer : List Env) (s : Shared) (H : Hp) : Prop where
  frames : A.frames = some outer
  mod : Mod K mg base
  bs : ∀ b o,base.get? b = some o→s.heap.get? b = some o∧H b = none
  bsz : base.objs.size≤s.heap.objs.size
  funs : s.heap.FunFrames base outer
  frf : ∀ b∈frs outer,H b = none
  hok : HOk P w H s.heap
  bare : AllBare s.gens
  kt : KTb mg H
def CE (outer : List Env) (P : Program) (w : World) (H : Hp) (s : Shared) (Q : VK) (u : Value) (s' : Shared) : Prop :=
  ∃ v H',s'.os = s.os∧AllBare s'.gens∧Un (frs outer) [] H H' s.heap s'.heap∧HOk P w H' s'.heap∧RelV v u∧Q v H'
def CR (CX : CXT) (outer : List Env) (P : Program) (w : World) (H : Hp) (s : Shared) (Q : VK) (E : XK) (r : Result) (s' : Shared) : Prop :=
  match r with
  | .ok (.ret u) => CE outer P w H s Q u s'
  | .ok _ => False
  | .error e => CX outer H s E e s'
structure FnOk (P : Program) (w : World) (K : PySem.W.Frag) (mg : Str→Option Value) (base : Heap) (CX : CXT) (k : Nat) (f : Addr) (fd : FuncData) (ps : List Str) (sp : Sp) : Prop where
  len : ∀ vs H Q E,sp vs H Q E→vs.length = ps.length
  run : ∀ (A : Around) (outer : List Env) (s : Shared) (H : Hp) (args : Args) (us : List Value) (vs : List V) (Q : VK) (E : XK),Room k A→Env0 P w K mg base A outer s H→BindsTo s fd args (ps.zip us)→Vals vs us→sp vs H Q E →
    codeAny (model P w) A (.call (.ref f) args) (CR CX outer P w H s Q E) s
theorem FnOk.mono {P : Program} {w : World} {K : PySem.W.Frag} {mg : Str→Option Value} {base : Heap} {CX : CXT} {j k : Nat} {f : Addr} {fd : FuncData} {ps : List Str} {sp : Sp} (F : FnOk P w K mg base CX j f fd ps sp) (h : j≤k := by decide) :
    FnOk P w K mg base CX k f fd ps sp:=⟨F.len,fun A outer s H args us vs Q E hr => F.run A outer s H args us vs Q E (hr.mono h)⟩
theorem FnOk.imp {P : Program} {w : World} {K : PySem.W.Frag} {mg : Str→Option Value} {base : Heap} {CX : CXT} {k : Nat} {f : Addr} {fd : FuncData} {ps : List Str} {sp sp' : Sp} (F : FnOk P w K mg base CX k f fd ps sp)
    (h : ∀ vs H Q E,sp' vs H Q E→sp vs H Q E) : FnOk P w K mg base CX k f fd ps sp' :=
  ⟨fun vs H Q E q => F.len vs H Q E (h _ _ _ _ q),fun A outer s H args us vs Q E hr he hb hv hs => F.run A outer s H args us vs Q E hr he hb hv (h _ _ _ _ hs)⟩
section
variable {X : Cx} {pins : List (Addr×Obj)} {σ : St} {H : Hp} {s s' : Shared}
theorem Inv.env0 (I : Inv X pins σ H s) : Env0 X.prog X.w X.K X.mg X.base X.A X.stack s H :=
  ⟨I.ok.frames,I.ok.mod,I.bs,Nat.le_trans I.ok.bsz I.sz,I.stack,I.stkFree,I.hok,I.bare,I.kt⟩
theorem Inv.after {Q : VK} {u : Value} (I : Inv X pins σ H s) (h : CE X.stack X.prog X.w H s Q u s') : EP X pins σ Q u s' := by
  obtain ⟨v,H',os,bare,un,hok,r,q⟩:=h
  obtain ⟨hh,g,d,t,os'⟩:=s'
  obtain rfl : os' = s.os:=os
  exact ⟨v,H',I.call (h':=hh) (g':=g) (d':=d) (t':=t) (ch:=[]) un hok bare (fun b z => absurd z (by simp)),r,q⟩
end
def tCall (sp : Sp) (dvs : List V) (E : XK) (t : TA) : TE:=fun σ H Q => t σ H fun vs H1 => sp (vs ++ dvs) H1 Q E
def Binds (K : PySem.W.Frag) (fd : FuncData) (ps : List Str) (ds : List Value) : Prop :=
  ∀ (s : Shared) (us : List Value),K.In s.heap→(us ++ ds).length = ps.length→BindsTo s fd ⟨us,[]⟩ (ps.zip (us ++ ds))
theorem Binds.all {K : PySem.W.Frag} {fd : FuncData} {ps : List Str} (h : ∀ us : List Value,us.length = ps.length→bindArgs fd ⟨us,[]⟩ = pure (ps.zip us)) : Binds K fd ps []:=fun s us _ hl => by
  rw [List.append_nil] at hl ⊢
  exact .of_eq (h us hl)
def Passes (CX : CXT) (X : Cx) (E : XK) : Prop:=∀ (pins : List (Addr×Obj)) (σ : St) (H : Hp) (s : Shared) (e : Value) (s' : Shared),Inv X pins σ H s→CX X.stack H s E e s'→X.xe e s'
section
variable {X : Cx} {CX : CXT} {k : Nat} {f : Addr} {fd : FuncData} {ps : List Str} {sp : Sp} {dvs : List V} {ds : List Value} {E : XK} {x : Str} {p pos : Pos} {e : Expr} {es : List Expr}  {t : TA}
theorem run_fn {pins : List (Addr×Obj)} {σ : St} {H : Hp} {s : Shared} {Q : VK} {us : List Value} {vs : List V} (F : FnOk X.prog X.w X.K X.mg X.base CX k f fd ps sp) (hr : Room k X.A) (hb : Binds X.K fd ps ds) (hd : Vals dvs ds) (hx : Passes CX X E)
    (I : Inv X pins σ H s) (r : Vals vs us) (h : sp (vs ++ dvs) H Q E) : wpAny (model X.prog X.w) X.A (call (.ref f) us) (EP X pins σ Q) X.xe s := by
  have r2 : Vals (vs ++ dvs) (us ++ ds):=r.append hd
  have hl : (us ++ ds).length = ps.length := by rw [← r2.length]; exact F.len _ _ _ _ h
  refine wpAny_call (codeAny_mono (F.run X.A X.stack s H ⟨us,[]⟩ (us ++ ds) (vs ++ dvs) Q E hr I.env0 (hb s us I.kIn hl) r2 h) fun r s' hq => ?_)
  cases r with
  | error e => exact hx pins σ H s e s' I hq
  | ok fl =>
    cases fl with
    | ret u => exact I.after hq
    | next => exact False.elim hq
    | brk => exact False.elim hq
    | cont => exact False.elim hq
theorem pe_call (F : FnOk X.prog X.w X.K X.mg X.base CX k f fd ps sp) (hr : Room k X.A) (hg : Gl X x) (hm : X.mg x = some (.ref f)) (hk : PySem.W.keepIn X.K (.ref f) = true) (hb : Binds X.K fd ps ds) (hd : Vals dvs ds) (hx : Passes CX X E)
    (ha : PA X (e :: es) t) (hdb : (x == ("__debug__" : Str)) = false := by decide) (he : starEach (e :: es) X.env = (false,eval e X.env) :: starEach es X.env := by rfl) (hpl : (backTo pos (starEach es X.env)).any (·.1) = false := by rfl) :
    PE X (.Call (.Name x p) (e :: es) [] pos) (tCall sp dvs E t) := by
  intro pins s σ H Q I h
  refine wpAny_Call_Name_kw (ld_glob I hg hm ?_ hdb)
  refine PySem.W.callWith_K (h₀:=X.base) I.ok.mod.kin hk (thn (ha pos pins s σ H _ I h) fun us s1 ⟨vs,H1,I1,r,q⟩ => ⟨I1.kIn,?_⟩) he hpl
  exact run_fn F hr hb hd hx I1 r q
theorem pe_call0 (F : FnOk X.prog X.w X.K X.mg X.base CX k f fd ps sp) (hr : Room k X.A) (hg : Gl X x) (hm : X.mg x = some (.ref f)) (hk : PySem.W.keepIn X.K (.ref f) = true) (hb : Binds X.K fd ps ds) (hd : Vals dvs ds) (hx : Passes CX X E)
    (hdb : (x == ("__debug__" : Str)) = false := by decide) : PE X (.Call (.Name x p) [] [] pos) (tCall sp dvs E tNil) := by
  intro pins s σ H Q I h
  refine wpAny_Call_Name_kw (ld_glob I hg hm ?_ hdb)
  exact PySem.W.callWith_K0 I.kIn hk (run_fn (us:=[]) F hr hb hd hx I .nil h)
end
structure FnScope (N P : List Str) (sc : Scope) : Prop where
  kind : sc.kind = .function
  co : sc.isCoroutine = false
  gen : sc.isGenerator = false
  nd : N.Nodup
  pre : N.take P.length = P
  par : ∀ x∈P,sc.names.lookup x = some .local∨sc.names.lookup x = some .cell
  nofree : ∀ y∈sc.names,y.2≠.free
theorem bindL_out {kindOf : Str→Option NameKind} {x : Str} : ∀ {binds : List (Str×Value)} {m : Str→Option Value},(∀ v,(x,v) ∉ binds)→bindL kindOf binds m x = m x
  | [],_,_ => rfl
  | (n,v) :: r,m,h => by
    unfold bindL
    rw [bindL_out fun w hw => h w (List.mem_cons_of_mem _ hw)]
    split
    · have : x≠n := by rintro rfl; exact h v List.mem_cons_self
      simp [this]
    · rfl
theorem bindC_out {kindOf : Str→Option NameKind} {x : Str} : ∀ {binds : List (Str×Value)} {m : Str→Option Value},(∀ v,(x,v) ∉ binds)→bindC kindOf binds m x = m x
  | [],_,_ => rfl
  | (n,v) :: r,m,h => by
    unfold bindC
    rw [bindC_out fun w hw => h w (List.mem_cons_of_mem _ hw)]
    split
    · rfl
    · have : x≠n := by rintro rfl; exact h v List.mem_cons_self
      simp [this]
theorem bindL_get {kindOf : Str→Option NameKind} {x : Str} {v : Value} : ∀ {P : List Str} {vs : List Value} {i : Nat} {m : Str→Option Value},P.Nodup→P[i]? = some x→vs[i]? = some v→kindOf x = some .local →
    bindL kindOf (P.zip vs) m x = some v
  | [],_,_,_,_,h,_,_ => by simp at h
  | _ :: _,[],_,_,_,_,h,_ => by simp at h
  | p :: P,w :: vs,0,m,nd,h1,h2,hk => by
    simp at h1 h2; subst h1; subst h2
    show bindL kindOf ((p,w) :: P.zip vs) m p = _
    unfold bindL
    rw [bindL_out fun v hv => (List.nodup_cons.mp nd).1 (List.of_mem_zip hv).1,if_pos hk]
    simp
  | p :: P,w :: vs,i + 1,m,nd,h1,h2,hk => by
    show bindL kindOf ((p,w) :: P.zip vs) m x = _
    unfold bindL
    exact bindL_get (i:=i) (List.nodup_cons.mp nd).2 (by simpa using h1) (by simpa using h2) hk
theorem bindC_get {kindOf : Str→Option NameKind} {x : Str} {v : Value} : ∀ {P : List Str} {vs : List Value} {i : Nat} {m : Str→Option Value},P.Nodup→P[i]? = some x→vs[i]? = some v→kindOf x≠some .local →
    bindC kindOf (P.zip vs) m x = some v
  | [],_,_,_,_,h,_,_ => by simp at h
  | _ :: _,[],_,_,_,_,h,_ => by simp at h
  | p :: P,w :: vs,0,m,nd,h1,h2,hk => by
    simp at h1 h2; subst h1; subst h2
    show bindC kindOf ((p,w) :: P.zip vs) m p = _
    unfold bindC
    rw [bindC_out fun v hv => (List.nodup_cons.mp nd).1 (List.of_mem_zip hv).1,if_neg hk]
    simp
  | p :: P,w :: vs,i + 1,m,nd,h1,h2,hk => by
    show bindC kindOf ((p,w) :: P.zip vs) m x = _
    unfold bindC
    exact bindC_get (i:=i) (List.nodup_cons.mp nd).2 (by simpa using h1) (by simpa using h2) hk
def start (N : List Str) (vs : List V) : St:=vs.map some ++ List.replicate (N.length - vs.length) none
def cxOf (CX : CXT) (P : Program) (w : World) (K : PySem.W.Frag) (mg : Str→Option Value) (base : Heap) (N : List Str) (qual : Str) (scope : Scope) (f : Addr) (cd : Value) (A : Around) (outer : List Env) (s : Shared) (H : Hp) (E : XK) : Cx where
  prog:=P
  w:=w
  K:=K
  mg:=mg
  base := base
  A:=A.deeper (envOfC qual scope s.heap.objs.size f cd)
  N:=N
  s₀:=s
  H₀:=H
  env:=envOfC qual scope s.heap.objs.size f cd
  outer:=outer
  stack:=envOfC qual scope s.heap.objs.size f cd :: outer
  ex:=[]
  calm:=true
  fn:=fun _ => true
  pn:=[]
  xe:=fun e s' => wpAny (model P w) (A.deeper (envOfC qual scope s.heap.objs.size f cd)) (leaving (envOfC qual scope s.heap.objs.size f cd) e) (fun _ s'' => CX outer H s E e s'') (fun e' s'' => CX outer H s E e' s'') s'
theorem cell_has {sc : Scope} {n : Nat} {x : Str} (h : sc.names.lookup x = some .cell) : ∃ c,(cellsFrom n sc.names []).lookup x = some c := by
  have q:=PySem.W.cellsFrom_some sc.names n [] (.inl h)
  exact Option.isSome_iff_exists.mp q
theorem inv_start {CX : CXT} {P : Program} {w : World} {K : PySem.W.Frag} {mg : Str→Option Value} {base : Heap} {N ps : List Str} {qual : Str} {scope : Scope} {f : Addr} {cd : Value} {A : Around} {outer : List Env} {s s1 : Shared} {H : Hp} {E : XK} {us : List Value} {vs : List V}
    (S : FnScope N ps scope) (hd : A.handled = none) (e0 : Env0 P w K mg base A outer s H) (hl : vs.length = ps.length) (r : Vals vs us)
    (x : InCallC s s.heap.objs.size (bindL (envOfC qual scope s.heap.objs.size f cd).kindOf (ps.zip us) fun _ => none) (cellsFrom (s.heap.objs.size + 1) scope.names []) (bindC (envOfC qual scope s.heap.objs.size f cd).kindOf (ps.zip us) fun _ => none) s1) :
    Inv (cxOf CX P w K mg base N qual scope f cd A outer s H E) [] (start N vs) H s1 := by
  have hpl : ps.length≤N.length := by have:=congrArg List.length S.pre; rw [List.length_take] at this; lia
  obtain ⟨h1,tk,rfl,hk⟩:=x.done
  have noA : ∀ b : Addr,b ∉ (cxOf CX P w K mg base N qual scope f cd A outer s H E).ex:=fun b z => absurd (show b∈([] : List Addr) from z) (by simp)
  refine ⟨⟨e0.mod,S.kind,rfl,rfl,Nat.le_refl _,fun y z c h1 h2 => ?_,fun y hy => ?_,fun y c _ h => ?_,fun _ => hd,Around.frames_deeper e0.frames,.inr ⟨rfl,rfl⟩,fun b z => absurd z (noA b),e0.bs,e0.bsz,fun b _ _ => noA b,fun b z => absurd z (noA b),e0.funs,e0.frf,e0.kt⟩,
    rfl,e0.bare,Un.kept hk,⟨_,x.toInCall.ns,fun i y v h1 h2 h3 => ?_⟩,fun y c h => ⟨_,x.cell y c h⟩,e0.hok.fresh (Nat.le_refl _),fun y c h => ?_,fun p hp => absurd (show p∈([] : List (Addr×Obj)) from hp) (by simp),e0.hok.kept hk,?_⟩
  · exact name_of_addr x.apart (PySem.mem_of_lookup h1) (PySem.mem_of_lookup h2)
  · have hy : scope.names.lookup y = some .cell∨scope.names.lookup y = some .free:=hy
    rcases hy with hy | hy
    · exact cell_has hy
    · exact absurd rfl (S.nofree _ (PySem.mem_of_lookup hy))
  · exact Nat.le_of_lt (x.above y c (PySem.mem_of_lookup h))
  · have hi : i < vs.length := by
      unfold start at h2
      by_cases hi : i < vs.length
      · exact hi
      · rw [List.getElem?_append_right (by simpa using hi)] at h2
        rw [List.getElem?_replicate] at h2
        split at h2 <;> cases h2
    have ha : vs[i]? = some v := by
      unfold start at h2
      rw [List.getElem?_append_left (by simpa using hi),List.getElem?_map] at h2
      cases e : vs[i]? with
      | none => rw [e] at h2; cases h2
      | some a => rw [e] at h2; cases h2; rfl
    obtain ⟨u,hu,rv⟩:=r.get ha
    have hp : ps[i]? = some y := by
      rw [← S.pre,List.getElem?_take_of_lt (by lia)]; exact h1
    have ndP : ps.Nodup := by rw [← S.pre]; exact S.nd.sublist (List.take_sublist _ _)
    refine ⟨u,rv,?_⟩
    rcases S.par y (List.mem_of_getElem? hp) with k | k
    · exact .inl ⟨k,bindL_get ndP hp hu k⟩
    · obtain ⟨c,e⟩:=cell_has (n:=s.heap.objs.size + 1) k
      refine .inr ⟨.inl k,c,e,?_⟩
      have q:=x.cell y c e
      rw [bindC_get ndP hp hu (by show scope.names.lookup y≠_; rw [k]; decide)] at q
      exact q
  · exact e0.hok.fresh (Nat.le_of_lt (x.above y c (PySem.mem_of_lookup h)))
  · unfold start
    show _ = N.length
    rw [List.length_append,List.length_map,List.length_replicate]
    lia
theorem fn_of {CX : CXT} {P : Program} {w : World} {K : PySem.W.Frag} {mg : Str→Option Value} {base : Heap} {k : Nat} {f : Addr} {name qual : Str} {params : Arguments} {body : List Stmt} {scope : Scope} {dV kV doc pm cdv ct oc : Value} {an od : Option Addr}
    {osl : Array (Option Value)} {N ps : List Str} {sp : Sp} (lk : K.lookup f = some ⟨oc,od,.func (PySem.W.fnOf name qual params body scope dV kV doc pm an cdv ct),osl⟩) (hcd : PySem.W.codeIn K cdv qual = true) (S : FnScope N ps scope)
    (len : ∀ vs H Q E,sp vs H Q E→vs.length = ps.length)
    (hbody : ∀ (A : Around) (outer : List Env) (s : Shared) (H : Hp) (vs : List V) (Q : VK) (E : XK),Room k (A.deeper (envOfC qual scope s.heap.objs.size f cdv))→sp vs H Q E →
      ∃ t,PSs (cxOf CX P w K mg base N qual scope f cdv A outer s H E) body t∧t { nx:=fun _ H' => Q .non H',rt:=Q } (start N vs) H) :
    FnOk P w K mg base CX (k + 1) f (PySem.W.fnOf name qual params body scope dV kV doc pm an cdv ct) ps sp := by
  refine ⟨len,fun A outer s H args us vs Q E hr e0 hb r hsp => ?_⟩
  have hl:=len _ _ _ _ hsp
  have KX : K.In s.heap:=e0.mod.kin.keeps fun b o e => (e0.bs b o e).1
  have lim : s.heap.NoLimit:=e0.mod.nolimit.keeps fun b o e => (e0.bs b o e).1
  have hkind : ∀ y∈ps.zip us,scope.names.lookup y.1 = some .local∨(scope.names.lookup y.1 = some .cell∧((cellsFrom (s.heap.objs.size + 1) scope.names []).lookup y.1).isSome = true):=fun ⟨n,v⟩ hy => by
    rcases S.par n (List.of_mem_zip hy).1 with q | q
    · exact .inl q
    · exact .inr ⟨q,PySem.W.cellsFrom_some _ _ _ (.inl q)⟩
  refine codeAny_call_function hr.depth (KX _ _ lk) rfl S.co S.gen rfl (PySem.W.codeRec_of KX hcd) (hb _ _ _ _ ?_)
  refine wpAny_newFunctionEnv_cells S.kind hkind fun env he s1 x => ?_
  subst he
  refine ⟨lim.keeps x.toInCall.keep,codeAny_func ?_⟩
  obtain ⟨t,ht,hq⟩:=hbody A outer s H vs Q E (hr.deeper _) hsp
  have I : Inv (cxOf CX P w K mg base N qual scope f cdv A outer s H E) [] (start N vs) H s1:=inv_start S hr.hd e0 hl r x
  refine wpAny_mono (ht [] s1 (start N vs) H _ I hq) (fun fl s' hs => ?_) fun e s' hs => hs
  have fin : ∀ {σ' : St} {H' : Hp} {v : V} {u : Value},Inv (cxOf CX P w K mg base N qual scope f cdv A outer s H E) [] σ' H' s'→RelV v u→Q v H'→CE outer P w H s Q u s' :=
    fun {σ' H' v u} J rv q => ⟨v,H',J.os,J.bare,J.base,J.hok,rv,q⟩
  cases fl with
  | ret u =>
    obtain ⟨v,σ',H',J,rv,q⟩:=hs
    exact fin J rv q
  | next =>
    obtain ⟨σ',H',J,q⟩:=hs
    exact fin (v:=V.non) (u:=Value.none) J rfl q
  | brk =>
    obtain ⟨_,_,_,q⟩:=hs
    exact False.elim q
  | cont =>
    obtain ⟨_,_,_,q⟩:=hs
    exact False.elim q
section
variable {X : Cx} {x : Str} {p pos : Pos} {e : Expr} {es : List Expr} {t : TA} {id T : String} {r : List V→Hp→VK→Prop}
def tCB (r : List V→Hp→VK→Prop) (t : TA) : TE:=fun σ H Q => t σ H fun vs H1 => r vs H1 Q
theorem pe_callB (hc : CallR X (.builtin id) r) (hg : Gl X x) (hm : X.mg x = none) (hv : bootBuiltins x = some (.builtin id)) (ha : PA X (e :: es) t) (hn : x ≠ "__name__" := by decide) (hdb : (x == ("__debug__" : Str)) = false := by decide)
    (he : starEach (e :: es) X.env = (false,eval e X.env) :: starEach es X.env := by rfl) (hpl : (backTo pos (starEach es X.env)).any (·.1) = false := by rfl) : PE X (.Call (.Name x p) (e :: es) [] pos) (tCB r t) := by
  intro pins s σ H Q I h
  refine wpAny_Call_Name_kw (ld_blt I hg hm hv ?_ hn hdb)
  exact PyProof.Rows.callWith_builtin1 (thn (ha pos pins s σ H _ I h) fun us s1 ⟨vs,H1,I1,r1,q1⟩ => hc pins s1 σ H1 vs us Q I1 r1 q1) he hpl
theorem pe_callTy (hc : CallR X (.type T) r) (hg : Gl X x) (hm : X.mg x = none) (hv : bootBuiltins x = some (.type T)) (ha : PA X (e :: es) t) (hn : x ≠ "__name__" := by decide) (hdb : (x == ("__debug__" : Str)) = false := by decide)
    (he : starEach (e :: es) X.env = (false,eval e X.env) :: starEach es X.env := by rfl) (hpl : (backTo pos (starEach es X.env)).any (·.1) = false := by rfl) : PE X (.Call (.Name x p) (e :: es) [] pos) (tCB r t) := by
  intro pins s σ H Q I h
  refine wpAny_Call_Name_kw (ld_blt I hg hm hv ?_ hn hdb)
  exact PyProof.Rows.callWith_type1 (thn (ha pos pins s σ H _ I h) fun us s1 ⟨vs,H1,I1,r1,q1⟩ => hc pins s1 σ H1 vs us Q I1 r1 q1) he hpl
end
end L2
namespace HT
open PySem PyProof.Rows
section
variable {prog : Program} {w : World} {A : Around} {E : Value→Shared→Prop} {s : Shared}
theorem cat_tup {t b : Addr} {vs ws : List Value} {Q : Value→Shared→Prop} (ht : IsTup s.heap t vs.toArray) (hb : IsTup s.heap b ws.toArray) (hv : vs≠[])
    (h1 : ws = []→Q (.ref t) s) (h2 : ws≠[]→Q (.ref s.heap.objs.size) { s with heap:=s.heap.push { cls:=.type "tuple",data:=.seq (vs ++ ws).toArray } })
    (hsz : vs.length + ws.length≤sizeLine) : wpAny (model prog w) A (binaryOp .Add (.ref t) (.ref b)) Q E s := by
  obtain ⟨⟨cls,dd,data,sl⟩,ho,hc,n,hd⟩:=id ht
  obtain ⟨⟨cls2,dd2,data2,sl2⟩,ho2,hc2,n2,hd2⟩:=id hb
  simp only at hc hd hc2 hd2
  subst hc hd hc2 hd2
  have e : vs.toArray ++ ws.toArray = (vs ++ ws).toArray := by simp
  by_cases hw : ws = []
  · exact concat_meets ⟨_,ho,rfl⟩ ⟨_,ho2,rfl⟩ noFill_tuple_add seq_tuple_add PySem.F.slot_tuple_add PySem.F.entry_tuple_add (PySem.F.args_tuple_add_2 _ _)
      (tuple_addW1 t b vs.toArray ws.toArray n n2 dd dd2 sl sl2 (by simpa using hv) (by simp [hw])) ⟨ho,ho2,h1 hw⟩
  · refine concat_meets ⟨_,ho,rfl⟩ ⟨_,ho2,rfl⟩ noFill_tuple_add seq_tuple_add PySem.F.slot_tuple_add PySem.F.entry_tuple_add (PySem.F.args_tuple_add_2 _ _)
      (tuple_addW2 t b vs.toArray ws.toArray n n2 dd dd2 sl sl2 (by simpa using hv) (by simpa using hw) (by rw [List.size_toArray,List.size_toArray]; exact hsz)) ⟨ho,ho2,?_⟩
    rw [e]
    exact h2 hw
def sIx (n d : Nat) : Option Int→Nat
  | none => d
  | some v => if v < 0 then (v + (n : Int)).toNat else min v.toNat n
theorem sIx_none (n d : Nat) : sIx n d none = d:=rfl
theorem sIx_nat (n d k : Nat) : sIx n d (some (k : Int)) = min k n := by
  show (if (k : Int) < 0 then ((k : Int) + (n : Int)).toNat else min (k : Int).toNat n) = min k n
  rw [if_neg (by lia),Int.toNat_natCast]
end
end HT
namespace L2
open PySem PySem.Spec PyProof.Rows
abbrev TO:=St→Hp→(Option Int→Hp→Prop)→Prop
def PO (X : Cx) (e : Option Expr) (t : TO) : Prop :=
  ∀ (pins : List (Addr×Obj)) (s : Shared) (σ : St) (H : Hp) (Q : Option Int→Hp→Prop),Inv X pins σ H s→t σ H Q →
    wpAny (model X.prog X.w) X.A (evalPart e X.env) (fun u s' => ∃ o H',Inv X pins σ H' s'∧IsPart u o∧Q o H') X.xe s
def tNoPart : TO:=fun _ H Q => Q none H
def tPart (t : TE) : TO:=fun σ H Q => t σ H fun x H1 => ∃ i,x = .int i∧Q (some i) H1
section
variable {X : Cx} {e : Expr} {te : TE} {lo hi : Option Expr} {tl th : TO} {pos p2 : Pos}
theorem po_none : PO X none tNoPart := by
  intro pins s σ H Q I h
  rw [evalPart_none]
  exact wpAny_pure ⟨none,H,I,.none,h⟩
theorem po_some (h : PE X e te) : PO X (some e) (tPart te) := by
  intro pins s σ H Q I hw
  rw [evalPart_some]
  refine thn (h pins s σ H _ I hw) fun u s1 ⟨x,H1,I1,r1,q1⟩ => ?_
  obtain ⟨i,rfl,q⟩:=q1
  obtain ⟨t,rfl⟩:=r1
  exact ⟨some i,H1,I1,.int i t,q⟩
def SlR (X : Cx) (r : V→Option Int→Option Int→Hp→VK→Prop) : Prop :=
  ∀ (pins : List (Addr×Obj)) (s : Shared) (σ : St) (H : Hp) (x : V) (v vl vu : Value) (lo hi : Option Int) (sl : Addr) (Q : VK),Inv X pins σ H s→RelV x v→s.heap.IsSliceOf sl vl vu .none→IsPart vl lo→IsPart vu hi→r x lo hi H Q →
    ∃ T id,typeLookup (.type T) "__getitem__" = pure (some (.builtin id))∧s.TypeIs v T∧wpAny (model X.prog X.w) X.A (getItem v (.ref sl)) (EP X pins σ Q) X.xe s
def tSl (r : V→Option Int→Option Int→Hp→VK→Prop) (te : TE) (tl th : TO) : TE:=fun σ H Q => te σ H fun x H1 => tl σ H1 fun l H2 => th σ H2 fun u H3 => r x l u H3 Q
theorem pe_slice {r : V→Option Int→Option Int→Hp→VK→Prop} (hr : SlR X r) (he : PE X e te) (hl : PO X lo tl) (hu : PO X hi th) : PE X (.Subscript e (.Slice lo hi none p2) pos) (tSl r te tl th) := by
  intro pins s σ H Q I h
  refine Subscript_ (thn (he pins s σ H _ I h) fun v s1 ⟨x,H1,I1,r1,q1⟩ => ?_)
  refine wpAny_Slice (thn (hl pins s1 σ H1 _ I1 q1) fun vl s2 ⟨l,H2,I2,pl,q2⟩ => thn (hu pins s2 σ H2 _ I2 q2) fun vu s3 ⟨u,H3,I3,pu,q3⟩ => ?_)
  rw [evalPart_none]
  refine wpAny_pure ?_
  have I4 : Inv X pins σ H3 { s3 with heap:=s3.heap.push { cls:=.type "slice",data:=.fields #[vl,vu,.none] } }:=I3.kept (t':=s3.toks) fun b ob q => Heap.get?_push_of_some _ q
  obtain ⟨T,id,hT,ht,hg⟩:=hr pins { s3 with heap:=s3.heap.push { cls:=.type "slice",data:=.fields #[vl,vu,.none] } } σ H3 x v vl vu l u s3.heap.objs.size Q I4 r1 (Heap.IsSliceOf.new ..) pl pu q3
  show wpAny (model X.prog X.w) X.A (subscriptTail e (.Slice lo hi none p2) v (.ref s3.heap.objs.size)) (EP X pins σ Q) X.xe { s3 with heap:=s3.heap.push { cls:=.type "slice",data:=.fields #[vl,vu,.none] } }
  exact tail_any (ops:=[.ref s3.heap.objs.size,v]) ht hT hg (by with_unfolding_all rfl)
def cutV (xs : List V) (lo hi : Option Int) : List V:=(xs.drop (HT.sIx xs.length 0 lo)).take (HT.sIx xs.length xs.length hi - HT.sIx xs.length 0 lo)
theorem cutV_length (xs : List V) (lo hi : Option Int) : (cutV xs lo hi).length≤xs.length := by
  unfold cutV
  rw [List.length_take,List.length_drop]
  lia
theorem Vals.nil_iff {xs : List V} {us : List Value} (r : Vals xs us) : us = [] ↔ xs = [] := by
  cases r with
  | nil => simp
  | cons _ _ => simp
end
def ixN (n : Nat) (i : Int) : Option Nat:=if 0≤i then (if i < n then some i.toNat else none) else if -(n : Int)≤i then some (i + n).toNat else none
def atI {α : Type} (xs : List α) (i : Int) : Option α:=(ixN xs.length i).bind fun j => xs[j]?
theorem ixN_seq {n : Nat} {i : Int} {j : Nat} (h : ixN n i = some j) : seqIndex? i n = some j∧j < n∧-(n : Int)≤i∧i < n := by
  unfold ixN at h
  by_cases h0 : 0≤i
  · rw [if_pos h0] at h
    by_cases h1 : i < n
    · rw [if_pos h1] at h
      have e : i.toNat = j:=Option.some.inj h
      exact ⟨by rw [seqIndex_of h0 h1,e],by lia,by lia,h1⟩
    · rw [if_neg h1] at h; cases h
  · rw [if_neg h0] at h
    by_cases h1 : -(n : Int)≤i
    · rw [if_pos h1] at h
      have e : (i + n).toNat = j:=Option.some.inj h
      exact ⟨by rw [seqIndex_neg (by lia) h1,e],by lia,h1,by lia⟩
    · rw [if_neg h1] at h; cases h
theorem atI_get {α : Type} {xs : List α} {i : Int} {v : α} (h : atI xs i = some v) : ∃ j,seqIndex? i xs.length = some j∧xs[j]? = some v∧j < xs.length∧-(xs.length : Int)≤i∧i < xs.length := by
  unfold atI at h
  cases e : ixN xs.length i with
  | none => rw [e] at h; cases h
  | some j =>
    rw [e] at h
    obtain ⟨h1,h2,h3,h4⟩:=ixN_seq e
    exact ⟨j,h1,h,h2,h3,h4⟩
theorem atI_nat {α : Type} {xs : List α} {j : Nat} {v : α} (h : xs[j]? = some v) : atI xs (j : Int) = some v := by
  have hj : j < xs.length:=(List.getElem?_eq_some_iff.mp h).1
  have e : ixN xs.length (j : Int) = some j := by
    unfold ixN
    rw [if_pos (by lia),if_pos (by lia)]; simp
  unfold atI; rw [e]; exact h
def PlainIx (b : Expr) : Prop:=∀ o i,subscripted b false o i = operate [o,i] (getItem o i)
def IxR (X : Cx) (r : R2) : Prop :=
  ∀ (value slice : Expr) (pins : List (Addr×Obj)) (s : Shared) (σ : St) (H : Hp) (x y : V) (v u : Value) (Q : VK),Inv X pins σ H s→RelV x v→RelV y u→r x y H Q →
    subscripted slice false v u = operate [v,u] (getItem v u)→wpAny (model X.prog X.w) X.A (subscriptTail value slice v u) (EP X pins σ Q) X.xe s
def MtR (X : Cx) (id : String) (r : V→List V→Hp→VK→Prop) : Prop :=
  ∀ (pins : List (Addr×Obj)) (s : Shared) (σ : St) (H : Hp) (x : V) (xs : List V) (v : Value) (us : List Value) (Q : VK),Inv X pins σ H s→RelV x v→Vals xs us→r x xs H Q →
    wpAny (model X.prog X.w) X.A (call (.builtin id) (v :: us)) (EP X pins σ Q) X.xe s
section
variable {X : Cx} {a b : Expr} {ta tb : TE} {pos : Pos}
theorem IxR.or {r r' : R2} (h : IxR X r) (h' : IxR X r') : IxR X (fun x y H Q => r x y H Q∨r' x y H Q) := by
  intro value slice pins s σ H x y v u Q I rx ry q hs
  rcases q with q | q
  · exact h value slice pins s σ H x y v u Q I rx ry q hs
  · exact h' value slice pins s σ H x y v u Q I rx ry q hs
theorem pe_ix {r : R2} (hr : IxR X r) (ha : PE X a ta) (hb : PE X b tb) (hs : PlainIx b) : PE X (.Subscript a b pos) (tOp r ta tb) := by
  intro pins s σ H Q I h
  exact Subscript_ (binT ha hb I h fun v u s2 x y H2 I2 rx ry q => hr a b pins s2 σ H2 x y v u Q I2 rx ry q (hs _ _))
def rIxL (K : PySem.W.Frag) : R2:=fun x y H Q => ∃ p xs i v,x = .ref p∧y = .int i∧SqL K H p xs∧atI xs i = some v∧Q v H
def rIxT (K : PySem.W.Frag) : R2:=fun x y H Q => ∃ p xs i v,x = .ref p∧y = .int i∧SqT K H p xs∧atI xs i = some v∧Q v H
def rIxS : R2:=fun x y H Q => ∃ z i c,x = .str z∧y = .int i∧z.length≤sizeLine∧atI z.cps.toList i = some c∧Q (.str ⟨#[c]⟩) H
theorem ix_list : IxR X (rIxL X.K) := by
  intro value slice pins s σ H x y v u Q I rx ry h hs
  obtain ⟨p,xs,i,z,rfl,rfl,hq,he,q⟩:=h
  cases rx
  obtain ⟨t,rfl⟩:=ry
  obtain ⟨its,r,pl,hz⟩:=I.list hq
  obtain ⟨j,h1,h2,h3,h4,h5⟩:=atI_get he
  obtain ⟨w,ew,rw'⟩:=r.get h2
  have hl:=r.length
  have hn:=line63
  have fin : EP X pins σ Q w s:=⟨z,H,I,rw',q⟩
  by_cases h0 : 0≤i
  · have hj : i.toNat = j := by
      rw [seqIndex_of h0 h5] at h1
      exact Option.some.inj h1
    exact item_listR pl.isList h0 (by lia) (by rw [hj]; simpa using ew) fin hs
  · have hj : (i + (its.toArray.size : Int)).toNat = j := by
      rw [seqIndex_neg (by lia) h4] at h1
      rw [List.size_toArray,← hl]
      exact Option.some.inj h1
    exact subscriptTail_builtinR (x:=w) pl.isList.typeIs slot_list_getitem.lookup
      (wpAny_getItem_list_neg (Q:=fun r s' => r = w∧EP X pins σ Q r s') pl.isList (by lia) (by rw [List.size_toArray] <;> lia) (by lia) (by rw [hj]; simpa using ew) ⟨rfl,fin⟩) hs
theorem ix_tup : IxR X (rIxT X.K) := by
  intro value slice pins s σ H x y v u Q I rx ry h hs
  obtain ⟨p,xs,i,z,rfl,rfl,hq,he,q⟩:=h
  cases rx
  obtain ⟨t,rfl⟩:=ry
  obtain ⟨its,r,pl,hz⟩:=I.tuple hq
  obtain ⟨j,h1,h2,h3,h4,h5⟩:=atI_get he
  obtain ⟨w,ew,rw'⟩:=r.get h2
  have hl:=r.length
  have hn:=line63
  have fin : EP X pins σ Q w s:=⟨z,H,I,rw',q⟩
  exact subscriptTail_builtinR (x:=w) pl.typeIs slot_tuple_getitem.lookup
    (getItem_tuple (j:=j) (Q:=fun r s' => r = w∧EP X pins σ Q r s') pl (by lia) (by lia) (by rw [List.size_toArray,← hl]; exact h1) (by simpa using ew) ⟨rfl,fin⟩) hs
theorem ix_str : IxR X rIxS := by
  intro value slice pins s σ H x y v u Q I rx ry h hs
  obtain ⟨z,i,c,rfl,rfl,hz,he,q⟩:=h
  obtain ⟨t,rfl⟩:=rx
  obtain ⟨t',rfl⟩:=ry
  obtain ⟨j,h1,h2,h3,h4,h5⟩:=atI_get he
  have hl : z.cps.toList.length = z.length := by simp [Str.length]
  rw [hl] at h1 h4 h5
  have hn:=line63
  exact tail_any (typeIs_str s z t) slot_str_getitem.lookup (getItem_str (c:=c) (by
    have e1 : decide (i < -(2 ^ 63 : Int)) = false:=decide_eq_false (by lia)
    have e2 : decide (i ≥ 2 ^ 63) = false:=decide_eq_false (by lia)
    rw [e1,e2,Bool.or_false]) (by rw [h1]; simpa using h2) ⟨.str ⟨#[c]⟩,H,I.tok _,⟨_,rfl⟩,q⟩) hs
def rIx (K : PySem.W.Frag) : R2:=fun x y H Q => rIxL K x y H Q∨rIxT K x y H Q∨rIxS x y H Q
theorem ix_seq : IxR X (rIx X.K):=ix_list.or (ix_tup.or ix_str)
theorem mapSeq_set (its : List Value) (n j : Nat) (u : Value) : Obj.mapSeq (·.setIfInBounds j u) { cls:=.type "list",data:=.seq its.toArray n } = { cls:=.type "list",data:=.seq (its.set j u).toArray n } := by
  simp [Obj.mapSeq]
theorem Inv.lst {pins : List (Addr×Obj)} {σ : St} {H : Hp} {s : Shared} {p : Addr} {xs : List V} (I : Inv X pins σ H s) (h : H p = some (.lst xs)) :
    ∃ (its : List Value) (n : Nat),Vals xs its∧s.heap.get? p = some { cls:=.type "list",data:=.seq its.toArray n }∧xs.length≤sizeLine := by
  obtain ⟨z,its,n,r,e⟩:=I.hok p _ h
  exact ⟨its,n,r,e,z⟩
theorem Inv.lstUpd {pins : List (Addr×Obj)} {σ : St} {H : Hp} {s : Shared} {p : Addr} {xs ys : List V} {its its' : List Value} {n n' : Nat} {f : Obj→Obj} (I : Inv X pins σ H s) (h : H p = some (.lst xs))
    (ho : s.heap.get? p = some { cls:=.type "list",data:=.seq its.toArray n }) (hf : f { cls:=.type "list",data:=.seq its.toArray n } = { cls:=.type "list",data:=.seq its'.toArray n' }) (r : Vals ys its') (hz : ys.length≤sizeLine) (t : Nat) :
    Inv X pins σ (upd H p (.lst ys)) { s with heap:=s.heap.update p f,toks:=t } := by
  have e : (s.heap.update p f).get? p = some { cls:=.type "list",data:=.seq its'.toArray n' } := by
    rw [Heap.get?_update_self f ho (by rw [hf] <;> rfl),hf]
  refine I.write (x:=p) (e:=p) (by rw [h]; trivial) (.inl rfl) (fun b u hb q => (Heap.get?_update_other _ _ (Ne.symm hb)).trans q) ⟨_,e⟩ ?_
  exact ⟨hz,its',n',r,e⟩
def rSetL : V→V→V→Hp→(Hp→Prop)→Prop:=fun o i v H Q => ∃ p xs k j,o = .ref p∧i = .int k∧H p = some (.lst xs)∧ixN xs.length k = some j∧Q (upd H p (.lst (xs.set j v)))
theorem set_list : PSet X rSetL := by
  intro pins s σ H o i v ov iv u Q I ro ri rv h
  obtain ⟨p,xs,k,j,rfl,rfl,hp,hj,q⟩:=h
  cases ro
  obtain ⟨t,rfl⟩:=ri
  obtain ⟨its,n,r,ho,hz⟩:=I.lst hp
  obtain ⟨h1,h2,h3,h4⟩:=ixN_seq hj
  have hl:=r.length
  have hn:=line63
  have I' : Inv X pins σ (upd H p (.lst (xs.set j v))) { s with heap:=s.heap.update p (Obj.mapSeq (·.setIfInBounds j u)) } :=
    I.lstUpd hp ho (mapSeq_set its n j u) (r.set rv j) (by rw [List.length_set]; exact hz) s.toks
  by_cases h0 : 0≤k
  · have hk : k.toNat = j := by
      rw [seqIndex_of h0 h4] at h1
      exact Option.some.inj h1
    exact PySem.W.ki_setAt ho h0 (by lia) (by rw [List.size_toArray,← hl]; exact h4) (by rw [hk]; exact ⟨_,I',q⟩)
  · have hk : (k + (its.toArray.size : Int)).toNat = j := by
      rw [seqIndex_neg (by lia) h3] at h1
      rw [List.size_toArray,← hl]
      exact Option.some.inj h1
    exact PySem.W.ki_setBack ho (by lia) (by rw [List.size_toArray,← hl]; exact h3) (by lia) (by rw [hk]; exact ⟨_,I',q⟩)
theorem slice_bounds (lo hi : Option Int) (n : Nat) : (sliceBounds lo hi none n).1 = ((HT.sIx n 0 lo : Nat) : Int)∧(sliceBounds lo hi none n).2.1 = ((HT.sIx n n hi : Nat) : Int)∧(sliceBounds lo hi none n).2.2 = 1 := by
  refine ⟨?_,?_,rfl⟩
  · cases lo with
    | none => simp [sliceBounds,HT.sIx]
    | some i =>
      simp only [sliceBounds,HT.sIx,Option.getD_none,show (1 : Int) > 0 by decide,if_true]
      by_cases h : i < 0
      · simp only [h,if_true] <;> lia
      · simp only [h,if_false] <;> lia
  · cases hi with
    | none => simp [sliceBounds,HT.sIx]
    | some i =>
      simp only [sliceBounds,HT.sIx,Option.getD_none,show (1 : Int) > 0 by decide,if_true]
      by_cases h : i < 0
      · simp only [h,if_true] <;> lia
      · simp only [h,if_false] <;> lia
theorem slicePick_cut (its : List Value) (lo hi : Option Int) : slicePick its.toArray lo hi none = ((its.drop (HT.sIx its.length 0 lo)).take (HT.sIx its.length its.length hi - HT.sIx its.length 0 lo)).toArray := by
  obtain ⟨h1,h2,h3⟩:=slice_bounds lo hi its.toArray.size
  unfold slicePick
  rw [h1,h2,h3]
  simp only [sliceRange_one,pick_run,List.size_toArray] <;> rfl
def rSlL (K : PySem.W.Frag) : V→Option Int→Option Int→Hp→VK→Prop:=fun x lo hi H Q => ∃ a xs,x = .ref a∧SqL K H a xs∧∀ p,H p = none→Q (.ref p) (upd H p (.lst (cutV xs lo hi)))
theorem sl_list : SlR X (rSlL X.K) := by
  intro pins s σ H x v vl vu lo hi sl Q I rx hs pl pu h
  obtain ⟨a,xs,rfl,hx,q⟩:=h
  cases rx
  obtain ⟨its,r,ht,hz⟩:=I.list hx
  have hlen:=r.length
  refine ⟨"list",_,slot_list_getitem.lookup,ht.isList.typeIs,?_⟩
  refine wpAny_getItem_list_slice ht.isList hs pl pu .none (by simp) ?_ (by rw [List.size_toArray] <;> lia)
  rw [slicePick_cut,← hlen]
  refine ⟨.ref s.heap.objs.size,_,I.laid (t':=s.toks) (o:=.lst (cutV xs lo hi)) (fun b ob q => Heap.get?_push_of_some _ q) (Nat.le_refl _) ?_,rfl,q _ (I.hok.fresh (Nat.le_refl _))⟩
  exact ⟨Nat.le_trans (cutV_length xs lo hi) hz,_,0,(r.drop (HT.sIx xs.length 0 lo)).take (HT.sIx xs.length xs.length hi - HT.sIx xs.length 0 lo),Heap.get?_push_size _ rfl⟩
theorem call_len_seq : CallR X (.builtin "len") (fun xs H Q => ∃ p ys,xs = [.ref p]∧(SqL X.K H p ys∨SqT X.K H p ys)∧Q (.int ys.length) H) := by
  intro pins s σ H xs us Q I r h
  obtain ⟨p,ys,rfl,hq,q⟩:=h
  obtain ⟨u,rfl,rx⟩:=vals1 r
  cases rx
  have hn:=line63
  rcases hq with hq | hq
  · obtain ⟨its,r',pl,hz⟩:=I.list hq
    have hlen:=r'.length
    exact Calls.call_len_list pl.isList (by simp only [List.size_toArray] <;> lia) ⟨.int ys.length,H,I.tok _,⟨s.toks + 1,by rw [List.size_toArray,hlen]⟩,q⟩
  · obtain ⟨its,r',pl,hz⟩:=I.tuple hq
    have hlen:=r'.length
    exact len_tuple pl (by simp only [List.size_toArray] <;> lia) ⟨.int ys.length,H,I.tok _,⟨s.toks + 1,by rw [List.size_toArray,hlen]⟩,q⟩
theorem call_len_str : CallR X (.builtin "len") (fun xs H Q => ∃ z,xs = [.str z]∧z.length≤sizeLine∧Q (.int z.length) H) := by
  intro pins s σ H xs us Q I r h
  obtain ⟨z,rfl,hz,q⟩:=h
  obtain ⟨u,rfl,t,rfl⟩:=vals1 r
  have hn:=line63
  exact len_str (by lia) ⟨.int z.length,H,I.tok _,⟨_,rfl⟩,q⟩
theorem call_list_of : CallR X (.type "list") (fun xs H Q => ∃ p ys,xs = [.ref p]∧(SqL X.K H p ys∨SqT X.K H p ys)∧∀ l,H l = none→Q (.ref l) (upd H l (.lst ys))) := by
  intro pins s σ H xs us Q I r h
  obtain ⟨p,ys,rfl,hq,q⟩:=h
  obtain ⟨u,rfl,rx⟩:=vals1 r
  cases rx
  have fin : ∀ (its : List Value),Vals ys its→ys.length≤sizeLine→∀ (h' : Heap) (c' : Nat),(∀ b o',s.heap.get? b = some o'→h'.get? b = some o') →
      h'.get? s.heap.objs.size = some { cls:=.type "list",dict:=none,data:=.seq its.toArray c',slots:=#[] }→EP X pins σ Q (.ref s.heap.objs.size) { s with heap:=h' }:=fun its r' hz h' c' kp e =>
    ⟨.ref s.heap.objs.size,_,I.laid (t':=s.toks) kp (Nat.le_refl _) (show ObjOk X.prog X.w _ h' _ (.lst ys) from ⟨hz,its,c',r',e⟩),rfl,q _ (I.hok.fresh (Nat.le_refl _))⟩
  rcases hq with hq | hq
  · obtain ⟨its,r',pl,hz⟩:=I.list hq
    have hlen:=r'.length
    obtain ⟨o,ho,hc,n,hd⟩:=pl.isList
    exact call_list_seq p (.inl rfl) ho hc hd (fun h' c' kp e => fin its r' hz h' c' kp e) (by simp only [List.size_toArray] <;> lia)
  · obtain ⟨its,r',pl,hz⟩:=I.tuple hq
    have hlen:=r'.length
    obtain ⟨o,ho,hc,n,hd⟩:=pl
    exact call_list_seq p (.inr rfl) ho hc hd (fun h' c' kp e => fin its r' hz h' c' kp e) (by simp only [List.size_toArray] <;> lia)
def tyV (K : PySem.W.Frag) (T : String) (x : V) (H : Hp) : Prop:=match x with
  | .str _ => T = "str"
  | .int _ => T = "int"
  | .ref p => (T = "list" ∧ ∃ xs,SqL K H p xs)∨(T = "tuple" ∧ ∃ o,K.lookup p = some o∧o.cls = .type "tuple" ∧ o.dict = none) ∨
      (T = "dict" ∧ ((∃ kvs,H p = some (.dK kvs))∨∃ kvs,H p = some (.dT kvs)))∨(T = "set" ∧ ∃ S n,H p = some (.set S n))
  | _ => False
theorem tyV_is {pins : List (Addr×Obj)} {σ : St} {H : Hp} {s : Shared} {T : String} {x : V} {v : Value} (I : Inv X pins σ H s) (r : RelV x v) (ty : tyV X.K T x H) :
    s.TypeIs v T∧∀ a,v = .ref a→∃ ob,s.heap.get? a = some ob∧ob.dict = none := by
  cases x with
  | str z =>
    obtain ⟨t,rfl⟩:=r
    cases (show T = "str" from ty)
    exact ⟨typeIs_str s z t,fun _ e => nomatch e⟩
  | int i =>
    obtain ⟨t,rfl⟩:=r
    cases (show T = "int" from ty)
    exact ⟨typeIs_int s i t,fun _ e => nomatch e⟩
  | ref p =>
    cases r
    rcases ty with ⟨rfl,xs,hq⟩ | ⟨rfl,o,hk,hc,hd⟩ | ⟨rfl,hk⟩ | ⟨rfl,S,n,hk⟩
    · obtain ⟨its,_,pl,_⟩:=I.list hq
      refine ⟨pl.isList.typeIs,fun a e => ?_⟩
      cases e
      obtain ⟨o,n,e,c,hd,_⟩:=pl
      exact ⟨o,e,hd⟩
    · refine ⟨⟨o,I.kIn p o hk,hc⟩,fun a e => ?_⟩
      cases e
      exact ⟨o,I.kIn _ o hk,hd⟩
    · have z : ∃ o,s.heap.get? p = some o∧o.ExactDict := by
        rcases hk with ⟨kvs,hk⟩ | ⟨kvs,hk⟩
        · obtain ⟨_,_,_,_,o,_,_,e,ex,_⟩:=I.hok p _ hk
          exact ⟨o,e,ex⟩
        · obtain ⟨_,_,_,_,o,_,_,e,ex,_⟩:=I.hok p _ hk
          exact ⟨o,e,ex⟩
      obtain ⟨o,e,ex⟩:=z
      refine ⟨⟨o,e,ex.1⟩,fun a e2 => ?_⟩
      cases e2
      exact ⟨o,e,ex.2.1⟩
    · obtain ⟨o,_,_,_,e,ex,_⟩:=I.hok p _ hk
      refine ⟨⟨o,e,ex.1⟩,fun a e2 => ?_⟩
      cases e2
      exact ⟨o,e,ex.2.1⟩
  | _ => exact False.elim ty
def tBM0 (K : PySem.W.Frag) (T : String) (r : V→List V→Hp→VK→Prop) (to : TE) : TE:=fun σ H Q => to σ H fun x H1 => tyV K T x H1∧r x [] H1 Q
def tBM (K : PySem.W.Frag) (T : String) (r : V→List V→Hp→VK→Prop) (to : TE) (t : TA) : TE:=fun σ H Q => to σ H fun x H1 => tyV K T x H1∧t σ H1 fun xs H2 => r x xs H2 Q
variable {o e : Expr} {es : List Expr} {to : TE} {t : TA} {name : Str} {apos cpos : Pos} {T id : String} {r : V→List V→Hp→VK→Prop}
theorem pe_bm0 (pa : PlainAttrs T) (slot : Slot T name id) (hty : typeOf (.builtin id) = pure (.type "method_descriptor")) (hm : MtR X id r) (ho : PE X o to)
    (hbase : attributeBase o name X.env (eval o X.env) = eval o X.env := by rfl) (hline : (apos.endLine == cpos.line) = true := by rfl) : PE X (.Call (.Attribute o name apos) [] [] cpos) (tBM0 X.K T r to) := by
  intro pins s σ H Q I h
  refine wpAny_Call_method0_late hbase hline (thn (ho pins s σ H _ I h) fun v s1 ⟨x,H1,I1,r1,ty,q1⟩ => ?_)
  obtain ⟨h1,h2⟩:=tyV_is I1 r1 ty
  exact ⟨T,id,pa,slot,hty,h1,h2,Calls.callWith_builtin rfl (PySem.evalArgs_none (hm pins s1 σ H1 x [] v [] Q I1 r1 .nil q1))⟩
theorem pe_bm (pa : PlainAttrs T) (slot : Slot T name id) (hty : typeOf (.builtin id) = pure (.type "method_descriptor")) (hm : MtR X id r) (ho : PE X o to) (ha : PA X (e :: es) t)
    (hbase : attributeBase o name X.env (eval o X.env) = eval o X.env := by rfl)
    (hfew : ((backTo cpos (starEach (e :: es) X.env)).all (fun x => !x.1) && (backToKw cpos (keywordEach [] X.env)).all (fun x => x.1.isSome)
      && decide ((e :: es).length + ([] : List Keyword).length + (if ([] : List Keyword).isEmpty then 0 else 1) < 30)) = true := by rfl)
    (hline : (apos.endLine == cpos.line) = true := by rfl) (hs : starEach (e :: es) X.env = (false,eval e X.env) :: starEach es X.env := by rfl) (hplain : (backTo cpos (starEach es X.env)).any (·.1) = false := by rfl) :
    PE X (.Call (.Attribute o name apos) (e :: es) [] cpos) (tBM X.K T r to t) := by
  intro pins s σ H Q I h
  refine wpAny_Call_method_late hbase hfew hline rfl (thn (ho pins s σ H _ I h) fun v s1 ⟨x,H1,I1,r1,ty,q1⟩ => ?_)
  obtain ⟨h1,h2⟩:=tyV_is I1 r1 ty
  refine ⟨T,id,pa,slot,hty,h1,h2,?_⟩
  have hA:=ha cpos pins s1 σ H1 _ I1 q1
  rw [hs] at hA ⊢
  refine Calls.callWith_builtin (by show (false || (backTo cpos (starEach es X.env)).any (·.1)) = false; rw [hplain] <;> rfl) (Calls.evalArgs_plain ?_)
  exact thn hA fun us s2 ⟨vs,H2,I2,r2,q2⟩ => hm pins s2 σ H2 x vs v us Q I2 r1 r2 q2
end
def MtM (X : Cx) (id : String) (r : V→List V→Hp→VK→Prop) : Prop :=
  ∀ (pins : List (Addr×Obj)) (s : Shared) (σ : St) (H : Hp) (x : V) (xs : List V) (v : Value) (us : List Value) (Q : VK),Inv X pins σ H s→RelV x v→Vals xs us→r x xs H Q →
    wpAny (model X.prog X.w) X.A (call (.builtin id) (v :: us)) (EP X pins σ Q) X.xe s
theorem Vals.one : ∀ {x : V} {us : List Value},Vals [x] us→∃ u,us = [u]∧RelV x u
  | _,_,.cons r .nil => ⟨_,rfl,r⟩
theorem Vals.two : ∀ {x y : V} {us : List Value},Vals [x,y] us→∃ u v,us = [u,v]∧RelV x u∧RelV y v
  | _,_,_,.cons r (.cons q .nil) => ⟨_,_,rfl,r,q⟩
theorem Vals.zero : ∀ {us : List Value},Vals [] us→us = []
  | _,.nil => rfl
section
variable {X : Cx} {pins : List (Addr×Obj)} {σ : St} {H : Hp} {s : Shared} {l : Addr} {xs ys : List V}
theorem Inv.lset {its its' : List Value} {n : Nat} {f : Array Value→Array Value} {t' : Nat} (I : Inv X pins σ H s) (hH : H l = some (.lst xs))
    (e : s.heap.get? l = some { cls:=.type "list",data:=.seq its.toArray n }) (hf : f its.toArray = its'.toArray) (hv : Vals ys its') (hz : ys.length≤sizeLine) :
    Inv X pins σ (upd H l (.lst ys)) { s with heap:=s.heap.update l (Obj.mapSeq f),toks:=t' } := by
  have q:=PySem.IsL.update e f
  rw [hf] at q
  refine I.write (x:=l) (e:=l) (by rw [hH]; exact trivial) (.inl rfl) (fun b' u hb hu => (Heap.get?_update_other s.heap (Obj.mapSeq f) (Ne.symm hb)).trans hu) ⟨_,q⟩ ?_
  exact ⟨hz,its',_,hv,q⟩
theorem Inv.lnew {its : List Value} {t' : Nat} (I : Inv X pins σ H s) (hv : Vals ys its) (hz : ys.length≤sizeLine) :
    Inv X pins σ (upd H s.heap.objs.size (.lst ys)) { s with heap:=s.heap.push { cls:=.type "list",data:=.seq its.toArray },toks:=t' } :=
  I.laid (fun _ _ q => Heap.get?_push_of_some _ q) (Nat.le_refl _) ⟨hz,its,0,hv,Heap.get?_push_size _ rfl⟩
theorem Inv.fresh (I : Inv X pins σ H s) : H s.heap.objs.size = none:=I.hok.fresh (Nat.le_refl _)
theorem Inv.lstM (I : Inv X pins σ H s) (hH : H l = some (.lst xs)) : xs.length≤sizeLine∧∃ (its : List Value) (n : Nat),Vals xs its∧xs.length = its.length∧s.heap.get? l = some { cls:=.type "list",data:=.seq its.toArray n } := by
  obtain ⟨z,its,n,r,e⟩:=I.hok l _ hH
  exact ⟨z,its,n,r,r.length,e⟩
end
section
variable {X : Cx}
def rAppend : V→List V→Hp→VK→Prop:=fun x vs H Q => ∃ l xs y,x = .ref l∧vs = [y]∧H l = some (.lst xs)∧xs.length < sizeLine∧Q .non (upd H l (.lst (xs ++ [y])))
theorem mt_append : MtM X "list.append" rAppend := by
  intro pins s σ H x vs v us Q I rx rv h
  obtain ⟨l,xs,y,rfl,rfl,hH,hz,q⟩:=h
  cases rx
  obtain ⟨u,rfl,ru⟩:=rv.one
  obtain ⟨z,its,n,r,hl,e⟩:=I.lstM hH
  refine call_meets F.slot_list_append ⟨_,e,rfl⟩ F.entry_list_append (F.args_list_append_2 _ _) (PySem.list_append l its.toArray n u (by rw [List.size_toArray]; lia)) ⟨e,?_⟩
  refine ⟨.non,_,I.lset (its':=its ++ [u]) hH e (by simp) (r.append (.cons ru .nil)) ?_,rfl,q⟩
  rw [List.length_append,List.length_singleton]
  lia
def rClear : V→List V→Hp→VK→Prop:=fun x vs H Q => ∃ l xs,x = .ref l∧vs = []∧H l = some (.lst xs)∧Q .non (upd H l (.lst []))
theorem mt_clear : MtM X "list.clear" rClear := by
  intro pins s σ H x vs v us Q I rx rv h
  obtain ⟨l,xs,rfl,rfl,hH,q⟩:=h
  cases rx
  have hus:=rv.zero
  subst hus
  obtain ⟨z,its,n,r,hl,e⟩:=I.lstM hH
  refine call_meets F.slot_list_clear ⟨_,e,rfl⟩ F.entry_list_clear (F.args_list_clear_1 _) (AutoSeq1.list_clear_list_0 l its.toArray n (by rw [List.size_toArray]; lia)) ⟨e,?_⟩
  exact ⟨.non,_,I.lset (its':=[]) (ys:=[]) hH e rfl .nil (Nat.zero_le _),rfl,q⟩
def rCat : R2:=fun x y H Q => ∃ l b xs zs,x = .ref l∧y = .ref b∧H l = some (.lst xs)∧H b = some (.lst zs)∧xs.length + zs.length≤sizeLine∧∀ p,H p = none→Q (.ref p) (upd H p (.lst (xs ++ zs)))
theorem op_cat : OpR X (binaryOp .Add) rCat := by
  intro pins s σ H x y v u Q I rx ry h
  obtain ⟨l,b,xs,zs,rfl,rfl,hH,hB,hz,q⟩:=h
  cases rx
  cases ry
  obtain ⟨z,its,n,r,hl,e⟩:=I.lstM hH
  obtain ⟨z2,its2,n2,r2,hl2,e2⟩:=I.lstM hB
  refine PySem.P.add_list e e2 ?_ (by rw [List.size_toArray,List.size_toArray]; lia)
  have ea : its.toArray ++ its2.toArray = (its ++ its2).toArray := by simp
  rw [ea]
  exact ⟨.ref _,_,I.lnew (t':=s.toks) (r.append r2) (by rw [List.length_append]; lia),rfl,q _ I.fresh⟩
end
end L2
namespace Att
open PySem PySem.W PySem.Calls PyProof.Rows
theorem ints_of_wellAll {P : Params} {h : Heap} : ∀ (ns : List Int) (vs : List Value),WellAll P h vs (ns.map WData.int)→IntsAre vs ns := by
  intro ns
  induction ns with
  | nil =>
    intro vs w
    rw [List.map_nil] at w
    cases w
    exact .nil
  | cons n ns ih =>
    intro vs w
    rw [List.map_cons] at w
    cases w with
    | cons a b =>
      cases a
      exact .cons _ _ (ih _ b)
theorem script_of {l : OpenLaw} {n : Nat} (hn : l.most = some n) {P : Params} {h : Heap} {args : List WData} {vals : List Value}
    (hpre : l.row.toRowW.claim.pre args = true) (hwl : WellAll P h vals args) :
    ∃ a vs ns,vals = [Value.ref a]∧args = [WData.list (ns.map WData.int)]∧h.get? a = some { cls:=.type "list",data:=.seq vs.toArray }∧IntsAre vs ns∧ns.length≤n := by
  have hsh : WShape.hasAll [] args [.list .int] = true:=(pre_splitW hpre).1
  have hc : l.pre.holds [] { args:=args } = true:=(pre_splitW hpre).2
  obtain ⟨d,r,rfl,h1,h2⟩:=hasAllW_cons hsh
  obtain rfl:=hasAllW_nil h2
  obtain ⟨xs,rfl,h3⟩:=hasW_list h1
  obtain ⟨ns,rfl⟩:=items_int h3
  have hlen : ns.length≤n := by
    unfold OpenLaw.pre at hc
    have h4 : (WTm.not (.lt (.lit (.int (n : Int))) (.len (.arg 0)))).holds [] { args:=[.list (ns.map .int)] } = true := by
      have h4:=(holds_andW hc).1
      rw [hn] at h4
      exact h4
    have h5:=condW_of h4 (w_not (w_lt w_lit (w_len_list (w_arg rfl))))
    rw [List.length_map] at h5
    refine Nat.le_of_not_lt fun q => ?_
    have q' : (n : Int) < ((ns.length : Nat) : Int) := by lia
    first
      | (rw [decide_eq_true q'] at h5; exact absurd h5 (by decide))
      | (simp at h5; lia)
  cases hwl with
  | cons w1 w2 =>
    cases w2
    cases w1 with
    | list ho hall => exact ⟨_,_,ns,rfl,rfl,ho,ints_of_wellAll ns _ hall,hlen⟩
theorem post_true (l : OpenLaw) (args : List WData) : l.row.toRowW.claim.post args (.bool true) args = true :=
  postW_of (r:=l.row.toRowW) (X:=(true == true))
    (show WShape.has [] (.bool true) .bool = true by first | rfl | decide | simp [WShape.has,WShape.arms,WShape.armsAll])
    (show (WTm.eq .res (.lit (.bool true))).value [] { args:=args,res:=some (.bool true),after:=args } = some (.bool (true == true)) from w_eq_bool (w_res rfl) w_lit) rfl
theorem attach_call {l : OpenLaw} {n : Nat} {q : Program} {loose : List Str} {XP : (Str→Option Value)→Heap→Prop} {YP : World→Heap→Prop} {d : DefRec}
    (hn : l.most = some n) (hdf : d.params.defaults = [])
    (call : ∀ (w : World) (s₀ s₁ : Shared) (mg mb : Str→Option Value) (fa : Addr) (o : Obj) (pm cd doc : Value) (a : Addr) (vs : List Value) (ns : List Int),
      Ground q loose [] XP w s₀ mg mb s₁.heap→YP w s₁.heap →
      s₁.heap.get? fa = some o→o.data = .func (docDef d.name d.params d.body d.scope pm cd doc)→s₁.heap.CodeRec cd d.name→mg d.name = some (.ref fa) →
      s₁.heap.get? a = some { cls:=.type "list",data:=.seq vs.toArray }→IntsAre vs ns→ns.length≤n→s₁.gens = #[] →
      codeAny (model l.prog w) callerA (.call (.ref fa) ⟨[.ref a],[]⟩) (fun r s' => r = .ok (.ret (.bool true))∧OldK s₁.heap s'.heap∧s'.os = s₁.os∧AllBare s'.gens) s₁) :
    WalkO q loose XP YP l.row.toRowW d [] (fun f vs => PySem.call f vs) := by
  intro w s₀ s₁ mg mb G Y fa o pm cd doc dV kV ho hd hcd hD hmg hg args vals as hpre hlay hrd hwl hlo
  obtain rfl : dV = .none:=Dflts.none hD hdf
  obtain rfl : kV = .none:=Dflts.noKw hD
  obtain ⟨a,vs,ns,rfl,rfl,hobj,hints,hlen⟩:=script_of hn hpre hwl
  refine enter_call (codeAny_mono (call w s₀ s₁ mg mb fa o pm cd doc a vs ns G Y ho (fd_plain hd) hcd hmg hobj hints hlen hg) fun r s' hq => ?_)
  obtain ⟨rfl,h2,h3,h4⟩:=hq
  exact ⟨.inl ⟨.bool true,.bool true,[],rfl,fun _ => rfl,.bool true,post_true l _,fun _ => ⟨List.Pairwise.nil,fun _ hm => (nomatch hm)⟩⟩,h2,h3,h4⟩
end Att
namespace L2
open PySem PySem.Spec PyProof.Rows
theorem vals_ints : ∀ {vs : List Value} {ns : List Int},IntsAre vs ns→Vals (ns.map V.int) vs
  | _,_,.nil => .nil
  | _,_,.cons n t h => .cons ⟨t,rfl⟩ (vals_ints h)
end L2
namespace L2
open PySem PySem.Spec PyProof.Rows
def defArgs (s : Stmt) : Arguments:=match s with
  | .FunctionDef _ a _ _ _ _ _ _ _ _ => a
  | _ => { posonlyargs:=[],args:=[],vararg:=none,kwonlyargs:=[],kw_defaults:=[],kwarg:=none,defaults:=[] }
def defBody (s : Stmt) : List Stmt:=match s with
  | .FunctionDef _ _ b _ _ _ _ _ _ _ => b
  | _ => []
def defScope (s : Stmt) : Scope:=match s with
  | .FunctionDef _ _ _ _ _ _ sc _ _ _ => sc
  | _ => { kind:=.function,names:=[],isGenerator:=false,isCoroutine:=false }
abbrev CX0 : CXT:=fun _ _ _ _ _ _ => False
abbrev E0 : XK:=fun _ _ _ => False
theorem pass0 {X : Cx} : Passes CX0 X E0:=fun _ _ _ _ _ _ _ h => h.elim
structure Fun (K : PySem.W.Frag) (x qual : Str) (st : Stmt) (f : Addr) (fd : FuncData) : Prop where
  ex : ∃ (oc : Value) (od : Option Addr) (kV doc pm : Value) (an : Option Addr) (cdv ct : Value) (osl : Array (Option Value)),
    fd = PySem.W.fnOf x qual (defArgs st) (defBody st) (defScope st) .none kV doc pm an cdv ct∧K.lookup f = some ⟨oc,od,.func fd,osl⟩∧PySem.W.codeIn K cdv qual = true
  kp : PySem.W.keepIn K (.ref f) = true
section
variable {P : Program} {w : World} {K : PySem.W.Frag} {mg : Str→Option Value} {base : Heap}
theorem Fun.ok {x qual : Str} {st : Stmt} {f : Addr} {fd : FuncData} {N ps : List Str} {k : Nat} {sp : Sp} (F : Fun K x qual st f fd) (S : FnScope N ps (defScope st)) (len : ∀ vs H Q E,sp vs H Q E→vs.length = ps.length)
    (hbody : ∀ (cdv : Value) (A : Around) (outer : List Env) (s : Shared) (H : Hp) (vs : List V) (Q : VK) (E : XK),Room k (A.deeper (envOfC qual (defScope st) s.heap.objs.size f cdv))→sp vs H Q E →
      ∃ t,PSs (cxOf CX0 P w K mg base N qual (defScope st) f cdv A outer s H E).nox (defBody st) t∧t { nx:=fun _ H' => Q .non H',rt:=Q } (start N vs) H) : FnOk P w K mg base CX0 (k + 1) f fd ps sp := by
  obtain ⟨oc,od,kV,doc,pm,an,cdv,ct,osl,rfl,lk,hcd⟩:=F.ex
  refine fn_of lk hcd S len fun A outer s H vs Q E hr hsp => ?_
  obtain ⟨t,h,q⟩:=hbody cdv A outer s H vs Q E hr hsp
  exact ⟨t,h.nox,q⟩
theorem Fun.binds {x qual : Str} {st : Stmt} {f : Addr} {fd : FuncData} {ps : List Str} (F : Fun K x qual st f fd)
    (h : ∀ (kV doc pm : Value) (an : Option Addr) (cdv ct : Value) (us : List Value),us.length = ps.length→bindArgs (PySem.W.fnOf x qual (defArgs st) (defBody st) (defScope st) .none kV doc pm an cdv ct) ⟨us,[]⟩ = pure (ps.zip us)) : Binds K fd ps [] := by
  obtain ⟨oc,od,kV,doc,pm,an,cdv,ct,osl,rfl,lk,hcd⟩:=F.ex
  exact .all (h kV doc pm an cdv ct)
theorem fun_mk {x qual : Str} {st : Stmt} {f : Addr} {oc : Value} {od an : Option Addr} {osl : Array (Option Value)} {kV doc pm cdv ct : Value} (l : K.lookup f = some ⟨oc,od,.func (PySem.W.fnOf x qual (defArgs st) (defBody st) (defScope st) .none kV doc pm an cdv ct),osl⟩)
    (c : PySem.W.codeIn K cdv qual = true) (k : PySem.W.keepIn K (.ref f) = true) : Fun K x qual st f (PySem.W.fnOf x qual (defArgs st) (defBody st) (defScope st) .none kV doc pm an cdv ct):=⟨⟨oc,od,kV,doc,pm,an,cdv,ct,osl,rfl,l,c⟩,k⟩
end
theorem small1000 {n : Nat} (h : n≤1000) : n < sizeLine:=Nat.lt_of_le_of_lt h (by decide)
section
variable {X : Cx}
theorem pv (i : Nat) {x : Str} {pos : Pos} (hN : X.N[i]? = some x := by rfl) (hv : Vis X.env.scope x := by first | exact Or.inl rfl | exact Or.inr (Or.inl rfl) | exact Or.inr (Or.inr rfl)) (hd : (x == ("__debug__" : Str)) = false := by decide)
    (hcd : (x == ("__classdict__" : Str)) = false := by decide) : PE X (.Name x pos) (tVar i):=pe_var hN hv hd hcd
end
theorem iteF {A B : Prop} (h : B) : if false = true then A else B := by
  rw [if_neg Bool.false_ne_true]
  exact h
theorem iteT {A B : Prop} (h : A) : if true = true then A else B := by
  rw [if_pos rfl]
  exact h
theorem ite2 {c A B : Prop} [Decidable c] (h1 : c→A) (h2 : ¬ c→B) : if c then A else B := by
  by_cases h : c
  · rw [if_pos h]
    exact h1 h
  · rw [if_neg h]
    exact h2 h
def Same (H H' : Hp) : Prop:=∀ b o,H b = some o→H' b = some o
theorem Same.refl (H : Hp) : Same H H:=fun _ _ h => h
theorem Same.trans {H H1 H2 : Hp} (a : Same H H1) (b : Same H1 H2) : Same H H2:=fun c o h => b c o (a c o h)
theorem Same.free {H H' : Hp} (e : Same H H') {l : Addr} (h : H' l = Option.none) : H l = Option.none := by
  cases q : H l with
  | none => rfl
  | some o =>
    rw [e l o q] at h
    cases h
theorem Same.seq {K : PySem.W.Frag} {H H' : Hp} {a : Addr} {xs : List V} (e : Same H H') (h : SqL K H a xs) : SqL K H' a xs := by
  rcases h with (h | ⟨o,h⟩) | h
  · exact .inl (.inl (e _ _ h))
  · exact .inl (.inr ⟨o,e _ _ h⟩)
  · exact .inr h
section
variable {X : Cx}
def CMulW (i j : Int) : Prop:=∃ m : Nat,m≤1000000∧i.natAbs < 2 ^ m∧j.natAbs < 2 ^ m
theorem CMulW.ok {i j : Int} (h : CMulW i j) : IntMulOk i j := by
  obtain ⟨m,hm,h1,h2⟩:=h
  exact IntMulOk.of_le (intBits_le_iff.mpr h1) (intBits_le_iff.mpr h2) (by lia)
theorem op_mulW : OpR X (binaryOp .Mult) (rI (fun i j => CMul i j∨CMulW i j) fun i j => .int (i * j)) :=
  opI fun _ _ _ _ _ _ _ hc q => mul_int q (hc.elim (fun z => z.ok) fun z => z.ok)
def CDivW (_i j : Int) : Prop:=j≠0∧∃ m : Nat,m≤9000∧j.natAbs < 2 ^ m
theorem op_fdivW : OpR X (binaryOp .FloorDiv) (rI CDivW fun i j => .int (i.fdiv j)):=opI fun i j _ _ _ _ _ hc q => by
  obtain ⟨h0,m,hm,h1⟩:=hc
  refine floordiv_int h0 q (.inl (PyProof.noPylong_of_log2 ?_))
  have hne : j.natAbs≠0 := by lia
  have : j.natAbs.log2 < m:=(Nat.log2_lt hne).mpr h1
  lia
mutual
def Br (K : PySem.W.Frag) (H : Hp) : PyData→V→Prop
  | .none,v => v = .non
  | .bool b,v => v = .bl b
  | .int i,v => v = .int i
  | .str x,v => v = .str x
  | .tuple ds,v => ∃ a xs,v = .ref a∧SqT K H a xs∧BrAll K H ds xs
  | .list ds,v => ∃ a xs,v = .ref a∧SqL K H a xs∧BrAll K H ds xs
  | .dict _,_ => False
def BrAll (K : PySem.W.Frag) (H : Hp) : List PyData→List V→Prop
  | [],xs => xs = []
  | d :: ds,xs => ∃ x r,xs = x :: r∧Br K H d x∧BrAll K H ds r
end
theorem Same.tup {K : PySem.W.Frag} {H H' : Hp} {a : Addr} {xs : List V} (e : Same H H') (h : SqT K H a xs) : SqT K H' a xs := by
  rcases h with (h | ⟨o,h⟩) | h
  · exact .inl (.inl (e _ _ h))
  · exact .inl (.inr ⟨o,e _ _ h⟩)
  · exact .inr h
mutual
theorem Br.reads {pins : List (Addr×Obj)} {σ : St} {H : Hp} {s : Shared} (I : Inv X pins σ H s) : ∀ {d : PyData} {v : V} {u : Value},Br X.K H d v→RelV v u→∃ as,Reads s.heap u d as
  | .none,_,u,h,r => by rw [Br] at h; subst h; cases r; exact ⟨_,.none⟩
  | .bool b,_,u,h,r => by rw [Br] at h; subst h; cases r; exact ⟨_,.bool b⟩
  | .int i,_,u,h,r => by rw [Br] at h; subst h; obtain ⟨t,rfl⟩:=r; exact ⟨_,.int i t⟩
  | .str x,_,u,h,r => by rw [Br] at h; subst h; obtain ⟨t,rfl⟩:=r; exact ⟨_,.str x t⟩
  | .tuple ds,_,u,h,r => by
    rw [Br] at h
    obtain ⟨a,xs,e1,h1,h2⟩:=h
    subst e1
    cases r
    obtain ⟨its,rv,⟨o,e,c,n,hd⟩,_⟩:=I.tuple h1
    obtain ⟨as,ra⟩:=BrAll.reads I h2 rv
    exact ⟨_,.tuple e c hd (by simpa using ra)⟩
  | .list ds,_,u,h,r => by
    rw [Br] at h
    obtain ⟨a,xs,e1,h1,h2⟩:=h
    subst e1
    cases r
    obtain ⟨its,rv,⟨o,n,e,c,_,hd⟩,_⟩:=I.list h1
    obtain ⟨as,ra⟩:=BrAll.reads I h2 rv
    exact ⟨_,.list e c hd (by simpa using ra)⟩
  | .dict _,_,_,h,_ => by rw [Br] at h; exact h.elim
theorem BrAll.reads {pins : List (Addr×Obj)} {σ : St} {H : Hp} {s : Shared} (I : Inv X pins σ H s) : ∀ {ds : List PyData} {xs : List V} {us : List Value},BrAll X.K H ds xs→Vals xs us→∃ as,ReadsAll s.heap us ds as
  | [],_,us,h,r => by rw [BrAll] at h; subst h; cases r; exact ⟨_,.nil⟩
  | _ :: _,_,us,h,r => by
    rw [BrAll] at h
    obtain ⟨x,q,e1,h1,h2⟩:=h
    subst e1
    cases r with
    | cons r1 r2 =>
      obtain ⟨as,ra⟩:=Br.reads I h1 r1
      obtain ⟨bs,rb⟩:=BrAll.reads I h2 r2
      exact ⟨_,.cons ra rb⟩
end
def rEqD (K : PySem.W.Frag) (neg : Bool) : R2:=fun x y H Q => ∃ d e,Br K H d x∧Br K H e y∧SeqAt.shaped d = true∧SeqAt.shaped e = true∧Q (.bl (if neg then !PyData.eqv d e else PyData.eqv d e)) H
theorem op_eqD (hu : X.A.units + 64 < cLine) : OpR X (compareOp .Eq) (rEqD X.K false) := by
  intro pins s σ H x y v u Q I rx ry h
  obtain ⟨d,e,h1,h2,s1,s2,q⟩:=h
  obtain ⟨as,ra⟩:=Br.reads I h1 rx
  obtain ⟨bs,rb⟩:=Br.reads I h2 ry
  exact eq_dataH ra rb s1 s2 hu ⟨.bl _,H,I,rfl,q⟩
theorem op_neD (hu : X.A.units + 64 < cLine) : OpR X (compareOp .NotEq) (rEqD X.K true) := by
  intro pins s σ H x y v u Q I rx ry h
  obtain ⟨d,e,h1,h2,s1,s2,q⟩:=h
  obtain ⟨as,ra⟩:=Br.reads I h1 rx
  obtain ⟨bs,rb⟩:=Br.reads I h2 ry
  exact ne_dataH ra rb s1 s2 hu ⟨.bl _,H,I,rfl,q⟩
end
end L2
set_option maxHeartbeats 4000000
namespace L2
open PySem PySem.Spec PyProof.Rows
def PIf (X : Cx) (ifs : List Expr) (t : TT) : Prop :=
  ∀ (pins : List (Addr×Obj)) (s : Shared) (σ : St) (H : Hp) (Q : Bool→Hp→Prop),Inv X pins σ H s→t σ H Q →
    wpAny (model X.prog X.w) X.A (forIn ifs true fun c r => if r = true then do let ok ← isTrue c X.env (eval c X.env); pure (ForInStep.yield ok) else pure (ForInStep.yield r)) (TP X pins σ Q) X.xe s
def tNoIf : TT:=fun _ H Q => Q true H
theorem pif_nil {X : Cx} : PIf X [] tNoIf:=fun _ _ σ H _ I h => wpAny_tests_nil ⟨H,I,h⟩
def frOk (N XN : List Str) (sc xsc : Scope) : List (Option Nat)→Nat→Bool
  | [],_ => true
  | none :: r,i => frOk N XN sc xsc r (i + 1)
  | some j :: r,i => (match N[i]?,XN[j]? with
      | some n,some m => n == m && sc.names.lookup n == some .free && xsc.names.lookup n == some .cell
      | _,_ => false) && frOk N XN sc xsc r (i + 1)
theorem frOk_get {N XN : List Str} {sc xsc : Scope} : ∀ {fr : List (Option Nat)} {k : Nat},frOk N XN sc xsc fr k = true→∀ {i j : Nat},fr[i]? = some (some j) →
    ∃ n,N[k + i]? = some n∧XN[j]? = some n∧sc.names.lookup n = some .free∧xsc.names.lookup n = some .cell
  | [],_,_,i,j,e => by simp at e
  | none :: r,k,h,0,j,e => by simp at e
  | none :: r,k,h,i + 1,j,e => by
    have q:=frOk_get (fr:=r) (k:=k + 1) h (i:=i) (j:=j) (by simpa using e)
    have z : k + (i + 1) = k + 1 + i := by lia
    rw [z]; exact q
  | some j' :: r,k,h,0,j,e => by
    have e' : j' = j := by simpa using e
    subst e'
    rw [frOk,Bool.and_eq_true] at h
    have h1:=h.1
    split at h1
    · rename_i n m hn hm
      simp only [Bool.and_eq_true,beq_iff_eq] at h1
      obtain ⟨⟨rfl,h2⟩,h3⟩:=h1
      exact ⟨n,by simpa using hn,hm,h2,h3⟩
    · cases h1
  | some j' :: r,k,h,i + 1,j,e => by
    rw [frOk,Bool.and_eq_true] at h
    have q:=frOk_get (fr:=r) (k:=k + 1) h.2 (i:=i) (j:=j) (by simpa using e)
    have z : k + (i + 1) = k + 1 + i := by lia
    rw [z]; exact q
def carry (fr : List (Option Nat)) (σ : St) : St:=fr.map fun o => match o with
  | some j => (σ[j]?).join
  | none => none
theorem carry_get {fr : List (Option Nat)} {σ : St} {i : Nat} {v : V} (h : (carry fr σ)[i]? = some (some v)) : ∃ j,fr[i]? = some (some j)∧σ[j]? = some (some v) := by
  unfold carry at h
  rw [List.getElem?_map] at h
  cases e : fr[i]? with
  | none => rw [e] at h; cases h
  | some o =>
    rw [e] at h
    cases o with
    | none => simp at h
    | some j =>
      refine ⟨j,rfl,?_⟩
      simp only [Option.map_some,Option.some.injEq] at h
      cases q : σ[j]? with
      | none => rw [q] at h; cases h
      | some w => rw [q] at h; simp at h; rw [h]
theorem closure_of {env : Env} : ∀ (names : List (Str×NameKind)) (cs : List (Str×Addr)),(∀ x∈names,x.2 = NameKind.free→∃ c,env.cells.lookup x.1 = some c)→(∀ x c,cs.lookup x = some c→env.cells.lookup x = some c) →
    ∃ cl,(forIn names cs (fun (x : Str×NameKind) (r : List (Str×Addr)) => do if (x.2 == NameKind.free) = true then do let a ← cellOf env x.1; pure (ForInStep.yield ((x.1,a) :: r)) else pure (ForInStep.yield r)) : Sem (List (Str×Addr))) = pure cl ∧
      (∀ x c,cl.lookup x = some c→env.cells.lookup x = some c)∧(∀ x,(∃ c,cs.lookup x = some c)→∃ c,cl.lookup x = some c)∧∀ x∈names,x.2 = NameKind.free→∃ c,cl.lookup x.1 = some c
  | [],cs,_,h2 => ⟨cs,rfl,h2,fun _ q => q,fun _ z => (by cases z)⟩
  | (n,k) :: r,cs,h1,h2 => by
    rw [List.forIn_cons]
    by_cases hk : (k == NameKind.free) = true
    · obtain ⟨c,hc⟩:=h1 (n,k) List.mem_cons_self (by simpa using hk)
      have h2' : ∀ x c',((n,c) :: cs).lookup x = some c'→env.cells.lookup x = some c':=fun x c' e => by
        rw [List.lookup_cons] at e
        cases hx : x == n with
        | true => rw [hx] at e; have := beq_iff_eq.mp hx; subst this; simp at e; rw [← e]; exact hc
        | false => rw [hx] at e; exact h2 x c' e
      obtain ⟨cl,q1,q2,q3,q4⟩:=closure_of r ((n,c) :: cs) (fun x hx => h1 x (List.mem_cons_of_mem _ hx)) h2'
      have hn : ∃ c',cl.lookup n = some c':=q3 n ⟨c,by rw [List.lookup_cons,beq_self_eq_true]⟩
      refine ⟨cl,?_,q2,fun x hx => ?_,fun x hx hf => ?_⟩
      · simp only [hk,if_true]
        unfold cellOf
        rw [hc]
        exact q1
      · refine q3 x ?_
        rw [List.lookup_cons]
        cases hxn : x == n with
        | true => exact ⟨c,rfl⟩
        | false => exact hx
      · rcases List.mem_cons.mp hx with e | hx
        · subst e; exact hn
        · exact q4 x hx hf
    · obtain ⟨cl,q1,q2,q3,q4⟩:=closure_of r cs (fun x hx => h1 x (List.mem_cons_of_mem _ hx)) h2
      refine ⟨cl,?_,q2,q3,fun x hx hf => ?_⟩
      · simp only [hk]
        exact q1
      · rcases List.mem_cons.mp hx with e | hx
        · subst e; exact absurd (by simpa using hf) hk
        · exact q4 x hx hf
def cxComp (X : Cx) (scope : Scope) (cl : List (Str×Addr)) (N : List Str) (C : Addr) (s₀ : Shared) (H₀ : Hp) (fp : List Addr) : Cx where
  prog:=X.prog
  w:=X.w
  K:=X.K
  mg:=X.mg
  base:=X.base
  A:=X.A
  N:=N
  s₀:=s₀
  H₀:=H₀
  env:=compEnvC scope cl C X.env
  outer:=X.stack
  stack:=X.stack
  ex:=fp
  fn:=fun _ => false
  calm:=X.calm
  pn:=[]
  xe:=fun _ _ => False
def tComp (wi : TI) (fr : List (Option Nat)) (ix : Nat) (tif : TT) (te : TE) : TE:=fun σ H Q => wi σ H fun J H1 => ∀ D,H1 D = none→∃ W : Nat→Nat→List V→Hp→Prop,(∃ m,W 0 m [] (upd H1 D (.lst []))) ∧
  ∀ i m ys H,W i m ys H→H D = some (.lst ys)∧((J.stop i H∧Q (.ref D) H)∨(J.go i H∧ys.length < sizeLine∧∀ x H',J.yld i H x H' →
    tif ((carry fr σ).set ix (some x)) H' fun b H2 => if b = true then te ((carry fr σ).set ix (some x)) H2 fun y H3 => H3 D = some (.lst ys)∧∃ m',m' < m∧W (i + 1) m' (ys ++ [y]) (upd H3 D (.lst (ys ++ [y])))
      else ∃ m',m' < m∧W (i + 1) m' ys H2))
structure CompScope (scope : Scope) (N : List Str) (x : Str) (ix : Nat) : Prop where
  kind : scope.kind = .function
  cell : ∀ y∈scope.names,y.2≠.cell
  names : ∀ y∈scope.names,y.2 = .local→scope.names.lookup y.1 = some .local
  free : ∀ y∈scope.names,y.2 = .free→scope.names.lookup y.1 = some .free
  loc : scope.names.lookup x = some .local
  nd : N.Nodup
  at_ : N[ix]? = some x
theorem lookup_mem {names : List (Str×NameKind)} {n : Str} {k : NameKind} : names.lookup n = some k→(n,k)∈names := by
  induction names with
  | nil => intro h; cases h
  | cons y r ih =>
    intro h
    obtain ⟨m,j⟩:=y
    rw [List.lookup_cons] at h
    cases e : n == m with
    | true => rw [e] at h; have := beq_iff_eq.mp e; subst this; simp at h; subst h; exact List.mem_cons_self
    | false => rw [e] at h; exact List.mem_cons_of_mem _ (ih h)
theorem relabel_kind {scope : Scope} {env : Env} (hc : ∀ y∈scope.names,y.2≠.cell) {n : Str} (h : (relabel scope env).names.lookup n = some .cell∨(relabel scope env).names.lookup n = some .free) : ∃ k,(n,k)∈scope.names∧k = NameKind.free := by
  have key : ∀ k',(relabel scope env).names.lookup n = some k'→(k' = .cell∨k' = .free)→∃ k,(n,k)∈scope.names∧k = NameKind.free:=fun k' h hk => by
    have hm:=lookup_mem h
    unfold relabel at hm
    obtain ⟨⟨m,k⟩,hy,e⟩:=List.mem_map.mp hm
    dsimp only at e
    by_cases hcond : (k == NameKind.free && env.scope.kind == .function && env.kindOf m == some .cell) = true
    · rw [if_pos hcond] at e
      injection e with e1 e2
      subst e1
      refine ⟨k,hy,?_⟩
      simp only [Bool.and_eq_true,beq_iff_eq] at hcond
      exact hcond.1.1
    · rw [if_neg hcond] at e
      injection e with e1 e2
      subst e1 e2
      rcases hk with rfl | rfl
      · exact absurd rfl (hc _ hy)
      · exact ⟨_,hy,rfl⟩
  rcases h with h | h
  · exact key _ h (.inl rfl)
  · exact key _ h (.inr rfl)
section
variable {X : Cx} {elt iter : Expr} {x : Str} {px pos : Pos} {ifs : List Expr} {scope : Scope} {wi : TI} {fr : List (Option Nat)} {ix : Nat} {tif : TT} {te : TE} {N : List Str}
theorem codeAny_compLoop_testsT {prog : Program} {w : World} {A : Around} {R : Result→Shared→Prop} {s : Shared} {elt target iter : Expr} {ifs : List Expr} {scope : Scope} {pos : Pos} {it acc : Value} {env : Env} (I : Nat→Shared→Prop)
    (turn : ∀ n s,I n s→wpAny (model prog w) A (pyNext it) (fun r s₁ => match r with
      | none => R (.ok .next) s₁
      | some v => wpAny (model prog w) A (letOwnedTupleGo target it v >>= fun _ => assign target env v) (fun _ s₂ =>
          wpAny (model prog w) A (forIn ifs true fun c r => if r = true then do let ok ← isTrue c env (eval c env); pure (ForInStep.yield ok) else pure (ForInStep.yield r)) (fun ok s₃ =>
            if ok = true then wpAny (model prog w) A (eval elt env) (fun x s₄ =>
              wpAny (model prog w) A (call (.builtin "list.append") [acc,x]) (fun _ s₅ => ∃ m,m < n∧I m s₅) (notedBy (model prog w) A env fun e s' => R (.error e) s') s₄) (notedBy (model prog w) A env fun e s' => R (.error e) s') s₃
            else ∃ m,m < n∧I m s₃) (notedBy (model prog w) A env fun e s' => R (.error e) s') s₂) (notedBy (model prog w) A env fun e s' => R (.error e) s') s₁) (notedBy (model prog w) A env fun e s' => R (.error e) s') s)
    (n : Nat) (h : I n s) :
    codeAny (model prog w) A (.compLoop (.ListComp elt [⟨target,iter,ifs,0⟩] scope pos) 0 it acc env) R s := by
  refine codeAny_loop rfl I (fun n s hI => ?_) n h
  show wpAny _ A ((compTurn (.ListComp elt [⟨target,iter,ifs,0⟩] scope pos) 0 it acc env).onRaise (fun x => do noteFrame x env; theTreesLotGoes x)) _ _ s
  refine wpAny_noted ?_
  rw [compTurn_list]
  refine wpAny_bind (wpAny_standAt (wpAny_bind (wpAny_mono (turn n s hI) (fun r s₁ h₁ => ?_) fun _ _ h' => h')))
  cases r with
  | none => exact wpAny_pure h₁
  | some v =>
    show wpAny (model prog w) A (letOwnedTupleGo target it v >>= fun _ => assign target env v >>= _) _ _ s₁
    rw [← bind_assoc]
    refine wpAny_bind (wpAny_mono h₁ (fun _ s₂ h₂ => wpAny_bind (wpAny_mono h₂ (fun ok s₃ h₃ => ?_) fun _ _ h' => h')) fun _ _ h' => h')
    cases ok with
    | false => exact wpAny_pure ⟨rfl,h₃⟩
    | true =>
      exact wpAny_bind (wpAny_bind (wpAny_mono h₃ (fun x s₄ h₄ => wpAny_bind (wpAny_mono h₄ (fun _ s₅ h₅ => wpAny_pure (wpAny_pure ⟨rfl,h₅⟩)) fun _ _ h' => h')) fun _ _ h' => h'))
theorem comp_blockG {pins : List (Addr×Obj)} {σ : St} {H2 : Hp} {s2 : Shared} {Q : VK} {it : Addr} {fp : List Addr} {tn : Nat→Heap→Prop} {J : It} {cl : List (Str×Addr)} {E : Value→Shared→Prop} {RR : Value→Addr→Result→Shared→Prop}
    (S : CompScope scope N x ix) (hcalm : X.calm = true) {tgE : Expr} {g : TG} (Rv : St→Prop) (r0 : Rv (carry fr σ)) (hpg : ∀ C,PG (cxComp X scope cl N C s2 H2 fp) tgE g) (hfr : frOk N X.N scope X.env.scope fr 0 = true) (hlen : fr.length = N.length)
    (hif : ∀ cl C s₀ H₀ fp,PIf (cxComp X scope cl N C s₀ H₀ fp) ifs tif) (he : ∀ cl C s₀ H₀ fp,PE (cxComp X scope cl N C s₀ H₀ fp) elt te)
    (I2 : Inv X pins σ H2 s2) (T : Turn X.prog X.w X.K tgE J fp it tn) (st2 : tn 0 s2.heap) (f2 : ∀ b∈fp,FpOk X pins H2 b)
    (c1 : ∀ x c,cl.lookup x = some c→X.env.cells.lookup x = some c) (c2 : ∀ x∈scope.names,x.2 = NameKind.free→∃ c,cl.lookup x.1 = some c)
    (W : ∀ D,H2 D = none→∃ W : Nat→Nat→List V→Hp→Prop,(∃ m,W 0 m [] (upd H2 D (.lst []))) ∧
      ∀ i m ys H,W i m ys H→H D = some (.lst ys)∧((J.stop i H∧Q (.ref D) H)∨(J.go i H∧ys.length < sizeLine∧∀ x H',J.yld i H x H'→∀ σ',Rv σ'→g x σ' H' fun σ6 H6 => Rv σ6 ∧
        tif σ6 H6 fun b H2 => if b = true then te σ6 H2 fun y H3 => H3 D = some (.lst ys)∧∃ m',m' < m∧W (i + 1) m' (ys ++ [y]) (upd H3 D (.lst (ys ++ [y])))
          else ∃ m',m' < m∧W (i + 1) m' ys H2)))
    (fin : ∀ (D C : Addr) (s' : Shared) (H' : Hp) m,s'.heap.Ns C m→Q (.ref D) H'→(∀ h',Heap.SameBut C s'.heap h'→Inv X pins σ H' { s' with heap:=h' })→C≠D→(∀ b o,s2.heap.get? b = some o→b≠C)→H' C = none→s2.heap.objs.size≤C→RR (.ref D) C (.ok .next) s') :
    wpAny (model X.prog X.w) X.A (newList []) (fun acc s₃ => wpAny (model X.prog X.w) X.A (newFunctionEnv scope X.env.globals cl [] X.env.qual none .none (some X.env)) (fun cenv s₄ =>
      codeAny (model X.prog X.w) X.A (.compStart (.ListComp elt [⟨tgE,iter,ifs,0⟩] scope pos) 0 (.ref it) acc { cenv with scope:=relabel scope X.env }) (RR acc cenv.locals) s₄) E s₃) E s2 := by
  refine wpAny_newObj_type (wpAny_newFunctionEnv S.cell (by intro y hy; simp at hy) (fun h₁ hns₁ hsb₁ => ?_) S.kind)
  dsimp only at hns₁ hsb₁ ⊢
  generalize hHp : s2.heap.push { cls:=.type "list",dict:=none,data:=.seq ([] : List Value).toArray } = Hq at hns₁ hsb₁ ⊢
  have hC : Hq.objs.size = s2.heap.objs.size + 1 := by rw [← hHp,Heap.size_push]
  have hDC : s2.heap.objs.size≠Hq.objs.size := by rw [hC]; exact Nat.ne_of_lt (Nat.lt_succ_self _)
  have below : ∀ b,b < s2.heap.objs.size→b≠Hq.objs.size∧b≠s2.heap.objs.size:=fun b hb => ⟨by rw [hC]; exact Nat.ne_of_lt (Nat.lt_succ_of_lt hb),Nat.ne_of_lt hb⟩
  have old : ∀ b o,s2.heap.get? b = some o→h₁.get? b = some o:=fun b o e => hsb₁.extBut b o (below b (Heap.lt_size e)).1 (Heap.get?_push_of_some _ (hHp ▸ Heap.get?_push_of_some _ e))
  have hacc : h₁.get? s2.heap.objs.size = some { cls:=.type "list",data:=.seq ([] : List Value).toArray }:=hsb₁.extBut _ _ hDC (Heap.get?_push_of_some _ (hHp ▸ Heap.get?_push_size _ rfl))
  have hD2 : H2 s2.heap.objs.size = none:=I2.hok.fresh (Nat.le_refl _)
  have hC2 : H2 Hq.objs.size = none:=I2.hok.fresh (by rw [hC]; exact Nat.le_succ _)
  have fpo : ∀ b∈fp,b < s2.heap.objs.size:=fun b hb => by
    obtain ⟨o,e,_⟩:=T.obj _ _ st2 b hb
    exact Heap.lt_size e
  obtain ⟨W,⟨m0,w0⟩,turn⟩:=W s2.heap.objs.size hD2
  have ok : (cxComp X scope cl N Hq.objs.size s2 H2 fp).Ok := by
    refine ⟨I2.ok.mod,S.kind,I2.ok.glob,I2.ok.blt,by show s2.heap.objs.size≤Hq.objs.size; rw [hC]; exact Nat.le_succ _,?_,?_,?_,fun _ => I2.ok.hd hcalm,I2.ok.frames,.inl rfl,?_,I2.bs,Nat.le_trans I2.ok.bsz I2.sz,?_,?_,I2.stack,I2.stkFree,I2.kt⟩
    · exact fun a b c h1 h2 => I2.ok.inj a b c (c1 _ _ h1) (c1 _ _ h2)
    · intro y hy
      obtain ⟨k,hm,rfl⟩:=relabel_kind S.cell hy
      exact c2 _ hm rfl
    · intro y c hf
      cases hf
    · intro b hb
      refine ⟨(below b (fpo b hb)).1,fun y c e => ?_⟩
      obtain ⟨_,_,_,_,f5,_⟩:=f2 b hb
      exact f5 y c (c1 _ _ e)
    · intro b o e hb
      obtain ⟨_,_,_,f4,_,_⟩:=f2 b hb
      rcases f4 with z | z
      · exact I2.ok.noex b o e z
      · exact absurd (Nat.lt_of_lt_of_le (Heap.lt_size e) (Nat.le_trans I2.ok.bsz z)) (Nat.lt_irrefl _)
    · intro b hb hs
      obtain ⟨_,f1,f3,_⟩:=f2 b hb
      rcases List.mem_cons.mp (I2.stkSub b hs) with z | z
      · exact f1 z
      · exact f3 z
  have I4 : Inv (cxComp X scope cl N Hq.objs.size s2 H2 fp) [] (carry fr σ) (upd H2 s2.heap.objs.size (.lst [])) { s2 with heap:=h₁,toks:=s2.toks + ([] : List (Str×Value)).length } := by
    refine ⟨ok,rfl,I2.bare,Un.laid old (Nat.le_refl _) hD2,⟨_,hns₁,fun i y v h1 h2 h3 => ?_⟩,fun y c e => ?_,?_,fun y c e => ?_,fun p hp => (by cases hp),I2.hok.laid old (Nat.le_refl _) ⟨Nat.zero_le _,[],0,.nil,hacc⟩,?_⟩
    · obtain ⟨j,e1,e2⟩:=carry_get h2
      obtain ⟨n,n1,n2,n3,n4⟩:=frOk_get hfr e1
      rw [Nat.zero_add] at n1
      have : y = n := by
        have h1' : N[i]? = some y:=h1
        rw [h1'] at n1; exact Option.some.inj n1
      subst this
      obtain ⟨m,hn,hl⟩:=I2.loc
      obtain ⟨u,ru,lk⟩:=hl j y v n2 e2 (.inr (.inl n4))
      refine ⟨u,ru,?_⟩
      obtain ⟨c,hc⟩:=c2 _ (lookup_mem n3) rfl
      rcases lk with ⟨k1,_⟩ | ⟨_,c',hc',hcell⟩
      · have k1' : X.env.scope.names.lookup y = some .local:=k1
        rw [n4] at k1'; cases k1'
      · have:=c1 _ _ hc
        rw [hc'] at this; cases this
        refine .inr ⟨?_,c,hc,hcell.keeps old⟩
        rcases h3 with z | z | z
        · obtain ⟨k,hm⟩ : ∃ k,(y,k)∈scope.names∧k = NameKind.local := by
            have hm:=lookup_mem z
            have hm' : (y,NameKind.local)∈(relabel scope X.env).names:=hm
            unfold relabel at hm'
            obtain ⟨⟨m',k⟩,hy,e⟩:=List.mem_map.mp hm'
            dsimp only at e
            by_cases hcond : (k == NameKind.free && X.env.scope.kind == .function && X.env.kindOf m' == some .cell) = true
            · rw [if_pos hcond] at e; injection e with _ e2'; cases e2'
            · rw [if_neg hcond] at e; injection e with e1' e2'; subst e1' e2'; exact ⟨_,hy,rfl⟩
          obtain ⟨hm,rfl⟩:=hm
          have:=S.names _ hm rfl
          rw [n3] at this; cases this
        · exact .inl z
        · exact .inr z
    · obtain ⟨v,z⟩:=I2.cell y c (c1 _ _ e)
      exact ⟨v,z.keeps old⟩
    · show upd H2 s2.heap.objs.size _ Hq.objs.size = none
      rw [upd_ne (Ne.symm hDC)]; exact hC2
    · obtain ⟨v,o,ho,_⟩:=I2.cell y c (c1 _ _ e)
      rw [upd_ne (below c (Heap.lt_size ho)).2]
      exact I2.freeC y c (c1 _ _ e)
    · show (carry fr σ).length = N.length
      unfold carry
      rw [List.length_map]; exact hlen
  have fpX : ∀ (p : List (Addr×Obj)) (H' : Hp),(∀ q∈p,q.1∈fp→False)→(∀ b∈fp,H' b = none)→∀ b∈fp,FpOk (cxComp X scope cl N Hq.objs.size s2 H2 fp) p H' b:=fun p H' hp hn b hb => by
    obtain ⟨_,f1,f3,f4,f5,_⟩:=f2 b hb
    refine ⟨hn b hb,(below b (fpo b hb)).1,fun hs => ok.exfs b hb hs,.inl hb,fun y c e => f5 y c (c1 _ _ e),fun q hq e => ?_⟩
    exact hp q hq (e ▸ hb)
  have hxv : (relabel scope X.env).names.lookup x = some .local:=lookup_relabel_local S.loc
  have loop : ∀ s₃ : Shared,s₃ = { s2 with heap:=h₁,toks:=s2.toks + ([] : List (Str×Value)).length } →
      codeAny (model X.prog X.w) X.A (.compLoop (.ListComp elt [⟨tgE,iter,ifs,0⟩] scope pos) 0 (.ref it) (.ref s2.heap.objs.size) (compEnvC scope cl Hq.objs.size X.env)) (RR (.ref s2.heap.objs.size) Hq.objs.size) s₃ := by
    rintro s₃ rfl
    refine codeAny_compLoop_testsT (fun n s' => ∃ i ys σ' H',Inv (cxComp X scope cl N Hq.objs.size s2 H2 fp) [] σ' H' s'∧Rv σ'∧tn i s'.heap∧(∀ b∈fp,H' b = none)∧W i n ys H') ?_ m0
      ⟨0,[],carry fr σ,_,I4,r0,T.keep _ _ _ st2 fun b _ o e => old b o e,fun b hb => by rw [upd_ne (below b (fpo b hb)).2]; exact (f2 b hb).1,w0⟩
    rintro n s3 ⟨i,ys,σ3,H3,I3,hσ,st3,fr3,w3⟩
    obtain ⟨hD3,way⟩:=turn i n ys H3 w3
    rcases way with ⟨stop,qn⟩ | ⟨go,hsz,step⟩
    · refine wpAny_mono (T.done (cxComp X scope cl N Hq.objs.size s2 H2 fp) rfl rfl rfl hcalm i [] s3 σ3 H3 (fun _ _ => False) I3 (fpX [] H3 (fun _ z => by cases z) fr3) st3 stop) (fun r s4 ⟨hr,I5⟩ => ?_) fun _ _ z => z.elim
      subst hr
      obtain ⟨m,hn,_⟩:=id I5.loc
      refine fin _ _ s4 H3 m hn qn (fun h' hs' => ?_) (Ne.symm hDC) (fun b o e => (below b (Heap.lt_size e)).1) I5.free (by rw [hC]; exact Nat.le_succ _)
      have nC : ∀ b u,H3 b = some u→b≠Hq.objs.size:=fun b u e z => by
        have:=I5.free
        rw [show (cxComp X scope cl N Hq.objs.size s2 H2 fp).env.locals = Hq.objs.size from rfl,← z,e] at this
        cases this
      have keepU : Un (frs X.stack) fp H2 H3 s2.heap h' := by
        have u:=I5.base
        refine ⟨fun b o e n hb hx => ?_,fun b o e n hb hx => ?_,fun b o e n hx => u.free b o e n hx,fun b o e hx => ?_,u.tups,u.frzs,u.tbls,fun b xs o q e hx => (hs'.2 b (below b (Heap.lt_size e)).1).trans (u.tupo b xs o q e hx)⟩
        · exact (hs'.2 b (below b (Heap.lt_size e)).1).trans (u.keep b o e n hb hx)
        · obtain ⟨sl,e1⟩:=u.slot b o e n hb hx
          exact ⟨sl,(hs'.2 b (below b (Heap.lt_size e)).1).trans e1⟩
        · obtain ⟨o',e1⟩:=u.there b o e hx
          exact ⟨o',(hs'.2 b (below b (Heap.lt_size e)).1).trans e1⟩
      have hok' : HOk X.prog X.w H3 h':=fun b u e => (I5.hok b u e).stay (fun c v hc q => (hs'.2 c (by
        rcases hc with rfl | hc
        · exact nC _ _ e
        · exact nC _ _ hc)).trans q) (fun _ q => q) fun _ _ q => q
      refine I2.call' (s':={ s4 with heap:=h' }) (ch:=fp) I5.os keepU hok' I5.bare fun b hb => ?_
      obtain ⟨_,f1,_,f4,f5,f6⟩:=f2 b hb
      exact ⟨f4,f1,f5,f6⟩
    · refine wpAny_mono (T.item (cxComp X scope cl N Hq.objs.size s2 H2 fp) rfl rfl rfl hcalm i [] s3 σ3 H3 (fun _ _ => False) I3 (fpX [] H3 (fun _ z => by cases z) fr3) st3 go) (fun r s4 ⟨u,hr,h4⟩ => ?_) fun _ _ z => z.elim
      subst hr
      show wpAny (model X.prog X.w) X.A (letOwnedTupleGo tgE (.ref it) u >>= fun _ => assign tgE (compEnvC scope cl Hq.objs.size X.env) u) _ _ s4
      refine wpAny_bind (wpAny_mono h4 (fun _ s5 ⟨xv,H5,I5,r5,y5,st5,fr5⟩ => ?_) fun _ _ z => z.elim)
      have I5':=I5.pinned (fpX [] H5 (fun _ z => by cases z) fr5) (T.obj _ _ st5)
      refine wpAny_mono (hpg _ _ s5 σ3 H5 xv u _ I5' r5 (step xv H5 y5 σ3 hσ)) (fun _ s6 ⟨σ6,H6,I6,rv6,step5⟩ => ?_) fun _ _ z => z.elim
      refine wpAny_mono (hif _ _ _ _ _ _ s6 _ H6 _ I6 step5) (fun b s7 ⟨H7,I7,q7⟩ => ?_) fun _ _ z => z.elim
      have again : ∀ {s8 : Shared} {H8 : Hp} {k : Nat} {zs : List V},Inv (cxComp X scope cl N Hq.objs.size s2 H2 fp) ([] ++ pinsAt fp s5.heap) σ6 H8 s8→W (i + 1) k zs H8→k < n →
          ∃ m,m < n∧∃ i ys σ' H',Inv (cxComp X scope cl N Hq.objs.size s2 H2 fp) [] σ' H' s8∧Rv σ'∧tn i s8.heap∧(∀ b∈fp,H' b = none)∧W i m ys H':=fun {s8 H8 k zs} I8 w8 hk => by
        refine ⟨k,hk,i + 1,zs,_,H8,I8.unpinned,rv6,T.keep _ _ _ st5 fun b hb o e => (I8.pin (b,o) (List.mem_append_right _ (List.mem_append_right _ (mem_pinsAt hb e)))).1,fun b hb => ?_,w8⟩
        obtain ⟨o,e,d⟩:=T.obj _ _ st5 b hb
        exact (I8.pin (b,o) (List.mem_append_right _ (List.mem_append_right _ (mem_pinsAt hb e)))).2.1
      cases b with
      | false =>
        rw [if_neg Bool.false_ne_true] at q7 ⊢
        obtain ⟨k,hk,w7⟩:=q7
        exact again I7 w7 hk
      | true =>
        rw [if_pos rfl] at q7 ⊢
        refine wpAny_mono (he _ _ _ _ _ _ s7 _ H7 _ I7 q7) (fun yv s8 ⟨y,H8,I8,r8,hD8,k,hk,w8⟩ => ?_) fun _ _ z => z.elim
        refine wpAny_mono (mt_append (X:=cxComp X scope cl N Hq.objs.size s2 H2 fp) _ s8 _ H8 (.ref s2.heap.objs.size) [y] (.ref s2.heap.objs.size) [yv] (fun _ H9 => H9 = upd H8 s2.heap.objs.size (.lst (ys ++ [y]))) I8 rfl (.cons r8 .nil) ⟨_,ys,y,rfl,rfl,hD8,hsz,rfl⟩) (fun _ s9 ⟨_,H9,I9,_,e9⟩ => ?_) fun _ _ z => z.elim
        subst e9
        exact again I9 w8 hk
  exact codeAny_compStart_list (loop _ rfl) (T.self X.A 0 _ _ _ (T.keep _ _ _ st2 fun b _ o e => old b o e) (loop _ rfl))
theorem comp_block {pins : List (Addr×Obj)} {σ : St} {H2 : Hp} {s2 : Shared} {Q : VK} {it : Addr} {fp : List Addr} {tn : Nat→Heap→Prop} {J : It} {cl : List (Str×Addr)} {E : Value→Shared→Prop} {RR : Value→Addr→Result→Shared→Prop}
    (S : CompScope scope N x ix) (hcalm : X.calm = true) (hfr : frOk N X.N scope X.env.scope fr 0 = true) (hlen : fr.length = N.length)
    (hif : ∀ cl C s₀ H₀ fp,PIf (cxComp X scope cl N C s₀ H₀ fp) ifs tif) (he : ∀ cl C s₀ H₀ fp,PE (cxComp X scope cl N C s₀ H₀ fp) elt te)
    (I2 : Inv X pins σ H2 s2) (T : Turn X.prog X.w X.K (.Name x px) J fp it tn) (st2 : tn 0 s2.heap) (f2 : ∀ b∈fp,FpOk X pins H2 b)
    (c1 : ∀ x c,cl.lookup x = some c→X.env.cells.lookup x = some c) (c2 : ∀ x∈scope.names,x.2 = NameKind.free→∃ c,cl.lookup x.1 = some c)
    (W : ∀ D,H2 D = none→∃ W : Nat→Nat→List V→Hp→Prop,(∃ m,W 0 m [] (upd H2 D (.lst []))) ∧
      ∀ i m ys H,W i m ys H→H D = some (.lst ys)∧((J.stop i H∧Q (.ref D) H)∨(J.go i H∧ys.length < sizeLine∧∀ x H',J.yld i H x H' →
        tif ((carry fr σ).set ix (some x)) H' fun b H2 => if b = true then te ((carry fr σ).set ix (some x)) H2 fun y H3 => H3 D = some (.lst ys)∧∃ m',m' < m∧W (i + 1) m' (ys ++ [y]) (upd H3 D (.lst (ys ++ [y])))
          else ∃ m',m' < m∧W (i + 1) m' ys H2)))
    (fin : ∀ (D C : Addr) (s' : Shared) (H' : Hp) m,s'.heap.Ns C m→Q (.ref D) H'→(∀ h',Heap.SameBut C s'.heap h'→Inv X pins σ H' { s' with heap:=h' })→C≠D→(∀ b o,s2.heap.get? b = some o→b≠C)→H' C = none→s2.heap.objs.size≤C→RR (.ref D) C (.ok .next) s') :
    wpAny (model X.prog X.w) X.A (newList []) (fun acc s₃ => wpAny (model X.prog X.w) X.A (newFunctionEnv scope X.env.globals cl [] X.env.qual none .none (some X.env)) (fun cenv s₄ =>
      codeAny (model X.prog X.w) X.A (.compStart (.ListComp elt [⟨.Name x px,iter,ifs,0⟩] scope pos) 0 (.ref it) acc { cenv with scope:=relabel scope X.env }) (RR acc cenv.locals) s₄) E s₃) E s2 := by
  have hxv : (relabel scope X.env).names.lookup x = some .local:=lookup_relabel_local S.loc
  refine comp_blockG S hcalm (fun σ' => ∀ v,σ'.set ix v = (carry fr σ).set ix v) (fun _ => rfl) (fun C => pg_name (X:=cxComp X scope cl N C s2 H2 fp) S.nd S.at_ (.inl hxv) (.inr hxv)) hfr hlen hif he I2 T st2 f2 c1 c2 (fun D hD => ?_) fin
  obtain ⟨W,w0,st⟩:=W D hD
  refine ⟨W,w0,fun i m ys H w => ?_⟩
  obtain ⟨h1,h2 | ⟨h2,h3,h4⟩⟩:=st i m ys H w
  · exact ⟨h1,.inl h2⟩
  · refine ⟨h1,.inr ⟨h2,h3,fun x H' hy σ' hr => ?_⟩⟩
    have:=h4 x H' hy
    rw [← hr] at this
    exact ⟨fun v => by rw [List.set_set,hr],this⟩
theorem pe_comp (S : CompScope scope N x ix) (hcalm : X.calm = true) (hfr : frOk N X.N scope X.env.scope fr 0 = true) (hlen : fr.length = N.length) (hfree : ∀ y∈scope.names,y.2 = .free→X.env.scope.names.lookup y.1 = some .cell∨X.env.scope.names.lookup y.1 = some .free)
    (hi : PI X (.Name x px) iter wi) (hif : ∀ cl C s₀ H₀ fp,PIf (cxComp X scope cl N C s₀ H₀ fp) ifs tif) (he : ∀ cl C s₀ H₀ fp,PE (cxComp X scope cl N C s₀ H₀ fp) elt te)
    (hs : ∀ x,foldedSetIterable iter X.env x = pure x := by intro _; rfl) : PE X (.ListComp elt [⟨.Name x px,iter,ifs,0⟩] scope pos) (tComp wi fr ix tif te) := by
  intro pins s σ H Q I hw
  obtain ⟨cl,hclos,c1,_,c2⟩:=closure_of (env:=X.env) scope.names [] (fun y hy hf => I.ok.has y.1 (hfree y hy hf)) (fun y c z => by cases z)
  have hclos' : closureFor scope X.env = pure cl := by
    have e : closureFor scope X.env = ((forIn scope.names [] (fun (x : Str×NameKind) (r : List (Str×Addr)) => do if (x.2 == NameKind.free) = true then do let a ← cellOf X.env x.1; pure (ForInStep.yield ((x.1,a) :: r)) else pure (ForInStep.yield r)) : Sem (List (Str×Addr))) >>= fun cs => pure cs):=rfl
    rw [e,hclos]
    rfl
  rw [eval_ListComp]
  refine wpAny_comprehension_free (use:=none) rfl hs hclos' S.kind S.names (thn (hi pins s σ H _ I hw) fun v s1 h1 => thn h1 fun itv s2 h2 => ?_)
  obtain ⟨it,fp,tn,J,H2,e,I2,T,st2,f2,W⟩:=h2
  subst e
  refine comp_block (RR:=fun acc C => compPost (model X.prog X.w) X.A X.xe none (EP X pins σ Q) acc C) S hcalm hfr hlen hif he I2 T st2 f2 c1 c2 W ?_
  intro D C s' H' m hn q hI _ _ _ _
  exact ⟨m,hn,fun h' hs' => ⟨.ref D,H',hI h' hs',rfl,q⟩⟩
end
end L2
namespace FM
def gi (a b : Int) : Int:=(Int.gcd a b : Int)
theorem gcd_step (a b : Int) : Int.gcd b (a.fmod b) = Int.gcd a b := by
  have e : a.fmod b = a - b * a.fdiv b:=Int.fmod_def a b
  rw [e,Int.gcd_comm a b]
  exact Int.gcd_sub_mul_left_right b a (a.fdiv b)
theorem fmod_less (a b : Int) (hb : b≠0) : (a.fmod b).natAbs < b.natAbs := by
  rcases Int.lt_or_gt_of_ne hb with h | h
  · have h1 : -(a.fmod b) = (-a).fmod (-b) := by
      rw [Int.fmod_def,Int.fmod_def,Int.neg_fdiv_neg]
      have : -b * a.fdiv b = -(b * a.fdiv b):=Int.neg_mul _ _
      lia
    have h2:=Int.fmod_nonneg_of_pos (-a) (show 0 < -b by lia)
    have h3:=Int.fmod_lt_of_pos (-a) (show 0 < -b by lia)
    lia
  · have h2:=Int.fmod_nonneg_of_pos a h
    have h3:=Int.fmod_lt_of_pos a h
    lia
end FM
namespace FM
theorem gcd_abs (a b : Int) : Int.gcd (if a < 0 then -a else a) (if b < 0 then -b else b) = Int.gcd a b := by
  split <;> split <;> simp [Int.gcd_neg,Int.neg_gcd]
theorem abs_nonneg (a : Int) : 0≤(if a < 0 then -a else a) := by split <;> lia
theorem gi_end {g a b : Int} (h : Int.gcd g 0 = Int.gcd a b) (h0 : 0≤g) : g = gi a b := by
  unfold gi
  rw [← h,Int.gcd_zero_right]
  lia
theorem fmod_nonneg {g l : Int} (hl : l≠0) (h : 0≤l) : 0≤g.fmod l:=Int.fmod_nonneg_of_pos g (by lia)
end FM
namespace L2
open PySem PySem.Spec PyProof.Rows
structure Fn (K : PySem.W.Frag) (mg : Str→Option Value) (x : Str) (st : Stmt) (ps : List Str) (f : Addr) (fd : FuncData) : Prop where
  F : Fun K x x st f fd
  b : Binds K fd ps []
  m : mg x = some (.ref f)
section
variable {X : Cx} {k : Nat} {f : Addr} {fd : FuncData} {ps : List Str} {sp : Sp} {x : Str} {st : Stmt} {p pos : Pos} {e : Expr} {es : List Expr} {t : TA}
theorem pe_fn (T : Fn X.K X.mg x st ps f fd) (G : FnOk X.prog X.w X.K X.mg X.base CX0 k f fd ps sp) (hr : Room k X.A) (hg : Gl X x) (ha : PA X (e :: es) t)
    (hdb : (x == ("__debug__" : Str)) = false := by decide) (he : starEach (e :: es) X.env = (false,eval e X.env) :: starEach es X.env := by rfl) (hpl : (backTo pos (starEach es X.env)).any (·.1) = false := by rfl) :
    PE X (.Call (.Name x p) (e :: es) [] pos) (tCall sp [] E0 t):=pe_call G hr hg T.m T.F.kp T.b .nil pass0 ha hdb he hpl
end
theorem seq_join {t u : TS} {D : Ends} {σ : St} {H : Hp} (P : St→Hp→Prop) (h1 : ∀ nx : St→Hp→Prop,(∀ σ' H',P σ' H'→nx σ' H')→t { D with nx:=nx } σ H) (h2 : ∀ σ' H',P σ' H'→u D σ' H') : tSeq t u D σ H:=h1 _ h2
theorem sz2 : 2≤sizeLine := by decide
theorem sz1 : 1≤sizeLine := by decide
theorem same_new {H : Hp} {p : Addr} (h : H p = none) (o : HO) : Same H (upd H p o):=fun b u q => by rw [upd_ne (ne_of_none q h)]; exact q
def SameBut (l : Addr) (H H' : Hp) : Prop:=∀ b o,b≠l→H b = some o→H' b = some o
theorem SameBut.of {l : Addr} {H H' : Hp} (h : Same H H') : SameBut l H H':=fun b o _ q => h b o q
theorem SameBut.upd {l : Addr} {H : Hp} {o : HO} : SameBut l H (upd H l o):=fun b u n q => by rw [upd_ne n]; exact q
theorem ObjOk.get {P : Program} {w : World} {H : Hp} {h : Heap} {a : Addr} {o : HO} (x : ObjOk P w H h a o) : ∃ u,h.get? a = some u := by
  cases o with
  | lst xs => obtain ⟨_,_,_,_,e⟩:=x; exact ⟨_,e⟩
  | tup xs => obtain ⟨_,_,_,o,e,_⟩:=x; exact ⟨o,e⟩
  | dK kvs => obtain ⟨_,_,_,_,o,_,_,e,_⟩:=x; exact ⟨o,e⟩
  | dT kvs => obtain ⟨_,_,_,_,o,_,_,e,_⟩:=x; exact ⟨o,e⟩
  | set S n => obtain ⟨o,_,_,_,e,_⟩:=x; exact ⟨o,e⟩
  | ins C dx fs => obtain ⟨_,_,_,e,_⟩:=x; exact ⟨_,e⟩
  | own y => obtain ⟨o,e⟩:=x; exact ⟨o,e⟩
  | xd fs => obtain ⟨_,⟨o,_,_,e,_⟩,_⟩:=x; exact ⟨o,e⟩
  | rng lo hi => obtain ⟨_,_,_,e⟩:=x; exact ⟨_,e⟩
  | frz ob u => obtain ⟨e,_⟩:=x; exact ⟨_,e⟩
  | tbl ps => exact ⟨_,(show h.get? a = some _ from x)⟩
  | met f y => exact ⟨_,(show h.get? a = some _ from x)⟩
  | ext φ => obtain ⟨_,⟨o,e⟩,_⟩:=x; exact ⟨o,e⟩
structure FlyB (P : Program) (w : World) (outer : List Env) (H : Hp) (s : Shared) (ea : Addr) (cls a0 : Value) (H' : Hp) (s' : Shared) (B : Heap) : Prop where
  os : s'.os = s.os
  bare : AllBare s'.gens
  fly : Heap.FlyingW B outer ea cls a0 s'.heap
  keep : ∀ b o,s.heap.get? b = some o→H b = none→b ∉ frs outer→B.get? b = some o
  there : ∀ b o,s.heap.get? b = some o→b ∉ frs outer→∃ o',B.get? b = some o'
  slot : ∀ b o,s.heap.get? b = some o→b∈frs outer→∃ sl,s'.heap.get? b = some { o with slots:=sl }
  free : ∀ b o,s.heap.get? b = some o→H b = none→H' b = none
  tups : ∀ b xs,H b = some (.tup xs)→H' b = some (.tup xs)
  frzs : ∀ b o u,H b = some (.frz o u)→H' b = some (.frz o u)
  tbls : ∀ b ps,H b = some (.tbl ps)→∃ more,H' b = some (.tbl (ps ++ more))
  tupo : ∀ b xs o,H b = some (.tup xs)→s.heap.get? b = some o→B.get? b = some o
  hok : HOk P w H' B
  new : s.heap.get? ea = none
def CXW (P : Program) (w : World) : CXT:=fun outer H s E e s' => ∃ ea cls a0 H' B,e = .ref ea∧FlyB P w outer H s ea cls a0 H' s' B∧E cls none H'
theorem frs_data {base h : Heap} {l : List Env} (F : h.FunFrames base l) {b : Addr} (hb : b∈frs l) : ∃ o,h.get? b = some o∧∀ vs,o.data≠.fields vs:=(F.mem hb).2
section
variable {P : Program} {w : World} {K : PySem.W.Frag} {mg : Str→Option Value} {base : Heap} {N : List Str} {qual : Str} {scope : Scope} {f : Addr} {cd : Value} {A : Around} {outer : List Env} {s : Shared} {H : Hp} {E : XK}
theorem xe_made {pins : List (Addr×Obj)} {σ : St} {H1 : Hp} {s1 : Shared} {h' : Heap} {ea : Addr} {cls : Value} {args : List Value} (I : Inv (cxOf (CXW P w) P w K mg base N qual scope f cd A outer s H E) pins σ H1 s1)
    (hx : Heap.MadeExcOf s1.heap h' ea cls args) (hE : E cls none H1) : (cxOf (CXW P w) P w K mg base N qual scope f cd A outer s H E).xe (.ref ea) { s1 with heap:=h' } := by
  show wpAny (model P w) (A.deeper (envOfC qual scope s.heap.objs.size f cd)) (leaving (envOfC qual scope s.heap.objs.size f cd) (.ref ea)) _ _ _
  have FF:=I.stack
  have hfr : (A.deeper (envOfC qual scope s.heap.objs.size f cd)).frames = some (envOfC qual scope s.heap.objs.size f cd :: outer):=I.ok.frames
  have hin : ∀ env∈(envOfC qual scope s.heap.objs.size f cd :: outer),∀ b,env.frame = some b→b∈(envOfC qual scope s.heap.objs.size f cd :: outer).filterMap (·.frame):=fun env he b hb => List.mem_filterMap.mpr ⟨env,he,hb⟩
  have notL : ∀ b o,s.heap.get? b = some o→b≠s.heap.objs.size:=fun b o e => Nat.ne_of_lt (Heap.lt_size e)
  have out : ∀ b,b≠s.heap.objs.size→b ∉ frs outer→b ∉ (envOfC qual scope s.heap.objs.size f cd :: outer).filterMap (·.frame):=fun b h1 h2 hm => by
    rcases List.mem_cons.mp (I.stkSub b hm) with z | z
    · exact h1 z
    · exact h2 z
  have outT : ∀ b u,H1 b = some u→b ∉ (envOfC qual scope s.heap.objs.size f cd :: outer).filterMap (·.frame):=fun b u e hm => by
    have:=I.stkFree b hm
    rw [e] at this; cases this
  refine wpAny_leaves_madeW (base:=PySem.W.hideAll s1.heap ((envOfC qual scope s.heap.objs.size f cd :: outer).filterMap (·.frame))) hfr rfl (fun b o q => PySem.W.of_hideAll _ q) (PySem.W.funFrames_hide FF hin) hx fun h2 t fl _ _ up => ?_
  have hokB : HOk P w H1 (PySem.W.hideAll s1.heap ((envOfC qual scope s.heap.objs.size f cd :: outer).filterMap (·.frame))):=fun b u e =>
    (I.hok b u e).stay (fun c v hc q => PySem.W.hideAll_get _ q (by
      rcases hc with rfl | hc
      · exact outT _ _ e
      · exact outT _ _ hc)) (fun _ q => q) fun _ _ q => q
  refine ⟨ea,cls,.ref t,H1,_,rfl,⟨I.os,I.bare,fl,fun b o e n hb => ?_,fun b o e hb => ?_,fun b o e hb => ?_,fun b o e n => I.base.free b o e n (by simp [cxOf]),I.base.tups,I.base.frzs,I.base.tbls,fun b xs o q e => PySem.W.hideAll_get _ (I.base.tupo b xs o q e (by simp [cxOf])) (outT b _ (I.base.tups b xs q)),hokB,?_⟩,hE⟩
  · exact PySem.W.hideAll_get _ (I.base.keep b o e n hb (by simp [cxOf])) (out b (notL b o e) hb)
  · obtain ⟨o',e1⟩:=I.base.there b o e (by simp [cxOf])
    exact ⟨o',PySem.W.hideAll_get _ e1 (out b (notL b o e) hb)⟩
  · obtain ⟨sl,e1⟩:=I.base.slot b o e (I.ok.frf b hb) hb (by simp [cxOf])
    obtain ⟨o',e2,hd⟩:=frs_data I.funs hb
    rw [e1] at e2
    cases e2
    obtain ⟨sl',e3⟩:=up b _ (hx.keeps _ _ e1) hd
    exact ⟨sl',e3⟩
  · cases q : s.heap.get? ea with
    | none => rfl
    | some o =>
      obtain ⟨o',e1⟩:=I.base.there ea o q (by simp [cxOf])
      have:=hx.new
      rw [e1] at this; cases this
theorem Fun.okW {x : Str} {st : Stmt} {fd : FuncData} {ps : List Str} {k : Nat} {sp : Sp} (F : Fun K x x st f fd) (S : FnScope N ps (defScope st)) (len : ∀ vs H Q E,sp vs H Q E→vs.length = ps.length)
    (hbody : ∀ (cdv : Value) (A : Around) (outer : List Env) (s : Shared) (H : Hp) (vs : List V) (Q : VK) (E : XK),Room k (A.deeper (envOfC x (defScope st) s.heap.objs.size f cdv))→sp vs H Q E →
      ∃ t,PSs (cxOf (CXW P w) P w K mg base N x (defScope st) f cdv A outer s H E) (defBody st) t∧t { nx:=fun _ H' => Q .non H',rt:=Q } (start N vs) H) : FnOk P w K mg base (CXW P w) (k + 1) f fd ps sp := by
  obtain ⟨oc,od,kV,doc,pm,an,cdv,ct,osl,rfl,lk,hcd⟩:=F.ex
  exact fn_of lk hcd S len fun A outer s H vs Q E hr hsp => hbody cdv A outer s H vs Q E hr hsp
end
structure Exc (K : PySem.W.Frag) (mg : Str→Option Value) (x : Str) (C : Addr) : Prop where
  m : mg x = some (.ref C)
  q : PySem.W.excIn K C [.type "ValueError",.type "Exception",.type "BaseException",.type "object"] "ValueError.__new__" = true
theorem exc_obj {K : PySem.W.Frag} {h : Heap} {C : Addr} {bB : List Value} {nid : String} (kin : K.In h) (hq : PySem.W.excIn K C bB nid = true) :
    ∃ tl N nm qn bs hd sn sub ab col dd k0 k1 k2 k3 k5 mN,h.get? C = some (excClassObj nm qn C N bs tl hd sn sub ab col dd k0 k1 k2 k3 k5 nid)∧h.Ns N mN∧mN "__init__" = none∧OwnTail h bB tl := by
  unfold PySem.W.excIn at hq
  split at hq
  · rename_i dd cd sl lk
    split at hq
    · rename_i C1 tl k0 k1 k2 k3 n1 k5 e1 e2
      simp only [Bool.and_eq_true,beq_iff_eq,Bool.not_eq_true'] at hq
      obtain ⟨⟨⟨⟨⟨y1,y2⟩,y3⟩,y4⟩,y5⟩,y6⟩:=hq
      subst y1 y2
      obtain ⟨nm,bs,mro,N,qn,hd,sn,sub,ab,col,del⟩:=cd
      dsimp only at e1 y3 y5 y6
      subst e1 y3
      have e3 : sl = #[k0,k1,k2,k3,some (.builtin n1),k5] := by
        cases sl with
        | mk l => simp only at e2; rw [e2]
      subst e3
      exact ⟨tl,N,nm,qn,bs,hd,sn,sub,ab,col,dd,k0,k1,k2,k3,k5,_,kin _ _ lk,.of_isNs (PySem.W.isNs_of_in kin y5),PySem.W.nsMap_none_of_in kin y5 y6,PySem.W.tail_of_in kin y4⟩
    · cases hq
  · cases hq
section
variable {X : Cx} {x : Str} {C : Addr} {np cpos pos : Pos} {e : Expr} {te : TE} {E : XK}
def Lets (X : Cx) (E : XK) : Prop:=∀ (pins : List (Addr×Obj)) (σ : St) (H : Hp) (s : Shared) (h' : Heap) (ea : Addr) (cls : Value) (args : List Value),Inv X pins σ H s→Heap.MadeExcOf s.heap h' ea cls args→E cls none H→X.xe (.ref ea) { s with heap:=h' }
def tRaise (C : Addr) (E : XK) (te : TE) : TS:=fun _ σ H => te σ H fun _ H1 => E (.ref C) none H1
theorem ps_raise (T : Exc X.K X.mg x C) (hL : Lets X E) (hcalm : X.calm = true) (hg : Gl X x) (he : PE X e te) (hd : (x == ("__debug__" : Str)) = false := by decide)
    (hst : starEach [e] X.env = [(false,eval e X.env)] := by rfl) : PS X (.Raise (some (.Call (.Name x np) [e] [] cpos)) none pos) (tRaise C E te) := by
  intro pins s σ H D I h
  obtain ⟨tl,N,nm,qn,bs,hdct,sn,sub,ab,col,dd,k0,k1,k2,k3,k5,mN,hC,hN,hni,TL⟩:=exc_obj I.ok.mod.kin T.q
  refine wpAny_Raise_call_subT (C:=C) (nm:=nm) (q:=qn) (N:=N) (bs := bs) (bm:=tl) (hdct:=hdct) (sn:=sn) (sub:=sub) (ab:=ab) (col:=col) (dd:=dd) (k0:=k0) (k1:=k1) (k2:=k2) (k3:=k3) (k5:=k5)
    PySem.F.excBase_ValueError (mN:=mN) (TL.hasType (by decide)) (I.ok.hd hcalm) (by rw [hst]; rfl) hni (ld_glob I hg T.m ⟨rfl,?_⟩ hd)
  rw [hst]
  refine Calls.evalArgs_plain (Calls.spliced_cons (thn (he pins s σ H _ I h) fun u s1 ⟨v,H1,I1,r1,q1⟩ => Calls.spliced_nil ?_))
  exact ⟨rfl,by show 1≤sizeLine; decide,I1.bk _ _ hC,hN.keeps I1.bk,TL.keeps I1.bk,fun h' ea hm => hL pins σ H1 s1 h' ea _ _ I1 hm q1⟩
end
def FlyAt (X : Cx) (pins : List (Addr×Obj)) (σ : St) (E : XK) (e : Value) (s' : Shared) : Prop:=∃ H0 s0,Inv X pins σ H0 s0∧CXW X.prog X.w X.stack H0 s0 E e s'
abbrev TX:=St→Hp→VK→XK→Prop
def PEX (X : Cx) (e : Expr) (t : TX) : Prop :=
  ∀ (pins : List (Addr×Obj)) (s : Shared) (σ : St) (H : Hp) (Q : VK) (E : XK),Inv X pins σ H s→t σ H Q E→wpAny (model X.prog X.w) X.A (eval e X.env) (EP X pins σ Q) (FlyAt X pins σ E) s
section
variable {X : Cx} {k : Nat} {f : Addr} {fd : FuncData} {ps : List Str} {sp : Sp} {x : Str} {st : Stmt} {p pos : Pos} {e : Expr} {es : List Expr} {t : TA}
def tCallX (sp : Sp) (t : TA) : TX:=fun σ H Q E => t σ H fun vs H1 => sp (vs ++ []) H1 Q E
theorem run_fnX {pins : List (Addr×Obj)} {σ : St} {H : Hp} {s : Shared} {Q : VK} {E : XK} {us : List Value} {vs : List V} (F : FnOk X.prog X.w X.K X.mg X.base (CXW X.prog X.w) k f fd ps sp) (hr : Room k X.A) (hb : Binds X.K fd ps [])
    (I : Inv X pins σ H s) (r : Vals vs us) (h : sp (vs ++ []) H Q E) : wpAny (model X.prog X.w) X.A (call (.ref f) us) (EP X pins σ Q) (FlyAt X pins σ E) s := by
  rw [List.append_nil] at h
  have hl : (us ++ []).length = ps.length := by rw [List.append_nil,← r.length]; exact F.len _ _ _ _ h
  have hb':=hb s us I.kIn hl
  rw [List.append_nil] at hb'
  refine wpAny_call (codeAny_mono (F.run X.A X.stack s H ⟨us,[]⟩ us vs Q E hr I.env0 hb' r h) fun r s' hq => ?_)
  cases r with
  | error e => exact ⟨H,s,I,hq⟩
  | ok fl =>
    cases fl with
    | ret u => exact I.after hq
    | next => exact False.elim hq
    | brk => exact False.elim hq
    | cont => exact False.elim hq
theorem pex_fn (T : Fn X.K X.mg x st ps f fd) (G : FnOk X.prog X.w X.K X.mg X.base (CXW X.prog X.w) k f fd ps sp) (hr : Room k X.A) (hg : Gl X x) (ha : PA X.nox (e :: es) t)
    (hdb : (x == ("__debug__" : Str)) = false := by decide) (he : starEach (e :: es) X.env = (false,eval e X.env) :: starEach es X.env := by rfl) (hpl : (backTo pos (starEach es X.env)).any (·.1) = false := by rfl) :
    PEX X (.Call (.Name x p) (e :: es) [] pos) (tCallX sp t) := by
  intro pins s σ H Q E I h
  refine wpAny_Call_Name_kw (ld_glob I hg T.m ?_ hdb)
  refine PySem.W.callWith_K (h₀:=X.base) I.ok.mod.kin T.F.kp (wpAny_mono (ha pos pins s σ H _ (I.wish _) h) (fun us s1 ⟨vs,H1,I1,r,q⟩ => ⟨I1.kIn,?_⟩) fun _ _ z => z.elim) he hpl
  exact run_fnX G hr T.b I1.unwish r q
end
theorem land {X : Cx} {pins : List (Addr×Obj)} {σ : St} {H0 H' : Hp} {s0 s' : Shared} {ea : Addr} {cls a0 : Value} {B : Heap} (I : Inv X pins σ H0 s0) (F : FlyB X.prog X.w X.stack H0 s0 ea cls a0 H' s' B)
    {h' : Heap} {tk : Nat} (st : B.StaysIn h') (up : s'.heap.UpToSlots h') : Inv X pins σ H' { s' with heap:=h',toks:=tk } := by
  have fdat : ∀ b o,s0.heap.get? b = some o→b∈frs X.stack→∃ sl,h'.get? b = some { o with slots:=sl }:=fun b o e hb => by
    obtain ⟨sl,e1⟩:=F.slot b o e hb
    obtain ⟨o',e2,hd⟩:=frs_data I.stack hb
    rw [e] at e2; cases e2
    obtain ⟨sl',e3⟩:=up b _ e1 hd
    exact ⟨sl',e3⟩
  refine I.call' (s':={ s' with heap:=h',toks:=tk }) (ch:=[]) F.os ⟨fun b o e n hb _ => st b o (F.keep b o e n hb),fun b o e n hb _ => fdat b o e hb,fun b o e n _ => F.free b o e n,fun b o e _ => ?_,F.tups,F.frzs,F.tbls,fun b xs o q e _ => st b o (F.tupo b xs o q e)⟩ (F.hok.kept st) F.bare fun b z => absurd z (by simp)
  by_cases hb : b∈frs X.stack
  · obtain ⟨sl,e1⟩:=fdat b o e hb
    exact ⟨_,e1⟩
  · obtain ⟨o',e1⟩:=F.there b o e hb
    exact ⟨o',st _ _ e1⟩
def excO (ea : Addr) (cls : Value) : HO:=.ext fun h => ∃ o vs,h.get? ea = some o∧o.cls = cls∧o.data = .fields vs
theorem track {X : Cx} {pins : List (Addr×Obj)} {σ : St} {H0 H' : Hp} {s0 s' s6 : Shared} {ea : Addr} {cls a0 : Value} {B : Heap} (I : Inv X pins σ H0 s0) (F : FlyB X.prog X.w X.stack H0 s0 ea cls a0 H' s' B)
    (I6 : Inv X pins σ H' s6) (ho : ∃ o vs,s6.heap.get? ea = some o∧o.cls = cls∧o.data = .fields vs) : H' ea = none∧Inv X pins σ (upd H' ea (excO ea cls)) s6 := by
  have hn : H' ea = none := by
    cases q : H' ea with
    | none => rfl
    | some u =>
      obtain ⟨o,e⟩:=(F.hok ea u q).get
      rw [F.fly.2.1] at e; cases e
  have ne : ∀ b o,s0.heap.get? b = some o→b≠ea:=fun b o e z => by rw [z,F.new] at e; cases e
  have up : ∀ b,b≠ea→upd H' ea (excO ea cls) b = H' b:=fun b z => upd_ne z
  have neT : ∀ b u,H' b = some u→b≠ea:=fun b u e z => by rw [z,hn] at e; cases e
  refine ⟨hn,I6.ok,I6.os,I6.bare,⟨I6.base.keep,I6.base.slot,fun b o e n hx => ?_,I6.base.there,fun b xs e => ?_,fun b o u e => ?_,fun b ps e => ?_,I6.base.tupo⟩,I6.loc,I6.cell,?_,fun y c e => ?_,fun p hp => ?_,fun b u e => ?_,I6.len⟩
  · obtain ⟨o',e1⟩:=I.base.there b o e hx
    rw [up b (ne b o' e1)]; exact I6.base.free b o e n hx
  · have:=I6.base.tups b xs e
    rw [up b (neT _ _ this)]; exact this
  · have:=I6.base.frzs b o u e
    rw [up b (neT _ _ this)]; exact this
  · obtain ⟨m,e1⟩:=I6.base.tbls b ps e
    exact ⟨m,by rw [up b (neT _ _ e1)]; exact e1⟩
  · obtain ⟨m,⟨o,_,_,e,_⟩,_⟩:=I.loc
    rw [up _ (ne _ o e)]; exact I6.free
  · obtain ⟨v,o,e1,_⟩:=I.cell y c e
    rw [up _ (ne _ o e1)]; exact I6.freeC y c e
  · obtain ⟨e1,e2,e3⟩:=I6.pin p hp
    have e0:=(I.pin p hp).1
    exact ⟨e1,by rw [up _ (ne _ _ e0)]; exact e2,e3⟩
  · by_cases hb : b = ea
    · subst hb
      rw [upd_same] at e
      cases e
      obtain ⟨o,vs,e1,e2,e3⟩:=ho
      exact ⟨⟨o,vs,e1,e2,e3⟩,⟨o,e1⟩,fun h1 h2 ⟨o1,vs1,q1,q2⟩ k => ⟨o1,vs1,k _ q1,q2⟩⟩
    · rw [up b hb] at e
      exact (I6.hok b u e).stay (fun c v _ q => q) (fun c q => by rw [up c (neT _ _ q)]; exact q) fun c xs q => by rw [up c (neT _ _ q)]; exact q
structure Beneath (K : PySem.W.Frag) (C G : Addr) (b : Bool) : Prop where
  cl : (PySem.W.clsIn K G).isSome = true
  ty : PySem.W.typeIn K (.ref G) = some (.type "type")
  ex : PySem.W.subIn K (.ref G) (.type "BaseException") = some true
  sub : PySem.W.subIn K (.ref C) (.ref G) = some b
theorem excMatch {M : Model} {A : Around} {E : Value→Shared→Prop} {s : Shared} {K : PySem.W.Frag} {e C G : Addr} {oe : Obj} {b : Bool} {Q : Bool→Shared→Prop} (X : K.In s.heap) (he : s.heap.get? e = some oe) (hc : oe.cls = .ref C) (B : Beneath K C G b)
    (h : Q b s) : wpAny M A (excMatches (.ref e) (.ref G)) Q E s := by
  have l1 : PySem.W.Looks M s.heap (isInstance (.ref G) (.type "tuple")) false:=(PySem.W.looks_typeIn X B.ty).andThen (PySem.W.Looks.of_pure tc_notTuple)
  have l2 : PySem.W.Looks M s.heap (isType (.ref G)) true := by
    have z:=B.cl
    unfold PySem.W.clsIn at z
    split at z
    · rename_i c' d' cd' sl' ho
      intro A' Q' E' s' k q
      unfold isType loadHead
      exact wpAny_bind (wpAny_loadPart (k _ _ (X _ _ ho)) (wpAny_pure q))
    · cases z
  have l3 : PySem.W.Looks M s.heap (isSubtype (.ref G) (.type "BaseException")) true:=PySem.W.looks_subIn X B.ex
  have l4 : PySem.W.Looks M s.heap (typeOf (.ref e)) (.ref C):=hc ▸ (PySem.W.Looks.ld he).andThen .now
  have l5 : PySem.W.Looks M s.heap (isSubtype (.ref C) (.ref G)) b:=PySem.W.looks_subIn X B.sub
  obtain ⟨hp,g,d,tk,os⟩:=s
  unfold excMatches isExcClass
  refine wpAny_bind (l1.at ?_)
  simp only [Bool.false_eq_true,if_false]
  refine wpAny_bind (wpAny_pure ?_)
  simp only [List.forIn_cons,List.forIn_nil]
  refine wpAny_bind (wpAny_bind (wpAny_bind (wpAny_bind (l2.at ?_))))
  simp only [if_true]
  refine l3.at ?_
  simp only [Bool.not_true,Bool.false_eq_true,if_false]
  refine wpAny_pure (wpAny_pure (wpAny_bind (l4.at (wpAny_bind (wpAny_bind (wpAny_bind (l5.at ?_)))))))
  cases b with
  | true =>
    simp only [if_true]
    exact wpAny_pure (wpAny_pure (wpAny_pure h))
  | false =>
    simp only [Bool.false_eq_true,if_false]
    exact wpAny_pure (wpAny_pure (wpAny_pure h))
def Cx.held (X : Cx) (ea : Addr) : Cx:={ X with A:=X.A.mark (some (.ref ea)),calm:=false,xe:=fun _ _ => False }
theorem Inv.held {X : Cx} {pins : List (Addr×Obj)} {σ : St} {H : Hp} {s : Shared} (I : Inv X pins σ H s) (ea : Addr) : Inv (X.held ea) pins σ H s :=
  ⟨⟨I.ok.mod,I.ok.kind,I.ok.glob,I.ok.blt,I.ok.above,I.ok.inj,I.ok.has,I.ok.cab,fun z => (by cases z),I.ok.frames,I.ok.stk,I.ok.exf,I.ok.bs,I.ok.bsz,I.ok.noex,I.ok.exfs,I.ok.funs,I.ok.frf,I.ok.kt⟩,I.os,I.bare,I.base,I.loc,I.cell,I.free,I.freeC,I.pin,I.hok,I.len⟩
theorem Inv.unheld {X : Cx} {pins : List (Addr×Obj)} {σ : St} {H : Hp} {s : Shared} {ea : Addr} (ok : X.Ok) (I : Inv (X.held ea) pins σ H s) : Inv X pins σ H s :=
  ⟨ok,I.os,I.bare,I.base,I.loc,I.cell,I.free,I.freeC,I.pin,I.hok,I.len⟩
theorem goes {X : Cx} {pins : List (Addr×Obj)} {σ : St} {H : Hp} {s : Shared} {M : Model} {A : Around} {E : Value→Shared→Prop} {i : Nat} {n : Str} {pos : Pos} {Q : Unit→Shared→Prop} (I : Inv X pins σ H s) (hN : X.N.Nodup) (hi : X.N[i]? = some n)
    (hl : X.env.scope.names.lookup n = some .local) (h : ∀ s',Inv X pins (σ.set i none) H s'→Q () s') : wpAny M A (do bindName X.env n .none; unbindBehindTheSuite X.env n pos) Q E s := by
  obtain ⟨m,hn,hlk⟩:=id I.loc
  have hcls : (X.env.scope.kind == .class || (X.env.scope.kind == .module && X.env.locals != X.env.globals)) = false := by rw [I.ok.kind]; rfl
  refine wpAny_nameGoes_keeps hl hn hcls fun h' v hn' hs => h _ ?_
  have hiS : i < σ.length := by rw [I.len]; exact (List.getElem?_eq_some_iff.mp hi).1
  obtain ⟨oL,_,_,hoL,_⟩:=id hn
  have tr : HOk X.prog X.w H h':=fun b ob e => (I.hok b ob e).stay (fun c w' hc q => (hs.2 c (by
    rintro rfl
    rcases hc with hc | hc
    · rw [← hc,I.free] at e; cases e
    · rw [I.free] at hc; cases hc)).trans q) (fun _ q => q) fun _ _ q => q
  refine ⟨I.ok,I.os,I.bare,⟨fun b o e n hb hx => ?_,fun b o e n hb hx => ?_,I.base.free,fun b o e hx => ?_,I.base.tups,I.base.frzs,I.base.tbls,fun b xs o q e hx => (hs.2 b (Nat.ne_of_lt (Nat.lt_of_lt_of_le (Heap.lt_size e) I.ok.above))).trans (I.base.tupo b xs o q e hx)⟩,⟨_,hn',fun j y v' e1 e2 e3 => ?_⟩,fun y c e => ?_,I.free,I.freeC,fun p hp => ?_,tr,by simpa using I.len⟩
  · exact (hs.2 b (Nat.ne_of_lt (Nat.lt_of_lt_of_le (Heap.lt_size e) I.ok.above))).trans (I.base.keep b o e n hb hx)
  · obtain ⟨sl,e1⟩:=I.base.slot b o e n hb hx
    exact ⟨sl,(hs.2 b (Nat.ne_of_lt (Nat.lt_of_lt_of_le (Heap.lt_size e) I.ok.above))).trans e1⟩
  · obtain ⟨o',e1⟩:=I.base.there b o e hx
    exact ⟨o',(hs.2 b (Nat.ne_of_lt (Nat.lt_of_lt_of_le (Heap.lt_size e) I.ok.above))).trans e1⟩
  · by_cases hj : j = i
    · subst hj
      rw [List.getElem?_set_self hiS] at e2
      cases e2
    · rw [List.getElem?_set_ne (Ne.symm hj)] at e2
      obtain ⟨u',r',q⟩:=hlk j y v' e1 e2 e3
      refine ⟨u',r',?_⟩
      rcases q with ⟨k,e⟩ | ⟨k,c,e,z⟩
      · refine .inl ⟨k,?_⟩
        have : y≠n:=fun e => hj (nodup_ix hN e1 (e ▸ hi))
        simp [this,e]
      · exact .inr ⟨k,c,e,z.sameBut hs (I.cne y c e)⟩
  · obtain ⟨w',z⟩:=I.cell y c e
    exact ⟨w',z.sameBut hs (I.cne y c e)⟩
  · obtain ⟨e,n',ne,nf,d⟩:=I.pin p hp
    exact ⟨(hs.2 p.1 ne).trans e,n',ne,nf,d⟩
section
variable {X : Cx} {e : Expr} {t : TX} {x y z n : Str} {G : Addr} {py pz pn np spos tpos hpos pos : Pos} {i j k : Nat}
def tTryAs (K : PySem.W.Frag) (G : Addr) (t : TX) (i j k : Nat) : TS:=fun D σ H => t σ H (fun v H1 => D.nx (σ.set i (some v)) H1) fun cls _ H' => ∃ C,cls = .ref C∧Beneath K C G true ∧
  ∀ ea,H' ea = none→D.nx (((σ.set k (some (.ref ea))).set j (some (.ref ea))).set k none) (upd H' ea (excO ea cls))
theorem caught {pins : List (Addr×Obj)} {σ : St} {D : Ends} {ev : Value} {s1 : Shared} (hN : X.N.Nodup) (hcalm : X.calm = true) (hj : X.N[j]? = some z) (hk : X.N[k]? = some n) (hlz : X.env.scope.names.lookup z = some .local) (hln : X.env.scope.names.lookup n = some .local)
    (hg : Gl X x) (hm : X.mg x = some (.ref G)) (hkj : k≠j) (hstk : ∃ rest,X.stack = X.env :: rest) (hfr : X.env.frame = some X.env.locals)
    (hf : FlyAt X pins σ (fun cls _ H' => ∃ C,cls = .ref C∧Beneath X.K C G true∧∀ ea,H' ea = none→D.nx (((σ.set k (some (.ref ea))).set j (some (.ref ea))).set k none) (upd H' ea (excO ea cls))) ev s1)
    (hd : (x == ("__debug__" : Str)) = false) (hsw : swapsWith (.Name n pn) (some (.Name z pz)) tpos.line X.env = pure false) (hdn : (n == ("__debug__" : Str)) = false) (hcn : (n == ("__classdict__" : Str)) = false) :
    wpAny (model X.prog X.w) X.A (noteFrame ev X.env) (fun _ s₂ => wpAny (model X.prog X.w) X.A (setFlight ev none) (fun _ s₃ => wpAny (model X.prog X.w) X.A (handleBy ev X.env [.ExceptHandler (some (.Name x np)) (some n) [.Assign [.Name z pz] (.Name n pn) tpos] hpos]) (SP X pins D) X.xe s₃) X.xe s₂) X.xe s1 := by
  obtain ⟨H0,s0,I,ea,cls,a0,H',B,ee,F,C,hc,hB,q⟩:=hf
  subst ee hc
  obtain ⟨rest,hrest⟩:=hstk
  have F1:=F.fly
  rw [hrest] at F1
  have hfrm : X.A.frames = some (X.env :: rest) := by rw [← hrest]; exact I.ok.frames
  refine wpAny_looks_onW hfrm hfr F1 fun h4 held4 up4 => ?_
  refine wpAny_landsW held4 fun h5 fl5 up5 => ?_
  have up05:=up4.trans up5
  have I5 : Inv X pins σ H' { s1 with heap:=h5,toks:=s1.toks }:=land I F fl5.1 up05
  obtain ⟨ob,hob,hobc⟩:=fl5.there
  have hcls : (X.env.scope.kind == .class || (X.env.scope.kind == .module && X.env.locals != X.env.globals)) = false := by rw [I.ok.kind]; rfl
  refine wpAny_handleBy_cons (codeAny_handlers_test (ld_glob (I5.held ea) hg hm ?_ hd)) (by intro q; cases q)
  refine excMatch (K:=X.K) I5.kIn hob hobc hB (codeAny_handlers_suite_as ?_)
  refine lands_againW fl5 fun h6 fl6 up6 => ?_
  have I6 : Inv X pins σ H' { s1 with heap:=h6,toks:=s1.toks }:=land I F fl6.1 (up05.trans up6)
  obtain ⟨oe,ws,e1,e2,e3,_⟩:=fl6.first
  obtain ⟨hfree,I7⟩:=track I F I6 ⟨oe,ws,e1,e2,e3⟩
  refine store_ok (X:=X.held ea) (I7.held ea) hN hk (.inl hln) (v:=.ref ea) rfl (fun s8 I8 => ?_) (.inr hln)
  have hbody : PSs (X.held ea) [.Assign [.Name z pz] (.Name n pn) tpos] (tAsg (tVar k) (gName j)):=pss_one (ps_set (X:=X.held ea) hN hj (.inl hlz) (pe_var hk (.inl hln) hdn hcn) hsw (.inr hlz))
  have hkl : k < (σ.set k (some (V.ref ea))).length := by
    rw [List.length_set]
    have:=(List.getElem?_eq_some_iff.mp hk).1
    rw [I.len]; exact this
  refine wpAny_mono (hbody pins s8 _ _ { nx:=fun σ' H2 => σ' = (σ.set k (some (.ref ea))).set j (some (.ref ea))∧H2 = upd H' ea (excO ea (.ref C)),rt:=fun _ _ => False } I8 ⟨.ref ea,?_,rfl,rfl⟩) (fun fl s9 h9 => ?_) fun _ _ z => z.elim
  · rw [List.getElem?_set_self (by rw [List.length_set] at hkl; exact hkl)]
  · cases fl with
    | next =>
      obtain ⟨σ9,H9,I9,e9,eH⟩:=h9
      subst e9 eH
      exact goes (I9.unheld I.ok) hN hk hln fun s' I' => ⟨_,_,I',q ea hfree⟩
    | brk => obtain ⟨_,_,_,z⟩:=h9; exact z.elim
    | cont => obtain ⟨_,_,_,z⟩:=h9; exact z.elim
    | ret v => obtain ⟨_,_,_,_,_,z⟩:=h9; exact z.elim
theorem ps_tryAs (he : PEX X e t) (hN : X.N.Nodup) (hcalm : X.calm = true) (hi : X.N[i]? = some y) (hj : X.N[j]? = some z) (hk : X.N[k]? = some n) (hly : X.env.scope.names.lookup y = some .local) (hlz : X.env.scope.names.lookup z = some .local) (hln : X.env.scope.names.lookup n = some .local)
    (hg : Gl X x) (hm : X.mg x = some (.ref G)) (hkj : k≠j) (hstk : ∃ rest,X.stack = X.env :: rest) (hfr : X.env.frame = some X.env.locals)
    (hd : (x == ("__debug__" : Str)) = false := by decide) (hsw : swapsWith (.Name n pn) (some (.Name z pz)) tpos.line X.env = pure false := by rfl) (hdn : (n == ("__debug__" : Str)) = false := by decide) (hcn : (n == ("__classdict__" : Str)) = false := by decide)
    (hsy : swapsWith e (some (.Name y py)) spos.line X.env = pure false := by rfl) :
    PS X (.Try [.Assign [.Name y py] e spos] [.ExceptHandler (some (.Name x np)) (some n) [.Assign [.Name z pz] (.Name n pn) tpos] hpos] [] [] pos) (tTryAs X.K G t i j k) := by
  intro pins s σ H D I h
  refine wpAny_Try_except (wpAny_execs_cons (wpAny_Assign_Name (wpAny_mono (he pins s σ H _ _ I h) (fun v s1 ⟨w,H1,I1,r1,q1⟩ => ?_) fun ev s1 hf => ?_) hsy))
  · exact store_ok I1 hN hi (.inl hly) r1 (fun s2 I2 => wpAny_execs_nil (wpAny_execs_nil ⟨_,H1,I2,q1⟩)) (.inr hly)
  · exact caught hN hcalm hj hk hlz hln hg hm hkj hstk hfr hf hd hsw hdn hcn
end
open PySem PySem.Spec PyProof.Rows PySem.Builtin.ObjectAttr PySem.Builtin.Getset_descriptor
structure ExcK (K : PySem.W.Frag) (C : Addr) : Prop where
  cl : (PySem.W.clsIn K C).isSome = true
  ga : PySem.W.findIn K (.ref C) "__getattribute__" = some (some (.builtin "BaseException.__getattribute__"))
  gh : PySem.W.findIn K (.ref C) "__getattr__" = some none
  at_ : PySem.W.findIn K (.ref C) "__class__" = some (some (.builtin "object.__class__"))
  gt : PySem.W.specialIn K (.builtin "object.__class__") "__get__" = some (some (.builtin "getset_descriptor.__get__"))
  tk : PySem.W.takesIn K (.builtin "object.__class__") = some true
  ob : PySem.W.mroIn K C (.type "object") = some true
  be : PySem.W.mroIn K C (.type "BaseException") = some true
def excAt (x C : Addr) (h : Heap) : Prop:=∃ o vs,h.get? x = some o∧o.cls = .ref C∧o.data = .fields vs
theorem excAt.ty {x C : Addr} {h : Heap} (p : excAt x C h) (M : Model) : PySem.W.Looks M h (typeOf (.ref x)) (.ref C) := by
  obtain ⟨o,_,e,c,_⟩:=p
  exact c ▸ (PySem.W.Looks.ld e).andThen .now
theorem clsLooks {K : PySem.W.Frag} {C : Addr} {h : Heap} (X : K.In h) (z : (PySem.W.clsIn K C).isSome = true) (M : Model) : PySem.W.Looks M h (isType (.ref C)) true := by
  unfold PySem.W.clsIn at z
  split at z
  · rename_i c' d' cd' sl' ho
    intro A' Q' E' s' k q
    exact wpAny_bind (wpAny_loadPart (k _ _ (X _ _ ho)) (wpAny_pure q))
  · cases z
section
variable {prog : Program} {w : World} {A : Around} {E : Value→Shared→Prop} {K : PySem.W.Frag} {x C : Addr} {h : Heap} {g : Array GenState} {d : Drawn} {t : Nat} {os : OsState}
theorem exc_find (X : K.In h) (F : ExcK K C) (M : Model) : PySem.W.Looks M h (find (.ref x) (.ref C) "__class__") (.bind (.builtin "getset_descriptor.__get__") (.builtin "object.__class__")) := by
  have a1:=PySem.W.looks_findIn (M:=M) X F.at_
  have a2 : PySem.W.Looks M h (getOf (some (.builtin "object.__class__"))) (some (.builtin "getset_descriptor.__get__")):=PySem.W.looks_specialIn X F.gt
  have a3:=PySem.W.looks_takesIn (M:=M) X F.tk
  exact a1.andThen (a2.andThen ((show PySem.W.Looks M h (dataDescriptor? (some (.builtin "object.__class__")) (some (.builtin "getset_descriptor.__get__"))) (some (.builtin "getset_descriptor.__get__",.builtin "object.__class__")) from a3.andThen .now).andThen (PySem.W.Looks.tag .now)))
theorem exc_get {tp : Value} {R : Result→Shared→Prop} (X : K.In h) (F : ExcK K C) (p : excAt x C h) (hR : R (.ok (.ret (.ref C))) ⟨h,g,d,t,os⟩) :
    codeAny (model prog w) A (.call (.builtin "getset_descriptor.__get__") ⟨[.builtin "object.__class__",.ref x,tp],[]⟩) R ⟨h,g,d,t,os⟩ := by
  have b0:=p.ty (model prog w)
  have b1:=PySem.W.looks_mroIn (M:=model prog w) X F.ob
  refine codeAny_call_builtin PySem.W.KF.slot_gs.plain PySem.W.KF.entry_gs ?_
  refine PySem.W.KF.slot_gs.check _ _ _ _ _ _ _ _ PySem.W.KF.type_class (PySem.W.KF.args_gs _ _ _) ?_
  unfold Builtin.«getset_descriptor.__get__» descrGet
  rw [PySem.W.dga_obj]; refine wpAny_bind (wpAny_pure ?_)
  unfold descrGetter descrCheckInstance descrNameAndClass isInstance
  simp only [PySem.W.KF.owner_class]
  repeat lk
  refine ⟨Code.quiet_builtin _ (by decide +kernel),codeAny_builtin PySem.W.KF.entry_class ?_⟩
  unfold Builtin.«object.__class__» shownTypeOf
  repeat lk
  exact hR
theorem exc_entry {tk : Tok} {Q : Fin→Shared→Prop} (X : K.In h) (F : ExcK K C) (p : excAt x C h) (hQ : Q (.done (.ret (.ref C))) ⟨h,g,d,t,os⟩) :
    wpAny (model prog w) A (Builtin.«object.__getattribute__» ⟨[.ref x,.str "__class__" tk],[]⟩) Q E ⟨h,g,d,t,os⟩ := by
  have b0:=p.ty (model prog w)
  have b1:=exc_find (x:=x) X F (model prog w)
  unfold Builtin.«object.__getattribute__»
  repeat lk
  refine wpAny_run (exc_get X F p ?_)
  exact wpAny_pure (wpAny_pure hQ)
theorem exc_check {nameV : Value} {Q : Unit→Shared→Prop} (X : K.In h) (F : ExcK K C) (p : excAt x C h) (hQ : Q () ⟨h,g,d,t,os⟩) :
    wpAny (model prog w) A (checkBuiltinCall "BaseException.__getattribute__" ⟨[.ref x,nameV],[]⟩) Q E ⟨h,g,d,t,os⟩ := by
  have c1 : builtinKind "BaseException.__getattribute__" = some .slot := by decide +kernel
  have c2 : splitId "BaseException.__getattribute__" = some ("BaseException", "__getattribute__") := by decide +kernel
  have c3:=PySem.F.args_bexc_ga (.ref x) nameV
  have b0:=p.ty (model prog w)
  have b1:=PySem.W.looks_mroIn (M:=model prog w) X F.be
  simp only [checkBuiltinCall,c1,c2]
  refine wpAny_bind ?_
  unfold isInstance
  repeat lk
  exact hQ
theorem exc_class {Q : Option Value→Shared→Prop} (X : K.In h) (F : ExcK K C) (p : excAt x C h) (hQ : Q (some (.ref C)) ⟨h,g,d,t + 1,os⟩) :
    wpAny (model prog w) A (getAttr? (.ref x) "__class__") Q E ⟨h,g,d,t,os⟩ := by
  have b0:=p.ty (model prog w)
  have b1:=PySem.W.looks_findIn (M:=model prog w) X F.ga
  have b2:=PySem.W.looks_findIn (M:=model prog w) X F.gh
  unfold getAttr? getAttrBy? getAttrBy
  refine wpAny_bind (wpAny_mkText (wpAny_bind (wpAny_attempt (wpAny_holding (wpAny_bind (b0.at (wpAny_bind (b1.at ?_))))))))
  have c2 : (Value.builtin "BaseException.__getattribute__" == Value.builtin "object.__getattribute__") = false := by decide +kernel
  have c1 : ¬ ((onTheHeap (Value.ref C) && Value.builtin "BaseException.__getattribute__" == Value.builtin "object.__getattribute__") = true) := by rw [c2,Bool.and_false]; exact Bool.false_ne_true
  show wpAny _ _ (if (onTheHeap (Value.ref C) && Value.builtin "BaseException.__getattribute__" == Value.builtin "object.__getattribute__") = true then _ else _) _ _ _
  rw [if_neg c1]
  unfold getAttrByItsOwn
  refine wpAny_bind (show wpAny _ _ (typeLookup (Value.ref C) "__getattr__") _ _ _ from b2.at ?_)
  refine wpAny_bind (wpAny_attempt (wpAny_holding ?_))
  show wpAny _ _ (boundAndCalled _ _ _) _ _ _
  unfold boundAndCalled
  have f3:=(PySem.F.excAttr_ValueError).ga.bind (.ref x)
  refine wpAny_bind (wpAny_of_eq f3 ?_)
  refine wpAny_call (codeAny_call_builtin (PySem.F.excAttr_ValueError).ga.plain PySem.F.entry_bexc_ga (exc_check X F p (exc_entry X F p ?_)))
  exact wpAny_pure (wpAny_pure hQ)
end
theorem kitx_exc {K : PySem.W.Frag} {x C : Addr} (F : ExcK K C) : PySem.W.KitX K (.ref x) (.ref C) (excAt x C) where
  ty:=fun M h _ p => p.ty M
  it:=fun M h X _ => clsLooks X F.cl M
  ne:=fun h tp dd its n sl X htp => by
    have z:=F.cl
    refine Bool.eq_false_iff.mpr fun q => ?_
    have e : C = tp:=Value.ref.inj (beq_iff_eq.mp q)
    subst e
    unfold PySem.W.clsIn at z
    split at z
    · rename_i c' d' cd' sl' ho
      have y:=(X _ _ ho).symm.trans htp
      cases y
    · cases z
  ca:=fun {prog w A E Q s} X p k => by
    obtain ⟨h,g,d,t,os⟩:=s
    exact exc_class X F p k
def clsV : V→Value
  | .ref C => .ref C
  | .ty n => .type n
  | _ => .none
theorem clsV_of {c : V} {u : Value} (r : RelV c u) (h : clsV c≠.none) : u = clsV c := by
  cases c with
  | ref C => exact r
  | ty n => exact r
  | _ => exact absurd rfl h
section
variable {X : Cx}
def rIsi (K : PySem.W.Frag) : List V→Hp→VK→Prop:=fun xs H Q => ∃ x c t b,xs = [x,c]∧clsV c≠.none∧TyOf K H x t∧PySem.W.kitOne K t (clsV c) = some b∧Q (.bl b) H
theorem call_isi : CallR X (.builtin "isinstance") (rIsi X.K) := by
  intro pins s σ H xs us Q I r h
  obtain ⟨x,c,t,b,rfl,hc,ty,e,q⟩:=h
  obtain ⟨u,v,rfl,r1,r2⟩:=r.two
  rw [clsV_of r2 hc]
  exact isinst_ok I r1 ty e fun tk => ⟨.bl b,H,I.tok tk,rfl,q⟩
def rIsiE (K : PySem.W.Frag) : List V→Hp→VK→Prop:=fun xs H Q => ∃ ea C c b,xs = [.ref ea,c]∧clsV c≠.none∧H ea = some (excO ea (.ref C))∧ExcK K C∧PySem.W.kitOne K (.ref C) (clsV c) = some b∧Q (.bl b) H
theorem call_isiE : CallR X (.builtin "isinstance") (rIsiE X.K) := by
  intro pins s σ H xs us Q I r h
  obtain ⟨ea,C,c,b,rfl,hc,he,F,e,q⟩:=h
  obtain ⟨u,v,rfl,r1,r2⟩:=r.two
  rw [clsV_of r2 hc]
  cases (show u = Value.ref ea from r1)
  obtain ⟨p,_,_⟩:=(show ObjOk X.prog X.w H s.heap ea (excO ea (.ref C)) from I.hok ea _ he)
  exact PySem.W.kia_one (kitx_exc F) I.kIn p e (fun z => nomatch z) fun tk => ⟨.bl b,H,I.tok tk,rfl,q⟩
end
theorem kit_tt (K : PySem.W.Frag) : PySem.W.kitOne K (.type "tuple") (.type "tuple") = some true:=rfl
theorem kit_ii (K : PySem.W.Frag) : PySem.W.kitOne K (.type "int") (.type "int") = some true:=rfl
theorem kit_bb (K : PySem.W.Frag) : PySem.W.kitOne K (.type "bool") (.type "bool") = some true:=rfl
theorem kit_ib (K : PySem.W.Frag) : PySem.W.kitOne K (.type "int") (.type "bool") = some false := by kernel_rfl
theorem kit_bi (K : PySem.W.Frag) : PySem.W.kitOne K (.type "bool") (.type "int") = some true := by kernel_rfl
theorem kit_lt (K : PySem.W.Frag) : PySem.W.kitOne K (.type "list") (.type "tuple") = some false := by kernel_rfl
theorem kit_tl (K : PySem.W.Frag) : PySem.W.kitOne K (.type "tuple") (.type "list") = some false := by kernel_rfl
theorem kit_ll (K : PySem.W.Frag) : PySem.W.kitOne K (.type "list") (.type "list") = some true:=rfl
theorem kit_it (K : PySem.W.Frag) : PySem.W.kitOne K (.type "int") (.type "tuple") = some false := by kernel_rfl
theorem kit_bt (K : PySem.W.Frag) : PySem.W.kitOne K (.type "bool") (.type "tuple") = some false := by kernel_rfl
theorem kit_nt (K : PySem.W.Frag) : PySem.W.kitOne K (.type "NoneType") (.type "tuple") = some false := by kernel_rfl
theorem kit_st (K : PySem.W.Frag) : PySem.W.kitOne K (.type "str") (.type "tuple") = some false := by kernel_rfl
theorem kit_ti (K : PySem.W.Frag) : PySem.W.kitOne K (.type "tuple") (.type "int") = some false := by kernel_rfl
theorem kit_li (K : PySem.W.Frag) : PySem.W.kitOne K (.type "list") (.type "int") = some false := by kernel_rfl
theorem kit_ni (K : PySem.W.Frag) : PySem.W.kitOne K (.type "NoneType") (.type "int") = some false := by kernel_rfl
theorem kit_si (K : PySem.W.Frag) : PySem.W.kitOne K (.type "str") (.type "int") = some false := by kernel_rfl
theorem kit_il (K : PySem.W.Frag) : PySem.W.kitOne K (.type "int") (.type "list") = some false := by kernel_rfl
theorem kit_bl (K : PySem.W.Frag) : PySem.W.kitOne K (.type "bool") (.type "list") = some false := by kernel_rfl
theorem kit_nl (K : PySem.W.Frag) : PySem.W.kitOne K (.type "NoneType") (.type "list") = some false := by kernel_rfl
theorem kit_sl (K : PySem.W.Frag) : PySem.W.kitOne K (.type "str") (.type "list") = some false := by kernel_rfl
def freeOk (xsc : Scope) (names : List (Str×NameKind)) : Bool:=names.all fun y => y.2 != .free || xsc.names.lookup y.1 == some .cell || xsc.names.lookup y.1 == some .free
theorem freeOk_of {xsc : Scope} {names : List (Str×NameKind)} (h : freeOk xsc names = true) : ∀ y∈names,y.2 = .free→xsc.names.lookup y.1 = some .cell∨xsc.names.lookup y.1 = some .free:=fun y hy hf => by
  have q:=List.all_eq_true.mp h y hy
  rw [hf] at q
  simp only [bne_self_eq_false,Bool.false_or,Bool.or_eq_true,beq_iff_eq] at q
  exact q
def compScopeOk (scope : Scope) (N : List Str) (x : Str) (ix : Nat) : Bool :=
  scope.kind == .function && (scope.names.all fun y => y.2 != .cell && (y.2 != .local || scope.names.lookup y.1 == some .local) && (y.2 != .free || scope.names.lookup y.1 == some .free)) && scope.names.lookup x == some .local && decide N.Nodup && N[ix]? == some x
theorem compScope_of {scope : Scope} {N : List Str} {x : Str} {ix : Nat} (h : compScopeOk scope N x ix = true) : CompScope scope N x ix := by
  unfold compScopeOk at h
  simp only [Bool.and_eq_true,beq_iff_eq,decide_eq_true_eq,List.all_eq_true,bne_iff_ne,Bool.or_eq_true] at h
  obtain ⟨⟨⟨⟨h1,h2⟩,h3⟩,h4⟩,h5⟩:=h
  exact ⟨h1,fun y hy => (h2 y hy).1.1,fun y hy hl => (h2 y hy).1.2.resolve_left fun z => z hl,fun y hy hl => (h2 y hy).2.resolve_left fun z => z hl,h3,h4,h5⟩
section
variable {X : Cx} {elt iter : Expr} {x : Str} {px pos : Pos} {ifs : List Expr} {scope : Scope} {wi : TI} {tif : TT} {te : TE}
theorem pe_compr (N : List Str) (ix : Nat) (fr : List (Option Nat)) (hi : PI X (.Name x px) iter wi) (hif : ∀ cl C s₀ H₀ fp,PIf (cxComp X scope cl N C s₀ H₀ fp) ifs tif) (he : ∀ cl C s₀ H₀ fp,PE (cxComp X scope cl N C s₀ H₀ fp) elt te)
    (h1 : compScopeOk scope N x ix = true := by decide +kernel) (h2 : X.calm = true := by rfl) (h3 : frOk N X.N scope X.env.scope fr 0 = true := by rfl) (h4 : fr.length = N.length := by rfl) (h5 : freeOk X.env.scope scope.names = true := by rfl)
    (hs : ∀ x,foldedSetIterable iter X.env x = pure x := by intro _; rfl) : PE X (.ListComp elt [⟨.Name x px,iter,ifs,0⟩] scope pos) (tComp wi fr ix tif te) :=
  pe_comp (compScope_of h1) h2 h3 h4 (freeOk_of h5) hi hif he hs
end
end L2
inductive Tr where
  | nil
  | cons (b r : Tr)
  deriving DecidableEq
namespace Tr
def deep : Tr→Nat
  | .nil => 0
  | .cons b r => max (b.deep + 1) r.deep
end Tr
namespace ET
open PySem
section
variable {prog : Program} {w : World} {A : Around} {E : Value→Shared→Prop} {s : Shared}
theorem next_item {it t : Addr} {i : Nat} {items} {x : Value} {Q : Value→Shared→Prop} (hit : s.heap.IsTupleIter it t i) (ht : s.heap.IsTuple t items) (hx : items[i]? = some x)
    (hQ : ∀ h',h'.IsTupleIter it t (i + 1)→Heap.SameBut it s.heap h'→Q x { s with heap:=h' }) : wpAny (model prog w) A (Builtin.SmallTypes.nextOf (.ref it)) Q E s := by
  obtain ⟨o,ho,hc,hd⟩:=id hit
  obtain ⟨ol,hol,_,nl,hdl⟩:=ht
  unfold Builtin.SmallTypes.nextOf
  refine wpAny_bind (wpAny_callSpecial?_slot (name:=Str.ofString "__next__") hit.typeIs F.slot_tuple_iterator_next
    (wpAny_call_entry F.slot_tuple_iterator_next hit.typeIs F.entry_tuple_iterator_next ?_ (F.args_tuple_iterator_next_1 _)))
  show wpAny _ _ (field (.ref it) 0 >>= _) _ _ s
  refine wpAny_bind (wpAny_field ho hd (x:=.ref t) rfl ?_)
  show wpAny _ _ (if (Value.ref t == Value.none) = true then _ else _) _ _ s
  rw [if_neg (show ¬ ((Value.ref t == Value.none) = true) from Bool.false_ne_true)]
  show wpAny _ _ (field (.ref it) 1 >>= _) _ _ s
  refine wpAny_bind (wpAny_field ho hd (x:=.int i 0) rfl ?_)
  show wpAny _ _ (seqItems? (.ref t) >>= _) _ _ s
  refine wpAny_bind (wpAny_seqItems hol hdl ?_)
  simp only [Int.toNat_natCast,hx]
  refine wpAny_bind (wpAny_setField ho hd (by simp) (wpAny_pure ⟨x,rfl,wpAny_pure (hQ _ ?_ (Heap.SameBut.update ..))⟩))
  exact ⟨_,Heap.get?_update_self _ ho (Obj.isFreed_of_fields (Obj.data_mapFields hd _)),(Obj.cls_mapFields ..).trans hc,by
    rw [Obj.data_mapFields hd]; simp [rawInt]⟩
theorem next_end {it t : Addr} {i : Nat} {items} {Q : Value→Shared→Prop} (hh : A.handled = none) (hit : s.heap.IsTupleIter it t i) (ht : s.heap.IsTuple t items) (hx : items[i]? = none)
    (hE : ∀ h' e,Heap.ExtBut it s.heap h'→(∃ o,h'.get? e = some o∧o.cls = .type "StopIteration")→E (.ref e) { s with heap:=h' }) : wpAny (model prog w) A (Builtin.SmallTypes.nextOf (.ref it)) Q E s := by
  obtain ⟨o,ho,hc,hd⟩:=id hit
  obtain ⟨ol,hol,_,nl,hdl⟩:=ht
  unfold Builtin.SmallTypes.nextOf
  refine wpAny_bind (wpAny_callSpecial?_slot (name:=Str.ofString "__next__") hit.typeIs F.slot_tuple_iterator_next
    (wpAny_call_entry F.slot_tuple_iterator_next hit.typeIs F.entry_tuple_iterator_next ?_ (F.args_tuple_iterator_next_1 _)))
  show wpAny _ _ (field (.ref it) 0 >>= _) _ _ s
  refine wpAny_bind (wpAny_field ho hd (x:=.ref t) rfl ?_)
  show wpAny _ _ (if (Value.ref t == Value.none) = true then _ else _) _ _ s
  rw [if_neg (show ¬ ((Value.ref t == Value.none) = true) from Bool.false_ne_true)]
  show wpAny _ _ (field (.ref it) 1 >>= _) _ _ s
  refine wpAny_bind (wpAny_field ho hd (x:=.int i 0) rfl ?_)
  show wpAny _ _ (seqItems? (.ref t) >>= _) _ _ s
  refine wpAny_bind (wpAny_seqItems hol hdl ?_)
  simp only [Int.toNat_natCast,hx]
  refine wpAny_bind (wpAny_rule (wpAny_bind (wpAny_setField ho hd (by simp) ?_)))
  show wpAny _ _ (newExc (.type "StopIteration") [] >>= _) _ _ _
  refine wpAny_bind ?_
  simp only [newExc,newTuple]
  refine wpAny_bind (wpAny_newObj_type ?_ (by size_fits))
  refine wpAny_bind (m:=firstArgMember _ _) (wpAny_of_eq (a:=Value.none) (by first | rfl | (simp only [firstArgMember]; rfl)) ?_)
  refine wpAny_newObj_type ?_ (by size_fits)
  simp only [raiseNew]
  refine wpAny_bind (wpAny_handled ?_)
  first | rw [show A.in1.handled = none from hh] | rw [hh]
  refine wpAny_bind (wpAny_pure (wpAny_throw ?_))
  exact hE _ _ (((Heap.SameBut.update ..).extBut.push _).push _) ⟨_,Heap.get?_push_size _ rfl,rfl⟩
end
theorem draws {prog : Program} {w : World} {A : Around} (hh : A.handled = none) (it a : Addr) (its : List Value) (hne : a≠it) :
    Draws prog w A it [it,a] its.length (fun i x => its[i]? = some x) (fun i h => h.IsTupleIter it a i∧h.IsTuple a its.toArray) where
  live:=fun i h st => let ⟨o,e,_⟩:=st.1; ⟨o,e⟩
  frame:=fun i h h' st k => by
    obtain ⟨⟨o,e,r⟩,o2,e2,r2⟩:=st
    exact ⟨⟨o,k it (by simp) o e,r⟩,o2,k a (by simp) o2 e2,r2⟩
  item:=fun i s Q E hi st hQ => next_item st.1 st.2 (x:=its[i]) (by simp [hi]) fun h' st' sb =>
    hQ _ h' s.toks (by simp [hi]) ⟨st',let ⟨o,e,r⟩:=st.2; ⟨o,(sb.2 a hne).trans e,r⟩⟩ sb
  done:=fun s Q E st hE => next_end hh st.1 st.2 (by simp) hE
end ET
namespace L2
open PySem PySem.Spec PyProof.Rows
def Ts (H : Hp) : Tr→List V→Prop
  | .nil,xs => xs = []
  | .cons b r,xs => ∃ (a : Addr) (ys zs : List V),xs = .ref a :: zs∧H a = some (.tup ys)∧Ts H b ys∧Ts H r zs
def Tv (H : Hp) (t : Tr) (v : V) : Prop:=∃ (a : Addr) (ys : List V),v = .ref a∧H a = some (.tup ys)∧Ts H t ys
theorem Ts.same {H H' : Hp} (e : Same H H') : ∀ {t : Tr} {xs : List V},Ts H t xs→Ts H' t xs
  | .nil,xs,h => by rw [Ts] at h ⊢; exact h
  | .cons b r,xs,h => by
    rw [Ts] at h ⊢
    obtain ⟨a,ys,zs,e1,h1,h2,h3⟩:=h
    exact ⟨a,ys,zs,e1,e _ _ h1,h2.same e,h3.same e⟩
theorem Tv.same {H H' : Hp} {t : Tr} {v : V} (h : Tv H t v) (e : Same H H') : Tv H' t v:=let ⟨a,ys,e1,h1,h2⟩:=h; ⟨a,ys,e1,e _ _ h1,h2.same e⟩
end L2
namespace L2
open PySem PySem.Spec PyProof.Rows
def CW (Pv : Nat→List V→Hp→Prop) (n : Nat) (D : Addr) : Nat→Nat→List V→Hp→Prop:=fun i m ys H => m = n - i∧i≤n∧H D = some (.lst ys)∧Pv i ys H
theorem cw_next {Pv : Nat→List V→Hp→Prop} {n i : Nat} {D : Addr} {ys : List V} {y : V} {H : Hp} (hi : i < n) (p : Pv (i + 1) (ys ++ [y]) (upd H D (.lst (ys ++ [y])))) : ∃ m',m' < n - i∧CW Pv n D (i + 1) m' (ys ++ [y]) (upd H D (.lst (ys ++ [y]))) :=
  ⟨n - (i + 1),by lia,rfl,hi,upd_same,p⟩
theorem cw_skip {Pv : Nat→List V→Hp→Prop} {n i : Nat} {D : Addr} {ys : List V} {H : Hp} (hi : i < n) (hD : H D = some (.lst ys)) (p : Pv (i + 1) ys H) : ∃ m',m' < n - i∧CW Pv n D (i + 1) m' ys H:=⟨n - (i + 1),by lia,rfl,hi,hD,p⟩
theorem comp_by {J : It} {n : Nat} {D : Addr} {H1 : Hp} {fr : List (Option Nat)} {σ : St} {ix : Nat} {tif : TT} {te : TE} {G : Hp→Prop} (Pv : Nat→List V→Hp→Prop) (h0 : Pv 0 [] (upd H1 D (.lst [])))
    (hgo : ∀ i ys H,i < n→Pv i ys H→H D = some (.lst ys)→J.go i H∧ys.length < sizeLine∧∀ x H',J.yld i H x H' →
      tif ((carry fr σ).set ix (some x)) H' fun b H2 => if b = true then te ((carry fr σ).set ix (some x)) H2 fun y H3 => H3 D = some (.lst ys)∧∃ m',m' < n - i∧CW Pv n D (i + 1) m' (ys ++ [y]) (upd H3 D (.lst (ys ++ [y])))
        else ∃ m',m' < n - i∧CW Pv n D (i + 1) m' ys H2)
    (hstop : ∀ ys H,Pv n ys H→H D = some (.lst ys)→J.stop n H∧G H) :
    ∃ W : Nat→Nat→List V→Hp→Prop,(∃ m,W 0 m [] (upd H1 D (.lst []))) ∧
      ∀ i m ys H,W i m ys H→H D = some (.lst ys)∧((J.stop i H∧G H)∨(J.go i H∧ys.length < sizeLine∧∀ x H',J.yld i H x H' →
        tif ((carry fr σ).set ix (some x)) H' fun b H2 => if b = true then te ((carry fr σ).set ix (some x)) H2 fun y H3 => H3 D = some (.lst ys)∧∃ m',m' < m∧W (i + 1) m' (ys ++ [y]) (upd H3 D (.lst (ys ++ [y])))
          else ∃ m',m' < m∧W (i + 1) m' ys H2)) := by
  refine ⟨CW Pv n D,⟨n,by simp,Nat.zero_le _,upd_same,h0⟩,?_⟩
  rintro i m ys H ⟨rfl,hi,hH,p⟩
  refine ⟨hH,?_⟩
  by_cases hlt : i < n
  · exact .inr (hgo i ys H hlt p hH)
  · have e : i = n := by lia
    subst e
    exact .inl (hstop ys H p hH)
section
variable {X : Cx}
theorem call_all (hc : X.calm = true) : CallR X (.builtin "all") (fun xs H Q => ∃ (p : Addr) (bs : List Bool),xs = [.ref p]∧SqL X.K H p (bs.map V.bl)∧Q (.bl (bs.all id)) H) := by
  intro pins s σ H xs us Q I r h
  obtain ⟨p,bs,rfl,hq,q⟩:=h
  obtain ⟨u,rfl,r1⟩:=r.one
  cases r1
  obtain ⟨its,rv,pl,hz⟩:=I.list hq
  have hl : s.heap.IsList p its.toArray:=pl.isList
  have hlt : p < s.heap.objs.size := by obtain ⟨_,e,_⟩:=hl; exact Heap.lt_size e
  have hlen : its.length = bs.length := by rw [← rv.length,List.length_map]
  refine call_all_walk (wpAny_pyIter_list hl ?_)
  refine ⟨s.heap.objs.size,[s.heap.objs.size,p],[s.heap.objs.size],its.toArray.size,_,_,fun i => (bs[i]?).getD true,rfl,Walks.list (A:=X.A.in1) (I.ok.hd hc) _ p (Nat.ne_of_lt hlt) its.toArray,
    ⟨⟨_,Heap.get?_push_size _ rfl,rfl,rfl⟩,hl.push _⟩,fun i v s' Q' E' hP hQ => ?_,fun h' tk hk => ?_⟩
  · have hv : its[i]? = some v := by simpa using hP
    have hi : i < bs.length := by rw [← hlen]; exact (List.getElem?_eq_some_iff.mp hv).1
    obtain ⟨u,h1,h2⟩:=rv.get (i:=i) (x:=.bl bs[i]) (by rw [List.getElem?_map,List.getElem?_eq_getElem hi]; rfl)
    rw [hv] at h1
    cases h1
    cases h2
    simp only [List.getElem?_eq_getElem hi,Option.getD_some] at hQ
    exact wpAny_truthy_bool hQ
  · have e : ((List.range its.toArray.size).all fun i => (bs[i]?).getD true) = bs.all id := by
      rw [List.size_toArray,hlen]; exact PyProof.Rows.LSm.range_all bs
    rw [e]
    exact ⟨.bl _,H,I.kept (t':=tk) (PyProof.Rows.LSm.kept_iter hk),rfl,q⟩
end
mutual
def Dt (l : Addr) (H : Hp) : PyData→V→Prop
  | .none,v => v = .non
  | .bool b,v => v = .bl b
  | .int i,v => v = .int i
  | .str x,v => v = .str x
  | .tuple ds,v => ∃ (a : Addr) (xs : List V),v = .ref a∧a≠l∧H a = some (.tup xs)∧DtAll l H ds xs
  | .list ds,v => ∃ (a : Addr) (xs : List V),v = .ref a∧a≠l∧H a = some (.lst xs)∧DtAll l H ds xs
  | .dict _,_ => False
def DtAll (l : Addr) (H : Hp) : List PyData→List V→Prop
  | [],xs => xs = []
  | d :: ds,xs => ∃ x r,xs = x :: r∧Dt l H d x∧DtAll l H ds r
end
mutual
theorem Dt.but {l : Addr} {H H' : Hp} (e : SameBut l H H') : ∀ {d : PyData} {v : V},Dt l H d v→Dt l H' d v
  | .none,_,h => by rw [Dt] at h ⊢; exact h
  | .bool _,_,h => by rw [Dt] at h ⊢; exact h
  | .int _,_,h => by rw [Dt] at h ⊢; exact h
  | .str _,_,h => by rw [Dt] at h ⊢; exact h
  | .tuple _,_,h => by
    rw [Dt] at h ⊢
    obtain ⟨a,xs,e1,n,h1,h2⟩:=h
    exact ⟨a,xs,e1,n,e _ _ n h1,DtAll.but e h2⟩
  | .list _,_,h => by
    rw [Dt] at h ⊢
    obtain ⟨a,xs,e1,n,h1,h2⟩:=h
    exact ⟨a,xs,e1,n,e _ _ n h1,DtAll.but e h2⟩
  | .dict _,_,h => by rw [Dt] at h; exact h.elim
theorem DtAll.but {l : Addr} {H H' : Hp} (e : SameBut l H H') : ∀ {ds : List PyData} {xs : List V},DtAll l H ds xs→DtAll l H' ds xs
  | [],_,h => by rw [DtAll] at h ⊢; exact h
  | _ :: _,_,h => by
    rw [DtAll] at h ⊢
    obtain ⟨x,r,e1,h1,h2⟩:=h
    exact ⟨x,r,e1,Dt.but e h1,DtAll.but e h2⟩
end
theorem Dt.same {l : Addr} {H H' : Hp} {d : PyData} {v : V} (h : Dt l H d v) (e : Same H H') : Dt l H' d v:=Dt.but (.of e) h
theorem DtAll.same {l : Addr} {H H' : Hp} {d : List PyData} {v : List V} (h : DtAll l H d v) (e : Same H H') : DtAll l H' d v:=DtAll.but (.of e) h
theorem DtAll.len {l : Addr} {H : Hp} : ∀ {ds : List PyData} {xs : List V},DtAll l H ds xs→xs.length = ds.length
  | [],_,h => by rw [DtAll] at h; rw [h]; rfl
  | _ :: _,_,h => by
    rw [DtAll] at h
    obtain ⟨x,r,rfl,_,h2⟩:=h
    rw [List.length_cons,List.length_cons,DtAll.len h2]
theorem DtAll.get {l : Addr} {H : Hp} : ∀ {ds : List PyData} {xs : List V} {i : Nat} {v : V},DtAll l H ds xs→xs[i]? = some v→∃ d,ds[i]? = some d∧Dt l H d v
  | [],_,i,v,h,e => by rw [DtAll] at h; subst h; simp at e
  | d :: ds,_,i,v,h,e => by
    rw [DtAll] at h
    obtain ⟨x,r,rfl,h1,h2⟩:=h
    cases i with
    | zero => simp at e; subst e; exact ⟨d,rfl,h1⟩
    | succ i =>
      obtain ⟨c,q1,q2⟩:=h2.get (i:=i) (v:=v) (by simpa using e)
      exact ⟨c,by simpa using q1,q2⟩
theorem DtAll.nil {l : Addr} {H : Hp} : DtAll l H [] [] := by rw [DtAll]
theorem DtAll.cons {l : Addr} {H : Hp} {d : PyData} {ds : List PyData} {x : V} {xs : List V} (h : Dt l H d x) (k : DtAll l H ds xs) : DtAll l H (d :: ds) (x :: xs) := by
  rw [DtAll]; exact ⟨x,xs,rfl,h,k⟩
theorem Dt.int {l : Addr} {H : Hp} {i : Int} : Dt l H (.int i) (.int i) := by rw [Dt]
theorem Dt.bool {l : Addr} {H : Hp} {b : Bool} : Dt l H (.bool b) (.bl b) := by rw [Dt]
theorem Dt.non {l : Addr} {H : Hp} : Dt l H .none .non := by rw [Dt]
theorem Dt.str {l : Addr} {H : Hp} {x : Str} : Dt l H (.str x) (.str x) := by rw [Dt]
theorem Dt.tup {l a : Addr} {H : Hp} {ds : List PyData} {xs : List V} (n : a≠l) (h : H a = some (.tup xs)) (k : DtAll l H ds xs) : Dt l H (.tuple ds) (.ref a) := by rw [Dt]; exact ⟨a,xs,rfl,n,h,k⟩
theorem Dt.lst {l a : Addr} {H : Hp} {ds : List PyData} {xs : List V} (n : a≠l) (h : H a = some (.lst xs)) (k : DtAll l H ds xs) : Dt l H (.list ds) (.ref a) := by rw [Dt]; exact ⟨a,xs,rfl,n,h,k⟩
def tyOf : PyData→String
  | .none => "NoneType"
  | .bool _ => "bool"
  | .int _ => "int"
  | .str _ => "str"
  | .tuple _ => "tuple"
  | .list _ => "list"
  | .dict _ => "dict"
theorem Dt.ty {K : PySem.W.Frag} {l : Addr} {H : Hp} : ∀ {d : PyData} {v : V},Dt l H d v→TyOf K H v (.type (tyOf d))
  | .none,_,h => by rw [Dt] at h; subst h; exact .non
  | .bool _,_,h => by rw [Dt] at h; subst h; exact .bl _
  | .int _,_,h => by rw [Dt] at h; subst h; exact .int _
  | .str _,_,h => by rw [Dt] at h; subst h; exact .str _
  | .tuple _,_,h => by rw [Dt] at h; obtain ⟨a,xs,rfl,_,h1,_⟩:=h; exact .tup h1
  | .list _,_,h => by rw [Dt] at h; obtain ⟨a,xs,rfl,_,h1,_⟩:=h; exact .lst h1
  | .dict _,_,h => by rw [Dt] at h; exact h.elim
def isTupD : PyData→Bool
  | .tuple _ => true
  | _ => false
def isLstD : PyData→Bool
  | .list _ => true
  | _ => false
def isIntD : PyData→Bool
  | .int _ => true
  | .bool _ => true
  | _ => false
def isBoolD : PyData→Bool
  | .bool _ => true
  | _ => false
theorem kit_tupD (K : PySem.W.Frag) : ∀ d : PyData,(∀ kv,d≠.dict kv)→PySem.W.kitOne K (.type (tyOf d)) (.type "tuple") = some (isTupD d)
  | .none,_ => kit_nt K
  | .bool _,_ => kit_bt K
  | .int _,_ => kit_it K
  | .str _,_ => kit_st K
  | .tuple _,_ => kit_tt K
  | .list _,_ => kit_lt K
  | .dict kv,h => absurd rfl (h kv)
theorem kit_lstD (K : PySem.W.Frag) : ∀ d : PyData,(∀ kv,d≠.dict kv)→PySem.W.kitOne K (.type (tyOf d)) (.type "list") = some (isLstD d)
  | .none,_ => kit_nl K
  | .bool _,_ => kit_bl K
  | .int _,_ => kit_il K
  | .str _,_ => kit_sl K
  | .tuple _,_ => kit_tl K
  | .list _,_ => kit_ll K
  | .dict kv,h => absurd rfl (h kv)
theorem kit_nb (K : PySem.W.Frag) : PySem.W.kitOne K (.type "NoneType") (.type "bool") = some false := by kernel_rfl
theorem kit_sb (K : PySem.W.Frag) : PySem.W.kitOne K (.type "str") (.type "bool") = some false := by kernel_rfl
theorem kit_tb (K : PySem.W.Frag) : PySem.W.kitOne K (.type "tuple") (.type "bool") = some false := by kernel_rfl
theorem kit_lb (K : PySem.W.Frag) : PySem.W.kitOne K (.type "list") (.type "bool") = some false := by kernel_rfl
theorem kit_intD (K : PySem.W.Frag) : ∀ d : PyData,(∀ kv,d≠.dict kv)→PySem.W.kitOne K (.type (tyOf d)) (.type "int") = some (isIntD d)
  | .none,_ => kit_ni K
  | .bool _,_ => kit_bi K
  | .int _,_ => kit_ii K
  | .str _,_ => kit_si K
  | .tuple _,_ => kit_ti K
  | .list _,_ => kit_li K
  | .dict kv,h => absurd rfl (h kv)
theorem kit_boolD (K : PySem.W.Frag) : ∀ d : PyData,(∀ kv,d≠.dict kv)→PySem.W.kitOne K (.type (tyOf d)) (.type "bool") = some (isBoolD d)
  | .none,_ => kit_nb K
  | .bool _,_ => kit_bb K
  | .int _,_ => kit_ib K
  | .str _,_ => kit_sb K
  | .tuple _,_ => kit_tb K
  | .list _,_ => kit_lb K
  | .dict kv,h => absurd rfl (h kv)
theorem Dt.nodict {l : Addr} {H : Hp} {d : PyData} {v : V} (h : Dt l H d v) : ∀ kv,d≠.dict kv:=fun kv z => by subst z; rw [Dt] at h; exact h
theorem pe_strFrom {X : Cx} {e lo : Expr} {te tl : TE} {pos p2 : Pos} (he : PE X e te) (hl : PE X lo tl) : PE X (.Subscript e (.Slice (some lo) none none p2) pos)
    (fun σ H Q => te σ H fun x H1 => tl σ H1 fun z H2 => ∃ (y : Str) (i : Int),x = .str y∧z = .int i∧y.length≤sizeLine∧Q (.str (Txt.slice y (some i) none)) H2) := by
  intro pins s σ H Q I h
  refine Subscript_ (thn (he pins s σ H _ I h) fun v s1 ⟨x,H1,I1,r1,q1⟩ => ?_)
  refine wpAny_Slice ?_
  rw [evalPart_some]
  refine thn (hl pins s1 σ H1 _ I1 q1) fun vk s3 ⟨z,H3,I3,r3,q3⟩ => ?_
  rw [evalPart_none]
  refine wpAny_pure ?_
  refine wpAny_pure ?_
  obtain ⟨y,i,rfl,rfl,hz,q⟩:=q3
  obtain ⟨t1,rfl⟩:=r1
  obtain ⟨t3,rfl⟩:=r3
  show wpAny (model X.prog X.w) X.A (subscriptTail e (.Slice (some lo) none none p2) (.str y t1) (.ref s3.heap.objs.size)) (EP X pins σ Q) X.xe { s3 with heap:=s3.heap.push { cls:=.type "slice",data:=.fields #[.int i t3,.none,.none] } }
  obtain ⟨T,id,hT,ht,hg⟩:=SBH.sliceItem_sn (prog:=X.prog) (w:=X.w) (A:=X.A) (E:=X.xe) (s:=s3) (x:=y) (t:=t1) (ui:=t3) (P:=fun h' => ∀ b o,s3.heap.get? b = some o→h'.get? b = some o) (Q:=EP X pins σ Q) (fun h o k b ob q => Heap.get?_push_of_some _ (k b ob q)) (fun _ _ q => q)
    (fun h' t' k kk => ⟨.str (Txt.slice y (some i) none),H3,I3.kept (t':=k) kk,⟨t',rfl⟩,q⟩) hz
  exact tail_any (ops:=[.ref s3.heap.objs.size,.str y t1]) ht hT hg (by with_unfolding_all rfl)
end L2
namespace L2
open PySem PySem.Spec PyProof.Rows
section
variable {X : Cx}
def rCatA : R2:=fun x y H Q => ∃ a b xs ys,x = .ref a∧y = .ref b∧H a = some (.tup xs)∧H b = some (.tup ys)∧xs.length + ys.length≤sizeLine∧∀ p H',Same H H'→H' p = some (.tup (xs ++ ys))→Q (.ref p) H'
theorem op_catA : OpR X (binaryOp .Add) rCatA := by
  intro pins s σ H x y v u Q I rx ry h
  obtain ⟨a,b,xs,ys,rfl,rfl,ha,hb,hz,q⟩:=h
  cases rx
  cases ry
  obtain ⟨its,r1,p1,_⟩:=I.tuple (SqT.of (K:=X.K) ha)
  obtain ⟨its2,r2,p2,_⟩:=I.tuple (SqT.of (K:=X.K) hb)
  by_cases hv : its = []
  · have hx:=r1.nil_iff.mp hv
    subst hv hx
    obtain ⟨⟨cls,dd,data,sl⟩,ho,hc,n,hd⟩:=id p1
    obtain ⟨⟨cls2,dd2,data2,sl2⟩,ho2,hc2,n2,hd2⟩:=id p2
    simp only at hc hd hc2 hd2
    subst hc hd hc2 hd2
    exact concat_meets ⟨_,ho,rfl⟩ ⟨_,ho2,rfl⟩ noFill_tuple_add seq_tuple_add PySem.F.slot_tuple_add PySem.F.entry_tuple_add (PySem.F.args_tuple_add_2 _ _)
      (tuple_addW0 a b _ _ n n2 dd dd2 sl sl2 (by simp)) ⟨ho,ho2,⟨.ref b,H,I,rfl,q b H (.refl H) (by simpa using hb)⟩⟩
  · refine HT.cat_tup p1 p2 hv (fun z => ?_) (fun z => ?_) (by rw [← r1.length,← r2.length]; exact hz)
    · have hy:=r2.nil_iff.mp z
      subst hy
      exact ⟨.ref a,H,I,rfl,q a H (.refl H) (by simpa using ha)⟩
    · refine ⟨.ref s.heap.objs.size,_,I.laid (t':=s.toks) (o:=.tup (xs ++ ys)) (fun b ob q => Heap.get?_push_of_some _ q) (Nat.le_refl _) ?_,rfl,q _ _ (same_new (I.hok.fresh (Nat.le_refl _)) _) upd_same⟩
      exact ⟨by rw [List.length_append]; exact hz,_,r1.append r2,IsTup.new _ _⟩
end
end L2
namespace Tim
open PySem PyProof.Rows
section pure
end pure
section
section pure
end pure
section pure
end pure
end
end Tim
set_option maxHeartbeats 0
set_option maxHeartbeats 4000000
namespace L2
open PySem PySem.Spec PyProof.Rows
abbrev tg2 (x y : Str) (px py : Pos) (tk : Nat) (tp : Pos) : Expr:=.Tuple [.Name x px,.Name y py] tk tp
theorem set_two {ix iy : Nat} (h : ix≠iy) (σ : St) (a b c d : Option V) : ((((σ.set ix a).set iy b).set ix c).set iy d) = (σ.set ix c).set iy d := by
  rw [List.set_comm _ _ h.symm,List.set_set,List.set_set]
def tComp2 (K : PySem.W.Frag) (wi : TI) (fr : List (Option Nat)) (ix iy : Nat) (tif : TT) (te : TE) : TE:=fun σ H Q => wi σ H fun J H1 => ∀ D,H1 D = none→∃ W : Nat→Nat→List V→Hp→Prop,(∃ m,W 0 m [] (upd H1 D (.lst []))) ∧
  ∀ i m ys H,W i m ys H→H D = some (.lst ys)∧((J.stop i H∧Q (.ref D) H)∨(J.go i H∧ys.length < sizeLine∧∀ x H',J.yld i H x H'→∃ a v1 v2,x = .ref a∧SqT K H' a [v1,v2] ∧
    tif (((carry fr σ).set ix (some v1)).set iy (some v2)) H' fun b H2 => if b = true then te (((carry fr σ).set ix (some v1)).set iy (some v2)) H2 fun y H3 => H3 D = some (.lst ys)∧∃ m',m' < m∧W (i + 1) m' (ys ++ [y]) (upd H3 D (.lst (ys ++ [y])))
      else ∃ m',m' < m∧W (i + 1) m' ys H2))
section
variable {X : Cx} {elt iter : Expr} {x y : Str} {px py tp pos : Pos} {tk : Nat} {ifs : List Expr} {scope : Scope} {wi : TI} {fr : List (Option Nat)} {ix iy : Nat} {tif : TT} {te : TE} {N : List Str}
theorem comp_block2 {pins : List (Addr×Obj)} {σ : St} {H2 : Hp} {s2 : Shared} {Q : VK} {it : Addr} {fp : List Addr} {tn : Nat→Heap→Prop} {J : It} {cl : List (Str×Addr)} {E : Value→Shared→Prop} {RR : Value→Addr→Result→Shared→Prop}
    (S : CompScope scope N x ix) (S2 : CompScope scope N y iy) (hxy : ix≠iy) (hcalm : X.calm = true) (hfr : frOk N X.N scope X.env.scope fr 0 = true) (hlen : fr.length = N.length)
    (hif : ∀ cl C s₀ H₀ fp,PIf (cxComp X scope cl N C s₀ H₀ fp) ifs tif) (he : ∀ cl C s₀ H₀ fp,PE (cxComp X scope cl N C s₀ H₀ fp) elt te)
    (I2 : Inv X pins σ H2 s2) (T : Turn X.prog X.w X.K (tg2 x y px py tk tp) J fp it tn) (st2 : tn 0 s2.heap) (f2 : ∀ b∈fp,FpOk X pins H2 b)
    (c1 : ∀ x c,cl.lookup x = some c→X.env.cells.lookup x = some c) (c2 : ∀ x∈scope.names,x.2 = NameKind.free→∃ c,cl.lookup x.1 = some c)
    (W : ∀ D,H2 D = none→∃ W : Nat→Nat→List V→Hp→Prop,(∃ m,W 0 m [] (upd H2 D (.lst []))) ∧
      ∀ i m ys H,W i m ys H→H D = some (.lst ys)∧((J.stop i H∧Q (.ref D) H)∨(J.go i H∧ys.length < sizeLine∧∀ x H',J.yld i H x H'→∃ a v1 v2,x = .ref a∧SqT X.K H' a [v1,v2] ∧
        tif (((carry fr σ).set ix (some v1)).set iy (some v2)) H' fun b H2 => if b = true then te (((carry fr σ).set ix (some v1)).set iy (some v2)) H2 fun y H3 => H3 D = some (.lst ys)∧∃ m',m' < m∧W (i + 1) m' (ys ++ [y]) (upd H3 D (.lst (ys ++ [y])))
          else ∃ m',m' < m∧W (i + 1) m' ys H2)))
    (fin : ∀ (D C : Addr) (s' : Shared) (H' : Hp) m,s'.heap.Ns C m→Q (.ref D) H'→(∀ h',Heap.SameBut C s'.heap h'→Inv X pins σ H' { s' with heap:=h' })→C≠D→(∀ b o,s2.heap.get? b = some o→b≠C)→H' C = none→s2.heap.objs.size≤C→RR (.ref D) C (.ok .next) s') :
    wpAny (model X.prog X.w) X.A (newList []) (fun acc s₃ => wpAny (model X.prog X.w) X.A (newFunctionEnv scope X.env.globals cl [] X.env.qual none .none (some X.env)) (fun cenv s₄ =>
      codeAny (model X.prog X.w) X.A (.compStart (.ListComp elt [⟨tg2 x y px py tk tp,iter,ifs,0⟩] scope pos) 0 (.ref it) acc { cenv with scope:=relabel scope X.env }) (RR acc cenv.locals) s₄) E s₃) E s2 := by
  have hxv : (relabel scope X.env).names.lookup x = some .local:=lookup_relabel_local S.loc
  have hyv : (relabel scope X.env).names.lookup y = some .local:=lookup_relabel_local S2.loc
  refine comp_blockG (g:=gTup X.K 2 (gCons (gName ix) (gCons (gName iy) gNil))) S hcalm (fun σ' => ∀ v w,(σ'.set ix v).set iy w = ((carry fr σ).set ix v).set iy w) (fun _ _ => rfl) (fun C => pg_tup (X:=cxComp X scope cl N C s2 H2 fp) hcalm (pgs_cons (pg_name (X:=cxComp X scope cl N C s2 H2 fp) S.nd S.at_ (.inl hxv) (.inr hxv)) (pgs_cons (pg_name (X:=cxComp X scope cl N C s2 H2 fp) S2.nd S2.at_ (.inl hyv) (.inr hyv)) pgs_nil))) hfr hlen hif he I2 T st2 f2 c1 c2 (fun D hD => ?_) fin
  obtain ⟨W,w0,st⟩:=W D hD
  refine ⟨W,w0,fun i m ys H w => ?_⟩
  obtain ⟨h1,h2 | ⟨h2,h3,h4⟩⟩:=st i m ys H w
  · exact ⟨h1,.inl h2⟩
  · refine ⟨h1,.inr ⟨h2,h3,fun x H' hy σ' hr => ?_⟩⟩
    obtain ⟨a,v1,v2,rfl,hs,q⟩:=h4 x H' hy
    rw [← hr] at q
    exact ⟨a,[v1,v2],rfl,hs,rfl,v1,[v2],rfl,v2,[],rfl,rfl,fun v w => by rw [set_two hxy,hr],q⟩
theorem pe_comp2 (S : CompScope scope N x ix) (S2 : CompScope scope N y iy) (hxy : ix≠iy) (hcalm : X.calm = true) (hfr : frOk N X.N scope X.env.scope fr 0 = true) (hlen : fr.length = N.length) (hfree : ∀ y∈scope.names,y.2 = .free→X.env.scope.names.lookup y.1 = some .cell∨X.env.scope.names.lookup y.1 = some .free)
    (hi : PI X (tg2 x y px py tk tp) iter wi) (hif : ∀ cl C s₀ H₀ fp,PIf (cxComp X scope cl N C s₀ H₀ fp) ifs tif) (he : ∀ cl C s₀ H₀ fp,PE (cxComp X scope cl N C s₀ H₀ fp) elt te)
    (hs : ∀ x,foldedSetIterable iter X.env x = pure x := by intro _; rfl) : PE X (.ListComp elt [⟨tg2 x y px py tk tp,iter,ifs,0⟩] scope pos) (tComp2 X.K wi fr ix iy tif te) := by
  intro pins s σ H Q I hw
  obtain ⟨cl,hclos,c1,_,c2⟩:=closure_of (env:=X.env) scope.names [] (fun y hy hf => I.ok.has y.1 (hfree y hy hf)) (fun y c z => by cases z)
  have hclos' : closureFor scope X.env = pure cl := by
    have e : closureFor scope X.env = ((forIn scope.names [] (fun (x : Str×NameKind) (r : List (Str×Addr)) => do if (x.2 == NameKind.free) = true then do let a ← cellOf X.env x.1; pure (ForInStep.yield ((x.1,a) :: r)) else pure (ForInStep.yield r)) : Sem (List (Str×Addr))) >>= fun cs => pure cs):=rfl
    rw [e,hclos]
    rfl
  rw [eval_ListComp]
  refine wpAny_comprehension_free (use:=none) rfl hs hclos' S.kind S.names (thn (hi pins s σ H _ I hw) fun v s1 h1 => thn h1 fun itv s2 h2 => ?_)
  obtain ⟨it,fp,tn,J,H2,e,I2,T,st2,f2,W⟩:=h2
  subst e
  refine comp_block2 (RR:=fun acc C => compPost (model X.prog X.w) X.A X.xe none (EP X pins σ Q) acc C) S S2 hxy hcalm hfr hlen hif he I2 T st2 f2 c1 c2 W ?_
  intro D C s' H' m hn q hI _ _ _ _
  exact ⟨m,hn,fun h' hs' => ⟨.ref D,H',hI h' hs',rfl,q⟩⟩
end
section
variable {X : Cx} {elt iter : Expr} {x y : Str} {px py tp pos : Pos} {tk : Nat} {ifs : List Expr} {scope : Scope} {wi : TI} {tif : TT} {te : TE}
theorem pe_compr2 (N : List Str) (ix iy : Nat) (fr : List (Option Nat)) (hi : PI X (tg2 x y px py tk tp) iter wi) (hif : ∀ cl C s₀ H₀ fp,PIf (cxComp X scope cl N C s₀ H₀ fp) ifs tif) (he : ∀ cl C s₀ H₀ fp,PE (cxComp X scope cl N C s₀ H₀ fp) elt te)
    (h1 : compScopeOk scope N x ix = true := by decide +kernel) (h1' : compScopeOk scope N y iy = true := by decide +kernel) (hxy : ix≠iy := by decide) (h2 : X.calm = true := by rfl) (h3 : frOk N X.N scope X.env.scope fr 0 = true := by rfl) (h4 : fr.length = N.length := by rfl) (h5 : freeOk X.env.scope scope.names = true := by rfl)
    (hs : ∀ x,foldedSetIterable iter X.env x = pure x := by intro _; rfl) : PE X (.ListComp elt [⟨.Tuple [.Name x px,.Name y py] tk tp,iter,ifs,0⟩] scope pos) (tComp2 X.K wi fr ix iy tif te) :=
  pe_comp2 (compScope_of h1) (compScope_of h1') hxy h2 h3 h4 (freeOk_of h5) hi hif he hs
end
theorem comp_by2 {K : PySem.W.Frag} {J : It} {n : Nat} {D : Addr} {H1 : Hp} {fr : List (Option Nat)} {σ : St} {ix iy : Nat} {tif : TT} {te : TE} {G : Hp→Prop} (Pv : Nat→List V→Hp→Prop) (h0 : Pv 0 [] (upd H1 D (.lst [])))
    (hgo : ∀ i ys H,i < n→Pv i ys H→H D = some (.lst ys)→J.go i H∧ys.length < sizeLine∧∀ x H',J.yld i H x H'→∃ a v1 v2,x = .ref a∧SqT K H' a [v1,v2] ∧
      tif (((carry fr σ).set ix (some v1)).set iy (some v2)) H' fun b H2 => if b = true then te (((carry fr σ).set ix (some v1)).set iy (some v2)) H2 fun y H3 => H3 D = some (.lst ys)∧∃ m',m' < n - i∧CW Pv n D (i + 1) m' (ys ++ [y]) (upd H3 D (.lst (ys ++ [y])))
        else ∃ m',m' < n - i∧CW Pv n D (i + 1) m' ys H2)
    (hstop : ∀ ys H,Pv n ys H→H D = some (.lst ys)→J.stop n H∧G H) :
    ∃ W : Nat→Nat→List V→Hp→Prop,(∃ m,W 0 m [] (upd H1 D (.lst []))) ∧
      ∀ i m ys H,W i m ys H→H D = some (.lst ys)∧((J.stop i H∧G H)∨(J.go i H∧ys.length < sizeLine∧∀ x H',J.yld i H x H'→∃ a v1 v2,x = .ref a∧SqT K H' a [v1,v2] ∧
        tif (((carry fr σ).set ix (some v1)).set iy (some v2)) H' fun b H2 => if b = true then te (((carry fr σ).set ix (some v1)).set iy (some v2)) H2 fun y H3 => H3 D = some (.lst ys)∧∃ m',m' < m∧W (i + 1) m' (ys ++ [y]) (upd H3 D (.lst (ys ++ [y])))
          else ∃ m',m' < m∧W (i + 1) m' ys H2)) := by
  refine ⟨CW Pv n D,⟨n,by simp,Nat.zero_le _,upd_same,h0⟩,?_⟩
  rintro i m ys H ⟨rfl,hi,hH,p⟩
  refine ⟨hH,?_⟩
  by_cases hlt : i < n
  · exact .inr (hgo i ys H hlt p hH)
  · have : i = n := by lia
    subst this
    exact .inl (hstop ys H p hH)
end L2
namespace ZT
open PySem PyProof.Rows
structure Apart (z TI TO i1 i2 : Addr) (f1 f2 : List Addr) : Prop where
  a1 : TI≠z∧TI≠TO∧TI≠i1∧TI≠i2
  a2 : TO≠z∧TO≠i1∧TO≠i2
  a3 : i1≠z∧i2≠z∧i1≠i2
  b1 : z ∉ f1∧TO ∉ f1∧i2 ∉ f1
  b2 : z ∉ f2∧TO ∉ f2∧i1 ∉ f2
section
variable {prog : Program} {w : World} {A : Around} {E : Value→Shared→Prop} {s : Shared} {z TI TO i1 i2 : Addr} {f1 f2 : List Addr} {n1 n2 k : Nat} {P1 P2 : Nat→Value→Prop} {S1 S2 : Nat→Heap→Prop} {a b : Value}
theorem keep_in {f : List Addr} {x : Addr} {h h' : Heap} (hx : x ∉ f) (e : Heap.SameBut x h h') : ∀ c∈f,∀ o,h.get? c = some o→h'.get? c = some o:=fun c hc o q => (e.2 c fun y => hx (y ▸ hc)).trans q
theorem item {Q : Value→Shared→Prop} (D1 : Draws prog w A i1 f1 n1 P1 S1) (D2 : Draws prog w A i2 f2 n2 P2 S2) (ap : Apart z TI TO i1 i2 f1 f2) (hz : IsZip s.heap z TI TO .none) (hI : IsPair s.heap TI (.ref i1) (.ref i2)) (hO : IsPair s.heap TO a b)
    (t1 : S1 k s.heap) (t2 : S2 k s.heap) (l1 : k < n1) (l2 : k < n2)
    (q : ∀ x y h' tk,P1 k x→P2 k y→IsZip h' z TI TO (rawInt s.heap.objs.size)→IsPair h' TO x y→S1 (k + 1) h'→S2 (k + 1) h'→IsPair h' s.heap.objs.size x y→h'.objs.size = s.heap.objs.size + 1 →
      (∀ c o,c≠z→c≠TO→c≠i1→c≠i2→s.heap.get? c = some o→h'.get? c = some o)→Q (.ref s.heap.objs.size) { s with heap:=h',toks:=tk }) :
    wpAny (model prog w) A (Builtin.«zip.__next__» ⟨[.ref z],[]⟩) (fun fin s' => ∃ v,fin = .done (.ret v)∧Q v s') E s := by
  obtain ⟨⟨c1,c2,c3,c4⟩,⟨c5,c6,c7⟩,⟨c8,c9,c10⟩,⟨d1,d2,d3⟩,d4,d5,d6⟩:=ap
  show wpAny _ _ (field (.ref z) 2 >>= _) _ _ _
  refine wpAny_bind (wpAny_field hz rfl (x:=.bool false) rfl ?_)
  show wpAny _ _ (field (.ref z) 3 >>= _) _ _ _
  refine wpAny_bind (wpAny_field hz rfl (x:=.ref TI) rfl (wpAny_bind (wpAny_seqItems hI rfl ?_)))
  show wpAny _ _ (Builtin.SmallTypes.ownedTupleIsFree (.ref z) >>= _) _ _ _
  unfold Builtin.SmallTypes.ownedTupleIsFree
  refine wpAny_bind (wpAny_bind (wpAny_field hz rfl (x:=.none) rfl (wpAny_pure ?_)))
  simp only [if_true]
  refine wpAny_bind (wpAny_rule (wpAny_bind (wpAny_field hz rfl (x:=.ref TO) rfl (wpAny_bind (wpAny_setField_rec hz (by simp) fun g1 z1 m1 => wpAny_bind ?_)))))
  have m1 : Heap.SameBut z s.heap g1:=m1
  have z1 : IsZip g1 z TI TO .ellipsis:=z1
  simp only [List.zipIdx_cons,List.zipIdx_nil,List.forIn_cons,List.forIn_nil]
  refine wpAny_bind (wpAny_bind (wpAny_onRaise ?_))
  show wpAny _ _ (Builtin.SmallTypes.nextOf (.ref i1) >>= _) _ _ _
  refine wpAny_bind (D1.item k _ _ _ l1 (D1.frame _ _ _ t1 (keep_in d1 m1)) fun x g2 tk2 p1 u1 m2 => wpAny_pure ?_)
  have o2 : IsPair g2 TO a b:=(m2.2 _ c6).trans ((m1.2 _ c5).trans hO)
  refine wpAny_bind (wpAny_seqItems o2 rfl (wpAny_bind (wpAny_updateSeq_pair o2 fun g3 o3 m3 => wpAny_bind (wpAny_letGo (wpAny_pure ?_)))))
  have o3 : IsPair g3 TO x b:=o3
  have t2' : S2 k g3:=D2.frame _ _ _ (D2.frame _ _ _ (D2.frame _ _ _ t2 (keep_in d4 m1)) (keep_in d6 m2)) (keep_in d5 m3)
  refine wpAny_bind (wpAny_bind (wpAny_onRaise ?_))
  show wpAny _ _ (Builtin.SmallTypes.nextOf (.ref i2) >>= _) _ _ _
  refine wpAny_bind (D2.item k _ _ _ l2 t2' fun y g4 tk4 p2 u2 m4 => wpAny_pure ?_)
  have m3 : Heap.SameBut TO g2 g3:=m3
  have m4 : Heap.SameBut i2 g3 g4:=m4
  have o4 : IsPair g4 TO x b:=(m4.2 _ c7).trans o3
  refine wpAny_bind (wpAny_seqItems o4 rfl (wpAny_bind (wpAny_updateSeq_pair o4 fun g5 o5 m5 => wpAny_bind (wpAny_letGo (wpAny_pure (wpAny_pure ?_))))))
  have m5 : Heap.SameBut TO g4 g5:=m5
  have o5 : IsPair g5 TO x y:=o5
  refine wpAny_bind (wpAny_seqItems o5 rfl (wpAny_bind (wpAny_newTuple ?_)))
  have m2 : Heap.SameBut i1 g1 g2:=m2
  have sz : g5.objs.size = s.heap.objs.size := by rw [m5.1,m4.1,m3.1,m2.1,m1.1]
  have z5 : IsZip g5 z TI TO .ellipsis:=(m5.2 _ c5.symm).trans ((m4.2 _ c9.symm).trans ((m3.2 _ c5.symm).trans ((m2.2 _ c8.symm).trans z1)))
  have kp : ∀ c o,c≠z→c≠TO→c≠i1→c≠i2→s.heap.get? c = some o→g5.get? c = some o:=fun c o e1 e2 e3 e4 e => (m5.2 _ e2).trans ((m4.2 _ e4).trans ((m3.2 _ e2).trans ((m2.2 _ e3).trans ((m1.2 _ e1).trans e))))
  have v1 : S1 (k + 1) g5:=D1.frame _ _ _ (D1.frame _ _ _ (D1.frame _ _ _ u1 (keep_in d2 m3)) (keep_in d3 m4)) (keep_in d2 m5)
  have v2 : S2 (k + 1) g5:=D2.frame _ _ _ u2 (keep_in d5 m5)
  show wpAny _ _ (Builtin.SmallTypes.ownedTupleHandOut (.ref z) (.ref g5.objs.size) >>= _) _ _ _
  unfold Builtin.SmallTypes.ownedTupleHandOut
  have z6 : IsZip (g5.push { cls:=.type "tuple",data:=.seq #[x,y] }) z TI TO .ellipsis:=Heap.get?_push_of_some _ z5
  refine wpAny_bind (wpAny_bind (wpAny_setField_rec z6 (by simp) fun g7 z7 m7 => wpAny_setField_rec (show IsZip g7 z TI TO (rawInt g5.objs.size) from z7) (by simp) fun g8 z8 m8 => ?_))
  have z8 : IsZip g8 z TI TO (rawInt g5.objs.size):=z8
  have up : ∀ c o,c≠z→(g5.push { cls:=.type "tuple",data:=.seq #[x,y] }).get? c = some o→g8.get? c = some o:=fun c o e1 e => (m8.2 _ e1).trans ((m7.2 _ e1).trans e)
  have zl : z < g5.objs.size:=Heap.lt_size z5
  refine wpAny_pure ⟨_,rfl,?_⟩
  show Q (.ref g5.objs.size) _
  have fin:=q x y g8 tk4 p1 p2 (by rw [← sz]; exact z8) (up _ _ c5 (Heap.get?_push_of_some _ o5)) (D1.frame _ _ _ v1 fun c hc o e => up c o (fun y => d1 (y ▸ hc)) (Heap.get?_push_of_some _ e)) (D2.frame _ _ _ v2 fun c hc o e => up c o (fun y => d4 (y ▸ hc)) (Heap.get?_push_of_some _ e))
    (by rw [← sz]; exact up _ _ (Nat.ne_of_gt zl) (Heap.get?_push_size _ rfl)) (by rw [← sz,m8.1,m7.1,Heap.size_push]) fun c o e1 e2 e3 e4 e => up c o e1 (Heap.get?_push_of_some _ (kp c o e1 e2 e3 e4 e))
  rw [sz]
  exact fin
theorem ended {Q : Fin→Shared→Prop} (D1 : Draws prog w A i1 f1 n1 P1 S1) (D2 : Draws prog w A i2 f2 n2 P2 S2) (ap : Apart z TI TO i1 i2 f1 f2) (hz : IsZip s.heap z TI TO .none) (hI : IsPair s.heap TI (.ref i1) (.ref i2)) (hO : IsPair s.heap TO a b)
    (t1 : S1 k s.heap) (t2 : S2 k s.heap) (he : k = n1∨(k < n1∧k = n2))
    (q : ∀ h' e tk,(∀ c o,c≠z→c≠TO→c≠i1→c≠i2→s.heap.get? c = some o→h'.get? c = some o)→(∃ o,h'.get? e = some o∧o.cls = .type "StopIteration")→E (.ref e) { s with heap:=h',toks:=tk }) :
    wpAny (model prog w) A (Builtin.«zip.__next__» ⟨[.ref z],[]⟩) Q E s := by
  obtain ⟨⟨c1,c2,c3,c4⟩,⟨c5,c6,c7⟩,⟨c8,c9,c10⟩,⟨d1,d2,d3⟩,d4,d5,d6⟩:=ap
  show wpAny _ _ (field (.ref z) 2 >>= _) _ _ _
  refine wpAny_bind (wpAny_field hz rfl (x:=.bool false) rfl ?_)
  show wpAny _ _ (field (.ref z) 3 >>= _) _ _ _
  refine wpAny_bind (wpAny_field hz rfl (x:=.ref TI) rfl (wpAny_bind (wpAny_seqItems hI rfl ?_)))
  show wpAny _ _ (Builtin.SmallTypes.ownedTupleIsFree (.ref z) >>= _) _ _ _
  unfold Builtin.SmallTypes.ownedTupleIsFree
  refine wpAny_bind (wpAny_bind (wpAny_field hz rfl (x:=.none) rfl (wpAny_pure ?_)))
  simp only [if_true]
  refine wpAny_bind (wpAny_rule (wpAny_bind (wpAny_field hz rfl (x:=.ref TO) rfl (wpAny_bind (wpAny_setField_rec hz (by simp) fun g1 z1 m1 => wpAny_bind ?_)))))
  have m1 : Heap.SameBut z s.heap g1:=m1
  have z1 : IsZip g1 z TI TO .ellipsis:=z1
  simp only [List.zipIdx_cons,List.zipIdx_nil,List.forIn_cons,List.forIn_nil]
  refine wpAny_bind (wpAny_bind (wpAny_onRaise ?_))
  show wpAny _ _ (Builtin.SmallTypes.nextOf (.ref i1) >>= _) _ _ _
  have t1':=D1.frame _ _ _ t1 (keep_in d1 m1)
  rcases he with he | ⟨he1,he2⟩
  · rw [he] at t1'
    refine wpAny_bind (D1.done _ _ _ t1' fun g2 e m2 ho => ?_)
    obtain ⟨o,ho,hc⟩:=ho
    have z2 : IsZip g2 z TI TO .ellipsis:=m2 _ _ c8.symm z1
    have ez : e≠z:=fun y => by subst y; rw [z2] at ho; cases ho; simp at hc
    exact wpAny_setField_rec z2 (by simp) fun g3 _ m3 => q g3 e _ (fun c o e1 e2 e3 e4 y => (m3.2 _ e1).trans (m2 _ _ e3 ((m1.2 _ e1).trans y))) ⟨o,(m3.2 _ ez).trans ho,hc⟩
  · refine wpAny_bind (D1.item k _ _ _ he1 t1' fun x g2 tk2 p1 u1 m2 => wpAny_pure ?_)
    have o2 : IsPair g2 TO a b:=(m2.2 _ c6).trans ((m1.2 _ c5).trans hO)
    refine wpAny_bind (wpAny_seqItems o2 rfl (wpAny_bind (wpAny_updateSeq_pair o2 fun g3 o3 m3 => wpAny_bind (wpAny_letGo (wpAny_pure ?_)))))
    have t2' : S2 k g3:=D2.frame _ _ _ (D2.frame _ _ _ (D2.frame _ _ _ t2 (keep_in d4 m1)) (keep_in d6 m2)) (keep_in d5 m3)
    rw [he2] at t2'
    have m2 : Heap.SameBut i1 g1 g2:=m2
    have m3 : Heap.SameBut TO g2 g3:=m3
    refine wpAny_bind (wpAny_bind (wpAny_onRaise ?_))
    show wpAny _ _ (Builtin.SmallTypes.nextOf (.ref i2) >>= _) _ _ _
    refine wpAny_bind (D2.done _ _ _ t2' fun g4 e m4 ho => ?_)
    obtain ⟨o,ho,hc⟩:=ho
    have z4 : IsZip g4 z TI TO .ellipsis:=m4 _ _ c9.symm ((m3.2 _ c5.symm).trans ((m2.2 _ c8.symm).trans z1))
    have ez : e≠z:=fun y => by subst y; rw [z4] at ho; cases ho; simp at hc
    exact wpAny_setField_rec z4 (by simp) fun g5 _ m5 => q g5 e _ (fun c o e1 e2 e3 e4 y => (m5.2 _ e1).trans (m4 _ _ e4 ((m3.2 _ e2).trans ((m2.2 _ e3).trans ((m1.2 _ e1).trans y))))) ⟨o,(m5.2 _ ez).trans ho,hc⟩
theorem next_item {Q : Option Value→Shared→Prop} (D1 : Draws prog w A.in1 i1 f1 n1 P1 S1) (D2 : Draws prog w A.in1 i2 f2 n2 P2 S2) (ap : Apart z TI TO i1 i2 f1 f2) (hz : IsZip s.heap z TI TO .none) (hI : IsPair s.heap TI (.ref i1) (.ref i2)) (hO : IsPair s.heap TO a b)
    (t1 : S1 k s.heap) (t2 : S2 k s.heap) (l1 : k < n1) (l2 : k < n2)
    (q : ∀ x y h' tk,P1 k x→P2 k y→IsZip h' z TI TO (rawInt s.heap.objs.size)→IsPair h' TO x y→S1 (k + 1) h'→S2 (k + 1) h'→IsPair h' s.heap.objs.size x y→h'.objs.size = s.heap.objs.size + 1 →
      (∀ c o,c≠z→c≠TO→c≠i1→c≠i2→s.heap.get? c = some o→h'.get? c = some o)→Q (some (.ref s.heap.objs.size)) { s with heap:=h',toks:=tk }) :
    wpAny (model prog w) A (pyNext (.ref z)) Q E s := by
  have hT : s.TypeIs (.ref z) "zip" := ⟨_,hz,rfl⟩
  unfold pyNext
  exact wpAny_bind (wpAny_attempt (wpAny_callSpecial?_slot (name:=Str.ofString "__next__") hT F.slot_zip_next
    (wpAny_call_entry F.slot_zip_next hT F.entry_zip_next (item D1 D2 ap hz hI hO t1 t2 l1 l2 fun x y h' tk r1 r2 r3 r4 r5 r6 r7 r8 r9 => wpAny_pure (q x y h' tk r1 r2 r3 r4 r5 r6 r7 r8 r9)) (F.args_zip_next_1 _))))
theorem next_end {Q : Option Value→Shared→Prop} (D1 : Draws prog w A.in1 i1 f1 n1 P1 S1) (D2 : Draws prog w A.in1 i2 f2 n2 P2 S2) (ap : Apart z TI TO i1 i2 f1 f2) (hz : IsZip s.heap z TI TO .none) (hI : IsPair s.heap TI (.ref i1) (.ref i2)) (hO : IsPair s.heap TO a b)
    (t1 : S1 k s.heap) (t2 : S2 k s.heap) (he : k = n1∨(k < n1∧k = n2))
    (q : ∀ h' tk,(∀ c o,c≠z→c≠TO→c≠i1→c≠i2→s.heap.get? c = some o→h'.get? c = some o)→Q none { s with heap:=h',toks:=tk }) :
    wpAny (model prog w) A (pyNext (.ref z)) Q E s := by
  have hT : s.TypeIs (.ref z) "zip" := ⟨_,hz,rfl⟩
  unfold pyNext
  refine wpAny_bind (wpAny_attempt (wpAny_callSpecial?_slot (name:=Str.ofString "__next__") hT F.slot_zip_next
    (wpAny_call_entry F.slot_zip_next hT F.entry_zip_next (ended D1 D2 ap hz hI hO t1 t2 he fun h' e tk kp ho => ?_) (F.args_zip_next_1 _))))
  obtain ⟨o,ho,hc⟩:=ho
  exact wpAny_bind (wpAny_isInstance (T := "StopIteration") (b:=true) ⟨o,ho,hc⟩ isSubtype_stop (wpAny_pure (q _ _ kp)))
end
end ZT
namespace ZT
open PySem PyProof.Rows
def Sq (b : Bool) (h : Heap) (l : Addr) (xs : List Value) : Prop:=if b then h.IsTuple l xs.toArray else h.IsList l xs.toArray
def itO (b : Bool) (l : Addr) : Obj:=if b then { cls:=.type "tuple_iterator",data:=.fields #[.ref l,.int 0 0] } else { cls:=.type "list_iterator",data:=.fields #[.ref l,.int 0 0] }
def It1 (b : Bool) (h : Heap) (it l : Addr) (k : Nat) : Prop:=if b then h.IsTupleIter it l k else h.IsListIter it l k
theorem Sq.push {b : Bool} {h : Heap} {l : Addr} {xs : List Value} (o : Obj) (x : Sq b h l xs) : Sq b (h.push o) l xs := by
  cases b with
  | true => obtain ⟨u,e,r⟩:=(show h.IsTuple l xs.toArray from x); exact (show (h.push o).IsTuple l xs.toArray from ⟨u,Heap.get?_push_of_some _ e,r⟩)
  | false => obtain ⟨u,e,r⟩:=(show h.IsList l xs.toArray from x); exact (show (h.push o).IsList l xs.toArray from ⟨u,Heap.get?_push_of_some _ e,r⟩)
section
variable {prog : Program} {w : World} {A : Around} {E : Value→Shared→Prop} {s : Shared}
theorem iter_sq {b : Bool} {l : Addr} {xs : List Value} {Q : Value→Shared→Prop} (x : Sq b s.heap l xs) (h : Q (.ref s.heap.objs.size) { s with heap:=s.heap.push (itO b l) }) : wpAny (model prog w) A (pyIter (.ref l)) Q E s := by
  cases b with
  | true => exact wpAny_pyIter_tuple x h
  | false => exact wpAny_pyIter_list x h
theorem draws_sq (hh : A.handled = none) (b : Bool) (it l : Addr) (xs : List Value) (hne : l≠it) : Draws prog w A it [it,l] xs.length (fun i v => xs[i]? = some v) (fun i h => It1 b h it l i∧Sq b h l xs) := by
  cases b with
  | true => exact ET.draws hh it l xs hne
  | false =>
    have:=Draws.list (prog:=prog) (w:=w) hh it l hne xs.toArray
    simpa [It1,Sq] using this
def zh (b1 b2 : Bool) (h : Heap) (l1 l2 : Addr) : Heap :=
  ((((h.push (itO b1 l1)).push (itO b2 l2)).push { cls:=.type "tuple",data:=.seq #[.ref h.objs.size,.ref (h.push (itO b1 l1)).objs.size] }).push { cls:=.type "tuple",data:=.seq #[.none,.none] }).push
    { cls:=.type "zip",data:=.fields #[.none,.bool false,.bool false,.ref ((h.push (itO b1 l1)).push (itO b2 l2)).objs.size,.ref (((h.push (itO b1 l1)).push (itO b2 l2)).push { cls:=.type "tuple",data:=.seq #[.ref h.objs.size,.ref (h.push (itO b1 l1)).objs.size] }).objs.size] }
theorem new_zip (b1 b2 : Bool) (l1 l2 : Addr) (xs ys : List Value) :
    Meets (Builtin.«zip.__new__» ⟨[.type "zip",.ref l1,.ref l2],[]⟩) (fun _ R s => Sq b1 s.heap l1 xs∧Sq b2 s.heap l2 ys ∧
      R (.ok (.ret (.ref ((((s.heap.push (itO b1 l1)).push (itO b2 l2)).push { cls:=.type "tuple",data:=.seq #[.ref s.heap.objs.size,.ref (s.heap.push (itO b1 l1)).objs.size] }).push { cls:=.type "tuple",data:=.seq #[.none,.none] }).objs.size)) ) { s with heap:=zh b1 b2 s.heap l1 l2 }) :=
  .of_wp fun prog w A R s h => by
    obtain ⟨hp,g,d,tk,os⟩:=s; obtain ⟨h1,h2,h⟩:=h
    have hsub:=sub_zip
    have i1 : ∀ (A : Around) (E : Value→Shared→Prop) (Q : Value→Shared→Prop),Q (.ref hp.objs.size) ⟨hp.push (itO b1 l1),g,d,tk,os⟩→wpAny (model prog w) A (pyIter (.ref l1)) Q E ⟨hp,g,d,tk,os⟩:=fun A E Q q => iter_sq (s:=⟨hp,g,d,tk,os⟩) h1 q
    have i2 : ∀ (A : Around) (E : Value→Shared→Prop) (Q : Value→Shared→Prop),Q (.ref (hp.push (itO b1 l1)).objs.size) ⟨(hp.push (itO b1 l1)).push (itO b2 l2),g,d,tk,os⟩→wpAny (model prog w) A (pyIter (.ref l2)) Q E ⟨hp.push (itO b1 l1),g,d,tk,os⟩:=fun A E Q q => iter_sq (s:=⟨hp.push (itO b1 l1),g,d,tk,os⟩) (h2.push _) q
    wp_walk using i1,i2
    exact ⟨_,rfl,h⟩
theorem call_zip {b1 b2 : Bool} {l1 l2 : Addr} {xs ys : List Value} {Q : Value→Shared→Prop} (h1 : Sq b1 s.heap l1 xs) (h2 : Sq b2 s.heap l2 ys)
    (h : ∀ h',IsZip h' (s.heap.objs.size + 4) (s.heap.objs.size + 2) (s.heap.objs.size + 3) .none→IsPair h' (s.heap.objs.size + 2) (.ref s.heap.objs.size) (.ref (s.heap.objs.size + 1))→IsPair h' (s.heap.objs.size + 3) .none .none →
      It1 b1 h' s.heap.objs.size l1 0→It1 b2 h' (s.heap.objs.size + 1) l2 0→(∀ c o,s.heap.get? c = some o→h'.get? c = some o)→Q (.ref (s.heap.objs.size + 4)) { s with heap:=h' }) :
    wpAny (model prog w) A (call (.type "zip") [.ref l1,.ref l2]) Q E s := by
  refine callType_new F.called_zip (by decide) (F.typeCall_zip_2 _ _) (F.newCall_zip_2 _ _) (fun obj => F.args_object_init_3 obj _ _) F.entry_zip_new (new_zip b1 b2 l1 l2 xs ys) ⟨h1,h2,?_⟩
  have n1 : (s.heap.push (itO b1 l1)).objs.size = s.heap.objs.size + 1:=Heap.size_push ..
  have up : ∀ (g : Heap) (o : Obj) (c : Addr) (u : Obj),g.get? c = some u→(g.push o).get? c = some u:=fun g o c u e => Heap.get?_push_of_some _ e
  have a0 : (s.heap.push (itO b1 l1)).get? s.heap.objs.size = some (itO b1 l1):=Heap.get?_push_size _ (by cases b1 <;> rfl)
  generalize hg1 : s.heap.push (itO b1 l1) = g1 at n1 a0
  have k1 : ∀ c o,s.heap.get? c = some o→g1.get? c = some o:=fun c o e => by rw [← hg1]; exact up _ _ _ _ e
  have n2 : (g1.push (itO b2 l2)).objs.size = s.heap.objs.size + 2 := by rw [Heap.size_push,n1]
  have a1 : (g1.push (itO b2 l2)).get? (s.heap.objs.size + 1) = some (itO b2 l2) := by rw [← n1]; exact Heap.get?_push_size _ (by cases b2 <;> rfl)
  generalize hg2 : g1.push (itO b2 l2) = g2 at n2 a1
  have k2 : ∀ c o,g1.get? c = some o→g2.get? c = some o:=fun c o e => by rw [← hg2]; exact up _ _ _ _ e
  have n3 : (g2.push { cls:=.type "tuple",data:=.seq #[.ref s.heap.objs.size,.ref (s.heap.objs.size + 1)] }).objs.size = s.heap.objs.size + 3 := by rw [Heap.size_push,n2]
  have a2 : IsPair (g2.push { cls:=.type "tuple",data:=.seq #[.ref s.heap.objs.size,.ref (s.heap.objs.size + 1)] }) (s.heap.objs.size + 2) (.ref s.heap.objs.size) (.ref (s.heap.objs.size + 1)) := by rw [← n2]; exact Heap.get?_push_size _ rfl
  generalize hg3 : g2.push { cls:=.type "tuple",data:=.seq #[.ref s.heap.objs.size,.ref (s.heap.objs.size + 1)] } = g3 at n3 a2
  have k3 : ∀ c o,g2.get? c = some o→g3.get? c = some o:=fun c o e => by rw [← hg3]; exact up _ _ _ _ e
  have n4 : (g3.push { cls:=.type "tuple",data:=.seq #[.none,.none] }).objs.size = s.heap.objs.size + 4 := by rw [Heap.size_push,n3]
  have a3 : IsPair (g3.push { cls:=.type "tuple",data:=.seq #[.none,.none] }) (s.heap.objs.size + 3) .none .none := by rw [← n3]; exact Heap.get?_push_size _ rfl
  generalize hg4 : g3.push { cls:=.type "tuple",data:=.seq #[.none,.none] } = g4 at n4 a3
  have k4 : ∀ c o,g3.get? c = some o→g4.get? c = some o:=fun c o e => by rw [← hg4]; exact up _ _ _ _ e
  have ez : zh b1 b2 s.heap l1 l2 = g4.push { cls:=.type "zip",data:=.fields #[.none,.bool false,.bool false,.ref (s.heap.objs.size + 2),.ref (s.heap.objs.size + 3)] } := by
    unfold zh
    rw [hg1,hg2,n1,hg3,hg4,n2,n3]
  have a4 : IsZip (g4.push { cls:=.type "zip",data:=.fields #[.none,.bool false,.bool false,.ref (s.heap.objs.size + 2),.ref (s.heap.objs.size + 3)] }) (s.heap.objs.size + 4) (s.heap.objs.size + 2) (s.heap.objs.size + 3) .none := by rw [← n4]; exact Heap.get?_push_size _ rfl
  rw [n1,hg3,hg4,n4,ez]
  show _∧_
  have k5 : ∀ c o,g4.get? c = some o→(g4.push { cls:=.type "zip",data:=.fields #[.none,.bool false,.bool false,.ref (s.heap.objs.size + 2),.ref (s.heap.objs.size + 3)] }).get? c = some o:=fun c o e => up _ _ _ _ e
  refine ⟨⟨_,a4,rfl⟩,h _ a4 (k5 _ _ (k4 _ _ a2)) (k5 _ _ a3) ?_ ?_ fun c o e => k5 _ _ (k4 _ _ (k3 _ _ (k2 _ _ (k1 _ _ e))))⟩
  · have:=k5 _ _ (k4 _ _ (k3 _ _ (k2 _ _ a0)))
    cases b1 with
    | true => exact ⟨_,this,rfl,rfl⟩
    | false => exact ⟨_,this,rfl,rfl⟩
  · have:=k5 _ _ (k4 _ _ (k3 _ _ a1))
    cases b2 with
    | true => exact ⟨_,this,rfl,rfl⟩
    | false => exact ⟨_,this,rfl,rfl⟩
end
end ZT
namespace L2
open PySem PySem.Spec PyProof.Rows
def SqH (b : Bool) (H : Hp) (a : Addr) (xs : List V) : Prop:=if b then H a = some (.tup xs) else H a = some (.lst xs)
theorem SqH.inj {b : Bool} {H : Hp} {a : Addr} {xs ys : List V} (h : SqH b H a xs) (k : SqH b H a ys) : xs = ys := by
  cases b with
  | true => have h : H a = some (.tup xs):=h; have k : H a = some (.tup ys):=k; rw [h] at k; cases k; rfl
  | false => have h : H a = some (.lst xs):=h; have k : H a = some (.lst ys):=k; rw [h] at k; cases k; rfl
theorem SqH.none {b : Bool} {H : Hp} {a c : Addr} {xs : List V} (h : SqH b H a xs) (k : H c = none) : a≠c:=fun z => by
  subst z
  cases b with
  | true => have h : H a = some (.tup xs):=h; rw [k] at h; cases h
  | false => have h : H a = some (.lst xs):=h; rw [k] at h; cases h
theorem SqH.raw {X : Cx} {pins : List (Addr×Obj)} {σ : St} {H : Hp} {s : Shared} (I : Inv X pins σ H s) {b : Bool} {a : Addr} {xs : List V} (h : SqH b H a xs) : ∃ its,Vals xs its∧ZT.Sq b s.heap a its := by
  cases b with
  | true =>
    obtain ⟨its,rv,p,_⟩:=I.tuple (SqT.of (K:=X.K) (show H a = some (.tup xs) from h))
    exact ⟨its,rv,p⟩
  | false =>
    obtain ⟨its,rv,p,_⟩:=I.list (SqL.of (K:=X.K) (show H a = some (.lst xs) from h))
    exact ⟨its,rv,p.isList⟩
def Itz (b1 b2 : Bool) (a1 a2 : Addr) : It :=
  ⟨fun i H => ∃ xs x ys y,SqH b1 H a1 xs∧SqH b2 H a2 ys∧xs[i]? = some x∧ys[i]? = some y,
   fun i H v H' => ∃ p x y,v = .ref p∧H p = none∧H' = upd H p (.tup [x,y])∧(∀ xs,SqH b1 H a1 xs→xs[i]? = some x)∧∀ ys,SqH b2 H a2 ys→ys[i]? = some y,
   fun i H => ∃ xs ys,SqH b1 H a1 xs∧SqH b2 H a2 ys∧(i = xs.length∨(i < xs.length∧i = ys.length))⟩
def tnZ (b1 b2 : Bool) (a1 a2 z TI TO i1 i2 : Addr) : Nat→Heap→Prop:=fun i h => IsZip h z TI TO .none∧IsPair h TI (.ref i1) (.ref i2)∧(∃ a b,IsPair h TO a b)∧ZT.It1 b1 h i1 a1 i∧ZT.It1 b2 h i2 a2 i
theorem it1_obj {b : Bool} {h : Heap} {it l : Addr} {k : Nat} (x : ZT.It1 b h it l k) : ∃ o,h.get? it = some o∧∀ v,o.data≠.cell v := by
  cases b with
  | true => obtain ⟨o,e,_,d⟩:=(show h.IsTupleIter it l k from x); exact ⟨o,e,fun v z => by rw [d] at z; cases z⟩
  | false => obtain ⟨o,e,_,d⟩:=(show h.IsListIter it l k from x); exact ⟨o,e,fun v z => by rw [d] at z; cases z⟩
theorem it1_keep {b : Bool} {h h' : Heap} {it l : Addr} {k : Nat} (x : ZT.It1 b h it l k) (e : ∀ o,h.get? it = some o→h'.get? it = some o) : ZT.It1 b h' it l k := by
  cases b with
  | true => obtain ⟨o,q,r⟩:=(show h.IsTupleIter it l k from x); exact (show h'.IsTupleIter it l k from ⟨o,e _ q,r⟩)
  | false => obtain ⟨o,q,r⟩:=(show h.IsListIter it l k from x); exact (show h'.IsListIter it l k from ⟨o,e _ q,r⟩)
theorem turn_zip {P : Program} {w : World} {K : PySem.W.Frag} {elts : List Expr} {x1} {pos : Pos} {b1 b2 : Bool} {a1 a2 z TI TO i1 i2 : Addr} (ne : [z,TI,TO,i1,i2].Nodup) :
    Turn P w K (.Tuple elts x1 pos) (Itz b1 b2 a1 a2) [z,TI,TO,i1,i2] z (tnZ b1 b2 a1 a2 z TI TO i1 i2) where
  mem := by simp
  obj:=fun i h st b hb => by
    obtain ⟨h1,h2,⟨u,v,h3⟩,h4,h5⟩:=st
    have hb : b = z∨b = TI∨b = TO∨b = i1∨b = i2 := by simpa using hb
    rcases hb with rfl | rfl | rfl | rfl | rfl
    · exact ⟨_,h1,fun v y => by cases y⟩
    · exact ⟨_,h2,fun v y => by cases y⟩
    · exact ⟨_,h3,fun v y => by cases y⟩
    · exact it1_obj h4
    · exact it1_obj h5
  keep:=fun i h h' st k => by
    obtain ⟨h1,h2,⟨u,v,h3⟩,h4,h5⟩:=st
    exact ⟨k z (by simp) _ h1,k TI (by simp) _ h2,⟨u,v,k TO (by simp) _ h3⟩,it1_keep h4 fun o e => k i1 (by simp) o e,it1_keep h5 fun o e => k i2 (by simp) o e⟩
  item := by
    intro X hP hw hK hc i pins s σ H E I hf st hg
    subst hP hw hK
    obtain ⟨xs,x,ys,y,q1,q2,hx,hy⟩:=hg
    obtain ⟨us,rv1,p1⟩:=q1.raw I
    obtain ⟨vs,rv2,p2⟩:=q2.raw I
    obtain ⟨u,hu,ru⟩:=rv1.get hx
    obtain ⟨v,hv,rv⟩:=rv2.get hy
    obtain ⟨t1,t2,⟨ta,tb,t3⟩,t4,t5⟩:=st
    have e1 : ∀ b∈[z,TI,TO,i1,i2],a1≠b:=fun b hb => q1.none (hf b hb).1
    have e2 : ∀ b∈[z,TI,TO,i1,i2],a2≠b:=fun b hb => q2.none (hf b hb).1
    simp only [List.nodup_cons,List.mem_cons,List.not_mem_nil,or_false,not_or] at ne
    obtain ⟨⟨n1,n2,n3,n4⟩,⟨n5,n6,n7⟩,⟨n8,n9⟩,n10,_⟩:=ne
    have ap : ZT.Apart z TI TO i1 i2 [i1,a1] [i2,a2]:=⟨⟨Ne.symm n1,n5,n6,n7⟩,⟨Ne.symm n2,n8,n9⟩,⟨Ne.symm n3,Ne.symm n4,n10⟩,
      ⟨by simp [n3,Ne.symm (e1 z (by simp))],by simp [n8,Ne.symm (e1 TO (by simp))],by simp [Ne.symm n10,Ne.symm (e1 i2 (by simp))]⟩,⟨by simp [n4,Ne.symm (e2 z (by simp))],by simp [n9,Ne.symm (e2 TO (by simp))],by simp [n10,Ne.symm (e2 i1 (by simp))]⟩⟩
    refine ZT.next_item (ZT.draws_sq (prog:=X.prog) (w:=X.w) (A:=X.A.in1) (I.ok.hd hc) b1 i1 a1 us (e1 i1 (by simp))) (ZT.draws_sq (prog:=X.prog) (w:=X.w) (A:=X.A.in1) (I.ok.hd hc) b2 i2 a2 vs (e2 i2 (by simp))) ap t1 t2 t3 ⟨t4,p1⟩ ⟨t5,p2⟩ (List.getElem?_eq_some_iff.mp hu).1 (List.getElem?_eq_some_iff.mp hv).1
      fun u' v' h' tk r1 r2 r3 r4 r5 r6 r7 r8 r9 => ⟨_,rfl,wpAny_letOwnedTupleGo_zip (s:={ s with heap:=h',toks:=tk }) r3 fun h'' z'' sb => ?_⟩
    rw [hu] at r1
    rw [hv] at r2
    cases r1
    cases r2
    have keep : ∀ b o,b ∉ [z,TI,TO,i1,i2]→s.heap.get? b = some o→h''.get? b = some o:=fun b o hb q => by
      simp only [List.mem_cons,List.not_mem_nil,or_false,not_or] at hb
      exact (sb.2 b hb.1).trans (r9 b o hb.1 hb.2.2.1 hb.2.2.2.1 hb.2.2.2.2 q)
    have lt : ∀ b∈[z,TI,TO,i1,i2],b < s.heap.objs.size:=fun b hb => by
      have hb : b = z∨b = TI∨b = TO∨b = i1∨b = i2 := by simpa using hb
      rcases hb with rfl | rfl | rfl | rfl | rfl
      · exact Heap.lt_size t1
      · exact Heap.lt_size t2
      · exact Heap.lt_size t3
      · obtain ⟨o,e,_⟩:=it1_obj t4; exact Heap.lt_size e
      · obtain ⟨o,e,_⟩:=it1_obj t5; exact Heap.lt_size e
    have hTn : H s.heap.objs.size = none:=I.hok.fresh (Nat.le_refl _)
    have hT'' : h''.get? s.heap.objs.size = some { cls:=.type "tuple",data:=.seq #[u,v] }:=(sb.2 _ (Nat.ne_of_gt (lt z (by simp)))).trans r7
    have neT : ∀ b o,s.heap.get? b = some o→b≠s.heap.objs.size:=fun b o q => Nat.ne_of_lt (Heap.lt_size q)
    have trk : ∀ b o,H b = some o→b ∉ [z,TI,TO,i1,i2]:=fun b o q hb => by rw [(hf b hb).1] at q; cases q
    refine ⟨.ref s.heap.objs.size,upd H s.heap.objs.size (.tup [x,y]),?_,rfl,⟨_,x,y,rfl,hTn,rfl,fun zs hz => by rw [hz.inj q1]; exact hx,fun zs hz => by rw [hz.inj q2]; exact hy⟩,⟨z'',?_,⟨u,v,?_⟩,?_,?_⟩,fun b hb => ?_⟩
    · show Inv X pins σ _ { s with heap:=h'',gens:=s.gens,drawn:=s.drawn,toks:=tk }
      refine I.step (h':=h'') (g':=s.gens) (d':=s.drawn) (t':=tk) (ch:=[z,TI,TO,i1,i2]) (fun b hb => ?_) (fun b o _ _ hc q _ => keep b o hc q) (fun b o _ _ hc q _ => ⟨o.slots,keep b o hc q⟩)
        (fun b o _ q n => by rw [upd_ne (neT b o q)]; exact n) (fun b o hc q => ⟨o,keep b o hc q⟩) (fun b ys q => by rw [upd_ne (ne_of_none q hTn)]; exact q) (fun b o u q => by rw [upd_ne (ne_of_none q hTn)]; exact q)
        (fun b ps q => ⟨#[],by rw [upd_ne (ne_of_none q hTn),q]; simp⟩) (fun b _ o hc _ q => keep b o hc q) (fun m hm => ?_) (fun b o q => ?_) I.bare
      · obtain ⟨_,f1,_,f3,f4,f5⟩:=hf b hb
        exact ⟨f3,f1,f4,f5⟩
      · obtain ⟨o,es,ep,ho,r⟩:=hm
        exact ⟨o,es,ep,keep _ o (fun hb => (hf _ hb).2.1 rfl) ho,r⟩
      · by_cases hb : b = s.heap.objs.size
        · subst hb
          rw [upd_same] at q
          cases q
          exact ⟨sz2,[u,v],.cons ru (.cons rv .nil),_,hT'',rfl,_,rfl⟩
        · rw [upd_ne hb] at q
          refine (I.hok b o q).stay (fun c w hc r => keep c w ?_ r) (fun c r => by rw [upd_ne (ne_of_none r hTn)]; exact r) fun c ys r => by rw [upd_ne (ne_of_none r hTn)]; exact r
          rcases hc with rfl | hc
          · exact trk _ _ q
          · exact trk _ _ hc
    · exact (sb.2 _ (Ne.symm n1)).trans (r9 _ _ (Ne.symm n1) n5 n6 n7 t2)
    · exact (sb.2 _ (Ne.symm n2)).trans r4
    · exact it1_keep r5.1 fun o e => (sb.2 _ (Ne.symm n3)).trans e
    · exact it1_keep r6.1 fun o e => (sb.2 _ (Ne.symm n4)).trans e
    · rw [upd_ne (Nat.ne_of_lt (lt b hb))]
      exact (hf b hb).1
  done := by
    intro X hP hw hK hc i pins s σ H E I hf st hg
    subst hP hw hK
    obtain ⟨xs,ys,q1,q2,he⟩:=hg
    obtain ⟨us,rv1,p1⟩:=q1.raw I
    obtain ⟨vs,rv2,p2⟩:=q2.raw I
    obtain ⟨t1,t2,⟨ta,tb,t3⟩,t4,t5⟩:=st
    have e1 : ∀ b∈[z,TI,TO,i1,i2],a1≠b:=fun b hb => q1.none (hf b hb).1
    have e2 : ∀ b∈[z,TI,TO,i1,i2],a2≠b:=fun b hb => q2.none (hf b hb).1
    simp only [List.nodup_cons,List.mem_cons,List.not_mem_nil,or_false,not_or] at ne
    obtain ⟨⟨n1,n2,n3,n4⟩,⟨n5,n6,n7⟩,⟨n8,n9⟩,n10,_⟩:=ne
    have ap : ZT.Apart z TI TO i1 i2 [i1,a1] [i2,a2]:=⟨⟨Ne.symm n1,n5,n6,n7⟩,⟨Ne.symm n2,n8,n9⟩,⟨Ne.symm n3,Ne.symm n4,n10⟩,
      ⟨by simp [n3,Ne.symm (e1 z (by simp))],by simp [n8,Ne.symm (e1 TO (by simp))],by simp [Ne.symm n10,Ne.symm (e1 i2 (by simp))]⟩,⟨by simp [n4,Ne.symm (e2 z (by simp))],by simp [n9,Ne.symm (e2 TO (by simp))],by simp [n10,Ne.symm (e2 i1 (by simp))]⟩⟩
    have he' : i = us.length∨(i < us.length∧i = vs.length) := by rw [← rv1.length,← rv2.length]; exact he
    refine ZT.next_end (ZT.draws_sq (prog:=X.prog) (w:=X.w) (A:=X.A.in1) (I.ok.hd hc) b1 i1 a1 us (e1 i1 (by simp))) (ZT.draws_sq (prog:=X.prog) (w:=X.w) (A:=X.A.in1) (I.ok.hd hc) b2 i2 a2 vs (e2 i2 (by simp))) ap t1 t2 t3 ⟨t4,p1⟩ ⟨t5,p2⟩ he' fun h' tk kp => ⟨rfl,?_⟩
    have keep : ∀ b o,b ∉ [z,TI,TO,i1,i2]→s.heap.get? b = some o→h'.get? b = some o:=fun b o hb q => by
      simp only [List.mem_cons,List.not_mem_nil,or_false,not_or] at hb
      exact kp b o hb.1 hb.2.2.1 hb.2.2.2.1 hb.2.2.2.2 q
    have trk : ∀ b o,H b = some o→b ∉ [z,TI,TO,i1,i2]:=fun b o q hb => by rw [(hf b hb).1] at q; cases q
    show Inv X pins σ _ { s with heap:=h',gens:=s.gens,drawn:=s.drawn,toks:=tk }
    refine I.step (h':=h') (g':=s.gens) (d':=s.drawn) (t':=tk) (ch:=[z,TI,TO,i1,i2]) (fun b hb => ?_) (fun b o _ _ hc q _ => keep b o hc q) (fun b o _ _ hc q _ => ⟨o.slots,keep b o hc q⟩)
        (fun b o _ q n => n) (fun b o hc q => ⟨o,keep b o hc q⟩) (fun b ys q => q) (fun b o u q => q)
        (fun b ps q => ⟨#[],by rw [q]; simp⟩) (fun b _ o hc _ q => keep b o hc q) (fun m hm => ?_) (fun b o q => ?_) I.bare
    · obtain ⟨_,f1,_,f3,f4,f5⟩:=hf b hb
      exact ⟨f3,f1,f4,f5⟩
    · obtain ⟨o,es,ep,ho,r⟩:=hm
      exact ⟨o,es,ep,keep _ o (fun hb => (hf _ hb).2.1 rfl) ho,r⟩
    · refine (I.hok b o q).stay (fun c w hc r => keep c w ?_ r) (fun c r => r) fun c ys r => r
      rcases hc with rfl | hc
      · exact trk _ _ q
      · exact trk _ _ hc
  self:=fun _ _ _ _ _ st h => wpAny_pyIter_zip st.1 h
def iZip (ta : TA) : TI:=fun σ H R => ta σ H fun vs H1 => ∃ (b1 b2 : Bool) (a1 a2 : Addr),vs = [.ref a1,.ref a2]∧(∃ xs,SqH b1 H1 a1 xs)∧(∃ ys,SqH b2 H1 a2 ys)∧R (Itz b1 b2 a1 a2) H1
theorem pi_zip {X : Cx} {elts : List Expr} {x1} {tpos : Pos} {a b : Expr} {ta : TA} {p pos : Pos} (hg : Gl X "zip") (hm : X.mg "zip" = none) (ha : PA X [a,b] ta) (hs : starEach [a,b] X.env = [(false,eval a X.env),(false,eval b X.env)] := by rfl) (hs2 : starEach [b] X.env = [(false,eval b X.env)] := by rfl) :
    PI X (.Tuple elts x1 tpos) (.Call (.Name "zip" p) [a,b] [] pos) (iZip ta) := by
  intro pins s σ H R I h
  refine Call_ (ld_blt I hg hm boot_zip (PyProof.Rows.callWith_type1 (thn (ha pos pins s σ H _ I h) fun us s1 ⟨vs,H1,I1,r1,q1⟩ => ?_) (by rw [hs,hs2]) (by rw [hs2]; rfl)))
  obtain ⟨b1,b2,l1,l2,e,⟨xs,h1⟩,⟨ys,h2⟩,q⟩:=q1
  subst e
  cases r1 with
  | cons r rr =>
    cases rr with
    | cons r' rr =>
      cases rr
      cases r
      cases r'
      obtain ⟨us,_,p1⟩:=h1.raw I1
      obtain ⟨vs,_,p2⟩:=h2.raw I1
      refine ZT.call_zip p1 p2 fun h' z1 z2 z3 z4 z5 hk => wpAny_pyIter_zip z1 ?_
      have I2 : Inv X pins σ H1 { s1 with heap:=h' }:=I1.kept (t':=s1.toks) hk
      refine ⟨_,[s1.heap.objs.size + 4,s1.heap.objs.size + 2,s1.heap.objs.size + 3,s1.heap.objs.size,s1.heap.objs.size + 1],_,_,H1,rfl,I2,turn_zip ?_,⟨z1,z2,⟨_,_,z3⟩,z4,z5⟩,fun b hb => ?_,q⟩
      · simp
      have hb' : s1.heap.objs.size≤b := by
        have hb2 : b = s1.heap.objs.size + 4∨b = s1.heap.objs.size + 2∨b = s1.heap.objs.size + 3∨b = s1.heap.objs.size∨b = s1.heap.objs.size + 1 := by simpa using hb
        rcases hb2 with h | h | h | h | h <;> rw [h] <;> first | exact Nat.le_refl _ | exact Nat.le_add_right _ _
      exact I1.fpOk hb' (I1.hok.fresh hb')
section
variable {X : Cx}
theorem op_notB : OpR X (compareOp .IsNot) (fun x y H Q => ∃ b c,x = .bl b∧y = .bl c∧Q (.bl (!(b == c))) H) := by
  intro pins s σ H x y v u Q I rx ry h
  obtain ⟨b,c,rfl,rfl,q⟩:=h
  cases rx
  cases ry
  exact wpAny_pure (fin_bl I q (by cases b <;> cases c <;> rfl))
end
def ItE (K : PySem.W.Frag) (a : Addr) : It :=
  ⟨fun i H => ∃ xs x,SqL K H a xs∧xs[i]? = some x,fun i H v H' => ∃ p x,v = .ref p∧H p = none∧H' = upd H p (.tup [.int i,x])∧∀ xs,SqL K H a xs→xs[i]? = some x,fun i H => ∃ xs,SqL K H a xs∧xs.length = i⟩
theorem turn_enumL {P : Program} {w : World} {K : PySem.W.Frag} {elts : List Expr} {x1} {pos : Pos} (a e it : Addr) (hne : e≠it) :
    Turn P w K (.Tuple elts x1 pos) (ItE K a) [e,it] e (fun i h => (∃ old,IsEnum h e it (i : Nat) old)∧h.IsListIter it a i) where
  mem := by simp
  obj:=fun i h st b hb => by
    rcases List.mem_cons.mp hb with rfl | hb
    · obtain ⟨⟨old,q⟩,_⟩:=st
      exact ⟨_,q,fun v z => by cases z⟩
    · have e2 : b = it := by simpa using hb
      subst e2
      obtain ⟨_,o,q,c,d⟩:=st
      exact ⟨o,q,fun v z => by rw [d] at z; cases z⟩
  keep:=fun i h h' st k => by
    obtain ⟨⟨old,q⟩,o,q2,r⟩:=st
    exact ⟨⟨old,k e (by simp) _ q⟩,o,k it (by simp) _ q2,r⟩
  item := by
    intro X hP hw hK hc i pins s σ H E I hf st hg
    subst hP hw hK
    obtain ⟨xs,x,hq,hx⟩:=hg
    obtain ⟨its,rv,pL,hz⟩:=I.list hq
    have p:=pL.isList
    obtain ⟨u,hu,ru⟩:=rv.get hx
    obtain ⟨⟨old,he⟩,hit⟩:=st
    have hai : a≠it:=fun z => by
      obtain ⟨o,e1,c1,_⟩:=p
      obtain ⟨o2,e2,c2,_⟩:=hit
      rw [z,e2] at e1; cases e1
      rw [c1] at c2; exact absurd c2 (by decide)
    have hae : a≠e:=fun z => by
      obtain ⟨o,e1,c1,_⟩:=p
      rw [z,he] at e1; cases e1
      exact absurd (show Value.type "enumerate" = Value.type "list" from c1) (by decide)
    have hlt : i < its.length:=(List.getElem?_eq_some_iff.mp hu).1
    have hE0:=hf e (by simp)
    have hI0:=hf it (by simp)
    refine wpAny_pyNext_enum_itemD (Draws.list (prog:=X.prog) (w:=X.w) (A:=X.A.in1) (I.ok.hd hc) it a hai its.toArray) he ⟨hit,p⟩ (by simpa using hlt) hne (by simp [hne,Ne.symm hae]) fun y h' tk hy ho hs' hT hsz hk => ⟨_,rfl,wpAny_letOwnedTupleGo_enum (s:={ s with heap:=h',toks:=tk + 1 }) ho fun h'' he'' sb => ?_⟩
    have hyu : y = u := by
      have hy : its[i]? = some y := by simpa using hy
      rw [hu] at hy; exact (Option.some.inj hy).symm
    subst hyu
    have keep : ∀ b o,b≠e→b≠it→s.heap.get? b = some o→h''.get? b = some o:=fun b o h1 h2 q => (sb.2 b h1).trans (hk b o h1 h2 q)
    have hTe : s.heap.objs.size≠e:=Nat.ne_of_gt (Heap.lt_size he)
    have hTi : s.heap.objs.size≠it:=let ⟨_,q,_⟩:=hit; Nat.ne_of_gt (Heap.lt_size q)
    have hT'' : h''.get? s.heap.objs.size = some { cls:=.type "tuple",data:=.seq #[.int i tk,y] }:=(sb.2 _ hTe).trans hT
    have hTn : H s.heap.objs.size = none:=I.hok.fresh (Nat.le_refl _)
    have neT : ∀ b o,s.heap.get? b = some o→b≠s.heap.objs.size:=fun b o q => Nat.ne_of_lt (Heap.lt_size q)
    have trk : ∀ b o,H b = some o→b≠e∧b≠it:=fun b o q => ⟨(fun z => by rw [z,hE0.1] at q; cases q),(fun z => by rw [z,hI0.1] at q; cases q)⟩
    refine ⟨.ref s.heap.objs.size,upd H s.heap.objs.size (.tup [.int i,x]),?_,rfl,⟨_,x,rfl,hTn,rfl,fun ys hy => by rw [I.list_inj hy hq]; exact hx⟩,⟨⟨_,by simpa using he''⟩,?_⟩,fun b hb => ?_⟩
    · show Inv X pins σ _ { s with heap:=h'',gens:=s.gens,drawn:=s.drawn,toks:=tk + 1 }
      refine I.step (h':=h'') (g':=s.gens) (d':=s.drawn) (t':=tk + 1) (ch:=[e,it]) (fun b hb => ?_) (fun b o _ _ hc q _ => keep b o (fun z => hc (by simp [z])) (fun z => hc (by simp [z])) q) (fun b o _ _ hc q _ => ⟨o.slots,keep b o (fun z => hc (by simp [z])) (fun z => hc (by simp [z])) q⟩)
        (fun b o _ q n => by rw [upd_ne (neT b o q)]; exact n) (fun b o hc q => ⟨o,keep b o (fun z => hc (by simp [z])) (fun z => hc (by simp [z])) q⟩) (fun b ys q => by rw [upd_ne (ne_of_none q hTn)]; exact q) (fun b o u q => by rw [upd_ne (ne_of_none q hTn)]; exact q)
        (fun b ps q => ⟨#[],by rw [upd_ne (ne_of_none q hTn),q]; simp⟩) (fun b _ o hc _ q => keep b o (fun z => hc (by simp [z])) (fun z => hc (by simp [z])) q) (fun m hm => ?_) (fun b o q => ?_) I.bare
      · rcases List.mem_cons.mp hb with rfl | hb
        · exact ⟨hE0.2.2.2.1,hE0.2.1,hE0.2.2.2.2.1,hE0.2.2.2.2.2⟩
        · have e2 : b = it := by simpa using hb
          subst e2
          exact ⟨hI0.2.2.2.1,hI0.2.1,hI0.2.2.2.2.1,hI0.2.2.2.2.2⟩
      · obtain ⟨o,es,ep,ho,r⟩:=hm
        exact ⟨o,es,ep,keep _ o (Ne.symm hE0.2.1) (Ne.symm hI0.2.1) ho,r⟩
      · by_cases hb : b = s.heap.objs.size
        · subst hb
          rw [upd_same] at q
          cases q
          exact ⟨sz2,[.int i tk,y],.cons ⟨tk,rfl⟩ (.cons ru .nil),_,hT'',rfl,_,rfl⟩
        · rw [upd_ne hb] at q
          refine (I.hok b o q).stay (fun c v hc r => keep c v ?_ ?_ r) (fun c r => by rw [upd_ne (ne_of_none r hTn)]; exact r) fun c ys r => by rw [upd_ne (ne_of_none r hTn)]; exact r
          · rcases hc with rfl | hc
            · exact (trk _ _ q).1
            · exact (trk _ _ hc).1
          · rcases hc with rfl | hc
            · exact (trk _ _ q).2
            · exact (trk _ _ hc).2
    · obtain ⟨⟨o,q,r⟩,_⟩:=hs'
      exact ⟨o,(sb.2 it (Ne.symm hne)).trans q,r⟩
    · rcases List.mem_cons.mp hb with rfl | hb
      · rw [upd_ne (Ne.symm hTe)]; exact hE0.1
      · have e2 : b = it := by simpa using hb
        subst e2
        rw [upd_ne (Ne.symm hTi)]; exact hI0.1
  done := by
    intro X hP hw hK hc i pins s σ H E I hf st hg
    subst hP hw hK
    obtain ⟨xs,hq,hx⟩:=hg
    obtain ⟨its,rv,pL,hz⟩:=I.list hq
    have p:=pL.isList
    obtain ⟨⟨old,he⟩,hit⟩:=st
    have hai : a≠it:=fun z => by
      obtain ⟨o,e1,c1,_⟩:=p
      obtain ⟨o2,e2,c2,_⟩:=hit
      rw [z,e2] at e1; cases e1
      rw [c1] at c2; exact absurd c2 (by decide)
    have hl : its.length = i := by rw [← rv.length]; exact hx
    subst hl
    obtain ⟨f0,f1,f2,f3,f4,f5⟩:=hf it (by simp)
    exact wpAny_pyNext_enum_endD (Draws.list (prog:=X.prog) (w:=X.w) (A:=X.A.in1) (I.ok.hd hc) it a hai its.toArray) he ⟨hit,p⟩ fun h' eb => ⟨rfl,I.turned (t':=s.toks) (fun b o hb q => eb b o hb q) f0 f1 f3 f4 f5⟩
  self:=fun _ _ _ _ _ st h => by
    obtain ⟨⟨old,he⟩,_⟩:=st
    exact wpAny_pyIter_enum he h
def iEnumL (K : PySem.W.Frag) (ta : TA) : TI:=fun σ H R => ta σ H fun vs H1 => ∃ a,vs = [.ref a]∧(∃ xs,SqL K H1 a xs)∧R (ItE K a) H1
theorem pi_enumL {X : Cx} {elts : List Expr} {x1} {tpos : Pos} {a : Expr} {ta : TA} {p pos : Pos} (hg : Gl X "enumerate") (hm : X.mg "enumerate" = none) (ha : PA X [a] ta) (hs : starEach [a] X.env = [(false,eval a X.env)] := by rfl) :
    PI X (.Tuple elts x1 tpos) (.Call (.Name "enumerate" p) [a] [] pos) (iEnumL X.K ta) := by
  intro pins s σ H R I h
  refine Call_ (ld_blt I hg hm boot_enumerate (PyProof.Rows.callWith_type1 (thn (ha pos pins s σ H _ I h) fun us s1 ⟨vs,H1,I1,r1,q1⟩ => ?_) hs rfl))
  obtain ⟨t,e,⟨xs,hq⟩,q⟩:=q1
  subst e
  cases r1 with
  | cons r rr =>
    cases rr
    cases r
    obtain ⟨its,rv,p',hz⟩:=I1.list hq
    refine call_enumerate_list (show s1.heap.IsList t its.toArray from p'.isList) fun h' he hit hsz hk => wpAny_pyIter_enum he ?_
    have I2 : Inv X pins σ H1 { s1 with heap:=h' }:=I1.kept (t':=s1.toks) hk
    have hn : s1.heap.objs.size + 1≠s1.heap.objs.size := by lia
    refine ⟨s1.heap.objs.size + 1,[s1.heap.objs.size + 1,s1.heap.objs.size],_,_,H1,rfl,I2,turn_enumL t _ _ hn,⟨⟨_,he⟩,hit⟩,fun b hb => ?_,q⟩
    have hb' : s1.heap.objs.size≤b := by
      have hb2 : b = s1.heap.objs.size + 1∨b = s1.heap.objs.size := by simpa using hb
      rcases hb2 with z | z
      · rw [z]; exact Nat.le_succ _
      · rw [z]; exact Nat.le_refl _
    exact I1.fpOk hb' (I1.hok.fresh hb')
theorem for_enumL {K : PySem.W.Frag} {a : Addr} {xs : List V} {g : TG} {tb : TS} {D : Ends} {σ : St} {H : Hp} (Pv : Nat→St→Hp→Prop) (h0 : Pv 0 σ H) (hl : ∀ i σ H,i≤xs.length→Pv i σ H→SqL K H a xs)
    (hs : ∀ i x σ H,xs[i]? = some x→Pv i σ H→∀ p,H p = none→g (.ref p) σ (upd H p (.tup [.int (i : Nat),x])) fun σ2 H2 => tb { D with nx:=Pv (i + 1),ct:=Pv (i + 1),bk:=D.nx } σ2 H2) (hd : ∀ σ H,Pv xs.length σ H→D.nx σ H) :
    ∃ W : Nat→Nat→St→Hp→Prop,(∃ m,W 0 m σ H)∧∀ i m σ H,W i m σ H →
      ((ItE K a).stop i H∧D.nx σ H)∨((ItE K a).go i H∧∃ N : St→Hp→Prop,(∀ σ' H',N σ' H'→∃ m',m' < m∧W (i + 1) m' σ' H')∧∀ x H',(ItE K a).yld i H x H'→g x σ H' fun σ2 H2 => tb { D with nx:=N,ct:=N,bk:=D.nx } σ2 H2) := by
  refine ⟨fun i m σ H => m = xs.length - i∧i≤xs.length∧Pv i σ H,⟨xs.length,by simp,Nat.zero_le _,h0⟩,?_⟩
  rintro i m σ H ⟨rfl,hi,p⟩
  have q:=hl i σ H hi p
  by_cases hlt : i < xs.length
  · refine .inr ⟨⟨xs,xs[i],q,by simp [hlt]⟩,Pv (i + 1),fun σ' H' p' => ⟨xs.length - (i + 1),by lia,rfl,hlt,p'⟩,fun x H' y => ?_⟩
    obtain ⟨pp,x',rfl,hn,rfl,y⟩:=y
    exact hs i x' σ _ (y xs q) p pp hn
  · have e : i = xs.length := by lia
    subst e
    exact .inl ⟨⟨xs,q,rfl⟩,hd σ H p⟩
def litE : Nat→Expr→Option PyData
  | _,.Constant (.int i) _ _ => some (.int i)
  | _,.Constant (.bool b) _ _ => some (.bool b)
  | _,.Constant .none _ _ => some .none
  | _,.Constant (.str x) _ _ => some (.str x)
  | n + 1,.Tuple es _ _ => if es.length≤60 then (es.mapM (litE n)).map .tuple else none
  | n + 1,.List es _ => if es.length≤60 then (es.mapM (litE n)).map .list else none
  | _,_ => none
def tLit (d : PyData) : TE:=fun _ H Q => ∀ v H',Same H H'→(∀ p,(H' p = none∨H p≠none)→Dt p H' d v)→Q v H'
def tLits (ds : List PyData) : TA:=fun _ H Q => ∀ vs H',Same H H'→(∀ p,(H' p = none∨H p≠none)→DtAll p H' ds vs)→vs.length = ds.length→Q vs H'
theorem mapM_len {α β : Type} {f : α→Option β} : ∀ {es : List α} {ds : List β},es.mapM f = some ds→ds.length = es.length
  | [],ds,h => by simp at h; subst h; rfl
  | e :: es,ds,h => by
    simp only [List.mapM_cons,Option.bind_eq_bind,Option.bind_eq_some_iff,Option.pure_def,Option.some.injEq] at h
    obtain ⟨d,h1,ds',h2,rfl⟩:=h
    rw [List.length_cons,List.length_cons,mapM_len h2]
theorem lit_plain {n : Nat} {e : Expr} {d : PyData} (h : litE n e = some d) (es : List Expr) (env : Env) : starEach (e :: es) env = (false,eval e env) :: starEach es env := by
  cases e <;> first | rfl | (cases n <;> simp [litE] at h)
section
variable {X : Cx}
theorem pe_less {e : Expr} {t t' : TE} (h : PE X e t) (k : ∀ σ H Q,t' σ H Q→t σ H Q) : PE X e t':=fun pins s σ H Q I q => h pins s σ H Q I (k σ H Q q)
theorem pa_less {e : List Expr} {t t' : TA} (h : PA X e t) (k : ∀ σ H Q,t' σ H Q→t σ H Q) : PA X e t':=fun pos pins s σ H Q I q => h pos pins s σ H Q I (k σ H Q q)
theorem pa_lits_of {n : Nat} (hp : ∀ {e : Expr} {d : PyData},litE n e = some d→PE X e (tLit d)) : ∀ {es : List Expr} {ds : List PyData},es.mapM (litE n) = some ds→PA X es (tLits ds)
  | [],ds,h => by
    simp at h
    subst h
    exact pa_less pa_nil fun σ H Q q => q [] H (.refl H) (fun p _ => .nil) rfl
  | e :: es,ds,h => by
    simp only [List.mapM_cons,Option.bind_eq_bind,Option.bind_eq_some_iff,Option.pure_def,Option.some.injEq] at h
    obtain ⟨d,h1,ds',h2,rfl⟩:=h
    refine pa_less (pa_cons (hp h1) (pa_lits_of hp h2) (lit_plain h1 _ _)) fun σ H Q q => ?_
    intro v H1 e1 k1 vs H2 e2 k2 hl
    refine q (v :: vs) H2 (e1.trans e2) (fun p hp => .cons ((k1 p ?_).same e2) (k2 p ?_)) (by simp [hl])
    · rcases hp with hp | hp
      · exact .inl (e2.free hp)
      · exact .inr hp
    · rcases hp with hp | hp
      · exact .inl hp
      · refine .inr fun z => hp (e1.free z)
theorem pe_lit : ∀ {n : Nat} {e : Expr} {d : PyData},litE n e = some d→PE X e (tLit d)
  | n,e,d,h => by
    have hs : 60≤sizeLine := by rw [sizeLine_eq]; decide
    unfold litE at h
    split at h
    · cases h; exact pe_less pe_int fun σ H Q q => q _ H (.refl H) fun p _ => .int
    · cases h; exact pe_less pe_bl fun σ H Q q => q _ H (.refl H) fun p _ => .bool
    · cases h; exact pe_less pe_non fun σ H Q q => q _ H (.refl H) fun p _ => .non
    · cases h; exact pe_less pe_str fun σ H Q q => q _ H (.refl H) fun p _ => .str
    · split at h
      · rename_i m es _ _ hes
        simp only [Option.map_eq_some_iff] at h
        obtain ⟨ds,h1,rfl⟩:=h
        refine pe_less (pe_tup (pa_lits_of (fun h => pe_lit (n:=m) h) h1)) fun σ H Q q => ?_
        intro vs H1 e1 k1 hl
        have hlen:=mapM_len h1
        refine ⟨by lia,fun p hp => ?_⟩
        have es:=same_new hp (.tup vs)
        refine q _ _ (e1.trans es) fun p' hp' => .tup ?_ upd_same ((k1 p' ?_).same es)
        · rcases hp' with hp' | hp'
          · exact ne_of_none upd_same hp'
          · exact fun z => hp' (z ▸ e1.free hp)
        · rcases hp' with hp' | hp'
          · exact .inl (es.free hp')
          · exact .inr hp'
      · cases h
    · split at h
      · rename_i m es _ hes
        simp only [Option.map_eq_some_iff] at h
        obtain ⟨ds,h1,rfl⟩:=h
        refine pe_less (pe_lst (pa_lits_of (fun h => pe_lit (n:=m) h) h1)) fun σ H Q q => ?_
        intro vs H1 e1 k1 hl
        have hlen:=mapM_len h1
        refine ⟨by lia,fun p hp => ?_⟩
        have es:=same_new hp (.lst vs)
        refine q _ _ (e1.trans es) fun p' hp' => .lst ?_ upd_same ((k1 p' ?_).same es)
        · rcases hp' with hp' | hp'
          · exact ne_of_none upd_same hp'
          · exact fun z => hp' (z ▸ e1.free hp)
        · rcases hp' with hp' | hp'
          · exact .inl (es.free hp')
          · exact .inr hp'
      · cases h
    · cases h
end
section
variable {κ : Type} [DecidableEq κ]
def valV (kvs : List (κ×V)) (k : κ) : Option V:=(kvs.find? fun kv => decide (kv.1 = k)).map (·.2)
def putK (kvs : List (κ×V)) (k : κ) (v : V) : List (κ×V) :=
  if (kvs.any fun kv => decide (kv.1 = k)) = true then kvs.map (fun kv => if kv.1 = k then (kv.1,v) else kv) else kvs ++ [(k,v)]
theorem valV_pos {p : κ×V} {r : List (κ×V)} {k : κ} (e : p.1 = k) : valV (p :: r) k = some p.2 := by simp [valV,List.find?_cons,e]
theorem valV_neg {p : κ×V} {r : List (κ×V)} {k : κ} (e : ¬ p.1 = k) : valV (p :: r) k = valV r k := by simp [valV,List.find?_cons,e]
theorem valV_any (k : κ) : ∀ kvs : List (κ×V),(kvs.any fun kv => decide (kv.1 = k)) = (valV kvs k).isSome
  | [] => rfl
  | p :: r => by
    rw [List.any_cons]
    by_cases e : p.1 = k
    · simp only [valV_pos e,decide_eq_true e,Bool.true_or,Option.isSome_some]
    · rw [valV_neg e,decide_eq_false e,Bool.false_or]; exact valV_any k r
theorem length_putK (kvs : List (κ×V)) (k : κ) (v : V) : (putK kvs k v).length≤kvs.length + 1 := by
  unfold putK
  split
  · rw [List.length_map]; lia
  · rw [List.length_append,List.length_cons,List.length_nil]; lia
theorem RelO.isSome_eq {o : Option V} {u : Option Value} (r : RelO o u) : o.isSome = u.isSome := by
  cases o with
  | none => cases u with
    | none => rfl
    | some _ => exact (show False from r).elim
  | some _ => cases u with
    | none => exact (show False from r).elim
    | some _ => rfl
theorem KV.val {kvs : List (κ×V)} {vs : List (κ×Value)} (r : KV kvs vs) (k : κ) : RelO (valV kvs k) (valueAt vs k) := by
  unfold KV at r
  induction r with
  | nil => exact True.intro
  | @cons p q ps qs h t ih =>
    obtain ⟨h1,h2⟩:=h
    by_cases e : p.1 = k
    · have e' : q.1 = k:=h1.symm.trans e
      have b : valueAt (q :: qs) k = some q.2 := by simp [valueAt,List.find?_cons,e']
      rw [valV_pos e,b]; exact h2
    · have e' : ¬ q.1 = k:=fun z => e (h1.trans z)
      have b : valueAt (q :: qs) k = valueAt qs k := by simp [valueAt,List.find?_cons,e']
      rw [valV_neg e,b]; exact ih
theorem KV.any {kvs : List (κ×V)} {vs : List (κ×Value)} (r : KV kvs vs) (k : κ) : (kvs.any fun kv => decide (kv.1 = k)) = vs.any fun kv => decide (kv.1 = k) := by
  unfold KV at r
  induction r with
  | nil => rfl
  | cons h t ih => rw [List.any_cons,List.any_cons,ih,h.1]
theorem KV.repl {kvs : List (κ×V)} {vs : List (κ×Value)} (r : KV kvs vs) (k : κ) {y : V} {u : Value} (ry : RelV y u) :
    KV (kvs.map fun kv => if kv.1 = k then (kv.1,y) else kv) (vs.map fun kv => if kv.1 = k then (kv.1,u) else kv) := by
  unfold KV at r ⊢
  induction r with
  | nil => exact .nil
  | @cons p q ps qs h t ih =>
    rw [List.map_cons,List.map_cons]
    refine .cons ?_ ih
    obtain ⟨h1,h2⟩:=h
    by_cases e : p.1 = k
    · rw [if_pos e,if_pos (h1.symm.trans e)]; exact ⟨h1,ry⟩
    · rw [if_neg e,if_neg (fun z => e (h1.trans z))]; exact ⟨h1,h2⟩
theorem KV.put {kvs : List (κ×V)} {vs : List (κ×Value)} (r : KV kvs vs) (k : κ) {y : V} {u : Value} (ry : RelV y u) : KV (putK kvs k y) (stored vs k u) := by
  unfold putK stored
  rw [r.any k]
  by_cases e : (vs.any fun kv => decide (kv.1 = k)) = true
  · rw [if_pos e,if_pos e]; exact r.repl k ry
  · rw [if_neg e,if_neg e]; exact Paired.snoc r ⟨rfl,ry⟩
theorem KV.length {kvs : List (κ×V)} {vs : List (κ×Value)} (r : KV kvs vs) : kvs.length = vs.length:=Paired.length r
end
theorem kV_is {P : Program} {w : World} {k : Key} {u : Value} (r : RelV (kV k) u) : (mixKind P w).is k u = true := by
  cases k with
  | inl i => obtain ⟨t,e⟩:=(show ∃ t,u = Value.int i t from r); subst e; exact mixKind_int P w i t
  | inr x => obtain ⟨t,e⟩:=(show ∃ t,u = Value.str x t from r); subst e; exact mixKind_str P w x t
theorem items_are {P : Program} {w : World} : ∀ {ks : List Key} {us : List Value},Vals (ks.map kV) us→ItemsAre (mixKind P w) ks us
  | [],_,r => by rw [List.map_nil] at r; cases r; exact .nil
  | k :: ks,_,r => by
    rw [List.map_cons] at r
    cases r with
    | cons h t => exact .cons (kV_is h) (items_are t)
abbrev KT (H : Hp) : List (List Key×V)→List (List Key×Addr×Value)→Prop:=Paired fun p q => p.1 = q.1∧H q.2.1 = some (.tup (p.1.map kV))∧RelV p.2 q.2.2
theorem KT.val {H : Hp} {kvs : List (List Key×V)} {xs : List (List Key×Addr×Value)} (r : KT H kvs xs) (k : List Key) : RelO (valV kvs k) ((atKey xs k).map (·.2)) := by
  induction r with
  | nil => exact True.intro
  | @cons p q ps qs h t ih =>
    obtain ⟨h1,_,h2⟩:=h
    by_cases e : p.1 = k
    · have e' : q.1 = k:=h1.symm.trans e
      have b : atKey (q :: qs) k = some q.2 := by simp [atKey,List.find?_cons,e']
      rw [valV_pos e,b]; exact h2
    · have e' : ¬ q.1 = k:=fun z => e (h1.trans z)
      have b : atKey (q :: qs) k = atKey qs k := by simp [atKey,List.find?_cons,e']
      rw [valV_neg e,b]; exact ih
theorem KT.repl {H : Hp} {kvs : List (List Key×V)} {xs : List (List Key×Addr×Value)} (r : KT H kvs xs) (k : List Key) {y : V} {u : Value} (ry : RelV y u) :
    KT H (kvs.map fun kv => if kv.1 = k then (kv.1,y) else kv) (xs.map (putAt k u)) := by
  induction r with
  | nil => exact .nil
  | @cons p q ps qs h t ih =>
    rw [List.map_cons,List.map_cons]
    refine .cons ?_ ih
    obtain ⟨h1,h2,h3⟩:=h
    unfold putAt
    by_cases e : p.1 = k
    · rw [if_pos e,if_pos (h1.symm.trans e)]; exact ⟨h1,h2,ry⟩
    · rw [if_neg e,if_neg (fun z => e (h1.trans z))]; exact ⟨h1,h2,h3⟩
theorem KT.put {H : Hp} {kvs : List (List Key×V)} {xs : List (List Key×Addr×Value)} (r : KT H kvs xs) (k : List Key) {b : Addr} {y : V} {u : Value} (hb : H b = some (.tup (k.map kV))) (ry : RelV y u) :
    KT H (putK kvs k y) (storedH xs k b u) := by
  have e : (kvs.any fun kv => decide (kv.1 = k)) = (atKey xs k).isSome := by
    rw [valV_any,(r.val k).isSome_eq,Option.isSome_map]
  unfold putK storedH
  rw [e]
  by_cases q : (atKey xs k).isSome = true
  · rw [if_pos q,if_pos q]; exact r.repl k ry
  · rw [if_neg q,if_neg q]; exact Paired.snoc r ⟨rfl,hb,ry⟩
theorem KT.keeps {H H' : Hp} {kvs : List (List Key×V)} {xs : List (List Key×Addr×Value)} (r : KT H kvs xs) (ht : ∀ b ys,H b = some (.tup ys)→H' b = some (.tup ys)) : KT H' kvs xs :=
  Paired.mapP r fun _ _ z => ⟨z.1,ht _ _ z.2.1,z.2.2⟩
section
variable {P : Program} {w : World} {H : Hp} {h : Heap} {a : Addr}
theorem rd_of {u : HO} (ok : HOk P w H h) (e : Rd H a u) : ObjOk P w H h a u:=e.ok ok
theorem dk_rd {kvs : List (Key×V)} (ok : HOk P w H h) (e : Rd H a (.dK kvs)) : kvs.length≤sizeLine∧(a == sysModules) = false∧∃ vs,KV kvs vs∧h.DictOf (mixKind P w) a vs :=
  show ObjOk P w H h a (.dK kvs) from rd_of ok e
theorem dk_of {kvs : List (Key×V)} (ok : HOk P w H h) (e : H a = some (.dK kvs)) : kvs.length≤sizeLine∧(a == sysModules) = false∧∃ vs,KV kvs vs∧h.DictOf (mixKind P w) a vs:=dk_rd ok (.inl e)
theorem key_of {ks : List Key} (ok : HOk P w H h) (e : H a = some (.tup (ks.map kV))) : (tupleKind (mixKind P w)).is h ks a := by
  obtain ⟨_,its,r,o,h1,h2,n,h3⟩:=(show ObjOk P w H h a (.tup (ks.map kV)) from ok a _ e)
  exact ⟨o,its.toArray,n,h1,h2,h3,by simpa using items_are r⟩
theorem dt_rd {kvs : List (List Key×V)} (ok : HOk P w H h) (e : Rd H a (.dT kvs)) : kvs.length≤sizeLine∧(a == sysModules) = false ∧
    ∃ xs,KT H kvs xs∧h.DictOfH (tupleKind (mixKind P w)) a xs := by
  obtain ⟨z,y,xs,r,o,es,ep,h1,h2,h3,h4,h5⟩:=(show ObjOk P w H h a (.dT kvs) from rd_of ok e)
  refine ⟨z,y,xs,r,o,es,ep,h1,h2,h3,h4,fun x hx => ?_,h5⟩
  have all : ∀ {l : List (List Key×V)} {m : List (List Key×Addr×Value)},KT H l m→∀ x∈m,(tupleKind (mixKind P w)).is h x.1 x.2.1 := by
    intro l m q
    induction q with
    | nil => intro x hx; exact nomatch hx
    | @cons p q ps qs hq t ih =>
      intro x hx
      rcases List.mem_cons.mp hx with e | hx
      · subst e
        exact key_of ok (by rw [← hq.1]; exact hq.2.1)
      · exact ih x hx
  exact all r x hx
theorem dt_of {kvs : List (List Key×V)} (ok : HOk P w H h) (e : H a = some (.dT kvs)) : kvs.length≤sizeLine∧(a == sysModules) = false ∧
    ∃ xs,KT H kvs xs∧h.DictOfH (tupleKind (mixKind P w)) a xs:=dt_rd ok (.inl e)
end
def DGet (H : Hp) (a : Addr) (y : V) (r : Option V) : Prop :=
  (∃ kvs k,Rd H a (.dK kvs)∧y = kV k∧r = valV kvs k)∨∃ kvs k b,Rd H a (.dT kvs)∧y = .ref b∧H b = some (.tup (k.map kV))∧r = valV kvs k
def DPut (H : Hp) (a : Addr) (y v : V) (H' : Hp) : Prop :=
  (∃ kvs k,H a = some (.dK kvs)∧y = kV k∧kvs.length < sizeLine∧H' = upd H a (.dK (putK kvs k v))) ∨
  ∃ kvs k b,H a = some (.dT kvs)∧y = .ref b∧H b = some (.tup (k.map kV))∧kvs.length < sizeLine∧H' = upd H a (.dT (putK kvs k v))
theorem DGet.k {H : Hp} {a : Addr} {kvs : List (Key×V)} {k : Key} (e : H a = some (.dK kvs)) : DGet H a (kV k) (valV kvs k):=.inl ⟨kvs,k,.inl e,rfl,rfl⟩
section
variable {X : Cx} {pins : List (Addr×Obj)} {σ : St} {H : Hp} {s : Shared} {a : Addr} {y v : V} {u r : Value} {o : Option V} {A : Around} {E : Value→Shared→Prop}
theorem Inv.big (I : Inv X pins σ H s) : sysModules < s.heap.objs.size := by
  have h : mainGlobals < s.heap.objs.size:=(I.mod.glob.keeps I.bk).lt
  exact Nat.lt_trans (by decide) h
theorem d_getItem {Q : Value→Shared→Prop} (hu : A.units + 1 < cLine) (I : Inv X pins σ H s) (g : DGet H a y (some v)) (ry : RelV y u) (h : ∀ w' s',Inv X pins σ H s'→RelV v w'→Q w' s') :
    wpAny (model X.prog X.w) A (getItem (.ref a) u) Q E s := by
  rcases g with ⟨kvs,k,e,ey,l⟩ | ⟨kvs,k,b,e,ey,eb,l⟩
  · subst ey
    obtain ⟨z,hd,vs,rel,dd⟩:=dk_rd I.hok e
    obtain ⟨w',hw,rw'⟩:=RelO.some_of (v:=v) (o:=valueAt vs k) (by rw [l]; exact rel.val k)
    exact wpAny_getItem_of (kV_is ry) dd.mapOf hw (h w' _ (I.tok _) rw')
  · subst ey
    cases (show u = Value.ref b from ry)
    obtain ⟨z,hd,xs,rel,dd⟩:=dt_rd I.hok e
    obtain ⟨w',hw,rw'⟩:=RelO.some_of (v:=v) (o:=(atKey xs k).map (·.2)) (by rw [l]; exact rel.val k)
    obtain ⟨p,hp,hp2⟩:=Option.map_eq_some_iff.mp hw
    refine wpAny_getItem_heap (tupleKind_room_in1 hu) (key_of I.hok eb) dd hp ?_
    rw [hp2]
    exact h w' _ (I.tok _) rw'
theorem d_notIn {Q : Value→Shared→Prop} (hu : A.units + 1 < cLine) (I : Inv X pins σ H s) (g : DGet H a y o) (ry : RelV y u) (h : ∀ s',Inv X pins σ H s'→Q (.bool (!o.isSome)) s') :
    wpAny (model X.prog X.w) A (compareOp .NotIn u (.ref a)) Q E s := by
  rcases g with ⟨kvs,k,e,ey,l⟩ | ⟨kvs,k,b,e,ey,eb,l⟩
  · subst ey
    obtain ⟨z,hd,vs,rel,dd⟩:=dk_rd I.hok e
    refine wpAny_notIn_of (kV_is ry) hd dd.mapOf ?_
    rw [← (rel.val k).isSome_eq,← l]
    exact h _ (I.tok _)
  · subst ey
    cases (show u = Value.ref b from ry)
    obtain ⟨z,hd,xs,rel,dd⟩:=dt_rd I.hok e
    refine wpAny_notIn_heap (tupleKind_room_in1 hu) (key_of I.hok eb) hd dd ?_
    have q:=(rel.val k).isSome_eq
    rw [Option.isSome_map] at q
    rw [← q,← l]
    exact h _ (I.tok _)
theorem d_write {h' : Heap} {t' : Nat} {ob : HO} (I : Inv X pins σ H s) (mu : Mut (H a)) (hs : Heap.SameBut a s.heap h') (he : ∃ q,h'.get? a = some q) (new : ObjOk X.prog X.w (upd H a ob) h' a ob) :
    Inv X pins σ (upd H a ob) { s with heap:=h',toks:=t' } :=
  I.write (x:=a) (e:=a) mu (.inl rfl) (fun b q hb z => (hs.2 b hb).trans z) he new
theorem dk_new {P : Program} {w : World} {H' : Hp} {h' : Heap} {kvs : List (Key×V)} {vs : List (Key×Value)} (z : kvs.length≤sizeLine) (hd : (a == sysModules) = false) (rel : KV kvs vs) (dd : h'.DictOf (mixKind P w) a vs) :
    ObjOk P w H' h' a (.dK kvs):=⟨z,hd,vs,rel,dd⟩
theorem d_setItem {H' : Hp} {Q : Unit→Shared→Prop} (hu : A.units + 1 < cLine) (I : Inv X pins σ H s) (g : DPut H a y v H') (ry : RelV y u) (rv : RelV v r) (h : ∀ s',Inv X pins σ H' s'→Q () s') :
    wpAny (model X.prog X.w) A (setItem (.ref a) u r) Q E s := by
  rcases g with ⟨kvs,k,e,ey,l,eH⟩ | ⟨kvs,k,b,e,ey,eb,l,eH⟩
  · subst ey eH
    obtain ⟨z,hd,vs,rel,dd⟩:=dk_of I.hok e
    have hz : vs.length≤sizeLine := by rw [← rel.length]; exact z
    have hl : (putK kvs k v).length≤sizeLine := by have:=length_putK kvs k v; lia
    refine wpAny_setItem_pairs (hsz:=hz) (kV_is ry) dd fun h' dd' hs => h _ ?_
    have he : ∃ q,h'.get? a = some q:=let ⟨q,_,_,hq,_⟩:=dd'; ⟨q,hq⟩
    exact d_write I (by rw [e]; exact True.intro) hs he (dk_new hl hd (rel.put k rv) dd')
  · subst ey eH
    cases (show u = Value.ref b from ry)
    obtain ⟨z,hd,xs,rel,dd⟩:=dt_of I.hok e
    have hz : xs.length≤sizeLine := by rw [← Paired.length rel]; exact z
    have hl : (putK kvs k v).length≤sizeLine := by have:=length_putK kvs k v; lia
    refine wpAny_setItem_heap (hsz:=hz) (tupleKind_room_in1 hu) (key_of I.hok eb) dd fun h' dd' hs => h _ ?_
    obtain ⟨q,es,ep,hq,h2,h3,h4,_,h5⟩:=dd'
    refine d_write I (by rw [e]; exact True.intro) hs ⟨q,hq⟩ ⟨hl,hd,_,(rel.put k eb rv).keeps fun c ys ec => ?_,q,es,ep,hq,h2,h3,h4,h5⟩
    rw [upd_ne (ne_of ec e (fun z => nomatch z))]
    exact ec
end
def NoSl (i : Expr) : Prop:=∀ ov iv,subscripted i false ov iv = operate [ov,iv] (getItem ov iv)
theorem subD_of {prog : Program} {w : World} {A : Around} {E : Value→Shared→Prop} {s : Shared} {env : Env} {value slice : Expr} {pos : Pos} {T id : String} {Q : Value→Shared→Prop}
    (hl : typeLookup (.type T) "__getitem__" = pure (some (.builtin id))) (hs : NoSl slice)
    (h : wpAny (model prog w) A (eval value env) (fun o s₁ => wpAny (model prog w) A (eval slice env) (fun i s₂ => s₂.TypeIs o T∧wpAny (model prog w) A (getItem o i) Q E s₂) E s₁) E s) :
    wpAny (model prog w) A (eval (.Subscript value slice pos) env) Q E s := by
  refine Subscript_ (wpAny_mono h (fun o s₁ h₁ => wpAny_mono h₁ (fun i s₂ h₂ => ?_) fun _ _ x => x) fun _ _ x => x)
  obtain ⟨hT,h₂⟩:=h₂
  unfold subscriptTail
  refine wpAny_bind ?_
  rw [getitemInPython_of_ne hT.not_modules]
  refine wpAny_bind (wpAny_specialOf hT hl ?_)
  have fin : wpAny (model prog w) A (subscripted slice false o i) (fun r s₃ => wpAny (model prog w) A (letTemporaryGo value o r >>= fun _ => pure r) Q E s₃) E s₂ := by
    rw [hs o i]
    exact wpAny_operating (wpAny_mono h₂ (fun r s₃ h₃ => wpAny_bind (wpAny_letTemporaryGo (wpAny_pure h₃))) fun _ _ x => x)
  first
    | exact wpAny_pure (wpAny_bind fin)
    | exact wpAny_bind (wpAny_pure (wpAny_bind fin))
    | exact wpAny_bind fin
theorem dict_typeIs {X : Cx} {pins : List (Addr×Obj)} {σ : St} {H : Hp} {s : Shared} {a : Addr} {y : V} {o : Option V} (I : Inv X pins σ H s) (g : DGet H a y o) : s.TypeIs (.ref a) "dict" := by
  rcases g with ⟨kvs,k,e,_,_⟩ | ⟨kvs,k,b,e,_,_,_⟩
  · obtain ⟨_,_,vs,_,dd⟩:=dk_rd I.hok e
    exact dd.typeIs
  · obtain ⟨_,_,xs,_,dd⟩:=dt_rd I.hok e
    exact dd.typeIs
def tDGet (td ty : TE) : TE:=fun σ H Q => td σ H fun x H1 => ty σ H1 fun y H2 => ∃ a v,x = .ref a∧DGet H2 a y (some v)∧Q v H2
def tDNotIn (ty td : TE) : TE:=fun σ H Q => ty σ H fun y H1 => td σ H1 fun x H2 => ∃ a o,x = .ref a∧DGet H2 a y o∧Q (.bl (!o.isSome)) H2
def sDPut (td ty tv : TE) : TS:=fun D σ H => tv σ H fun v H1 => td σ H1 fun x H2 => ty σ H2 fun y H3 => ∃ a H4,x = .ref a∧DPut H3 a y v H4∧D.nx σ H4
section
variable {X : Cx} {o i value : Expr} {pos pos' : Pos} {td ty tv : TE}
theorem pe_dget (hu : X.A.units + 1 < cLine) (ho : PE X o td) (hi : PE X i ty) (hs : NoSl i) : PE X (.Subscript o i pos) (tDGet td ty) := by
  intro pins s σ H Q I h
  refine subD_of PySem.F.slot_dict_getitem.lookup hs (thn (ho pins s σ H _ I h) fun u s1 ⟨x,H1,I1,rx,q1⟩ => thn (hi pins s1 σ H1 _ I1 q1) fun iv s2 ⟨y,H2,I2,ry,a,v,ex,g,q2⟩ => ?_)
  subst ex
  obtain rfl : u = Value.ref a:=rx
  exact ⟨dict_typeIs I2 g,d_getItem hu I2 g ry fun w' s3 I3 rw' => ⟨v,H2,I3,rw',q2⟩⟩
theorem pc_dnotin (hu : X.A.units + 1 < cLine) (hi : PE X i ty) (ho : PE X o td) : PC X .NotIn i o (tDNotIn ty td) := by
  intro pins s σ H Q I h
  refine thn (hi pins s σ H _ I h) fun iv s1 ⟨y,H1,I1,ry,q1⟩ => thn (ho pins s1 σ H1 _ I1 q1) fun u s2 ⟨x,H2,I2,rx,a,ov,ex,g,q2⟩ => ?_
  subst ex
  obtain rfl : u = Value.ref a:=rx
  exact d_notIn hu I2 g ry fun s3 I3 => ⟨.bl (!ov.isSome),H2,I3,rfl,q2⟩
theorem ps_dput (hu : X.A.units + 1 < cLine) (ho : PE X o td) (hi : PE X i ty) (hv : PE X value tv) (hs : swapsWith value (some (.Subscript o i pos')) pos.line X.env = pure false) :
    PS X (.Assign [.Subscript o i pos'] value pos) (sDPut td ty tv) := by
  intro pins s σ H D I h
  refine wpAny_Assign_Subscript (thn (hv pins s σ H _ I h) fun r s1 ⟨v,H1,I1,rv,q1⟩ => thn (ho pins s1 σ H1 _ I1 q1) fun u s2 ⟨x,H2,I2,rx,q2⟩ => thn (hi pins s2 σ H2 _ I2 q2) fun iv s3 ⟨y,H3,I3,ry,a,H4,ex,g,q3⟩ => ?_) hs
  subst ex
  obtain rfl : u = Value.ref a:=rx
  exact d_setItem hu I3 g ry rv fun s4 I4 => ⟨σ,H4,I4,q3⟩
end
theorem dk_empty {P : Program} {w : World} {H : Hp} (h : Heap) (hb : sysModules < h.objs.size) : ObjOk P w H (h.push { cls:=.type "dict",data:=.dict #[] }) h.objs.size (.dK []) :=
  ⟨Nat.zero_le _,beq_eq_false_iff_ne.mpr (Ne.symm (Nat.ne_of_lt hb)),[],.nil,Heap.DictOf.new h⟩
def tPairs : List (TE×TE)→St→Hp→(List (V×V)→Hp→Prop)→Prop
  | [],_,H,Q => Q [] H
  | (tk,tv) :: r,σ,H,Q => tk σ H fun x H1 => tv σ H1 fun y H2 => tPairs r σ H2 fun ps H3 => Q ((x,y) :: ps) H3
abbrev VV : List (V×V)→List (Value×Value)→Prop:=Paired fun p q => RelV p.1 q.1∧RelV p.2 q.2
def PPs (X : Cx) (pos : Pos) (keys : List (Option Expr)) (values : List Expr) (trs : List (TE×TE)) : Prop :=
  ∀ (pins : List (Addr×Obj)) (s : Shared) (σ : St) (H : Hp) (Q : List (V×V)→Hp→Prop),Inv X pins σ H s→tPairs trs σ H Q →
    wpAny (model X.prog X.w) X.A (evalPairs (pairTrees keys values X.env pos)) (fun vs s' => ∃ ps H',Inv X pins σ H' s'∧VV ps vs∧Q ps H') X.xe s
theorem pps_nil {X : Cx} {pos : Pos} : PPs X pos [] [] []:=fun pins s σ H Q I h => pairTrees_nil_walk ⟨[],H,I,.nil,h⟩
theorem pps_cons {X : Cx} {pos : Pos} {k v : Expr} {ks : List (Option Expr)} {vs : List Expr} {tk tv : TE} {trs : List (TE×TE)} (hk : PE X k tk) (hv : PE X v tv) (hr : PPs X pos ks vs trs) :
    PPs X pos (some k :: ks) (v :: vs) ((tk,tv) :: trs):=fun pins s σ H Q I h =>
  pairTrees_cons_walk (thn (hk pins s σ H _ I h) fun u s1 ⟨x,H1,I1,rx,q1⟩ => thn (hv pins s1 σ H1 _ I1 q1) fun w2 s2 ⟨y,H2,I2,ry,q2⟩ =>
    thn (hr pins s2 σ H2 _ I2 q2) fun ws s3 ⟨ps,H3,I3,rel,q3⟩ => ⟨(x,y) :: ps,H3,I3,.cons ⟨rx,ry⟩ rel,q3⟩)
def mergeK (kvs more : List (Key×V)) : List (Key×V):=more.foldl (fun acc kv => putK acc kv.1 kv.2) kvs
theorem KV.merge : ∀ {more : List (Key×V)} {rs : List (Key×Value)} {kvs : List (Key×V)} {vs : List (Key×Value)},KV more rs→KV kvs vs→KV (mergeK kvs more) (merged vs rs) := by
  intro more rs kvs vs r
  unfold KV at r
  induction r generalizing kvs vs with
  | nil => intro q; exact q
  | @cons p q ps qs h t ih =>
    intro r0
    have e : KV (putK kvs p.1 p.2) (stored vs q.1 q.2) := by
      have:=r0.put p.1 h.2
      rw [← h.1]; exact this
    exact ih e
theorem length_mergeK : ∀ (more kvs : List (Key×V)),(mergeK kvs more).length≤kvs.length + more.length
  | [],kvs => by show kvs.length≤kvs.length + 0; lia
  | p :: r,kvs => by
    have h1:=length_mergeK r (putK kvs p.1 p.2)
    have h2:=length_putK kvs p.1 p.2
    show (mergeK (putK kvs p.1 p.2) r).length≤_
    rw [List.length_cons]; lia
theorem carries_of {P : Program} {w : World} : ∀ {kvs : List (Key×V)} {ws : List (Value×Value)},VV (kvs.map fun kv => (kV kv.1,kv.2)) ws→∃ rs,Carries (mixKind P w) ws rs∧KV kvs rs
  | [],_,r => by rw [List.map_nil] at r; cases r; exact ⟨[],True.intro,.nil⟩
  | p :: kvs,_,r => by
    rw [List.map_cons] at r
    cases r with
    | @cons a b as bs h t =>
      obtain ⟨rs,c,q⟩:=carries_of (P:=P) (w:=w) t
      obtain ⟨b1,b2⟩ := b
      exact ⟨(p.1,b2) :: rs,⟨kV_is h.1,rfl,c⟩,.cons ⟨rfl,h.2⟩ q⟩
def tDisp (trs : List (TE×TE)) : TE:=fun σ H Q => ∀ p,H p = none→tPairs trs σ (upd H p (.dK [])) fun ps H2 => H2 p = some (.dK [])∧∃ kvs : List (Key×V),ps = kvs.map (fun kv => (kV kv.1,kv.2))∧kvs.length≤15∧Q (.ref p) (upd H2 p (.dK (mergeK [] kvs)))
theorem pe_disp {X : Cx} {pos : Pos} {keys : List (Option Expr)} {values : List Expr} {trs : List (TE×TE)} (h : PPs X pos keys values trs) (hall : keys.all (·.isSome) = true) (hl : keys.length = values.length) (h0 : keys≠[])
    (h15 : keys.length≤15) : PE X (.Dict keys values pos) (tDisp trs) := by
  intro pins s σ H Q I q
  have hn:=I.hok.fresh (Nat.le_refl s.heap.objs.size)
  have I1:=I.laid (a:=s.heap.objs.size) (o:=.dK []) (h':=s.heap.push { cls:=.type "dict",data:=.dict #[] }) (t':=s.toks) (fun _ _ q => Heap.get?_push_of_some _ q) (Nat.le_refl _) (dk_empty s.heap I.big)
  refine wpAny_Dict_walk (knd:=mixKind X.prog X.w) hall hl h0 h15 (thn (h pins _ σ _ _ I1 (q _ hn)) fun ws s2 ⟨ps,H2,I2,rel,e,kvs,ep,lk,q2⟩ => ?_)
  subst ep
  obtain ⟨rs,c,rk⟩:=carries_of (P:=X.prog) (w:=X.w) rel
  obtain ⟨z,hd,vs0,r0,dd⟩:=dk_of I2.hok e
  cases r0
  refine ⟨rs,c,dd,fun h' dd' hs => ⟨.ref s.heap.objs.size,_,?_,rfl,q2⟩⟩
  have hz : (mergeK [] kvs).length≤sizeLine := by
    have h1:=length_mergeK kvs []
    rw [List.length_nil] at h1
    rw [sizeLine_eq]; lia
  have he : ∃ q,h'.get? s.heap.objs.size = some q:=let ⟨q,_,_,hq,_⟩:=dd'; ⟨q,hq⟩
  exact d_write I2 (by rw [e]; exact True.intro) hs he (dk_new hz hd (rk.merge .nil) dd')
end L2
namespace TH
open PySem PyProof.Rows PySem.SeqAt
def hashL : Tr→List Int
  | .nil => []
  | .cons b r => reduceHash (Builtin.Tuple.tupleHashOf (hashL b)) :: hashL r
def hashT (t : Tr) : Int:=reduceHash (Builtin.Tuple.tupleHashOf (hashL t))
end TH
namespace TH
open PySem PyProof.Rows
def kHash : Option Tr→Int
  | none => 4238894112
  | some t => hashT t
abbrev KE:=Option Tr×Value×Value
def entN (x : KE) : DictEntry:=⟨kHash x.1,x.2.1,x.2.2⟩
end TH
namespace L2
open PySem PySem.Spec PyProof.Rows
abbrev KR:=Option Tr×V×V
def KRel (q : KR) (x : TH.KE) : Prop:=x.1 = q.1∧RelV q.2.1 x.2.1∧RelV q.2.2 x.2.2
def dN (d : Addr) (r : List KR) : HO:=.ext fun h => (d == sysModules) = false∧∃ o es ep xs,h.get? d = some o∧o.ExactDict∧o.data = .dict es ep∧es.toList = xs.map TH.entN∧PySem.Paired KRel r xs
def KeyV (H : Hp) : Option Tr→V→Prop
  | none,v => v = .non
  | some t,v => t.deep < 8∧Tv H t v
theorem KeyV.same {H H' : Hp} {k : Option Tr} {v : V} (h : KeyV H k v) (e : Same H H') : KeyV H' k v := by
  cases k with
  | none => exact h
  | some t => exact ⟨h.1,h.2.same e⟩
end L2
set_option maxHeartbeats 1000000
namespace L2
open PySem PySem.Spec PyProof.Rows
theorem Rd.same {H H' : Hp} {a : Addr} {u : HO} (e : Same H H') (h : Rd H a u) : Rd H' a u := by
  rcases h with h | ⟨o,h⟩
  · exact .inl (e _ _ h)
  · exact .inr ⟨o,e _ _ h⟩
def rowD : Tr→List PyData
  | .nil => []
  | .cons b r => .tuple (rowD b) :: rowD r
def keyD : Option Tr→PyData
  | none => .none
  | some t => .tuple (rowD t)
mutual
def Du (H : Hp) : PyData→V→Prop
  | .none,v => v = .non
  | .bool b,v => v = .bl b
  | .int i,v => v = .int i
  | .str x,v => v = .str x
  | .tuple ds,v => ∃ a xs,v = .ref a∧H a = some (.tup xs)∧DuA H ds xs
  | .list ds,v => ∃ a xs,v = .ref a∧H a = some (.lst xs)∧DuA H ds xs
  | .dict kv,v => (∃ ea C : Addr,kv = [(.int (C : Nat),.none)]∧v = .ref ea∧H ea = some (excO ea (.ref C)))∨(∃ (a : Addr) (ns : List Int),kv = [(.none,.list (ns.map .int))]∧v = .ref a∧Rd H a (.lst (ns.map V.int)))∨DuM H kv v
def DuA (H : Hp) : List PyData→List V→Prop
  | [],xs => xs = []
  | d :: ds,xs => ∃ x r,xs = x :: r∧Du H d x∧DuA H ds r
def DuM (H : Hp) : List (PyData×PyData)→V→Prop
  | [],_ => False
  | (k0,d0) :: t,v => k0 = .bool true∧d0 = .none∧∃ a r,v = .ref a∧H a = some (dN a r)∧(r.map (·.1)).Nodup∧DuK H t r
def DuK (H : Hp) : List (PyData×PyData)→List KR→Prop
  | [],r => r = []
  | (k,d) :: t,r => ∃ q r',r = q :: r'∧k = keyD q.1∧KeyV H q.1 q.2.1∧Du H d q.2.2∧DuK H t r'
end
mutual
theorem Du.same {H H' : Hp} (e : Same H H') : ∀ {d : PyData} {v : V},Du H d v→Du H' d v
  | .none,_,h => by rw [Du] at h ⊢; exact h
  | .bool _,_,h => by rw [Du] at h ⊢; exact h
  | .int _,_,h => by rw [Du] at h ⊢; exact h
  | .str _,_,h => by rw [Du] at h ⊢; exact h
  | .tuple _,_,h => by
    rw [Du] at h ⊢
    obtain ⟨a,xs,e1,h1,h2⟩:=h
    exact ⟨a,xs,e1,e _ _ h1,DuA.same e h2⟩
  | .list _,_,h => by
    rw [Du] at h ⊢
    obtain ⟨a,xs,e1,h1,h2⟩:=h
    exact ⟨a,xs,e1,e _ _ h1,DuA.same e h2⟩
  | .dict _,_,h => by
    rw [Du] at h ⊢
    rcases h with ⟨ea,C,e1,e2,h1⟩ | ⟨a,ns,e1,e2,h1⟩ | h
    · exact .inl ⟨ea,C,e1,e2,e _ _ h1⟩
    · exact .inr (.inl ⟨a,ns,e1,e2,h1.same e⟩)
    · exact .inr (.inr (DuM.same e h))
theorem DuA.same {H H' : Hp} (e : Same H H') : ∀ {ds : List PyData} {xs : List V},DuA H ds xs→DuA H' ds xs
  | [],_,h => by rw [DuA] at h ⊢; exact h
  | _ :: _,_,h => by
    rw [DuA] at h ⊢
    obtain ⟨x,r,e1,h1,h2⟩:=h
    exact ⟨x,r,e1,Du.same e h1,DuA.same e h2⟩
theorem DuM.same {H H' : Hp} (e : Same H H') : ∀ {kv : List (PyData×PyData)} {v : V},DuM H kv v→DuM H' kv v
  | [],_,h => by rw [DuM] at h; exact h.elim
  | (_,_) :: _,_,h => by
    rw [DuM] at h ⊢
    obtain ⟨h1,h2,a,r,h3,h4,h5,h6⟩:=h
    exact ⟨h1,h2,a,r,h3,e _ _ h4,h5,DuK.same e h6⟩
theorem DuK.same {H H' : Hp} (e : Same H H') : ∀ {kv : List (PyData×PyData)} {r : List KR},DuK H kv r→DuK H' kv r
  | [],_,h => by rw [DuK] at h ⊢; exact h
  | (_,_) :: _,_,h => by
    rw [DuK] at h ⊢
    obtain ⟨q,r',h1,h2,h3,h4,h5⟩:=h
    exact ⟨q,r',h1,h2,h3.same e,Du.same e h4,DuK.same e h5⟩
end
mutual
theorem Du.br {K : PySem.W.Frag} {H : Hp} : ∀ {d : PyData} {v : V},d.canLay0 = true→Du H d v→Br K H d v
  | .none,_,_,h => by rw [Du] at h; rw [Br]; exact h
  | .bool _,_,_,h => by rw [Du] at h; rw [Br]; exact h
  | .int _,_,_,h => by rw [Du] at h; rw [Br]; exact h
  | .str _,_,_,h => by rw [Du] at h; rw [Br]; exact h
  | .tuple _,_,c,h => by
    rw [Du] at h; rw [Br]
    obtain ⟨a,xs,e1,h1,h2⟩:=h
    exact ⟨a,xs,e1,SqT.of h1,DuA.br (by simp only [PyData.canLay0,Bool.and_eq_true] at c; first | exact c | exact c.2 | exact c.1) h2⟩
  | .list _,_,c,h => by
    rw [Du] at h; rw [Br]
    obtain ⟨a,xs,e1,h1,h2⟩:=h
    exact ⟨a,xs,e1,SqL.of h1,DuA.br (by simp only [PyData.canLay0,Bool.and_eq_true] at c; first | exact c | exact c.2 | exact c.1) h2⟩
  | .dict _,_,c,h => by simp [PyData.canLay0] at c
theorem DuA.br {K : PySem.W.Frag} {H : Hp} : ∀ {ds : List PyData} {xs : List V},PyData.canLayAll0 ds = true→DuA H ds xs→BrAll K H ds xs
  | [],_,_,h => by rw [DuA] at h; rw [BrAll]; exact h
  | _ :: _,_,c,h => by
    rw [DuA] at h; rw [BrAll]
    obtain ⟨x,r,e1,h1,h2⟩:=h
    simp only [PyData.canLayAll0,Bool.and_eq_true] at c
    exact ⟨x,r,e1,Du.br c.1 h1,DuA.br c.2 h2⟩
end
theorem DuA.nil {H : Hp} : DuA H [] [] := by rw [DuA]
theorem DuA.cons {H : Hp} {d : PyData} {ds : List PyData} {x : V} {xs : List V} (h : Du H d x) (k : DuA H ds xs) : DuA H (d :: ds) (x :: xs) := by rw [DuA]; exact ⟨x,xs,rfl,h,k⟩
theorem DuA.un {H : Hp} {d : PyData} {ds : List PyData} {xs : List V} (h : DuA H (d :: ds) xs) : ∃ x r,xs = x :: r∧Du H d x∧DuA H ds r := by rw [DuA] at h; exact h
theorem DuA.nil_eq {H : Hp} {xs : List V} (h : DuA H [] xs) : xs = [] := by rw [DuA] at h; exact h
theorem DuA.len {H : Hp} : ∀ {ds : List PyData} {xs : List V},DuA H ds xs→xs.length = ds.length
  | [],_,h => by rw [h.nil_eq]; rfl
  | _ :: _,_,h => by obtain ⟨x,r,rfl,_,h2⟩:=h.un; simp [h2.len]
theorem DuA.get {H : Hp} : ∀ {ds : List PyData} {xs : List V} {i : Nat} {d : PyData},DuA H ds xs→ds[i]? = some d→∃ v,xs[i]? = some v∧Du H d v
  | [],_,i,_,_,e => by simp at e
  | _ :: _,_,0,_,h,e => by
    obtain ⟨x,r,rfl,h1,_⟩:=h.un
    simp at e; subst e
    exact ⟨x,rfl,h1⟩
  | _ :: _,_,i + 1,_,h,e => by
    obtain ⟨x,r,rfl,_,h2⟩:=h.un
    obtain ⟨v,k1,k2⟩:=h2.get (i:=i) (by simpa using e)
    exact ⟨v,by simpa using k1,k2⟩
theorem DuA.back {H : Hp} {ds : List PyData} {xs : List V} {i : Nat} {v : V} (h : DuA H ds xs) (e : xs[i]? = some v) : ∃ d,ds[i]? = some d∧Du H d v := by
  have hl:=h.len
  have hi : i < ds.length := by rw [← hl]; exact (List.getElem?_eq_some_iff.mp e).1
  have hd : ds[i]? = some ds[i] := by simp [hi]
  obtain ⟨w,k1,k2⟩:=h.get hd
  rw [e] at k1; cases k1
  exact ⟨_,hd,k2⟩
theorem DuA.app {H : Hp} : ∀ {ds es : List PyData} {xs ys : List V},DuA H ds xs→DuA H es ys→DuA H (ds ++ es) (xs ++ ys)
  | [],_,_,_,h,k => by rw [h.nil_eq]; exact k
  | _ :: _,_,_,_,h,k => by obtain ⟨x,r,rfl,h1,h2⟩:=h.un; exact .cons h1 (h2.app k)
inductive Oc where
  | lst (xs : List PyData) | dic (kvs : List (List Key×PyData)) | dtr (kvs : List (Option Tr×PyData))
inductive L where
  | no | d (x : PyData) | own (c : Oc)
abbrev Dv:=List L
def KvOk (G : Hp) : List (List Key×PyData)→List (List Key×V)→Prop
  | [],r => r = []
  | q :: t,r => ∃ v r',r = (q.1,v) :: r'∧Du G q.2 v∧KvOk G t r'
theorem KvOk.same {G G' : Hp} (e : Same G G') : ∀ {t : List (List Key×PyData)} {r : List (List Key×V)},KvOk G t r→KvOk G' t r
  | [],r,h => h
  | q :: t,r,h => by
    obtain ⟨v,r',rfl,h1,h2⟩:=h
    exact ⟨v,r',rfl,h1.same e,KvOk.same e h2⟩
abbrev entsD (kvs : List (Option Tr×PyData)) : List (PyData×PyData):=kvs.map fun q => (keyD q.1,q.2)
def OcOk (G : Hp) (a : Addr) : Oc→HO→Prop
  | .lst xs,o => ∃ ys,o = .lst ys∧DuA G xs ys
  | .dic kvs,o => ∃ r,o = .dT r∧KvOk G kvs r
  | .dtr kvs,o => ∃ r,o = dN a r∧(r.map (·.1)).Nodup∧DuK G (entsD kvs) r
theorem OcOk.same {G G' : Hp} {a : Addr} {c : Oc} {o : HO} (h : OcOk G a c o) (e : Same G G') : OcOk G' a c o := by
  cases c with
  | dtr kvs => obtain ⟨r,h1,h2,h3⟩:=h; exact ⟨r,h1,h2,DuK.same e h3⟩
  | lst xs => obtain ⟨ys,h1,h2⟩:=h; exact ⟨ys,h1,h2.same e⟩
  | dic kvs => obtain ⟨ys,h1,h2⟩:=h; exact ⟨ys,h1,h2.same e⟩
theorem OcOk.ntup {G : Hp} {a : Addr} {c : Oc} {xs : List V} (h : OcOk G a c (.tup xs)) : False := by
  cases c with
  | dtr kvs => obtain ⟨r,h1,h2,h3⟩:=h; unfold dN at h1; cases h1
  | lst xs => obtain ⟨ys,h1,h2⟩:=h; cases h1
  | dic kvs => obtain ⟨ys,h1,h2⟩:=h; cases h1
def Nw (G0 H0 G : Hp) : Prop:=∀ a o,G a = some o→G0 a = some o∨H0 a = none∨∃ xs,o = HO.tup xs
structure Rw (G0 H0 G H : Hp) (σ : St) (δ : Dv) (ts : List (PyData×V)) : Prop where
  ext : Same G0 G
  new : Nw G0 H0 G
  ins : Same G H
  keep : Same H0 H
  len : σ.length = δ.length
  dat : ∀ (i : Nat) (x : PyData),δ[i]? = some (L.d x)→∃ v,σ[i]? = some (some v)∧Du G x v
  own : ∀ (i : Nat) (xs : Oc),δ[i]? = some (L.own xs)→∃ (a : Addr) (ys : HO),σ[i]? = some (some (V.ref a))∧G a = none∧H0 a = none∧H a = some ys∧OcOk G a xs ys
  apart : ∀ (i j : Nat) (xs ys : Oc),i≠j→δ[i]? = some (L.own xs)→δ[j]? = some (L.own ys)→σ[i]?≠σ[j]?
  tmp : ∀ p∈ts,Du G p.1 p.2
def DE (X : Cx) (e : Expr) (f : Dv→Option PyData) : Prop:=∃ t,PE X e t∧∀ δ x,f δ = some x→∀ G0 H0 G H σ ts (Q : VK),Rw G0 H0 G H σ δ ts→(∀ v G' H',Rw G0 H0 G' H' σ δ ((x,v) :: ts)→Q v H')→t σ H Q
def DA (X : Cx) (es : List Expr) (f : Dv→Option (List PyData)) : Prop:=∃ t,PA X es t∧∀ δ xs,f δ = some xs→∀ G0 H0 G H σ ts (Q : List V→Hp→Prop),Rw G0 H0 G H σ δ ts→(∀ vs G' H',Rw G0 H0 G' H' σ δ (xs.zip vs ++ ts)→vs.length = xs.length→Q vs H')→t σ H Q
def DT (X : Cx) (e : Expr) (f : Dv→Option Bool) : Prop:=∃ t,PT X e t∧∀ δ b,f δ = some b→∀ G0 H0 G H σ ts (Q : Bool→Hp→Prop),Rw G0 H0 G H σ δ ts→(∀ G' H',Rw G0 H0 G' H' σ δ ts→Q b H')→t σ H Q
section
variable {G0 H0 G H : Hp} {σ : St} {δ : Dv} {ts : List (PyData×V)}
theorem Rw.drop {p : PyData×V} (r : Rw G0 H0 G H σ δ (p :: ts)) : Rw G0 H0 G H σ δ ts:={ r with tmp:=fun q hq => r.tmp q (.tail _ hq) }
theorem Rw.less {us : List (PyData×V)} (r : Rw G0 H0 G H σ δ ts) (h : ∀ p∈us,p∈ts) : Rw G0 H0 G H σ δ us:={ r with tmp:=fun q hq => r.tmp q (h q hq) }
theorem Rw.put {x : PyData} {v : V} (r : Rw G0 H0 G H σ δ ts) (h : Du G x v) : Rw G0 H0 G H σ δ ((x,v) :: ts):={ r with tmp:=fun q hq => by rcases List.mem_cons.mp hq with rfl | hq; exact h; exact r.tmp q hq }
theorem Rw.newObj {p : Addr} {o : HO} (r : Rw G0 H0 G H σ δ ts) (hp : H p = none) : Rw G0 H0 (upd G p o) (upd H p o) σ δ ts := by
  have hG : G p = none := by
    cases q : G p with
    | none => rfl
    | some u => rw [r.ins _ _ q] at hp; cases hp
  have h0 : H0 p = none := by
    cases q : H0 p with
    | none => rfl
    | some u => rw [r.keep _ _ q] at hp; cases hp
  have e : Same G (upd G p o):=same_new hG o
  refine ⟨r.ext.trans e,fun a u h => ?_,fun a u h => ?_,r.keep.trans (same_new hp o),r.len,fun i x h => ?_,fun i xs h => ?_,r.apart,fun q hq => (r.tmp q hq).same e⟩
  · by_cases ha : a = p
    · subst ha; exact .inr (.inl h0)
    · rw [upd_ne ha] at h; exact r.new _ _ h
  · by_cases ha : a = p
    · subst ha; rw [upd_same] at h ⊢; exact h
    · rw [upd_ne ha] at h ⊢; exact r.ins _ _ h
  · obtain ⟨v,k1,k2⟩:=r.dat i x h
    exact ⟨v,k1,k2.same e⟩
  · obtain ⟨a,ys,k1,k2,k3,k4,k5⟩:=r.own i xs h
    have ha : a≠p:=fun z => by subst z; rw [k4] at hp; cases hp
    exact ⟨a,ys,k1,by rw [upd_ne ha]; exact k2,k3,by rw [upd_ne ha]; exact k4,k5.same e⟩
theorem Rw.anyTup {p : Addr} {xs : List V} {H' : Hp} (r : Rw G0 H0 G H σ δ ts) (e : Same H H') (hp : H' p = some (.tup xs)) : Rw G0 H0 (upd G p (.tup xs)) H' σ δ ts := by
  have e1 : Same G (upd G p (.tup xs)):=fun a o h => by
    by_cases ha : a = p
    · subst ha
      have:=e _ _ (r.ins _ _ h)
      rw [hp] at this; rw [upd_same]; exact this
    · rw [upd_ne ha]; exact h
  refine ⟨r.ext.trans e1,fun a u h => ?_,fun a u h => ?_,r.keep.trans e,r.len,fun i x h => ?_,fun i xs h => ?_,r.apart,fun q hq => (r.tmp q hq).same e1⟩
  · by_cases ha : a = p
    · subst ha; rw [upd_same] at h; cases h; exact .inr (.inr ⟨_,rfl⟩)
    · rw [upd_ne ha] at h; exact r.new _ _ h
  · by_cases ha : a = p
    · subst ha; rw [upd_same] at h; rw [hp]; exact h
    · rw [upd_ne ha] at h; exact e _ _ (r.ins _ _ h)
  · obtain ⟨v,k1,k2⟩:=r.dat i x h
    exact ⟨v,k1,k2.same e1⟩
  · obtain ⟨a,ys,k1,k2,k3,k4,k5⟩:=r.own i xs h
    have ha : a≠p:=fun z => by subst z; rw [e _ _ k4] at hp; cases hp; exact k5.ntup
    exact ⟨a,ys,k1,by rw [upd_ne ha]; exact k2,k3,e _ _ k4,k5.same e1⟩
theorem Rw.lift {G' H' : Hp} (r : Rw G0 H0 G H σ δ ts) (h1 : Same G G') (h2 : Nw G H G') (h3 : Same G' H') (h4 : Same H H') : Rw G0 H0 G' H' σ δ ts := by
  refine ⟨r.ext.trans h1,fun a o h => ?_,h3,r.keep.trans h4,r.len,fun i x h => ?_,fun i xs h => ?_,r.apart,fun q hq => (r.tmp q hq).same h1⟩
  · rcases h2 a o h with k | k | k
    · exact r.new a o k
    · right; left
      cases q : H0 a with
      | none => rfl
      | some u => rw [r.keep _ _ q] at k; cases k
    · exact .inr (.inr k)
  · obtain ⟨v,k1,k2⟩:=r.dat i x h
    exact ⟨v,k1,k2.same h1⟩
  · obtain ⟨a,ys,k1,k2,k3,k4,k5⟩:=r.own i xs h
    refine ⟨a,ys,k1,?_,k3,h4 _ _ k4,k5.same h1⟩
    cases q : G' a with
    | none => rfl
    | some u =>
      rcases h2 a u q with z | z | ⟨xs',z⟩
      · rw [k2] at z; cases z
      · rw [k4] at z; cases z
      · have:=h3 _ _ q
        rw [h4 _ _ k4,z] at this; cases this; exact k5.ntup.elim
end
section
variable {X : Cx} {a b e : Expr}  {f g h : Dv→Option PyData} {pos : Pos}
theorem de_int {i j pos} : DE X (.Constant (.int i) j pos) (fun _ => some (.int i)):=⟨_,pe_int,fun δ x h G0 H0 G H σ ts Q r k => by cases h; exact k _ _ _ (r.put (by rw [Du]))⟩
theorem de_bl {i j pos} : DE X (.Constant (.bool i) j pos) (fun _ => some (.bool i)):=⟨_,pe_bl,fun δ x h G0 H0 G H σ ts Q r k => by cases h; exact k _ _ _ (r.put (by rw [Du]))⟩
theorem de_non {j pos} : DE X (.Constant .none j pos) (fun _ => some .none):=⟨_,pe_non,fun δ x h G0 H0 G H σ ts Q r k => by cases h; exact k _ _ _ (r.put (by rw [Du]))⟩
theorem de_str {i j pos} : DE X (.Constant (.str i) j pos) (fun _ => some (.str i)):=⟨_,pe_str,fun δ x h G0 H0 G H σ ts Q r k => by cases h; exact k _ _ _ (r.put (by rw [Du]))⟩
def nm (i : Nat) (δ : Dv) : Option PyData:=match δ[i]? with | some (.d x) => some x | _ => none
theorem nm_eq {i : Nat} {δ : Dv} {x : PyData} (h : nm i δ = some x) : δ[i]? = some (.d x) := by
  unfold nm at h
  split at h
  · rename_i y e; cases h; exact e
  · cases h
theorem de_var {i : Nat} {x : Str} (h : PE X (.Name x pos) (tVar i)) : DE X (.Name x pos) (nm i):=⟨_,h,fun δ y hy G0 H0 G H σ ts Q r k => by
  obtain ⟨v,h1,h2⟩:=r.dat _ _ (nm_eq hy)
  exact ⟨v,h1,k _ _ _ (r.put h2)⟩⟩
def op2 (o : PyData→PyData→Option PyData) (f g : Dv→Option PyData) (δ : Dv) : Option PyData:=(f δ).bind fun x => (g δ).bind fun y => o x y
def DOp (X : Cx) (m : Value→Value→Sem Value) (o : PyData→PyData→Option PyData) : Prop:=∃ r : R2,OpR X m r∧∀ x y z,o x y = some z→∀ G0 H0 G H σ δ ts u v (Q : VK),Rw G0 H0 G H σ δ ts→Du G x u→Du G y v→(∀ w G' H',Rw G0 H0 G' H' σ δ ((z,w) :: ts)→Q w H')→r u v H Q
theorem two {x y : PyData} {f g : Dv→Option PyData} {δ : Dv} {o : PyData→PyData→Option PyData} {z : PyData} (h : op2 o f g δ = some z) : ∃ x y,f δ = some x∧g δ = some y∧o x y = some z := by
  unfold op2 at h
  obtain ⟨x,h1,h2⟩:=Option.bind_eq_some_iff.mp h
  obtain ⟨y,h3,h4⟩:=Option.bind_eq_some_iff.mp h2
  exact ⟨x,y,h1,h3,h4⟩
theorem de_op {op : Operator} {o : PyData→PyData→Option PyData} (ho : DOp X (binaryOp op) o) (ha : DE X a f) (hb : DE X b g) : DE X (.BinOp a op b pos) (op2 o f g) := by
  obtain ⟨r,hr,kr⟩:=ho
  obtain ⟨ta,pa,ka⟩:=ha
  obtain ⟨tb,pb,kb⟩:=hb
  refine ⟨_,pe_op hr pa pb,fun δ z hz G0 H0 G H σ ts Q R0 k => ?_⟩
  obtain ⟨x,y,h1,h2,h3⟩:=two (x:=.none) (y:=.none) hz
  refine ka δ x h1 G0 H0 G H σ ts _ R0 fun u G1 H1 R1 => ?_
  refine kb δ y h2 G0 H0 G1 H1 σ _ _ R1 fun v G2 H2 R2 => ?_
  exact kr x y z h3 G0 H0 G2 H2 σ δ ts u v Q (R2.drop.drop) (R2.tmp (x,u) (.tail _ (.head _))) (R2.tmp (y,v) (.head _)) k
theorem de_cmp {op : CmpOp} {o : PyData→PyData→Option PyData} (ho : DOp X (compareOp op) o) (ha : DE X a f) (hb : DE X b g) (hm : behindInMarks op b = false) : DE X (.Compare a [op] [b] pos) (op2 o f g) := by
  obtain ⟨r,hr,kr⟩:=ho
  obtain ⟨ta,pa,ka⟩:=ha
  obtain ⟨tb,pb,kb⟩:=hb
  refine ⟨_,pe_cmpR hr pa pb hm,fun δ z hz G0 H0 G H σ ts Q R0 k => ?_⟩
  obtain ⟨x,y,h1,h2,h3⟩:=two (x:=.none) (y:=.none) hz
  refine ka δ x h1 G0 H0 G H σ ts _ R0 fun u G1 H1 R1 => ?_
  refine kb δ y h2 G0 H0 G1 H1 σ _ _ R1 fun v G2 H2 R2 => ?_
  exact kr x y z h3 G0 H0 G2 H2 σ δ ts u v Q (R2.drop.drop) (R2.tmp (x,u) (.tail _ (.head _))) (R2.tmp (y,v) (.head _)) k
end
section
variable {X : Cx}
def orD (o o' : PyData→PyData→Option PyData) (x y : PyData) : Option PyData:=match o x y with | some z => some z | none => o' x y
theorem DOp.or {m : Value→Value→Sem Value} {o o' : PyData→PyData→Option PyData} (h : DOp X m o) (h' : DOp X m o') : DOp X m (orD o o') := by
  obtain ⟨r,hr,kr⟩:=h
  obtain ⟨r',hr',kr'⟩:=h'
  refine ⟨_,OpR.or hr hr',fun x y z hz G0 H0 G H σ δ ts u v Q R0 du dv k => ?_⟩
  unfold orD at hz
  split at hz
  · rename_i z' e
    cases hz
    exact .inl (kr x y z e G0 H0 G H σ δ ts u v Q R0 du dv k)
  · exact .inr (kr' x y z hz G0 H0 G H σ δ ts u v Q R0 du dv k)
theorem dop_int0 {m : Value→Value→Sem Value} {gv : Int→Int→V} {o : Int→Int→PyData} (ho : OpR X m (rI0 gv)) (hC : ∀ i j H,Du H (o i j) (gv i j)) :
    DOp X m (fun x y => match x,y with | .int i,.int j => some (o i j) | _,_ => none) := by
  refine ⟨_,ho,fun x y z hz G0 H0 G H σ δ ts u v Q R0 du dv k => ?_⟩
  dsimp only at hz
  split at hz
  · rename_i i j
    cases hz
    rw [Du] at du dv
    exact ⟨i,j,du,dv,k _ _ _ (R0.put (hC _ _ _))⟩
  · cases hz
def dMax : Nat:=1000
theorem dMax_lt {n : Nat} (h : n≤dMax) : n < sizeLine:=small1000 h
theorem dMax_le {n : Nat} (h : n≤dMax) : n≤sizeLine:=Nat.le_of_lt (small1000 h)
def iAdd : PyData→PyData→Option PyData:=fun x y => match x,y with | .int i,.int j => some (.int (i + j)) | _,_ => none
theorem do_iAdd : DOp X (binaryOp .Add) iAdd:=dop_int0 op_add fun _ _ _ => by rw [Du]
def lAdd : PyData→PyData→Option PyData:=fun x y => match x,y with | .list a,.list b => (if a.length + b.length≤dMax then some (.list (a ++ b)) else none) | _,_ => none
theorem do_lAdd : DOp X (binaryOp .Add) lAdd := by
  refine ⟨_,op_cat,fun x y z hz G0 H0 G H σ δ ts u v Q R0 du dv k => ?_⟩
  unfold lAdd at hz
  split at hz
  · rename_i a b
    split at hz
    · rename_i hl
      cases hz
      rw [Du] at du dv
      obtain ⟨p,xs,rfl,h1,h2⟩:=du
      obtain ⟨q,ys,rfl,h3,h4⟩:=dv
      refine ⟨p,q,xs,ys,rfl,rfl,R0.ins _ _ h1,R0.ins _ _ h3,dMax_le (by rw [h2.len,h4.len]; exact hl),fun l hl' => ?_⟩
      have R1:=R0.newObj (o:=.lst (xs ++ ys)) hl'
      refine k _ _ _ (R1.put ?_)
      rw [Du]
      have e : Same G (upd G l (.lst (xs ++ ys))):=fun a o h => by
        have:=R0.ins _ _ h
        rw [upd_ne (ne_of_none this hl')]; exact h
      exact ⟨l,xs ++ ys,rfl,upd_same,(h2.same e).app (h4.same e)⟩
    · cases hz
  · cases hz
def tAdd' : PyData→PyData→Option PyData:=fun x y => match x,y with | .tuple a,.tuple b => (if a.length + b.length≤dMax then some (.tuple (a ++ b)) else none) | _,_ => none
theorem do_tAdd : DOp X (binaryOp .Add) tAdd' := by
  refine ⟨_,op_catA,fun x y z hz G0 H0 G H σ δ ts u v Q R0 du dv k => ?_⟩
  unfold tAdd' at hz
  split at hz
  · rename_i a b
    split at hz
    · rename_i hl
      cases hz
      rw [Du] at du dv
      obtain ⟨p,xs,rfl,h1,h2⟩:=du
      obtain ⟨q,ys,rfl,h3,h4⟩:=dv
      refine ⟨p,q,xs,ys,rfl,rfl,R0.ins _ _ h1,R0.ins _ _ h3,dMax_le (by rw [h2.len,h4.len]; exact hl),fun l H' e hp => ?_⟩
      have R1:=R0.anyTup e hp
      refine k _ _ _ (R1.put ?_)
      rw [Du]
      have e1 : Same G (upd G l (.tup (xs ++ ys))):=fun a o h => by
        by_cases ha : a = l
        · subst ha
          have:=e _ _ (R0.ins _ _ h)
          rw [hp] at this; rw [upd_same]; exact this
        · rw [upd_ne ha]; exact h
      exact ⟨l,xs ++ ys,rfl,upd_same,(h2.same e1).app (h4.same e1)⟩
    · cases hz
  · cases hz
def sAdd : PyData→PyData→Option PyData:=fun x y => match x,y with | .str a,.str b => (if a.length + b.length≤dMax then some (.str (a ++ b)) else none) | _,_ => none
theorem do_sAdd : DOp X (binaryOp .Add) sAdd := by
  refine ⟨_,op_add_str,fun x y z hz G0 H0 G H σ δ ts u v Q R0 du dv k => ?_⟩
  unfold sAdd at hz
  split at hz
  · rename_i a b
    split at hz
    · rename_i hl
      cases hz
      rw [Du] at du dv
      exact ⟨a,b,du,dv,dMax_le hl,k _ _ _ (R0.put (by rw [Du]))⟩
    · cases hz
  · cases hz
def dAdd : PyData→PyData→Option PyData:=orD iAdd (orD lAdd (orD tAdd' sAdd))
theorem do_add : DOp X (binaryOp .Add) dAdd:=do_iAdd.or (do_lAdd.or (do_tAdd.or do_sAdd))
theorem canLay_of {d : PyData} (h : SeqAt.shaped d = true) : d.canLay0 = true := by unfold SeqAt.shaped at h; rw [Bool.and_eq_true] at h; exact h.1
def dEq (neg : Bool) : PyData→PyData→Option PyData:=fun x y => if SeqAt.shaped x = true∧SeqAt.shaped y = true then some (.bool (if neg then !PyData.eqv x y else PyData.eqv x y)) else none
theorem do_eqG {m : Value→Value→Sem Value} {neg : Bool} (ho : OpR X m (rEqD X.K neg)) : DOp X m (dEq neg) := by
  refine ⟨_,ho,fun x y z hz G0 H0 G H σ δ ts u v Q R0 du dv k => ?_⟩
  unfold dEq at hz
  split at hz
  · rename_i hs
    cases hz
    exact ⟨x,y,(du.same R0.ins).br (canLay_of hs.1),(dv.same R0.ins).br (canLay_of hs.2),hs.1,hs.2,k _ _ _ (R0.put (by rw [Du]))⟩
  · cases hz
theorem do_eq (hu : X.A.units + 64 < cLine) : DOp X (compareOp .Eq) (dEq false):=do_eqG (op_eqD hu)
theorem do_ne (hu : X.A.units + 64 < cLine) : DOp X (compareOp .NotEq) (dEq true):=do_eqG (op_neD hu)
end
section
variable {X : Cx} {a b c e : Expr} {es : List Expr} {f g h : Dv→Option PyData} {pos p : Pos}
def asB : PyData→Option Bool
  | .bool b => some b
  | _ => none
theorem asB_eq {x : PyData} {b : Bool} (h : asB x = some b) : x = .bool b := by
  unfold asB at h; split at h
  · cases h; rfl
  · cases h
theorem de_not (ha : DE X a f) : DE X (.UnaryOp .Not a pos) (fun δ => (f δ).bind fun x => (asB x).map fun i => .bool (!i)) := by
  obtain ⟨ta,pa,ka⟩:=ha
  refine ⟨_,pe_not pa,fun δ z hz G0 H0 G H σ ts Q R0 k => ?_⟩
  obtain ⟨x,h1,h2⟩:=Option.bind_eq_some_iff.mp hz
  obtain ⟨i,h3,rfl⟩:=Option.map_eq_some_iff.mp h2
  have:=asB_eq h3; subst this
  refine ka δ _ h1 G0 H0 G H σ ts _ R0 fun u G1 H1 R1 => ?_
  have:=R1.tmp _ (.head _)
  rw [Du] at this
  exact ⟨i,this,k _ _ _ (R1.drop.put (by rw [Du]))⟩
theorem de_one {op} (ha : DE X a f) : DE X (.BoolOp op [a] pos) f := by
  obtain ⟨ta,pa,ka⟩:=ha
  exact ⟨_,pe_one pa,ka⟩
theorem de_and {rest : List Expr} (ha : DE X a f) (hb : DE X (.BoolOp .And (b :: rest) pos) g) : DE X (.BoolOp .And (a :: b :: rest) pos) (fun δ => (f δ).bind fun x => (asB x).bind fun c => if c = true then g δ else some (.bool false)) := by
  obtain ⟨ta,pa,ka⟩:=ha
  obtain ⟨tb,pb,kb⟩:=hb
  refine ⟨_,pe_and pa pb,fun δ z hz G0 H0 G H σ ts Q R0 k => ?_⟩
  obtain ⟨x,h1,h2⟩:=Option.bind_eq_some_iff.mp hz
  obtain ⟨i,h3,h4⟩:=Option.bind_eq_some_iff.mp h2
  have:=asB_eq h3; subst this
  refine ka δ _ h1 G0 H0 G H σ ts _ R0 fun u G1 H1 R1 => ?_
  have hu:=R1.tmp _ (.head _)
  rw [Du] at hu
  refine ⟨i,hu,?_⟩
  split
  · rename_i hc
    rw [if_pos hc] at h4
    exact kb δ z h4 G0 H0 G1 H1 σ ts Q R1.drop k
  · rename_i hc
    rw [if_neg hc] at h4; cases h4
    exact k _ _ _ (R1.drop.put (by rw [Du]))
variable {fa fb : Dv→Option Bool}
def DW (X : Cx) (e : Expr) (f : Dv→Option Bool) : Prop:=∃ t,PW X e t∧∀ δ b,f δ = some b→∀ G0 H0 G H σ ts (Q : Bool→Hp→Prop),Rw G0 H0 G H σ δ ts→(∀ G' H',Rw G0 H0 G' H' σ δ ts→Q b H')→t σ H Q
theorem DW.dt (h : DW X e fa) : DT X e fa:=let ⟨t,p,k⟩:=h; ⟨t,p.pt,k⟩
theorem dt_cmp {op : CmpOp} {o : PyData→PyData→Option PyData} (ho : DOp X (compareOp op) o) (ha : DE X a f) (hb : DE X b g) (hm : behindInMarks op b = false) : DT X (.Compare a [op] [b] pos) (fun δ => (op2 o f g δ).bind asB) := by
  obtain ⟨r,hr,kr⟩:=ho
  obtain ⟨ta,pa,ka⟩:=ha
  obtain ⟨tb,pb,kb⟩:=hb
  refine ⟨_,pt_cmpR hr pa pb hm,fun δ z hz G0 H0 G H σ ts Q R0 k => ?_⟩
  obtain ⟨q,h0,h4⟩:=Option.bind_eq_some_iff.mp hz
  have:=asB_eq h4; subst this
  obtain ⟨x,y,h1,h2,h3⟩:=two (x:=.none) (y:=.none) h0
  refine ka δ x h1 G0 H0 G H σ ts _ R0 fun u G1 H1 R1 => ?_
  refine kb δ y h2 G0 H0 G1 H1 σ _ _ R1 fun v G2 H2 R2 => ?_
  refine kr x y _ h3 G0 H0 G2 H2 σ δ ts u v _ (R2.drop.drop) (R2.tmp (x,u) (.tail _ (.head _))) (R2.tmp (y,v) (.head _)) fun w G3 H3 R3 => ?_
  have hu:=R3.tmp _ (.head _)
  rw [Du] at hu
  exact ⟨z,hu,k _ _ R3.drop⟩
theorem dt_val (ha : DE X e f) (he : ∀ whole,isTrue e X.env whole = (do let v ← whole; standAt e.pos; holding [v] (truthy v)) := by intro _; rfl) : DT X e (fun δ => (f δ).bind asB) := by
  obtain ⟨ta,pa,ka⟩:=ha
  refine ⟨_,pt_val pa he,fun δ z hz G0 H0 G H σ ts Q R0 k => ?_⟩
  obtain ⟨q,h0,h4⟩:=Option.bind_eq_some_iff.mp hz
  have:=asB_eq h4; subst this
  refine ka δ _ h0 G0 H0 G H σ ts _ R0 fun u G1 H1 R1 => ?_
  have hu:=R1.tmp _ (.head _)
  rw [Du] at hu
  exact ⟨z,hu,k _ _ R1.drop⟩
theorem dt_not (ha : DT X a fa) : DT X (.UnaryOp .Not a pos) (fun δ => (fa δ).map fun c => !c) := by
  obtain ⟨ta,pa,ka⟩:=ha
  refine ⟨_,pt_not pa,fun δ z hz G0 H0 G H σ ts Q R0 k => ?_⟩
  obtain ⟨i,h3,rfl⟩:=Option.map_eq_some_iff.mp hz
  exact ka δ _ h3 G0 H0 G H σ ts _ R0 fun G1 H1 R1 => k _ _ R1
theorem dw_one {op : BoolOp} (ha : DT X a fa) : DW X (.BoolOp op [a] pos) fa := by
  obtain ⟨ta,pa,ka⟩:=ha
  cases op
  · exact ⟨_,pw_and1 pa,ka⟩
  · exact ⟨_,pw_or1 pa,ka⟩
theorem dw_or {rest : List Expr} (ha : DT X a fa) (hb : DW X (.BoolOp .Or (b :: rest) pos) fb) : DW X (.BoolOp .Or (a :: b :: rest) pos) (fun δ => (fa δ).bind fun c => if c = true then some true else fb δ) := by
  obtain ⟨ta,pa,ka⟩:=ha
  obtain ⟨tb,pb,kb⟩:=hb
  refine ⟨_,pw_or pa pb,fun δ z hz G0 H0 G H σ ts Q R0 k => ?_⟩
  obtain ⟨i,h3,h4⟩:=Option.bind_eq_some_iff.mp hz
  refine ka δ _ h3 G0 H0 G H σ ts _ R0 fun G1 H1 R1 => ?_
  split
  · rename_i hc
    rw [if_pos hc] at h4; cases h4
    exact k _ _ R1
  · rename_i hc
    rw [if_neg hc] at h4
    exact kb δ z h4 G0 H0 G1 H1 σ ts Q R1 k
variable {fs : Dv→Option (List PyData)}
theorem da_nil : DA X [] (fun _ => some []):=⟨_,pa_nil,fun δ xs h G0 H0 G H σ ts Q R0 k => by cases h; exact k [] G H (by simpa using R0) rfl⟩
theorem da_cons (ha : DE X e f) (hr : DA X es fs) (hs : starEach (e :: es) X.env = (false,eval e X.env) :: starEach es X.env := by rfl) : DA X (e :: es) (fun δ => (f δ).bind fun x => (fs δ).map fun xs => x :: xs) := by
  obtain ⟨ta,pa,ka⟩:=ha
  obtain ⟨tr,pr,kr⟩:=hr
  refine ⟨_,pa_cons pa pr hs,fun δ z hz G0 H0 G H σ ts Q R0 k => ?_⟩
  obtain ⟨x,h1,h2⟩:=Option.bind_eq_some_iff.mp hz
  obtain ⟨xs,h3,rfl⟩:=Option.map_eq_some_iff.mp h2
  refine ka δ x h1 G0 H0 G H σ ts _ R0 fun u G1 H1 R1 => ?_
  refine kr δ xs h3 G0 H0 G1 H1 σ _ _ R1 fun vs G2 H2 R2 hl => ?_
  refine k (u :: vs) G2 H2 (R2.less fun q hq => ?_) (by simp [hl])
  simp only [List.zip_cons_cons,List.cons_append,List.mem_cons,List.mem_append] at hq ⊢
  rcases hq with h | h | h
  · exact .inr (.inl h)
  · exact .inl h
  · exact .inr (.inr h)
theorem duA_of {G : Hp} : ∀ {xs : List PyData} {vs : List V},vs.length = xs.length→(∀ q∈xs.zip vs,Du G q.1 q.2)→DuA G xs vs
  | [],vs,hl,_ => by rw [List.eq_nil_of_length_eq_zero hl]; exact .nil
  | x :: xs,[],hl,_ => by simp at hl
  | x :: xs,v :: vs,hl,h => .cons (h (x,v) (by simp)) (duA_of (by simpa using hl) fun q hq => h q (by simp [hq]))
theorem Rw.args {G0 H0 G H : Hp} {σ : St} {δ : Dv} {ts : List (PyData×V)} {xs : List PyData} {vs : List V} (r : Rw G0 H0 G H σ δ (xs.zip vs ++ ts)) (hl : vs.length = xs.length) : DuA G xs vs∧Rw G0 H0 G H σ δ ts :=
  ⟨duA_of hl fun q hq => r.tmp q (List.mem_append_left _ hq),r.less fun q hq => List.mem_append_right _ hq⟩
theorem Rw.newL {G0 H0 G H : Hp} {σ : St} {δ : Dv} {ts : List (PyData×V)} {xs : List PyData} {vs : List V} {p : Addr} (r : Rw G0 H0 G H σ δ ts) (d : DuA G xs vs) (hp : H p = none) : Rw G0 H0 (upd G p (.lst vs)) (upd H p (.lst vs)) σ δ ((.list xs,.ref p) :: ts) := by
  refine (r.newObj hp).put ?_
  have e : Same G (upd G p (.lst vs)):=fun a o h => by rw [upd_ne (ne_of_none (r.ins _ _ h) hp)]; exact h
  rw [Du]
  exact ⟨p,vs,rfl,upd_same,d.same e⟩
theorem Rw.newT {G0 H0 G H : Hp} {σ : St} {δ : Dv} {ts : List (PyData×V)} {xs : List PyData} {vs : List V} {p : Addr} (r : Rw G0 H0 G H σ δ ts) (d : DuA G xs vs) (hp : H p = none) : Rw G0 H0 (upd G p (.tup vs)) (upd H p (.tup vs)) σ δ ((.tuple xs,.ref p) :: ts) := by
  refine (r.newObj hp).put ?_
  have e : Same G (upd G p (.tup vs)):=fun a o h => by rw [upd_ne (ne_of_none (r.ins _ _ h) hp)]; exact h
  rw [Du]
  exact ⟨p,vs,rfl,upd_same,d.same e⟩
def few (xs : List PyData) : Option (List PyData):=if xs.length≤dMax then some xs else none
theorem few_eq {xs ys : List PyData} (h : few xs = some ys) : xs = ys∧xs.length≤dMax := by
  unfold few at h; split at h
  · rename_i q; cases h; exact ⟨rfl,q⟩
  · cases h
theorem de_tup {x1} (ha : DA X es fs) : DE X (.Tuple es x1 pos) (fun δ => ((fs δ).bind few).map .tuple) := by
  obtain ⟨ta,pa,ka⟩:=ha
  refine ⟨_,pe_tup pa,fun δ z hz G0 H0 G H σ ts Q R0 k => ?_⟩
  obtain ⟨ys,h1,rfl⟩:=Option.map_eq_some_iff.mp hz
  obtain ⟨xs,h2,h3⟩:=Option.bind_eq_some_iff.mp h1
  obtain ⟨rfl,hl⟩:=few_eq h3
  refine ka δ _ h2 G0 H0 G H σ ts _ R0 fun vs G1 H1 R1 hv => ?_
  obtain ⟨d,R2⟩:=R1.args hv
  exact ⟨dMax_le (by rw [hv]; exact hl),fun q hq => k _ _ _ (R2.newT d hq)⟩
theorem de_lst (ha : DA X es fs) : DE X (.List es pos) (fun δ => ((fs δ).bind few).map .list) := by
  obtain ⟨ta,pa,ka⟩:=ha
  refine ⟨_,pe_lst pa,fun δ z hz G0 H0 G H σ ts Q R0 k => ?_⟩
  obtain ⟨ys,h1,rfl⟩:=Option.map_eq_some_iff.mp hz
  obtain ⟨xs,h2,h3⟩:=Option.bind_eq_some_iff.mp h1
  obtain ⟨rfl,hl⟩:=few_eq h3
  refine ka δ _ h2 G0 H0 G H σ ts _ R0 fun vs G1 H1 R1 hv => ?_
  obtain ⟨d,R2⟩:=R1.args hv
  exact ⟨dMax_le (by rw [hv]; exact hl),fun q hq => k _ _ _ (R2.newL d hq)⟩
theorem DuA.atI {H : Hp} {ds : List PyData} {xs : List V} {i : Int} {d : PyData} (h : DuA H ds xs) (e : atI ds i = some d) : ∃ v,atI xs i = some v∧Du H d v := by
  unfold L2.atI at e ⊢
  rw [h.len]
  obtain ⟨j,h1,h2⟩:=Option.bind_eq_some_iff.mp e
  obtain ⟨v,h3,h4⟩:=h.get h2
  exact ⟨v,by rw [h1]; exact h3,h4⟩
theorem duA_intsG {G : Hp} : ∀ ns : List Int,DuA G (ns.map .int) (ns.map V.int)
  | [] => .nil
  | n :: ns => .cons (by rw [Du]) (duA_intsG ns)
def dIx : PyData→PyData→Option PyData:=fun x y => match x,y with
  | .list xs,.int i => atI xs i
  | .tuple xs,.int i => atI xs i
  | .dict [(.none,.list xs)],.int i => atI xs i
  | .str z,.int i => if z.length≤dMax then (atI z.cps.toList i).map fun c => .str ⟨#[c]⟩ else none
  | _,_ => none
theorem de_ix (ha : DE X a f) (hb : DE X b g) (hs : PlainIx b) : DE X (.Subscript a b pos) (op2 dIx f g) := by
  obtain ⟨ta,pa,ka⟩:=ha
  obtain ⟨tb,pb,kb⟩:=hb
  refine ⟨_,pe_ix ix_seq pa pb hs,fun δ z hz G0 H0 G H σ ts Q R0 k => ?_⟩
  obtain ⟨x,y,h1,h2,h3⟩:=two (x:=.none) (y:=.none) hz
  refine ka δ x h1 G0 H0 G H σ ts _ R0 fun u G1 H1 R1 => ?_
  refine kb δ y h2 G0 H0 G1 H1 σ _ _ R1 fun v G2 H2 R2 => ?_
  have du:=R2.tmp (x,u) (.tail _ (.head _))
  have dv:=R2.tmp (y,v) (.head _)
  unfold dIx at h3
  split at h3
  · rw [Du] at du; rw [Du] at dv
    obtain ⟨p,xs,rfl,h4,h5⟩:=du
    obtain ⟨w,h6,h7⟩:=h5.atI h3
    exact .inl ⟨p,xs,_,w,rfl,dv,SqL.of (R2.ins _ _ h4),h6,k _ _ _ (R2.drop.drop.put h7)⟩
  · rw [Du] at du; rw [Du] at dv
    obtain ⟨p,xs,rfl,h4,h5⟩:=du
    obtain ⟨w,h6,h7⟩:=h5.atI h3
    exact .inr (.inl ⟨p,xs,_,w,rfl,dv,SqT.of (R2.ins _ _ h4),h6,k _ _ _ (R2.drop.drop.put h7)⟩)
  · rw [Du] at du; rw [Du] at dv
    rcases du with ⟨ea,C,e1,_⟩ | ⟨p,ns,e1,rfl,h4⟩ | z
    rotate_left 2
    · rw [DuM] at z; cases z.1
    · simp at e1
    · obtain rfl : _ = ns.map PyData.int := by simpa using e1
      obtain ⟨w,h6,h7⟩:=(duA_intsG (G:=_) ns).atI h3
      exact .inl ⟨p,_,_,w,rfl,dv,.inl (h4.same R2.ins),h6,k _ _ _ (R2.drop.drop.put h7)⟩
  · rw [Du] at du; rw [Du] at dv
    split at h3
    · rename_i hl
      obtain ⟨ch,h6,rfl⟩:=Option.map_eq_some_iff.mp h3
      exact .inr (.inr ⟨_,_,ch,du,dv,dMax_le hl,h6,k _ _ _ (R2.drop.drop.put (by rw [Du]))⟩)
    · cases h3
  · cases h3
end
def spD (g : List PyData→Option PyData) : Sp:=fun vs H Q _ => ∃ ds x G,g ds = some x∧DuA G ds vs∧Same G H∧∀ v G' H',Same G G'→Nw G H G'→Same G' H'→Same H H'→Du G' x v→Q v H'
section
variable {X : Cx} {a e : Expr} {es : List Expr} {f h : Dv→Option PyData} {fs : Dv→Option (List PyData)} {pos p : Pos}
theorem de_call {k : Nat} {fA : Addr} {fd : FuncData} {ps : List Str} {m : List PyData→Option PyData} {x : Str} {st : Stmt} (T : Fn X.K X.mg x st ps fA fd) (F : FnOk X.prog X.w X.K X.mg X.base CX0 k fA fd ps (spD m)) (hr : Room k X.A) (hg : Gl X x) (ha : DA X (e :: es) fs)
    (hdb : (x == ("__debug__" : Str)) = false := by decide) (he : starEach (e :: es) X.env = (false,eval e X.env) :: starEach es X.env := by rfl) (hpl : (backTo pos (starEach es X.env)).any (·.1) = false := by rfl) :
    DE X (.Call (.Name x p) (e :: es) [] pos) (fun δ => (fs δ).bind m) := by
  obtain ⟨ta,pa,ka⟩:=ha
  refine ⟨_,pe_fn T F hr hg pa hdb he hpl,fun δ z hz G0 H0 G H σ ts Q R0 k => ?_⟩
  obtain ⟨xs,h1,h2⟩:=Option.bind_eq_some_iff.mp hz
  refine ka δ _ h1 G0 H0 G H σ ts _ R0 fun vs G1 H1 R1 hv => ?_
  obtain ⟨d,R2⟩:=R1.args hv
  refine ⟨xs,z,G1,h2,by rw [List.append_nil]; exact d,R2.ins,fun v G' H' h3 h4 h5 h6 h7 => ?_⟩
  exact k _ _ _ ((R2.lift h3 h4 h5 h6).put h7)
def DCall (X : Cx) (v : Value) (o : List PyData→Option PyData) : Prop:=∃ r,CallR X v r∧∀ xs z,o xs = some z→∀ G0 H0 G H σ δ ts us (Q : VK),Rw G0 H0 G H σ δ ts→DuA G xs us→(∀ w G' H',Rw G0 H0 G' H' σ δ ((z,w) :: ts)→Q w H')→r us H Q
theorem de_callB {x : Str} {id : String} {o : List PyData→Option PyData} (hc : DCall X (.builtin id) o) (hg : Gl X x) (hm : X.mg x = none) (hv : bootBuiltins x = some (.builtin id)) (ha : DA X (e :: es) fs) (hn : x ≠ "__name__" := by decide) (hdb : (x == ("__debug__" : Str)) = false := by decide)
    (he : starEach (e :: es) X.env = (false,eval e X.env) :: starEach es X.env := by rfl) (hpl : (backTo pos (starEach es X.env)).any (·.1) = false := by rfl) : DE X (.Call (.Name x p) (e :: es) [] pos) (fun δ => (fs δ).bind o) := by
  obtain ⟨r,hr,kr⟩:=hc
  obtain ⟨ta,pa,ka⟩:=ha
  refine ⟨_,pe_callB hr hg hm hv pa hn hdb he hpl,fun δ z hz G0 H0 G H σ ts Q R0 k => ?_⟩
  obtain ⟨xs,h1,h2⟩:=Option.bind_eq_some_iff.mp hz
  refine ka δ _ h1 G0 H0 G H σ ts _ R0 fun vs G1 H1 R1 hv => ?_
  obtain ⟨d,R2⟩:=R1.args hv
  exact kr xs z h2 G0 H0 G1 H1 σ δ ts vs Q R2 d k
theorem de_callTy {x : Str} {T : String} {o : List PyData→Option PyData} (hc : DCall X (.type T) o) (hg : Gl X x) (hm : X.mg x = none) (hv : bootBuiltins x = some (.type T)) (ha : DA X (e :: es) fs) (hn : x ≠ "__name__" := by decide) (hdb : (x == ("__debug__" : Str)) = false := by decide)
    (he : starEach (e :: es) X.env = (false,eval e X.env) :: starEach es X.env := by rfl) (hpl : (backTo pos (starEach es X.env)).any (·.1) = false := by rfl) : DE X (.Call (.Name x p) (e :: es) [] pos) (fun δ => (fs δ).bind o) := by
  obtain ⟨r,hr,kr⟩:=hc
  obtain ⟨ta,pa,ka⟩:=ha
  refine ⟨_,pe_callTy hr hg hm hv pa hn hdb he hpl,fun δ z hz G0 H0 G H σ ts Q R0 k => ?_⟩
  obtain ⟨xs,h1,h2⟩:=Option.bind_eq_some_iff.mp hz
  refine ka δ _ h1 G0 H0 G H σ ts _ R0 fun vs G1 H1 R1 hv => ?_
  obtain ⟨d,R2⟩:=R1.args hv
  exact kr xs z h2 G0 H0 G1 H1 σ δ ts vs Q R2 d k
theorem DuA.un1 {H : Hp} {d : PyData} {xs : List V} (h : DuA H [d] xs) : ∃ x,xs = [x]∧Du H d x := by
  obtain ⟨x,r,rfl,h1,h2⟩:=h.un
  rw [h2.nil_eq]; exact ⟨x,rfl,h1⟩
theorem DuA.un2 {H : Hp} {d e : PyData} {xs : List V} (h : DuA H [d,e] xs) : ∃ x y,xs = [x,y]∧Du H d x∧Du H e y := by
  obtain ⟨x,r,rfl,h1,h2⟩:=h.un
  obtain ⟨y,rfl,h3⟩:=h2.un1; exact ⟨x,y,rfl,h1,h3⟩
def dLen : List PyData→Option PyData
  | [.list xs] => some (.int xs.length)
  | [.tuple xs] => some (.int xs.length)
  | [.dict [(.none,.list xs)]] => some (.int xs.length)
  | _ => none
theorem dc_len : DCall X (.builtin "len") dLen := by
  refine ⟨_,call_len_seq,fun xs z hz G0 H0 G H σ δ ts us Q R0 d k => ?_⟩
  unfold dLen at hz
  split at hz
  · cases hz
    obtain ⟨u,rfl,du⟩:=d.un1
    rw [Du] at du
    obtain ⟨p,ys,rfl,h4,h5⟩:=du
    refine ⟨p,ys,rfl,.inl (SqL.of (R0.ins _ _ h4)),?_⟩
    rw [h5.len]
    exact k _ _ _ (R0.put (by rw [Du]))
  · cases hz
    obtain ⟨u,rfl,du⟩:=d.un1
    rw [Du] at du
    obtain ⟨p,ys,rfl,h4,h5⟩:=du
    refine ⟨p,ys,rfl,.inr (SqT.of (R0.ins _ _ h4)),?_⟩
    rw [h5.len]
    exact k _ _ _ (R0.put (by rw [Du]))
  · cases hz
    obtain ⟨u,rfl,du⟩:=d.un1
    rw [Du] at du
    rcases du with ⟨ea,C,e1,_⟩ | ⟨p,ns,e1,rfl,h4⟩ | z
    rotate_left 2
    · rw [DuM] at z; cases z.1
    · simp at e1
    · obtain rfl : _ = ns.map PyData.int := by simpa using e1
      refine ⟨p,_,rfl,.inl (.inl (h4.same R0.ins)),?_⟩
      rw [List.length_map] at k ⊢
      exact k _ _ _ (R0.put (by rw [Du]))
  · cases hz
def dListOf : List PyData→Option PyData
  | [.list xs] => some (.list xs)
  | [.tuple xs] => some (.list xs)
  | _ => none
theorem dc_list : DCall X (.type "list") dListOf := by
  refine ⟨_,call_list_of,fun xs z hz G0 H0 G H σ δ ts us Q R0 d k => ?_⟩
  unfold dListOf at hz
  split at hz
  · cases hz
    obtain ⟨u,rfl,du⟩:=d.un1
    rw [Du] at du
    obtain ⟨p,ys,rfl,h4,h5⟩:=du
    exact ⟨p,ys,rfl,.inl (SqL.of (R0.ins _ _ h4)),fun l hl => k _ _ _ (R0.newL h5 hl)⟩
  · cases hz
    obtain ⟨u,rfl,du⟩:=d.un1
    rw [Du] at du
    obtain ⟨p,ys,rfl,h4,h5⟩:=du
    exact ⟨p,ys,rfl,.inr (SqT.of (R0.ins _ _ h4)),fun l hl => k _ _ _ (R0.newL h5 hl)⟩
  · cases hz
theorem Du.ty {K : PySem.W.Frag} {H : Hp} : ∀ {d : PyData} {v : V},(∀ kv,d≠.dict kv)→Du H d v→TyOf K H v (.type (tyOf d))∧∀ kv,d≠.dict kv
  | .none,_,_,h => by rw [Du] at h; subst h; exact ⟨.non,by simp⟩
  | .bool _,_,_,h => by rw [Du] at h; subst h; exact ⟨.bl _,by simp⟩
  | .int _,_,_,h => by rw [Du] at h; subst h; exact ⟨.int _,by simp⟩
  | .str _,_,_,h => by rw [Du] at h; subst h; exact ⟨.str _,by simp⟩
  | .tuple _,_,_,h => by rw [Du] at h; obtain ⟨a,xs,rfl,h1,_⟩:=h; exact ⟨.tup h1,by simp⟩
  | .list _,_,_,h => by rw [Du] at h; obtain ⟨a,xs,rfl,h1,_⟩:=h; exact ⟨.lst h1,by simp⟩
  | .dict _,_,n,h => absurd rfl (n _)
def isiD (q : PyData→Bool) : PyData→Option PyData
  | .dict _ => none
  | x => some (.bool (q x))
theorem isiD_eq {q : PyData→Bool} {x z : PyData} (h : isiD q x = some z) : (∀ kv,x≠.dict kv)∧z = .bool (q x) := by
  unfold isiD at h
  split at h
  · cases h
  · rename_i n; cases h; exact ⟨fun kv e => n kv e,rfl⟩
theorem de_isi {T : String} {q : PyData→Bool} {xT : Str} {p1 p2 : Pos} (hk : ∀ d : PyData,(∀ kv,d≠.dict kv)→PySem.W.kitOne X.K (.type (tyOf d)) (.type T) = some (q d)) (hg : Gl X "isinstance") (hm : X.mg "isinstance" = none) (hgT : Gl X xT) (hmT : X.mg xT = none) (hvT : bootBuiltins xT = some (.type T)) (ha : DE X a f)
    (hnT : xT ≠ "__name__" := by decide) (hdT : (xT == ("__debug__" : Str)) = false := by decide) (hs1 : starEach [a,.Name xT p2] X.env = (false,eval a X.env) :: starEach [.Name xT p2] X.env := by rfl) (hpl : (backTo pos (starEach [.Name xT p2] X.env)).any (·.1) = false := by rfl) :
    DE X (.Call (.Name "isinstance" p1) [a,.Name xT p2] [] pos) (fun δ => (f δ).bind (isiD q)) := by
  obtain ⟨ta,pa,ka⟩:=ha
  have pT : PE X (.Name xT p2) (tC (.ty T)):=pe_bltn hgT hmT hvT rfl hnT hdT
  refine ⟨_,pe_callB call_isi hg hm PyProof.Rows.boot_isinstance (pa_cons pa (pa_cons pT pa_nil) hs1) (by decide) (by decide) hs1 hpl,fun δ z hz G0 H0 G H σ ts Q R0 k => ?_⟩
  obtain ⟨x,h1,h2⟩:=Option.bind_eq_some_iff.mp hz
  obtain ⟨n1,rfl⟩:=isiD_eq h2
  refine ka δ _ h1 G0 H0 G H σ ts _ R0 fun u G1 H1 R1 => ?_
  have du:=R1.tmp _ (.head _)
  obtain ⟨t1,t2⟩:=(du.same R1.ins).ty (K:=X.K) n1
  exact ⟨u,.ty T,_,q x,rfl,by simp [clsV],t1,hk x t2,k _ _ _ (R1.drop.put (by rw [Du]))⟩
end
inductive Ou where
  | nx (δ : Dv) | rt (x : PyData) | bk (δ : Dv) | ct (δ : Dv) | rn (xs : List PyData)
def Fin (G0 H0 : Hp) (D : Ends) : Ou→Prop
  | .nx δ => ∀ σ G H,Rw G0 H0 G H σ δ []→D.nx σ H
  | .rt x => ∀ v G H,Same G0 G→Nw G0 H0 G→Same G H→Same H0 H→Du G x v→D.rt v H
  | .bk δ => ∀ σ G H,Rw G0 H0 G H σ δ []→D.bk σ H
  | .ct δ => ∀ σ G H,Rw G0 H0 G H σ δ []→D.ct σ H
  | .rn xs => ∀ a ys G H,Same G0 G→Nw G0 H0 G→Same G H→Same H0 H→H0 a = none→G a = none→H a = some (.lst ys)→DuA G xs ys→D.rt (.ref a) H
abbrev DF:=Dv→Option Ou
def DS (X : Cx) (st : Stmt) (F : DF) : Prop:=∃ t,PS X st t∧∀ δ r,F δ = some r→∀ G0 H0 G H σ D,Rw G0 H0 G H σ δ []→Fin G0 H0 D r→t D σ H
def DSs (X : Cx) (st : List Stmt) (F : DF) : Prop:=∃ t,PSs X st t∧∀ δ r,F δ = some r→∀ G0 H0 G H σ D,Rw G0 H0 G H σ δ []→Fin G0 H0 D r→t D σ H
def seqD (F1 F2 : DF) (δ : Dv) : Option Ou:=match F1 δ with
  | some (.nx δ') => F2 δ'
  | o => o
section
variable {X : Cx} {c e : Expr}  {f h : Dv→Option PyData}  {fa : Dv→Option Bool} {pos p : Pos} {st : Stmt} {sts sts' : List Stmt} {F1 F2 : DF}
theorem dss_nil : DSs X [] (fun δ => some (.nx δ)):=⟨_,pss_nil,fun δ r h G0 H0 G H σ D R k => by cases h; exact k _ _ _ R⟩
theorem dss_cons (h1 : DS X st F1) (h2 : DSs X sts F2) : DSs X (st :: sts) (seqD F1 F2) := by
  obtain ⟨t1,p1,k1⟩:=h1
  obtain ⟨t2,p2,k2⟩:=h2
  refine ⟨_,pss_cons p1 p2,fun δ r h G0 H0 G H σ D R k => ?_⟩
  unfold seqD at h
  split at h
  · rename_i δ' e1
    exact k1 δ _ e1 G0 H0 G H σ _ R fun σ' G' H' R' => k2 δ' r h G0 H0 G' H' σ' D R' k
  · rename_i hne
    refine k1 δ r h G0 H0 G H σ _ R ?_
    cases r with
    | nx δ' => exact absurd h (hne δ')
    | rt x => exact k
    | bk δ' => exact k
    | ct δ' => exact k
    | rn xs => exact k
theorem dss_one (h1 : DS X st F1) : DSs X [st] F1 := by
  obtain ⟨t1,p1,k1⟩:=h1
  exact ⟨_,pss_one p1,k1⟩
theorem ds_ret (he : DE X e f) : DS X (.Return (some e) pos) (fun δ => (f δ).map .rt) := by
  obtain ⟨t,p,k⟩:=he
  refine ⟨_,ps_ret p,fun δ r h G0 H0 G H σ D R q => ?_⟩
  obtain ⟨x,h1,rfl⟩:=Option.map_eq_some_iff.mp h
  exact k δ x h1 G0 H0 G H σ [] _ R fun v G' H' R' => q v G' H' R'.ext R'.new R'.ins R'.keep (R'.tmp _ (.head _))
theorem ds_if (hc : DT X c fa) (h1 : DSs X sts F1) (h2 : DSs X sts' F2) : DS X (.If c sts sts' pos) (fun δ => (fa δ).bind fun c => if c = true then F1 δ else F2 δ) := by
  obtain ⟨tc,pc,kc⟩:=hc
  obtain ⟨t1,p1,k1⟩:=h1
  obtain ⟨t2,p2,k2⟩:=h2
  refine ⟨_,ps_if pc p1 p2,fun δ r h G0 H0 G H σ D R q => ?_⟩
  obtain ⟨i,h3,h4⟩:=Option.bind_eq_some_iff.mp h
  refine kc δ i h3 G0 H0 G H σ [] _ R fun G' H' R' => ?_
  split
  · rename_i hc
    rw [if_pos hc] at h4
    exact k1 δ r h4 G0 H0 G' H' σ D R' q
  · rename_i hc
    rw [if_neg hc] at h4
    exact k2 δ r h4 G0 H0 G' H' σ D R' q
end
section
variable {G0 H0 G H : Hp} {σ : St} {δ : Dv} {ts : List (PyData×V)}
theorem Rw.setD {i : Nat} {x : PyData} {v : V} (r : Rw G0 H0 G H σ δ ((x,v) :: ts)) : Rw G0 H0 G H (σ.set i (some v)) (δ.set i (.d x)) ts := by
  have hl:=r.len
  refine ⟨r.ext,r.new,r.ins,r.keep,by simp [hl],fun j y h => ?_,fun j ys h => ?_,fun j l ys zs hjl h1 h2 => ?_,fun q hq => r.tmp q (.tail _ hq)⟩
  · by_cases hj : i = j
    · subst hj
      by_cases hi : i < δ.length
      · rw [List.getElem?_set_self hi] at h
        cases h
        exact ⟨v,by rw [List.getElem?_set_self (by lia)],r.tmp _ (.head _)⟩
      · rw [List.getElem?_eq_none (by simp; lia)] at h; cases h
    · rw [List.getElem?_set_ne hj] at h
      obtain ⟨w,k1,k2⟩:=r.dat j y h
      exact ⟨w,by rw [List.getElem?_set_ne hj]; exact k1,k2⟩
  · by_cases hj : i = j
    · subst hj
      by_cases hi : i < δ.length
      · rw [List.getElem?_set_self hi] at h; cases h
      · rw [List.getElem?_eq_none (by simp; lia)] at h; cases h
    · rw [List.getElem?_set_ne hj] at h
      obtain ⟨w,k1,k2,k3⟩:=r.own j ys h
      exact ⟨w,k1,by rw [List.getElem?_set_ne hj]; exact k2,k3⟩
  · have nj : i≠j:=fun z => by
      subst z
      by_cases hi : i < δ.length
      · rw [List.getElem?_set_self hi] at h1; cases h1
      · rw [List.getElem?_eq_none (by simp; lia)] at h1; cases h1
    have nl : i≠l:=fun z => by
      subst z
      by_cases hi : i < δ.length
      · rw [List.getElem?_set_self hi] at h2; cases h2
      · rw [List.getElem?_eq_none (by simp; lia)] at h2; cases h2
    rw [List.getElem?_set_ne nj] at h1 ⊢
    rw [List.getElem?_set_ne nl] at h2 ⊢
    exact r.apart j l ys zs hjl h1 h2
end
section
variable {X : Cx} {e : Expr} {f : Dv→Option PyData} {pos p : Pos}
theorem ds_set {i : Nat} {x : Str} {pos' : Pos} (hN : X.N.Nodup) (hi : X.N[i]? = some x) (hx : Loc X.env.scope x) (he : DE X e f) (hs : swapsWith e (some (.Name x pos')) pos.line X.env = pure false := by rfl) (hf : X.fn x = true∨X.env.scope.names.lookup x = some .local := by first | exact .inl rfl | exact .inr rfl | assumption) :
    DS X (.Assign [.Name x pos'] e pos) (fun δ => (f δ).map fun y => .nx (δ.set i (.d y))) := by
  obtain ⟨t,p,k⟩:=he
  refine ⟨_,ps_set hN hi hx p hs hf,fun δ r h G0 H0 G H σ D R q => ?_⟩
  obtain ⟨y,h1,rfl⟩:=Option.map_eq_some_iff.mp h
  exact k δ y h1 G0 H0 G H σ [] _ R fun v G' H' R' => q _ _ _ R'.setD
end
structure ItOk (J : It) (xs : List PyData) (G : Hp) : Prop where
  stop : ∀ H,Same G H→J.stop xs.length H
  go : ∀ (i : Nat) (d : PyData) H,xs[i]? = some d→Same G H→J.go i H
  yld : ∀ (i : Nat) (d : PyData) H x H',xs[i]? = some d→Same G H→J.yld i H x H'→∀ Gc,Same G Gc→Same Gc H→∃ Gc',Same Gc Gc'∧Nw Gc H Gc'∧Same Gc' H'∧Same H H'∧Du Gc' d x
theorem Nw.refl {G H : Hp} : Nw G H G:=fun _ _ h => .inl h
theorem it_list {K : PySem.W.Frag} {G : Hp} {a : Addr} {ys : List V} {xs : List PyData} (ha : G a = some (.lst ys)) (d : DuA G xs ys) : ItOk (Itl K a) xs G where
  stop:=fun H e => ⟨ys,SqL.of (e _ _ ha),by rw [d.len]; exact Nat.le_refl _⟩
  go:=fun i x H hx e => by
    obtain ⟨v,h1,_⟩:=d.get hx
    exact ⟨ys,v,SqL.of (e _ _ ha),h1⟩
  yld:=fun i x H v H' hx e y Gc e1 e2 => by
    obtain ⟨rfl,y⟩:=y
    have h1:=y ys (SqL.of (e _ _ ha))
    obtain ⟨x',h2,h3⟩:=d.back h1
    rw [hx] at h2; cases h2
    exact ⟨Gc,Same.refl _,Nw.refl,e2,Same.refl _,h3.same e1⟩
theorem it_tup {K : PySem.W.Frag} {G : Hp} {a : Addr} {ys : List V} {xs : List PyData} (ha : G a = some (.tup ys)) (d : DuA G xs ys) : ItOk (Itt K a) xs G where
  stop:=fun H e => ⟨ys,SqT.of (e _ _ ha),by rw [d.len]; exact Nat.le_refl _⟩
  go:=fun i x H hx e => by
    obtain ⟨v,h1,_⟩:=d.get hx
    exact ⟨ys,v,SqT.of (e _ _ ha),h1⟩
  yld:=fun i x H v H' hx e y Gc e1 e2 => by
    obtain ⟨rfl,y⟩:=y
    have h1:=y ys (SqT.of (e _ _ ha))
    obtain ⟨x',h2,h3⟩:=d.back h1
    rw [hx] at h2; cases h2
    exact ⟨Gc,Same.refl _,Nw.refl,e2,Same.refl _,h3.same e1⟩
def rngD (lo : Int) (n : Nat) : List PyData:=(List.range n).map fun k => .int (lo + (k : Nat))
theorem it_rng {G : Hp} {lo : Int} {n : Nat} : ItOk (Itr lo n) (rngD lo n) G where
  stop:=fun H e => by show n≤_; simp [rngD]
  go:=fun i x H hx e => by
    have:=(List.getElem?_eq_some_iff.mp hx).1
    show i < n
    simpa [rngD] using this
  yld:=fun i x H v H' hx e y Gc e1 e2 => by
    obtain ⟨rfl,rfl⟩:=y
    unfold rngD at hx
    rw [List.getElem?_map] at hx
    obtain ⟨k,h1,rfl⟩:=Option.map_eq_some_iff.mp hx
    have hk : k = i := by
      have:=(List.getElem?_eq_some_iff.mp h1).1
      rw [List.getElem?_range (by simpa using this)] at h1
      cases h1; rfl
    subst hk
    exact ⟨Gc,Same.refl _,Nw.refl,e2,Same.refl _,by rw [Du]⟩
theorem pair_new {Gc H : Hp} {p : Addr} {d1 d2 : PyData} {v1 v2 : V} (e2 : Same Gc H) (hp : H p = none) (h1 : Du Gc d1 v1) (h2 : Du Gc d2 v2) :
    ∃ Gc',Same Gc Gc'∧Nw Gc H Gc'∧Same Gc' (upd H p (.tup [v1,v2]))∧Same H (upd H p (.tup [v1,v2]))∧Du Gc' (.tuple [d1,d2]) (.ref p) := by
  have hG : Gc p = none := by
    cases q : Gc p with
    | none => rfl
    | some u => rw [e2 _ _ q] at hp; cases hp
  have e : Same Gc (upd Gc p (.tup [v1,v2])):=same_new hG _
  refine ⟨upd Gc p (.tup [v1,v2]),e,fun a o h => ?_,fun a o h => ?_,same_new hp _,?_⟩
  · by_cases ha : a = p
    · subst ha; exact .inr (.inl hp)
    · rw [upd_ne ha] at h; exact .inl h
  · by_cases ha : a = p
    · subst ha; rw [upd_same] at h ⊢; exact h
    · rw [upd_ne ha] at h ⊢; exact e2 _ _ h
  · rw [Du]; exact ⟨p,[v1,v2],rfl,upd_same,.cons (h1.same e) (.cons (h2.same e) .nil)⟩
def zipD (xs ys : List PyData) : List PyData:=(xs.zip ys).map fun q => .tuple [q.1,q.2]
theorem zipD_get {xs ys : List PyData} {i : Nat} {d : PyData} (h : (zipD xs ys)[i]? = some d) : ∃ x y,xs[i]? = some x∧ys[i]? = some y∧d = .tuple [x,y] := by
  unfold zipD at h
  rw [List.getElem?_map] at h
  obtain ⟨q,h1,rfl⟩:=Option.map_eq_some_iff.mp h
  obtain ⟨k1,k2⟩:=List.getElem?_zip_eq_some.mp h1
  exact ⟨q.1,q.2,k1,k2,rfl⟩
theorem it_zip {G : Hp} {b1 b2 : Bool} {a1 a2 : Addr} {us vs : List V} {xs ys : List PyData} (h1 : G a1 = some (if b1 then .tup us else .lst us)) (h2 : G a2 = some (if b2 then .tup vs else .lst vs)) (d1 : DuA G xs us) (d2 : DuA G ys vs) : ItOk (Itz b1 b2 a1 a2) (zipD xs ys) G where
  stop:=fun H e => by
    have k1:=e _ _ h1
    have k2:=e _ _ h2
    refine ⟨us,vs,?_,?_,?_⟩
    · cases b1 <;> simpa [SqH] using k1
    · cases b2 <;> simpa [SqH] using k2
    · rw [d1.len,d2.len]; simp [zipD]; lia
  go:=fun i x H hx e => by
    obtain ⟨x1,x2,k1,k2,rfl⟩:=zipD_get hx
    obtain ⟨v1,k3,_⟩:=d1.get k1
    obtain ⟨v2,k4,_⟩:=d2.get k2
    have m1:=e _ _ h1
    have m2:=e _ _ h2
    refine ⟨us,v1,vs,v2,?_,?_,k3,k4⟩
    · cases b1 <;> simpa [SqH] using m1
    · cases b2 <;> simpa [SqH] using m2
  yld:=fun i x H v H' hx e y Gc e1 e2 => by
    obtain ⟨x1,x2,k1,k2,rfl⟩:=zipD_get hx
    obtain ⟨p,v1,v2,rfl,hp,rfl,y1,y2⟩:=y
    have m1:=e _ _ h1
    have m2:=e _ _ h2
    have z1:=y1 us (by cases b1 <;> simpa [SqH] using m1)
    have z2:=y2 vs (by cases b2 <;> simpa [SqH] using m2)
    obtain ⟨w1,n1,n2⟩:=d1.back z1
    obtain ⟨w2,n3,n4⟩:=d2.back z2
    rw [k1] at n1; cases n1
    rw [k2] at n3; cases n3
    exact pair_new e2 hp (n2.same e1) (n4.same e1)
def DI (X : Cx) (tg iter : Expr) (f : Dv→Option (List PyData)) : Prop:=∃ wi,PI X tg iter wi∧∀ δ xs,f δ = some xs→∀ G0 H0 G H σ ts (R : It→Hp→Prop),Rw G0 H0 G H σ δ ts→(∀ J G' H',Rw G0 H0 G' H' σ δ ts→ItOk J xs G'→R J H')→wi σ H R
section
variable {X : Cx} {tg a b e : Expr}  {f h : Dv→Option PyData} {fs : Dv→Option (List PyData)}  {pos p : Pos}   
theorem PI.or {wi wi' : TI} (h : PI X tg e wi) (h' : PI X tg e wi') : PI X tg e (fun σ H R => wi σ H R∨wi' σ H R):=fun pins s σ H R I q => by
  rcases q with q | q
  · exact h pins s σ H R I q
  · exact h' pins s σ H R I q
def seqOf : PyData→Option (List PyData)
  | .list xs => some xs
  | .tuple xs => some xs
  | _ => none
theorem di_seq (he : DE X e f) : DI X tg e (fun δ => (f δ).bind seqOf) := by
  obtain ⟨t,p,k⟩:=he
  refine ⟨_,(pi_list p).or (pi_tup p),fun δ xs h G0 H0 G H σ ts R R0 q => ?_⟩
  obtain ⟨x,h1,h2⟩:=Option.bind_eq_some_iff.mp h
  unfold seqOf at h2
  split at h2
  · cases h2
    left
    refine k δ _ h1 G0 H0 G H σ ts _ R0 fun v G' H' R' => ?_
    have du:=R'.tmp _ (.head _)
    rw [Du] at du
    obtain ⟨a,ys,rfl,n1,n2⟩:=du
    exact ⟨a,rfl,⟨ys,SqL.of (R'.ins _ _ n1)⟩,q _ _ _ R'.drop (it_list n1 n2)⟩
  · cases h2
    right
    refine k δ _ h1 G0 H0 G H σ ts _ R0 fun v G' H' R' => ?_
    have du:=R'.tmp _ (.head _)
    rw [Du] at du
    obtain ⟨a,ys,rfl,n1,n2⟩:=du
    exact ⟨a,rfl,⟨ys,SqT.of (R'.ins _ _ n1)⟩,q _ _ _ R'.drop (it_tup n1 n2)⟩
  · cases h2
def rng1 : List PyData→Option (List PyData)
  | [.int j] => if -1000000≤j∧j≤1000000 then some (rngD 0 j.toNat) else none
  | _ => none
theorem di_range1 (hg : Gl X "range") (hm : X.mg "range" = none) (ha : DA X [a] fs) (hs : starEach [a] X.env = [(false,eval a X.env)] := by rfl) : DI X tg (.Call (.Name "range" p) [a] [] pos) (fun δ => (fs δ).bind rng1) := by
  obtain ⟨t,p,k⟩:=ha
  refine ⟨_,pi_range1 hg hm p hs,fun δ xs h G0 H0 G H σ ts R R0 q => ?_⟩
  obtain ⟨x,h1,h2⟩:=Option.bind_eq_some_iff.mp h
  refine k δ _ h1 G0 H0 G H σ ts _ R0 fun vs G' H' R' hv => ?_
  obtain ⟨d,R2⟩:=R'.args hv
  unfold rng1 at h2
  split at h2
  · split at h2
    · cases h2
      obtain ⟨u,rfl,du⟩:=d.un1
      rw [Du] at du; subst du
      exact ⟨_,rfl,by lia,by lia,q _ _ _ R2 it_rng⟩
    · cases h2
  · cases h2
def zip2 : List PyData→Option (List PyData)
  | [x,y] => (seqOf x).bind fun xs => (seqOf y).map fun ys => zipD xs ys
  | _ => none
theorem seq_at {G : Hp} {x : PyData} {v : V} {xs : List PyData} (h : Du G x v) (e : seqOf x = some xs) : ∃ (b : Bool) (a : Addr) (ys : List V),v = .ref a∧G a = some (if b then .tup ys else .lst ys)∧DuA G xs ys := by
  unfold seqOf at e
  split at e
  · cases e
    rw [Du] at h
    obtain ⟨a,ys,rfl,n1,n2⟩:=h
    exact ⟨false,a,ys,rfl,n1,n2⟩
  · cases e
    rw [Du] at h
    obtain ⟨a,ys,rfl,n1,n2⟩:=h
    exact ⟨true,a,ys,rfl,n1,n2⟩
  · cases e
theorem di_zip {elts : List Expr} {x1} {tpos : Pos} (hg : Gl X "zip") (hm : X.mg "zip" = none) (ha : DA X [a,b] fs) (hs : starEach [a,b] X.env = [(false,eval a X.env),(false,eval b X.env)] := by rfl) (hs2 : starEach [b] X.env = [(false,eval b X.env)] := by rfl) :
    DI X (.Tuple elts x1 tpos) (.Call (.Name "zip" p) [a,b] [] pos) (fun δ => (fs δ).bind zip2) := by
  obtain ⟨t,p,k⟩:=ha
  refine ⟨_,pi_zip hg hm p hs hs2,fun δ xs h G0 H0 G H σ ts R R0 q => ?_⟩
  obtain ⟨x,h1,h2⟩:=Option.bind_eq_some_iff.mp h
  refine k δ _ h1 G0 H0 G H σ ts _ R0 fun vs G' H' R' hv => ?_
  obtain ⟨d,R2⟩:=R'.args hv
  unfold zip2 at h2
  split at h2
  · obtain ⟨xs1,h3,h4⟩:=Option.bind_eq_some_iff.mp h2
    obtain ⟨ys1,h5,rfl⟩:=Option.map_eq_some_iff.mp h4
    obtain ⟨u,v,rfl,du,dv⟩:=d.un2
    obtain ⟨b1,a1,us,rfl,n1,n2⟩:=seq_at du h3
    obtain ⟨b2,a2,ws,rfl,m1,m2⟩:=seq_at dv h5
    have s1:=R2.ins _ _ n1
    have s2:=R2.ins _ _ m1
    exact ⟨b1,b2,a1,a2,rfl,⟨us,by cases b1 <;> simpa [SqH] using s1⟩,⟨ws,by cases b2 <;> simpa [SqH] using s2⟩,q _ _ _ R2 (it_zip n1 m1 n2 m2)⟩
  · cases h2
def set2 (i j : Nat) (y : PyData) (δ : Dv) : Option Dv:=match y with
  | .tuple [u,v] => some ((δ.set i (.d u)).set j (.d v))
  | _ => none
end
def tD (f : Dv→Option PyData) : TE:=fun σ H Q => ∃ δ x G0 H0 G ts,f δ = some x∧Rw G0 H0 G H σ δ ts∧∀ v G' H',Rw G0 H0 G' H' σ δ ((x,v) :: ts)→Q v H'
def tDT (f : Dv→Option Bool) : TT:=fun σ H Q => ∃ δ x G0 H0 G ts,f δ = some x∧Rw G0 H0 G H σ δ ts∧∀ G' H',Rw G0 H0 G' H' σ δ ts→Q x H'
theorem DE.pe {X : Cx} {e : Expr} {f : Dv→Option PyData} (h : DE X e f) : PE X e (tD f) := by
  obtain ⟨t,p,k⟩:=h
  intro pins s σ H Q I q
  obtain ⟨δ,x,G0,H0,G,ts,h1,h2,h3⟩:=q
  exact p pins s σ H Q I (k δ x h1 G0 H0 G H σ ts Q h2 h3)
def DIf (X : Cx) (ifs : List Expr) (f : Dv→Option Bool) : Prop:=PIf X ifs (tDT f)
theorem dif_nil {X : Cx} : DIf X [] (fun _ => some true) := by
  intro pins s σ H Q I q
  obtain ⟨δ,x,G0,H0,G,ts,h1,h2,h3⟩:=q
  cases h1
  exact pif_nil pins s σ H Q I (h3 _ _ h2)
def carryD (fr : List (Option Nat)) (δ : Dv) : Dv:=fr.map fun o => match o with
  | some j => (match δ[j]? with | some (.d x) => .d x | _ => .no)
  | none => .no
theorem Rw.inner {G0 H0 G H : Hp} {σ : St} {δ : Dv} {ts : List (PyData×V)} (fr : List (Option Nat)) (r : Rw G0 H0 G H σ δ ts) : Rw G H G H (carry fr σ) (carryD fr δ) ts := by
  have key : ∀ (i : Nat) (l : L),(carryD fr δ)[i]? = some l→∃ o,fr[i]? = some o∧l = (match o with | some j => (match δ[j]? with | some (.d x) => .d x | _ => .no) | none => .no):=fun i l h => by
    unfold carryD at h
    rw [List.getElem?_map] at h
    obtain ⟨o,h1,rfl⟩:=Option.map_eq_some_iff.mp h
    exact ⟨o,h1,rfl⟩
  have noown : ∀ (i : Nat) (xs : Oc),(carryD fr δ)[i]?≠some (L.own xs):=fun i xs h => by
    obtain ⟨o,_,h2⟩:=key i _ h
    split at h2
    · split at h2 <;> cases h2
    · cases h2
  refine ⟨Same.refl _,Nw.refl,r.ins,Same.refl _,by simp [carry,carryD],fun i x h => ?_,fun i xs h => absurd h (noown i xs),fun i j xs ys _ h => absurd h (noown i xs),r.tmp⟩
  obtain ⟨o,h1,h2⟩:=key i _ h
  split at h2
  · rename_i j
    split at h2
    · rename_i y hy
      cases h2
      obtain ⟨v,k1,k2⟩:=r.dat j _ hy
      refine ⟨v,?_,k2⟩
      unfold carry
      rw [List.getElem?_map,h1]
      simp [k1]
    · cases h2
  · cases h2
theorem Rw.other {G0 H0 G H : Hp} {σ : St} {δ : Dv} {ts : List (PyData×V)} {D : Addr} {o : HO} (r : Rw G0 H0 G H σ δ ts) (hG : G D = none) (h0 : H0 D = none) (ho : ∀ (i : Nat) (xs : Oc),δ[i]? = some (L.own xs)→σ[i]?≠some (some (V.ref D))) : Rw G0 H0 G (upd H D o) σ δ ts := by
  refine ⟨r.ext,r.new,fun a u h => ?_,fun a u h => ?_,r.len,r.dat,fun i xs h => ?_,r.apart,r.tmp⟩
  · rw [upd_ne (fun z => by subst z; rw [hG] at h; cases h)]; exact r.ins _ _ h
  · rw [upd_ne (fun z => by subst z; rw [h0] at h; cases h)]; exact r.keep _ _ h
  · obtain ⟨a,ys,k1,k2,k3,k4,k5⟩:=r.own i xs h
    exact ⟨a,ys,k1,k2,k3,by rw [upd_ne (fun z => by subst z; exact ho i xs h k1)]; exact k4,k5⟩
theorem Rw.adopt {G0 H0 G H : Hp} {σ : St} {δ : Dv} {ts : List (PyData×V)} {D : Addr} {ys : List V} (r : Rw G0 H0 G H σ δ ts) (hD : H D = some (.lst ys)) (hG : G D = none) (h0 : H0 D = none) (ho : ∀ (i : Nat) (xs : Oc),δ[i]? = some (L.own xs)→σ[i]?≠some (some (V.ref D))) : Rw G0 H0 (upd G D (.lst ys)) H σ δ ts := by
  have e : Same G (upd G D (.lst ys)):=same_new hG _
  refine ⟨r.ext.trans e,fun a u h => ?_,fun a u h => ?_,r.keep,r.len,fun i x h => ?_,fun i xs h => ?_,r.apart,fun q hq => (r.tmp q hq).same e⟩
  · by_cases ha : a = D
    · subst ha; exact .inr (.inl h0)
    · rw [upd_ne ha] at h; exact r.new _ _ h
  · by_cases ha : a = D
    · subst ha; rw [upd_same] at h; rw [hD]; exact h
    · rw [upd_ne ha] at h; exact r.ins _ _ h
  · obtain ⟨v,k1,k2⟩:=r.dat i x h
    exact ⟨v,k1,k2.same e⟩
  · obtain ⟨a,zs,k1,k2,k3,k4,k5⟩:=r.own i xs h
    have ha : a≠D:=fun z => by subst z; exact ho i xs h k1
    exact ⟨a,zs,k1,by rw [upd_ne ha]; exact k2,k3,k4,k5.same e⟩
def oneD (set : PyData→Dv→Option Dv) (tif : Dv→Option Bool) (f : Dv→Option PyData) (δ : Dv) (x : PyData) : Option (Option PyData) :=
  (set x δ).bind fun δ1 => (tif δ1).bind fun b => if b = true then (f δ1).map some else some none
def collect (one : PyData→Option (Option PyData)) : List PyData→Option (List PyData)
  | [] => some []
  | x :: xs => (one x).bind fun o => (collect one xs).map fun r => o.toList ++ r
def compL (set : PyData→Dv→Option Dv) (tif : Dv→Option Bool) (f : Dv→Option PyData) (fr : List (Option Nat)) (fs : Dv→Option (List PyData)) (δ : Dv) : Option (List PyData) :=
  (fs δ).bind fun xs => (collect (oneD set tif f (carryD fr δ)) xs).bind few
def compD (set : PyData→Dv→Option Dv) (tif : Dv→Option Bool) (f : Dv→Option PyData) (fr : List (Option Nat)) (fs : Dv→Option (List PyData)) (δ : Dv) : Option PyData :=
  (compL set tif f fr fs δ).map .list
structure CompInv (G0 H0 Ga : Hp) (σ : St) (δ : Dv) (ts : List (PyData×V)) (one : PyData→Option (Option PyData)) (xs full : List PyData) (D : Addr) (i : Nat) (ys : List V) (H : Hp) : Prop where
  ex : ∃ G done rest,Rw G0 H0 G H σ δ ts∧Same Ga G∧G D = none∧collect one (xs.drop i) = some rest∧done ++ rest = full∧DuA G done ys
  h0 : H0 D = none
  ap : ∀ (j : Nat) (us : Oc),δ[j]? = some (L.own us)→σ[j]?≠some (some (V.ref D))
theorem notD {G0 H0 G H : Hp} {D : Addr} {ys : List V} (hG : G0 D = none) (hD : H0 D = some (.lst ys)) (n : Nw G0 H0 G) (e : Same G H) (k : Same H0 H) : G D = none := by
  cases q : G D with
  | none => rfl
  | some o =>
    rcases n _ _ q with z | z | ⟨us,z⟩
    · rw [hG] at z; cases z
    · rw [hD] at z; cases z
    · have:=e _ _ q
      rw [k _ _ hD,z] at this; cases this
section
variable {X : Cx} {elt iter : Expr} {x y : Str} {px pos : Pos}  {ifs : List Expr} {scope : Scope} {fs : Dv→Option (List PyData)} {tif : Dv→Option Bool} {f : Dv→Option PyData}
def set1 (i : Nat) (y : PyData) (δ : Dv) : Option Dv:=some (δ.set i (.d y))
theorem comp_readN {wi : TI} {ix : Nat} {fr : List (Option Nat)} (ki : ∀ (δ : Dv) (xs : List PyData),fs δ = some xs→∀ (G0 H0 G H : Hp) (σ : St) (ts : List (PyData×V)) (R : It→Hp→Prop),Rw G0 H0 G H σ δ ts→(∀ J G' H',Rw G0 H0 G' H' σ δ ts→ItOk J xs G'→R J H')→wi σ H R) {δ : Dv} {zs : List PyData} (hz : compL (set1 ix) tif f fr fs δ = some zs) {G0 H0 G H : Hp} {σ : St} {ts : List (PyData×V)} {Q : VK} (R0 : Rw G0 H0 G H σ δ ts) (k : ∀ D ys G' H',Rw G0 H0 G' H' σ δ ts→H' D = some (.lst ys)→G' D = none→H0 D = none→(∀ (j : Nat) (us : Oc),δ[j]? = some (L.own us)→σ[j]?≠some (some (V.ref D)))→DuA G' zs ys→Q (.ref D) H') :
    tComp wi fr ix (tDT tif) (tD f) σ H Q := by
  unfold compL at hz
  obtain ⟨xs,m2,m3⟩:=Option.bind_eq_some_iff.mp hz
  obtain ⟨full,m4,m5⟩:=Option.bind_eq_some_iff.mp m3
  obtain ⟨rfl,hfew⟩:=few_eq m5
  refine ki δ xs m2 G0 H0 G H σ ts _ R0 fun J Ga Ha Ra it D hD => ?_
  have hGD : Ga D = none := by
    cases q : Ga D with
    | none => rfl
    | some u => rw [Ra.ins _ _ q] at hD; cases hD
  have hHD : H0 D = none := by
    cases q : H0 D with
    | none => rfl
    | some u => rw [Ra.keep _ _ q] at hD; cases hD
  have hap : ∀ (j : Nat) (us : Oc),δ[j]? = some (L.own us)→σ[j]?≠some (some (V.ref D)):=fun j us h z => by
    obtain ⟨a,ys,k1,k2,k3,k4,k5⟩:=Ra.own j us h
    rw [z] at k1; cases k1
    rw [k4] at hD; cases hD
  refine comp_by (n:=xs.length) (CompInv G0 H0 Ga σ δ ts (oneD (set1 ix) tif f (carryD fr δ)) xs full D) ⟨⟨Ga,[],full,Ra.other hGD hHD hap,Same.refl _,hGD,by simpa using m4,rfl,.nil⟩,hHD,hap⟩ ?_ ?_
  · rintro i ys H1 hlt ⟨⟨G1,done,rest,R1,s1,g1,c1,e1,d1⟩,_,_⟩ hD1
    have hx : xs[i]? = some xs[i] := by simp [hlt]
    have sH:=s1.trans R1.ins
    have hyl : ys.length < sizeLine:=dMax_lt (by
      rw [d1.len]
      have : done.length≤full.length := by rw [← e1]; simp
      lia)
    refine ⟨it.go i _ H1 hx sH,hyl,fun v H' y => ?_⟩
    obtain ⟨G2,n1,n2,n3,n4,n5⟩:=it.yld i _ H1 v H' hx sH y G1 s1 R1.ins
    have R2:=R1.lift n1 n2 n3 n4
    have hD2:=n4 _ _ hD1
    have g2 : G2 D = none:=notD g1 hD1 n2 n3 n4
    rw [List.drop_eq_getElem_cons hlt] at c1
    unfold collect at c1
    obtain ⟨o,c2,c3⟩:=Option.bind_eq_some_iff.mp c1
    obtain ⟨rest',c4,rfl⟩:=Option.map_eq_some_iff.mp c3
    unfold oneD set1 at c2
    simp only [Option.bind_some] at c2
    obtain ⟨b,c5,c6⟩:=Option.bind_eq_some_iff.mp c2
    have Ri:=((R2.inner fr).put n5).setD (i:=ix)
    have Ri0 : Rw G2 H' G2 H' ((carry fr σ).set ix (some v)) ((carryD fr δ).set ix (.d xs[i])) []:=Ri.less fun q hq => by cases hq
    refine ⟨_,b,G2,H',G2,[],c5,Ri0,fun G3 H3 R3 => ?_⟩
    have R3o:=R2.lift R3.ext R3.new R3.ins R3.keep
    have hD3:=R3.keep _ _ hD2
    have g3 : G3 D = none:=notD g2 hD2 R3.new R3.ins R3.keep
    dsimp only
    split
    · rename_i hb
      rw [if_pos hb] at c6
      obtain ⟨w,c7,rfl⟩:=Option.map_eq_some_iff.mp c6
      refine ⟨_,w,G2,H',G3,[],c7,R3,fun u G4 H4 R4 => ?_⟩
      have R4o:=R2.lift R4.ext R4.new R4.ins R4.keep
      have hD4:=R4.keep _ _ hD2
      have g4 : G4 D = none:=notD g2 hD2 R4.new R4.ins R4.keep
      refine ⟨hD4,cw_next hlt ⟨⟨G4,done ++ [w],rest',R4o.other g4 hHD hap,s1.trans (n1.trans R4.ext),g4,c4,by simpa using e1,(d1.same (n1.trans R4.ext)).app (.cons (R4.tmp _ (.head _)) .nil)⟩,hHD,hap⟩⟩
    · rename_i hb
      rw [if_neg hb] at c6
      cases c6
      exact cw_skip hlt hD3 ⟨⟨G3,done,rest',R3o,s1.trans (n1.trans R3.ext),g3,c4,by simpa using e1,d1.same (n1.trans R3.ext)⟩,hHD,hap⟩
  · rintro ys H1 ⟨⟨G1,done,rest,R1,s1,g1,c1,e1,d1⟩,_,_⟩ hD1
    refine ⟨it.stop H1 (s1.trans R1.ins),?_⟩
    rw [List.drop_length] at c1
    cases c1
    rw [List.append_nil] at e1
    subst e1
    exact k _ _ _ _ R1 hD1 g1 hHD hap d1
theorem comp_read {wi : TI} {ix : Nat} {fr : List (Option Nat)} (ki : ∀ (δ : Dv) (xs : List PyData),fs δ = some xs→∀ (G0 H0 G H : Hp) (σ : St) (ts : List (PyData×V)) (R : It→Hp→Prop),Rw G0 H0 G H σ δ ts→(∀ J G' H',Rw G0 H0 G' H' σ δ ts→ItOk J xs G'→R J H')→wi σ H R) {δ : Dv} {z : PyData} (hz : compD (set1 ix) tif f fr fs δ = some z) {G0 H0 G H : Hp} {σ : St} {ts : List (PyData×V)} {Q : VK} (R0 : Rw G0 H0 G H σ δ ts) (k : ∀ v G' H',Rw G0 H0 G' H' σ δ ((z,v) :: ts)→Q v H') :
    tComp wi fr ix (tDT tif) (tD f) σ H Q := by
  unfold compD at hz
  obtain ⟨full,m1,rfl⟩:=Option.map_eq_some_iff.mp hz
  refine comp_readN ki m1 R0 fun D ys G1 H1 R1 hD1 g1 hHD hap d1 => ?_
  have e : Same G1 (upd G1 D (.lst ys)):=same_new g1 _
  have R2:=R1.adopt hD1 g1 hHD hap
  refine k _ _ _ (R2.put ?_)
  rw [Du]
  exact ⟨D,ys,rfl,upd_same,d1.same e⟩
theorem de_comp (N : List Str) (ix : Nat) (fr : List (Option Nat)) (hi : DI X (.Name x px) iter fs) (hif : ∀ cl C s₀ H₀ fp,DIf (cxComp X scope cl N C s₀ H₀ fp) ifs tif) (he : ∀ cl C s₀ H₀ fp,DE (cxComp X scope cl N C s₀ H₀ fp) elt f)
    (h1 : compScopeOk scope N x ix = true := by decide +kernel) (h2 : X.calm = true := by rfl) (h3 : frOk N X.N scope X.env.scope fr 0 = true := by rfl) (h4 : fr.length = N.length := by rfl) (h5 : freeOk X.env.scope scope.names = true := by rfl)
    (hs : ∀ x,foldedSetIterable iter X.env x = pure x := by intro _; rfl) : DE X (.ListComp elt [⟨.Name x px,iter,ifs,0⟩] scope pos) (compD (set1 ix) tif f fr fs) := by
  obtain ⟨wi,pi,ki⟩:=hi
  exact ⟨_,pe_compr N ix fr pi hif (fun cl C s₀ H₀ fp => (he cl C s₀ H₀ fp).pe) h1 h2 h3 h4 h5 hs,fun δ z hz G0 H0 G H σ ts Q R0 k => comp_read ki hz R0 k⟩
end
section
variable {X : Cx} {elt iter : Expr} {x y : Str} {px py tp pos : Pos} {tk : Nat} {ifs : List Expr} {scope : Scope} {fs : Dv→Option (List PyData)} {tif : Dv→Option Bool} {f : Dv→Option PyData}
theorem comp_read2N {wi : TI} {ix iy : Nat} {fr : List (Option Nat)} (ki : ∀ (δ : Dv) (xs : List PyData),fs δ = some xs→∀ (G0 H0 G H : Hp) (σ : St) (ts : List (PyData×V)) (R : It→Hp→Prop),Rw G0 H0 G H σ δ ts→(∀ J G' H',Rw G0 H0 G' H' σ δ ts→ItOk J xs G'→R J H')→wi σ H R) {δ : Dv} {zs : List PyData} (hz : compL (set2 ix iy) tif f fr fs δ = some zs) {G0 H0 G H : Hp} {σ : St} {ts : List (PyData×V)} {Q : VK} (R0 : Rw G0 H0 G H σ δ ts) (k : ∀ D ys G' H',Rw G0 H0 G' H' σ δ ts→H' D = some (.lst ys)→G' D = none→H0 D = none→(∀ (j : Nat) (us : Oc),δ[j]? = some (L.own us)→σ[j]?≠some (some (V.ref D)))→DuA G' zs ys→Q (.ref D) H') :
    tComp2 X.K wi fr ix iy (tDT tif) (tD f) σ H Q := by
  unfold compL at hz
  obtain ⟨xs,m2,m3⟩:=Option.bind_eq_some_iff.mp hz
  obtain ⟨full,m4,m5⟩:=Option.bind_eq_some_iff.mp m3
  obtain ⟨rfl,hfew⟩:=few_eq m5
  refine ki δ xs m2 G0 H0 G H σ ts _ R0 fun J Ga Ha Ra it D hD => ?_
  have hGD : Ga D = none := by
    cases q : Ga D with
    | none => rfl
    | some u => rw [Ra.ins _ _ q] at hD; cases hD
  have hHD : H0 D = none := by
    cases q : H0 D with
    | none => rfl
    | some u => rw [Ra.keep _ _ q] at hD; cases hD
  have hap : ∀ (j : Nat) (us : Oc),δ[j]? = some (L.own us)→σ[j]?≠some (some (V.ref D)):=fun j us h z => by
    obtain ⟨a,ys,k1,k2,k3,k4,k5⟩:=Ra.own j us h
    rw [z] at k1; cases k1
    rw [k4] at hD; cases hD
  refine comp_by2 (n:=xs.length) (CompInv G0 H0 Ga σ δ ts (oneD (set2 ix iy) tif f (carryD fr δ)) xs full D) ⟨⟨Ga,[],full,Ra.other hGD hHD hap,Same.refl _,hGD,by simpa using m4,rfl,.nil⟩,hHD,hap⟩ ?_ ?_
  · rintro i ys H1 hlt ⟨⟨G1,done,rest,R1,s1,g1,c1,e1,d1⟩,_,_⟩ hD1
    have hx : xs[i]? = some xs[i] := by simp [hlt]
    have sH:=s1.trans R1.ins
    have hyl : ys.length < sizeLine:=dMax_lt (by
      rw [d1.len]
      have : done.length≤full.length := by rw [← e1]; simp
      lia)
    refine ⟨it.go i _ H1 hx sH,hyl,fun v H' y => ?_⟩
    obtain ⟨G2,n1,n2,n3,n4,n5⟩:=it.yld i _ H1 v H' hx sH y G1 s1 R1.ins
    have R2:=R1.lift n1 n2 n3 n4
    have hD2:=n4 _ _ hD1
    have g2 : G2 D = none:=notD g1 hD1 n2 n3 n4
    rw [List.drop_eq_getElem_cons hlt] at c1
    unfold collect at c1
    obtain ⟨o,c2,c3⟩:=Option.bind_eq_some_iff.mp c1
    obtain ⟨rest',c4,rfl⟩:=Option.map_eq_some_iff.mp c3
    unfold oneD at c2
    obtain ⟨δ1,c8,c9⟩:=Option.bind_eq_some_iff.mp c2
    obtain ⟨b,c5,c6⟩:=Option.bind_eq_some_iff.mp c9
    unfold set2 at c8
    split at c8
    · rename_i u1 u2 hu
      cases c8
      rw [hu,Du] at n5
      obtain ⟨pa,ps,rfl,q1,q2⟩:=n5
      obtain ⟨w1,w2,rfl,q3,q4⟩:=q2.un2
      have Ri:=(((R2.inner fr).put q4).put q3).setD (i:=ix) |>.setD (i:=iy)
      have Ri0 : Rw G2 H' G2 H' (((carry fr σ).set ix (some w1)).set iy (some w2)) (((carryD fr δ).set ix (.d u1)).set iy (.d u2)) []:=Ri.less fun q hq => by cases hq
      refine ⟨pa,w1,w2,rfl,SqT.of (n3 _ _ q1),?_⟩
      refine ⟨_,b,G2,H',G2,[],c5,Ri0,fun G3 H3 R3 => ?_⟩
      have R3o:=R2.lift R3.ext R3.new R3.ins R3.keep
      have hD3:=R3.keep _ _ hD2
      have g3 : G3 D = none:=notD g2 hD2 R3.new R3.ins R3.keep
      dsimp only
      split
      · rename_i hb
        rw [if_pos hb] at c6
        obtain ⟨w,c7,rfl⟩:=Option.map_eq_some_iff.mp c6
        refine ⟨_,w,G2,H',G3,[],c7,R3,fun u G4 H4 R4 => ?_⟩
        have R4o:=R2.lift R4.ext R4.new R4.ins R4.keep
        have hD4:=R4.keep _ _ hD2
        have g4 : G4 D = none:=notD g2 hD2 R4.new R4.ins R4.keep
        refine ⟨hD4,cw_next hlt ⟨⟨G4,done ++ [w],rest',R4o.other g4 hHD hap,s1.trans (n1.trans R4.ext),g4,c4,by simpa using e1,(d1.same (n1.trans R4.ext)).app (.cons (R4.tmp _ (.head _)) .nil)⟩,hHD,hap⟩⟩
      · rename_i hb
        rw [if_neg hb] at c6
        cases c6
        exact cw_skip hlt hD3 ⟨⟨G3,done,rest',R3o,s1.trans (n1.trans R3.ext),g3,c4,by simpa using e1,d1.same (n1.trans R3.ext)⟩,hHD,hap⟩
    · cases c8
  · rintro ys H1 ⟨⟨G1,done,rest,R1,s1,g1,c1,e1,d1⟩,_,_⟩ hD1
    refine ⟨it.stop H1 (s1.trans R1.ins),?_⟩
    rw [List.drop_length] at c1
    cases c1
    rw [List.append_nil] at e1
    subst e1
    exact k _ _ _ _ R1 hD1 g1 hHD hap d1
theorem comp_read2 {wi : TI} {ix iy : Nat} {fr : List (Option Nat)} (ki : ∀ (δ : Dv) (xs : List PyData),fs δ = some xs→∀ (G0 H0 G H : Hp) (σ : St) (ts : List (PyData×V)) (R : It→Hp→Prop),Rw G0 H0 G H σ δ ts→(∀ J G' H',Rw G0 H0 G' H' σ δ ts→ItOk J xs G'→R J H')→wi σ H R) {δ : Dv} {z : PyData} (hz : compD (set2 ix iy) tif f fr fs δ = some z) {G0 H0 G H : Hp} {σ : St} {ts : List (PyData×V)} {Q : VK} (R0 : Rw G0 H0 G H σ δ ts) (k : ∀ v G' H',Rw G0 H0 G' H' σ δ ((z,v) :: ts)→Q v H') :
    tComp2 X.K wi fr ix iy (tDT tif) (tD f) σ H Q := by
  unfold compD at hz
  obtain ⟨full,m1,rfl⟩:=Option.map_eq_some_iff.mp hz
  refine comp_read2N ki m1 R0 fun D ys G1 H1 R1 hD1 g1 hHD hap d1 => ?_
  have e : Same G1 (upd G1 D (.lst ys)):=same_new g1 _
  have R2:=R1.adopt hD1 g1 hHD hap
  refine k _ _ _ (R2.put ?_)
  rw [Du]
  exact ⟨D,ys,rfl,upd_same,d1.same e⟩
theorem de_comp2 (N : List Str) (ix iy : Nat) (fr : List (Option Nat)) (hi : DI X (.Tuple [.Name x px,.Name y py] tk tp) iter fs) (hif : ∀ cl C s₀ H₀ fp,DIf (cxComp X scope cl N C s₀ H₀ fp) ifs tif) (he : ∀ cl C s₀ H₀ fp,DE (cxComp X scope cl N C s₀ H₀ fp) elt f)
    (h1 : compScopeOk scope N x ix = true := by decide +kernel) (h1' : compScopeOk scope N y iy = true := by decide +kernel) (hxy : ix≠iy := by decide) (h2 : X.calm = true := by rfl) (h3 : frOk N X.N scope X.env.scope fr 0 = true := by rfl) (h4 : fr.length = N.length := by rfl) (h5 : freeOk X.env.scope scope.names = true := by rfl)
    (hs : ∀ x,foldedSetIterable iter X.env x = pure x := by intro _; rfl) : DE X (.ListComp elt [⟨.Tuple [.Name x px,.Name y py] tk tp,iter,ifs,0⟩] scope pos) (compD (set2 ix iy) tif f fr fs) := by
  obtain ⟨wi,pi,ki⟩:=hi
  exact ⟨_,pe_compr2 N ix iy fr pi hif (fun cl C s₀ H₀ fp => (he cl C s₀ H₀ fp).pe) h1 h1' hxy h2 h3 h4 h5 hs,fun δ z hz G0 H0 G H σ ts Q R0 k => comp_read2 ki hz R0 k⟩
def iniD (N : List Str) (ds : List PyData) : Dv:=ds.map .d ++ List.replicate (N.length - ds.length) .no
def retD (ps N : List Str) (F : DF) (ds : List PyData) : Option PyData:=if ds.length = ps.length then (match F (iniD N ds) with
  | some (.rt x) => some x
  | some (.nx _) => some .none
  | some (.rn xs) => some (.list xs)
  | _ => none) else none
theorem Rw.start {N : List Str} {ds : List PyData} {vs : List V} {G H : Hp} (d : DuA G ds vs) (e : Same G H) : Rw G H G H (start N vs) (iniD N ds) [] := by
  have hl:=d.len
  refine ⟨Same.refl _,Nw.refl,e,Same.refl _,by simp [L2.start,iniD,hl],fun i x h => ?_,fun i xs h => ?_,fun i j xs ys _ h => ?_,fun q hq => by cases hq⟩
  · unfold iniD at h
    by_cases hi : i < ds.length
    · rw [List.getElem?_append_left (by simpa using hi),List.getElem?_map] at h
      obtain ⟨y,h1,h2⟩:=Option.map_eq_some_iff.mp h
      cases h2
      obtain ⟨v,h3,h4⟩:=d.get h1
      refine ⟨v,?_,h4⟩
      unfold L2.start
      rw [List.getElem?_append_left (by simp; lia),List.getElem?_map,h3]; rfl
    · rw [List.getElem?_append_right (by simpa using hi),List.getElem?_replicate] at h
      split at h <;> cases h
  · unfold iniD at h
    by_cases hi : i < ds.length
    · rw [List.getElem?_append_left (by simpa using hi),List.getElem?_map] at h
      obtain ⟨y,h1,h2⟩:=Option.map_eq_some_iff.mp h
      cases h2
    · rw [List.getElem?_append_right (by simpa using hi),List.getElem?_replicate] at h
      split at h <;> cases h
  · unfold iniD at h
    by_cases hi : i < ds.length
    · rw [List.getElem?_append_left (by simpa using hi),List.getElem?_map] at h
      obtain ⟨y,h1,h2⟩:=Option.map_eq_some_iff.mp h
      cases h2
    · rw [List.getElem?_append_right (by simpa using hi),List.getElem?_replicate] at h
      split at h <;> cases h
theorem keepL {G H G' H' : Hp} {a : Addr} {ys : List V} {xs : List PyData} (m1 : Same G G') (m2 : Nw G H G') (m3 : Same G' H') (m5 : H a = none) (m6 : G' a = none) (m7 : H' a = some (.lst ys)) (m8 : DuA G' xs ys) :
    Same G (upd G' a (.lst ys))∧Nw G H (upd G' a (.lst ys))∧Same (upd G' a (.lst ys)) H'∧Du (upd G' a (.lst ys)) (.list xs) (.ref a) := by
  refine ⟨m1.trans (same_new m6 _),fun b o hb => ?_,fun b o hb => ?_,?_⟩
  · by_cases z : b = a
    · subst z; exact .inr (.inl m5)
    · rw [upd_ne z] at hb; exact m2 _ _ hb
  · by_cases z : b = a
    · subst z; rw [upd_same] at hb; rw [m7]; exact hb
    · rw [upd_ne z] at hb; exact m3 _ _ hb
  · rw [Du]; exact ⟨a,ys,rfl,upd_same,m8.same (same_new m6 _)⟩
theorem okD {P : Program} {w : World} {K : PySem.W.Frag} {mg : Str→Option Value} {base : Heap} {x : Str} {st : Stmt} {fA : Addr} {fd : FuncData} {N ps : List Str} {k : Nat} {F : DF} (T : Fn K mg x st ps fA fd) (S : FnScope N ps (defScope st))
    (hb : ∀ (cdv : Value) (A : Around) (outer : List Env) (s : Shared) (H : Hp) (E : XK),Room k (A.deeper (envOfC x (defScope st) s.heap.objs.size fA cdv))→DSs (cxOf CX0 P w K mg base N x (defScope st) fA cdv A outer s H E).nox (defBody st) F) :
    FnOk P w K mg base CX0 (k + 1) fA fd ps (spD (retD ps N F)) := by
  refine T.F.ok S (fun vs H Q E h => ?_) fun cdv A outer s H vs Q E hr h => ?_
  · obtain ⟨ds,y,G,h1,h2,_⟩:=h
    unfold retD at h1
    split at h1
    · rename_i hl; rw [h2.len]; exact hl
    · cases h1
  · obtain ⟨ds,y,G,h1,h2,h3,h4⟩:=h
    obtain ⟨t,p,kk⟩:=hb cdv A outer s H E hr
    refine ⟨t,p,?_⟩
    unfold retD at h1
    split at h1
    · split at h1
      · rename_i z e1
        cases h1
        exact kk _ _ e1 G H G H _ _ (Rw.start h2 h3) fun v G' H' m1 m2 m3 m4 m5 => h4 v G' H' m1 m2 m3 m4 m5
      · rename_i δ e1
        cases h1
        exact kk _ _ e1 G H G H _ _ (Rw.start h2 h3) fun σ' G' H' R => h4 .non G' H' R.ext R.new R.ins R.keep (by rw [Du])
      · rename_i xs e1
        cases h1
        exact kk _ _ e1 G H G H _ _ (Rw.start h2 h3) fun a ys G' H' m1 m2 m3 m4 m5 m6 m7 m8 => let ⟨n1,n2,n3,n4⟩:=keepL m1 m2 m3 m5 m6 m7 m8; h4 _ _ H' n1 n2 n3 m4 n4
      · cases h1
    · cases h1
end
open PySem
abbrev fC (x : PyData) : Dv→Option PyData:=fun _ => some x
abbrev fNot (f : Dv→Option PyData) : Dv→Option PyData:=fun δ => (f δ).bind fun x => (asB x).map fun i => .bool (!i)
abbrev fAnd (f g : Dv→Option PyData) : Dv→Option PyData:=fun δ => (f δ).bind fun x => (asB x).bind fun c => if c = true then g δ else some (.bool false)
abbrev fNil : Dv→Option (List PyData):=fun _ => some []
abbrev fCons (f : Dv→Option PyData) (fs : Dv→Option (List PyData)) : Dv→Option (List PyData):=fun δ => (f δ).bind fun x => (fs δ).map fun xs => x :: xs
abbrev fTup (fs : Dv→Option (List PyData)) : Dv→Option PyData:=fun δ => ((fs δ).bind few).map .tuple
abbrev fLst (fs : Dv→Option (List PyData)) : Dv→Option PyData:=fun δ => ((fs δ).bind few).map .list
abbrev fCall (m : List PyData→Option PyData) (fs : Dv→Option (List PyData)) : Dv→Option PyData:=fun δ => (fs δ).bind m
abbrev fIsi (q : PyData→Bool) (f : Dv→Option PyData) : Dv→Option PyData:=fun δ => (f δ).bind (isiD q)
abbrev bVal (f : Dv→Option PyData) : Dv→Option Bool:=fun δ => (f δ).bind asB
abbrev bCmp (o : PyData→PyData→Option PyData) (f g : Dv→Option PyData) : Dv→Option Bool:=fun δ => (op2 o f g δ).bind asB
abbrev bNot (f : Dv→Option Bool) : Dv→Option Bool:=fun δ => (f δ).map fun c => !c
abbrev bOr (f g : Dv→Option Bool) : Dv→Option Bool:=fun δ => (f δ).bind fun c => if c = true then some true else g δ
abbrev iSeq (f : Dv→Option PyData) : Dv→Option (List PyData):=fun δ => (f δ).bind seqOf
abbrev iCall (m : List PyData→Option (List PyData)) (fs : Dv→Option (List PyData)) : Dv→Option (List PyData):=fun δ => (fs δ).bind m
abbrev bYes : Dv→Option Bool:=fun _ => some true
abbrev sNext : DF:=fun δ => some (.nx δ)
abbrev sRet (f : Dv→Option PyData) : DF:=fun δ => (f δ).map .rt
abbrev sIf (c : Dv→Option Bool) (F G : DF) : DF:=fun δ => (c δ).bind fun c => if c = true then F δ else G δ
abbrev sSet (i : Nat) (f : Dv→Option PyData) : DF:=fun δ => (f δ).map fun y => .nx (δ.set i (.d y))
theorem never_okD {P : Program} {w : World} {K : PySem.W.Frag} {mg : Str→Option Value} {base : Heap} {CX : CXT} {k : Nat} {f : Addr} {fd : FuncData} {ps : List Str} {sp : Sp} (h : ∀ vs H Q E,¬ sp vs H Q E) : FnOk P w K mg base CX k f fd ps sp :=
  ⟨fun _ _ _ _ z => (h _ _ _ _ z).elim,fun _ _ _ _ _ _ _ _ _ _ _ _ _ z => (h _ _ _ _ z).elim⟩
theorem spD_imp {P : Program} {w : World} {K : PySem.W.Frag} {mg : Str→Option Value} {base : Heap} {CX : CXT} {k : Nat} {f : Addr} {fd : FuncData} {ps : List Str} {sp : Sp} {m : List PyData→Option PyData} (F : FnOk P w K mg base CX k f fd ps sp)
    (h : ∀ ds x,m ds = some x→∀ (G H : Hp) (vs : List V) (Q : VK) (E : XK),DuA G ds vs→Same G H→(∀ v G' H',Same G G'→Nw G H G'→Same G' H'→Same H H'→Du G' x v→Q v H')→sp vs H Q E) : FnOk P w K mg base CX k f fd ps (spD m) :=
  F.imp fun vs H Q E z => by
    obtain ⟨ds,x,G,h1,h2,h3,h4⟩:=z
    exact h ds x h1 G H vs Q E h2 h3 h4
section
variable {G0 H0 G H : Hp} {σ : St} {δ : Dv} {ts : List (PyData×V)}
theorem Rw.on {H' : Hp} (r : Rw G0 H0 G H σ δ ts) (e : Same H H') : Rw G0 H0 G H' σ δ ts:=r.lift (Same.refl _) Nw.refl (r.ins.trans e) e
end
section
variable {F1 F2 : DF} {δ δ' : Dv} {r : Option Ou} {c : Dv→Option Bool} {f g : Dv→Option PyData} {fs : Dv→Option (List PyData)}
theorem seqD_nx (h : F1 δ = some (.nx δ')) (k : F2 δ' = r) : seqD F1 F2 δ = r := by unfold seqD; rw [h]; exact k
theorem sIf_f (h : c δ = some false) (k : F2 δ = r) : sIf c F1 F2 δ = r := by show (c δ).bind _ = r; rw [h]; exact k
theorem sSet_is {i : Nat} {y : PyData} (h : f δ = some y) : sSet i f δ = some (.nx (δ.set i (.d y))) := by show (f δ).map _ = _; rw [h]; rfl
theorem sRet_is {y : PyData} (h : f δ = some y) : sRet f δ = some (.rt y) := by show (f δ).map _ = _; rw [h]; rfl
theorem op2_is {o : PyData→PyData→Option PyData} {x y : PyData} {z : Option PyData} (h1 : f δ = some x) (h2 : g δ = some y) (h3 : o x y = z) : op2 o f g δ = z := by unfold op2; rw [h1,h2]; exact h3
theorem fCons_is {x : PyData} {xs : List PyData} (h1 : f δ = some x) (h2 : fs δ = some xs) : fCons f fs δ = some (x :: xs) := by show (f δ).bind _ = _; rw [h1]; show (fs δ).map _ = _; rw [h2]; rfl
theorem fLst_is {xs : List PyData} (h : fs δ = some xs) (hl : xs.length≤dMax) : fLst fs δ = some (.list xs) := by show ((fs δ).bind few).map _ = _; rw [h]; show (few xs).map _ = _; unfold few; rw [if_pos hl]; rfl
theorem bOr_f {a b : Dv→Option Bool} {q : Option Bool} (h : a δ = some false) (k : b δ = q) : bOr a b δ = q := by show (a δ).bind _ = q; rw [h]; exact k
theorem bNot_is {a : Dv→Option Bool} {b : Bool} (h : a δ = some b) : bNot a δ = some (!b) := by show (a δ).map _ = _; rw [h]; rfl
theorem bVal_is {b : Bool} (h : f δ = some (.bool b)) : bVal f δ = some b := by show (f δ).bind asB = _; rw [h]; rfl
end
theorem retD_rt {ps N : List Str} {F : DF} {ds : List PyData} {x : PyData} (hl : ds.length = ps.length) (h : F (iniD N ds) = some (.rt x)) : retD ps N F ds = some x := by unfold retD; rw [if_pos hl,h]
def excD (C : Addr) : PyData:=.dict [(.int (C : Nat),.none)]
def noLst (K : PySem.W.Frag) : Bool:=K.all fun p => match p.2.cls with | .type n => n != "list" | _ => true
abbrev Xr:=PyData ⊕ Addr
def spX (g : List PyData→Option Xr) : Sp:=fun vs H Q E => ∃ ds r G,g ds = some r∧DuA G ds vs∧Same G H∧match r with
  | .inl x => ∀ v G' H',Same G G'→Nw G H G'→Same G' H'→Same H H'→Du G' x v→Q v H'
  | .inr C => ∀ H',Same H H'→E (.ref C) none H'
abbrev OuX:=Ou ⊕ Addr
abbrev DFX:=Dv→Option OuX
def FinX (G0 H0 : Hp) (D : Ends) (E : XK) : OuX→Prop
  | .inl o => Fin G0 H0 D o
  | .inr C => ∀ H',Same H0 H'→E (.ref C) none H'
def DX (X : Cx) (E : XK) (st : Stmt) (F : DFX) : Prop:=∃ t,PS X st t∧∀ δ r,F δ = some r→∀ G0 H0 G H σ D,Rw G0 H0 G H σ δ []→FinX G0 H0 D E r→t D σ H
def DXs (X : Cx) (E : XK) (sts : List Stmt) (F : DFX) : Prop:=∃ t,PSs X sts t∧∀ δ r,F δ = some r→∀ G0 H0 G H σ D,Rw G0 H0 G H σ δ []→FinX G0 H0 D E r→t D σ H
section
variable {X : Cx} {E : XK} {b c e : Expr}  {f h : Dv→Option PyData} {fs : Dv→Option (List PyData)} {fa : Dv→Option Bool} {pos p : Pos} {st : Stmt} {sts sts' : List Stmt} {F : DF} {J J1 J2 : DFX}
theorem pss_nox' {t : TS} (h : PSs X.nox sts t) : PSs X sts t:=fun pins s σ H D I k => wpAny_mono (h pins s σ H D (I.wish _) k) (fun _ _ z => z.unwish) fun _ _ z => z.elim
theorem pe_nox {t : TE} (h : PE X.nox e t) : PE X e t:=fun pins s σ H Q I k => wpAny_mono (h pins s σ H Q (I.wish _) k) (fun _ _ ⟨v,H',I',r,q⟩ => ⟨v,H',I'.unwish,r,q⟩) fun _ _ z => z.elim
theorem pt_nox {t : TT} (h : PT X.nox e t) : PT X e t:=fun pins s σ H Q I k => wpAny_mono (h pins s σ H Q (I.wish _) k) (fun _ _ ⟨H',I',q⟩ => ⟨H',I'.unwish,q⟩) fun _ _ z => z.elim
abbrev xOf (F : DF) : DFX:=fun δ => (F δ).map .inl
theorem dxs_of (h : DSs X.nox sts F) : DXs X E sts (xOf F) := by
  obtain ⟨t,p,k⟩:=h
  refine ⟨t,pss_nox' p,fun δ r h G0 H0 G H σ D R q => ?_⟩
  obtain ⟨o,h1,rfl⟩:=Option.map_eq_some_iff.mp h
  exact k δ o h1 G0 H0 G H σ D R q
def seqX (J1 J2 : DFX) (δ : Dv) : Option OuX:=match J1 δ with
  | some (.inl (.nx δ')) => J2 δ'
  | o => o
theorem dxs_nil : DXs X E [] (fun δ => some (.inl (.nx δ))):=⟨_,pss_nil,fun δ r h G0 H0 G H σ D R k => by cases h; exact k _ _ _ R⟩
theorem dxs_one (h : DX X E st J) : DXs X E [st] J := by
  obtain ⟨t,p,k⟩:=h
  exact ⟨t,pss_one p,k⟩
theorem dxs_cons (h1 : DX X E st J1) (h2 : DXs X E sts J2) : DXs X E (st :: sts) (seqX J1 J2) := by
  obtain ⟨t1,p1,k1⟩:=h1
  obtain ⟨t2,p2,k2⟩:=h2
  refine ⟨_,pss_cons p1 p2,fun δ r h G0 H0 G H σ D R q => ?_⟩
  unfold seqX at h
  split at h
  · rename_i δ' e1
    exact k1 δ _ e1 G0 H0 G H σ _ R fun σ' G' H' R' => k2 δ' r h G0 H0 G' H' σ' D R' q
  · rename_i o hn
    cases r with
    | inr C => exact k1 δ _ h G0 H0 G H σ _ R q
    | inl o' =>
      cases o' with
      | nx δ' => exact absurd h (hn δ')
      | rt x => exact k1 δ _ h G0 H0 G H σ _ R q
      | bk x => exact k1 δ _ h G0 H0 G H σ _ R q
      | ct x => exact k1 δ _ h G0 H0 G H σ _ R q
      | rn x => exact k1 δ _ h G0 H0 G H σ _ R q
abbrev xIf (c : Dv→Option Bool) (J1 J2 : DFX) : DFX:=fun δ => (c δ).bind fun b => if b = true then J1 δ else J2 δ
theorem dx_if (hc : DT X.nox c fa) (h1 : DXs X E sts J1) (h2 : DXs X E sts' J2) : DX X E (.If c sts sts' pos) (xIf fa J1 J2) := by
  obtain ⟨tc,pc,kc⟩:=hc
  obtain ⟨t1,p1,k1⟩:=h1
  obtain ⟨t2,p2,k2⟩:=h2
  refine ⟨_,ps_if (pt_nox pc) p1 p2,fun δ r h G0 H0 G H σ D R q => ?_⟩
  obtain ⟨b,h3,h4⟩:=Option.bind_eq_some_iff.mp h
  refine kc δ _ h3 G0 H0 G H σ [] _ R fun G1 H1 R1 => ?_
  split
  · rename_i hb
    rw [if_pos hb] at h4
    exact k1 δ r h4 G0 H0 G1 H1 σ D R1 q
  · rename_i hb
    rw [if_neg hb] at h4
    exact k2 δ r h4 G0 H0 G1 H1 σ D R1 q
abbrev xRaise (C : Addr) (f : Dv→Option PyData) : DFX:=fun δ => (f δ).map fun _ => .inr C
theorem dx_raise {x : Str} {C : Addr} {np cpos : Pos} (T : Exc X.K X.mg x C) (hL : Lets X E) (he : DE X.nox e f) (hcalm : X.calm = true := by rfl) (hg : Gl X x := by rfl) (hd : (x == ("__debug__" : Str)) = false := by decide)
    (hst : starEach [e] X.env = [(false,eval e X.env)] := by rfl) : DX X E (.Raise (some (.Call (.Name x np) [e] [] cpos)) none pos) (xRaise C f) := by
  obtain ⟨t,p,k⟩:=he
  refine ⟨_,ps_raise T hL hcalm hg (pe_nox p) hd hst,fun δ r h G0 H0 G H σ D R q => ?_⟩
  obtain ⟨y,h1,rfl⟩:=Option.map_eq_some_iff.mp h
  exact k δ y h1 G0 H0 G H σ [] _ R fun v G' H' R' => q _ R'.keep
theorem call_x {k : Nat} {m : List PyData→Option Xr} {ta : TA} (ka : ∀ δ xs,fs δ = some xs→∀ G0 H0 G H σ ts (Q : List V→Hp→Prop),Rw G0 H0 G H σ δ ts→(∀ vs G' H',Rw G0 H0 G' H' σ δ (xs.zip vs ++ ts)→vs.length = xs.length→Q vs H')→ta σ H Q)
    {δ : Dv} {r : Xr} (hz : (fs δ).bind m = some r) {G0 H0 G H : Hp} {σ : St} {Q : VK} {E' : XK} (R : Rw G0 H0 G H σ δ []) (q1 : ∀ x,r = .inl x→∀ v G' H',Rw G0 H0 G' H' σ δ [(x,v)]→Q v H') (q2 : ∀ C,r = .inr C→∀ G' H',Rw G0 H0 G' H' σ δ []→E' (.ref C) none H') :
    ta σ H fun vs H1 => spX m (vs ++ []) H1 Q E' := by
  obtain ⟨xs,h1,h2⟩:=Option.bind_eq_some_iff.mp hz
  refine ka δ _ h1 G0 H0 G H σ [] _ R fun vs G1 H1 R1 hv => ?_
  obtain ⟨d,R2⟩:=R1.args hv
  refine ⟨xs,r,G1,h2,by rw [List.append_nil]; exact d,R2.ins,?_⟩
  cases r with
  | inl x => exact fun v G' H' h3 h4 h5 h6 h7 => q1 x rfl _ _ _ ((R2.lift h3 h4 h5 h6).put h7)
  | inr C => exact fun H' h => q2 C rfl _ _ (R2.on h)
end
theorem Rw.setNo {G0 H0 G H : Hp} {σ : St} {δ : Dv} {ts : List (PyData×V)} (k : Nat) (o : Option V) (r : Rw G0 H0 G H σ δ ts) : Rw G0 H0 G H (σ.set k o) (δ.set k .no) ts := by
  have ne : ∀ (j : Nat) (l : L),l≠.no→(δ.set k .no)[j]? = some l→k≠j∧δ[j]? = some l:=fun j l hl h => by
    by_cases hj : k = j
    · subst hj
      by_cases hi : k < δ.length
      · rw [List.getElem?_set_self hi] at h; cases h; exact absurd rfl hl
      · rw [List.getElem?_eq_none (by simp; lia)] at h; cases h
    · rw [List.getElem?_set_ne hj] at h; exact ⟨hj,h⟩
  refine ⟨r.ext,r.new,r.ins,r.keep,by simp [r.len],fun j y h => ?_,fun j zs h => ?_,fun j l us ws hjl h1 h2 => ?_,r.tmp⟩
  · obtain ⟨n,h⟩:=ne j _ (by simp) h
    obtain ⟨w,m1,m2⟩:=r.dat j y h
    exact ⟨w,by rw [List.getElem?_set_ne n]; exact m1,m2⟩
  · obtain ⟨n,h⟩:=ne j _ (by simp) h
    obtain ⟨b,us,m1,m2⟩:=r.own j zs h
    exact ⟨b,us,by rw [List.getElem?_set_ne n]; exact m1,m2⟩
  · obtain ⟨n1,h1⟩:=ne j _ (by simp) h1
    obtain ⟨n2,h2⟩:=ne l _ (by simp) h2
    rw [List.getElem?_set_ne n1,List.getElem?_set_ne n2]
    exact r.apart j l us ws hjl h1 h2
section
variable {X : Cx}  {a b : Expr}  {f : Dv→Option PyData}   {pos : Pos}
def isxD (T : Addr→Option Bool) : PyData→Option PyData
  | .dict [(.int C,.none)] => (T C.toNat).map .bool
  | _ => none
abbrev fIsx (T : Addr→Option Bool) (f : Dv→Option PyData) : Dv→Option PyData:=fun δ => (f δ).bind (isxD T)
theorem de_isx {T : Addr→Option Bool} {cv : V} {xT : Str} {p1 p2 : Pos} (hk : ∀ C b,T C = some b→ExcK X.K C∧PySem.W.kitOne X.K (.ref C) (clsV cv) = some b) (hn : clsV cv≠.none) (hg : Gl X "isinstance") (hm : X.mg "isinstance" = none) (hT : PE X (.Name xT p2) (tC cv)) (ha : DE X a f)
    (hs1 : starEach [a,.Name xT p2] X.env = (false,eval a X.env) :: starEach [.Name xT p2] X.env := by rfl) (hpl : (backTo pos (starEach [.Name xT p2] X.env)).any (·.1) = false := by rfl) :
    DE X (.Call (.Name "isinstance" p1) [a,.Name xT p2] [] pos) (fIsx T f) := by
  obtain ⟨ta,pa,ka⟩:=ha
  refine ⟨_,pe_callB call_isiE hg hm PyProof.Rows.boot_isinstance (pa_cons pa (pa_cons hT pa_nil) hs1) (by decide) (by decide) hs1 hpl,fun δ z hz G0 H0 G H σ ts Q R0 k => ?_⟩
  obtain ⟨x,h1,h2⟩:=Option.bind_eq_some_iff.mp hz
  unfold isxD at h2
  split at h2
  · rename_i C
    obtain ⟨bb,h3,rfl⟩:=Option.map_eq_some_iff.mp h2
    refine ka δ _ h1 G0 H0 G H σ ts _ R0 fun u G1 H1 R1 => ?_
    have du:=R1.tmp _ (.head _)
    rw [Du] at du
    rcases du with ⟨ea,C',e1,rfl,h4⟩ | ⟨_,_,e1,_⟩ | z
    rotate_left
    · simp at e1
    · rw [DuM] at z; cases z.1
    have : C = (C' : Nat) := by simpa using e1
    subst this
    obtain ⟨k1,k2⟩:=hk _ _ h3
    rw [Int.toNat_natCast] at k1 k2
    exact ⟨ea,C',cv,bb,rfl,hn,R1.ins _ _ h4,k1,k2,k _ _ _ (R1.drop.put (by rw [Du]))⟩
  · cases h2
end
def retX (ps N : List Str) (J : DFX) (ds : List PyData) : Option Xr:=if ds.length = ps.length then (match J (iniD N ds) with
  | some (.inl (.rt x)) => some (.inl x)
  | some (.inl (.nx _)) => some (.inl .none)
  | some (.inl (.rn xs)) => some (.inl (.list xs))
  | some (.inr C) => some (.inr C)
  | _ => none) else none
section
variable {P : Program} {w : World} {K : PySem.W.Frag} {mg : Str→Option Value} {base : Heap} {x : Str} {st : Stmt} {fA : Addr} {fd : FuncData} {N ps : List Str} {k : Nat}
theorem letsX {qual : Str} {scope : Scope} {cd : Value} {A : Around} {outer : List Env} {s : Shared} {H : Hp} {E : XK} :
    Lets (cxOf (CXW P w) P w K mg base N qual scope fA cd A outer s H E) E:=fun _ _ _ _ _ _ _ _ I hx hE => xe_made I hx hE
theorem okX {J : DFX} (T : Fn K mg x st ps fA fd) (S : FnScope N ps (defScope st))
    (hb : ∀ (cdv : Value) (A : Around) (outer : List Env) (s : Shared) (H : Hp) (E : XK),Room k (A.deeper (envOfC x (defScope st) s.heap.objs.size fA cdv))→DXs (cxOf (CXW P w) P w K mg base N x (defScope st) fA cdv A outer s H E) E (defBody st) J) :
    FnOk P w K mg base (CXW P w) (k + 1) fA fd ps (spX (retX ps N J)) := by
  refine T.F.okW S (fun vs H Q E h => ?_) fun cdv A outer s H vs Q E hr h => ?_
  · obtain ⟨ds,y,G,h1,h2,_⟩:=h
    unfold retX at h1
    split at h1
    · rename_i hl; rw [h2.len]; exact hl
    · cases h1
  · obtain ⟨ds,y,G,h1,h2,h3,h4⟩:=h
    obtain ⟨t,p,kk⟩:=hb cdv A outer s H E hr
    refine ⟨t,p,?_⟩
    unfold retX at h1
    split at h1
    · split at h1
      · rename_i z e1
        cases h1
        exact kk _ _ e1 G H G H _ _ (Rw.start h2 h3) fun v G' H' m1 m2 m3 m4 m5 => h4 v G' H' m1 m2 m3 m4 m5
      · rename_i δ e1
        cases h1
        exact kk _ _ e1 G H G H _ _ (Rw.start h2 h3) fun σ' G' H' R => h4 .non G' H' R.ext R.new R.ins R.keep (by rw [Du])
      · rename_i xs e1
        cases h1
        exact kk _ _ e1 G H G H _ _ (Rw.start h2 h3) fun a ys G' H' m1 m2 m3 m4 m5 m6 m7 m8 => let ⟨n1,n2,n3,n4⟩:=keepL m1 m2 m3 m5 m6 m7 m8; h4 _ _ H' n1 n2 n3 m4 n4
      · rename_i C e1
        cases h1
        exact kk _ _ e1 G H G H _ _ (Rw.start h2 h3) h4
      · cases h1
    · cases h1
theorem FnOk.to0 {sp sp' : Sp} (F : FnOk P w K mg base (CXW P w) k fA fd ps sp) (h : ∀ vs H Q E,sp' vs H Q E→sp vs H Q fun _ _ _ => False) : FnOk P w K mg base CX0 k fA fd ps sp' :=
  ⟨fun vs H Q E z => F.len _ _ _ _ (h _ _ _ _ z),fun A outer s H args us vs Q E hr he hb hv hs => codeAny_mono (F.run A outer s H args us vs Q _ hr he hb hv (h _ _ _ _ hs)) fun r s' z => by
    cases r with
    | ok fl => cases fl <;> exact z
    | error e => obtain ⟨_,_,_,_,_,_,_,z⟩:=z; exact z.elim⟩
def good (m : List PyData→Option Xr) (ds : List PyData) : Option PyData:=match m ds with
  | some (.inl x) => some x
  | _ => none
theorem spX_D {m : List PyData→Option Xr} (F : FnOk P w K mg base (CXW P w) k fA fd ps (spX m)) : FnOk P w K mg base CX0 k fA fd ps (spD (good m)):=F.to0 fun vs H Q E z => by
  obtain ⟨ds,x,G,h1,h2,h3,h4⟩:=z
  unfold good at h1
  split at h1
  · rename_i y e; cases h1
    exact ⟨ds,.inl x,G,e,h2,h3,h4⟩
  · cases h1
end
section
variable          {N ps : List Str} 
theorem retX_no {J : DFX} {ds : List PyData} {C : Addr} (hl : ds.length = ps.length) (h : J (iniD N ds) = some (.inr C)) : retX ps N J ds = some (.inr C) := by unfold retX; rw [if_pos hl,h]
end
section
variable {J1 J2 : DFX} {δ : Dv}        
theorem seqX_no {C : Addr} (h : J1 δ = some (.inr C)) : seqX J1 J2 δ = some (.inr C) := by unfold seqX; rw [h]
end
def only (cs : List Addr) (m : List PyData→Option Xr) (ds : List PyData) : Option Xr:=match m ds with
  | some (.inr C) => if C∈cs then some (.inr C) else none
  | r => r
theorem only_in {cs : List Addr} {m : List PyData→Option Xr} {ds : List PyData} {C : Addr} (h : only cs m ds = some (.inr C)) : C∈cs := by
  unfold only at h
  split at h
  · split at h
    · rename_i hc; cases h; exact hc
    · cases h
  · rename_i n; exact absurd h (n C)
theorem spX_only {P : Program} {w : World} {K : PySem.W.Frag} {mg : Str→Option Value} {base : Heap} {CX : CXT} {k : Nat} {f : Addr} {fd : FuncData} {ps : List Str} {m : List PyData→Option Xr} (cs : List Addr) (F : FnOk P w K mg base CX k f fd ps (spX m)) : FnOk P w K mg base CX k f fd ps (spX (only cs m)) :=
  F.imp fun vs H Q E z => by
    obtain ⟨ds,r,G,h1,h2⟩:=z
    refine ⟨ds,r,G,?_,h2⟩
    unfold only at h1
    split at h1
    · rename_i C e
      split at h1
      · cases h1; exact e
      · cases h1
    · exact h1
end L2
set_option maxHeartbeats 2000000
set_option maxHeartbeats 1000000
set_option maxHeartbeats 4000000
set_option maxHeartbeats 1000000
set_option maxHeartbeats 4000000
set_option maxHeartbeats 1000000
set_option maxHeartbeats 4000000
set_option maxHeartbeats 1000000
set_option maxHeartbeats 4000000
set_option maxHeartbeats 1000000
set_option maxHeartbeats 4000000
set_option maxHeartbeats 1000000
set_option maxHeartbeats 2000000
set_option maxHeartbeats 4000000
set_option maxHeartbeats 1000000
set_option maxHeartbeats 4000000
set_option maxHeartbeats 1000000
namespace L2
open PySem PySem.Spec PyProof.Rows
section
variable {X : Cx} {b : Expr}  {p : Pos}
def bools : List PyData→Option (List Bool)
  | [] => some []
  | .bool b :: ds => (bools ds).map (b :: ·)
  | _ => none
theorem bools_du {G : Hp} : ∀ {ds : List PyData} {bs : List Bool} {vs : List V},bools ds = some bs→DuA G ds vs→vs = bs.map V.bl
  | [],bs,vs,h,d => by cases h; rw [DuA] at d; exact d
  | d :: ds,bs,vs,h,k => by
    cases d with
    | bool b =>
      rw [bools] at h
      obtain ⟨r,h1,rfl⟩:=Option.map_eq_some_iff.mp h
      rw [DuA] at k
      obtain ⟨x,ys,rfl,k1,k2⟩:=k
      rw [Du] at k1
      subst k1
      rw [bools_du h1 k2]; rfl
    | _ => simp [bools] at h
def dAll : List PyData→Option PyData
  | [.list ds] => (bools ds).map fun bs => .bool (bs.all id)
  | _ => none
theorem dc_all (hc : X.calm = true) : DCall X (.builtin "all") dAll := by
  refine ⟨_,call_all hc,fun xs z hz G0 H0 G H σ δ ts us Q R0 d k => ?_⟩
  unfold dAll at hz
  split at hz
  · obtain ⟨bs,h1,rfl⟩:=Option.map_eq_some_iff.mp hz
    obtain ⟨u,rfl,du⟩:=d.un1
    rw [Du] at du
    obtain ⟨p,ys,rfl,h4,h5⟩:=du
    have := bools_du h1 h5
    subst this
    exact ⟨p,bs,rfl,SqL.of (R0.ins _ _ h4),k _ _ _ (R0.put (by rw [Du]))⟩
  · cases hz
end
end L2
set_option maxHeartbeats 4000000
set_option maxHeartbeats 1000000
set_option maxHeartbeats 4000000
namespace L2
open PySem PySem.Spec PyProof.Rows
theorem rel_of_abs : ∀ {u : Value} {x : V},absV u = some x→RelV x u
  | .none,_,e => by cases e; exact rfl
  | .bool _,_,e => by cases e; exact rfl
  | .int _ _,_,e => by cases e; exact ⟨_,rfl⟩
  | .str _ _,_,e => by cases e; exact ⟨_,rfl⟩
  | .bytes _ _,_,e => by cases e; exact ⟨_,rfl⟩
  | .float _ _,_,e => by cases e; exact ⟨_,rfl⟩
  | .ref _,_,e => by cases e; exact rfl
  | .type _,_,e => by cases e; exact rfl
theorem vals_of_abs : ∀ {us : List Value} {xs : List V},us.map absV = xs.map some→Vals xs us
  | [],[],_ => .nil
  | [],_ :: _,e => by simp at e
  | _ :: _,[],e => by simp at e
  | _ :: _,_ :: _,e => by
    simp only [List.map_cons,List.cons.injEq] at e
    exact .cons (rel_of_abs e.1) (vals_of_abs e.2)
abbrev eD (P : Params) (x : Str) (t a : Nat) : DictEntry:=⟨PyData.keyHash P x,.str x t,.ref a⟩
abbrev dicO (P : Params) (d t1 t2 t3 t4 t5 : Nat) : Obj:=⟨.type "dict",none,.dict #[eD P "plain" t1 (d + 5),eD P "middle" t2 (d + 13),eD P "heel" t3 (d + 21),eD P "third" t4 (d + 33),eD P "fourth" t5 (d + 50)] 5,#[]⟩
abbrev tupO (its : List Value) : Obj:=⟨.type "tuple",none,.seq its.toArray 0,#[]⟩
def tabH (d : Nat) (od : Obj) : Hp:=fun (b : Nat) => if b = d then some (.frz od (.dK (tbK d))) else if b≤d then none else ((tbT d)[b - d - 1]?).map .tup
theorem tabH_d {d : Nat} {od : Obj} : tabH d od d = some (.frz od (.dK (tbK d))):=if_pos rfl
theorem tabH_t {d : Nat} {od : Obj} {j : Nat} {xs : List V} (e : (tbT d)[j]? = some xs) : tabH d od (d + 1 + j) = some (.tup xs) := by
  unfold tabH
  rw [if_neg (by lia),if_neg (by lia),show d + 1 + j - d - 1 = j by lia,e]; rfl
theorem tabH_inv {d b : Nat} {od : Obj} {u : HO} (e : tabH d od b = some u) : (b = d∧u = .frz od (.dK (tbK d)))∨∃ j xs,b = d + 1 + j∧(tbT d)[j]? = some xs∧u = .tup xs := by
  unfold tabH at e
  by_cases h1 : b = d
  · rw [if_pos h1] at e; cases e; exact .inl ⟨h1,rfl⟩
  · rw [if_neg h1] at e
    by_cases h2 : b≤d
    · rw [if_pos h2] at e; cases e
    · rw [if_neg h2] at e
      obtain ⟨xs,e1,e2⟩:=Option.map_eq_some_iff.mp e
      exact .inr ⟨b - d - 1,xs,by lia,e1,e2.symm⟩
structure TabIn (P : Params) (d : Nat) (od : Obj) (tv : List (List Value)) (Kt : PySem.W.Frag) : Prop where
  sys : (d == sysModules) = false
  obj : ∃ t1 t2 t3 t4 t5,od = dicO P d t1 t2 t3 t4 t5
  dic : Kt.lookup d = some od
  tup : ∀ j its,tv[j]? = some its→Kt.lookup (d + 1 + j) = some (tupO its)
  same : tv.map (·.map absV) = (tbT d).map (·.map some)
  few : (tbT d).all (fun xs => decide (xs.length≤4)) = true
theorem TabIn.hok {P : Program} {w : World} {d : Nat} {od : Obj} {tv : List (List Value)} {Kt : PySem.W.Frag} {h : Heap} (T : TabIn w.params d od tv Kt) (K : Kt.In h) : HOk P w (tabH d od) h:=fun b u e => by
  rcases tabH_inv e with ⟨rfl,rfl⟩ | ⟨j,xs,rfl,h1,rfl⟩
  · obtain ⟨t1,t2,t3,t4,t5,ho⟩:=T.obj
    refine ⟨K _ _ T.dic,(by decide : (5 : Nat)≤sizeLine),T.sys,?_⟩
    refine ⟨[(.inr "plain",.ref (b + 5)),(.inr "middle",.ref (b + 13)),(.inr "heel",.ref (b + 21)),(.inr "third",.ref (b + 33)),(.inr "fourth",.ref (b + 50))],?_,od,#[eD w.params "plain" t1 (b + 5),eD w.params "middle" t2 (b + 13),eD w.params "heel" t3 (b + 21),eD w.params "third" t4 (b + 33),eD w.params "fourth" t5 (b + 50)],5,K _ _ T.dic,?_,?_,?_,?_,?_⟩
    · exact .cons ⟨rfl,rfl⟩ (.cons ⟨rfl,rfl⟩ (.cons ⟨rfl,rfl⟩ (.cons ⟨rfl,rfl⟩ (.cons ⟨rfl,rfl⟩ .nil))))
    · rw [ho]; exact ⟨rfl,rfl,rfl⟩
    · rw [ho]
    · intro e he
      simp only [List.mem_toArray,List.mem_cons,List.not_mem_nil,or_false] at he
      rcases he with rfl | rfl | rfl | rfl | rfl
      · exact ⟨.inr "plain",keyIs_str _ t1,rfl⟩
      · exact ⟨.inr "middle",keyIs_str _ t2,rfl⟩
      · exact ⟨.inr "heel",keyIs_str _ t3,rfl⟩
      · exact ⟨.inr "third",keyIs_str _ t4,rfl⟩
      · exact ⟨.inr "fourth",keyIs_str _ t5,rfl⟩
    · exact .cons (keyIs_str _ t1) rfl (.cons (keyIs_str _ t2) rfl (.cons (keyIs_str _ t3) rfl (.cons (keyIs_str _ t4) rfl (.cons (keyIs_str _ t5) rfl .nil))))
    · show ([.inr "plain",.inr "middle",.inr "heel",.inr "third",.inr "fourth"] : List Key).Nodup
      decide
  · have hs:=congrArg (fun l => l[j]?) T.same
    simp only [List.getElem?_map,h1,Option.map_some] at hs
    obtain ⟨its,e1,e2⟩:=Option.map_eq_some_iff.mp hs
    refine ⟨?_,its,vals_of_abs e2,_,K _ _ (T.tup j its e1),rfl,0,rfl⟩
    have:=List.all_eq_true.mp T.few xs (List.mem_of_getElem? h1)
    exact Nat.le_trans (of_decide_eq_true this) (by decide)
def tabsL : Nat→List (List Value)→PySem.W.Frag
  | _,[] => []
  | n,its :: r => (n,tupO its) :: tabsL (n + 1) r
theorem tabsL_go : ∀ (tv : List (List Value)) (n j : Nat) (its : List Value),tv[j]? = some its→(tabsL n tv).lookup (n + j) = some (tupO its)
  | [],_,_,_,e => by simp at e
  | x :: r,n,0,its,e => by simp at e; subst e; simp [tabsL]
  | x :: r,n,j + 1,its,e => by
    have h:=tabsL_go r (n + 1) j its (by simpa using e)
    rw [tabsL,List.lookup_cons,beq_eq_false_iff_ne.mpr (show n + (j + 1)≠n by lia),show n + (j + 1) = n + 1 + j by lia]
    exact h
theorem tabsL_at {d : Nat} {od : Obj} {tv : List (List Value)} {j : Nat} {its : List Value} (e : tv[j]? = some its) : List.lookup (d + 1 + j) ((d,od) :: tabsL (d + 1) tv) = some (tupO its) := by
  show List.lookup (d + 1 + j) ((d,od) :: tabsL (d + 1) tv) = _
  rw [List.lookup_cons,beq_eq_false_iff_ne.mpr (show d + 1 + j≠d by lia)]
  exact tabsL_go tv (d + 1) j its e
theorem mem_lk : ∀ {l : PySem.W.Frag} {b : Nat} {o : Obj},l.lookup b = some o→((b,o) : Addr×Obj)∈l
  | [],_,_,e => by cases e
  | (c,p) :: l,b,o,e => by
    rw [List.lookup_cons] at e
    by_cases h : b = c
    · subst h; simp at e; subst e; exact .head _
    · rw [beq_eq_false_iff_ne.mpr h] at e
      exact .tail _ (mem_lk e)
theorem law_callT {P : Program} {w : World} {K Kt : PySem.W.Frag} {mg mb : Str→Option Value} {CX : CXT} {k : Nat} {fa a : Addr} {fd : FuncData} {x : Str} {sp : Sp} {s₁ : Shared} {vs : List Value} {ns : List Int} {d : Nat} {od : Obj} {tv : List (List Value)}
    (KX : K.In s₁.heap) (KTX : Kt.In s₁.heap) (T : TabIn w.params d od tv Kt) (hTN : cStatics < d∧mainGlobals < d∧builtinsNs < d) (hTK : ∀ b u,tabH d od b = some u→K.lookup b = none) (hmg : mg "NAMED_TABLES" = some (.ref d))
    (hns : s₁.heap.Ns mainGlobals mg) (hb : s₁.heap.Ns builtinsNs mb) (hbb : ∀ x : Str,x ≠ "__name__" → mb x = bootBuiltins x) (hlim : s₁.heap.NoLimit) (hg : s₁.gens = #[])
    (ha : s₁.heap.get? a = some { cls:=.type "list",data:=.seq vs.toArray }) (hi : IntsAre vs ns) (hl : ns.length≤sizeLine) (hr : Room k callerA)
    (F : ∀ base : Heap,K.In base→base.Ns mainGlobals mg→FnOk P w K mg base CX k fa fd [x] sp) (hbind : ∀ (s : Shared) (u : Value),BindsTo s fd ⟨[u],[]⟩ [(x,u)])
    (hsp : ∀ H : Hp,SqL K H a (ns.map V.int)→sp [.ref a] H (fun v _ => v = .bl true) fun _ _ _ => False)
    (hCX : ∀ H e s',CX [] H s₁ (fun _ _ _ => False) e s'→False) :
    codeAny (model P w) callerA (.call (.ref fa) ⟨[.ref a],[]⟩) (fun r s' => r = .ok (.ret (.bool true))∧OldK s₁.heap s'.heap∧s'.os = s₁.os∧AllBare s'.gens) s₁ := by
  have rv:=vals_ints hi
  have lenV:=hi.length
  have tok:=T.hok (P:=P) KTX
  have Ta : tabH d od a = none := by
    cases q : tabH d od a with
    | none => rfl
    | some u =>
      rcases tabH_inv q with ⟨rfl,rfl⟩ | ⟨j,xs,rfl,h1,rfl⟩
      · obtain ⟨t1,t2,t3,t4,t5,ho⟩:=T.obj
        have:=KTX _ _ T.dic
        rw [ha,ho] at this
        have z:=congrArg Obj.cls (Option.some.inj this)
        simp at z
      · obtain ⟨_,its,_,o,e1,e2,_⟩:=tok _ _ q
        rw [ha] at e1; cases e1
        simp at e2
  have core : ∀ H : Hp,(∀ b,b≠a→H b = tabH d od b)→(H a = none∨∃ o xs,H a = some (.frz o (.lst xs)))→SqL K H a (ns.map V.int)→HOk P w H s₁.heap→(H a≠none→K.lookup a = none) →
      codeAny (model P w) callerA (.call (.ref fa) ⟨[.ref a],[]⟩) (fun r s' => r = .ok (.ret (.bool true))∧OldK s₁.heap s'.heap∧s'.os = s₁.os∧AllBare s'.gens) s₁ := by
    intro H hO hA hS hok hK
    have hT : ∀ b u,tabH d od b = some u→H b = some u:=fun b u e => by
      rw [hO b (fun z => by rw [z,Ta] at e; cases e)]; exact e
    have dicA : ∀ {m : Str→Option Value},s₁.heap.Ns a m→False:=fun {m} ⟨o,es,ep,e,q,_⟩ => by
      rw [ha] at e; cases e
      have q' : Data.seq vs.toArray _ = Data.dict es ep:=q
      cases q'
    have nsK : ∀ {b : Nat} {m : Str→Option Value},b < d→s₁.heap.Ns b m→(hidT s₁.heap H).Ns b m:=fun {b m} hlt N => by
      have hn : H b = none := by
        have hba : b≠a:=fun z => dicA (z ▸ N)
        rw [hO b hba]
        cases q : tabH d od b with
        | none => rfl
        | some u => rcases tabH_inv q with ⟨rfl,_⟩ | ⟨j,xs,rfl,_⟩ <;> lia
      obtain ⟨o,es,ep,e,r⟩:=N
      exact ⟨o,es,ep,hidT_get e hn,r⟩
    have hKb : K.In (hidT s₁.heap H):=fun b o e => hidT_get (KX b o e) (by
      by_cases hba : b = a
      · subst hba
        cases q : H b with
        | none => rfl
        | some u => rw [hK (by rw [q]; simp)] at e; cases e
      · rw [hO b hba]
        cases q : tabH d od b with
        | none => rfl
        | some u => rw [hTK b u q] at e; cases e)
    have hM : Mod K mg (hidT s₁.heap H):=⟨hKb,nsK hTN.2.1 hns,⟨mb,nsK hTN.2.2 hb,hbb⟩,let ⟨mc,h1,h2⟩:=hlim; ⟨mc,nsK hTN.1 h1,h2⟩⟩
    have kt : KTb mg H:=fun d' e => by
      rw [hmg] at e; cases e
      exact ⟨⟨od,hT _ _ tabH_d⟩,fun j xs q => hT _ _ (tabH_t q)⟩
    have e0 : Env0 P w K mg (hidT s₁.heap H) callerA [] s₁ H:=⟨rfl,hM,fun b o e => of_hidT e,Nat.le_of_eq (hidT_size _ _),trivial,fun b hb => absurd (show b∈([] : List Addr) from hb) (by simp),hok,.of_eq hg,kt⟩
    refine codeAny_mono ((F _ hKb (nsK hTN.2.1 hns)).run callerA [] s₁ H ⟨[.ref a],[]⟩ [.ref a] [.ref a] _ _ hr e0 (hbind s₁ (.ref a)) (.cons rfl .nil) (hsp H hS)) fun r s' h => ?_
    cases r with
    | error e => exact (hCX H e s' h).elim
    | ok fl =>
      cases fl with
      | next => exact False.elim h
      | brk => exact False.elim h
      | cont => exact False.elim h
      | ret u =>
        obtain ⟨v,H',os,bare,un,hok',r',q⟩:=h
        have q' : v = .bl true:=q
        subst q'
        obtain rfl : u = Value.bool true:=r'
        have kf : ∀ b o ob u,s₁.heap.get? b = some o→H b = some (.frz ob u)→s'.heap.get? b = some o:=fun b o ob u e z => by
          obtain ⟨e1,_⟩:=hok b _ z
          obtain ⟨e2,_⟩:=hok' b _ (un.frzs b ob _ z)
          rw [e] at e1; cases e1
          exact e2
        refine ⟨rfl,OldK.of_keep fun b o e => ?_,os,bare⟩
        by_cases hba : b = a
        · subst hba
          rcases hA with z | ⟨ob,xs,z⟩
          · exact un.keep b o e z (by intro z; exact absurd (show b∈([] : List Addr) from z) (by simp)) (by simp)
          · exact kf b o ob _ e z
        · have hb':=hO b hba
          cases q : tabH d od b with
          | none => exact un.keep b o e (hb'.trans q) (by intro z; exact absurd (show b∈([] : List Addr) from z) (by simp)) (by simp)
          | some u =>
            rw [q] at hb'
            rcases tabH_inv q with ⟨_,rfl⟩ | ⟨j,xs,_,_,rfl⟩
            · exact kf b o _ _ e hb'
            · exact un.tupo b xs o hb' e (by simp)
  cases hk : K.lookup a with
  | some o =>
    have e:=KX a o hk
    rw [ha] at e
    cases e
    refine core (tabH d od) (fun _ _ => rfl) (.inl Ta) (.inr ⟨_,vs.toArray,_,hk,rfl,rfl,rfl,by rw [List.size_toArray,lenV]; exact hl,by simpa using rv⟩) tok fun z => absurd Ta z
  | none =>
    refine core (upd (tabH d od) a (.frz { cls:=.type "list",data:=.seq vs.toArray } (.lst (ns.map V.int)))) (fun b hb => upd_ne hb) (.inr ⟨_,_,upd_same⟩) (.inl (.inr ⟨{ cls:=.type "list",data:=.seq vs.toArray },upd_same⟩)) (fun b u z => ?_) fun _ => hk
    by_cases hb : b = a
    · subst hb
      rw [upd_same] at z; cases z
      exact ⟨ha,by rw [List.length_map]; exact hl,vs,_,rv,ha⟩
    · rw [upd_ne hb] at z
      exact (tok b u z).stay (fun _ _ _ q => q) (fun c q => by rw [upd_ne (ne_of_none q Ta)]; exact q) fun c xs q => by rw [upd_ne (ne_of_none q Ta)]; exact q
theorem walk_ofT {l : PySem.W.OpenLaw} {n k : Nat} {q : Program} {loose : List Str} {XP : (Str→Option Value)→Heap→Prop} {YP : World→Heap→Prop} {d : DefRec} {K Kt : Params→PySem.W.Frag} {CX : World→CXT} {sp : World→Sp} {x : Str} {da : Nat} {od : Params→Obj} {tv : List (List Value)}
    (hn : l.most = some n) (hn2 : n≤sizeLine) (hdf : d.params.defaults = []) (hr : Room k callerA)
    (hY : ∀ (w : World) (h : Heap),YP w h→(K w.params ++ Kt w.params).In h)
    (T : ∀ P,TabIn P da (od P) tv (Kt P)) (hTN : cStatics < da∧mainGlobals < da∧builtinsNs < da) (hTK : ∀ P,(K P).all (fun p => decide ((p.1 : Nat) < da) || decide (da + 50 < (p.1 : Nat))) = true∧(Kt P).all (fun p => decide (da≤(p.1 : Nat)) && decide ((p.1 : Nat)≤da + 50)) = true)
    (hmg : ∀ (w : World) (mg : Str→Option Value) (h : Heap),(K w.params).In h→h.Ns mainGlobals mg→mg "NAMED_TABLES" = some (.ref da))
    (F : ∀ (w : World) (mg : Str→Option Value) (fa : Addr) (h : Heap),(K w.params).In h→h.Ns mainGlobals mg→mg d.name = some (.ref fa) →
      ∃ fd : FuncData,(∀ (s : Shared) (u : Value),BindsTo s fd ⟨[u],[]⟩ [(x,u)]) ∧
        ∀ base : Heap,(K w.params).In base→base.Ns mainGlobals mg→FnOk l.prog w (K w.params) mg base (CX w) k fa fd [x] (sp w))
    (hsp : ∀ (w : World) (H : Hp) (a : Addr) (ns : List Int),ns.length≤n→SqL (K w.params) H a (ns.map V.int)→sp w [.ref a] H (fun v _ => v = .bl true) fun _ _ _ => False)
    (hCX : ∀ (w : World) (H : Hp) (s : Shared) (e : Value) (s' : Shared),CX w [] H s (fun _ _ _ => False) e s'→False) :
    PySem.W.WalkO q loose XP YP l.row.toRowW d [] (fun f vs => PySem.call f vs) := by
  refine Att.attach_call hn hdf fun w s₀ s₁ mg mb fa o pm cd doc a vs ns G Y ho hd hcd hmg' hobj hints hlen hg => ?_
  have KK:=hY w _ Y
  have lk : ∀ b,(K w.params ++ Kt w.params).lookup b = ((K w.params).lookup b).or ((Kt w.params).lookup b):=fun b => List.lookup_append
  have away : ∀ (b : Nat) o,(K w.params).lookup b = some o→b < da∨da + 50 < b:=fun b o e => by
    have:=List.all_eq_true.mp (hTK w.params).1 (b,o) (mem_lk e)
    simpa using this
  have len50 : (tbT da).length = 50:=rfl
  have ktx : ∀ (b : Nat) u,tabH da (od w.params) b = some u→(K w.params).lookup b = none:=fun b u e => by
    cases q : (K w.params).lookup b with
    | none => rfl
    | some o =>
      have h1:=away b o q
      rcases tabH_inv e with ⟨h2,_⟩ | ⟨j,xs,h2,h3,_⟩
      · lia
      · have:=(List.getElem?_eq_some_iff.mp h3).1
        lia
  have KX : (K w.params).In s₁.heap:=fun b o e => KK b o (by rw [lk,e]; rfl)
  have KTX : (Kt w.params).In s₁.heap:=fun (b : Nat) o e => KK b o (by
    rw [lk]
    have h1:=List.all_eq_true.mp (hTK w.params).2 (b,o) (mem_lk e)
    have h1 : da≤b∧b≤da + 50 := by simpa using h1
    cases q : (K w.params).lookup b with
    | none => exact e
    | some o' => have:=away b o' q; lia)
  obtain ⟨fd,hb,hF⟩:=F w mg fa _ KX G.T.g hmg'
  exact law_callT KX KTX (T w.params) hTN ktx (hmg w mg _ KX G.T.g) G.T.g G.T.b G.T.builtins G.T.nolimit hg hobj hints (Nat.le_trans hlen hn2) hr hF hb (fun H hS => hsp w H a ns hlen hS) fun H e s' => hCX w H s₁ e s'
end L2
set_option maxHeartbeats 1000000
namespace L2
open PySem PySem.Spec PyProof.Rows
abbrev frD (a b : Int) : PyData:=.tuple [.int a,.int b]
def namT (x : Str) : Option PyData :=
  if x = "plain" then some (.tuple [.tuple [.tuple []],.tuple [frD 1 1]])
  else if x = "middle" then some (.tuple [.tuple [.tuple [],.tuple [frD 1 2]],.tuple [frD 0 1,frD 1 1]])
  else if x = "heel" then some (.tuple [.tuple [.tuple [],.tuple [frD 1 1]],.tuple [frD 1 2,frD 1 2]])
  else if x = "third" then some (.tuple [.tuple [.tuple [],.tuple [frD 1 3],.tuple [frD 0 1,frD 2 3]],.tuple [frD 1 4,frD 0 1,frD 3 4]])
  else if x = "fourth" then some (.tuple [.tuple [.tuple [],.tuple [frD 1 2],.tuple [frD 0 1,frD 1 2],.tuple [frD 0 1,frD 0 1,frD 1 1]],.tuple [frD 1 6,frD 1 3,frD 1 3,frD 1 6]])
  else none
def namGet : PyData→Option PyData
  | .str x => namT x
  | _ => none
def namIn (neg : Bool) : PyData→Option PyData
  | .str x => some (.bool (if neg then !(namT x).isSome else (namT x).isSome))
  | _ => none
def withT (G : Hp) (d : Nat) : Hp:=fun (b : Nat) => match G b with
  | some o => some o
  | none => if b≤d then none else ((tbT d)[b - d - 1]?).map .tup
theorem withT_sub {G : Hp} {d : Nat} : Same G (withT G d):=fun b o e => by unfold withT; rw [e]
theorem withT_inv {G : Hp} {d b : Nat} {o : HO} (e : withT G d b = some o) : G b = some o∨∃ j xs,b = d + 1 + j∧(tbT d)[j]? = some xs∧o = .tup xs := by
  unfold withT at e
  split at e
  · rename_i q; cases e; exact .inl q
  · split at e
    · cases e
    · obtain ⟨xs,e1,e2⟩:=Option.map_eq_some_iff.mp e
      exact .inr ⟨b - d - 1,xs,by lia,e1,e2.symm⟩
theorem withT_rw {G0 H0 G H : Hp} {σ : St} {δ : Dv} {ts : List (PyData×V)} {d : Nat} (R : Rw G0 H0 G H σ δ ts) (hT : ∀ j xs,(tbT d)[j]? = some xs→H (d + 1 + j) = some (.tup xs)) : Rw G0 H0 (withT G d) H σ δ ts where
  ext:=fun b o e => withT_sub b o (R.ext b o e)
  new:=fun b o e => by
    rcases withT_inv e with h | ⟨j,xs,_,_,rfl⟩
    · exact R.new b o h
    · exact .inr (.inr ⟨xs,rfl⟩)
  ins:=fun b o e => by
    rcases withT_inv e with h | ⟨j,xs,rfl,h,rfl⟩
    · exact R.ins b o h
    · exact hT j xs h
  keep:=R.keep
  len:=R.len
  dat:=fun i x h => by
    obtain ⟨v,h1,h2⟩:=R.dat i x h
    exact ⟨v,h1,h2.same withT_sub⟩
  own:=fun i xs h => by
    obtain ⟨a,ys,h1,h2,h3,h4,h5⟩:=R.own i xs h
    refine ⟨a,ys,h1,?_,h3,h4,h5.same withT_sub⟩
    cases q : withT G d a with
    | none => rfl
    | some o =>
      rcases withT_inv q with z | ⟨j,zs,rfl,z,rfl⟩
      · rw [h2] at z; cases z
      · have:=hT j zs z
        rw [h4] at this; cases this
        exact h5.ntup.elim
  apart:=R.apart
  tmp:=fun p hp => (R.tmp p hp).same withT_sub
def atT (d : Nat) (T : Hp) : Prop:=∀ j xs,(tbT d)[j]? = some xs→T (d + 1 + j) = some (.tup xs)
theorem withT_at {G H : Hp} {d : Nat} (hG : Same G H) (hT : atT d H) : atT d (withT G d):=fun j xs e => by
  unfold withT
  split
  · rename_i o q
    have:=hG _ _ q
    rw [hT j xs e] at this; cases this; rfl
  · rw [if_neg (by lia),show d + 1 + j - d - 1 = j by lia,e]; rfl
def tbR : List (List (Sum Int Nat)):=[[],[.inr 1],[.inl 1,.inl 1],[.inr 3],[.inr 2,.inr 4],[],[.inl 1,.inl 2],[.inr 7],[.inr 6,.inr 8],[.inl 0,.inl 1],[.inl 1,.inl 1],[.inr 10,.inr 11],[.inr 9,.inr 12],[],[.inl 1,.inl 1],[.inr 15],[.inr 14,.inr 16],[.inl 1,.inl 2],[.inl 1,.inl 2],[.inr 18,.inr 19],[.inr 17,.inr 20],[],[.inl 1,.inl 3],[.inr 23],[.inl 0,.inl 1],[.inl 2,.inl 3],[.inr 25,.inr 26],[.inr 22,.inr 24,.inr 27],[.inl 1,.inl 4],[.inl 0,.inl 1],[.inl 3,.inl 4],[.inr 29,.inr 30,.inr 31],[.inr 28,.inr 32],[],[.inl 1,.inl 2],[.inr 35],[.inl 0,.inl 1],[.inl 1,.inl 2],[.inr 37,.inr 38],[.inl 0,.inl 1],[.inl 0,.inl 1],[.inl 1,.inl 1],[.inr 40,.inr 41,.inr 42],[.inr 34,.inr 36,.inr 39,.inr 43],[.inl 1,.inl 6],[.inl 1,.inl 3],[.inl 1,.inl 3],[.inl 1,.inl 6],[.inr 45,.inr 46,.inr 47,.inr 48],[.inr 44,.inr 49]]
def relR (d : Nat) : Sum Int Nat→V
  | .inl i => .int i
  | .inr k => .ref (d + k)
theorem tbT_R (d : Nat) : tbT d = tbR.map (List.map (relR d)):=rfl
def lookR : Nat→PyData→Sum Int Nat→Bool
  | _,.int i,.inl k => i == k
  | n + 1,.tuple ds,.inr (a + 1) => match tbR[a]? with
    | some xs => (ds.length == xs.length) && (ds.zip xs).all fun q => lookR n q.1 q.2
    | none => false
  | _,_,_ => false
theorem lookR_du {d : Nat} {T : Hp} (hT : atT d T) : ∀ (n : Nat) (x : PyData) (v : Sum Int Nat),lookR n x v = true→Du T x (relR d v)
  | n,.int i,.inl k,e => by
    have : i = k := by cases n <;> simpa [lookR] using e
    subst this; rw [Du]; rfl
  | n + 1,.tuple ds,.inr (a + 1),e => by
    rw [lookR] at e
    split at e
    · rename_i xs q
      simp only [Bool.and_eq_true,beq_iff_eq,List.all_eq_true] at e
      obtain ⟨e2,e3⟩:=e
      rw [Du]
      refine ⟨d + (a + 1),xs.map (relR d),rfl,?_,?_⟩
      · have:=hT a (xs.map (relR d)) (by rw [tbT_R,List.getElem?_map,q]; rfl)
        rwa [show d + 1 + a = d + (a + 1) by lia] at this
      · have ih:=lookR_du hT n
        clear q
        induction ds generalizing xs with
        | nil => cases xs with
          | nil => exact .nil
          | cons _ _ => simp at e2
        | cons y ys ihd => cases xs with
          | nil => simp at e2
          | cons u us => exact .cons (ih y u (e3 (y,u) (by simp))) (ihd us (by simpa using e2) fun q hq => e3 q (by simp [hq]))
    · cases e
  | 0,.tuple _,v,e => by cases v <;> simp [lookR] at e
  | _,.none,v,e => by cases v <;> simp [lookR] at e
  | _,.bool _,v,e => by cases v <;> simp [lookR] at e
  | _,.str _,v,e => by cases v <;> simp [lookR] at e
  | _,.list _,v,e => by cases v <;> simp [lookR] at e
  | _,.dict _,v,e => by cases v <;> simp [lookR] at e
  | n + 1,.tuple _,.inl _,e => by simp [lookR] at e
  | n + 1,.tuple _,.inr 0,e => by simp [lookR] at e
  | n,.int _,.inr _,e => by cases n <;> simp [lookR] at e
theorem nam_at {d : Nat} {T : Hp} {x : Str} {y : PyData} (hT : atT d T) (e : namT x = some y) : ∃ k : Nat,valV (tbK d) (.inr x) = some (.ref (d + k))∧Du T y (.ref (d + k)) := by
  unfold namT at e
  have go : ∀ (k : Nat) (z : PyData),lookR 4 z (.inr k) = true→Du T z (.ref (d + k)):=fun k z h => lookR_du hT 4 z (.inr k) h
  split at e
  · rename_i q; subst q; cases e; exact ⟨5,rfl,go _ _ (by decide +kernel)⟩
  split at e
  · rename_i q; subst q; cases e; exact ⟨13,rfl,go _ _ (by decide +kernel)⟩
  split at e
  · rename_i q; subst q; cases e; exact ⟨21,rfl,go _ _ (by decide +kernel)⟩
  split at e
  · rename_i q; subst q; cases e; exact ⟨33,rfl,go _ _ (by decide +kernel)⟩
  split at e
  · rename_i q; subst q; cases e; exact ⟨50,rfl,go _ _ (by decide +kernel)⟩
  · cases e
theorem nam_some (d : Nat) (x : Str) : (valV (tbK d) (.inr x)).isSome = (namT x).isSome := by
  by_cases h1 : x = "plain"
  · subst h1; rfl
  by_cases h2 : x = "middle"
  · subst h2; rfl
  by_cases h3 : x = "heel"
  · subst h3; rfl
  by_cases h4 : x = "third"
  · subst h4; rfl
  by_cases h5 : x = "fourth"
  · subst h5; rfl
  have e1 : namT x = none := by unfold namT; rw [if_neg h1,if_neg h2,if_neg h3,if_neg h4,if_neg h5]
  have e2 : valV (tbK d) (.inr x) = none := by
    unfold valV tbK
    simp [Sum.inr.injEq,eq_comm,h1,h2,h3,h4,h5]
  rw [e1,e2]; rfl
section
variable {X : Cx} {d : Nat} {x : Str} {i : Nat} {np xp pos : Pos}
theorem PE.kt {e : Expr} {t : TE} (h : PE X e t) : PE X e (fun σ H Q => KTb X.mg H→t σ H Q):=fun pins s σ H Q I k => h pins s σ H Q I (k I.kt)
theorem PT.kt {e : Expr} {t : TT} (h : PT X e t) : PT X e (fun σ H Q => KTb X.mg H→t σ H Q):=fun pins s σ H Q I k => h pins s σ H Q I (k I.kt)
theorem de_nam (hu : X.A.units + 64 < cLine) (hg : Gl X "NAMED_TABLES") (hm : X.mg "NAMED_TABLES" = some (.ref d)) (hv : PE X (.Name x xp) (tVar i)) (hs : NoSl (.Name x xp)) :
    DE X (.Subscript (.Name "NAMED_TABLES" np) (.Name x xp) pos) (fun δ => (nm i δ).bind namGet) := by
  refine ⟨_,(pe_dget (Nat.lt_of_le_of_lt (by lia) hu) (pe_glob (v:=.ref d) hg hm rfl) hv hs).kt,fun δ z hz G0 H0 G H σ ts Q R k kt => ?_⟩
  obtain ⟨y,h1,h2⟩:=Option.bind_eq_some_iff.mp hz
  obtain ⟨v,h3,h4⟩:=R.dat _ _ (nm_eq h1)
  obtain ⟨⟨o,kd⟩,kT⟩:=kt d hm
  cases y <;> simp only [namGet] at h2 <;> try cases h2
  rename_i n
  rw [Du] at h4; subst h4
  have R':=withT_rw R kT
  obtain ⟨q,e1,e2⟩:=nam_at (withT_at R.ins kT) h2
  exact ⟨.str n,h3,d,.ref (d + q),rfl,.inl ⟨tbK d,.inr n,.inr ⟨o,kd⟩,rfl,e1.symm⟩,k _ _ _ (R'.put e2)⟩
theorem dt_namNot (hu : X.A.units + 64 < cLine) (hg : Gl X "NAMED_TABLES") (hm : X.mg "NAMED_TABLES" = some (.ref d)) (hv : PE X (.Name x xp) (tVar i)) :
    DT X (.Compare (.Name x xp) [.NotIn] [.Name "NAMED_TABLES" np] pos) (fun δ => ((nm i δ).bind (namIn true)).bind asB) := by
  refine ⟨_,(pt_cmp (pc_dnotin (Nat.lt_of_le_of_lt (by lia) hu) hv (pe_glob (v:=.ref d) hg hm rfl)) (by rfl)).kt,fun δ z hz G0 H0 G H σ ts Q R k kt => ?_⟩
  obtain ⟨q,h0,h9⟩:=Option.bind_eq_some_iff.mp hz
  have:=asB_eq h9; subst this
  obtain ⟨y,h1,h2⟩:=Option.bind_eq_some_iff.mp h0
  obtain ⟨v,h3,h4⟩:=R.dat _ _ (nm_eq h1)
  obtain ⟨⟨o,kd⟩,kT⟩:=kt d hm
  cases y <;> simp only [namIn] at h2 <;> try cases h2
  rename_i n
  rw [Du] at h4; subst h4
  refine ⟨.str n,h3,d,valV (tbK d) (.inr n),rfl,.inl ⟨tbK d,.inr n,.inr ⟨o,kd⟩,rfl,rfl⟩,_,rfl,?_⟩
  rw [nam_some]
  exact k _ _ R
end
section
variable {X : Cx} {e hi : Expr} {te tl : TE} {pos p2 : Pos}
theorem pe_strTo (he : PE X e te) (hl : PE X hi tl) : PE X (.Subscript e (.Slice none (some hi) none p2) pos)
    (fun σ H Q => te σ H fun x H1 => tl σ H1 fun z H2 => ∃ (y : Str) (i : Int),x = .str y∧z = .int i∧y.length≤sizeLine∧Q (.str (Txt.slice y none (some i))) H2) := by
  intro pins s σ H Q I h
  refine Subscript_ (thn (he pins s σ H _ I h) fun v s1 ⟨x,H1,I1,r1,q1⟩ => ?_)
  refine wpAny_Slice ?_
  rw [evalPart_none]
  refine wpAny_pure ?_
  rw [evalPart_some]
  refine thn (hl pins s1 σ H1 _ I1 q1) fun vk s3 ⟨z,H3,I3,r3,q3⟩ => ?_
  refine wpAny_pure ?_
  obtain ⟨y,i,rfl,rfl,hz,q⟩:=q3
  obtain ⟨t1,rfl⟩:=r1
  obtain ⟨t3,rfl⟩:=r3
  show wpAny (model X.prog X.w) X.A (subscriptTail e (.Slice none (some hi) none p2) (.str y t1) (.ref s3.heap.objs.size)) (EP X pins σ Q) X.xe { s3 with heap:=s3.heap.push { cls:=.type "slice",data:=.fields #[.none,.int i t3,.none] } }
  obtain ⟨T,id,hT,ht,hg⟩:=SBH.sliceItem_ns (prog:=X.prog) (w:=X.w) (A:=X.A) (E:=X.xe) (s:=s3) (x:=y) (t:=t1) (uj:=t3) (P:=fun h' => ∀ b o,s3.heap.get? b = some o→h'.get? b = some o) (Q:=EP X pins σ Q) (fun h o k b ob q => Heap.get?_push_of_some _ (k b ob q)) (fun _ _ q => q)
    (fun h' t' k kk => ⟨.str (Txt.slice y none (some i)),H3,I3.kept (t':=k) kk,⟨t',rfl⟩,q⟩) hz
  exact tail_any (ops:=[.ref s3.heap.objs.size,.str y t1]) ht hT hg (by with_unfolding_all rfl)
end
section
variable {X : Cx} {a e : Expr} {es : List Expr} {g h : Dv→Option PyData} {fs : Dv→Option (List PyData)} {pos p : Pos}
theorem carried_strs : ∀ {ys : List Str} {us : List Value},Vals (ys.map V.str) us→CarriedAll us (ys.map PyData.str)
  | [],_,.nil => .nil
  | y :: ys,_,.cons ⟨t,e⟩ r => by subst e; exact .cons (.str _ _) (carried_strs r)
def rJoin (K : PySem.W.Frag) : V→List V→Hp→VK→Prop:=fun x xs H Q => ∃ s a ys,x = .str s∧xs = [.ref a]∧SqL K H a (ys.map V.str)∧ys.length≤1000∧s.length≤1∧(∀ y∈ys,y.length≤15)∧Q (.str (Txt.join s ys)) H
theorem mt_join : MtR X "str.join" (rJoin X.K) := by
  intro pins s σ H x xs v us Q I rx rv h
  obtain ⟨z,q,ys,rfl,rfl,hq,hn,hz,hy,h⟩:=h
  obtain ⟨t,rfl⟩:=rx
  obtain ⟨u,rfl,ru⟩:=Vals.one rv
  cases ru
  obtain ⟨its,r',pl,_⟩:=I.list hq
  refine join_madeW (l:=ys) (g:=fun y => y) 15 pl.isList ?_ hy (by lia) (by lia) fun t' k => ?_
  · rw [List.map_id']; simpa using carried_strs r'
  · rw [List.map_id']; exact ⟨.str (Txt.join z ys),H,I.tok _,⟨t',rfl⟩,h⟩
abbrev sTryS (i j k : Nat) (m : List PyData→Option Xr) (fs : Dv→Option (List PyData)) : DF:=fun δ => ((fs δ).bind m).map fun r => match r with
  | .inl x => .nx (δ.set i (.d x))
  | .inr C => .nx (((δ.set k (.d (excD C))).set j (.d (excD C))).set k .no)
theorem ds_tryS {kk i j k : Nat} {fA : Addr} {fd : FuncData} {ps : List Str} {m : List PyData→Option Xr} {x : Str} {st' : Stmt} {cx y z n : Str} {Gx : Addr} {py pz pn np spos tpos hpos tp : Pos} (T : Fn X.K X.mg x st' ps fA fd) (F : FnOk X.prog X.w X.K X.mg X.base (CXW X.prog X.w) kk fA fd ps (spX m)) (hr : Room kk X.A) (hg : Gl X x) (ha : DA X.nox (e :: es) fs)
    (hB : ∀ ds C,m ds = some (.inr C)→Beneath X.K C Gx true)
    (hP : ∀ {t : TX},PEX X (.Call (.Name x p) (e :: es) [] pos) t→PS X (.Try [.Assign [.Name y py] (.Call (.Name x p) (e :: es) [] pos) spos] [.ExceptHandler (some (.Name cx np)) (some n) [.Assign [.Name z pz] (.Name n pn) tpos] hpos] [] [] tp) (tTryAs X.K Gx t i j k))
    (hdb : (x == ("__debug__" : Str)) = false := by decide) (he : starEach (e :: es) X.env = (false,eval e X.env) :: starEach es X.env := by rfl) (hpl : (backTo pos (starEach es X.env)).any (·.1) = false := by rfl) :
    DS X (.Try [.Assign [.Name y py] (.Call (.Name x p) (e :: es) [] pos) spos] [.ExceptHandler (some (.Name cx np)) (some n) [.Assign [.Name z pz] (.Name n pn) tpos] hpos] [] [] tp) (sTryS i j k m fs) := by
  obtain ⟨ta,pa,ka⟩:=ha
  refine ⟨_,hP (pex_fn T F hr hg pa hdb he hpl),fun δ r h G0 H0 G H σ D R q => ?_⟩
  obtain ⟨w,h1,rfl⟩:=Option.map_eq_some_iff.mp h
  have h1':=h1
  obtain ⟨ds,_,hm⟩:=Option.bind_eq_some_iff.mp h1'
  refine call_x (k:=kk) ka h1 R (fun x hx v G' H' R' => ?_) (fun C hC G' H' R' => ?_)
  · subst hx; exact q _ _ _ R'.setD
  · subst hC
    refine ⟨C,rfl,hB ds C hm,fun ea hea => ?_⟩
    have R2:=R'.newObj (o:=excO ea (.ref C)) hea
    have de : Du (upd G' ea (excO ea (.ref C))) (excD C) (.ref ea) := by unfold excD; rw [Du]; exact .inl ⟨ea,C,rfl,rfl,upd_same⟩
    exact q _ _ _ ((((R2.put de).put de).setD.setD).setNo k none)
end
end L2
set_option maxHeartbeats 4000000
namespace L2
open PySem PySem.Spec PyProof.Rows
section
variable {X : Cx} {pins : List (Addr×Obj)} {σ : St} {H : Hp} {s : Shared} {A : Around} {E : Value→Shared→Prop} {Q : Value→Shared→Prop} {b : Bool}
theorem isi_tup {d : PyData} {x : V} {u : Value} {tp : Addr} {dd : Option Addr} {its : List Value} {n : Nat} {sl : Array (Option Value)} (I : Inv X pins σ H s) (rx : RelV x u) (dx : Du H d x) (nd : ∀ kv,d≠.dict kv)
    (hp : s.heap.get? tp = some ⟨.type "tuple",dd,.seq its.toArray n,sl⟩) (e : PySem.W.kitAny X.K (.type (tyOf d)) its = some b) (h : ∀ tk,Q (.bool b) { s with toks:=tk }) :
    wpAny (model X.prog X.w) A (call (.builtin "isinstance") [u,.ref tp]) Q E s := by
  cases d with
  | none => rw [Du] at dx; subst dx; cases (show u = Value.none from rx); exact PySem.W.kia_tup PySem.W.kitx_none I.kIn True.intro hp e (fun z => nomatch z) h
  | bool y => rw [Du] at dx; subst dx; cases (show u = Value.bool y from rx); exact PySem.W.kia_tup PySem.W.kitx_bool I.kIn True.intro hp e (fun z => nomatch z) h
  | int i => rw [Du] at dx; subst dx; obtain ⟨t,q⟩:=(show ∃ t,u = Value.int i t from rx); cases q; exact PySem.W.kia_tup PySem.W.kitx_int I.kIn True.intro hp e (fun z => nomatch z) h
  | str y => rw [Du] at dx; subst dx; obtain ⟨t,q⟩:=(show ∃ t,u = Value.str y t from rx); cases q; exact PySem.W.kia_tup PySem.W.kitx_str I.kIn True.intro hp e (fun z => nomatch z) h
  | list ys =>
    rw [Du] at dx
    obtain ⟨a,xs,rfl,ea,_⟩:=dx
    cases (show u = Value.ref a from rx)
    obtain ⟨_,_,m,_,h1⟩:=(show ObjOk X.prog X.w H s.heap a (.lst xs) from I.hok a _ ea)
    exact PySem.W.kia_tup PySem.W.kitx_list I.kIn ⟨_,h1,rfl⟩ hp e (fun z => nomatch z) h
  | tuple ys =>
    rw [Du] at dx
    obtain ⟨a,xs,rfl,ea,_⟩:=dx
    cases (show u = Value.ref a from rx)
    obtain ⟨_,_,_,o,h1,h2,_⟩:=(show ObjOk X.prog X.w H s.heap a (.tup xs) from I.hok a _ ea)
    exact PySem.W.kia_tup PySem.W.kitx_tuple I.kIn ⟨o,h1,h2⟩ hp e (fun z => nomatch z) h
  | dict kv => exact absurd rfl (nd kv)
end
section
variable {X : Cx} {a : Expr} {f : Dv→Option PyData} {pos : Pos}
def rIsi2 (K : PySem.W.Frag) : List V→Hp→VK→Prop:=fun xs H Q => ∃ d x p b,xs = [x,.ref p]∧H p = some (.tup [.ty "list",.ty "tuple"])∧Du H d x∧(∀ kv,d≠.dict kv)∧PySem.W.kitAny K (.type (tyOf d)) [.type "list",.type "tuple"] = some b∧Q (.bl b) H
theorem call_isi2 : CallR X (.builtin "isinstance") (rIsi2 X.K) := by
  intro pins s σ H xs us Q I r h
  obtain ⟨d,x,p,b,rfl,hp,dx,nd,e,q⟩:=h
  obtain ⟨u,v,rfl,r1,r2⟩:=r.two
  cases (show v = Value.ref p from r2)
  obtain ⟨_,vs,rv,o,h1,h2,n,h3⟩:=(show ObjOk X.prog X.w H s.heap p (.tup [.ty "list",.ty "tuple"]) from I.hok p _ hp)
  obtain ⟨v1,v2,rfl,r3,r4⟩:=rv.two
  cases (show v1 = Value.type "list" from r3)
  cases (show v2 = Value.type "tuple" from r4)
  obtain ⟨cls,dd,dat,sl⟩:=o
  cases h2
  cases h3
  exact isi_tup I r1 dx nd h1 e fun tk => ⟨.bl b,H,I.tok tk,rfl,q⟩
def isSq : PyData→Bool
  | .list _ => true
  | .tuple _ => true
  | _ => false
theorem kit_sq (K : PySem.W.Frag) : ∀ d : PyData,(∀ kv,d≠.dict kv)→PySem.W.kitAny K (.type (tyOf d)) [.type "list",.type "tuple"] = some (isSq d)
  | .none,_ => by kernel_rfl
  | .bool _,_ => by kernel_rfl
  | .int _,_ => by kernel_rfl
  | .str _,_ => by kernel_rfl
  | .list _,_ => by kernel_rfl
  | .tuple _,_ => by kernel_rfl
  | .dict kv,h => absurd rfl (h kv)
theorem de_isi2 {x1 : _} {p1 p2 p3 p4 : Pos} (hg : Gl X "isinstance") (hm : X.mg "isinstance" = none) (gl : Gl X "list") (ml : X.mg "list" = none) (gt : Gl X "tuple") (mt : X.mg "tuple" = none) (ha : DE X a f)
    (hs0 : starEach [.Name "list" p3,.Name "tuple" p4] X.env = (false,eval (.Name "list" p3) X.env) :: starEach [.Name "tuple" p4] X.env := by rfl)
    (hs1 : starEach [a,.Tuple [.Name "list" p3,.Name "tuple" p4] x1 p2] X.env = (false,eval a X.env) :: starEach [.Tuple [.Name "list" p3,.Name "tuple" p4] x1 p2] X.env := by rfl) (hpl : (backTo pos (starEach [.Tuple [.Name "list" p3,.Name "tuple" p4] x1 p2] X.env)).any (·.1) = false := by rfl) :
    DE X (.Call (.Name "isinstance" p1) [a,.Tuple [.Name "list" p3,.Name "tuple" p4] x1 p2] [] pos) (fun δ => (f δ).bind (isiD isSq)) := by
  obtain ⟨ta,pa,ka⟩:=ha
  have pL : PE X (.Name "list" p3) (tC (.ty "list")):=pe_bltn gl ml PyProof.Rows.boot_list rfl (by decide) (by decide)
  have pT : PE X (.Name "tuple" p4) (tC (.ty "tuple")):=pe_bltn gt mt PyProof.Rows.boot_tuple rfl (by decide) (by decide)
  refine ⟨_,pe_callB call_isi2 hg hm PyProof.Rows.boot_isinstance (pa_cons pa (pa_cons (pe_tup (pa_cons pL (pa_cons pT pa_nil) hs0)) pa_nil) hs1) (by decide) (by decide) hs1 hpl,fun δ z hz G0 H0 G H σ ts Q R0 k => ?_⟩
  obtain ⟨x,h1,h2⟩:=Option.bind_eq_some_iff.mp hz
  obtain ⟨n1,rfl⟩:=isiD_eq h2
  refine ka δ _ h1 G0 H0 G H σ ts _ R0 fun u G1 H1 R1 => ?_
  have du:=R1.tmp _ (.head _)
  refine ⟨by decide,fun p hp => ?_⟩
  have e1:=same_new hp (.tup [V.ty "list",.ty "tuple"])
  exact ⟨x,u,p,isSq x,rfl,upd_same,(du.same R1.ins).same e1,n1,kit_sq _ x n1,k _ _ _ ((R1.drop.on e1).put (by rw [Du]))⟩
def rUpper : V→List V→Hp→VK→Prop:=fun x xs H Q => ∃ s : Str,x = .str s∧xs = []∧s.length≤1000∧((Txt.upper s).length≤3 * s.length→Q (.str (Txt.upper s)) H)
theorem mt_upper : MtR X "str.upper" rUpper := by
  intro pins s σ H x xs v us Q I rx rv h
  obtain ⟨z,rfl,rfl,hl,h⟩:=h
  obtain ⟨t,rfl⟩:=rx
  have:=rv.zero; subst this
  exact SCL.upper (by lia) fun hb => ⟨.str (Txt.upper z),H,I.tok _,⟨_,rfl⟩,h hb⟩
end
end L2
namespace Opn
open PySem PySem.W PyProof.Rows PySem.Calls
noncomputable def q0 : Pos:=⟨0,0,0,0⟩
noncomputable def o11 : Obj:={ cls:=.type "tuple",data:=.seq #[] }
noncomputable def o12 : Obj:={ cls:=.none,data:=.fields #[] }
noncomputable def o13 : Obj:={ cls:=.type "code",data:=.fields #[.str (Str.ofString "<module>") 182,.str (Str.ofString "<module>") 183,.str (Str.ofString "/claim/cut.py") 184,.int 1 0,.int 0 0,.int 0 0,.int 0 0,.int 0 0,.ref 11,.bool false,.int 181 0,.ref 12,.none,.none,.none,.none,.int 185 0,.int 1 0,.str (Str.ofString "/claim/cut.py") 186] }
noncomputable def o14 : Obj:={ cls:=.type "frame",slots:=#[some (.ref 13),some (.ref 3),some (.ref 3),none,some (.str (Str.ofString "__main__") 164),none,some (.ref 0)] }
noncomputable def objsB (P : Params) : List Obj:=(boot_heap P).objs.toList ++ [o11,o12,o13,o14]
noncomputable def nN (P : Params) (o : Params→Obj) (l r : BT) : BT:=.node (o P) l r
noncomputable def lN (P : Params) (o : Params→Obj) : BT:=.node (o P) .nil .nil
noncomputable def treeB (P : Params) : BT :=
  nN P boot_o_0 (nN P boot_o_1 (nN P boot_o_3 (lN P boot_o_7) (.node o11 .nil .nil)) (nN P boot_o_5 (lN P boot_o_9) (.node o13 .nil .nil)))
    (nN P boot_o_2 (nN P boot_o_4 (lN P boot_o_8) (.node o12 .nil .nil)) (nN P boot_o_6 (lN P boot_o_10) (.node o14 .nil .nil)))
noncomputable def lifeB : Life:=Life.mk [] [] [] 0 [] [] false #[] [] 0 false false false 0 [2000,10,10] false 0 true [] [] 0 false
noncomputable def sA (w : World) (os : OsState) : Shared:=⟨⟨⟨objsB w.params⟩,lifeB⟩,#[],boot_drawn,187,os⟩
noncomputable def sB (w : World) (os : OsState) : SharedT:=⟨treeB w.params,15,lifeB,#[],boot_drawn,187,os⟩
noncomputable def envB (p : Program) : Env:={ scope:=p.main.scope,locals:=mainNs,globals:=mainNs,cells:=[],code:=.ref 13,frame:=some 14 }
noncomputable def cB (p : Program) : Code:=.body (behindTheImports p) (envB p)
noncomputable abbrev annB : Option Value:=some (.ref 6)
noncomputable abbrev bB : List Frame:=[topFrame q0]
noncomputable def runB (p : Program) (M : Nat) (w : World) (os : OsState) : Option (Flow×SharedT×Code×Pos) :=
  PySem.W.Fast.tw10110043849684766642 PySem.W.Fast.tw14364793385576792824 p w 11 annB 1 M (sB w os) (piecesOf (behindTheImports p) (envB p) (cB p) q0 bB)
noncomputable def endB (p : Program) (M : Nat) (w : World) (os : OsState) : SharedT:=match runB p M w os with | some (_,s,_) => s | none => sB w os
theorem runB_eq {p : Program} {M : Nat} {w : World} {os : OsState} {r : Option (Flow×SharedT×Code×Pos)} (h : runB p M w os = r) :
    segRunT treeTable p w 11 annB 1 M (sB w os) (piecesOf (behindTheImports p) (envB p) (cB p) q0 bB) = r := by
  have e : segRunT treeTable = PySem.W.Fast.tw10110043849684766642 PySem.W.Fast.tw14364793385576792824:=congr PySem.W.Fast.te10110043849684766642 PySem.W.Fast.te14364793385576792824
  rw [e]; exact h
theorem run_of {p : Program} {M M0 : Nat} {posE : Pos} {w : World} {os : OsState}
    (pre : topGo treeTable p w 11 annB 12 ⟨boot_heap w.params,#[],boot_drawn,boot_toks,os⟩ (topStub p) = some (sA w os,⟨denote treeTable (cB p),cB p,q0,bB⟩))
    (blk : segRun treeTable p w 11 annB 1 1 (sA w os) (blockOf (behindTheImports p) (envB p) (cB p) q0 bB) = some (.next,(sB w os).abs,cB p,q0))
    (seg : runB p M w os = some (.next,endB p M w os,cB p,posE))
    (fin : ∀ s,topRun treeTable p w 11 annB 2 s (restOf [] (envB p) (cB p) posE bB) = some s) (hM : M0 = 12 + (1 + (M + 2))) :
    topRun treeTable p w 11 annB M0 ⟨boot_heap w.params,#[],boot_drawn,boot_toks,os⟩ (topStub p) = some (endB p M w os).abs := by
  subst hM
  refine go_top pre (piece_block blk ?_)
  have h:=piece_app (rest:=[]) (segRun_of (runB_eq seg)) (fin _)
  rw [List.append_nil] at h
  exact h
theorem left_of {p q : Program} {loose : List Str} {Xt : Shared→Bool} {α : Type} {Yf : Shared→α} {Ya : World→α} {N M : Nat} {S : World→OsState→Shared}
    (open_ : ∀ w : World,(fencedOpening treeTable p w N).map (fun s => (s.heap,s.gens,s.drawn,s.toks)) = some (boot_heap w.params,#[],boot_drawn,boot_toks))
    (size : ∀ w : World,((boot_heap w.params).isNs mainGlobals && (#[] : Array GenState).size == 0,(boot_heap w.params).objs.size,(boot_heap w.params).nsMap mainGlobals "__annotations__") = (true,11,annB))
    (run : ∀ w os,topRun treeTable p w 11 annB M ⟨boot_heap w.params,#[],boot_drawn,boot_toks,os⟩ (topStub p) = some (S w os)) (le : Nat.ble M N = true)
    (ok : ∀ w os,(staticsOk (importedModules p.main.body) (boot_heap w.params) (S w os).heap && namesBound p (S w os).heap && gensDone (S w os) && laidKept (boot_heap w.params) (S w os).heap) = true)
    (seen : ∀ w os,openSeen q loose (importedModules p.main.body) Xt true (S w os) = openGood q loose)
    (hY : ∀ w os,Yf (S w os) = Ya w) : LeftO p q loose Xt Yf Ya N:=fun w => by
  obtain ⟨⟨h,gs,d,k,os⟩,e,e'⟩:=Option.map_eq_some_iff.mp (open_ w)
  obtain ⟨rfl,rfl,rfl,rfl⟩ : h = boot_heap w.params∧gs = #[]∧d = boot_drawn∧k = boot_toks := by simpa using e'
  obtain ⟨z1,z2,z3⟩ : _∧_∧_ := by simpa only [Prod.mk.injEq] using size w
  have l1:=ok w os
  have r:=topRun_mono (N - M) _ _ _ _ (run w os)
  rw [show M + (N - M) = N by have:=Nat.le_of_ble_eq_true le; lia] at r
  have t : topFrom treeTable p w N ⟨boot_heap w.params,#[],boot_drawn,boot_toks,os⟩ = some (S w os) := by
    unfold topFrom
    dsimp only
    rw [z1,z2,z3,r]
    show (match staticsOk (importedModules p.main.body) (boot_heap w.params) (S w os).heap && namesBound p (S w os).heap && gensDone (S w os) && laidKept (boot_heap w.params) (S w os).heap with | true => _ | false => _) = _
    rw [l1]
  unfold openEnds
  rw [e]
  show (topFrom treeTable p w N _).map _ = _
  rw [t]
  exact congrArg some (Prod.ext (seen w os) (hY w os))
theorem sizeB (w : World) : ((boot_heap w.params).isNs mainGlobals && (#[] : Array GenState).size == 0,(boot_heap w.params).objs.size,(boot_heap w.params).nsMap mainGlobals "__annotations__") = (true,11,annB) := by kernel_rfl
end Opn
namespace Q30
open PySem L2
def top (i : Nat) : Stmt:=PySem.Challenge.pw_stepgrove_k30_tables_of_names.main.body.getD i (.Pass ⟨0,0,0,0⟩)
abbrev s_is_fraction : Stmt:=top 15
abbrev s_are_fractions : Stmt:=top 16
abbrev s_is_whole : Stmt:=top 17
abbrev s_greatest_divisor : Stmt:=top 18
abbrev s_is_table : Stmt:=top 22
abbrev s_table_of : Stmt:=top 23
abbrev s_are_rows : Stmt:=top 24
abbrev s__law_mixed : Stmt:=top 26
abbrev s__law_pile : Stmt:=top 27
abbrev s__law_take : Stmt:=top 28
abbrev s__law_only : Stmt:=top 29
abbrev s__law_tables : Stmt:=top 30
abbrev s__law_same : Stmt:=top 31
abbrev s__law_asked : Stmt:=top 32
abbrev s__law_changed : Stmt:=top 33
abbrev s__law_good : Stmt:=top 34
abbrev s__law_word : Stmt:=top 35
abbrev s_law : Stmt:=top 36
theorem nnt {n : String} : clsV (.ty n)≠.none:=fun z => nomatch z
def spGd : Sp:=fun vs H Q _ => ∃ a b,vs = [.int a,.int b]∧Q (.int (FM.gi a b)) H
section
variable {P : Program} {w : World} {K : PySem.W.Frag} {mg : Str→Option Value} {base : Heap} {f g : Addr} {fd : FuncData}
theorem sc_greatest_divisor : FnScope ["one", "other", "greater", "lesser", "rest"] ["one", "other"] (defScope s_greatest_divisor):=⟨rfl,rfl,rfl,by decide +kernel,rfl,by decide +kernel,by decide +kernel⟩
def mu3 (σ : St) : Nat:=match σ[3]? with | some (some (V.int l)) => l.natAbs | _ => 0
theorem ok_greatest_divisor (F : Fn K mg "greatest_divisor" s_greatest_divisor ["one", "other"] f fd) (z_abs : mg "abs" = none) : FnOk P w K mg base CX0 1 f fd ["one", "other"] spGd := by
  have sc:=sc_greatest_divisor
  refine F.F.ok (k:=0) sc (fun vs H Q E h => ?_) (fun cdv A outer s H vs Q E hr h => ?_)
  · obtain ⟨a,b,rfl,_⟩:=h
    rfl
  obtain ⟨a,b,rfl,q⟩:=h
  refine ⟨_,(pss_cons (ps_set (i:=2) sc.nd rfl (Or.inl rfl) (pe_callB call_abs rfl z_abs PyProof.Rows.boot_abs (pa_cons (pv 0) pa_nil)))
  (pss_cons (ps_set (i:=3) sc.nd rfl (Or.inl rfl) (pe_callB call_abs rfl z_abs PyProof.Rows.boot_abs (pa_cons (pv 1) pa_nil)))
  (pss_cons (ps_while PassesOwn.never (pt_cmpR op_ne (pv 3) pe_int (nomark _))
    (pss_cons (ps_set (i:=4) sc.nd rfl (Or.inl rfl) (pe_op op_modN (pv 2) (pv 3)))
    (pss_cons (ps_set (i:=2) sc.nd rfl (Or.inl rfl) (pv 3))
    (pss_one (ps_set (i:=3) sc.nd rfl (Or.inl rfl) (pv 4))))))
  (pss_one (ps_ret (pv 2)))))),?_⟩
  refine ⟨_,rfl,_,rfl,_,rfl,_,rfl,?_⟩
  refine while_by (fun σ H' => ∃ g l r,σ = [some (.int a),some (.int b),some (.int g),some (.int l),r]∧H = H'∧Int.gcd g l = Int.gcd a b∧0≤g∧0≤l) (fun σ _ => mu3 σ) ?_ ?_ ?_
  · exact ⟨_,_,_,rfl,rfl,FM.gcd_abs a b,FM.abs_nonneg a,FM.abs_nonneg b⟩
  · rintro σ H' ⟨g,l,r,rfl,rfl,hg,h0,h1⟩
    refine ⟨_,rfl,rfl,_,rfl,ite2 (fun c => ?_) (fun c => ?_)⟩
    · have hl : l≠0:=fun z => by subst z; simp at c
      refine ⟨_,rfl,_,rfl,_,_,rfl,rfl,hl,_,rfl,_,rfl,⟨_,_,_,rfl,rfl,?_,h1,FM.fmod_nonneg hl h1⟩,?_⟩
      · rw [FM.gcd_step]; exact hg
      · exact FM.fmod_less g l hl
    · have hl : l = 0 := by simpa using c
      subst hl
      refine ⟨_,rfl,?_⟩
      rw [FM.gi_end hg h0]
      exact q
  · exact fun σ H Q Q' hq ⟨v,e,s,k,e2,q⟩ => ⟨v,e,s,k,e2,hq _ _ q⟩
end
def spMixed : Sp:=fun vs H Q _ => ∃ c k,vs = [.int c,.int k]∧∀ r : Int,0≤r→r < 2147483579→Q (.int r) H
def spPile (K : PySem.W.Frag) : Sp:=fun vs H Q _ => ∃ (a : Addr) (ns : List Int) (k : Int),vs = [.ref a,.int k]∧SqL K H a (ns.map V.int)∧0≤k ∧
  ∀ (l : Addr) (H' : Hp) (x : Int),Same H H'→H l = none→H' l = some (.lst [.int x])→Q (.ref l) H'
def spTake : Sp:=fun vs H Q _ => ∃ (l : Addr) (x n : Int),vs = [.ref l,.int n]∧H l = some (.lst [.int x])∧0 < n∧n < 2 ^ 64∧∀ r y : Int,0≤r→r < n→Q (.int r) (upd H l (.lst [.int y]))
theorem mulC {i j : Int} (h1 : -18446744073709551616 < j) (h2 : j < 18446744073709551616) : CMul i j∨CMulW i j:=.inl (.inr ⟨h1,h2⟩)
theorem mulL {i j : Int} (h1 : -18446744073709551616 < i) (h2 : i < 18446744073709551616) : CMul i j∨CMulW i j:=.inl (.inl ⟨h1,h2⟩)
section
variable {P : Program} {w : World} {K : PySem.W.Frag} {mg : Str→Option Value} {base : Heap} {f g : Addr} {fd gd : FuncData}
theorem sc__law_mixed : FnScope ["_law_cell", "_law_k", "_law_number"] ["_law_cell", "_law_k"] (defScope s__law_mixed):=⟨rfl,rfl,rfl,by decide +kernel,rfl,by decide +kernel,by decide +kernel⟩
theorem ok__law_mixed (F : Fn K mg "_law_mixed" s__law_mixed ["_law_cell", "_law_k"] f fd) : FnOk P w K mg base CX0 1 f fd ["_law_cell", "_law_k"] spMixed := by
  have sc:=sc__law_mixed
  refine F.F.ok (k:=0) sc (fun vs H Q E h => ?_) (fun cdv A outer s H vs Q E hr h => ?_)
  · obtain ⟨a,b,rfl,_⟩:=h
    rfl
  obtain ⟨c,k,rfl,q⟩:=h
  refine ⟨_,(pss_cons (ps_set (i:=2) sc.nd rfl (Or.inl rfl) (pe_op op_mod (pe_op op_add (pe_op op_add (pe_op op_mulW (pe_op op_mod (pv 0) pe_int) pe_int) (pe_op op_mulW (pv 1) pe_int)) pe_int) pe_int))
  (pss_cons (ps_set (i:=2) sc.nd rfl (Or.inl rfl) (pe_op op_mod (pe_op op_mulW (pv 2) (pv 2)) pe_int))
  (pss_one (ps_ret (pe_op op_mod (pe_op op_mulW (pv 2) (pe_op op_add (pv 2) pe_int)) pe_int))))),?_⟩
  refine ⟨_,rfl,_,_,rfl,rfl,(by show (0 : Int) < 2147483647; decide),_,_,rfl,rfl,mulC (by decide) (by decide),_,rfl,_,_,rfl,rfl,mulC (by decide) (by decide),_,_,rfl,rfl,_,_,rfl,rfl,_,_,rfl,rfl,(by show (0 : Int) < 2147483629; decide),?_⟩
  generalize (c % 2147483647 * 48271 + k * 69621 + 11) = z
  have z0 : 0≤z % 2147483629:=Int.emod_nonneg _ (by decide)
  have z1 : z % 2147483629 < 2147483629:=Int.emod_lt_of_pos _ (by decide)
  refine ⟨_,rfl,_,rfl,_,_,rfl,rfl,mulC (by lia) (by lia),_,_,rfl,rfl,(by show (0 : Int) < 2147483587; decide),?_⟩
  generalize (z % 2147483629 * (z % 2147483629)) = y
  have y0 : 0≤y % 2147483587:=Int.emod_nonneg _ (by decide)
  have y1 : y % 2147483587 < 2147483587:=Int.emod_lt_of_pos _ (by decide)
  refine ⟨_,rfl,_,rfl,_,_,rfl,rfl,_,_,rfl,rfl,mulC (by lia) (by lia),_,_,rfl,rfl,(by show (0 : Int) < 2147483579; decide),?_⟩
  exact q _ (Int.emod_nonneg _ (by decide)) (Int.emod_lt_of_pos _ (by decide))
theorem sc__law_pile : FnScope ["_law_script", "_law_k", "_law_cell", "_law_found", "_law_j"] ["_law_script", "_law_k"] (defScope s__law_pile):=⟨rfl,rfl,rfl,by decide +kernel,rfl,by decide +kernel,by decide +kernel⟩
theorem ok__law_pile (F : Fn K mg "_law_pile" s__law_pile ["_law_script", "_law_k"] f fd) (T__law_mixed : Fn K mg "_law_mixed" s__law_mixed ["_law_cell", "_law_k"] g gd)
    (G__law_mixed : FnOk P w K mg base CX0 1 g gd ["_law_cell", "_law_k"] spMixed) (z_len : mg "len" = none) (z_range : mg "range" = none) : FnOk P w K mg base CX0 2 f fd ["_law_script", "_law_k"] (spPile K) := by
  have sc:=sc__law_pile
  refine F.F.ok (k:=1) sc (fun vs H Q E h => ?_) (fun cdv A outer s H vs Q E hr h => ?_)
  · obtain ⟨a,ns,k,rfl,_⟩:=h
    rfl
  obtain ⟨a,ns,k,rfl,hS,h0,q⟩:=h
  refine ⟨_,(pss_cons (ps_set (i:=2) sc.nd rfl (Or.inl rfl) pe_int)
  (pss_cons (ps_if (pt_cmpR op_lt (pv 1) (pe_callB call_len_seq rfl z_len PySem.boot_len (pa_cons (pv 0) pa_nil)) (nomark _))
    (pss_one (ps_set (i:=2) sc.nd rfl (Or.inl rfl) (pe_ix ix_list (pv 0) (pv 1) (fun _ _ => rfl))))
    pss_nil)
  (pss_cons (ps_if (pt_cmpR op_ge (pv 2) (pe_op op_pow pe_int pe_int) (nomark _))
    (pss_one (ps_ret (pe_lst (pa_cons (pe_op op_sub (pv 2) (pe_op op_pow pe_int pe_int)) pa_nil))))
    pss_nil)
  (pss_cons (ps_set (i:=3) sc.nd rfl (Or.inl rfl) pe_int)
  (pss_cons (ps_for PassesOwn.never rfl (pi_range1 rfl z_range (pa_cons pe_int pa_nil)) (pg_name (i:=4) sc.nd rfl (Or.inl rfl))
    (pss_one (ps_set (i:=3) sc.nd rfl (Or.inl rfl) (pe_op op_add (pe_op op_mulW (pv 3) pe_int) (pe_fn T__law_mixed G__law_mixed hr rfl (pa_cons (pv 2) (pa_cons (pe_op op_add (pe_op op_add (pe_op op_mulW pe_int (pv 1)) (pe_op op_mulW pe_int (pv 4))) (pe_op op_mulW (pv 4) (pv 4))) pa_nil)))))))
  (pss_one (ps_ret (pe_lst (pa_cons (pv 3) pa_nil))))))))),?_⟩
  try dsimp only [gName]
  refine seq_join (fun σ' H' => ∃ c : Int,σ' = [some (.ref a),some (.int k),some (.int c),none,none]∧H = H') (fun nx hn => ?_) ?_
  · exact hn _ _ ⟨0,rfl,rfl⟩
  rintro _ _ ⟨_,rfl,rfl⟩
  try dsimp only [gName]
  refine seq_join (fun σ' H' => ∃ c : Int,σ' = [some (.ref a),some (.int k),some (.int c),none,none]∧H = H') (fun nx hn => ?_) ?_
  · refine ⟨_,rfl,_,rfl,a,_,rfl,.inl hS,_,_,rfl,rfl,_,rfl,ite2 (fun c => ?_) (fun c => ?_)⟩
    · have c' : k < (((ns.map V.int).length : Nat) : Int):=of_decide_eq_true c
      rw [List.length_map] at c'
      have hk : k.toNat < ns.length := by lia
      have hat : atI (ns.map V.int) k = some (.int ns[k.toNat]) := by
        have z:=atI_nat (xs:=ns.map V.int) (j:=k.toNat) (v:=.int ns[k.toNat]) (by rw [List.getElem?_map,List.getElem?_eq_getElem hk]; rfl)
        rwa [show ((k.toNat : Nat) : Int) = k by lia] at z
      exact ⟨_,rfl,_,rfl,a,_,_,_,rfl,rfl,hS,hat,hn _ _ ⟨_,rfl,rfl⟩⟩
    · exact hn _ _ ⟨_,rfl,rfl⟩
  rintro _ _ ⟨c,rfl,rfl⟩
  refine ⟨_,rfl,_,_,rfl,rfl,⟨by decide,by decide,by decide⟩,_,_,rfl,rfl,_,rfl,ite2 (fun _ => ?_) (fun _ => ?_)⟩
  · refine ⟨_,rfl,_,_,rfl,rfl,⟨by decide,by decide,by decide⟩,_,_,rfl,rfl,sz1,fun p hp => ?_⟩
    exact q p _ _ (same_new hp _) hp upd_same
  · refine ⟨6,rfl,by decide,by decide,for_range (n:=6) (fun _ σ H' => ∃ fo jj,σ = [some (.ref a),some (.int k),some (.int c),some (.int fo),jj]∧H = H') ⟨0,none,rfl,rfl⟩ ?_ ?_⟩
    · rintro i σ H' hi ⟨fo,jj,rfl,rfl⟩
      refine ⟨_,rfl,_,_,rfl,rfl,mulC (by decide) (by decide),_,rfl,_,rfl,_,_,rfl,rfl,mulL (by decide) (by decide),_,rfl,_,_,rfl,rfl,mulL (by decide) (by decide),_,_,rfl,rfl,_,rfl,_,rfl,_,_,rfl,rfl,mulL (by lia) (by lia),_,_,rfl,rfl,_,_,rfl,fun r _ _ => ⟨_,_,rfl,rfl,_,_,rfl,rfl⟩⟩
    · rintro σ H' ⟨fo,jj,rfl,rfl⟩
      refine ⟨_,rfl,sz1,fun p hp => ?_⟩
      exact q p _ _ (same_new hp _) hp upd_same
theorem sc__law_take : FnScope ["_law_pile_here", "_law_size", "_law_digit"] ["_law_pile_here", "_law_size"] (defScope s__law_take):=⟨rfl,rfl,rfl,by decide +kernel,rfl,by decide +kernel,by decide +kernel⟩
theorem ok__law_take (F : Fn K mg "_law_take" s__law_take ["_law_pile_here", "_law_size"] f fd) : FnOk P w K mg base CX0 1 f fd ["_law_pile_here", "_law_size"] spTake := by
  have sc:=sc__law_take
  refine F.F.ok (k:=0) sc (fun vs H Q E h => ?_) (fun cdv A outer s H vs Q E hr h => ?_)
  · obtain ⟨l,x,n,rfl,_⟩:=h
    rfl
  obtain ⟨l,x,n,rfl,hl,h0,h1,q⟩:=h
  refine ⟨_,(pss_cons (ps_set (i:=2) sc.nd rfl (Or.inl rfl) (pe_op op_modN (pe_ix ix_list (pv 0) pe_int (fun _ _ => rfl)) (pv 1)))
  (pss_cons (ps_asg (pe_op op_fdivW (pe_ix ix_list (pv 0) pe_int (fun _ _ => rfl)) (pv 1)) (pg_sub (pv 0) pe_int set_list))
  (pss_one (ps_ret (pv 2))))),?_⟩
  refine ⟨_,rfl,_,_,_,_,rfl,rfl,SqL.of hl,rfl,_,rfl,_,_,rfl,rfl,(by show n≠0; lia),?_⟩
  refine ⟨_,rfl,_,_,_,_,rfl,rfl,SqL.of hl,rfl,_,rfl,_,_,rfl,rfl,⟨by lia,64,by decide,by lia⟩,_,rfl,l,_,_,0,rfl,rfl,hl,rfl,_,rfl,?_⟩
  exact q _ _ (Int.fmod_nonneg_of_pos x h0) (Int.fmod_lt_of_pos x h0)
end
def DU (H : Hp) (d : PyData) (v : V) : Prop:=∃ N : Nat,∀ l,N≤l→Dt l H d v
def DUs (H : Hp) (ds : List PyData) (xs : List V) : Prop:=∃ N : Nat,∀ l,N≤l→DtAll l H ds xs
theorem DU.same {H H' : Hp} {d : PyData} {v : V} (h : DU H d v) (e : Same H H') : DU H' d v:=let ⟨N,k⟩:=h; ⟨N,fun l hl => (k l hl).same e⟩
theorem DU.int {H : Hp} {i : Int} : DU H (.int i) (.int i):=⟨0,fun _ _ => .int⟩
theorem DU.bool {H : Hp} {i : Bool} : DU H (.bool i) (.bl i):=⟨0,fun _ _ => .bool⟩
theorem DU.non {H : Hp} : DU H .none .non:=⟨0,fun _ _ => .non⟩
theorem DU.str {H : Hp} {x : Str} : DU H (.str x) (.str x):=⟨0,fun _ _ => .str⟩
theorem DUs.nil {H : Hp} : DUs H [] []:=⟨0,fun _ _ => .nil⟩
theorem DUs.cons {H : Hp} {d : PyData} {ds : List PyData} {x : V} {xs : List V} (h : DU H d x) (k : DUs H ds xs) : DUs H (d :: ds) (x :: xs) :=
  let ⟨N,a⟩:=h; let ⟨M,b⟩:=k; ⟨max N M,fun l hl => .cons (a l (by lia)) (b l (by lia))⟩
theorem DU.lst {H : Hp} {a : Addr} {ds : List PyData} {xs : List V} (h : H a = some (.lst xs)) (k : DUs H ds xs) : DU H (.list ds) (.ref a) :=
  let ⟨N,b⟩:=k; ⟨max N (a + 1),fun l hl => .lst (Nat.ne_of_lt (show a < l from Nat.lt_of_lt_of_le (Nat.lt_succ_self a) (Nat.le_trans (Nat.le_max_right _ _) hl))) h (b l (by lia))⟩
theorem DU.tup {H : Hp} {a : Addr} {ds : List PyData} {xs : List V} (h : H a = some (.tup xs)) (k : DUs H ds xs) : DU H (.tuple ds) (.ref a) :=
  let ⟨N,b⟩:=k; ⟨max N (a + 1),fun l hl => .tup (Nat.ne_of_lt (show a < l from Nat.lt_of_lt_of_le (Nat.lt_succ_self a) (Nat.le_trans (Nat.le_max_right _ _) hl))) h (b l (by lia))⟩
mutual
theorem dt_du {c : Addr} {H : Hp} : ∀ {d : PyData} {v : V},Dt c H d v→DU H d v
  | .none,_,h => by rw [Dt] at h; subst h; exact .non
  | .bool _,_,h => by rw [Dt] at h; subst h; exact .bool
  | .int _,_,h => by rw [Dt] at h; subst h; exact .int
  | .str _,_,h => by rw [Dt] at h; subst h; exact .str
  | .tuple _,_,h => by
    rw [Dt] at h
    obtain ⟨a,xs,rfl,n,h1,h2⟩:=h
    exact .tup h1 (dtAll_du h2)
  | .list _,_,h => by
    rw [Dt] at h
    obtain ⟨a,xs,rfl,n,h1,h2⟩:=h
    exact .lst h1 (dtAll_du h2)
  | .dict _,_,h => by rw [Dt] at h; exact h.elim
theorem dtAll_du {c : Addr} {H : Hp} : ∀ {ds : List PyData} {xs : List V},DtAll c H ds xs→DUs H ds xs
  | [],_,h => by rw [DtAll] at h; subst h; exact .nil
  | _ :: _,_,h => by
    rw [DtAll] at h
    obtain ⟨x,r,rfl,h1,h2⟩:=h
    exact .cons (dt_du h1) (dtAll_du h2)
end
def isFrD : PyData→Bool
  | .tuple [.int a,.int b] => decide (1≤b) && (FM.gi a b == 1)
  | _ => false
theorem isFrD_of {ds : List PyData} (h : ds.length≠2∨∃ d0 d1,ds = [d0,d1]∧((isIntD d0 && !isBoolD d0) = false∨(isIntD d1 && !isBoolD d1) = false)) : isFrD (.tuple ds) = false := by
  rcases h with h | ⟨d0,d1,rfl,h⟩
  · match ds,h with
    | [],_ => rfl
    | [a],_ => cases a <;> rfl
    | [_,_],h => exact absurd rfl h
    | a :: b :: _ :: _,_ => cases a <;> first | rfl | (cases b <;> rfl)
  · cases d0 <;> first | rfl | (cases d1 <;> first | rfl | (exfalso; rcases h with h | h <;> exact absurd h (by simp [isIntD,isBoolD])))
def spIsWh : Sp:=fun vs H Q _ => ∃ l d v,vs = [v]∧Dt l H d v∧Q (.bl (isIntD d && !isBoolD d)) H
def spIsFr : Sp:=fun vs H Q _ => ∃ l d v,vs = [v]∧Dt l H d v∧Q (.bl (isFrD d)) H
theorem whole_int {d : PyData} (h : (isIntD d && !isBoolD d) = true) : ∃ i,d = .int i := by
  cases d <;> first | exact ⟨_,rfl⟩ | (exact absurd h (by simp [isIntD,isBoolD])) | (rename_i b; cases b <;> exact absurd h (by decide))
section
variable {P : Program} {w : World} {K : PySem.W.Frag} {mg : Str→Option Value} {base : Heap} {f g1 g2 : Addr} {fd gd1 gd2 : FuncData}
theorem sc_is_whole : FnScope ["thing"] ["thing"] (defScope s_is_whole):=⟨rfl,rfl,rfl,by decide +kernel,rfl,by decide +kernel,by decide +kernel⟩
theorem ok_is_whole (F : Fn K mg "is_whole" s_is_whole ["thing"] f fd) (z_isinstance : mg "isinstance" = none) (z_int : mg "int" = none) (z_bool : mg "bool" = none) : FnOk P w K mg base CX0 1 f fd ["thing"] spIsWh := by
  have sc:=sc_is_whole
  refine F.F.ok (k:=0) sc (fun vs H Q E h => ?_) (fun cdv A outer s H vs Q E hr h => ?_)
  · obtain ⟨l,d,v,rfl,_⟩:=h
    rfl
  obtain ⟨l,d,v,rfl,hd,q⟩:=h
  refine ⟨_,(pss_one (ps_ret (pe_and (pe_callB call_isi rfl z_isinstance PyProof.Rows.boot_isinstance (pa_cons (pv 0) (pa_cons (pe_bltn (v:=.ty "int") rfl z_int PyProof.Rows.boot_int rfl) pa_nil))) (pe_one (pe_not (pe_callB call_isi rfl z_isinstance PyProof.Rows.boot_isinstance (pa_cons (pv 0) (pa_cons (pe_bltn (v:=.ty "bool") rfl z_bool PyProof.Rows.boot_bool rfl) pa_nil)))))))),?_⟩
  refine ⟨_,rfl,_,_,_,_,rfl,nnt,hd.ty,kit_intD K d hd.nodict,_,rfl,ite2 (fun c => ⟨_,rfl,_,_,_,_,rfl,nnt,hd.ty,kit_boolD K d hd.nodict,_,rfl,?_⟩) (fun c => ?_)⟩
  · rw [c,Bool.true_and] at q; exact q
  · rw [Bool.eq_false_iff.mpr c,Bool.false_and] at q; exact q
theorem sc_is_fraction : FnScope ["thing"] ["thing"] (defScope s_is_fraction):=⟨rfl,rfl,rfl,by decide +kernel,rfl,by decide +kernel,by decide +kernel⟩
theorem ok_is_fraction (F : Fn K mg "is_fraction" s_is_fraction ["thing"] f fd) (T_is_whole : Fn K mg "is_whole" s_is_whole ["thing"] g1 gd1) (T_greatest_divisor : Fn K mg "greatest_divisor" s_greatest_divisor ["one", "other"] g2 gd2)
    (G_is_whole : FnOk P w K mg base CX0 1 g1 gd1 ["thing"] spIsWh) (G_greatest_divisor : FnOk P w K mg base CX0 1 g2 gd2 ["one", "other"] spGd) (z_isinstance : mg "isinstance" = none) (z_tuple : mg "tuple" = none) (z_len : mg "len" = none) : FnOk P w K mg base CX0 2 f fd ["thing"] spIsFr := by
  have sc:=sc_is_fraction
  refine F.F.ok (k:=1) sc (fun vs H Q E h => ?_) (fun cdv A outer s H vs Q E hr h => ?_)
  · obtain ⟨l,d,v,rfl,_⟩:=h
    rfl
  obtain ⟨l,d,v,rfl,hd,q⟩:=h
  refine ⟨_,(pss_cons (ps_if (PW.pt (pw_or (pt_not (pt_val (pe_callB call_isi rfl z_isinstance PyProof.Rows.boot_isinstance (pa_cons (pv 0) (pa_cons (pe_bltn (v:=.ty "tuple") rfl z_tuple PyProof.Rows.boot_tuple rfl) pa_nil))))) (pw_or1 (pt_cmpR op_ne (pe_callB call_len_seq rfl z_len PySem.boot_len (pa_cons (pv 0) pa_nil)) pe_int (nomark _)))))
    (pss_one (ps_ret pe_bl))
    pss_nil)
  (pss_cons (ps_if (PW.pt (pw_or (pt_not (pt_val (pe_fn T_is_whole G_is_whole hr rfl (pa_cons (pe_ix ix_tup (pv 0) pe_int (fun _ _ => rfl)) pa_nil)))) (pw_or1 (pt_not (pt_val (pe_fn T_is_whole G_is_whole hr rfl (pa_cons (pe_ix ix_tup (pv 0) pe_int (fun _ _ => rfl)) pa_nil)))))))
    (pss_one (ps_ret pe_bl))
    pss_nil)
  (pss_one (ps_ret (pe_and (pe_cmpR op_ge (pe_ix ix_tup (pv 0) pe_int (fun _ _ => rfl)) pe_int (nomark _)) (pe_one (pe_cmpR op_eq (pe_fn T_greatest_divisor G_greatest_divisor hr rfl (pa_cons (pe_ix ix_tup (pv 0) pe_int (fun _ _ => rfl)) (pa_cons (pe_ix ix_tup (pv 0) pe_int (fun _ _ => rfl)) pa_nil))) pe_int (nomark _)))))))),?_⟩
  refine ⟨_,rfl,_,_,_,_,rfl,nnt,hd.ty,kit_tupD K d hd.nodict,_,rfl,?_⟩
  have no : isTupD d = false→isFrD d = false:=fun z => by cases d <;> first | rfl | exact absurd z (by simp [isTupD])
  by_cases ht : isTupD d = true
  · rw [ht]
    obtain ⟨ds,rfl⟩ : ∃ ds,d = .tuple ds := by cases d <;> first | exact ⟨_,rfl⟩ | exact absurd ht (by simp [isTupD])
    rw [Dt] at hd
    obtain ⟨a,xs,rfl,na,ha,hx⟩:=hd
    have hlen:=hx.len
    have s1 : SqT K H a xs:=SqT.of ha
    refine iteF ⟨_,rfl,a,xs,rfl,.inr s1,rfl,_,rfl,ite2 (fun c => ?_) (fun c => ?_)⟩
    · have : ds.length≠2 := by
        rw [← hlen]
        intro z
        rw [z] at c
        exact absurd c (by decide)
      rw [isFrD_of (.inl this)] at q
      exact q
    · have h2 : xs.length = 2 := by
        by_cases z : xs.length = 2
        · exact z
        · exfalso
          refine c ?_
          have : ¬ (V.int (xs.length : Nat) = V.int 2) := by simp; lia
          rw [decide_eq_false this]; rfl
      obtain ⟨d0,d1,rfl⟩ : ∃ d0 d1,ds = [d0,d1] := by
        match ds,(show ds.length = 2 by lia) with
        | [x,y],_ => exact ⟨x,y,rfl⟩
      rw [DtAll] at hx
      obtain ⟨x0,r,rfl,hx0,hx⟩:=hx
      rw [DtAll] at hx
      obtain ⟨x1,r,rfl,hx1,hx⟩:=hx
      rw [DtAll] at hx
      subst hx
      refine ⟨_,rfl,_,_,_,_,rfl,rfl,s1,rfl,l,d0,x0,rfl,hx0,_,rfl,ite2 (fun c0 => ?_) (fun c0 => ?_)⟩
      · rw [isFrD_of (.inr ⟨d0,d1,rfl,.inl (by simp at c0; rcases c0 with c | c <;> simp [c])⟩)] at q
        exact q
      refine ⟨_,rfl,_,_,_,_,rfl,rfl,s1,rfl,l,d1,x1,rfl,hx1,_,rfl,ite2 (fun c1 => ?_) (fun c1 => ?_)⟩
      · rw [isFrD_of (.inr ⟨d0,d1,rfl,.inr (by simp at c1; rcases c1 with c | c <;> simp [c])⟩)] at q
        exact q
      obtain ⟨i,rfl⟩:=whole_int (d:=d0) (by simpa using c0)
      obtain ⟨j,rfl⟩:=whole_int (d:=d1) (by simpa using c1)
      rw [Dt] at hx0 hx1
      subst hx0 hx1
      refine ⟨_,rfl,_,_,_,_,rfl,rfl,s1,rfl,_,_,rfl,rfl,_,rfl,ite2 (fun c => ?_) (fun c => ?_)⟩
      · refine ⟨_,rfl,_,_,_,_,rfl,rfl,s1,rfl,_,rfl,_,_,_,_,rfl,rfl,s1,rfl,i,j,rfl,rfl,?_⟩
        have hj : 1≤j := by have:=of_decide_eq_true c; lia
        have e : isFrD (.tuple [.int i,.int j]) = decide (V.int (FM.gi i j) = V.int 1) := by
          rw [isFrD,decide_eq_true hj,Bool.true_and,Bool.eq_iff_iff]
          simp
        rw [e] at q
        exact q
      · have hj : ¬ 1≤j:=fun z => c (decide_eq_true (by lia))
        have e : isFrD (.tuple [.int i,.int j]) = false := by rw [isFrD,decide_eq_false hj,Bool.false_and]
        rw [e] at q
        exact q
  · rw [Bool.eq_false_iff.mpr ht]
    rw [no (Bool.eq_false_iff.mpr ht)] at q
    exact iteT (iteT q)
end
def areFrD : PyData→Bool
  | .list ds => ds.all isFrD
  | _ => false
def lenD : PyData→Nat
  | .list ds => ds.length
  | _ => 0
def rowAt (ds : List PyData) (i : Nat) : Bool:=match ds[i]? with
  | some d => areFrD d && decide (lenD d = i)
  | none => true
def rowsOk (ds : List PyData) : Bool:=(List.range ds.length).all (rowAt ds)
def areRowsD : PyData→Bool
  | .list ds => decide (1≤ds.length) && (decide (ds.length≤40) && rowsOk ds)
  | _ => false
def isTabD : PyData→Bool
  | .tuple [r,l] => areRowsD r && (areFrD l && decide (lenD l = lenD r))
  | _ => false
theorem areFrD_no {d : PyData} (h : isLstD d = false) : areFrD d = false := by cases d <;> first | rfl | exact absurd h (by simp [isLstD])
theorem areRowsD_no {d : PyData} (h : isLstD d = false) : areRowsD d = false := by cases d <;> first | rfl | exact absurd h (by simp [isLstD])
theorem isTabD_no {d : PyData} (h : isTupD d = false) : isTabD d = false := by cases d <;> first | rfl | exact absurd h (by simp [isTupD])
theorem isTabD_len {ds : List PyData} (h : ds.length≠2) : isTabD (.tuple ds) = false := by
  match ds,h with
  | [],_ => rfl
  | [_],_ => rfl
  | [_,_],h => exact absurd rfl h
  | _ :: _ :: _ :: _,_ => rfl
theorem isLst_of {d : PyData} (h : isLstD d = true) : ∃ ds,d = .list ds := by cases d <;> first | exact ⟨_,rfl⟩ | exact absurd h (by simp [isLstD])
theorem isTup_of {d : PyData} (h : isTupD d = true) : ∃ ds,d = .tuple ds := by cases d <;> first | exact ⟨_,rfl⟩ | exact absurd h (by simp [isTupD])
theorem areFrD_lst {d : PyData} (h : areFrD d = true) : isLstD d = true := by cases d <;> first | rfl | exact absurd h (by simp [areFrD])
theorem areRowsD_lst {d : PyData} (h : areRowsD d = true) : isLstD d = true := by cases d <;> first | rfl | exact absurd h (by simp [areRowsD])
theorem rowsOk_of {ds : List PyData} (h : ∀ j,j < ds.length→rowAt ds j = true) : rowsOk ds = true := by
  unfold rowsOk
  rw [List.all_eq_true]
  intro j hj
  exact h j (List.mem_range.mp hj)
theorem rowsOk_no {ds : List PyData} {i : Nat} (hi : i < ds.length) (h : rowAt ds i = false) : rowsOk ds = false := by
  refine Bool.eq_false_iff.mpr fun z => ?_
  unfold rowsOk at z
  rw [List.all_eq_true] at z
  rw [z i (List.mem_range.mpr hi)] at h
  cases h
theorem rowAt_eq {ds : List PyData} {i : Nat} {d : PyData} (h : ds[i]? = some d) : rowAt ds i = (areFrD d && decide (lenD d = i)) := by unfold rowAt; rw [h]
def spAreFr : Sp:=fun vs H Q _ => ∃ l d v,vs = [v]∧Dt l H d v∧Q (.bl (areFrD d)) H
def spRows : Sp:=fun vs H Q _ => ∃ l d v,vs = [v]∧Dt l H d v∧∀ H',Same H H'→Q (.bl (areRowsD d)) H'
def spIsTab : Sp:=fun vs H Q _ => ∃ l d v,vs = [v]∧Dt l H d v∧∀ H',Same H H'→Q (.bl (isTabD d)) H'
section
variable {P : Program} {w : World} {K : PySem.W.Frag} {mg : Str→Option Value} {base : Heap} {f g1 g2 : Addr} {fd gd1 gd2 : FuncData}
theorem sc_are_fractions : FnScope ["thing", "part"] ["thing"] (defScope s_are_fractions):=⟨rfl,rfl,rfl,by decide +kernel,rfl,by decide +kernel,by decide +kernel⟩
theorem ok_are_fractions (F : Fn K mg "are_fractions" s_are_fractions ["thing"] f fd) (T_is_fraction : Fn K mg "is_fraction" s_is_fraction ["thing"] g1 gd1)
    (G_is_fraction : FnOk P w K mg base CX0 2 g1 gd1 ["thing"] spIsFr) (z_isinstance : mg "isinstance" = none) (z_list : mg "list" = none) : FnOk P w K mg base CX0 3 f fd ["thing"] spAreFr := by
  have sc:=sc_are_fractions
  refine F.F.ok (k:=2) sc (fun vs H Q E h => ?_) (fun cdv A outer s H vs Q E hr h => ?_)
  · obtain ⟨l,d,v,rfl,_⟩:=h
    rfl
  obtain ⟨l,d,v,rfl,hd,q⟩:=h
  refine ⟨_,(pss_cons (ps_if (pt_not (pt_val (pe_callB call_isi rfl z_isinstance PyProof.Rows.boot_isinstance (pa_cons (pv 0) (pa_cons (pe_bltn (v:=.ty "list") rfl z_list PyProof.Rows.boot_list rfl) pa_nil)))))
    (pss_one (ps_ret pe_bl))
    pss_nil)
  (pss_cons (ps_for PassesOwn.never rfl (pi_list (pv 0)) (pg_name (i:=1) sc.nd rfl (Or.inl rfl))
    (pss_one (ps_if (pt_not (pt_val (pe_fn T_is_fraction G_is_fraction hr rfl (pa_cons (pv 1) pa_nil))))
      (pss_one (ps_ret pe_bl))
      pss_nil)))
  (pss_one (ps_ret pe_bl)))),?_⟩
  refine ⟨_,rfl,_,_,_,_,rfl,nnt,hd.ty,kit_lstD K d hd.nodict,_,rfl,?_⟩
  by_cases hL : isLstD d = false
  · rw [hL]
    rw [areFrD_no hL] at q
    exact iteT q
  have hL : isLstD d = true := by simpa using hL
  rw [hL]
  refine iteF ?_
  obtain ⟨ds,rfl⟩:=isLst_of hL
  rw [Dt] at hd
  obtain ⟨a,xs,rfl,na,ha,ht⟩:=hd
  have hlen:=ht.len
  refine ⟨_,rfl,a,rfl,⟨_,SqL.of ha⟩,for_list (xs:=xs) (fun i σ H' => ∃ r1,σ = [some (.ref a),r1]∧H = H'∧∀ j c,j < i→ds[j]? = some c→isFrD c = true) ?_ ?_ ?_ ?_⟩
  · exact ⟨_,rfl,rfl,fun j c h => absurd h (Nat.not_lt_zero _)⟩
  · rintro i σ H' _ ⟨r1,rfl,rfl,_⟩
    exact SqL.of ha
  · rintro i x σ H' hx ⟨r1,rfl,rfl,hf⟩
    obtain ⟨c,hc,tc⟩:=ht.get hx
    refine ⟨_,rfl,l,c,x,rfl,tc,_,rfl,ite2 (fun b => ?_) (fun b => ?_)⟩
    · have hb : isFrD c = false := by simpa using b
      have e : areFrD (.list ds) = false:=Bool.eq_false_iff.mpr fun z => by
        rw [areFrD,List.all_eq_true] at z
        rw [z c (List.mem_of_getElem? hc)] at hb
        cases hb
      rw [e] at q
      exact q
    · have hb : isFrD c = true := by simpa using b
      refine ⟨_,rfl,rfl,fun j e hj he => ?_⟩
      by_cases z : j = i
      · subst z; rw [hc] at he; cases he; exact hb
      · exact hf j e (by lia) he
  · rintro σ H' ⟨r1,rfl,rfl,hf⟩
    have e : areFrD (.list ds) = true := by
      rw [areFrD,List.all_eq_true]
      intro c hc
      obtain ⟨j,hj⟩:=List.getElem?_of_mem hc
      exact hf j c (by rw [hlen]; exact (List.getElem?_eq_some_iff.mp hj).1) hj
    rw [e] at q
    exact q
theorem sc_are_rows : FnScope ["thing", "k", "row"] ["thing"] (defScope s_are_rows):=⟨rfl,rfl,rfl,by decide +kernel,rfl,by decide +kernel,by decide +kernel⟩
theorem ok_are_rows {tk : Tok} (F : Fn K mg "are_rows" s_are_rows ["thing"] f fd) (T_are_fractions : Fn K mg "are_fractions" s_are_fractions ["thing"] g1 gd1)
    (G_are_fractions : FnOk P w K mg base CX0 3 g1 gd1 ["thing"] spAreFr) (m_MOST_ROWS : mg "MOST_ROWS" = some (.int 40 tk)) (z_isinstance : mg "isinstance" = none) (z_list : mg "list" = none) (z_len : mg "len" = none) (z_enumerate : mg "enumerate" = none) : FnOk P w K mg base CX0 4 f fd ["thing"] spRows := by
  have sc:=sc_are_rows
  refine F.F.ok (k:=3) sc (fun vs H Q E h => ?_) (fun cdv A outer s H vs Q E hr h => ?_)
  · obtain ⟨l,d,v,rfl,_⟩:=h
    rfl
  obtain ⟨l,d,v,rfl,hd,q⟩:=h
  refine ⟨_,(pss_cons (ps_if (PW.pt (pw_or (pt_not (pt_val (pe_callB call_isi rfl z_isinstance PyProof.Rows.boot_isinstance (pa_cons (pv 0) (pa_cons (pe_bltn (v:=.ty "list") rfl z_list PyProof.Rows.boot_list rfl) pa_nil))))) (pw_or (pt_cmpR op_lt (pe_callB call_len_seq rfl z_len PySem.boot_len (pa_cons (pv 0) pa_nil)) pe_int (nomark _)) (pw_or1 (pt_cmpR op_gt (pe_callB call_len_seq rfl z_len PySem.boot_len (pa_cons (pv 0) pa_nil)) (pe_glob (v:=.int 40) rfl m_MOST_ROWS ⟨_,rfl⟩) (nomark _))))))
    (pss_one (ps_ret pe_bl))
    pss_nil)
  (pss_cons (ps_for PassesOwn.never rfl (pi_enumL rfl z_enumerate (pa_cons (pv 0) pa_nil)) (pg_tup rfl (pgs_cons (pg_name (i:=1) sc.nd rfl (Or.inl rfl)) (pgs_cons (pg_name (i:=2) sc.nd rfl (Or.inl rfl)) pgs_nil)))
    (pss_one (ps_if (PW.pt (pw_or (pt_not (pt_val (pe_fn T_are_fractions G_are_fractions hr rfl (pa_cons (pv 2) pa_nil)))) (pw_or1 (pt_cmpR op_ne (pe_callB call_len_seq rfl z_len PySem.boot_len (pa_cons (pv 2) pa_nil)) (pv 1) (nomark _)))))
      (pss_one (ps_ret pe_bl))
      pss_nil)))
  (pss_one (ps_ret pe_bl)))),?_⟩
  refine ⟨_,rfl,_,_,_,_,rfl,nnt,hd.ty,kit_lstD K d hd.nodict,_,rfl,?_⟩
  by_cases hL : isLstD d = false
  · rw [hL]
    have:=q H (.refl H)
    rw [areRowsD_no hL] at this
    exact iteT (iteT this)
  have hL : isLstD d = true := by simpa using hL
  rw [hL]
  refine iteF ?_
  obtain ⟨ds,rfl⟩:=isLst_of hL
  rw [Dt] at hd
  obtain ⟨a,xs,rfl,na,ha,ht⟩:=hd
  have hlen:=ht.len
  refine ⟨_,rfl,a,xs,rfl,.inl (SqL.of ha),_,_,rfl,rfl,_,rfl,ite2 (fun c => ?_) (fun c => ?_)⟩
  · have e : areRowsD (.list ds) = false := by
      have : ¬ 1≤ds.length := by rw [← hlen]; have:=of_decide_eq_true c; lia
      rw [areRowsD,decide_eq_false this,Bool.false_and]
    have:=q H (.refl H)
    rw [e] at this
    exact iteT this
  have h1 : 1≤ds.length := by rw [← hlen]; have:=of_decide_eq_false (Bool.eq_false_iff.mpr c); lia
  refine ⟨_,rfl,a,xs,rfl,.inl (SqL.of ha),_,_,rfl,rfl,_,rfl,ite2 (fun c => ?_) (fun c => ?_)⟩
  · have e : areRowsD (.list ds) = false := by
      have : ¬ ds.length≤40 := by rw [← hlen]; have:=of_decide_eq_true c; lia
      rw [areRowsD,decide_eq_false this,Bool.false_and,Bool.and_false]
    have:=q H (.refl H)
    rw [e] at this
    exact this
  have h2 : ds.length≤40 := by rw [← hlen]; have:=of_decide_eq_false (Bool.eq_false_iff.mpr c); lia
  have e : areRowsD (.list ds) = rowsOk ds := by rw [areRowsD,decide_eq_true h1,decide_eq_true h2,Bool.true_and,Bool.true_and]
  rw [e] at q
  refine ⟨_,rfl,a,rfl,⟨_,SqL.of ha⟩,for_enumL (xs:=xs) (fun i σ H' => ∃ r1 r2,σ = [some (.ref a),r1,r2]∧Same H H'∧∀ j,j < i→rowAt ds j = true) ?_ ?_ ?_ ?_⟩
  · exact ⟨_,_,rfl,.refl _,fun j h => absurd h (Nat.not_lt_zero _)⟩
  · rintro i σ H' _ ⟨r1,r2,rfl,e,_⟩
    exact SqL.of (e _ _ ha)
  · rintro i x σ H0 hx ⟨r1,r2,rfl,e0,hf⟩ p hp
    obtain ⟨c,hc,tc⟩:=ht.get hx
    have hi : i < ds.length:=(List.getElem?_eq_some_iff.mp hc).1
    have s1:=same_new hp (.tup [.int (i : Nat),x])
    have e1:=e0.trans s1
    have hp' : (upd H0 p (.tup [.int (i : Nat),x])) p = some (.tup [.int (i : Nat),x]):=upd_same
    generalize upd H0 p (.tup [.int (i : Nat),x]) = H1 at s1 e1 hp'
    have tc:=tc.same e1
    refine ⟨p,_,rfl,SqT.of hp',rfl,_,_,rfl,_,_,rfl,rfl,?_⟩
    refine ⟨_,rfl,l,c,x,rfl,tc,_,rfl,ite2 (fun b => ?_) (fun b => ?_)⟩
    · have hb : areFrD c = false := by simpa using b
      have:=q H1 e1
      rw [rowsOk_no hi (by rw [rowAt_eq hc,hb,Bool.false_and])] at this
      exact iteT this
    have hb : areFrD c = true := by simpa using b
    obtain ⟨cs,rfl⟩:=isLst_of (areFrD_lst hb)
    rw [Dt] at tc
    obtain ⟨b,ys,rfl,nb,hb',hy⟩:=tc
    refine ⟨_,rfl,b,ys,rfl,.inl (SqL.of hb'),_,rfl,rfl,_,rfl,ite2 (fun z => ?_) (fun z => ?_)⟩
    · have hne : ¬ lenD (.list cs) = i := by
        rw [lenD,← hy.len]
        intro zz
        rw [zz] at z
        simp at z
      have:=q H1 e1
      rw [rowsOk_no hi (by rw [rowAt_eq hc,hb,decide_eq_false hne,Bool.and_false])] at this
      exact this
    · have hne : lenD (.list cs) = i := by
        rw [lenD,← hy.len]
        by_cases zz : ys.length = i
        · exact zz
        · exfalso
          refine z ?_
          have : ¬ (V.int (ys.length : Nat) = V.int (i : Nat)) := by simp; lia
          rw [decide_eq_false this]; rfl
      refine ⟨_,_,rfl,e1,fun j hj => ?_⟩
      by_cases zz : j = i
      · subst zz; rw [rowAt_eq hc,hb,decide_eq_true hne,Bool.and_self]
      · exact hf j (by lia)
  · rintro σ H' ⟨r1,r2,rfl,e1,hf⟩
    have:=q H' e1
    rw [rowsOk_of fun j hj => hf j (by rw [hlen]; exact hj)] at this
    exact this
theorem sc_is_table : FnScope ["thing"] ["thing"] (defScope s_is_table):=⟨rfl,rfl,rfl,by decide +kernel,rfl,by decide +kernel,by decide +kernel⟩
theorem ok_is_table (F : Fn K mg "is_table" s_is_table ["thing"] f fd) (T_are_rows : Fn K mg "are_rows" s_are_rows ["thing"] g1 gd1) (T_are_fractions : Fn K mg "are_fractions" s_are_fractions ["thing"] g2 gd2)
    (G_are_rows : FnOk P w K mg base CX0 4 g1 gd1 ["thing"] spRows) (G_are_fractions : FnOk P w K mg base CX0 4 g2 gd2 ["thing"] spAreFr) (z_isinstance : mg "isinstance" = none) (z_tuple : mg "tuple" = none) (z_len : mg "len" = none) : FnOk P w K mg base CX0 5 f fd ["thing"] spIsTab := by
  have sc:=sc_is_table
  refine F.F.ok (k:=4) sc (fun vs H Q E h => ?_) (fun cdv A outer s H vs Q E hr h => ?_)
  · obtain ⟨l,d,v,rfl,_⟩:=h
    rfl
  obtain ⟨l,d,v,rfl,hd,q⟩:=h
  refine ⟨_,(pss_cons (ps_if (PW.pt (pw_or (pt_not (pt_val (pe_callB call_isi rfl z_isinstance PyProof.Rows.boot_isinstance (pa_cons (pv 0) (pa_cons (pe_bltn (v:=.ty "tuple") rfl z_tuple PyProof.Rows.boot_tuple rfl) pa_nil))))) (pw_or1 (pt_cmpR op_ne (pe_callB call_len_seq rfl z_len PySem.boot_len (pa_cons (pv 0) pa_nil)) pe_int (nomark _)))))
    (pss_one (ps_ret pe_bl))
    pss_nil)
  (pss_one (ps_ret (pe_and (pe_fn T_are_rows G_are_rows hr rfl (pa_cons (pe_ix ix_tup (pv 0) pe_int (fun _ _ => rfl)) pa_nil)) (pe_and (pe_fn T_are_fractions G_are_fractions hr rfl (pa_cons (pe_ix ix_tup (pv 0) pe_int (fun _ _ => rfl)) pa_nil)) (pe_one (pe_cmpR op_eq (pe_callB call_len_seq rfl z_len PySem.boot_len (pa_cons (pe_ix ix_tup (pv 0) pe_int (fun _ _ => rfl)) pa_nil)) (pe_callB call_len_seq rfl z_len PySem.boot_len (pa_cons (pe_ix ix_tup (pv 0) pe_int (fun _ _ => rfl)) pa_nil)) (nomark _)))))))),?_⟩
  refine ⟨_,rfl,_,_,_,_,rfl,nnt,hd.ty,kit_tupD K d hd.nodict,_,rfl,?_⟩
  by_cases hL : isTupD d = false
  · rw [hL]
    have:=q H (.refl H)
    rw [isTabD_no hL] at this
    exact iteT (iteT this)
  have hL : isTupD d = true := by simpa using hL
  rw [hL]
  refine iteF ?_
  obtain ⟨ds,rfl⟩:=isTup_of hL
  rw [Dt] at hd
  obtain ⟨a,xs,rfl,na,ha,hx⟩:=hd
  have hlen:=hx.len
  have s1 : SqT K H a xs:=SqT.of ha
  refine ⟨_,rfl,a,xs,rfl,.inr s1,rfl,_,rfl,ite2 (fun c => ?_) (fun c => ?_)⟩
  · have : ds.length≠2 := by
      rw [← hlen]
      intro z
      rw [z] at c
      exact absurd c (by decide)
    have q:=q H (.refl H)
    rw [isTabD_len this] at q
    exact q
  have h2 : xs.length = 2 := by
    by_cases z : xs.length = 2
    · exact z
    · exfalso
      refine c ?_
      have : ¬ (V.int (xs.length : Nat) = V.int 2) := by simp; lia
      rw [decide_eq_false this]; rfl
  obtain ⟨d0,d1,rfl⟩ : ∃ d0 d1,ds = [d0,d1] := by
    match ds,(show ds.length = 2 by lia) with
    | [x,y],_ => exact ⟨x,y,rfl⟩
  rw [DtAll] at hx
  obtain ⟨x0,r,rfl,hx0,hx⟩:=hx
  rw [DtAll] at hx
  obtain ⟨x1,r,rfl,hx1,hx⟩:=hx
  rw [DtAll] at hx
  subst hx
  rw [isTabD] at q
  refine ⟨_,rfl,_,_,_,_,rfl,rfl,s1,rfl,l,d0,x0,rfl,hx0,fun H1 e1 => ⟨_,rfl,ite2 (fun c0 => ?_) (fun c0 => ?_)⟩⟩
  · rw [c0] at q
    refine ⟨_,rfl,_,_,_,_,rfl,rfl,e1.tup s1,rfl,l,d1,x1,rfl,hx1.same e1,_,rfl,ite2 (fun c1 => ?_) (fun c1 => ?_)⟩
    · rw [c1] at q
      obtain ⟨r0,rfl⟩:=isLst_of (areRowsD_lst c0)
      obtain ⟨r1,rfl⟩:=isLst_of (areFrD_lst c1)
      have hx0:=hx0.same e1
      have hx1:=hx1.same e1
      rw [Dt] at hx0 hx1
      obtain ⟨a0,y0,rfl,_,ha0,hy0⟩:=hx0
      obtain ⟨a1,y1,rfl,_,ha1,hy1⟩:=hx1
      refine ⟨_,rfl,_,_,_,_,rfl,rfl,e1.tup s1,rfl,a1,y1,rfl,.inl (SqL.of ha1),_,rfl,_,_,_,_,rfl,rfl,e1.tup s1,rfl,a0,y0,rfl,.inl (SqL.of ha0),rfl,?_⟩
      have:=q H1 e1
      rw [Bool.true_and,Bool.true_and,lenD,lenD,← hy0.len,← hy1.len] at this
      have e : decide (V.int (y1.length : Nat) = V.int (y0.length : Nat)) = decide (y1.length = y0.length) := by
        rw [Bool.eq_iff_iff]; simp; lia
      rw [← e] at this
      exact this
    · rw [Bool.eq_false_iff.mpr c1,Bool.false_and,Bool.and_false] at q
      exact q H1 e1
  · rw [Bool.eq_false_iff.mpr c0,Bool.false_and] at q
    exact q H1 e1
end
mutual
theorem du_DU {H : Hp} : ∀ {d : PyData} {v : V},d.canLay0 = true→Du H d v→DU H d v
  | .none,_,_,h => by rw [Du] at h; subst h; exact .non
  | .bool _,_,_,h => by rw [Du] at h; subst h; exact .bool
  | .int _,_,_,h => by rw [Du] at h; subst h; exact .int
  | .str _,_,_,h => by rw [Du] at h; subst h; exact .str
  | .tuple _,_,c,h => by
    rw [Du] at h
    obtain ⟨a,xs,rfl,h1,h2⟩:=h
    exact .tup h1 (duA_DUs (by simpa only [PyData.canLay0] using c) h2)
  | .list _,_,c,h => by
    rw [Du] at h
    obtain ⟨a,xs,rfl,h1,h2⟩:=h
    exact .lst h1 (duA_DUs (by simpa only [PyData.canLay0] using c) h2)
  | .dict _,_,c,h => by simp [PyData.canLay0] at c
theorem duA_DUs {H : Hp} : ∀ {ds : List PyData} {xs : List V},PyData.canLayAll0 ds = true→DuA H ds xs→DUs H ds xs
  | [],_,_,h => by rw [h.nil_eq]; exact .nil
  | _ :: _,_,c,h => by
    obtain ⟨x,r,rfl,h1,h2⟩:=h.un
    simp only [PyData.canLayAll0,Bool.and_eq_true] at c
    exact .cons (du_DU c.1 h1) (duA_DUs c.2 h2)
end
mutual
theorem dt_Du {l : Addr} {H : Hp} : ∀ {d : PyData} {v : V},Dt l H d v→Du H d v
  | .none,_,h => by rw [Dt] at h; rw [Du]; exact h
  | .bool _,_,h => by rw [Dt] at h; rw [Du]; exact h
  | .int _,_,h => by rw [Dt] at h; rw [Du]; exact h
  | .str _,_,h => by rw [Dt] at h; rw [Du]; exact h
  | .tuple _,_,h => by
    rw [Dt] at h; rw [Du]
    obtain ⟨a,xs,rfl,n,h1,h2⟩:=h
    exact ⟨a,xs,rfl,h1,dtA_DuA h2⟩
  | .list _,_,h => by
    rw [Dt] at h; rw [Du]
    obtain ⟨a,xs,rfl,n,h1,h2⟩:=h
    exact ⟨a,xs,rfl,h1,dtA_DuA h2⟩
  | .dict _,_,h => by rw [Dt] at h; exact h.elim
theorem dtA_DuA {l : Addr} {H : Hp} : ∀ {ds : List PyData} {xs : List V},DtAll l H ds xs→DuA H ds xs
  | [],_,h => by rw [DtAll] at h; subst h; exact .nil
  | _ :: _,_,h => by
    rw [DtAll] at h
    obtain ⟨x,r,rfl,h1,h2⟩:=h
    exact .cons (dt_Du h1) (dtA_DuA h2)
end
theorem DU.du {H : Hp} {d : PyData} {v : V} (h : DU H d v) : Du H d v:=let ⟨N,k⟩:=h; dt_Du (k N (Nat.le_refl _))
section
variable {P : Program} {w : World} {K : PySem.W.Frag} {mg : Str→Option Value} {base : Heap} {CX : CXT} {k : Nat} {f : Addr} {fd : FuncData} {ps : List Str}
def mB (q : PyData→Bool) : List PyData→Option PyData
  | [d] => if d.canLay0 = true then some (.bool (q d)) else none
  | _ => none
theorem mB_is {q : PyData→Bool} {d : PyData} (h : d.canLay0 = true) : mB q [d] = some (.bool (q d)):=if_pos h
theorem mB_v {q : PyData→Bool} {d : PyData} {b : Bool} (h : d.canLay0 = true) (e : q d = b) : mB q [d] = some (.bool b):=(mB_is h).trans (by rw [e])
theorem toB {sp : Sp} {q : PyData→Bool} (F : FnOk P w K mg base CX k f fd ps sp) (h : ∀ (l : Addr) d v H Q E,Dt l H d v→(∀ H',Same H H'→Q (.bl (q d)) H')→sp [v] H Q E) : FnOk P w K mg base CX k f fd ps (spD (mB q)) :=
  spD_imp F fun ds x hm G H vs Q E d e kk => by
    unfold mB at hm
    split at hm
    · split at hm
      · rename_i dd hc
        cases hm
        obtain ⟨v,rfl,d1⟩:=d.un1
        obtain ⟨N,b⟩:=du_DU hc (d1.same e)
        exact h N _ v H Q E (b N (Nat.le_refl _)) fun H' e' => kk _ G H' (.refl _) Nw.refl (e.trans e') e' (by rw [Du])
      · cases hm
    · cases hm
end
section
variable {P : Program} {w : World} {K : PySem.W.Frag} {mg : Str→Option Value} {base : Heap} {f : Addr} {fd : FuncData}
theorem sy_table_of : FnScope ["name", "named"] ["name"] (defScope s_table_of):=⟨rfl,rfl,rfl,by decide +kernel,rfl,by decide +kernel,by decide +kernel⟩
def J_table_of (C_NoName : Addr) : DFX :=
  (seqX (xIf (bVal fun δ => (nm 0 δ).bind (namIn true))
    (xRaise C_NoName (fC (.str (Str.ofString "no table is called so"))))
    (fun δ => some (.inl (.nx δ))))
  (xOf (seqD (sSet 1 (fun δ => (nm 0 δ).bind namGet))
  (sRet (fTup (fCons (compD (set1 1) bYes (fCall dListOf (fCons (nm 1) fNil)) [none,none] (iSeq (op2 dIx (nm 1) (fC (.int 0))))) (fCons (fCall dListOf (fCons (op2 dIx (nm 1) (fC (.int 1))) fNil)) fNil)))))))
def m_table_of (C_NoName : Addr) : List PyData→Option Xr:=retX ["name"] ["name", "named"] (J_table_of C_NoName)
theorem ob_table_of {k : Nat} {C_NoName : Addr} (z_list : mg "list" = none) {c_NAMED_TABLES : Nat} (m_NAMED_TABLES : mg "NAMED_TABLES" = some (.ref c_NAMED_TABLES)) (X_NoName : Exc K mg "NoName" C_NoName) (cdv : Value) (A : Around) (outer : List Env) (s : Shared) (H : Hp) (E : XK) (hr : Room k (A.deeper (PyProof.Rows.envOfC "table_of" (defScope s_table_of) s.heap.objs.size f cdv))) :
    DXs (cxOf (CXW P w) P w K mg base ["name", "named"] "table_of" (defScope s_table_of) f cdv A outer s H E) E (defBody s_table_of) (J_table_of C_NoName) := by
  have sc:=sy_table_of
  exact (dxs_cons (dx_if (dt_namNot (by have:=hr.units; exact this) rfl m_NAMED_TABLES (pv 0))
    (dxs_one (by exact dx_raise X_NoName letsX de_str))
    dxs_nil)
  (dxs_of (dss_cons (ds_set (i:=1) sc.nd rfl (Or.inl rfl) (de_nam (by have:=hr.units; exact this) rfl m_NAMED_TABLES (pv 0) (fun _ _ => rfl)))
  (dss_one (ds_ret (de_tup (da_cons (de_comp [".0", "row"] 1 [none,none] (di_seq (de_ix (de_var (pv 1)) de_int (fun _ _ => rfl))) (fun _ _ _ _ _ => dif_nil) (fun _ _ _ _ _ => (de_callTy dc_list rfl z_list PyProof.Rows.boot_list (da_cons (de_var (pv 1)) da_nil)))) (da_cons (de_callTy dc_list rfl z_list PyProof.Rows.boot_list (da_cons (de_ix (de_var (pv 1)) de_int (fun _ _ => rfl)) da_nil)) da_nil))))))))
theorem ox_table_of {k : Nat} {C_NoName : Addr} (F : Fn K mg "table_of" s_table_of ["name"] f fd) (z_list : mg "list" = none) {c_NAMED_TABLES : Nat} (m_NAMED_TABLES : mg "NAMED_TABLES" = some (.ref c_NAMED_TABLES)) (X_NoName : Exc K mg "NoName" C_NoName) :
    FnOk P w K mg base (CXW P w) (k + 1) f fd ["name"] (spX (m_table_of C_NoName)):=okX F sy_table_of (ob_table_of z_list m_NAMED_TABLES X_NoName)
theorem sy__law_only : FnScope ["_law_caught", "_law_place", "_law_found"] ["_law_caught", "_law_place"] (defScope s__law_only):=⟨rfl,rfl,rfl,by decide +kernel,rfl,by decide +kernel,by decide +kernel⟩
def F__law_only (kt_GroveError : Addr→Option Bool) (kt_NoBottom : Addr→Option Bool) (kt_NoChange : Addr→Option Bool) (kt_NoLine : Addr→Option Bool) (kt_NoName : Addr→Option Bool) (kt_NoParts : Addr→Option Bool) (kt_NoStart : Addr→Option Bool) (kt_NoTable : Addr→Option Bool) (kt_NoText : Addr→Option Bool) (kt_NoTree : Addr→Option Bool) (kt_NoWeighing : Addr→Option Bool) (kt_NotAlike : Addr→Option Bool) (kt_TooMany : Addr→Option Bool) (kt_ValueError : Addr→Option Bool) : DF :=
  (seqD (sIf (bOr (bNot (bVal (fIsx kt_GroveError (nm 0)))) (bNot (bVal (fIsx kt_ValueError (nm 0)))))
    (sRet (fC (.bool false)))
    sNext)
  (seqD (sSet 2 (fLst (fCons (fIsx kt_NoBottom (nm 0)) (fCons (fIsx kt_NoTree (nm 0)) (fCons (fIsx kt_NoChange (nm 0)) fNil)))))
  (seqD (sSet 2 (op2 dAdd (nm 2) (fLst (fCons (fIsx kt_NoStart (nm 0)) (fCons (fIsx kt_NoTable (nm 0)) (fCons (fIsx kt_NoName (nm 0)) fNil))))))
  (seqD (sSet 2 (op2 dAdd (nm 2) (fLst (fCons (fIsx kt_NoWeighing (nm 0)) (fCons (fIsx kt_NotAlike (nm 0)) (fCons (fIsx kt_NoParts (nm 0)) fNil))))))
  (seqD (sSet 2 (op2 dAdd (nm 2) (fLst (fCons (fIsx kt_TooMany (nm 0)) (fCons (fIsx kt_NoText (nm 0)) (fCons (fIsx kt_NoLine (nm 0)) fNil))))))
  (sRet (op2 (dEq false) (nm 2) (compD (set1 1) bYes (op2 (dEq false) (nm 1) (nm 2)) [none,none,some 1] (iCall rng1 (fCons (fC (.int 12)) fNil))))))))))
def m__law_only (kt_GroveError : Addr→Option Bool) (kt_NoBottom : Addr→Option Bool) (kt_NoChange : Addr→Option Bool) (kt_NoLine : Addr→Option Bool) (kt_NoName : Addr→Option Bool) (kt_NoParts : Addr→Option Bool) (kt_NoStart : Addr→Option Bool) (kt_NoTable : Addr→Option Bool) (kt_NoText : Addr→Option Bool) (kt_NoTree : Addr→Option Bool) (kt_NoWeighing : Addr→Option Bool) (kt_NotAlike : Addr→Option Bool) (kt_TooMany : Addr→Option Bool) (kt_ValueError : Addr→Option Bool) : List PyData→Option PyData:=retD ["_law_caught", "_law_place"] ["_law_caught", "_law_place", "_law_found"] (F__law_only kt_GroveError kt_NoBottom kt_NoChange kt_NoLine kt_NoName kt_NoParts kt_NoStart kt_NoTable kt_NoText kt_NoTree kt_NoWeighing kt_NotAlike kt_TooMany kt_ValueError)
theorem ob__law_only {k : Nat} {C_GroveError : Addr} {C_NoBottom : Addr} {C_NoChange : Addr} {C_NoLine : Addr} {C_NoName : Addr} {C_NoParts : Addr} {C_NoStart : Addr} {C_NoTable : Addr} {C_NoText : Addr} {C_NoTree : Addr} {C_NoWeighing : Addr} {C_NotAlike : Addr} {C_TooMany : Addr} {kt_GroveError : Addr→Option Bool} {kt_NoBottom : Addr→Option Bool} {kt_NoChange : Addr→Option Bool} {kt_NoLine : Addr→Option Bool} {kt_NoName : Addr→Option Bool} {kt_NoParts : Addr→Option Bool} {kt_NoStart : Addr→Option Bool} {kt_NoTable : Addr→Option Bool} {kt_NoText : Addr→Option Bool} {kt_NoTree : Addr→Option Bool} {kt_NoWeighing : Addr→Option Bool} {kt_NotAlike : Addr→Option Bool} {kt_TooMany : Addr→Option Bool} {kt_ValueError : Addr→Option Bool} (z_ValueError : mg "ValueError" = none) (z_isinstance : mg "isinstance" = none) (z_range : mg "range" = none) (m_GroveError : mg "GroveError" = some (.ref C_GroveError)) (m_NoBottom : mg "NoBottom" = some (.ref C_NoBottom)) (m_NoChange : mg "NoChange" = some (.ref C_NoChange)) (m_NoLine : mg "NoLine" = some (.ref C_NoLine)) (m_NoName : mg "NoName" = some (.ref C_NoName)) (m_NoParts : mg "NoParts" = some (.ref C_NoParts)) (m_NoStart : mg "NoStart" = some (.ref C_NoStart)) (m_NoTable : mg "NoTable" = some (.ref C_NoTable)) (m_NoText : mg "NoText" = some (.ref C_NoText)) (m_NoTree : mg "NoTree" = some (.ref C_NoTree)) (m_NoWeighing : mg "NoWeighing" = some (.ref C_NoWeighing)) (m_NotAlike : mg "NotAlike" = some (.ref C_NotAlike)) (m_TooMany : mg "TooMany" = some (.ref C_TooMany)) (kh_GroveError : ∀ C b,kt_GroveError C = some b→ExcK K C∧PySem.W.kitOne K (.ref C) (clsV (.ref C_GroveError)) = some b) (kh_NoBottom : ∀ C b,kt_NoBottom C = some b→ExcK K C∧PySem.W.kitOne K (.ref C) (clsV (.ref C_NoBottom)) = some b) (kh_NoChange : ∀ C b,kt_NoChange C = some b→ExcK K C∧PySem.W.kitOne K (.ref C) (clsV (.ref C_NoChange)) = some b) (kh_NoLine : ∀ C b,kt_NoLine C = some b→ExcK K C∧PySem.W.kitOne K (.ref C) (clsV (.ref C_NoLine)) = some b) (kh_NoName : ∀ C b,kt_NoName C = some b→ExcK K C∧PySem.W.kitOne K (.ref C) (clsV (.ref C_NoName)) = some b) (kh_NoParts : ∀ C b,kt_NoParts C = some b→ExcK K C∧PySem.W.kitOne K (.ref C) (clsV (.ref C_NoParts)) = some b) (kh_NoStart : ∀ C b,kt_NoStart C = some b→ExcK K C∧PySem.W.kitOne K (.ref C) (clsV (.ref C_NoStart)) = some b) (kh_NoTable : ∀ C b,kt_NoTable C = some b→ExcK K C∧PySem.W.kitOne K (.ref C) (clsV (.ref C_NoTable)) = some b) (kh_NoText : ∀ C b,kt_NoText C = some b→ExcK K C∧PySem.W.kitOne K (.ref C) (clsV (.ref C_NoText)) = some b) (kh_NoTree : ∀ C b,kt_NoTree C = some b→ExcK K C∧PySem.W.kitOne K (.ref C) (clsV (.ref C_NoTree)) = some b) (kh_NoWeighing : ∀ C b,kt_NoWeighing C = some b→ExcK K C∧PySem.W.kitOne K (.ref C) (clsV (.ref C_NoWeighing)) = some b) (kh_NotAlike : ∀ C b,kt_NotAlike C = some b→ExcK K C∧PySem.W.kitOne K (.ref C) (clsV (.ref C_NotAlike)) = some b) (kh_TooMany : ∀ C b,kt_TooMany C = some b→ExcK K C∧PySem.W.kitOne K (.ref C) (clsV (.ref C_TooMany)) = some b) (kh_ValueError : ∀ C b,kt_ValueError C = some b→ExcK K C∧PySem.W.kitOne K (.ref C) (clsV (.ty "ValueError")) = some b) (cdv : Value) (A : Around) (outer : List Env) (s : Shared) (H : Hp) (E : XK) (hr : Room k (A.deeper (PyProof.Rows.envOfC "_law_only" (defScope s__law_only) s.heap.objs.size f cdv))) :
    DSs (cxOf CX0 P w K mg base ["_law_caught", "_law_place", "_law_found"] "_law_only" (defScope s__law_only) f cdv A outer s H E).nox (defBody s__law_only) (F__law_only kt_GroveError kt_NoBottom kt_NoChange kt_NoLine kt_NoName kt_NoParts kt_NoStart kt_NoTable kt_NoText kt_NoTree kt_NoWeighing kt_NotAlike kt_TooMany kt_ValueError) := by
  have sc:=sy__law_only
  exact (dss_cons (ds_if (DW.dt (dw_or (dt_not (dt_val (de_isx kh_GroveError (fun z => nomatch z) rfl z_isinstance (pe_glob (v:=.ref C_GroveError) rfl m_GroveError rfl) (de_var (pv 0))))) (dw_one (dt_not (dt_val (de_isx kh_ValueError (fun z => nomatch z) rfl z_isinstance (pe_bltn (v:=.ty "ValueError") rfl z_ValueError PyProof.Rows.Boot.«ValueError» rfl) (de_var (pv 0))))))))
    (dss_one (ds_ret de_bl))
    dss_nil)
  (dss_cons (ds_set (i:=2) sc.nd rfl (Or.inl rfl) (de_lst (da_cons (de_isx kh_NoBottom (fun z => nomatch z) rfl z_isinstance (pe_glob (v:=.ref C_NoBottom) rfl m_NoBottom rfl) (de_var (pv 0))) (da_cons (de_isx kh_NoTree (fun z => nomatch z) rfl z_isinstance (pe_glob (v:=.ref C_NoTree) rfl m_NoTree rfl) (de_var (pv 0))) (da_cons (de_isx kh_NoChange (fun z => nomatch z) rfl z_isinstance (pe_glob (v:=.ref C_NoChange) rfl m_NoChange rfl) (de_var (pv 0))) da_nil)))))
  (dss_cons (ds_set (i:=2) sc.nd rfl (Or.inl rfl) (de_op do_add (de_var (pv 2)) (de_lst (da_cons (de_isx kh_NoStart (fun z => nomatch z) rfl z_isinstance (pe_glob (v:=.ref C_NoStart) rfl m_NoStart rfl) (de_var (pv 0))) (da_cons (de_isx kh_NoTable (fun z => nomatch z) rfl z_isinstance (pe_glob (v:=.ref C_NoTable) rfl m_NoTable rfl) (de_var (pv 0))) (da_cons (de_isx kh_NoName (fun z => nomatch z) rfl z_isinstance (pe_glob (v:=.ref C_NoName) rfl m_NoName rfl) (de_var (pv 0))) da_nil))))))
  (dss_cons (ds_set (i:=2) sc.nd rfl (Or.inl rfl) (de_op do_add (de_var (pv 2)) (de_lst (da_cons (de_isx kh_NoWeighing (fun z => nomatch z) rfl z_isinstance (pe_glob (v:=.ref C_NoWeighing) rfl m_NoWeighing rfl) (de_var (pv 0))) (da_cons (de_isx kh_NotAlike (fun z => nomatch z) rfl z_isinstance (pe_glob (v:=.ref C_NotAlike) rfl m_NotAlike rfl) (de_var (pv 0))) (da_cons (de_isx kh_NoParts (fun z => nomatch z) rfl z_isinstance (pe_glob (v:=.ref C_NoParts) rfl m_NoParts rfl) (de_var (pv 0))) da_nil))))))
  (dss_cons (ds_set (i:=2) sc.nd rfl (Or.inl rfl) (de_op do_add (de_var (pv 2)) (de_lst (da_cons (de_isx kh_TooMany (fun z => nomatch z) rfl z_isinstance (pe_glob (v:=.ref C_TooMany) rfl m_TooMany rfl) (de_var (pv 0))) (da_cons (de_isx kh_NoText (fun z => nomatch z) rfl z_isinstance (pe_glob (v:=.ref C_NoText) rfl m_NoText rfl) (de_var (pv 0))) (da_cons (de_isx kh_NoLine (fun z => nomatch z) rfl z_isinstance (pe_glob (v:=.ref C_NoLine) rfl m_NoLine rfl) (de_var (pv 0))) da_nil))))))
  (dss_one (ds_ret (de_cmp (do_eq (by have:=hr.units; exact this)) (de_var (pv 2)) (de_comp [".0", "_law_k", "_law_place"] 1 [none,none,some 1] (di_range1 rfl z_range (da_cons de_int da_nil)) (fun _ _ _ _ _ => dif_nil) (fun _ _ _ _ _ => (de_cmp (do_eq (by have:=hr.units; exact this)) (de_var (pv 1)) (de_var (pv 2)) (nomark _)))) (nomark _)))))))))
theorem od__law_only {k : Nat} {C_GroveError : Addr} {C_NoBottom : Addr} {C_NoChange : Addr} {C_NoLine : Addr} {C_NoName : Addr} {C_NoParts : Addr} {C_NoStart : Addr} {C_NoTable : Addr} {C_NoText : Addr} {C_NoTree : Addr} {C_NoWeighing : Addr} {C_NotAlike : Addr} {C_TooMany : Addr} {kt_GroveError : Addr→Option Bool} {kt_NoBottom : Addr→Option Bool} {kt_NoChange : Addr→Option Bool} {kt_NoLine : Addr→Option Bool} {kt_NoName : Addr→Option Bool} {kt_NoParts : Addr→Option Bool} {kt_NoStart : Addr→Option Bool} {kt_NoTable : Addr→Option Bool} {kt_NoText : Addr→Option Bool} {kt_NoTree : Addr→Option Bool} {kt_NoWeighing : Addr→Option Bool} {kt_NotAlike : Addr→Option Bool} {kt_TooMany : Addr→Option Bool} {kt_ValueError : Addr→Option Bool} (F : Fn K mg "_law_only" s__law_only ["_law_caught", "_law_place"] f fd) (z_ValueError : mg "ValueError" = none) (z_isinstance : mg "isinstance" = none) (z_range : mg "range" = none) (m_GroveError : mg "GroveError" = some (.ref C_GroveError)) (m_NoBottom : mg "NoBottom" = some (.ref C_NoBottom)) (m_NoChange : mg "NoChange" = some (.ref C_NoChange)) (m_NoLine : mg "NoLine" = some (.ref C_NoLine)) (m_NoName : mg "NoName" = some (.ref C_NoName)) (m_NoParts : mg "NoParts" = some (.ref C_NoParts)) (m_NoStart : mg "NoStart" = some (.ref C_NoStart)) (m_NoTable : mg "NoTable" = some (.ref C_NoTable)) (m_NoText : mg "NoText" = some (.ref C_NoText)) (m_NoTree : mg "NoTree" = some (.ref C_NoTree)) (m_NoWeighing : mg "NoWeighing" = some (.ref C_NoWeighing)) (m_NotAlike : mg "NotAlike" = some (.ref C_NotAlike)) (m_TooMany : mg "TooMany" = some (.ref C_TooMany)) (kh_GroveError : ∀ C b,kt_GroveError C = some b→ExcK K C∧PySem.W.kitOne K (.ref C) (clsV (.ref C_GroveError)) = some b) (kh_NoBottom : ∀ C b,kt_NoBottom C = some b→ExcK K C∧PySem.W.kitOne K (.ref C) (clsV (.ref C_NoBottom)) = some b) (kh_NoChange : ∀ C b,kt_NoChange C = some b→ExcK K C∧PySem.W.kitOne K (.ref C) (clsV (.ref C_NoChange)) = some b) (kh_NoLine : ∀ C b,kt_NoLine C = some b→ExcK K C∧PySem.W.kitOne K (.ref C) (clsV (.ref C_NoLine)) = some b) (kh_NoName : ∀ C b,kt_NoName C = some b→ExcK K C∧PySem.W.kitOne K (.ref C) (clsV (.ref C_NoName)) = some b) (kh_NoParts : ∀ C b,kt_NoParts C = some b→ExcK K C∧PySem.W.kitOne K (.ref C) (clsV (.ref C_NoParts)) = some b) (kh_NoStart : ∀ C b,kt_NoStart C = some b→ExcK K C∧PySem.W.kitOne K (.ref C) (clsV (.ref C_NoStart)) = some b) (kh_NoTable : ∀ C b,kt_NoTable C = some b→ExcK K C∧PySem.W.kitOne K (.ref C) (clsV (.ref C_NoTable)) = some b) (kh_NoText : ∀ C b,kt_NoText C = some b→ExcK K C∧PySem.W.kitOne K (.ref C) (clsV (.ref C_NoText)) = some b) (kh_NoTree : ∀ C b,kt_NoTree C = some b→ExcK K C∧PySem.W.kitOne K (.ref C) (clsV (.ref C_NoTree)) = some b) (kh_NoWeighing : ∀ C b,kt_NoWeighing C = some b→ExcK K C∧PySem.W.kitOne K (.ref C) (clsV (.ref C_NoWeighing)) = some b) (kh_NotAlike : ∀ C b,kt_NotAlike C = some b→ExcK K C∧PySem.W.kitOne K (.ref C) (clsV (.ref C_NotAlike)) = some b) (kh_TooMany : ∀ C b,kt_TooMany C = some b→ExcK K C∧PySem.W.kitOne K (.ref C) (clsV (.ref C_TooMany)) = some b) (kh_ValueError : ∀ C b,kt_ValueError C = some b→ExcK K C∧PySem.W.kitOne K (.ref C) (clsV (.ty "ValueError")) = some b) :
    FnOk P w K mg base CX0 (k + 1) f fd ["_law_caught", "_law_place"] (spD (m__law_only kt_GroveError kt_NoBottom kt_NoChange kt_NoLine kt_NoName kt_NoParts kt_NoStart kt_NoTable kt_NoText kt_NoTree kt_NoWeighing kt_NotAlike kt_TooMany kt_ValueError)):=okD F sy__law_only (ob__law_only z_ValueError z_isinstance z_range m_GroveError m_NoBottom m_NoChange m_NoLine m_NoName m_NoParts m_NoStart m_NoTable m_NoText m_NoTree m_NoWeighing m_NotAlike m_TooMany kh_GroveError kh_NoBottom kh_NoChange kh_NoLine kh_NoName kh_NoParts kh_NoStart kh_NoTable kh_NoText kh_NoTree kh_NoWeighing kh_NotAlike kh_TooMany kh_ValueError)
theorem sy__law_asked : FnScope ["_law_name", "_law_found", "_law_caught", "e"] ["_law_name"] (defScope s__law_asked):=⟨rfl,rfl,rfl,by decide +kernel,rfl,by decide +kernel,by decide +kernel⟩
def F__law_asked (m_table_of : List PyData→Option Xr) : DF :=
  (seqD (sSet 1 (fC .none))
  (seqD (sSet 2 (fC .none))
  (seqD (sTryS 1 2 3 m_table_of (fCons (nm 0) fNil))
  (sRet (fTup (fCons (nm 1) (fCons (nm 2) fNil)))))))
def m__law_asked (m_table_of : List PyData→Option Xr) : List PyData→Option PyData:=retD ["_law_name"] ["_law_name", "_law_found", "_law_caught", "e"] (F__law_asked m_table_of)
theorem ob__law_asked {k : Nat} {m_table_of : List PyData→Option Xr} {C_GroveError : Addr}
    {f_table_of : Addr} {fd_table_of : FuncData} (T_table_of : Fn K mg "table_of" s_table_of ["name"] f_table_of fd_table_of) (G_table_of : FnOk P w K mg base (CXW P w) k f_table_of fd_table_of ["name"] (spX m_table_of)) (m_GroveError : mg "GroveError" = some (.ref C_GroveError)) (hB_table_of_GroveError : ∀ ds C,m_table_of ds = some (.inr C)→Beneath K C C_GroveError true) (cdv : Value) (A : Around) (outer : List Env) (s : Shared) (H : Hp) (E : XK) (hr : Room k (A.deeper (PyProof.Rows.envOfC "_law_asked" (defScope s__law_asked) s.heap.objs.size f cdv))) :
    DSs (cxOf CX0 P w K mg base ["_law_name", "_law_found", "_law_caught", "e"] "_law_asked" (defScope s__law_asked) f cdv A outer s H E).nox (defBody s__law_asked) (F__law_asked m_table_of) := by
  have sc:=sy__law_asked
  exact (dss_cons (ds_set (i:=1) sc.nd rfl (Or.inl rfl) de_non)
  (dss_cons (ds_set (i:=2) sc.nd rfl (Or.inl rfl) de_non)
  (dss_cons (ds_tryS (i:=1) (j:=2) (k:=3) T_table_of G_table_of hr rfl (da_cons (de_var (pv 0)) da_nil) hB_table_of_GroveError (fun h => ps_tryAs (i:=1) (j:=2) (k:=3) h sc.nd rfl rfl rfl rfl rfl rfl rfl rfl m_GroveError (by decide) ⟨_,rfl⟩ rfl))
  (dss_one (ds_ret (de_tup (da_cons (de_var (pv 1)) (da_cons (de_var (pv 2)) da_nil))))))))
theorem od__law_asked {k : Nat} {m_table_of : List PyData→Option Xr} {C_GroveError : Addr} (F : Fn K mg "_law_asked" s__law_asked ["_law_name"] f fd)
    {f_table_of : Addr} {fd_table_of : FuncData} (T_table_of : Fn K mg "table_of" s_table_of ["name"] f_table_of fd_table_of) (G_table_of : FnOk P w K mg base (CXW P w) k f_table_of fd_table_of ["name"] (spX m_table_of)) (m_GroveError : mg "GroveError" = some (.ref C_GroveError)) (hB_table_of_GroveError : ∀ ds C,m_table_of ds = some (.inr C)→Beneath K C C_GroveError true) :
    FnOk P w K mg base CX0 (k + 1) f fd ["_law_name"] (spD (m__law_asked m_table_of)):=okD F sy__law_asked (ob__law_asked T_table_of G_table_of m_GroveError hB_table_of_GroveError)
end
section
variable {P : Program} {w : World} {K : PySem.W.Frag} {mg : Str→Option Value} {base : Heap} {f : Addr} {fd : FuncData}
theorem sy__law_same : FnScope ["_law_found", "_law_due"] ["_law_found", "_law_due"] (defScope s__law_same):=⟨rfl,rfl,rfl,by decide +kernel,rfl,by decide +kernel,by decide +kernel⟩
def F__law_same (m__law_same : List PyData→Option PyData) : DF :=
  (seqD (sIf (bVal (fIsi isSq (nm 1)))
    (seqD (sIf (bOr (bCmp (dEq true) (fIsi isLstD (nm 0)) (fIsi isLstD (nm 1))) (bCmp (dEq true) (fIsi isTupD (nm 0)) (fIsi isTupD (nm 1))))
      (sRet (fC (.bool false)))
      sNext)
    (sRet (fAnd (op2 (dEq false) (fCall dLen (fCons (nm 0) fNil)) (fCall dLen (fCons (nm 1) fNil))) (fCall dAll (fCons (compD (set2 1 2) bYes (fCall m__law_same (fCons (nm 1) (fCons (nm 2) fNil))) [none,none,none] (iCall zip2 (fCons (nm 0) (fCons (nm 1) fNil)))) fNil)))))
    sNext)
  (sRet (fAnd (fIsi isIntD (nm 0)) (fAnd (fNot (fIsi isBoolD (nm 0))) (op2 (dEq false) (nm 0) (nm 1))))))
def m__law_same : Nat→List PyData→Option PyData
  | 0 => fun _ => none
  | n + 1 => retD ["_law_found", "_law_due"] ["_law_found", "_law_due"] (F__law_same (m__law_same n))
theorem od__law_same {k : Nat} (T__law_same : Fn K mg "_law_same" s__law_same ["_law_found", "_law_due"] f fd) (z_all : mg "all" = none) (z_bool : mg "bool" = none) (z_int : mg "int" = none) (z_isinstance : mg "isinstance" = none) (z_len : mg "len" = none) (z_list : mg "list" = none) (z_tuple : mg "tuple" = none) (z_zip : mg "zip" = none) : ∀ n,
    FnOk P w K mg base CX0 (k + n + 1) f fd ["_law_found", "_law_due"] (spD (m__law_same n))
  | 0 => never_okD fun _ _ _ _ ⟨_,_,_,h,_⟩ => by cases h
  | n + 1 => by
    have sc:=sy__law_same
    have G__law_same:=od__law_same (k:=k) T__law_same z_all z_bool z_int z_isinstance z_len z_list z_tuple z_zip n
    refine okD (k:=k + n + 1) (F:=F__law_same (m__law_same n)) T__law_same sc fun cdv A outer s H E hr => ?_
    exact (dss_cons (ds_if (dt_val (de_isi2 rfl z_isinstance rfl z_list rfl z_tuple (de_var (pv 1))))
    (dss_cons (ds_if (DW.dt (dw_or (dt_cmp (do_ne (by have:=hr.units; exact this)) (de_isi (kit_lstD _) rfl z_isinstance rfl z_list PyProof.Rows.boot_list (de_var (pv 0))) (de_isi (kit_lstD _) rfl z_isinstance rfl z_list PyProof.Rows.boot_list (de_var (pv 1))) (nomark _)) (dw_one (dt_cmp (do_ne (by have:=hr.units; exact this)) (de_isi (kit_tupD _) rfl z_isinstance rfl z_tuple PyProof.Rows.boot_tuple (de_var (pv 0))) (de_isi (kit_tupD _) rfl z_isinstance rfl z_tuple PyProof.Rows.boot_tuple (de_var (pv 1))) (nomark _)))))
      (dss_one (ds_ret de_bl))
      dss_nil)
    (dss_one (ds_ret (de_and (de_cmp (do_eq (by have:=hr.units; exact this)) (de_callB dc_len rfl z_len PySem.boot_len (da_cons (de_var (pv 0)) da_nil)) (de_callB dc_len rfl z_len PySem.boot_len (da_cons (de_var (pv 1)) da_nil)) (nomark _)) (de_one (de_callB (dc_all rfl) rfl z_all PyProof.Rows.boot_all (da_cons (de_comp2 [".0", "_law_one", "_law_other"] 1 2 [none,none,none] (di_zip rfl z_zip (da_cons (de_var (pv 0)) (da_cons (de_var (pv 1)) da_nil))) (fun _ _ _ _ _ => dif_nil) (fun _ _ _ _ _ => (de_call T__law_same G__law_same hr rfl (da_cons (de_var (pv 1)) (da_cons (de_var (pv 2)) da_nil))))) da_nil)))))))
    dss_nil)
  (dss_one (ds_ret (de_and (de_isi (kit_intD _) rfl z_isinstance rfl z_int PyProof.Rows.boot_int (de_var (pv 0))) (de_and (de_not (de_isi (kit_boolD _) rfl z_isinstance rfl z_bool PyProof.Rows.boot_bool (de_var (pv 0)))) (de_one (de_cmp (do_eq (by have:=hr.units; exact this)) (de_var (pv 0)) (de_var (pv 1)) (nomark _))))))))
end
abbrev fr (a b : Int) : PyData:=.tuple [.int a,.int b]
def lt1 : PyData:=.tuple [.list [.list []],.list [fr 1 1]]
def lt2 : PyData:=.tuple [.list [.list [],.list [fr 1 2]],.list [fr 0 1,fr 1 1]]
def lt3 : PyData:=.tuple [.list [.list [],.list [fr 1 1]],.list [fr 1 2,fr 1 2]]
def lt4 : PyData:=.tuple [.list [.list [],.list [fr 1 3],.list [fr 0 1,fr 2 3]],.list [fr 1 4,fr 0 1,fr 3 4]]
def lr5 : PyData:=.list [.list [],.list [fr 1 2],.list [fr 0 1,fr 1 2],.list [fr 0 1,fr 0 1,fr 1 1]]
def ll5 : PyData:=.list [fr 1 6,fr 1 3,fr 1 3,fr 1 6]
def lt5 : PyData:=.tuple [lr5,ll5]
def ltD (x : Str) : Option PyData :=
  if x = "plain" then some lt1 else if x = "middle" then some lt2 else if x = "heel" then some lt3 else if x = "third" then some lt4 else if x = "fourth" then some lt5 else none
def spTabs : Sp:=fun vs H Q _ => vs = []∧∀ (D : Addr) (H' : Hp) (kvs : List (Key×V)),Same H H'→H' D = some (.dK kvs)→(∀ x : Str,(∃ d v,ltD x = some d∧valV kvs (.inr x) = some v∧DU H' d v)∨(ltD x = none∧valV kvs (.inr x) = none))→Q (.ref D) H'
section
variable {P : Program} {w : World} {K : PySem.W.Frag} {mg : Str→Option Value} {base : Heap} {f : Addr} {fd : FuncData}
theorem sc__law_tables : FnScope ["_law_found", "_law_rows"] [] (defScope s__law_tables):=⟨rfl,rfl,rfl,by decide +kernel,rfl,by decide +kernel,by decide +kernel⟩
theorem dt_keep {D : Addr} {H H' : Hp} {d : PyData} {v : V} {o : HO} (h : Dt D H d v) (e : Same H H') : Dt D (upd H' D o) d v:=.but .upd (h.same e)
@[irreducible] def PSo (X : Cx) (st : Stmt) (t : TS) : Prop:=PS X st t
theorem PSo.of {X : Cx} {st : Stmt} {t : TS} (h : PS X st t) : PSo X st t := by unfold PSo; exact h
theorem PSo.out {X : Cx} {st : Stmt} {t : TS} (h : PSo X st t) : PS X st t := by unfold PSo at h; exact h
theorem pss6 {X : Cx} {s1 : Stmt} {t1 : TS} {s2 : Stmt} {t2 : TS} {s3 : Stmt} {t3 : TS} {s4 : Stmt} {t4 : TS} {s5 : Stmt} {t5 : TS} {s6 : Stmt} {t6 : TS} (p1 : PSo X s1 t1) (p2 : PSo X s2 t2) (p3 : PSo X s3 t3) (p4 : PSo X s4 t4) (p5 : PSo X s5 t5) (p6 : PSo X s6 t6) {Pz : TS→Prop} (k : Pz (tSeq t1 (tSeq t2 (tSeq t3 (tSeq t4 (tSeq t5 t6)))))) : ∃ t,PSs X [s1,s2,s3,s4,s5,s6] t∧Pz t:=⟨_,(pss_cons p1.out (pss_cons p2.out (pss_cons p3.out (pss_cons p4.out (pss_cons p5.out (pss_one p6.out)))))),k⟩
theorem lit_sw {n : Nat} {e : Expr} {d : PyData} (hl : litE n e = some d) {t : Option Expr} {l : Nat} {env : Env} : swapsWith e t l env = pure false := by cases e <;> first | rfl | (cases n <;> simp [litE] at hl)
theorem ps_lit {X : Cx} {n i : Nat} {x : Str} {e : Expr} {d : PyData} {pos' pos : Pos} (hl : litE n e = some d) (hN : X.N.Nodup) (hi : X.N[i]? = some x) (hx : Loc X.env.scope x) (hf : X.fn x = true∨X.env.scope.names.lookup x = some .local) :
    PSo X (.Assign [.Name x pos'] e pos) (tAsg (tLit d) (gName i)):=.of (ps_set hN hi hx (pe_lit hl) (lit_sw hl) hf)
theorem ps_putLit {X : Cx} {n : Nat} {o : Expr} {td : TE} {e : Expr} {d : PyData} {x : Str} {j} {p1 pos' pos : Pos} (hl : litE n e = some d) (hu : X.A.units + 1 < cLine) (ho : PE X o td) :
    PSo X (.Assign [.Subscript o (.Constant (.str x) j p1) pos'] e pos) (sDPut td (tC (.str x)) (tLit d)):=.of (ps_dput hu ho pe_str (pe_lit hl) (lit_sw hl))
theorem ps_disp2 {X : Cx} {n i : Nat} {x k1 k2 : Str} {e1 e2 : Expr} {d1 d2 : PyData} {j1 j2} {p1 p2 p3 pos' pos : Pos} (hl1 : litE n e1 = some d1) (hl2 : litE n e2 = some d2) (hN : X.N.Nodup) (hi : X.N[i]? = some x) (hx : Loc X.env.scope x) (hf : X.fn x = true∨X.env.scope.names.lookup x = some .local) :
    PSo X (.Assign [.Name x pos'] (.Dict [some (.Constant (.str k1) j1 p1),some (.Constant (.str k2) j2 p2)] [e1,e2] p3) pos) (tAsg (tDisp [(tC (.str k1),tLit d1),(tC (.str k2),tLit d2)]) (gName i)) :=
  .of (ps_set hN hi hx (pe_disp (pps_cons pe_str (pe_lit hl1) (pps_cons pe_str (pe_lit hl2) pps_nil)) rfl rfl (by simp) (show 2≤15 by decide)) rfl hf)
theorem ps_putTup {X : Cx} {n : Nat} {o a : Expr} {td ta : TE} {e : Expr} {d : PyData} {x : Str} {j} {x1} {p1 p2 pos' pos : Pos} (hl : litE n e = some d) (hu : X.A.units + 1 < cLine) (ho : PE X o td) (ha : PE X a ta) (hs : starEach [a,e] X.env = (false,eval a X.env) :: starEach [e] X.env) :
    PSo X (.Assign [.Subscript o (.Constant (.str x) j p1) pos'] (.Tuple [a,e] x1 p2) pos) (sDPut td (tC (.str x)) (tTup (tCons ta (tCons (tLit d) tNil)))):=.of (ps_dput hu ho pe_str (pe_tup (pa_cons ha (pa_cons (pe_lit hl) pa_nil (lit_plain hl _ _)) hs)) rfl)
theorem ok__law_tables (F : Fn K mg "_law_tables" s__law_tables [] f fd) : FnOk P w K mg base CX0 1 f fd [] spTabs := by
  have sc:=sc__law_tables
  refine F.F.ok (k:=0) sc (fun vs H Q E h => ?_) (fun cdv A outer s H vs Q E hr h => ?_)
  · obtain ⟨rfl,_⟩:=h
    rfl
  obtain ⟨rfl,q⟩:=h
  have hu : (A.deeper (PyProof.Rows.envOfC "_law_tables" (defScope s__law_tables) s.heap.objs.size f cdv)).units + 1 < cLine := by have:=hr.units; lia
  refine' pss6 ?p1 ?p2 ?p3 ?p4 ?p5 ?p6 ?kk
  case p1 =>
    refine' ps_disp2 (n:=4) (i:=0) (d1:=lt1) (d2:=lt2) ?a1 ?a2 sc.nd ?a3 ?a4 ?a5
    case a1 => kernel_rfl
    case a2 => kernel_rfl
    case a3 => rfl
    case a4 => exact Or.inl rfl
    case a5 => first | exact Or.inl rfl | exact Or.inr rfl
  case p2 =>
    refine' ps_putLit (n:=4) (d:=lt3) ?b1 hu (pv 0)
    kernel_rfl
  case p3 =>
    refine' ps_putLit (n:=4) (d:=lt4) ?c1 hu (pv 0)
    kernel_rfl
  case p4 =>
    refine' ps_lit (n:=4) (i:=1) (d:=lr5) ?d1 sc.nd ?d2 ?d3 ?d4
    case d1 => kernel_rfl
    case d2 => rfl
    case d3 => exact Or.inl rfl
    case d4 => first | exact Or.inl rfl | exact Or.inr rfl
  case p5 =>
    refine' ps_putTup (n:=4) (d:=ll5) ?e1 hu (pv 0) (pv 1) ?e2
    case e1 => kernel_rfl
    case e2 => rfl
  case p6 => exact .of (ps_ret (pv 0))
  intro D hD v1 H1 e1 d1 v2 H2 e2 d2
  have hD1 : H1 D = some (.dK []):=e1 _ _ upd_same
  have hD2 : H2 D = some (.dK []):=e2 _ _ hD1
  have d1:=d1 D (.inr (by rw [upd_same]; simp))
  have d2:=d2 D (.inr (by rw [hD1]; simp))
  refine ⟨hD2,[(.inr "plain",v1),(.inr "middle",v2)],rfl,(show 2≤15 by decide),?_⟩
  have s2 : Same H H2:=fun b o z => e2 _ _ (e1 _ _ (by rw [upd_ne (ne_of_none z hD)]; exact z))
  have k1:=dt_keep (o:=.dK (mergeK [] [(.inr "plain",v1),(.inr "middle",v2)])) d1 e2
  have k2:=dt_keep (o:=.dK (mergeK [] [(.inr "plain",v1),(.inr "middle",v2)])) d2 (.refl _)
  have s2 : Same H (upd H2 D (.dK (mergeK [] [(.inr "plain",v1),(.inr "middle",v2)]))):=fun b o z => by rw [upd_ne (ne_of_none z hD)]; exact s2 _ _ z
  have hD2 : upd H2 D (.dK (mergeK [] [(.inr "plain",v1),(.inr "middle",v2)])) D = some (.dK [(.inr "plain",v1),(.inr "middle",v2)]):=upd_same
  generalize upd H2 D (.dK (mergeK [] [(.inr "plain",v1),(.inr "middle",v2)])) = H2' at k1 k2 s2 hD2
  intro v3 H3 e3 d3
  have hD3:=e3 _ _ hD2
  refine ⟨_,rfl,D,_,rfl,.inl ⟨_,.inr "heel",hD3,rfl,(by show 2 < sizeLine; rw [sizeLine_eq]; decide),rfl⟩,?_⟩
  have d3:=d3 D (.inr (by rw [hD2]; simp))
  have j1:=dt_keep (o:=.dK (putK [(.inr "plain",v1),(.inr "middle",v2)] (.inr "heel") v3)) k1 e3
  have j2:=dt_keep (o:=.dK (putK [(.inr "plain",v1),(.inr "middle",v2)] (.inr "heel") v3)) k2 e3
  have j3:=dt_keep (o:=.dK (putK [(.inr "plain",v1),(.inr "middle",v2)] (.inr "heel") v3)) d3 (.refl _)
  have s3 : Same H (upd H3 D (.dK (putK [(.inr "plain",v1),(.inr "middle",v2)] (.inr "heel") v3))):=fun b o z => by rw [upd_ne (ne_of_none z hD)]; exact e3 _ _ (s2 _ _ z)
  have hD3 : upd H3 D (.dK (putK [(.inr "plain",v1),(.inr "middle",v2)] (.inr "heel") v3)) D = some (.dK [(.inr "plain",v1),(.inr "middle",v2),(.inr "heel",v3)]):=upd_same
  generalize upd H3 D (.dK (putK [(.inr "plain",v1),(.inr "middle",v2)] (.inr "heel") v3)) = H3' at j1 j2 j3 s3 hD3
  intro v4 H4 e4 d4
  have hD4:=e4 _ _ hD3
  refine ⟨_,rfl,D,_,rfl,.inl ⟨_,.inr "third",hD4,rfl,(by show 3 < sizeLine; rw [sizeLine_eq]; decide),rfl⟩,?_⟩
  have d4:=d4 D (.inr (by rw [hD3]; simp))
  have i1:=dt_keep (o:=.dK (putK [(.inr "plain",v1),(.inr "middle",v2),(.inr "heel",v3)] (.inr "third") v4)) j1 e4
  have i2:=dt_keep (o:=.dK (putK [(.inr "plain",v1),(.inr "middle",v2),(.inr "heel",v3)] (.inr "third") v4)) j2 e4
  have i3:=dt_keep (o:=.dK (putK [(.inr "plain",v1),(.inr "middle",v2),(.inr "heel",v3)] (.inr "third") v4)) j3 e4
  have i4:=dt_keep (o:=.dK (putK [(.inr "plain",v1),(.inr "middle",v2),(.inr "heel",v3)] (.inr "third") v4)) d4 (.refl _)
  have s4 : Same H (upd H4 D (.dK (putK [(.inr "plain",v1),(.inr "middle",v2),(.inr "heel",v3)] (.inr "third") v4))):=fun b o z => by rw [upd_ne (ne_of_none z hD)]; exact e4 _ _ (s3 _ _ z)
  have hD4 : upd H4 D (.dK (putK [(.inr "plain",v1),(.inr "middle",v2),(.inr "heel",v3)] (.inr "third") v4)) D = some (.dK [(.inr "plain",v1),(.inr "middle",v2),(.inr "heel",v3),(.inr "third",v4)]):=upd_same
  generalize upd H4 D (.dK (putK [(.inr "plain",v1),(.inr "middle",v2),(.inr "heel",v3)] (.inr "third") v4)) = H4' at i1 i2 i3 i4 s4 hD4
  intro vr H5 e5 dr
  have hD5:=e5 _ _ hD4
  have dr:=dr D (.inr (by rw [hD4]; simp))
  refine ⟨vr,rfl,fun vl H6 e6 dl => ⟨(by show 2≤sizeLine; rw [sizeLine_eq]; decide),fun p hp => ?_⟩⟩
  have hD6:=e6 _ _ hD5
  have dl:=dl D (.inr (by rw [hD5]; simp))
  have nD : p≠D:=fun z => by subst z; rw [hD6] at hp; cases hp
  have e7:=same_new hp (.tup [vr,vl])
  have d5 : Dt D (upd H6 p (.tup [vr,vl])) lt5 (.ref p):=.tup nD upd_same (.cons (dr.same (e6.trans e7)) (.cons (dl.same e7) .nil))
  generalize upd H6 p (.tup [vr,vl]) = H7 at e7 d5
  have e47:=e5.trans (e6.trans e7)
  refine ⟨_,rfl,D,_,rfl,.inl ⟨_,.inr "fourth",e47 _ _ hD4,rfl,(by show 4 < sizeLine; rw [sizeLine_eq]; decide),rfl⟩,_,rfl,?_⟩
  refine q D _ [(.inr "plain",v1),(.inr "middle",v2),(.inr "heel",v3),(.inr "third",v4),(.inr "fourth",.ref p)] (fun b o z => by rw [upd_ne (ne_of_none z hD)]; exact e47 _ _ (s4 _ _ z)) upd_same fun x => ?_
  have u : ∀ {d : PyData} {v : V},Dt D H7 d v→DU (upd H7 D (.dK (putK [(.inr "plain",v1),(.inr "middle",v2),(.inr "heel",v3),(.inr "third",v4)] (.inr "fourth") (.ref p)))) d v:=fun h => dt_du (dt_keep h (.refl _))
  by_cases h1 : x = "plain"
  · subst h1; exact .inl ⟨lt1,v1,rfl,rfl,u (i1.same e47)⟩
  by_cases h2 : x = "middle"
  · subst h2; exact .inl ⟨lt2,v2,rfl,rfl,u (i2.same e47)⟩
  by_cases h3 : x = "heel"
  · subst h3; exact .inl ⟨lt3,v3,rfl,rfl,u (i3.same e47)⟩
  by_cases h4 : x = "third"
  · subst h4; exact .inl ⟨lt4,v4,rfl,rfl,u (i4.same e47)⟩
  by_cases h5 : x = "fourth"
  · subst h5; exact .inl ⟨lt5,_,rfl,rfl,u d5⟩
  refine .inr ⟨by unfold ltD; rw [if_neg h1,if_neg h2,if_neg h3,if_neg h4,if_neg h5],?_⟩
  unfold valV
  simp [Sum.inr.injEq,eq_comm,h1,h2,h3,h4,h5]
end
theorem tab_is (C : Addr) (x : Str) : (∃ d,ltD x = some d∧m_table_of C [.str x] = some (.inl d))∨(ltD x = none∧m_table_of C [.str x] = some (.inr C)) := by
  by_cases h1 : x = "plain"
  · subst h1; exact .inl ⟨lt1,rfl,rfl⟩
  by_cases h2 : x = "middle"
  · subst h2; exact .inl ⟨lt2,rfl,rfl⟩
  by_cases h3 : x = "heel"
  · subst h3; exact .inl ⟨lt3,rfl,rfl⟩
  by_cases h4 : x = "third"
  · subst h4; exact .inl ⟨lt4,rfl,rfl⟩
  by_cases h5 : x = "fourth"
  · subst h5; exact .inl ⟨lt5,rfl,rfl⟩
  refine .inr ⟨by unfold ltD; rw [if_neg h1,if_neg h2,if_neg h3,if_neg h4,if_neg h5],?_⟩
  have e : namT x = none := by unfold namT; rw [if_neg h1,if_neg h2,if_neg h3,if_neg h4,if_neg h5]
  have hb : (bVal fun δ => (nm 0 δ).bind (namIn true)) [.d (.str x),.no] = some true := by
    show ((some (PyData.bool (!(namT x).isSome))).bind asB) = _
    rw [e]; rfl
  refine retX_no rfl ?_
  unfold J_table_of
  refine seqX_no (C:=C) ?_
  unfold xIf
  rw [show (bVal fun δ => (nm 0 δ).bind (namIn true)) (iniD ["name", "named"] [PyData.str x]) = some true from hb]
  rfl
abbrev mT (C : Addr) : List PyData→Option Xr:=only [C] (m_table_of C)
theorem tabO_is (C : Addr) (x : Str) : (∃ d,ltD x = some d∧mT C [.str x] = some (.inl d))∨(ltD x = none∧mT C [.str x] = some (.inr C)) := by
  rcases tab_is C x with ⟨d,h1,h2⟩ | ⟨h1,h2⟩
  · exact .inl ⟨d,h1,by unfold mT only; rw [h2]⟩
  · exact .inr ⟨h1,by unfold mT only; rw [h2]; exact if_pos (by simp)⟩
theorem asked_is (C : Addr) (x : Str) : (∃ d,ltD x = some d∧m__law_asked (mT C) [.str x] = some (.tuple [d,.none]))∨(ltD x = none∧m__law_asked (mT C) [.str x] = some (.tuple [.none,excD C])) := by
  rcases tabO_is C x with ⟨d,h1,h2⟩ | ⟨h1,h2⟩
  · refine .inl ⟨d,h1,?_⟩
    refine retD_rt rfl ?_
    show seqD (sTryS 1 2 3 (mT C) (fCons (nm 0) fNil)) _ [.d (.str x),.d .none,.d .none,.no] = _
    have : sTryS 1 2 3 (mT C) (fCons (nm 0) fNil) [.d (.str x),.d .none,.d .none,.no] = some (.nx [.d (.str x),.d d,.d .none,.no]) := by
      show ((mT C [.str x]).map _) = _
      rw [h2]; rfl
    exact seqD_nx this rfl
  · refine .inr ⟨h1,?_⟩
    refine retD_rt rfl ?_
    show seqD (sTryS 1 2 3 (mT C) (fCons (nm 0) fNil)) _ [.d (.str x),.d .none,.d .none,.no] = _
    have : sTryS 1 2 3 (mT C) (fCons (nm 0) fNil) [.d (.str x),.d .none,.d .none,.no] = some (.nx [.d (.str x),.d .none,.d (excD C),.no]) := by
      show ((mT C [.str x]).map _) = _
      rw [h2]; rfl
    exact seqD_nx this rfl
theorem same_is (x : Str) {d : PyData} (h : ltD x = some d) : m__law_same 6 [d,d] = some (.bool true)∧isTabD d = true := by
  unfold ltD at h
  split at h
  · cases h; exact ⟨by kernel_rfl,by kernel_rfl⟩
  split at h
  · cases h; exact ⟨by kernel_rfl,by kernel_rfl⟩
  split at h
  · cases h; exact ⟨by kernel_rfl,by kernel_rfl⟩
  split at h
  · cases h; exact ⟨by kernel_rfl,by kernel_rfl⟩
  split at h
  · cases h; exact ⟨by kernel_rfl,by kernel_rfl⟩
  · cases h
abbrev one1 (C0 : Addr) (b : Bool) : Addr→Option Bool:=fun C => if C = C0 then some b else none
abbrev mOnly (C : Addr) : List PyData→Option PyData:=m__law_only (one1 C true) (one1 C false) (one1 C false) (one1 C false) (one1 C true) (one1 C false) (one1 C false) (one1 C false) (one1 C false) (one1 C false) (one1 C false) (one1 C false) (one1 C false) (one1 C true)
theorem fIsx_is {T : Addr→Option Bool} {C : Addr} {b : Bool} {f : Dv→Option PyData} {δ : Dv} (hf : f δ = some (excD C)) (h : T C = some b) : fIsx T f δ = some (.bool b) := by
  show (f δ).bind _ = _
  rw [hf]
  show (T ((C : Nat) : Int).toNat).map PyData.bool = _
  rw [Int.toNat_natCast,h]; rfl
theorem onlyT_is (C : Addr) : mOnly C [excD C,.int 5] = some (.bool true) := by
  refine retD_rt rfl ?_
  unfold F__law_only
  have n : one1 C false C = some false:=if_pos rfl
  have t : one1 C true C = some true:=if_pos rfl
  refine seqD_nx (sIf_f (bOr_f (bNot_is (b:=true) (bVal_is (fIsx_is (C:=C) rfl t))) (bNot_is (b:=true) (bVal_is (fIsx_is (C:=C) rfl t)))) rfl) ?_
  refine seqD_nx (sSet_is (fLst_is (fCons_is (fIsx_is (C:=C) rfl n) (fCons_is (fIsx_is (C:=C) rfl n) (fCons_is (fIsx_is (C:=C) rfl n) rfl))) (show 3≤1000 by decide))) ?_
  refine seqD_nx (sSet_is (op2_is rfl (fLst_is (fCons_is (fIsx_is (C:=C) rfl n) (fCons_is (fIsx_is (C:=C) rfl n) (fCons_is (fIsx_is (C:=C) rfl t) rfl))) (show 3≤1000 by decide)) rfl)) ?_
  refine seqD_nx (sSet_is (op2_is rfl (fLst_is (fCons_is (fIsx_is (C:=C) rfl n) (fCons_is (fIsx_is (C:=C) rfl n) (fCons_is (fIsx_is (C:=C) rfl n) rfl))) (show 3≤1000 by decide)) rfl)) ?_
  refine seqD_nx (sSet_is (op2_is rfl (fLst_is (fCons_is (fIsx_is (C:=C) rfl n) (fCons_is (fIsx_is (C:=C) rfl n) (fCons_is (fIsx_is (C:=C) rfl n) rfl))) (show 3≤1000 by decide)) rfl)) ?_
  exact sRet_is (by kernel_rfl)
theorem one1_h {K : PySem.W.Frag} {a : Addr} {x : Bool} {cv : V} (xa : ExcK K a) (ka : PySem.W.kitOne K (.ref a) (clsV cv) = some x) : ∀ C u,one1 a x C = some u→ExcK K C∧PySem.W.kitOne K (.ref C) (clsV cv) = some u:=fun C u h => by
  unfold one1 at h
  split at h
  · rename_i e; subst e; cases h; exact ⟨xa,ka⟩
  · cases h
abbrev frP (p : Int×Int) : PyData:=fr p.1 p.2
abbrev tabS (rs : List (List (Int×Int))) (ls : List (Int×Int)) : PyData:=.tuple [.list (rs.map fun r => .list (r.map frP)),.list (ls.map frP)]
structure Shp (rs : List (List (Int×Int))) (ls : List (Int×Int)) : Prop where
  one : 1≤rs.length
  most : rs.length≤4
  last : ls.length = rs.length
  row : ∀ (i : Nat) (r : List (Int×Int)),rs[i]? = some r→r.length = i
theorem shp_of {rs : List (List (Int×Int))} {ls : List (Int×Int)} (h : (decide (1≤rs.length) && decide (rs.length≤4) && decide (ls.length = rs.length) && (rs.zipIdx).all fun q => decide (q.1.length = q.2)) = true) : Shp rs ls := by
  simp only [Bool.and_eq_true,decide_eq_true_eq,List.all_eq_true] at h
  obtain ⟨⟨⟨h1,h2⟩,h3⟩,h4⟩:=h
  refine ⟨h1,h2,h3,fun i r hr => ?_⟩
  exact h4 (r,i) (List.mem_zipIdx_iff_getElem?.mpr hr)
theorem shape {x : Str} {d : PyData} (h : ltD x = some d) : ∃ rs ls,d = tabS rs ls∧Shp rs ls := by
  unfold ltD at h
  split at h
  · cases h; exact ⟨[[]],[(1,1)],rfl,shp_of (by decide)⟩
  split at h
  · cases h; exact ⟨[[],[(1,2)]],[(0,1),(1,1)],rfl,shp_of (by decide)⟩
  split at h
  · cases h; exact ⟨[[],[(1,1)]],[(1,2),(1,2)],rfl,shp_of (by decide)⟩
  split at h
  · cases h; exact ⟨[[],[(1,3)],[(0,1),(2,3)]],[(1,4),(0,1),(3,4)],rfl,shp_of (by decide)⟩
  split at h
  · cases h; exact ⟨[[],[(1,2)],[(0,1),(1,2)],[(0,1),(0,1),(1,1)]],[(1,6),(1,3),(1,3),(1,6)],rfl,shp_of (by decide)⟩
  · cases h
theorem duA_get {G : Hp} : ∀ {ds : List PyData} {vs : List V} {i : Nat} {v : V},DuA G ds vs→vs[i]? = some v→∃ d,ds[i]? = some d∧Du G d v
  | [],vs,i,v,h,e => by have:=h.nil_eq; subst this; simp at e
  | d :: ds,vs,i,v,h,e => by
    obtain ⟨u,r,rfl,h1,h2⟩:=h.un
    cases i with
    | zero => cases e; exact ⟨d,rfl,h1⟩
    | succ i => exact duA_get (i:=i) h2 e
theorem duA_len {G : Hp} : ∀ {ds : List PyData} {vs : List V},DuA G ds vs→vs.length = ds.length
  | [],vs,h => by have:=h.nil_eq; subst this; rfl
  | d :: ds,vs,h => by obtain ⟨u,r,rfl,h1,h2⟩:=h.un; rw [List.length_cons,List.length_cons,duA_len h2]
structure Told (H0 H : Hp) (p R L : Addr) (ws ls : List V) : Prop where
  tup : H p = some (.tup [.ref R,.ref L])
  rows : H R = some (.lst ws)
  last : H L = some (.lst ls)
  row : ∀ v∈ws,∃ b ys,v = .ref b∧b≠R∧H b = some (.lst ys)∧ys.length≤10∧H0 b = none
  n : ws.length≤4
  nR : H0 R = none
  nL : H0 L = none
  ne : L≠R
  same : Same H0 H
theorem told_of {H0 G H : Hp} {rs : List (List (Int×Int))} {ls : List (Int×Int)} {v : V} (o : Shp rs ls) (nw : Nw (fun _ => none) H0 G) (gi : Same G H) (e : Same H0 H) (d : Du G (tabS rs ls) v) : ∃ p R L ws us,v = .ref p∧Told H0 H p R L ws us := by
  have new : ∀ {a : Addr} {xs : List V},G a = some (.lst xs)→H0 a = none:=fun {a xs} h => by
    rcases nw a _ h with z | z | ⟨_,z⟩
    · cases z
    · exact z
    · cases z
  rw [Du] at d
  obtain ⟨p,ps,rfl,hp,dp⟩:=d
  obtain ⟨v1,v2,rfl,d1,d2⟩:=dp.un2
  rw [Du] at d1 d2
  obtain ⟨R,ws,rfl,hR,dR⟩:=d1
  obtain ⟨L,us,rfl,hL,dL⟩:=d2
  have lw:=duA_len dR
  have lu:=duA_len dL
  rw [List.length_map] at lw lu
  have row : ∀ (i : Nat) (v : V),ws[i]? = some v→∃ b ys,v = .ref b∧G b = some (.lst ys)∧ys.length = i:=fun i v hv => by
    obtain ⟨d,h1,h2⟩:=duA_get dR hv
    rw [List.getElem?_map] at h1
    obtain ⟨r,h3,rfl⟩:=Option.map_eq_some_iff.mp h1
    rw [Du] at h2
    obtain ⟨b,ys,rfl,hb,db⟩:=h2
    refine ⟨b,ys,rfl,hb,?_⟩
    rw [duA_len db,List.length_map,o.row i r h3]
  refine ⟨p,R,L,ws,us,rfl,gi _ _ hp,gi _ _ hR,gi _ _ hL,fun v hv => ?_,by rw [lw]; exact o.most,new hR,new hL,fun z => ?_,e⟩
  · obtain ⟨i,hi⟩:=List.getElem?_of_mem hv
    obtain ⟨b,ys,rfl,hb,hl⟩:=row i v hi
    have hi':=(List.getElem?_eq_some_iff.mp hi).1
    have:=o.most
    refine ⟨b,ys,rfl,fun z => ?_,gi _ _ hb,by lia,new hb⟩
    subst z
    rw [hR] at hb
    cases hb
    lia
  · subst z
    rw [hR] at hL
    cases hL
    have h1:=o.one
    have h0 : ws[0]? = some (ws[0]'(by lia)):=List.getElem?_eq_getElem _
    obtain ⟨b,ys,e1,hb,_⟩:=row 0 _ h0
    obtain ⟨d,k1,k2⟩:=duA_get dL h0
    rw [List.getElem?_map] at k1
    obtain ⟨q,_,rfl⟩:=Option.map_eq_some_iff.mp k1
    rw [Du] at k2
    obtain ⟨b',ys',e2,hb',_⟩:=k2
    rw [e1] at e2
    cases e2
    rw [hb] at hb'
    cases hb'
def spChd : Sp:=fun vs H Q _ => ∃ (H0 : Hp) (p R L : Addr) (ws ls : List V),vs = [.ref p]∧Told H0 H p R L ws ls∧∀ H',Same H0 H'→Q .non H'
section
variable {P : Program} {w : World} {K : PySem.W.Frag} {mg : Str→Option Value} {base : Heap} {f : Addr} {fd : FuncData}
theorem sc__law_changed : FnScope ["_law_table", "_law_row"] ["_law_table"] (defScope s__law_changed):=⟨rfl,rfl,rfl,by decide +kernel,rfl,by decide +kernel,by decide +kernel⟩
theorem ok__law_changed (F : Fn K mg "_law_changed" s__law_changed ["_law_table"] f fd) : FnOk P w K mg base CX0 1 f fd ["_law_table"] spChd := by
  have sc:=sc__law_changed
  refine F.F.ok (k:=0) sc (fun vs H Q E h => ?_) (fun cdv A outer s H vs Q E hr h => ?_)
  · obtain ⟨H0,p,R,L,ws,ls,rfl,_⟩:=h
    rfl
  obtain ⟨H0,p,R,L,ws,ls,rfl,o,q⟩:=h
  have hz : ∀ n : Nat,n≤60→n < sizeLine:=fun n h => Nat.lt_of_le_of_lt h (by rw [sizeLine_eq]; decide)
  refine ⟨_,(pss_cons (ps_for PassesOwn.never rfl (pi_list (pe_ix ix_tup (pv 0) pe_int (fun _ _ => rfl))) (pg_name (i:=1) sc.nd rfl (Or.inl rfl))
    (pss_one (ps_expr (pe_bm PySem.F.plainAttrs_list PySem.F.slot_list_append PySem.F.type_list_append mt_append (pv 1) (pa_cons (pe_tup (pa_cons pe_int (pa_cons pe_int pa_nil))) pa_nil)))))
  (pss_cons (ps_expr (pe_bm PySem.F.plainAttrs_list PySem.F.slot_list_append PySem.F.type_list_append mt_append (pe_ix ix_tup (pv 0) pe_int (fun _ _ => rfl)) (pa_cons (pe_lst pa_nil) pa_nil)))
  (pss_one (ps_expr (pe_bm0 PySem.F.plainAttrs_list PySem.F.slot_list_clear PySem.F.type_list_clear mt_clear (pe_ix ix_tup (pv 0) pe_int (fun _ _ => rfl))))))),?_⟩
  refine ⟨_,rfl,_,_,_,_,rfl,rfl,SqT.of o.tup,rfl,R,rfl,⟨_,SqL.of o.rows⟩,for_list (xs:=ws) (fun i σ H' => ∃ r1 : Option V,σ = [some (.ref p),r1]∧Same H0 H'∧H' p = some (.tup [.ref R,.ref L])∧H' R = some (.lst ws)∧(∃ us,H' L = some (.lst us))∧∀ v∈ws,∃ b ys,v = .ref b∧b≠R∧H' b = some (.lst ys)∧ys.length≤10 + i∧H0 b = none) ?_ ?_ ?_ ?_⟩
  · exact ⟨_,rfl,o.same,o.tup,o.rows,⟨_,o.last⟩,o.row⟩
  · rintro i σ H' _ ⟨r1,rfl,_,_,h,_⟩
    exact SqL.of h
  · rintro i x σ H1 hx ⟨r1,rfl,e1,hp,hR,⟨us,hL⟩,hr1⟩
    have hi:=(List.getElem?_eq_some_iff.mp hx).1
    obtain ⟨b,ys,rfl,nb,hb,hl,h0⟩:=hr1 x (List.mem_of_getElem? hx)
    have hn:=o.n
    refine ⟨_,rfl,.inl ⟨rfl,_,SqL.of hb⟩,Nat.le_of_lt (hz 2 (by decide)),fun c hc => ?_⟩
    have e2:=same_new hc (.tup [V.int 7,.int 1])
    have hb2:=e2 _ _ hb
    refine ⟨b,ys,_,rfl,rfl,hb2,hz _ (by lia),?_⟩
    have np : p≠b:=fun z => by subst z; rw [hp] at hb; cases hb
    refine ⟨_,rfl,fun a u z => by rw [upd_ne (ne_of_none z h0)]; exact e2 _ _ (e1 _ _ z),by rw [upd_ne np]; exact e2 _ _ hp,by rw [upd_ne nb.symm]; exact e2 _ _ hR,?_,fun v hv => ?_⟩
    · by_cases z : L = b
      · subst z; exact ⟨_,upd_same⟩
      · exact ⟨us,by rw [upd_ne z]; exact e2 _ _ hL⟩
    · obtain ⟨b',ys',rfl,nb',hb',hl',h0'⟩:=hr1 v hv
      by_cases z : b' = b
      · subst z
        rw [hb] at hb'
        cases hb'
        exact ⟨b',_,rfl,nb',upd_same,by rw [List.length_append,List.length_singleton]; lia,h0'⟩
      · exact ⟨b',ys',rfl,nb',by rw [upd_ne z]; exact e2 _ _ hb',by lia,h0'⟩
  · rintro σ H1 ⟨r1,rfl,e1,hp,hR,⟨us,hL⟩,_⟩
    have hn:=o.n
    refine ⟨_,rfl,_,_,_,_,rfl,rfl,SqT.of hp,rfl,.inl ⟨rfl,_,SqL.of hR⟩,Nat.le_of_lt (hz 0 (by decide)),fun c hc => ?_⟩
    have e2:=same_new hc (.lst [])
    refine ⟨R,ws,_,rfl,rfl,e2 _ _ hR,hz _ (by lia),?_⟩
    have np : p≠R:=fun z => by subst z; rw [hp] at hR; cases hR
    have hp3 : upd (upd H1 c (.lst [])) R (.lst (ws ++ [.ref c])) p = some (.tup [.ref R,.ref L]) := by rw [upd_ne np]; exact e2 _ _ hp
    have hL3 : upd (upd H1 c (.lst [])) R (.lst (ws ++ [.ref c])) L = some (.lst us) := by rw [upd_ne o.ne]; exact e2 _ _ hL
    refine ⟨_,rfl,_,_,_,_,rfl,rfl,SqT.of hp3,rfl,.inl ⟨rfl,_,SqL.of hL3⟩,L,us,rfl,rfl,hL3,?_⟩
    exact q _ fun a u z => by rw [upd_ne (ne_of_none z o.nL),upd_ne (ne_of_none z o.nR)]; exact e2 _ _ (e1 _ _ z)
end
def spGood : Sp:=fun vs H Q _ => ∃ x : Str,vs = [.str x]∧∀ H',Same H H'→Q (.bl true) H'
theorem can_fr : ∀ l : List (Int×Int),PyData.canLayAll0 (l.map frP) = true
  | [] => rfl
  | p :: l => by simp [PyData.canLayAll0,PyData.canLay0,can_fr l]
theorem can_tab {rs : List (List (Int×Int))} {ls : List (Int×Int)} (_ : Shp rs ls) : (tabS rs ls).canLay0 = true := by
  have g : ∀ rs : List (List (Int×Int)),PyData.canLayAll0 (rs.map fun r => PyData.list (r.map frP)) = true:=fun rs => by
    induction rs with
    | nil => rfl
    | cons r rs ih => simp [PyData.canLayAll0,PyData.canLay0,can_fr,ih]
  simp [PyData.canLay0,PyData.canLayAll0,can_fr,g]
section
variable {P : Program} {w : World} {K : PySem.W.Frag} {mg : Str→Option Value} {base : Heap} {f g1 g2 g3 g4 g5 g6 g7 : Addr} {fd gd1 gd2 gd3 gd4 gd5 gd6 gd7 : FuncData}
theorem sc__law_good : FnScope ["_law_name", "_law_tables_here", "_law_found", "_law_caught"] ["_law_name"] (defScope s__law_good):=⟨rfl,rfl,rfl,by decide +kernel,rfl,by decide +kernel,by decide +kernel⟩
theorem ok__law_good {k : Nat} {C : Addr} (F : Fn K mg "_law_good" s__law_good ["_law_name"] f fd) (T__law_tables : Fn K mg "_law_tables" s__law_tables [] g1 gd1) (T__law_asked : Fn K mg "_law_asked" s__law_asked ["_law_name"] g2 gd2) (T__law_only : Fn K mg "_law_only" s__law_only ["_law_caught", "_law_place"] g3 gd3) (T__law_same : Fn K mg "_law_same" s__law_same ["_law_found", "_law_due"] g4 gd4) (T_is_table : Fn K mg "is_table" s_is_table ["thing"] g5 gd5) (T__law_changed : Fn K mg "_law_changed" s__law_changed ["_law_table"] g6 gd6) (T_table_of : Fn K mg "table_of" s_table_of ["name"] g7 gd7)
    (G__law_tables : FnOk P w K mg base CX0 k g1 gd1 [] spTabs) (G__law_asked : FnOk P w K mg base CX0 k g2 gd2 ["_law_name"] (spD (m__law_asked (mT C)))) (G__law_only : FnOk P w K mg base CX0 k g3 gd3 ["_law_caught", "_law_place"] (spD (mOnly C))) (G__law_same : FnOk P w K mg base CX0 k g4 gd4 ["_law_found", "_law_due"] (spD (m__law_same 6))) (G_is_table : FnOk P w K mg base CX0 k g5 gd5 ["thing"] (spD (mB isTabD))) (G__law_changed : FnOk P w K mg base CX0 k g6 gd6 ["_law_table"] spChd) (G_table_of : FnOk P w K mg base CX0 k g7 gd7 ["name"] (spD (good (m_table_of C)))) :
    FnOk P w K mg base CX0 (k + 1) f fd ["_law_name"] spGood := by
  have sc:=sc__law_good
  refine F.F.ok (k:=k) sc (fun vs H Q E h => ?_) (fun cdv A outer s H vs Q E hr h => ?_)
  · obtain ⟨x,rfl,_⟩:=h
    rfl
  obtain ⟨x,rfl,q⟩:=h
  have hu : (A.deeper (PyProof.Rows.envOfC "_law_good" (defScope s__law_good) s.heap.objs.size f cdv)).units + 1 < cLine := by have:=hr.units; lia
  refine' pss6 ?p1 ?p2 ?p3 ?p4 ?p5 ?p6 ?kk
  case p1 => exact .of (ps_set (i:=1) sc.nd rfl (Or.inl rfl) (pe_call0 G__law_tables hr rfl T__law_tables.m T__law_tables.F.kp T__law_tables.b .nil pass0 (by decide)))
  case p2 => exact .of (ps_asg (pe_fn T__law_asked G__law_asked hr rfl (pa_cons (pv 0) pa_nil)) (pg_tup rfl (pgs_cons (pg_name (i:=2) sc.nd rfl (Or.inl rfl)) (pgs_cons (pg_name (i:=3) sc.nd rfl (Or.inl rfl)) pgs_nil))))
  case p3 => exact .of (ps_if (pt_cmp (pc_dnotin hu (pv 0) (pv 1)) (by rfl)) (pss_one (ps_ret (pe_fn T__law_only G__law_only hr rfl (pa_cons (pv 3) (pa_cons pe_int pa_nil))))) pss_nil)
  case p4 => exact .of (ps_if (PW.pt (pw_or (pt_cmpR op_notN (pv 3) pe_non (nomark _)) (pw_or (pt_not (pt_val (pe_fn T__law_same G__law_same hr rfl (pa_cons (pv 2) (pa_cons (pe_dget hu (pv 1) (pv 0) (fun _ _ => rfl)) pa_nil))))) (pw_or1 (pt_cmpR op_notB (pe_fn T_is_table G_is_table hr rfl (pa_cons (pv 2) pa_nil)) pe_bl (nomark _)))))) (pss_one (ps_ret pe_bl)) pss_nil)
  case p5 => exact .of (ps_expr (pe_fn T__law_changed G__law_changed hr rfl (pa_cons (pv 2) pa_nil)))
  case p6 => exact .of (ps_ret (pe_fn T__law_same G__law_same hr rfl (pa_cons (pe_fn T_table_of G_table_of hr rfl (pa_cons (pv 0) pa_nil)) (pa_cons (pe_dget hu (pv 1) (pv 0) (fun _ _ => rfl)) pa_nil))))
  refine ⟨rfl,fun D H1 kvs e1 hD hk => ?_⟩
  have none_du : ∀ (y : Str),DuA (fun _ => none) [PyData.str y] [V.str y]:=fun y => .cons (by rw [Du]) .nil
  have none_in : ∀ H : Hp,Same (fun _ => none) H:=fun H a o z => by cases z
  rcases asked_is C x with ⟨d,hd,ha⟩ | ⟨hd,ha⟩
  · obtain ⟨d',v',k1,k2,k3⟩ : ∃ d v,ltD x = some d∧valV kvs (.inr x) = some v∧DU H1 d v := by
      rcases hk x with z | ⟨z,_⟩
      · exact z
      · rw [hd] at z; cases z
    rw [hd] at k1
    cases k1
    refine ⟨_,rfl,[.str x],_,fun _ => none,ha,none_du x,none_in _,fun v G2 H2 _ nw2 g2 e2 dv => ?_⟩
    rw [Du] at dv
    obtain ⟨t,ts,rfl,ht,dts⟩:=dv
    obtain ⟨vd,vn,rfl,dd,dn⟩:=dts.un2
    rw [Du] at dn
    subst dn
    refine ⟨t,_,rfl,SqT.of (g2 _ _ ht),rfl,?_⟩
    refine ⟨_,_,rfl,_,_,rfl,rfl,?_⟩
    have hD2:=e2 _ _ hD
    have m1:=DGet.k (k:=.inr x) hD2
    rw [k2] at m1
    refine ⟨_,rfl,_,rfl,D,_,rfl,m1,_,rfl,iteF ?_⟩
    have dv2:=(k3.same e2).du
    have dd2:=dd.same g2
    obtain ⟨s1,s2⟩:=same_is x hd
    refine ⟨_,rfl,rfl,_,rfl,?_⟩
    refine iteF ?_
    refine ⟨_,rfl,_,rfl,_,rfl,D,_,rfl,m1,[d,d],.bool true,H2,s1,.cons dd2 (.cons dv2 .nil),.refl _,fun v G3 H3 _ _ _ e3 dv => ?_⟩
    rw [Du] at dv
    subst dv
    refine ⟨_,rfl,iteF ?_⟩
    obtain ⟨rs,ls,rfl,o⟩:=shape hd
    refine ⟨_,rfl,[tabS rs ls],.bool true,H3,mB_v (can_tab o) s2,.cons (dd2.same e3) .nil,.refl _,fun v G4 H4 _ _ _ e4 dv => ?_⟩
    rw [Du] at dv
    subst dv
    refine ⟨_,_,rfl,rfl,_,rfl,iteF ?_⟩
    obtain ⟨p,R,L,ws,us,rfl,tl⟩:=told_of o nw2 (g2.trans (e3.trans e4)) (e2.trans (e3.trans e4)) dd
    refine ⟨_,rfl,H1,p,R,L,ws,us,rfl,tl,fun H5 e5 => ?_⟩
    have m5:=DGet.k (k:=.inr x) (e5 _ _ hD)
    rw [k2] at m5
    have hg : good (m_table_of C) [.str x] = some (tabS rs ls) := by
      rcases tab_is C x with ⟨d2,z1,z2⟩ | ⟨z1,_⟩
      · rw [hd] at z1
        cases z1
        unfold good
        rw [z2]
      · rw [hd] at z1; cases z1
    refine ⟨_,rfl,[.str x],_,fun _ => none,hg,none_du x,none_in _,fun v6 G6 H6 _ _ g6 e6 d6 => ?_⟩
    have m6:=DGet.k (k:=.inr x) (e6 _ _ (e5 _ _ hD))
    rw [k2] at m6
    refine ⟨_,rfl,_,rfl,D,_,rfl,m6,[tabS rs ls,tabS rs ls],.bool true,H6,s1,.cons (d6.same g6) (.cons ((k3.same (e5.trans e6)).du) .nil),.refl _,fun v G7 H7 _ _ _ e7 dv => ?_⟩
    rw [Du] at dv
    subst dv
    exact q _ (e1.trans (e5.trans (e6.trans e7)))
  · have k2 : valV kvs (.inr x) = none := by
      rcases hk x with ⟨d,v,z,_⟩ | ⟨_,z⟩
      · rw [hd] at z; cases z
      · exact z
    refine ⟨_,rfl,[.str x],_,fun _ => none,ha,none_du x,none_in _,fun v G2 H2 _ nw2 g2 e2 dv => ?_⟩
    rw [Du] at dv
    obtain ⟨t,ts,rfl,ht,dts⟩:=dv
    obtain ⟨vd,vn,rfl,dd,dn⟩:=dts.un2
    refine ⟨t,_,rfl,SqT.of (g2 _ _ ht),rfl,?_⟩
    refine ⟨_,_,rfl,_,_,rfl,rfl,?_⟩
    have m1:=DGet.k (k:=.inr x) (e2 _ _ hD)
    rw [k2] at m1
    refine ⟨_,rfl,_,rfl,D,_,rfl,m1,_,rfl,iteT ?_⟩
    refine ⟨_,rfl,[excD C,.int 5],.bool true,H2,onlyT_is C,.cons (dn.same g2) (.cons (by rw [Du]) .nil),.refl _,fun v G3 H3 _ _ _ e3 dv => ?_⟩
    rw [Du] at dv
    subst dv
    exact q _ (e1.trans (e2.trans e3))
end
theorem pss11 {X : Cx} {s1 : Stmt} {t1 : TS} {s2 : Stmt} {t2 : TS} {s3 : Stmt} {t3 : TS} {s4 : Stmt} {t4 : TS} {s5 : Stmt} {t5 : TS} {s6 : Stmt} {t6 : TS} {s7 : Stmt} {t7 : TS} {s8 : Stmt} {t8 : TS} {s9 : Stmt} {t9 : TS} {s10 : Stmt} {t10 : TS} {s11 : Stmt} {t11 : TS} (p1 : PSo X s1 t1) (p2 : PSo X s2 t2) (p3 : PSo X s3 t3) (p4 : PSo X s4 t4) (p5 : PSo X s5 t5) (p6 : PSo X s6 t6) (p7 : PSo X s7 t7) (p8 : PSo X s8 t8) (p9 : PSo X s9 t9) (p10 : PSo X s10 t10) (p11 : PSo X s11 t11) {Pz : TS→Prop} (k : Pz (tSeq t1 (tSeq t2 (tSeq t3 (tSeq t4 (tSeq t5 (tSeq t6 (tSeq t7 (tSeq t8 (tSeq t9 (tSeq t10 t11))))))))))) : ∃ t,PSs X [s1,s2,s3,s4,s5,s6,s7,s8,s9,s10,s11] t∧Pz t:=⟨_,(pss_cons p1.out (pss_cons p2.out (pss_cons p3.out (pss_cons p4.out (pss_cons p5.out (pss_cons p6.out (pss_cons p7.out (pss_cons p8.out (pss_cons p9.out (pss_cons p10.out (pss_one p11.out))))))))))),k⟩
def spWord : Sp:=fun vs H Q _ => ∃ (l : Addr) (x0 : Int),vs = [.ref l]∧H l = some (.lst [.int x0])∧∀ (y : Str) H',SameBut l H H'→Q (.str y) H'
abbrev nmV : List V:=[.str "plain",.str "middle",.str "heel",.str "third",.str "fourth"]
theorem names_at {r : Int} (h0 : 0≤r) (h1 : r < 5) : ∃ x : Str,atI nmV r = some (.str x)∧1≤x.length∧x.length≤6 := by
  have : r = 0∨r = 1∨r = 2∨r = 3∨r = 4 := by lia
  rcases this with rfl | rfl | rfl | rfl | rfl
  · exact ⟨"plain",rfl,by decide,by decide⟩
  · exact ⟨"middle",rfl,by decide,by decide⟩
  · exact ⟨"heel",rfl,by decide,by decide⟩
  · exact ⟨"third",rfl,by decide,by decide⟩
  · exact ⟨"fourth",rfl,by decide,by decide⟩
structure Dn (H : Hp) (l N : Addr) (H' : Hp) : Prop where
  but : SameBut l H H'
  at_ : ∃ y,H' l = some (.lst [.int y])
  nm : H' N = some (.lst nmV)
theorem Dn.take {H H' : Hp} {l N : Addr} (d : Dn H l N H') (n : N≠l) (y : Int) : Dn H l N (upd H' l (.lst [.int y])) :=
  ⟨fun a o na z => by rw [upd_ne na]; exact d.but a o na z,⟨y,upd_same⟩,by rw [upd_ne n]; exact d.nm⟩
theorem Dn.new {H H' : Hp} {l N p : Addr} {o : HO} (d : Dn H l N H') (hp : H' p = none) : Dn H l N (upd H' p o) := by
  have e:=same_new hp o
  obtain ⟨y,hy⟩:=d.at_
  exact ⟨fun a u na z => e _ _ (d.but a u na z),⟨y,e _ _ hy⟩,e _ _ d.nm⟩
theorem chr_at (z : Str) {i : Int} (h0 : 0≤i) (h1 : i < z.length) : ∃ c,z.cps[i.toNat]? = some c := by
  have : i.toNat < z.cps.size := by have : z.length = z.cps.size:=rfl; lia
  exact ⟨z.cps[i.toNat],Array.getElem?_eq_getElem this⟩
theorem cat_len (a b : Str) : (a ++ b).length = a.length + b.length := by
  show (a.cps ++ b.cps).size = _
  rw [Array.size_append]; rfl
theorem len26 : (Str.ofString "abcdefghijklmnopqrstuvwxyz").length = 26 := by decide
theorem szB {n : Nat} (h : n≤1000) : n≤sizeLine:=Nat.le_trans h (by rw [sizeLine_eq]; decide)
section
variable {P : Program} {w : World} {K : PySem.W.Frag} {mg : Str→Option Value} {base : Heap} {f g1 : Addr} {fd gd1 : FuncData}
theorem sc__law_word : FnScope ["_law_pile_here", "_law_names", "_law_letters", "_law_name", "_law_at", "_law_sign", "_law_way"] ["_law_pile_here"] (defScope s__law_word):=⟨rfl,rfl,rfl,by decide +kernel,rfl,by decide +kernel,by decide +kernel⟩
theorem ok__law_word {k : Nat} (F : Fn K mg "_law_word" s__law_word ["_law_pile_here"] f fd) (T__law_take : Fn K mg "_law_take" s__law_take ["_law_pile_here", "_law_size"] g1 gd1) (G__law_take : FnOk P w K mg base CX0 k g1 gd1 ["_law_pile_here", "_law_size"] spTake) (z_len : mg "len" = none) (z_range : mg "range" = none) : FnOk P w K mg base CX0 (k + 1) f fd ["_law_pile_here"] spWord := by
  have sc:=sc__law_word
  refine F.F.ok (k:=k) sc (fun vs H Q E h => ?_) (fun cdv A outer s H vs Q E hr h => ?_)
  · obtain ⟨l,x0,rfl,_⟩:=h
    rfl
  obtain ⟨l,x0,rfl,hl,q⟩:=h
  refine' pss11 ?p1 ?p2 ?p3 ?p4 ?p5 ?p6 ?p7 ?p8 ?p9 ?p10 ?p11 ?kk
  case p1 => exact .of (ps_set (i:=1) sc.nd rfl (Or.inl rfl) (pe_lst (pa_cons pe_str (pa_cons pe_str (pa_cons pe_str (pa_cons pe_str (pa_cons pe_str pa_nil)))))))
  case p2 => exact .of (ps_set (i:=2) sc.nd rfl (Or.inr rfl) pe_str)
  case p3 => exact .of (ps_set (i:=3) sc.nd rfl (Or.inl rfl) (pe_ix ix_list (pv 1) (pe_fn T__law_take G__law_take hr rfl (pa_cons (pv 0) (pa_cons pe_int pa_nil))) (fun _ _ => rfl)))
  case p4 => exact .of (ps_set (i:=4) sc.nd rfl (Or.inl rfl) (pe_op op_mod (pe_fn T__law_take G__law_take hr rfl (pa_cons (pv 0) (pa_cons pe_int pa_nil))) (pe_callB call_len_str rfl z_len PySem.boot_len (pa_cons (pv 3) pa_nil))))
  case p5 => exact .of (ps_set (i:=5) sc.nd rfl (Or.inl rfl) (pe_item_str (pv 2) (pe_fn T__law_take G__law_take hr rfl (pa_cons (pv 0) (pa_cons pe_int pa_nil))) (fun _ _ => rfl)))
  case p6 => exact .of (ps_set (i:=6) sc.nd rfl (Or.inl rfl) (pe_fn T__law_take G__law_take hr rfl (pa_cons (pv 0) (pa_cons pe_int pa_nil))))
  case p7 => exact .of (ps_if (pt_cmpR op_lt (pv 6) pe_int (nomark _)) (pss_one (ps_ret (pe_op op_add_str (pe_op op_add_str (pe_strTo (pv 3) (pv 4)) (pe_ix ix_list (pe_lst (pa_cons (pv 5) (pa_cons pe_str (pa_cons (pe_bm0 PySem.F.plainAttrs_str PySem.F.slot_str_upper PySem.F.type_str_upper mt_upper (pe_item_str (pv 3) (pv 4) (fun _ _ => rfl))) (pa_cons (pe_op op_add_str (pv 5) (pe_item_str (pv 3) (pv 4) (fun _ _ => rfl))) pa_nil))))) (pv 6) (fun _ _ => rfl))) (pe_strFrom (pv 3) (pe_op op_add (pv 4) pe_int))))) pss_nil)
  case p8 => exact .of (ps_if (pt_cmpR op_eq (pv 6) pe_int (nomark _)) (pss_one (ps_ret (pe_ix ix_list (pe_lst (pa_cons (pe_op op_add_str pe_str (pv 3)) (pa_cons (pe_op op_add_str (pv 3) pe_str) (pa_cons (pe_op op_add_str (pv 3) pe_str) pa_nil)))) (pe_fn T__law_take G__law_take hr rfl (pa_cons (pv 0) (pa_cons pe_int pa_nil))) (fun _ _ => rfl)))) pss_nil)
  case p9 => exact .of (ps_if (pt_cmpR op_eq (pv 6) pe_int (nomark _)) (pss_one (ps_ret (pe_op op_add_str (pe_op op_add_str (pv 3) (pe_ix ix_list (pe_lst (pa_cons pe_str (pa_cons pe_str pa_nil))) (pe_fn T__law_take G__law_take hr rfl (pa_cons (pv 0) (pa_cons pe_int pa_nil))) (fun _ _ => rfl))) (pe_ix ix_list (pv 1) (pe_fn T__law_take G__law_take hr rfl (pa_cons (pv 0) (pa_cons pe_int pa_nil))) (fun _ _ => rfl))))) pss_nil)
  case p10 => exact .of (ps_if (pt_cmpR op_eq (pv 6) pe_int (nomark _)) (pss_one (ps_ret (pe_strTo (pv 3) (pv 4)))) pss_nil)
  case p11 => exact .of (ps_ret (pe_bm PySem.F.plainAttrs_str PySem.F.slot_str_join PySem.F.type_str_join mt_join pe_str (pa_cons (pe_compr [".0", "_law_k", "_law_letters", "_law_pile_here"] 1 [none,none,some 2,some 0] (pi_range1 rfl z_range (pa_cons (pe_fn T__law_take G__law_take hr rfl (pa_cons (pv 0) (pa_cons pe_int pa_nil))) pa_nil)) (fun _ _ _ _ _ => pif_nil) (fun _ _ _ _ _ => (pe_item_str (pv 2) (pe_fn T__law_take G__law_take hr rfl (pa_cons (pv 3) (pa_cons pe_int pa_nil))) (fun _ _ => rfl)))) pa_nil)))
  refine ⟨szB (show 5≤1000 by decide),fun N hN => ?_⟩
  have nN : N≠l:=(ne_of_none hl hN).symm
  have d1 : Dn H l N (upd H N (.lst nmV)):=⟨.of (same_new hN _),⟨x0,same_new hN _ _ _ hl⟩,upd_same⟩
  generalize upd H N (.lst nmV) = H1 at d1
  obtain ⟨x1,hx1⟩:=d1.at_
  refine ⟨_,rfl,_,rfl,l,x1,5,rfl,hx1,by decide,by decide,fun r y r0 r1 => ?_⟩
  have d2:=d1.take nN y
  obtain ⟨nm,a1,nm1,nm6⟩:=names_at r0 r1
  generalize upd H1 l (.lst [.int y]) = H2 at d2
  refine ⟨N,nmV,r,_,rfl,rfl,SqL.of d2.nm,a1,?_⟩
  obtain ⟨x2,hx2⟩:=d2.at_
  refine ⟨_,rfl,l,x2,60,rfl,hx2,by decide,by decide,fun r2 y2 _ _ => ?_⟩
  have d3:=d2.take nN y2
  generalize upd H2 l (.lst [.int y2]) = H3 at d3
  refine ⟨_,rfl,nm,rfl,szB (by lia),_,_,rfl,rfl,(by show (0 : Int) < nm.length; lia),?_⟩
  obtain ⟨at_,hat,a0,aL⟩ : ∃ i : Int,r2 % (nm.length : Int) = i∧0≤i∧i < nm.length:=⟨_,rfl,Int.emod_nonneg _ (by lia),Int.emod_lt_of_pos _ (by lia)⟩
  rw [show ((fun i j : Int => V.int (i % j)) r2 (nm.length : Int)) = V.int at_ from congrArg V.int hat]
  obtain ⟨x3,hx3⟩:=d3.at_
  refine ⟨_,rfl,_,rfl,l,x3,26,rfl,hx3,by decide,by decide,fun r3 y3 r30 r31 => ?_⟩
  have d4:=d3.take nN y3
  generalize upd H3 l (.lst [.int y3]) = H4 at d4
  obtain ⟨c3,hc3⟩:=chr_at "abcdefghijklmnopqrstuvwxyz" r30 (by rw [len26]; exact r31)
  refine ⟨_,r3,c3,rfl,rfl,r30,by lia,by rw [len26]; exact r31,hc3,?_⟩
  obtain ⟨x4,hx4⟩:=d4.at_
  refine ⟨_,rfl,l,x4,8,rfl,hx4,by decide,by decide,fun wy y4 w0 w1 => ?_⟩
  have d5:=d4.take nN y4
  generalize upd H4 l (.lst [.int y4]) = H5 at d5
  have sg : (⟨#[c3]⟩ : Str).length = 1:=rfl
  generalize (⟨#[c3]⟩ : Str) = sign at sg
  obtain ⟨ca,hca⟩:=chr_at nm a0 aL
  have a63 : at_ < 2 ^ 63 := by lia
  have sl : ∀ lo hi : Option Int,(Txt.slice nm lo hi).length≤6:=fun lo hi => Nat.le_trans (Txt.slice_le nm lo hi) nm6
  refine ⟨_,rfl,_,_,rfl,rfl,_,rfl,ite2 (fun hlt => ?_) (fun hge => ?_)⟩
  · refine ⟨_,rfl,_,rfl,nm,at_,rfl,rfl,szB (by lia),?_⟩
    refine ⟨_,rfl,_,rfl,_,rfl,nm,at_,ca,rfl,rfl,a0,a63,aL,hca,rfl,⟨#[ca]⟩,rfl,rfl,(show 1≤1000 by decide),fun hup => ?_⟩
    refine ⟨_,rfl,_,rfl,_,rfl,nm,at_,ca,rfl,rfl,a0,a63,aL,hca,sign,⟨#[ca]⟩,rfl,rfl,szB (by rw [sg]; show 1 + 1≤1000; decide),?_⟩
    refine ⟨szB (show 4≤1000 by decide),fun p hp => ?_⟩
    have d6:=d5.new (o:=.lst [.str sign,.str "",.str (Txt.upper ⟨#[ca]⟩),.str (sign ++ ⟨#[ca]⟩)]) hp
    have hlt : wy < 4:=of_decide_eq_true hlt
    obtain ⟨z,hz,zl⟩ : ∃ z : Str,atI [V.str sign,.str "",.str (Txt.upper ⟨#[ca]⟩),.str (sign ++ ⟨#[ca]⟩)] wy = some (.str z)∧z.length≤10 := by
      have : wy = 0∨wy = 1∨wy = 2∨wy = 3 := by lia
      rcases this with rfl | rfl | rfl | rfl
      · exact ⟨sign,rfl,by lia⟩
      · exact ⟨"",rfl,by decide⟩
      · exact ⟨_,rfl,Nat.le_trans hup (show 3≤10 by decide)⟩
      · exact ⟨_,rfl,by rw [cat_len,sg]; show 1 + 1≤10; decide⟩
    refine ⟨_,rfl,p,_,wy,_,rfl,rfl,SqL.of upd_same,hz,?_⟩
    have s1:=sl none (some at_)
    refine ⟨_,_,rfl,rfl,szB (by lia),?_⟩
    refine ⟨_,rfl,_,rfl,_,_,rfl,rfl,nm,_,rfl,rfl,szB (by lia),?_⟩
    have s2:=sl (some (at_ + 1)) none
    refine ⟨_,_,rfl,rfl,szB (by rw [cat_len]; have:=sl (some (at_ + 1)) none; lia),?_⟩
    exact q _ _ d6.but
  refine ⟨_,rfl,rfl,_,rfl,ite2 (fun h4 => ?_) (fun h4 => ?_)⟩
  · refine ⟨_,rfl,_,nm,rfl,rfl,szB (show 1 + nm.length≤1000 by lia),?_⟩
    refine ⟨_,rfl,nm,_,rfl,rfl,szB (show nm.length + 1≤1000 by lia),?_⟩
    refine ⟨_,rfl,nm,_,rfl,rfl,szB (show nm.length + 1≤1000 by lia),?_⟩
    refine ⟨szB (show 3≤1000 by decide),fun p hp => ?_⟩
    have d6:=d5.new (o:=.lst [.str (" " ++ nm),.str (nm ++ " "),.str (nm ++ "s")]) hp
    have hp6 : upd H5 p (.lst [V.str (" " ++ nm),.str (nm ++ " "),.str (nm ++ "s")]) p = some (.lst [V.str (" " ++ nm),.str (nm ++ " "),.str (nm ++ "s")]):=upd_same
    have pl : p≠l:=fun z => by obtain ⟨y,hy⟩:=d5.at_; rw [z,hy] at hp; cases hp
    generalize upd H5 p (.lst [V.str (" " ++ nm),.str (nm ++ " "),.str (nm ++ "s")]) = H6 at d6 hp6
    obtain ⟨x6,hx6⟩:=d6.at_
    refine ⟨_,rfl,l,x6,3,rfl,hx6,by decide,by decide,fun r6 y6 r60 r61 => ?_⟩
    obtain ⟨z,hz⟩ : ∃ z : Str,atI [V.str (" " ++ nm),.str (nm ++ " "),.str (nm ++ "s")] r6 = some (.str z) := by
      have : r6 = 0∨r6 = 1∨r6 = 2 := by lia
      rcases this with rfl | rfl | rfl
      · exact ⟨_,rfl⟩
      · exact ⟨_,rfl⟩
      · exact ⟨_,rfl⟩
    exact ⟨p,_,r6,_,rfl,rfl,SqL.of (show upd H6 l (.lst [.int y6]) p = _ by rw [upd_ne pl]; exact hp6),hz,q _ _ (d6.take nN y6).but⟩
  refine ⟨_,rfl,rfl,_,rfl,ite2 (fun h4 => ?_) (fun h4 => ?_)⟩
  · refine ⟨_,rfl,szB (show 2≤1000 by decide),fun p hp => ?_⟩
    have d6:=d5.new (o:=.lst [.str " ",.str ""]) hp
    have hp6 : upd H5 p (.lst [V.str " ",.str ""]) p = some (.lst [V.str " ",.str ""]):=upd_same
    have pl : p≠l:=fun z => by obtain ⟨y,hy⟩:=d5.at_; rw [z,hy] at hp; cases hp
    generalize upd H5 p (.lst [V.str " ",.str ""]) = H6 at d6 hp6
    obtain ⟨x6,hx6⟩:=d6.at_
    refine ⟨_,rfl,l,x6,2,rfl,hx6,by decide,by decide,fun r6 y6 r60 r61 => ?_⟩
    obtain ⟨z,hz,zl⟩ : ∃ z : Str,atI [V.str " ",.str ""] r6 = some (.str z)∧z.length≤1 := by
      have : r6 = 0∨r6 = 1 := by lia
      rcases this with rfl | rfl
      · exact ⟨" ",rfl,by decide⟩
      · exact ⟨"",rfl,by decide⟩
    have d7:=d6.take nN y6
    refine ⟨p,_,r6,_,rfl,rfl,SqL.of (show upd H6 l (.lst [.int y6]) p = _ by rw [upd_ne pl]; exact hp6),hz,nm,z,rfl,rfl,szB (by lia),?_⟩
    generalize upd H6 l (.lst [.int y6]) = H7 at d7
    obtain ⟨x7,hx7⟩:=d7.at_
    refine ⟨_,rfl,_,rfl,l,x7,5,rfl,hx7,by decide,by decide,fun r7 y7 r70 r71 => ?_⟩
    obtain ⟨n2,a2,_,n26⟩:=names_at r70 r71
    have d8:=d7.take nN y7
    exact ⟨N,nmV,r7,_,rfl,rfl,SqL.of d8.nm,a2,_,_,rfl,rfl,szB (by rw [cat_len]; lia),q _ _ d8.but⟩
  refine ⟨_,rfl,rfl,_,rfl,ite2 (fun h4 => ?_) (fun h4 => ?_)⟩
  · exact ⟨_,rfl,_,rfl,nm,at_,rfl,rfl,szB (by lia),q _ _ d5.but⟩
  obtain ⟨x6,hx6⟩:=d5.at_
  refine ⟨rfl,_,rfl,l,x6,9,rfl,hx6,by decide,by decide,fun r6 y6 r60 r61 => ?_⟩
  have d6:=d5.take nN y6
  generalize upd H5 l (.lst [.int y6]) = H6 at d6
  refine ⟨r6,rfl,by lia,by lia,fun D hD => comp_by (n:=r6.toNat) (fun i ys H' => Dn H l N H'∧∃ zs : List Str,ys = zs.map V.str∧zs.length = i∧∀ z∈zs,z.length≤1) ⟨d6.new hD,[],rfl,rfl,fun _ z => (List.not_mem_nil z).elim⟩ ?_ ?_⟩
  · rintro i ys H7 hi ⟨d7,zs,rfl,hzl,hz1⟩ hD7
    refine ⟨hi,Nat.lt_of_lt_of_le (show (zs.map V.str).length < 1000 by rw [List.length_map]; lia) (szB (Nat.le_refl _)),fun x H' y => ?_⟩
    obtain ⟨rfl,rfl⟩:=y
    unfold tNoIf
    have nD : D≠l:=fun z => by obtain ⟨y,hy⟩:=d6.at_; rw [z,hy] at hD; cases hD
    have nDN : D≠N:=fun z => by rw [z,d6.nm] at hD; cases hD
    obtain ⟨x7,hx7⟩:=d7.at_
    refine iteT ⟨_,rfl,_,rfl,l,x7,26,rfl,hx7,by decide,by decide,fun r7 y7 r70 r71 => ?_⟩
    obtain ⟨c7,hc7⟩:=chr_at "abcdefghijklmnopqrstuvwxyz" r70 (by rw [len26]; exact r71)
    have d8:=d7.take nN y7
    refine ⟨_,r7,c7,rfl,rfl,r70,by lia,by rw [len26]; exact r71,hc7,?_⟩
    refine ⟨by rw [upd_ne nD]; exact hD7,cw_next hi ⟨⟨fun a o na z => ?_,?_,?_⟩,zs ++ [⟨#[c7]⟩],by rw [List.map_append]; rfl,by simp [hzl],fun z hz => ?_⟩⟩
    · rw [upd_ne (fun e => by subst e; exact absurd (d6.but _ o na z) (by rw [hD]; simp))]
      exact d8.but a o na z
    · obtain ⟨y,hy⟩:=d8.at_
      exact ⟨y,by rw [upd_ne nD.symm]; exact hy⟩
    · rw [upd_ne nDN.symm]; exact d8.nm
    · rcases List.mem_append.mp hz with hz | hz
      · exact hz1 z hz
      · rw [List.mem_singleton.mp hz]; exact Nat.le_refl 1
  · rintro ys H7 ⟨d7,zs,rfl,hzl,hz1⟩ hD7
    refine ⟨Nat.le_refl _,?_⟩
    refine ⟨"",D,zs,rfl,rfl,SqL.of hD7,by lia,by decide,fun z hz => Nat.le_trans (hz1 z hz) (by decide),q _ _ d7.but⟩
end
theorem many40 (ns : List Int) : ∃ many : Nat,many≤40∧(if (1 : Int) > (if (40 : Int) < (((ns.map V.int).length : Nat) : Int) then 40 else (((ns.map V.int).length : Nat) : Int)) then 1 else (if (40 : Int) < (((ns.map V.int).length : Nat) : Int) then 40 else (((ns.map V.int).length : Nat) : Int))) = (many : Int) := by
  refine ⟨(if (1 : Int) > (if (40 : Int) < (((ns.map V.int).length : Nat) : Int) then 40 else (((ns.map V.int).length : Nat) : Int)) then 1 else (if (40 : Int) < (((ns.map V.int).length : Nat) : Int) then 40 else (((ns.map V.int).length : Nat) : Int))).toNat,?_,?_⟩
  · split <;> split <;> lia
  · split <;> split <;> lia
theorem pss5 {X : Cx} {s1 : Stmt} {t1 : TS} {s2 : Stmt} {t2 : TS} {s3 : Stmt} {t3 : TS} {s4 : Stmt} {t4 : TS} {s5 : Stmt} {t5 : TS} (p1 : PSo X s1 t1) (p2 : PSo X s2 t2) (p3 : PSo X s3 t3) (p4 : PSo X s4 t4) (p5 : PSo X s5 t5) {Pz : TS→Prop} (k : Pz (tSeq t1 (tSeq t2 (tSeq t3 (tSeq t4 t5))))) : ∃ t,PSs X [s1,s2,s3,s4,s5] t∧Pz t:=⟨_,(pss_cons p1.out (pss_cons p2.out (pss_cons p3.out (pss_cons p4.out (pss_one p5.out))))),k⟩
theorem cut_nm {lo hi : Option Int} : ∀ v∈cutV nmV lo hi,v∈nmV:=fun v hv => List.mem_of_mem_drop (List.mem_of_mem_take hv)
theorem nm_str : ∀ v∈nmV,∃ x : Str,v = .str x := by
  intro v hv
  simp only [List.mem_cons,List.not_mem_nil,or_false] at hv
  rcases hv with rfl | rfl | rfl | rfl | rfl <;> exact ⟨_,rfl⟩
def spLaw (K : PySem.W.Frag) : Sp:=fun vs H Q _ => ∃ (a : Addr) (ns : List Int),vs = [.ref a]∧SqL K H a (ns.map V.int)∧ns.length≤63∧∀ H',Q (.bl true) H'
section
variable {P : Program} {w : World} {K : PySem.W.Frag} {mg : Str→Option Value} {base : Heap} {f g1 g2 g3 g4 : Addr} {fd gd1 gd2 gd3 gd4 : FuncData}
theorem sc_law : FnScope ["_law_script", "_law_names", "_law_turn", "_law_name", "_law_k"] ["_law_script"] (defScope s_law):=⟨rfl,rfl,rfl,by decide +kernel,rfl,by decide +kernel,by decide +kernel⟩
theorem ok_law {k : Nat} (F : Fn K mg "law" s_law ["_law_script"] f fd) (T__law_pile : Fn K mg "_law_pile" s__law_pile ["_law_script", "_law_k"] g1 gd1) (T__law_take : Fn K mg "_law_take" s__law_take ["_law_pile_here", "_law_size"] g2 gd2) (T__law_good : Fn K mg "_law_good" s__law_good ["_law_name"] g3 gd3) (T__law_word : Fn K mg "_law_word" s__law_word ["_law_pile_here"] g4 gd4)
    (G__law_pile : FnOk P w K mg base CX0 k g1 gd1 ["_law_script", "_law_k"] (spPile K)) (G__law_take : FnOk P w K mg base CX0 k g2 gd2 ["_law_pile_here", "_law_size"] spTake) (G__law_good : FnOk P w K mg base CX0 k g3 gd3 ["_law_name"] spGood) (G__law_word : FnOk P w K mg base CX0 k g4 gd4 ["_law_pile_here"] spWord)
    (z_len : mg "len" = none) (z_range : mg "range" = none) (z_max : mg "max" = none) (z_min : mg "min" = none) : FnOk P w K mg base CX0 (k + 1) f fd ["_law_script"] (spLaw K) := by
  have sc:=sc_law
  refine F.F.ok (k:=k) sc (fun vs H Q E h => ?_) (fun cdv A outer s H vs Q E hr h => ?_)
  · obtain ⟨a,ns,rfl,_⟩:=h
    rfl
  obtain ⟨a,ns,rfl,hS,h63,q⟩:=h
  obtain ⟨many,hmany,em⟩:=many40 ns
  refine' pss5 ?p1 ?p2 ?p3 ?p4 ?p5 ?kk
  case p1 => exact .of (ps_set (i:=1) sc.nd rfl (Or.inl rfl) (pe_lst (pa_cons pe_str (pa_cons pe_str (pa_cons pe_str (pa_cons pe_str (pa_cons pe_str pa_nil)))))))
  case p2 => exact .of (ps_set (i:=2) sc.nd rfl (Or.inl rfl) (pe_fn T__law_take G__law_take hr rfl (pa_cons (pe_fn T__law_pile G__law_pile hr rfl (pa_cons (pv 0) (pa_cons pe_int pa_nil))) (pa_cons pe_int pa_nil))))
  case p3 => exact .of (ps_for PassesOwn.never rfl (pi_list (pe_op op_cat (pe_op op_cat (pe_slice sl_list (pv 1) (po_some (pv 2)) po_none) (pe_slice sl_list (pv 1) po_none (po_some (pv 2)))) (pv 1))) (pg_name (i:=3) sc.nd rfl (Or.inl rfl)) (pss_one (ps_if (pt_not (pt_val (pe_fn T__law_good G__law_good hr rfl (pa_cons (pv 3) pa_nil)))) (pss_one (ps_ret pe_bl)) pss_nil)))
  case p4 => exact .of (ps_for PassesOwn.never rfl (pi_range1 rfl z_range (pa_cons (pe_callB (call_max2 rfl) rfl z_max PyProof.Rows.boot_max (pa_cons (pe_callB (call_min2 rfl) rfl z_min PyProof.Rows.boot_min (pa_cons (pe_callB call_len_seq rfl z_len PySem.boot_len (pa_cons (pv 0) pa_nil)) (pa_cons pe_int pa_nil))) (pa_cons pe_int pa_nil))) pa_nil)) (pg_name (i:=4) sc.nd rfl (Or.inl rfl)) (pss_one (ps_if (pt_not (pt_val (pe_fn T__law_good G__law_good hr rfl (pa_cons (pe_fn T__law_word G__law_word hr rfl (pa_cons (pe_fn T__law_pile G__law_pile hr rfl (pa_cons (pv 0) (pa_cons (pv 4) pa_nil))) pa_nil)) pa_nil)))) (pss_one (ps_ret pe_bl)) pss_nil)))
  case p5 => exact .of (ps_ret pe_bl)
  refine ⟨szB (show 5≤1000 by decide),fun N hN => ?_⟩
  have e1:=same_new hN (.lst nmV)
  have hN1 : upd H N (.lst nmV) N = some (.lst nmV):=upd_same
  generalize upd H N (.lst nmV) = H1 at e1 hN1
  refine ⟨_,rfl,a,ns,0,rfl,e1.seq hS,by decide,fun l H2 x2 e2 hl2 hx2 => ?_⟩
  refine ⟨l,x2,5,rfl,hx2,by decide,by decide,fun r y r0 r1 => ?_⟩
  have e3 : Same H1 (upd H2 l (.lst [.int y])):=fun b o z => by rw [upd_ne (ne_of_none z hl2)]; exact e2 _ _ z
  generalize upd H2 l (.lst [.int y]) = H3 at e3
  have hN3:=e3 _ _ hN1
  refine ⟨_,rfl,_,rfl,_,rfl,N,nmV,rfl,SqL.of hN3,fun p4 hp4 => ?_⟩
  have e4:=same_new hp4 (.lst (cutV nmV (some r) none))
  have h4 : upd H3 p4 (.lst (cutV nmV (some r) none)) p4 = some (.lst (cutV nmV (some r) none)):=upd_same
  generalize upd H3 p4 (.lst (cutV nmV (some r) none)) = H4 at e4 h4
  refine ⟨_,rfl,_,rfl,_,rfl,N,nmV,rfl,SqL.of (e4 _ _ hN3),fun p5 hp5 => ?_⟩
  have e5:=same_new hp5 (.lst (cutV nmV none (some r)))
  have h5 : upd H4 p5 (.lst (cutV nmV none (some r))) p5 = some (.lst (cutV nmV none (some r))):=upd_same
  generalize upd H4 p5 (.lst (cutV nmV none (some r))) = H5 at e5 h5
  have l1 : (cutV nmV (some r) none).length≤5:=cutV_length _ _ _
  have l2 : (cutV nmV none (some r)).length≤5:=cutV_length _ _ _
  refine ⟨p4,p5,_,_,rfl,rfl,e5 _ _ h4,h5,szB (by lia),fun p6 hp6 => ?_⟩
  have e6:=same_new hp6 (.lst (cutV nmV (some r) none ++ cutV nmV none (some r)))
  have h6 : upd H5 p6 (.lst (cutV nmV (some r) none ++ cutV nmV none (some r))) p6 = some (.lst (cutV nmV (some r) none ++ cutV nmV none (some r))):=upd_same
  generalize upd H5 p6 (.lst (cutV nmV (some r) none ++ cutV nmV none (some r))) = H6 at e6 h6
  refine ⟨_,rfl,p6,N,_,_,rfl,rfl,h6,e6 _ _ (e5 _ _ (e4 _ _ hN3)),szB (by rw [List.length_append]; show _ + 5≤1000; lia),fun p7 hp7 => ?_⟩
  have all : ∀ v∈cutV nmV (some r) none ++ cutV nmV none (some r) ++ nmV,∃ x : Str,v = .str x:=fun v hv => by
    rcases List.mem_append.mp hv with hv | hv
    · rcases List.mem_append.mp hv with hv | hv
      · exact nm_str v (cut_nm v hv)
      · exact nm_str v (cut_nm v hv)
    · exact nm_str v hv
  generalize cutV nmV (some r) none ++ cutV nmV none (some r) ++ nmV = xs at all
  have e7:=same_new hp7 (.lst xs)
  have h7 : upd H6 p7 (.lst xs) p7 = some (.lst xs):=upd_same
  generalize upd H6 p7 (.lst xs) = H7 at e7 h7
  have E7 : Same H H7:=e1.trans (e3.trans (e4.trans (e5.trans (e6.trans e7))))
  refine ⟨p7,rfl,⟨_,SqL.of h7⟩,for_list (xs:=xs) (fun i σ H' => ∃ r3 : Option V,σ = [some (.ref a),some (.ref N),some (.int r),r3,none]∧Same H7 H') ⟨_,rfl,.refl _⟩ ?_ ?_ ?_⟩
  · rintro i σ H' _ ⟨r3,rfl,e8⟩
    exact SqL.of (e8 _ _ h7)
  · rintro i v σ H8 hv ⟨r3,rfl,e8⟩
    obtain ⟨x,rfl⟩:=all v (List.mem_of_getElem? hv)
    exact ⟨_,rfl,x,rfl,fun H9 e9 => ⟨_,rfl,iteF ⟨_,rfl,e8.trans e9⟩⟩⟩
  rintro σ H8 ⟨r3,rfl,e8⟩
  have E8:=E7.trans e8
  refine ⟨_,rfl,a,_,rfl,.inl (E8.seq hS),_,_,rfl,_,_,rfl,(many : Int),?_,by lia,by lia,?_⟩
  · exact congrArg (fun z => [V.int z]) em
  rw [Int.toNat_natCast]
  refine for_range (n:=many) (fun i σ H' => ∃ (r4 : Option V),σ = [some (.ref a),some (.ref N),some (.int r),r3,r4]∧Same H8 H') ⟨_,rfl,.refl _⟩ ?_ ?_
  · rintro i σ H9 hi ⟨r4,rfl,e9⟩
    refine ⟨_,rfl,_,rfl,a,ns,_,rfl,(E8.trans e9).seq hS,by lia,fun l2 H10 x10 e10 n10 h10 => ?_⟩
    refine ⟨l2,x10,rfl,h10,fun y H11 e11 => ?_⟩
    have e11' : Same H9 H11:=fun b o z => e11 _ _ (fun zz => by subst zz; rw [n10] at z; cases z) (e10 _ _ z)
    refine ⟨y,rfl,fun H12 e12 => ⟨_,rfl,iteF ⟨_,rfl,e9.trans (e11'.trans e12)⟩⟩⟩
  · rintro σ H9 ⟨r4,rfl,e9⟩
    exact q _
end
section
open PySem.W PyProof.Rows PySem.Calls
abbrev pwX : Program:=PySem.Challenge.pw_stepgrove_k30_tables_of_names
abbrev rwX : OpenLaw:=PySem.Challenge.rw_stepgrove_k30_tables_of_names
noncomputable abbrev dE (P : Params) (x : String) (t : Nat) (v : Value) : DictEntry:=⟨PyData.keyHash P (Str.ofString x),.str (Str.ofString x) t,v⟩
noncomputable abbrev sV (x : String) (t : Nat) : Value:=.str (Str.ofString x) t
noncomputable abbrev fO (n : String) (i : Nat) (m : String) (t c : Nat) : Obj:=⟨.type "function",none,.func (fnOf n n (defArgs (top i)) (defBody (top i)) (defScope (top i)) .none .none .none (.str (Str.ofString m) t) none (.ref c) .none),#[]⟩
noncomputable abbrev cO (n : String) (t l a k r : Nat) (b : Bool) (r2 : Nat) (v1 v2 v3 v4 : Value) (t2 : Nat) : Obj:=⟨.type "code",none,.fields #[sV n t,sV n (t + 1),sV "/claim/cut.py" (t + 2),.int l 0,.int a 0,.int 0 0,.int 0 0,.int k 0,.ref r,.bool b,.int 181 0,.ref r2,v1,v2,v3,v4,.int t2 0,.int l 0,sV "/claim/cut.py" (t2 + 1)],#[]⟩
noncomputable def kH : Params→Frag:=fun P =>
  (nat_lit 2,⟨.none,none,(.dict #[] 0),#[]⟩) ::
  (nat_lit 3,⟨(.type "dict"),none,(.dict #[dE P "__name__" 165 (sV "law_stepgrove_k30_tables_of_names" 517),dE P "__doc__" 166 .none,dE P "__package__" 167 .none,dE P "__loader__" 168 (.builtin "__main__.__loader__#opaque"),dE P "__spec__" 169 .none,dE P "__annotations__" 170 (.ref 6),dE P "__builtins__" 171 (.ref 4),dE P "__file__" 173 (sV "/claim/cut.py" 172),dE P "__cached__" 174 .none,dE P "GroveError" 206 (.ref 24),dE P "NoBottom" 222 (.ref 37),dE P "NoTree" 238 (.ref 49),dE P "NoChange" 254 (.ref 61),dE P "NoStart" 270 (.ref 73),dE P "NoTable" 286 (.ref 85),dE P "NoName" 302 (.ref 97),dE P "NoWeighing" 318 (.ref 109),dE P "NotAlike" 334 (.ref 121),dE P "NoParts" 350 (.ref 133),dE P "TooMany" 366 (.ref 145),dE P "NoText" 382 (.ref 157),dE P "NoLine" 398 (.ref 169),dE P "is_fraction" 407 (.ref 178),dE P "are_fractions" 415 (.ref 185),dE P "is_whole" 422 (.ref 192),dE P "greatest_divisor" 433 (.ref 199),dE P "MOST_ROWS" 437 (.int 40 436),dE P "NAMED_TABLES" 494 (.ref 200),dE P "is_table" 501 (.ref 257),dE P "table_of" 507 (.ref 262),dE P "are_rows" 516 (.ref 269),dE P "_law_mixed" 527 (.ref 276),dE P "_law_pile" 538 (.ref 283),dE P "_law_take" 547 (.ref 290),dE P "_law_only" 553 (.ref 295),dE P "_law_tables" 561 (.ref 302),dE P "_law_same" 567 (.ref 307),dE P "_law_asked" 577 (.ref 314),dE P "_law_changed" 585 (.ref 321),dE P "_law_good" 595 (.ref 328),dE P "_law_word" 601 (.ref 333),dE P "law" 612 (.ref 340)] 42),#[]⟩) ::
  (nat_lit 15,⟨(.type "tuple"),none,(.seq #[(.type "ValueError")] 0),#[]⟩) ::
  (nat_lit 22,⟨(.type "tuple"),none,(.seq #[] 0),#[]⟩) ::
  (nat_lit 23,⟨(.type "dict"),none,(.dict #[dE P "__module__" 196 (sV "stepgrove.errors" 187),dE P "__firstlineno__" 200 (.int 2 199),dE P "__static_attributes__" 201 (.ref 22),dE P "__weakref__" 203 (.ref 25),dE P "__doc__" 204 .none] 3),#[]⟩) ::
  (nat_lit 24,⟨(.type "type"),none,(.cls ⟨Str.ofString "GroveError",[(.type "ValueError")],[(.ref 24),(.type "ValueError"),(.type "Exception"),(.type "BaseException"),(.type "object")],23,Str.ofString "GroveError",true,[],[(.ref 37),(.ref 49),(.ref 61),(.ref 73),(.ref 85),(.ref 97),(.ref 109),(.ref 121),(.ref 133),(.ref 145),(.ref 157),(.ref 169)],false,none,false⟩),#[some (.ref 15),none,some (sV "GroveError" 189),some (sV "GroveError" 197),some (.builtin "ValueError.__new__"),some (.bool true)]⟩) ::
  (nat_lit 25,⟨(.type "getset_descriptor"),none,(.fields #[(sV "__weakref__" 202),(.ref 24),(.builtin "ExceptionGroup.__weakref__"),.none]),#[]⟩) ::
  (nat_lit 28,⟨(.type "tuple"),none,(.seq #[(.ref 24)] 0),#[]⟩) ::
  (nat_lit 35,⟨(.type "tuple"),none,(.seq #[] 0),#[]⟩) ::
  (nat_lit 36,⟨(.type "dict"),none,(.dict #[dE P "__module__" 214 (sV "stepgrove.errors" 187),dE P "__firstlineno__" 218 (.int 4 217),dE P "__static_attributes__" 219 (.ref 35),dE P "__doc__" 220 .none] 2),#[]⟩) ::
  (nat_lit 37,⟨(.type "type"),none,(.cls ⟨Str.ofString "NoBottom",[(.ref 24)],[(.ref 37),(.ref 24),(.type "ValueError"),(.type "Exception"),(.type "BaseException"),(.type "object")],36,Str.ofString "NoBottom",true,[],[],false,none,false⟩),#[some (.ref 28),none,some (sV "NoBottom" 207),some (sV "NoBottom" 215),some (.builtin "ValueError.__new__"),some (.bool true)]⟩) ::
  (nat_lit 40,⟨(.type "tuple"),none,(.seq #[(.ref 24)] 0),#[]⟩) ::
  (nat_lit 47,⟨(.type "tuple"),none,(.seq #[] 0),#[]⟩) ::
  (nat_lit 48,⟨(.type "dict"),none,(.dict #[dE P "__module__" 230 (sV "stepgrove.errors" 187),dE P "__firstlineno__" 234 (.int 6 233),dE P "__static_attributes__" 235 (.ref 47),dE P "__doc__" 236 .none] 2),#[]⟩) ::
  (nat_lit 49,⟨(.type "type"),none,(.cls ⟨Str.ofString "NoTree",[(.ref 24)],[(.ref 49),(.ref 24),(.type "ValueError"),(.type "Exception"),(.type "BaseException"),(.type "object")],48,Str.ofString "NoTree",true,[],[],false,none,false⟩),#[some (.ref 40),none,some (sV "NoTree" 223),some (sV "NoTree" 231),some (.builtin "ValueError.__new__"),some (.bool true)]⟩) ::
  (nat_lit 52,⟨(.type "tuple"),none,(.seq #[(.ref 24)] 0),#[]⟩) ::
  (nat_lit 59,⟨(.type "tuple"),none,(.seq #[] 0),#[]⟩) ::
  (nat_lit 60,⟨(.type "dict"),none,(.dict #[dE P "__module__" 246 (sV "stepgrove.errors" 187),dE P "__firstlineno__" 250 (.int 8 249),dE P "__static_attributes__" 251 (.ref 59),dE P "__doc__" 252 .none] 2),#[]⟩) ::
  (nat_lit 61,⟨(.type "type"),none,(.cls ⟨Str.ofString "NoChange",[(.ref 24)],[(.ref 61),(.ref 24),(.type "ValueError"),(.type "Exception"),(.type "BaseException"),(.type "object")],60,Str.ofString "NoChange",true,[],[],false,none,false⟩),#[some (.ref 52),none,some (sV "NoChange" 239),some (sV "NoChange" 247),some (.builtin "ValueError.__new__"),some (.bool true)]⟩) ::
  (nat_lit 64,⟨(.type "tuple"),none,(.seq #[(.ref 24)] 0),#[]⟩) ::
  (nat_lit 71,⟨(.type "tuple"),none,(.seq #[] 0),#[]⟩) ::
  (nat_lit 72,⟨(.type "dict"),none,(.dict #[dE P "__module__" 262 (sV "stepgrove.errors" 187),dE P "__firstlineno__" 266 (.int 10 265),dE P "__static_attributes__" 267 (.ref 71),dE P "__doc__" 268 .none] 2),#[]⟩) ::
  (nat_lit 73,⟨(.type "type"),none,(.cls ⟨Str.ofString "NoStart",[(.ref 24)],[(.ref 73),(.ref 24),(.type "ValueError"),(.type "Exception"),(.type "BaseException"),(.type "object")],72,Str.ofString "NoStart",true,[],[],false,none,false⟩),#[some (.ref 64),none,some (sV "NoStart" 255),some (sV "NoStart" 263),some (.builtin "ValueError.__new__"),some (.bool true)]⟩) ::
  (nat_lit 76,⟨(.type "tuple"),none,(.seq #[(.ref 24)] 0),#[]⟩) ::
  (nat_lit 83,⟨(.type "tuple"),none,(.seq #[] 0),#[]⟩) ::
  (nat_lit 84,⟨(.type "dict"),none,(.dict #[dE P "__module__" 278 (sV "stepgrove.errors" 187),dE P "__firstlineno__" 282 (.int 12 281),dE P "__static_attributes__" 283 (.ref 83),dE P "__doc__" 284 .none] 2),#[]⟩) ::
  (nat_lit 85,⟨(.type "type"),none,(.cls ⟨Str.ofString "NoTable",[(.ref 24)],[(.ref 85),(.ref 24),(.type "ValueError"),(.type "Exception"),(.type "BaseException"),(.type "object")],84,Str.ofString "NoTable",true,[],[],false,none,false⟩),#[some (.ref 76),none,some (sV "NoTable" 271),some (sV "NoTable" 279),some (.builtin "ValueError.__new__"),some (.bool true)]⟩) ::
  (nat_lit 88,⟨(.type "tuple"),none,(.seq #[(.ref 24)] 0),#[]⟩) ::
  (nat_lit 95,⟨(.type "tuple"),none,(.seq #[] 0),#[]⟩) ::
  (nat_lit 96,⟨(.type "dict"),none,(.dict #[dE P "__module__" 294 (sV "stepgrove.errors" 187),dE P "__firstlineno__" 298 (.int 14 297),dE P "__static_attributes__" 299 (.ref 95),dE P "__doc__" 300 .none] 2),#[]⟩) ::
  (nat_lit 97,⟨(.type "type"),none,(.cls ⟨Str.ofString "NoName",[(.ref 24)],[(.ref 97),(.ref 24),(.type "ValueError"),(.type "Exception"),(.type "BaseException"),(.type "object")],96,Str.ofString "NoName",true,[],[],false,none,false⟩),#[some (.ref 88),none,some (sV "NoName" 287),some (sV "NoName" 295),some (.builtin "ValueError.__new__"),some (.bool true)]⟩) ::
  (nat_lit 100,⟨(.type "tuple"),none,(.seq #[(.ref 24)] 0),#[]⟩) ::
  (nat_lit 107,⟨(.type "tuple"),none,(.seq #[] 0),#[]⟩) ::
  (nat_lit 108,⟨(.type "dict"),none,(.dict #[dE P "__module__" 310 (sV "stepgrove.errors" 187),dE P "__firstlineno__" 314 (.int 16 313),dE P "__static_attributes__" 315 (.ref 107),dE P "__doc__" 316 .none] 2),#[]⟩) ::
  (nat_lit 109,⟨(.type "type"),none,(.cls ⟨Str.ofString "NoWeighing",[(.ref 24)],[(.ref 109),(.ref 24),(.type "ValueError"),(.type "Exception"),(.type "BaseException"),(.type "object")],108,Str.ofString "NoWeighing",true,[],[],false,none,false⟩),#[some (.ref 100),none,some (sV "NoWeighing" 303),some (sV "NoWeighing" 311),some (.builtin "ValueError.__new__"),some (.bool true)]⟩) ::
  (nat_lit 112,⟨(.type "tuple"),none,(.seq #[(.ref 24)] 0),#[]⟩) ::
  (nat_lit 119,⟨(.type "tuple"),none,(.seq #[] 0),#[]⟩) ::
  (nat_lit 120,⟨(.type "dict"),none,(.dict #[dE P "__module__" 326 (sV "stepgrove.errors" 187),dE P "__firstlineno__" 330 (.int 18 329),dE P "__static_attributes__" 331 (.ref 119),dE P "__doc__" 332 .none] 2),#[]⟩) ::
  (nat_lit 121,⟨(.type "type"),none,(.cls ⟨Str.ofString "NotAlike",[(.ref 24)],[(.ref 121),(.ref 24),(.type "ValueError"),(.type "Exception"),(.type "BaseException"),(.type "object")],120,Str.ofString "NotAlike",true,[],[],false,none,false⟩),#[some (.ref 112),none,some (sV "NotAlike" 319),some (sV "NotAlike" 327),some (.builtin "ValueError.__new__"),some (.bool true)]⟩) ::
  (nat_lit 124,⟨(.type "tuple"),none,(.seq #[(.ref 24)] 0),#[]⟩) ::
  (nat_lit 131,⟨(.type "tuple"),none,(.seq #[] 0),#[]⟩) ::
  (nat_lit 132,⟨(.type "dict"),none,(.dict #[dE P "__module__" 342 (sV "stepgrove.errors" 187),dE P "__firstlineno__" 346 (.int 20 345),dE P "__static_attributes__" 347 (.ref 131),dE P "__doc__" 348 .none] 2),#[]⟩) ::
  (nat_lit 133,⟨(.type "type"),none,(.cls ⟨Str.ofString "NoParts",[(.ref 24)],[(.ref 133),(.ref 24),(.type "ValueError"),(.type "Exception"),(.type "BaseException"),(.type "object")],132,Str.ofString "NoParts",true,[],[],false,none,false⟩),#[some (.ref 124),none,some (sV "NoParts" 335),some (sV "NoParts" 343),some (.builtin "ValueError.__new__"),some (.bool true)]⟩) ::
  (nat_lit 136,⟨(.type "tuple"),none,(.seq #[(.ref 24)] 0),#[]⟩) ::
  (nat_lit 143,⟨(.type "tuple"),none,(.seq #[] 0),#[]⟩) ::
  (nat_lit 144,⟨(.type "dict"),none,(.dict #[dE P "__module__" 358 (sV "stepgrove.errors" 187),dE P "__firstlineno__" 362 (.int 22 361),dE P "__static_attributes__" 363 (.ref 143),dE P "__doc__" 364 .none] 2),#[]⟩) ::
  (nat_lit 145,⟨(.type "type"),none,(.cls ⟨Str.ofString "TooMany",[(.ref 24)],[(.ref 145),(.ref 24),(.type "ValueError"),(.type "Exception"),(.type "BaseException"),(.type "object")],144,Str.ofString "TooMany",true,[],[],false,none,false⟩),#[some (.ref 136),none,some (sV "TooMany" 351),some (sV "TooMany" 359),some (.builtin "ValueError.__new__"),some (.bool true)]⟩) ::
  (nat_lit 148,⟨(.type "tuple"),none,(.seq #[(.ref 24)] 0),#[]⟩) ::
  (nat_lit 155,⟨(.type "tuple"),none,(.seq #[] 0),#[]⟩) ::
  (nat_lit 156,⟨(.type "dict"),none,(.dict #[dE P "__module__" 374 (sV "stepgrove.errors" 187),dE P "__firstlineno__" 378 (.int 24 377),dE P "__static_attributes__" 379 (.ref 155),dE P "__doc__" 380 .none] 2),#[]⟩) ::
  (nat_lit 157,⟨(.type "type"),none,(.cls ⟨Str.ofString "NoText",[(.ref 24)],[(.ref 157),(.ref 24),(.type "ValueError"),(.type "Exception"),(.type "BaseException"),(.type "object")],156,Str.ofString "NoText",true,[],[],false,none,false⟩),#[some (.ref 148),none,some (sV "NoText" 367),some (sV "NoText" 375),some (.builtin "ValueError.__new__"),some (.bool true)]⟩) ::
  (nat_lit 160,⟨(.type "tuple"),none,(.seq #[(.ref 24)] 0),#[]⟩) ::
  (nat_lit 167,⟨(.type "tuple"),none,(.seq #[] 0),#[]⟩) ::
  (nat_lit 168,⟨(.type "dict"),none,(.dict #[dE P "__module__" 390 (sV "stepgrove.errors" 187),dE P "__firstlineno__" 394 (.int 26 393),dE P "__static_attributes__" 395 (.ref 167),dE P "__doc__" 396 .none] 2),#[]⟩) ::
  (nat_lit 169,⟨(.type "type"),none,(.cls ⟨Str.ofString "NoLine",[(.ref 24)],[(.ref 169),(.ref 24),(.type "ValueError"),(.type "Exception"),(.type "BaseException"),(.type "object")],168,Str.ofString "NoLine",true,[],[],false,none,false⟩),#[some (.ref 160),none,some (sV "NoLine" 383),some (sV "NoLine" 391),some (.builtin "ValueError.__new__"),some (.bool true)]⟩) ::
  (nat_lit 177,cO "is_fraction" 401 29 1 3 172 true 173 .none (.ref 174) (.ref 175) (.ref 176) 405) ::
  (nat_lit 178,fO "is_fraction" 15 "stepgrove.fracs" 399 177) ::
  (nat_lit 184,cO "are_fractions" 408 35 1 3 179 true 180 .none (.ref 181) (.ref 182) (.ref 183) 413) ::
  (nat_lit 185,fO "are_fractions" 16 "stepgrove.fracs" 399 184) ::
  (nat_lit 191,cO "is_whole" 416 42 1 3 186 true 187 .none (.ref 188) (.ref 189) (.ref 190) 420) ::
  (nat_lit 192,fO "is_whole" 17 "stepgrove.fracs" 399 191) ::
  (nat_lit 198,cO "greatest_divisor" 423 44 2 3 193 true 194 .none (.ref 195) (.ref 196) (.ref 197) 431) ::
  (nat_lit 199,fO "greatest_divisor" 18 "stepgrove.fracs" 399 198) ::
  (nat_lit 256,cO "is_table" 495 55 1 3 251 true 252 .none (.ref 253) (.ref 254) (.ref 255) 499) ::
  (nat_lit 257,fO "is_table" 22 "stepgrove.tables" 434 256) ::
  (nat_lit 261,cO "table_of" 502 59 1 3 258 true 259 .none .none .none (.ref 260) 505) ::
  (nat_lit 262,fO "table_of" 23 "stepgrove.tables" 434 261) ::
  (nat_lit 268,cO "are_rows" 508 64 1 3 263 true 264 .none (.ref 265) (.ref 266) (.ref 267) 514) ::
  (nat_lit 269,fO "are_rows" 24 "stepgrove.tables" 434 268) ::
  (nat_lit 275,cO "_law_mixed" 519 72 2 3 270 true 271 .none (.ref 272) (.ref 273) (.ref 274) 525) ::
  (nat_lit 276,fO "_law_mixed" 26 "law_stepgrove_k30_tables_of_names" 517 275) ::
  (nat_lit 282,cO "_law_pile" 528 76 2 3 277 true 278 .none (.ref 279) (.ref 280) (.ref 281) 536) ::
  (nat_lit 283,fO "_law_pile" 27 "law_stepgrove_k30_tables_of_names" 517 282) ::
  (nat_lit 289,cO "_law_take" 539 86 2 3 284 true 285 .none (.ref 286) (.ref 287) (.ref 288) 545) ::
  (nat_lit 290,fO "_law_take" 28 "law_stepgrove_k30_tables_of_names" 517 289) ::
  (nat_lit 294,cO "_law_only" 548 90 2 3 291 true 292 .none .none .none (.ref 293) 551) ::
  (nat_lit 295,fO "_law_only" 29 "law_stepgrove_k30_tables_of_names" 517 294) ::
  (nat_lit 301,cO "_law_tables" 554 98 0 3 296 true 297 .none (.ref 298) (.ref 299) (.ref 300) 559) ::
  (nat_lit 302,fO "_law_tables" 30 "law_stepgrove_k30_tables_of_names" 517 301) ::
  (nat_lit 306,cO "_law_same" 562 105 2 3 303 true 304 .none .none .none (.ref 305) 565) ::
  (nat_lit 307,fO "_law_same" 31 "law_stepgrove_k30_tables_of_names" 517 306) ::
  (nat_lit 313,cO "_law_asked" 568 111 1 3 308 true 309 .none (.ref 310) (.ref 311) (.ref 312) 575) ::
  (nat_lit 314,fO "_law_asked" 32 "law_stepgrove_k30_tables_of_names" 517 313) ::
  (nat_lit 320,cO "_law_changed" 578 119 1 3 315 true 316 .none (.ref 317) (.ref 318) (.ref 319) 583) ::
  (nat_lit 321,fO "_law_changed" 33 "law_stepgrove_k30_tables_of_names" 517 320) ::
  (nat_lit 327,cO "_law_good" 586 124 1 3 322 true 323 .none (.ref 324) (.ref 325) (.ref 326) 593) ::
  (nat_lit 328,fO "_law_good" 34 "law_stepgrove_k30_tables_of_names" 517 327) ::
  (nat_lit 332,cO "_law_word" 596 133 1 3 329 true 330 .none .none .none (.ref 331) 599) ::
  (nat_lit 333,fO "_law_word" 35 "law_stepgrove_k30_tables_of_names" 517 332) ::
  (nat_lit 339,cO "law" 602 149 1 3 334 true 335 .none (.ref 336) (.ref 337) (.ref 338) 610) ::
  (nat_lit 340,fO "law" 36 "law_stepgrove_k30_tables_of_names" 517 339) :: []
noncomputable def tvX : List (List Value):=[[],
  [(.ref 201)],
  [(.int 1 439),(.int 1 440)],
  [(.ref 203)],
  [(.ref 202),(.ref 204)],
  [],
  [(.int 1 442),(.int 2 443)],
  [(.ref 207)],
  [(.ref 206),(.ref 208)],
  [(.int 0 444),(.int 1 445)],
  [(.int 1 446),(.int 1 447)],
  [(.ref 210),(.ref 211)],
  [(.ref 209),(.ref 212)],
  [],
  [(.int 1 449),(.int 1 450)],
  [(.ref 215)],
  [(.ref 214),(.ref 216)],
  [(.int 1 451),(.int 2 452)],
  [(.int 1 453),(.int 2 454)],
  [(.ref 218),(.ref 219)],
  [(.ref 217),(.ref 220)],
  [],
  [(.int 1 456),(.int 3 457)],
  [(.ref 223)],
  [(.int 0 458),(.int 1 459)],
  [(.int 2 460),(.int 3 461)],
  [(.ref 225),(.ref 226)],
  [(.ref 222),(.ref 224),(.ref 227)],
  [(.int 1 462),(.int 4 463)],
  [(.int 0 464),(.int 1 465)],
  [(.int 3 466),(.int 4 467)],
  [(.ref 229),(.ref 230),(.ref 231)],
  [(.ref 228),(.ref 232)],
  [],
  [(.int 1 469),(.int 2 470)],
  [(.ref 235)],
  [(.int 0 471),(.int 1 472)],
  [(.int 1 473),(.int 2 474)],
  [(.ref 237),(.ref 238)],
  [(.int 0 475),(.int 1 476)],
  [(.int 0 477),(.int 1 478)],
  [(.int 1 479),(.int 1 480)],
  [(.ref 240),(.ref 241),(.ref 242)],
  [(.ref 234),(.ref 236),(.ref 239),(.ref 243)],
  [(.int 1 481),(.int 6 482)],
  [(.int 1 483),(.int 3 484)],
  [(.int 1 485),(.int 3 486)],
  [(.int 1 487),(.int 6 488)],
  [(.ref 245),(.ref 246),(.ref 247),(.ref 248)],
  [(.ref 244),(.ref 249)]]
noncomputable abbrev odX (P : Params) : Obj:=dicO P 200 438 441 448 455 468
noncomputable def kT : Params→Frag:=fun P => (nat_lit 200,odX P) :: tabsL (nat_lit 201) tvX
noncomputable def kF : Params→Frag:=fun P => kH P ++ kT P
theorem tabX (P : Params) : TabIn P 200 (odX P) tvX (kT P):=⟨by kernel_rfl,⟨438,441,448,455,468,rfl⟩,by kernel_rfl,fun _ _ e => tabsL_at e,by kernel_rfl,by kernel_rfl⟩
theorem flX {p : World→Prop} (h : ∀ (b : Bool) (w : World),p (w.withFollow "special-get-raises" b)) (w : World) : p w := by
  have:=h (w.params.followText "special-get-raises") w
  rwa [World.withFollow_self] at this
abbrev qX : Program:=view pwX [1,2,3,4,5,6,7,8,9,10,11,12,13,15,16,17,18,20,21,22,23,24,26,27,28,29,30,31,32,33,34,35,36]
noncomputable abbrev hX : Hook:=kHook kF [nat_lit 2,nat_lit 3,nat_lit 15,nat_lit 22,nat_lit 23,nat_lit 24,nat_lit 25,nat_lit 28,nat_lit 35,nat_lit 36,nat_lit 37,nat_lit 40,nat_lit 47,nat_lit 48,nat_lit 49,nat_lit 52,nat_lit 59,nat_lit 60,nat_lit 61,nat_lit 64,nat_lit 71,nat_lit 72,nat_lit 73,nat_lit 76,nat_lit 83,nat_lit 84,nat_lit 85,nat_lit 88,nat_lit 95,nat_lit 96,nat_lit 97,nat_lit 100,nat_lit 107,nat_lit 108,nat_lit 109,nat_lit 112,nat_lit 119,nat_lit 120,nat_lit 121,nat_lit 124,nat_lit 131,nat_lit 132,nat_lit 133,nat_lit 136,nat_lit 143,nat_lit 144,nat_lit 145,nat_lit 148,nat_lit 155,nat_lit 156,nat_lit 157,nat_lit 160,nat_lit 167,nat_lit 168,nat_lit 169,nat_lit 177,nat_lit 178,nat_lit 184,nat_lit 185,nat_lit 191,nat_lit 192,nat_lit 198,nat_lit 199,nat_lit 256,nat_lit 257,nat_lit 261,nat_lit 262,nat_lit 268,nat_lit 269,nat_lit 275,nat_lit 276,nat_lit 282,nat_lit 283,nat_lit 289,nat_lit 290,nat_lit 294,nat_lit 295,nat_lit 301,nat_lit 302,nat_lit 306,nat_lit 307,nat_lit 313,nat_lit 314,nat_lit 320,nat_lit 321,nat_lit 327,nat_lit 328,nat_lit 332,nat_lit 333,nat_lit 339,nat_lit 340,nat_lit 200,nat_lit 201,nat_lit 202,nat_lit 203,nat_lit 204,nat_lit 205,nat_lit 206,nat_lit 207,nat_lit 208,nat_lit 209,nat_lit 210,nat_lit 211,nat_lit 212,nat_lit 213,nat_lit 214,nat_lit 215,nat_lit 216,nat_lit 217,nat_lit 218,nat_lit 219,nat_lit 220,nat_lit 221,nat_lit 222,nat_lit 223,nat_lit 224,nat_lit 225,nat_lit 226,nat_lit 227,nat_lit 228,nat_lit 229,nat_lit 230,nat_lit 231,nat_lit 232,nat_lit 233,nat_lit 234,nat_lit 235,nat_lit 236,nat_lit 237,nat_lit 238,nat_lit 239,nat_lit 240,nat_lit 241,nat_lit 242,nat_lit 243,nat_lit 244,nat_lit 245,nat_lit 246,nat_lit 247,nat_lit 248,nat_lit 249,nat_lit 250] (fun _ => by kernel_rfl)
noncomputable def dX : DefRec:=⟨Str.ofString "law",defArgs (top 36),defBody (top 36),defScope (top 36),⟨149,0,158,15⟩⟩
theorem saidX : rwX.wellSaid = true:=(congrFun PySem.W.Fast.te9446332074065402090 _).trans (by kernel_rfl)
theorem preX (w : World) (os : OsState) : topGo treeTable pwX w 11 Opn.annB 12 ⟨boot_heap w.params,#[],boot_drawn,boot_toks,os⟩ (topStub pwX) = some (Opn.sA w os,⟨denote treeTable (Opn.cB pwX),Opn.cB pwX,Opn.q0,Opn.bB⟩) := by kernel_rfl
theorem blkX (w : World) (os : OsState) : segRun treeTable pwX w 11 Opn.annB 1 1 (Opn.sA w os) (blockOf (behindTheImports pwX) (Opn.envB pwX) (Opn.cB pwX) Opn.q0 Opn.bB) = some (.next,(Opn.sB w os).abs,Opn.cB pwX,Opn.q0) := by kernel_rfl
theorem finX (w : World) (s : Shared) : topRun treeTable pwX w 11 Opn.annB 2 s (restOf [] (Opn.envB pwX) (Opn.cB pwX) ⟨149,0,158,15⟩ Opn.bB) = some s := by kernel_rfl
theorem segX (w : World) (os : OsState) : Opn.runB pwX 3551 w os = some (.next,Opn.endB pwX 3551 w os,Opn.cB pwX,⟨149,0,158,15⟩):=flX (p:=fun w => Opn.runB pwX 3551 w os = some (.next,Opn.endB pwX 3551 w os,Opn.cB pwX,⟨149,0,158,15⟩)) (fun b w => by cases b <;> kernel_rfl) w
noncomputable abbrev sX (w : World) (os : OsState) : Shared:=(Opn.endB pwX 3551 w os).abs
theorem okX (w : World) (os : OsState) : (staticsOk (importedModules pwX.main.body) (boot_heap w.params) (sX w os).heap && namesBound pwX (sX w os).heap && gensDone (sX w os) && laidKept (boot_heap w.params) (sX w os).heap) = true:=flX (p:=fun w => (staticsOk (importedModules pwX.main.body) (boot_heap w.params) (sX w os).heap && namesBound pwX (sX w os).heap && gensDone (sX w os) && laidKept (boot_heap w.params) (sX w os).heap) = true) (fun b w => by cases b <;> kernel_rfl) w
theorem hookX (w : World) (os : OsState) : hX.obs (sX w os) = hX.val w:=flX (p:=fun w => hX.obs (sX w os) = hX.val w) (fun b w => by cases b <;> kernel_rfl) w
noncomputable abbrev xtX : Shared→Bool:=fun s => xlAt qX [] s && recOk (RowW.records rwX.row.toRowW) s
theorem seenX (w : World) (os : OsState) : openSeen qX ["NAMED_TABLES"] (importedModules pwX.main.body) xtX true (sX w os) = openGood qX ["NAMED_TABLES"]:=flX (p:=fun w => openSeen qX ["NAMED_TABLES"] (importedModules pwX.main.body) xtX true (sX w os) = openGood qX ["NAMED_TABLES"]) (fun b w => by cases b <;> kernel_rfl) w
theorem bootX (w : World) : (fencedOpening treeTable pwX w 7226).map (fun s => (s.heap,s.gens,s.drawn,s.toks)) = some (boot_heap w.params,#[],boot_drawn,boot_toks) := boot_open (p:=pwX) (N:=7226) (by kernel_rfl) (by kernel_rfl) (fun _ => by kernel_rfl) w
theorem leftX : LeftO pwX qX ["NAMED_TABLES"] xtX hX.obs hX.val 7226:=Opn.left_of (M:=3566) (S:=sX) bootX Opn.sizeB (fun w os => Opn.run_of (preX w os) (blkX w os) (segX w os) (finX w) (by kernel_rfl)) (by kernel_rfl) okX seenX hookX
theorem defX : defOf qX rwX.row.name = some (dX,[]) := by kernel_rfl
theorem theX : pwX.theDef rwX.row.name = some (dX.params,dX.body,dX.scope) := by kernel_rfl
theorem kwX : kwWritten? dX.params.kwonlyargs dX.params.kw_defaults = some [] := by kernel_rfl
theorem chnX : (chainsOk qX && opensWell rwX.row.prog && (frees rwX.row.toRowW && rwX.row.within.isEmpty)) = true := by kernel_rfl
theorem bareX : pwX.bare:=⟨rfl,rfl,rfl,rfl,rfl,by decide +kernel⟩
theorem openX (hw : rwX.row.toRowW.promised) (hc : WalkO qX ["NAMED_TABLES"] (XL qX []) hX.says rwX.row.toRowW dX [] (fun f vs => PySem.call f vs)) : rwX.Holds :=
  holds_law saidX fun said => holds_open (r:=rwX.row) (q:=qX) (loose:=["NAMED_TABLES"]) (Xt:=xtX) (XP:=XL qX []) (Yf:=hX.obs) (Ya:=hX.val) (YP:=hX.says) (d:=dX) (kwd:=[]) (N:=7226) leftX hX.of hX.keeps (fun s e => xl_of s (Bool.and_eq_true_iff.mp e).1) XL.keeps defX theX kwX (fun s e => recFacts_of (Bool.and_eq_true_iff.mp e).2) rfl said chnX bareX hw hc
end
section
open PySem.W
theorem fnX {w : World} {mg : Str→Option Value} {h : Heap} (X : (kH w.params).In h) (G : h.Ns mainGlobals mg) (n : String) (i : Nat) (m : String) (t c f : Nat) (ps : List Str)
    (ha : nsIn (kH w.params) mainGlobals (Str.ofString n) = some (some (.ref f)) := by kernel_rfl) (hl : (kH w.params).lookup f = some (fO n i m t c) := by kernel_rfl) (hc : codeIn (kH w.params) (.ref c) (Str.ofString n) = true := by kernel_rfl) (hk : keepIn (kH w.params) (.ref f) = true := by kernel_rfl)
    (hb : ∀ (kV doc pm : Value) (an : Option Addr) (cdv ct : Value) (us : List Value),us.length = ps.length→bindArgs (fnOf (Str.ofString n) (Str.ofString n) (defArgs (top i)) (defBody (top i)) (defScope (top i)) .none kV doc pm an cdv ct) ⟨us,[]⟩ = pure (ps.zip us) := by first | (exact fun _ _ _ _ _ _ us hl => match us,hl with | [_],_ => rfl) | (exact fun _ _ _ _ _ _ us hl => match us,hl with | [_,_],_ => rfl) | (exact fun _ _ _ _ _ _ us hl => match us,hl with | [_,_,_],_ => rfl) | (exact fun _ _ _ _ _ _ us hl => match us,hl with | [_,_,_,_],_ => rfl) | (exact fun _ _ _ _ _ _ us hl => match us,hl with | [_,_,_,_,_],_ => rfl) | (exact fun _ _ _ _ _ _ us hl => match us,hl with | [],_ => rfl)) :
    Fn (kH w.params) mg (Str.ofString n) (top i) ps f (fnOf (Str.ofString n) (Str.ofString n) (defArgs (top i)) (defBody (top i)) (defScope (top i)) .none .none .none (.str (Str.ofString m) t) none (.ref c) .none) :=
  ⟨fun_mk hl hc hk,(fun_mk (st:=top i) hl hc hk).binds hb,mg_of X G ha⟩
set_option maxHeartbeats 4000000 in
theorem allX (w : World) (mg : Str→Option Value) (fa : Addr) (h : Heap) (X : (kH w.params).In h) (G : h.Ns mainGlobals mg) (hfa : mg "law" = some (.ref fa)) :
    ∃ fd : FuncData,(∀ (s : Shared) (v : Value),BindsTo s fd ⟨[v],[]⟩ [("_law_script",v)])∧∀ base : Heap,(kH w.params).In base→base.Ns mainGlobals mg→FnOk rwX.prog w (kH w.params) mg base CX0 10 fa fd ["_law_script"] (spLaw (kH w.params)) := by
  have e:=hfa.symm.trans (mg_of X G (v:=.ref 340) (by kernel_rfl))
  cases e
  have T_is_fraction:=fnX X G "is_fraction" 15 "stepgrove.fracs" 399 177 178 ["thing"]
  have T_are_fractions:=fnX X G "are_fractions" 16 "stepgrove.fracs" 399 184 185 ["thing"]
  have T_is_whole:=fnX X G "is_whole" 17 "stepgrove.fracs" 399 191 192 ["thing"]
  have T_greatest_divisor:=fnX X G "greatest_divisor" 18 "stepgrove.fracs" 399 198 199 ["one", "other"]
  have T_is_table:=fnX X G "is_table" 22 "stepgrove.tables" 434 256 257 ["thing"]
  have T_table_of:=fnX X G "table_of" 23 "stepgrove.tables" 434 261 262 ["name"]
  have T_are_rows:=fnX X G "are_rows" 24 "stepgrove.tables" 434 268 269 ["thing"]
  have T__law_mixed:=fnX X G "_law_mixed" 26 "law_stepgrove_k30_tables_of_names" 517 275 276 ["_law_cell", "_law_k"]
  have T__law_pile:=fnX X G "_law_pile" 27 "law_stepgrove_k30_tables_of_names" 517 282 283 ["_law_script", "_law_k"]
  have T__law_take:=fnX X G "_law_take" 28 "law_stepgrove_k30_tables_of_names" 517 289 290 ["_law_pile_here", "_law_size"]
  have T__law_only:=fnX X G "_law_only" 29 "law_stepgrove_k30_tables_of_names" 517 294 295 ["_law_caught", "_law_place"]
  have T__law_tables:=fnX X G "_law_tables" 30 "law_stepgrove_k30_tables_of_names" 517 301 302 []
  have T__law_same:=fnX X G "_law_same" 31 "law_stepgrove_k30_tables_of_names" 517 306 307 ["_law_found", "_law_due"]
  have T__law_asked:=fnX X G "_law_asked" 32 "law_stepgrove_k30_tables_of_names" 517 313 314 ["_law_name"]
  have T__law_changed:=fnX X G "_law_changed" 33 "law_stepgrove_k30_tables_of_names" 517 320 321 ["_law_table"]
  have T__law_good:=fnX X G "_law_good" 34 "law_stepgrove_k30_tables_of_names" 517 327 328 ["_law_name"]
  have T__law_word:=fnX X G "_law_word" 35 "law_stepgrove_k30_tables_of_names" 517 332 333 ["_law_pile_here"]
  have T_law:=fnX X G "law" 36 "law_stepgrove_k30_tables_of_names" 517 339 340 ["_law_script"]
  have z_len : mg "len" = none:=mg_none_of X G (by kernel_rfl)
  have z_range : mg "range" = none:=mg_none_of X G (by kernel_rfl)
  have z_abs : mg "abs" = none:=mg_none_of X G (by kernel_rfl)
  have z_isinstance : mg "isinstance" = none:=mg_none_of X G (by kernel_rfl)
  have z_int : mg "int" = none:=mg_none_of X G (by kernel_rfl)
  have z_bool : mg "bool" = none:=mg_none_of X G (by kernel_rfl)
  have z_tuple : mg "tuple" = none:=mg_none_of X G (by kernel_rfl)
  have z_list : mg "list" = none:=mg_none_of X G (by kernel_rfl)
  have z_enumerate : mg "enumerate" = none:=mg_none_of X G (by kernel_rfl)
  have z_zip : mg "zip" = none:=mg_none_of X G (by kernel_rfl)
  have z_all : mg "all" = none:=mg_none_of X G (by kernel_rfl)
  have z_min : mg "min" = none:=mg_none_of X G (by kernel_rfl)
  have z_max : mg "max" = none:=mg_none_of X G (by kernel_rfl)
  have z_ValueError : mg "ValueError" = none:=mg_none_of X G (by kernel_rfl)
  have a_NT : nsIn (kH w.params) mainGlobals "NAMED_TABLES" = some (some (.ref 200)) := by kernel_rfl
  have a_MR : nsIn (kH w.params) mainGlobals "MOST_ROWS" = some (some (.int 40 436)) := by kernel_rfl
  have a_GroveError : PySem.W.nsIn (kH w.params) mainGlobals "GroveError" = some (some (.ref 24)) := by kernel_rfl
  have a_NoBottom : PySem.W.nsIn (kH w.params) mainGlobals "NoBottom" = some (some (.ref 37)) := by kernel_rfl
  have a_NoTree : PySem.W.nsIn (kH w.params) mainGlobals "NoTree" = some (some (.ref 49)) := by kernel_rfl
  have a_NoChange : PySem.W.nsIn (kH w.params) mainGlobals "NoChange" = some (some (.ref 61)) := by kernel_rfl
  have a_NoStart : PySem.W.nsIn (kH w.params) mainGlobals "NoStart" = some (some (.ref 73)) := by kernel_rfl
  have a_NoTable : PySem.W.nsIn (kH w.params) mainGlobals "NoTable" = some (some (.ref 85)) := by kernel_rfl
  have a_NoName : PySem.W.nsIn (kH w.params) mainGlobals "NoName" = some (some (.ref 97)) := by kernel_rfl
  have a_NoWeighing : PySem.W.nsIn (kH w.params) mainGlobals "NoWeighing" = some (some (.ref 109)) := by kernel_rfl
  have a_NotAlike : PySem.W.nsIn (kH w.params) mainGlobals "NotAlike" = some (some (.ref 121)) := by kernel_rfl
  have a_NoParts : PySem.W.nsIn (kH w.params) mainGlobals "NoParts" = some (some (.ref 133)) := by kernel_rfl
  have a_TooMany : PySem.W.nsIn (kH w.params) mainGlobals "TooMany" = some (some (.ref 145)) := by kernel_rfl
  have a_NoText : PySem.W.nsIn (kH w.params) mainGlobals "NoText" = some (some (.ref 157)) := by kernel_rfl
  have a_NoLine : PySem.W.nsIn (kH w.params) mainGlobals "NoLine" = some (some (.ref 169)) := by kernel_rfl
  have m_GroveError:=PySem.W.mg_of X G a_GroveError
  have m_NoBottom:=PySem.W.mg_of X G a_NoBottom
  have m_NoTree:=PySem.W.mg_of X G a_NoTree
  have m_NoChange:=PySem.W.mg_of X G a_NoChange
  have m_NoStart:=PySem.W.mg_of X G a_NoStart
  have m_NoTable:=PySem.W.mg_of X G a_NoTable
  have m_NoName:=PySem.W.mg_of X G a_NoName
  have m_NoWeighing:=PySem.W.mg_of X G a_NoWeighing
  have m_NotAlike:=PySem.W.mg_of X G a_NotAlike
  have m_NoParts:=PySem.W.mg_of X G a_NoParts
  have m_TooMany:=PySem.W.mg_of X G a_TooMany
  have m_NoText:=PySem.W.mg_of X G a_NoText
  have m_NoLine:=PySem.W.mg_of X G a_NoLine
  have X_NoName : Exc (kH w.params) mg "NoName" 97:=⟨m_NoName,by kernel_rfl⟩
  have be_NoName : Beneath (kH w.params) 97 24 true:=⟨by kernel_rfl,by kernel_rfl,by kernel_rfl,by kernel_rfl⟩
  have xk_NoName : ExcK (kH w.params) 97:=⟨by kernel_rfl,by kernel_rfl,by kernel_rfl,by kernel_rfl,by kernel_rfl,by kernel_rfl,by kernel_rfl,by kernel_rfl⟩
  have tV_NoName : PySem.W.kitOne (kH w.params) (.ref 97) (.type "ValueError") = some true := by kernel_rfl
  have t_NoName_GroveError : PySem.W.kitOne (kH w.params) (.ref 97) (.ref 24) = some true := by kernel_rfl
  have t_NoName_NoBottom : PySem.W.kitOne (kH w.params) (.ref 97) (.ref 37) = some false := by kernel_rfl
  have t_NoName_NoTree : PySem.W.kitOne (kH w.params) (.ref 97) (.ref 49) = some false := by kernel_rfl
  have t_NoName_NoChange : PySem.W.kitOne (kH w.params) (.ref 97) (.ref 61) = some false := by kernel_rfl
  have t_NoName_NoStart : PySem.W.kitOne (kH w.params) (.ref 97) (.ref 73) = some false := by kernel_rfl
  have t_NoName_NoTable : PySem.W.kitOne (kH w.params) (.ref 97) (.ref 85) = some false := by kernel_rfl
  have t_NoName_NoName : PySem.W.kitOne (kH w.params) (.ref 97) (.ref 97) = some true := by kernel_rfl
  have t_NoName_NoWeighing : PySem.W.kitOne (kH w.params) (.ref 97) (.ref 109) = some false := by kernel_rfl
  have t_NoName_NotAlike : PySem.W.kitOne (kH w.params) (.ref 97) (.ref 121) = some false := by kernel_rfl
  have t_NoName_NoParts : PySem.W.kitOne (kH w.params) (.ref 97) (.ref 133) = some false := by kernel_rfl
  have t_NoName_TooMany : PySem.W.kitOne (kH w.params) (.ref 97) (.ref 145) = some false := by kernel_rfl
  have t_NoName_NoText : PySem.W.kitOne (kH w.params) (.ref 97) (.ref 157) = some false := by kernel_rfl
  have t_NoName_NoLine : PySem.W.kitOne (kH w.params) (.ref 97) (.ref 169) = some false := by kernel_rfl
  have bt_NoName_GroveError : Beneath (kH w.params) 97 24 true:=⟨by kernel_rfl,by kernel_rfl,by kernel_rfl,by kernel_rfl⟩
  have hK : noLst (kH w.params) = true := by kernel_rfl
  refine ⟨fnOf (Str.ofString "law") (Str.ofString "law") (defArgs (top 36)) (defBody (top 36)) (defScope (top 36)) .none .none .none (.str (Str.ofString "law_stepgrove_k30_tables_of_names") 517) none (.ref 339) .none,fun s v => .of_eq rfl,fun base _ _ => ?_⟩
  have m_MOST_ROWS:=PySem.W.mg_of X G a_MR
  have m_NAMED_TABLES:=PySem.W.mg_of X G a_NT
  have g_gd:=ok_greatest_divisor (P:=rwX.prog) (w:=w) (base := base) T_greatest_divisor z_abs
  have g_wh:=ok_is_whole (P:=rwX.prog) (w:=w) (base := base) T_is_whole z_isinstance z_int z_bool
  have g_isfr:=ok_is_fraction T_is_fraction T_is_whole T_greatest_divisor g_wh g_gd z_isinstance z_tuple z_len
  have g_af:=ok_are_fractions T_are_fractions T_is_fraction g_isfr z_isinstance z_list
  have g_ar:=ok_are_rows T_are_rows T_are_fractions g_af m_MOST_ROWS z_isinstance z_list z_len z_enumerate
  have g_it:=ok_is_table T_is_table T_are_rows T_are_fractions g_ar (g_af.mono) z_isinstance z_tuple z_len
  have G_is_table:=toB (q:=isTabD) g_it (fun l d v H Q E hd hq => ⟨l,d,v,rfl,hd,hq⟩)
  have G_table_of:=ox_table_of (P:=rwX.prog) (w:=w) (base := base) (k:=0) T_table_of z_list m_NAMED_TABLES X_NoName
  have O_table_of:=spX_only [97] G_table_of
  have D_table_of:=spX_D G_table_of
  have G__law_asked:=od__law_asked (P:=rwX.prog) (w:=w) (base := base) (k:=1) T__law_asked T_table_of (O_table_of.mono) m_GroveError (fun ds C h => by rw [List.mem_singleton.mp (only_in h)]; exact bt_NoName_GroveError)
  have G__law_only:=od__law_only (P:=rwX.prog) (w:=w) (base := base) (k:=0) T__law_only z_ValueError z_isinstance z_range m_GroveError m_NoBottom m_NoChange m_NoLine m_NoName m_NoParts m_NoStart m_NoTable m_NoText m_NoTree m_NoWeighing m_NotAlike m_TooMany (one1_h xk_NoName t_NoName_GroveError) (one1_h xk_NoName t_NoName_NoBottom) (one1_h xk_NoName t_NoName_NoChange) (one1_h xk_NoName t_NoName_NoLine) (one1_h xk_NoName t_NoName_NoName) (one1_h xk_NoName t_NoName_NoParts) (one1_h xk_NoName t_NoName_NoStart) (one1_h xk_NoName t_NoName_NoTable) (one1_h xk_NoName t_NoName_NoText) (one1_h xk_NoName t_NoName_NoTree) (one1_h xk_NoName t_NoName_NoWeighing) (one1_h xk_NoName t_NoName_NotAlike) (one1_h xk_NoName t_NoName_TooMany) (one1_h xk_NoName tV_NoName)
  have G__law_same:=od__law_same (P:=rwX.prog) (w:=w) (base := base) (k:=0) T__law_same z_all z_bool z_int z_isinstance z_len z_list z_tuple z_zip 6
  have g_tabs:=ok__law_tables (P:=rwX.prog) (w:=w) (base := base) T__law_tables
  have g_chd:=ok__law_changed (P:=rwX.prog) (w:=w) (base := base) T__law_changed
  have g_good:=ok__law_good (k:=8) T__law_good T__law_tables T__law_asked T__law_only T__law_same T_is_table T__law_changed T_table_of (g_tabs.mono) (G__law_asked.mono) (G__law_only.mono) (G__law_same.mono) (G_is_table.mono) (g_chd.mono) (D_table_of.mono)
  have g_mix:=ok__law_mixed (P:=rwX.prog) (w:=w) (base := base) T__law_mixed
  have g_pile:=ok__law_pile T__law_pile T__law_mixed g_mix z_len z_range
  have g_take:=ok__law_take (P:=rwX.prog) (w:=w) (base := base) T__law_take
  have g_word:=ok__law_word (k:=1) T__law_word T__law_take g_take z_len z_range
  exact ok_law (k:=9) T_law T__law_pile T__law_take T__law_good T__law_word (g_pile.mono) (g_take.mono) g_good (g_word.mono) z_len z_range z_max z_min
theorem walkX : WalkO qX ["NAMED_TABLES"] (XL qX []) hX.says rwX.row.toRowW dX [] (fun f vs => PySem.call f vs) :=
  L2.walk_ofT (l:=rwX) (n:=63) (k:=10) (x := "_law_script") (CX:=fun _ => CX0) (K:=kH) (Kt:=kT) (da:=200) (od:=odX) (tv:=tvX) (sp:=fun w => spLaw (kH w.params)) rfl (by decide) rfl ⟨rfl,by decide,by decide⟩ (fun w h Y => kIn_of Y) tabX (by decide) (fun P => ⟨by kernel_rfl,by kernel_rfl⟩) (fun w mg h X G => mg_of X G (v:=.ref 200) (by kernel_rfl)) allX (fun _ _ a ns hl hS => ⟨a,ns,rfl,hS,hl,fun _ => rfl⟩) fun _ _ _ _ _ z => z
end
end Q30
open PySem PySem.W PyProof.Rows
set_option maxRecDepth 100000 in
theorem PySem.Challenge.cw_stepgrove_k30_tables_of_names_holds : PySem.Challenge.rw_stepgrove_k30_tables_of_names.Holds := by
  refine Q30.openX ?hw Q30.walkX
  w_witness2
#print axioms PySem.Challenge.cw_stepgrove_k30_tables_of_names_holds
