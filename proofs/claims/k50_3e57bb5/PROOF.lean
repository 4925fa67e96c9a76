import PyProof.Rows.All
import Wide.All
import OpenK.AllK
import Wide.FinOn
import Lean
import PyProof.EqAt
import PyProof.EqKinds
import PyProof.TupleCall
import PySem.Challenge.RW_stepgrove_k50_parting_changes
set_option Elab.async false
set_option linter.all false
set_option maxRecDepth 100000
namespace L2
open PySem PySem.Spec PyProof.Rows
abbrev Key:=Sum Int Str
def keyIs : Key→Value→Bool
  | .inl k,v => Value.isInt k v
  | .inr x,v => Value.isStrOf x v
def keyH (w : World) : Key→Int
  | .inl k => hashInt k
  | .inr x => hashStr w x
theorem keyIs_shape : ∀ {k : Key} {v : Value},keyIs k v = true→(∃ i t,k = Sum.inl i∧v = Value.int i t)∨(∃ x t,k = Sum.inr x∧v = Value.str x t)
  | .inl i,v,h => by
    obtain ⟨t,e⟩:=Value.isInt_shape (k:=i) (v:=v) h
    exact .inl ⟨i,t,rfl,e⟩
  | .inr x,v,h => by
    obtain ⟨t,e⟩:=Value.isStrOf_shape (x:=x) (v:=v) h
    exact .inr ⟨x,t,rfl,e⟩
theorem keyIs_int (i : Int) (t : Tok) : keyIs (.inl i) (.int i t) = true := by simp [keyIs,Value.isInt]
theorem keyIs_str (x : Str) (t : Tok) : keyIs (.inr x) (.str x t) = true := by simp [keyIs,Value.isStrOf]
theorem key_ll (a b : Int) : decide ((Sum.inl a : Key) = Sum.inl b) = (a == b) := by
  by_cases e : a = b
  · subst e; simp
  · have h : ¬ (Sum.inl a : Key) = Sum.inl b:=fun q => e (Sum.inl.inj q)
    rw [decide_eq_false h]
    exact (beq_eq_false_iff_ne.mpr e).symm
theorem key_rr (a b : Str) : decide ((Sum.inr a : Key) = Sum.inr b) = decide (a = b) := by
  by_cases e : a = b
  · subst e; simp
  · have h : ¬ (Sum.inr a : Key) = Sum.inr b:=fun q => e (Sum.inr.inj q)
    rw [decide_eq_false h,decide_eq_false e]
theorem key_lr (a : Int) (b : Str) : decide ((Sum.inl a : Key) = Sum.inr b) = false:=decide_eq_false (fun q => nomatch q)
theorem key_rl (a : Str) (b : Int) : decide ((Sum.inr a : Key) = Sum.inl b) = false:=decide_eq_false (fun q => nomatch q)
def mixKind (prog : Program) (w : World) : PySem.KeyKind prog w Key where
  is:=keyIs
  hash:=keyH w
  inj:=fun v a b ha hb => by
    rcases keyIs_shape ha with ⟨i,t,rfl,rfl⟩ | ⟨x,t,rfl,rfl⟩
    · rcases keyIs_shape hb with ⟨j,u,rfl,e⟩ | ⟨y,u,rfl,e⟩
      · injection e with e1 _; rw [e1]
      · exact nomatch e
    · rcases keyIs_shape hb with ⟨j,u,rfl,e⟩ | ⟨y,u,rfl,e⟩
      · exact nomatch e
      · injection e with e1 _; rw [e1]
  byValue:=fun k v h => by
    rcases keyIs_shape h with ⟨i,t,rfl,rfl⟩ | ⟨x,t,rfl,rfl⟩ <;> rfl
  pyHash:=fun hv h => by
    rcases keyIs_shape hv with ⟨i,t,rfl,rfl⟩ | ⟨x,t,rfl,rfl⟩
    · exact wpAny_pyHash_int h
    · exact wpAny_pyHash_str h
  eqBool:=fun hu hv h => by
    rcases keyIs_shape hu with ⟨i,t,rfl,rfl⟩ | ⟨x,t,rfl,rfl⟩
    · rcases keyIs_shape hv with ⟨j,u,rfl,rfl⟩ | ⟨y,u,rfl,rfl⟩
      · rw [key_ll] at h; exact wpAny_eqBool_int h
      · rw [key_lr] at h; exact SeqAt.EqAt.int_str i t y u _ _ _ _ h
    · rcases keyIs_shape hv with ⟨j,u,rfl,rfl⟩ | ⟨y,u,rfl,rfl⟩
      · rw [key_rl] at h; exact SeqAt.EqAt.str_int x t j u _ _ _ _ h
      · rw [key_rr] at h; exact wpAny_eqBool_str h
  «strs»:=fun k x t v h => by
    rcases keyIs_shape h with ⟨i,u,rfl,e⟩ | ⟨y,u,rfl,e⟩
    · exact nomatch e
    · injection e with e1 _
      subst e1
      cases v <;> rfl
theorem mixKind_int (prog : Program) (w : World) (i : Int) (t : Tok) : (mixKind prog w).is (.inl i) (.int i t) = true:=keyIs_int i t
theorem mixKind_str (prog : Program) (w : World) (x : Str) (t : Tok) : (mixKind prog w).is (.inr x) (.str x t) = true:=keyIs_str x t
inductive V where
  | non | bl (b : Bool) | int (i : Int) | str (x : Str) | byt (b : Array UInt8) | flt (b : UInt64) | ref (a : Addr) | ty (n : String)
  deriving DecidableEq
def RelV : V→Value→Prop
  | .non,u => u = Value.none
  | .bl b,u => u = Value.bool b
  | .int i,u => ∃ t,u = Value.int i t
  | .str x,u => ∃ t,u = Value.str x t
  | .byt b,u => ∃ t,u = Value.bytes b t
  | .flt b,u => ∃ t,u = Value.float b t
  | .ref a,u => u = Value.ref a
  | .ty n,u => u = Value.type n
abbrev Vals : List V→List Value→Prop:=Paired RelV
theorem Vals.length {xs : List V} {us : List Value} (r : Vals xs us) : xs.length = us.length:=Paired.length r
theorem Vals.get : ∀ {xs : List V} {us : List Value} {i : Nat} {x : V},Vals xs us→xs[i]? = some x→∃ u,us[i]? = some u∧RelV x u
  | _,_,_,_,.nil,e => by simp at e
  | _,_,0,_,.cons r _,e => by simp at e; subst e; exact ⟨_,rfl,r⟩
  | _,_,i + 1,x,.cons _ t,e => by
    obtain ⟨u,h1,h2⟩:=Vals.get (i:=i) (x:=x) t (by simpa using e)
    exact ⟨u,by simpa using h1,h2⟩
theorem Vals.append : ∀ {xs ys : List V} {us ws : List Value},Vals xs us→Vals ys ws→Vals (xs ++ ys) (us ++ ws)
  | _,_,_,_,.nil,s => s
  | _,_,_,_,.cons r t,s => .cons r (Vals.append t s)
theorem Vals.take : ∀ {xs : List V} {us : List Value} (n : Nat),Vals xs us→Vals (xs.take n) (us.take n)
  | _,_,0,_ => .nil
  | _,_,_ + 1,.nil => .nil
  | _,_,n + 1,.cons r t => .cons r (Vals.take n t)
theorem Vals.drop : ∀ {xs : List V} {us : List Value} (n : Nat),Vals xs us→Vals (xs.drop n) (us.drop n)
  | _,_,0,r => r
  | _,_,_ + 1,.nil => .nil
  | _,_,n + 1,.cons _ t => Vals.drop n t
def RelO : Option V→Option Value→Prop
  | some v,some u => RelV v u
  | none,none => True
  | _,_ => False
def KV {κ : Type} : List (κ×V)→List (κ×Value)→Prop:=Paired fun (p : κ×V) (q : κ×Value) => p.1 = q.1∧RelV p.2 q.2
def kV : Key→V
  | .inl i => .int i
  | .inr x => .str x
inductive HO where
  | lst (xs : List V)
  | tup (xs : List V)
  | dK (kvs : List (Key×V)) | dT (kvs : List (List Key×V))
  | set (S : Int→Bool) (n : Nat)
  | ins (C dx : Addr) (fs : List (Str×V))
  | own (x : Addr)
  | xd (fs : List (Str×V))
  | met (f x : Addr)
  | rng (lo hi : Int)
  | frz (o : Obj) (u : HO)
  | tbl (ps : Array Value)
  | ext (φ : Heap→Prop)
abbrev Hp:=Addr→Option HO
def upd (H : Hp) (a : Addr) (o : HO) : Hp:=fun b => if b = a then some o else H b
theorem upd_same {H : Hp} {a : Addr} {o : HO} : upd H a o a = some o := by unfold upd; rw [if_pos rfl]
theorem upd_ne {H : Hp} {a b : Addr} {o : HO} (h : b≠a) : upd H a o b = H b := by unfold upd; rw [if_neg h]
theorem ne_of {H : Hp} {a b : Addr} {o u : HO} (h : H a = some o) (h' : H b = some u) (d : o≠u) : a≠b := by
  intro e; subst e; rw [h] at h'; exact d (Option.some.inj h')
theorem ne_of_none {H : Hp} {a b : Addr} {o : HO} (h : H a = some o) (h' : H b = none) : a≠b := by
  intro e; subst e; rw [h] at h'; cases h'
section
variable (P : Program) (w : World)
def ObjOk (H : Hp) (h : Heap) (a : Addr) : HO→Prop
  | .lst xs => xs.length≤sizeLine∧∃ (its : List Value) (n : Nat),Vals xs its∧h.get? a = some { cls:=.type "list",data:=.seq its.toArray n }
  | .tup xs => xs.length≤sizeLine∧∃ its : List Value,Vals xs its∧IsTup h a its.toArray
  | .dK kvs => kvs.length≤sizeLine∧(a == sysModules) = false∧∃ vs,KV kvs vs∧h.DictOf (mixKind P w) a vs
  | .dT kvs => kvs.length≤sizeLine∧(a == sysModules) = false∧∃ xs : List (List Key×Addr×Value),
      Paired (fun (p : List Key×V) (q : List Key×Addr×Value) => p.1 = q.1∧H q.2.1 = some (.tup (p.1.map kV))∧RelV p.2 q.2.2) kvs xs ∧
      ∃ o es ep,h.get? a = some o∧o.ExactDict∧o.data = .dict es ep∧es.toList = xs.map (entryOfKey (tupleKind (mixKind P w)))∧(xs.map (·.1)).Nodup
  | .set S n => h.SetOf (intKind P w) a S n
  | .ins C dx fs => H dx = some (.own a)∧fs.length≤1000∧dx≠a∧h.get? a = some (PySem.W.instObj C dx) ∧
      ∃ mA,h.Ns1 dx mA∧(∀ f,RelO (fs.lookup f) (mA f))∧PySem.Within mA (fs.map (·.1))
  | .own _ => ∃ o,h.get? a = some o
  | .xd fs => ∃ mA,h.Ns1 a mA∧∀ f,RelO (fs.lookup f) (mA f)
  | .rng lo hi => ∃ t u v,h.get? a = some { cls:=.type "range",data:=.fields #[.int lo t,.int hi u,.int 1 v] }
  | .frz o u => h.get? a = some o∧ObjOk H h a u
  | .tbl ps => h.get? a = some { cls:=.none,data:=.fields ps }
  | .met f x => h.get? a = some (PySem.W.methodObj (.ref f) (.ref x))
  | .ext φ => φ h∧(∃ o,h.get? a = some o)∧∀ h1 h2 : Heap,φ h1→(∀ o,h1.get? a = some o→h2.get? a = some o)→φ h2
def HOk (H : Hp) (h : Heap) : Prop:=∀ a o,H a = some o→ObjOk P w H h a o
end
section
variable {P : Program} {w : World} {H H' : Hp} {h h' : Heap} {a : Addr} {o : HO}
theorem ObjOk.lt (x : ObjOk P w H h a o) : a < h.objs.size := by
  cases o with
  | lst xs => obtain ⟨_,_,_,_,e⟩:=x; exact Heap.lt_size e
  | tup xs => obtain ⟨_,_,_,p⟩:=x; exact p.lt
  | dK kvs => obtain ⟨_,_,_,_,o,_,_,e,_⟩:=x; exact Heap.lt_size e
  | dT kvs => obtain ⟨_,_,_,_,o,_,_,e,_⟩:=x; exact Heap.lt_size e
  | set S n => obtain ⟨o,_,_,_,e,_⟩:=x; exact Heap.lt_size e
  | ins C dx fs => obtain ⟨_,_,_,e,_⟩:=x; exact Heap.lt_size e
  | own y => obtain ⟨_,e⟩:=x; exact Heap.lt_size e
  | xd fs => obtain ⟨_,⟨_,_,_,e,_⟩,_⟩:=x; exact Heap.lt_size e
  | rng lo hi => obtain ⟨_,_,_,e⟩:=x; exact Heap.lt_size e
  | frz ob u => obtain ⟨e,_⟩:=x; exact Heap.lt_size e
  | tbl ps => exact Heap.lt_size (show h.get? a = some _ from x)
  | met f y => exact Heap.lt_size (show h.get? a = some _ from x)
  | ext φ => obtain ⟨_,⟨_,e⟩,_⟩:=x; exact Heap.lt_size e
theorem Paired.mapP {α β : Type} {F G : α→β→Prop} : ∀ {l₁ : List α} {l₂ : List β},Paired F l₁ l₂→(∀ a b,F a b→G a b)→Paired G l₁ l₂
  | _,_,.nil,_ => .nil
  | _,_,.cons r t,f => .cons (f _ _ r) (Paired.mapP t f)
theorem ObjOk.stay (x : ObjOk P w H h a o) (k : ∀ b u,(b = a∨H b = some (.own a))→h.get? b = some u→h'.get? b = some u)
    (ho : ∀ b,H b = some (.own a)→H' b = some (.own a)) (ht : ∀ b xs,H b = some (.tup xs)→H' b = some (.tup xs)) : ObjOk P w H' h' a o := by
  induction o with
  | lst xs => obtain ⟨z,its,n,r,e⟩:=x; exact ⟨z,its,n,r,k _ _ (.inl rfl) e⟩
  | tup xs => obtain ⟨z,its,r,ob,e,c⟩:=x; exact ⟨z,its,r,ob,k _ _ (.inl rfl) e,c⟩
  | dK kvs => obtain ⟨z,y,vs,r,ob,es,ep,e,c⟩:=x; exact ⟨z,y,vs,r,ob,es,ep,k _ _ (.inl rfl) e,c⟩
  | dT kvs =>
    obtain ⟨z,y,xs,r,ob,es,ep,e,c⟩:=x
    exact ⟨z,y,xs,Paired.mapP r fun p q z => ⟨z.1,ht _ _ z.2.1,z.2.2⟩,ob,es,ep,k _ _ (.inl rfl) e,c⟩
  | set S n => obtain ⟨ob,es,ep,t,e,c⟩:=x; exact ⟨ob,es,ep,t,k _ _ (.inl rfl) e,c⟩
  | ins C dx fs =>
    obtain ⟨d,z,ne,e,mA,⟨od,es,ep,e2,c⟩,r⟩:=x
    exact ⟨ho _ d,z,ne,k _ _ (.inl rfl) e,mA,⟨od,es,ep,k _ _ (.inr d) e2,c⟩,r⟩
  | own y => obtain ⟨ob,e⟩:=x; exact ⟨ob,k _ _ (.inl rfl) e⟩
  | xd fs => obtain ⟨mA,⟨od,es,ep,e,c⟩,r⟩:=x; exact ⟨mA,⟨od,es,ep,k _ _ (.inl rfl) e,c⟩,r⟩
  | rng lo hi => obtain ⟨t,u,v,e⟩:=x; exact ⟨t,u,v,k _ _ (.inl rfl) e⟩
  | frz ob u ih => obtain ⟨e,q⟩:=x; exact ⟨k _ _ (.inl rfl) e,ih q⟩
  | tbl ps =>
    have e : h.get? a = some { cls:=.none,data:=.fields ps }:=x
    show h'.get? a = some { cls:=.none,data:=.fields ps }
    exact k a _ (.inl rfl) e
  | met f y =>
    have e : h.get? a = some (PySem.W.methodObj (.ref f) (.ref y)):=x
    show h'.get? a = some (PySem.W.methodObj (.ref f) (.ref y))
    exact k a _ (.inl rfl) e
  | ext φ => obtain ⟨p,⟨o,e⟩,st⟩:=x; exact ⟨st _ _ p fun o q => k _ _ (.inl rfl) q,⟨o,k _ _ (.inl rfl) e⟩,st⟩
theorem HOk.lt (x : HOk P w H h) (e : H a = some o) : a < h.objs.size:=(x a o e).lt
theorem HOk.fresh (x : HOk P w H h) (e : h.objs.size≤a) : H a = none := by
  cases q : H a with
  | none => rfl
  | some u => exact absurd (Nat.lt_of_lt_of_le (x.lt q) e) (Nat.lt_irrefl _)
theorem HOk.kept (x : HOk P w H h) (k : ∀ b u,h.get? b = some u→h'.get? b = some u) : HOk P w H h':=fun a o e =>
  (x a o e).stay (fun b u _ q => k b u q) (fun _ q => q) fun _ _ q => q
theorem HOk.laid (x : HOk P w H h) (k : ∀ b u,h.get? b = some u→h'.get? b = some u) (hp : h.objs.size≤a) (new : ObjOk P w (upd H a o) h' a o) : HOk P w (upd H a o) h':=fun b u e => by
  have hn:=x.fresh hp
  by_cases hb : b = a
  · subst hb; rw [upd_same] at e; cases e; exact new
  · rw [upd_ne hb] at e
    exact (x b u e).stay (fun c v _ q => k c v q) (fun c q => by rw [upd_ne (ne_of_none q hn)]; exact q) fun c xs q => by rw [upd_ne (ne_of_none q hn)]; exact q
end
def Rd (H : Hp) (a : Addr) (u : HO) : Prop:=H a = some u∨∃ o,H a = some (.frz o u)
theorem Rd.ok {P : Program} {w : World} {H : Hp} {h : Heap} {a : Addr} {u : HO} (r : Rd H a u) (x : HOk P w H h) : ObjOk P w H h a u := by
  rcases r with r | ⟨o,r⟩
  · exact x a u r
  · obtain ⟨_,q⟩:=x a _ r
    exact q
def Mut : Option HO→Prop
  | some (.lst _) => True
  | some (.dK _) => True
  | some (.dT _) => True
  | some (.set _ _) => True
  | some (.ins _ _ _) => True
  | some (.ext _) => True
  | _ => False
section
variable {P : Program} {w : World} {H : Hp} {h h' : Heap} {x e : Addr} {o' : HO}
theorem HOk.write (ok : HOk P w H h) (mu : Mut (H x)) (he : e = x∨H e = some (.own x)) (k : ∀ b u,b≠e→h.get? b = some u→h'.get? b = some u) (heo : ∃ u,h'.get? e = some u)
    (new : ObjOk P w (upd H x o') h' x o') : HOk P w (upd H x o') h':=fun b u q => by
  have nown : ∀ c y,H c = some (.own y)→c≠x:=fun c y r z => by subst z; rw [r] at mu; exact mu
  have ntup : ∀ c xs,H c = some (.tup xs)→c≠x:=fun c xs r z => by subst z; rw [r] at mu; exact mu
  by_cases hb : b = x
  · subst hb; rw [upd_same] at q; cases q; exact new
  · rw [upd_ne hb] at q
    by_cases hbe : b = e
    · have q' : H b = some (.own x) := by
        rcases he with z | z
        · exact absurd (hbe.trans z) hb
        · rw [hbe]; exact z
      rw [q] at q'; cases q'
      obtain ⟨v,hv⟩:=heo
      exact ⟨v,by rw [hbe]; exact hv⟩
    · refine (ok b u q).stay (fun c v hc r => k c v ?_ r) (fun c r => by rw [upd_ne (nown c b r)]; exact r) fun c xs r => by rw [upd_ne (ntup c xs r)]; exact r
      rcases hc with rfl | hc
      · exact hbe
      · rintro rfl
        rcases he with z | z
        · exact nown c b hc z
        · rw [hc] at z; cases z; exact hb rfl
end
structure Un (fs ex : List Addr) (H H' : Hp) (h h' : Heap) : Prop where
  keep : ∀ b o,h.get? b = some o→H b = none→b ∉ fs→b ∉ ex→h'.get? b = some o
  slot : ∀ b o,h.get? b = some o→H b = none→b∈fs→b ∉ ex→∃ sl,h'.get? b = some { o with slots:=sl }
  free : ∀ b o,h.get? b = some o→H b = none→b ∉ ex→H' b = none
  there : ∀ b o,h.get? b = some o→b ∉ ex→∃ o',h'.get? b = some o'
  tups : ∀ b xs,H b = some (.tup xs)→H' b = some (.tup xs)
  frzs : ∀ b o u,H b = some (.frz o u)→H' b = some (.frz o u)
  tbls : ∀ b ps,H b = some (.tbl ps)→∃ more,H' b = some (.tbl (ps ++ more))
section
variable {fs ex : List Addr} {H H1 : Hp} {h h1 h' : Heap} {a x e : Addr} {o : HO}
theorem Un.any (u : Un fs ex H H1 h h1) {b : Addr} {ob : Obj} (q : h.get? b = some ob) (n : H b = none) (hx : b ∉ ex) : ∃ sl,h1.get? b = some { ob with slots:=sl } := by
  by_cases hb : b∈fs
  · exact u.slot b ob q n hb hx
  · exact ⟨ob.slots,u.keep b ob q n hb hx⟩
theorem Un.kept (k : ∀ b u,h.get? b = some u→h'.get? b = some u) : Un fs ex H H h h' :=
  ⟨fun b ob q _ _ _ => k b ob q,fun b ob q _ _ _ => ⟨ob.slots,k b ob q⟩,fun _ _ _ n _ => n,fun b ob q _ => ⟨ob,k b ob q⟩,fun _ _ q => q,fun _ _ _ q => q,fun _ ps q => ⟨#[],by rw [q]; simp⟩⟩
theorem Un.refl : Un fs ex H H h h:=Un.kept fun _ _ q => q
theorem Un.laid (k : ∀ b u,h.get? b = some u→h'.get? b = some u) (hp : h.objs.size≤a) (hn : H a = none) : Un fs ex H (upd H a o) h h' where
  keep:=fun b u q _ _ _ => k b u q
  slot:=fun b u q _ _ _ => ⟨u.slots,k b u q⟩
  free:=fun b u q n _ => by rw [upd_ne (Nat.ne_of_lt (Nat.lt_of_lt_of_le (Heap.lt_size q) hp))]; exact n
  there:=fun b u q _ => ⟨u,k b u q⟩
  tups:=fun b xs q => by rw [upd_ne (ne_of_none q hn)]; exact q
  frzs:=fun b u xs q => by rw [upd_ne (ne_of_none q hn)]; exact q
  tbls:=fun b ps q => ⟨#[],by rw [upd_ne (ne_of_none q hn),q]; simp⟩
theorem Un.write (mu : Mut (H x)) (he : e = x∨H e = some (.own x)) (k : ∀ b u,b≠e→h.get? b = some u→h'.get? b = some u) (heo : ∃ u,h'.get? e = some u) : Un fs ex H (upd H x o) h h' := by
  have hx : ∀ b,H b = none→b≠x:=fun b n z => by subst z; rw [n] at mu; exact mu
  have hb : ∀ b,H b = none→b≠e:=fun b n z => by
    subst z
    rcases he with r | r
    · exact hx b n r
    · rw [n] at r; cases r
  have hm : ∀ b u,H b = some u→¬ Mut (some u)→b≠x:=fun b u q nm z => by subst z; rw [q] at mu; exact nm mu
  refine ⟨fun b u q n _ _ => k b u (hb b n) q,fun b u q n _ _ => ⟨u.slots,k b u (hb b n) q⟩,fun b u q n _ => by rw [upd_ne (hx b n)]; exact n,fun b u q _ => ?_,
    fun b xs q => by rw [upd_ne (hm b _ q fun z => z)]; exact q,fun b u xs q => by rw [upd_ne (hm b _ q fun z => z)]; exact q,fun b ps q => ⟨#[],by rw [upd_ne (hm b _ q fun z => z),q]; simp⟩⟩
  by_cases hbe : b = e
  · subst hbe; exact heo
  · exact ⟨u,k b u hbe q⟩
end
def trk (h : Heap) (H : Hp) : List Addr:=(List.range h.objs.size).filter fun a => (H a).isSome
def hidT (h : Heap) (H : Hp) : Heap:=PySem.W.hideAll h (trk h H)
theorem hidT_size (h : Heap) (H : Hp) : (hidT h H).objs.size = h.objs.size:=PySem.W.hideAll_size _ _
theorem hidT_get {h : Heap} {H : Hp} {b : Addr} {o : Obj} (e : h.get? b = some o) (n : H b = none) : (hidT h H).get? b = some o :=
  PySem.W.hideAll_get _ e fun hm => by
    have q : (H b).isSome = true:=(List.mem_filter.mp hm).2
    rw [n] at q; simp at q
theorem of_hidT {h : Heap} {H : Hp} {b : Addr} {o : Obj} (e : (hidT h H).get? b = some o) : h.get? b = some o∧H b = none := by
  have e' : h.get? b = some o:=PySem.W.of_hideAll (trk h H) e
  refine ⟨e',?_⟩
  cases q : H b with
  | none => rfl
  | some x =>
    have hm : b∈trk h H:=List.mem_filter.mpr ⟨List.mem_range.mpr (Heap.lt_size e'),by simp [q]⟩
    have z : (hidT h H).get? b = none:=PySem.W.hideAll_none (trk h H) hm
    rw [z] at e; cases e
structure Mod (K : PySem.W.Frag) (mg : Str→Option Value) (base : Heap) : Prop where
  kin : K.In base
  glob : base.Ns mainGlobals mg
  blt : ∃ mb,base.Ns builtinsNs mb∧∀ x : Str,x ≠ "__name__" → mb x = bootBuiltins x
  nolimit : base.NoLimit
structure Cx where
  prog : Program
  w : World
  K : PySem.W.Frag
  mg : Str→Option Value
  base : Heap
  A : Around
  N : List Str
  s₀ : Shared
  H₀ : Hp
  env : Env
  outer : List Env
  stack : List Env
  ex : List Addr
  fn : Str→Bool
  calm : Bool
  pn : List (Addr×Obj)
  xe : Value→Shared→Prop
def frs (l : List Env) : List Addr:=l.filterMap (·.frame)
abbrev Cx.fs (X : Cx) : List Addr:=frs X.outer
def Vis (sc : Scope) (x : Str) : Prop:=sc.names.lookup x = some .local∨sc.names.lookup x = some .cell∨sc.names.lookup x = some .free
def Loc (sc : Scope) (x : Str) : Prop:=sc.names.lookup x = some .local∨sc.names.lookup x = some .cell
def Look (env : Env) (h : Heap) (m : Str→Option Value) (x : Str) (u : Value) : Prop :=
  (env.kindOf x = some .local∧m x = some u)∨((env.kindOf x = some .cell∨env.kindOf x = some .free)∧∃ c,env.cells.lookup x = some c∧h.IsCell c (some u))
structure Cx.Ok (X : Cx) : Prop where
  mod : Mod X.K X.mg X.base
  kind : X.env.scope.kind = .function
  glob : X.env.globals = mainGlobals
  blt : X.env.builtins = builtinsNs
  above : X.s₀.heap.objs.size≤X.env.locals
  inj : ∀ x y c,X.env.cells.lookup x = some c→X.env.cells.lookup y = some c→x = y
  has : ∀ x,(X.env.kindOf x = some .cell∨X.env.kindOf x = some .free)→∃ c,X.env.cells.lookup x = some c
  cab : ∀ x c,X.fn x = true→X.env.cells.lookup x = some c→X.s₀.heap.objs.size≤c
  hd : X.calm = true→X.A.handled = none
  frames : X.A.frames = some X.stack
  stk : X.stack = X.outer∨(X.stack = X.env :: X.outer∧X.env.frame = some X.env.locals)
  exf : ∀ b∈X.ex,b≠X.env.locals∧∀ x c,X.env.cells.lookup x = some c→c≠b
  bs : ∀ b o,X.base.get? b = some o→X.s₀.heap.get? b = some o∧X.H₀ b = none
  bsz : X.base.objs.size≤X.s₀.heap.objs.size
  noex : ∀ b o,X.base.get? b = some o→b ∉ X.ex
  exfs : ∀ b∈X.ex,b ∉ X.fs
  funs : X.s₀.heap.FunFrames X.base X.outer
  frf : ∀ b∈X.fs,X.H₀ b = none
structure Inv (X : Cx) (pins : List (Addr×Obj)) (σ : List (Option V)) (H : Hp) (s : Shared) : Prop where
  ok : X.Ok
  os : s.os = X.s₀.os
  bare : AllBare s.gens
  base : Un X.fs X.ex X.H₀ H X.s₀.heap s.heap
  loc : ∃ m,s.heap.Ns X.env.locals m∧∀ (i : Nat) (x : Str) (v : V),X.N[i]? = some x→σ[i]? = some (some v)→Vis X.env.scope x→∃ u,RelV v u∧Look X.env s.heap m x u
  cell : ∀ x c,X.env.cells.lookup x = some c→∃ v,s.heap.IsCell c v
  free : H X.env.locals = none
  freeC : ∀ x c,X.env.cells.lookup x = some c→H c = none
  pin : ∀ p∈X.pn ++ pins,s.heap.get? p.1 = some p.2∧H p.1 = none∧p.1≠X.env.locals∧p.1 ∉ X.fs∧∀ v,p.2.data≠.cell v
  hok : HOk X.prog X.w H s.heap
  len : σ.length = X.N.length
section
variable {X : Cx} {pins : List (Addr×Obj)} {σ : List (Option V)} {H H' : Hp} {s : Shared} {h' : Heap}
theorem Cx.Ok.nofr (ok : X.Ok) {b : Addr} {o : Obj} (e : X.base.get? b = some o) : b ∉ X.fs:=fun hb => by
  have:=(ok.funs.mem hb).1
  rw [e] at this; cases this
theorem Inv.bs (I : Inv X pins σ H s) : ∀ b o,X.base.get? b = some o→s.heap.get? b = some o∧H b = none:=fun b o e =>
  ⟨I.base.keep b o (I.ok.bs b o e).1 (I.ok.bs b o e).2 (I.ok.nofr e) (I.ok.noex b o e),I.base.free b o (I.ok.bs b o e).1 (I.ok.bs b o e).2 (I.ok.noex b o e)⟩
theorem Inv.bk (I : Inv X pins σ H s) : ∀ b o,X.base.get? b = some o→s.heap.get? b = some o:=fun b o e => (I.bs b o e).1
theorem Inv.mod (I : Inv X pins σ H s) : Mod X.K X.mg X.base:=I.ok.mod
theorem Inv.kIn (I : Inv X pins σ H s) : X.K.In s.heap:=I.ok.mod.kin.keeps I.bk
theorem Inv.lt (I : Inv X pins σ H s) : X.env.locals < s.heap.objs.size:=let ⟨_,hn,_⟩:=I.loc; hn.lt
theorem Inv.sz (I : Inv X pins σ H s) : X.s₀.heap.objs.size≤s.heap.objs.size:=Nat.le_trans I.ok.above (Nat.le_of_lt I.lt)
theorem Inv.nofs (I : Inv X pins σ H s) {a : Addr} (h : s.heap.objs.size≤a) : a ∉ X.fs:=fun hb => by
  obtain ⟨_,o,ho,_⟩:=I.ok.funs.mem hb
  exact absurd (Nat.lt_of_lt_of_le (Heap.lt_size ho) (Nat.le_trans I.sz h)) (Nat.lt_irrefl _)
theorem Inv.cne (I : Inv X pins σ H s) : ∀ x c,X.env.cells.lookup x = some c→c≠X.env.locals:=fun x c e z => by
  obtain ⟨v,o,ho,hd⟩:=I.cell x c e
  obtain ⟨m,⟨o',es,ep,ho',hd',_⟩,_⟩:=I.loc
  rw [z,ho'] at ho; cases ho; rw [hd'] at hd; cases hd
theorem Inv.funs (I : Inv X pins σ H s) : s.heap.FunFrames X.base X.outer := by
  have all : ∀ (l : List Env),(∀ b∈frs l,b∈X.fs)→X.s₀.heap.FunFrames X.base l→s.heap.FunFrames X.base l := by
    intro l
    induction l with
    | nil => intro _ _; trivial
    | cons env r ih =>
      intro hs hl
      obtain ⟨hk,⟨L,o,hf,hn,ho,hd⟩,hr⟩:=hl
      have hL : L∈X.fs:=hs L (by unfold frs; rw [List.filterMap_cons,hf]; exact List.mem_cons_self)
      obtain ⟨sl,e⟩:=I.base.slot L o ho (I.ok.frf L hL) hL fun z => I.ok.exfs L z hL
      exact ⟨hk,⟨L,_,hf,hn,e,hd⟩,ih (fun b hb => hs b (by unfold frs; rw [List.filterMap_cons,hf]; exact List.mem_cons_of_mem _ hb)) hr⟩
  exact all X.outer (fun _ hb => hb) I.ok.funs
theorem Inv.stack (I : Inv X pins σ H s) : s.heap.FunFrames X.base X.stack := by
  rcases I.ok.stk with e | ⟨e,hf⟩
  · rw [e]; exact I.funs
  · rw [e]
    obtain ⟨m,hn,_⟩:=I.loc
    refine .cons (by rw [I.ok.kind]; decide) hf hn ?_ I.funs
    exact Heap.get?_none_of_le (Nat.le_trans I.ok.bsz I.ok.above)
theorem Inv.stkSub (I : Inv X pins σ H s) : ∀ b∈frs X.stack,b∈X.env.locals :: X.fs:=fun b hb => by
  rcases I.ok.stk with e | ⟨e,hf⟩
  · rw [e] at hb; exact List.mem_cons_of_mem _ hb
  · rw [e] at hb
    unfold frs at hb
    rw [List.filterMap_cons,hf] at hb
    exact hb
theorem Inv.stkFree (I : Inv X pins σ H s) : ∀ b∈frs X.stack,H b = none:=fun b hb => by
  rcases List.mem_cons.mp (I.stkSub b hb) with e | hb
  · rw [e]; exact I.free
  · obtain ⟨_,o,ho,_⟩:=I.ok.funs.mem hb
    exact I.base.free b o ho (I.ok.frf b hb) fun z => I.ok.exfs b z hb
theorem Inv.step {g' : Array GenState} {t' : Nat} {d' : Drawn} {ch : List Addr} (I : Inv X pins σ H s)
    (hch : ∀ b∈ch,(b∈X.ex∨X.s₀.heap.objs.size≤b)∧b≠X.env.locals∧(∀ x c,X.env.cells.lookup x = some c→c≠b)∧∀ p∈X.pn ++ pins,p.1≠b)
    (keep : ∀ b o,b≠X.env.locals→b ∉ X.fs→b ∉ ch→s.heap.get? b = some o→H b = none→h'.get? b = some o)
    (slot : ∀ b o,b≠X.env.locals→b∈X.fs→b ∉ ch→s.heap.get? b = some o→H b = none→∃ sl,h'.get? b = some { o with slots:=sl }) (free : ∀ b o,b ∉ ch→s.heap.get? b = some o→H b = none→H' b = none)
    (there : ∀ b o,b ∉ ch→s.heap.get? b = some o→∃ o',h'.get? b = some o')
    (tups : ∀ b xs,H b = some (.tup xs)→H' b = some (.tup xs)) (frzs : ∀ b o u,H b = some (.frz o u)→H' b = some (.frz o u)) (tbls : ∀ b ps,H b = some (.tbl ps)→∃ more,H' b = some (.tbl (ps ++ more)))
    (ns : ∀ m,s.heap.Ns X.env.locals m→h'.Ns X.env.locals m) (hok : HOk X.prog X.w H' h') (hg : AllBare g') :
    Inv X pins σ H' { s with heap:=h',gens:=g',drawn:=d',toks:=t' } := by
  have neL : ∀ b o,X.s₀.heap.get? b = some o→b≠X.env.locals:=fun b o e => Nat.ne_of_lt (Nat.lt_of_lt_of_le (Heap.lt_size e) I.ok.above)
  have neC : ∀ b o,X.s₀.heap.get? b = some o→b ∉ X.ex→b ∉ ch:=fun b o e hx hb => by
    rcases (hch b hb).1 with z | z
    · exact hx z
    · exact absurd (Nat.lt_of_lt_of_le (Heap.lt_size e) z) (Nat.lt_irrefl _)
  have cellK : ∀ x c,X.env.cells.lookup x = some c→∀ v,s.heap.IsCell c v→h'.IsCell c v:=fun x c e v ⟨o,ho,hd⟩ => by
    have nch : c ∉ ch:=fun z => (hch c z).2.2.1 x c e rfl
    by_cases hc : c∈X.fs
    · obtain ⟨sl,q⟩:=slot c o (I.cne x c e) hc nch ho (I.freeC x c e)
      exact ⟨_,q,hd⟩
    · exact ⟨o,keep c o (I.cne x c e) hc nch ho (I.freeC x c e),hd⟩
  refine ⟨I.ok,I.os,hg,⟨fun b o e n hb hx => ?_,fun b o e n hb hx => ?_,fun b o e n hx => ?_,fun b o e hx => ?_,fun b xs e => tups b xs (I.base.tups b xs e),fun b o xs e => frzs b o xs (I.base.frzs b o xs e),fun b ps e => ?_⟩,?_,fun x c e => ?_,?_,fun x c e => ?_,fun p hp => ?_,hok,I.len⟩
  · exact keep b o (neL b o e) hb (neC b o e hx) (I.base.keep b o e n hb hx) (I.base.free b o e n hx)
  · obtain ⟨sl,e1⟩:=I.base.slot b o e n hb hx
    obtain ⟨sl',e2⟩:=slot b _ (neL b o e) hb (neC b o e hx) e1 (I.base.free b o e n hx)
    exact ⟨sl',e2⟩
  · obtain ⟨o',e1⟩:=I.base.there b o e hx
    exact free b o' (neC b o e hx) e1 (I.base.free b o e n hx)
  · obtain ⟨o',e1⟩:=I.base.there b o e hx
    exact there b o' (neC b o e hx) e1
  · obtain ⟨m1,e1⟩:=I.base.tbls b ps e
    obtain ⟨m2,e2⟩:=tbls b _ e1
    exact ⟨m1 ++ m2,by rw [e2,Array.append_assoc]⟩
  · obtain ⟨m,hn,hl⟩:=I.loc
    refine ⟨m,ns m hn,fun i x v e1 e2 e3 => ?_⟩
    obtain ⟨u,r,l⟩:=hl i x v e1 e2 e3
    refine ⟨u,r,?_⟩
    rcases l with l | ⟨k,c,e,z⟩
    · exact .inl l
    · exact .inr ⟨k,c,e,cellK x c e _ z⟩
  · obtain ⟨v,z⟩:=I.cell x c e
    exact ⟨v,cellK x c e v z⟩
  · obtain ⟨m,⟨o,_,_,ho,_⟩,_⟩:=I.loc
    exact free _ o (fun z => (hch _ z).2.1 rfl) ho I.free
  · obtain ⟨v,o,ho,hd⟩:=I.cell x c e
    exact free c o (fun z => (hch c z).2.2.1 x c e rfl) ho (I.freeC x c e)
  · obtain ⟨e,n,ne,nf,d⟩:=I.pin p hp
    have nch : p.1 ∉ ch:=fun z => (hch p.1 z).2.2.2 p hp rfl
    exact ⟨keep p.1 p.2 ne nf nch e n,free p.1 p.2 nch e n,ne,nf,d⟩
theorem Inv.un {t' : Nat} (I : Inv X pins σ H s) (u : Un X.fs [] H H' s.heap h') (hok : HOk X.prog X.w H' h') : Inv X pins σ H' { s with heap:=h',toks:=t' } := by
  obtain ⟨m,⟨o,es,ep,ho,r⟩,_⟩:=id I.loc
  obtain ⟨sl,hL⟩:=u.any ho I.free (by simp)
  exact I.step (g':=s.gens) (d':=s.drawn) (ch:=[]) (fun _ z => nomatch z) (fun b o _ hb _ e n => u.keep b o e n hb (by simp)) (fun b o _ hb _ e n => u.slot b o e n hb (by simp)) (fun b o _ e n => u.free b o e n (by simp)) (fun b o _ e => u.there b o e (by simp)) u.tups u.frzs u.tbls (fun m' hm => by
    obtain ⟨o',es',ep',ho',r'⟩:=hm
    rw [ho] at ho'; cases ho'
    exact ⟨_,es',ep',hL,r'⟩) hok I.bare
theorem Inv.call {g' : Array GenState} {t' : Nat} {d' : Drawn} {ch : List Addr} (I : Inv X pins σ H s) (u : Un (frs X.stack) ch H H' s.heap h') (hok : HOk X.prog X.w H' h') (hg : AllBare g')
    (hch : ∀ b∈ch,(b∈X.ex∨X.s₀.heap.objs.size≤b)∧b≠X.env.locals∧(∀ x c,X.env.cells.lookup x = some c→c≠b)∧∀ p∈X.pn ++ pins,p.1≠b) :
    Inv X pins σ H' { s with heap:=h',gens:=g',drawn:=d',toks:=t' } := by
  obtain ⟨m,⟨o,es,ep,ho,r⟩,_⟩:=id I.loc
  obtain ⟨sl,hL⟩:=u.any ho I.free fun z => (hch _ z).2.1 rfl
  exact I.step (ch:=ch) hch (fun b o hL hb hc e n => u.keep b o e n (fun z => (List.mem_cons.mp (I.stkSub b z)).elim hL hb) hc) (fun b o _ _ hc e n => u.any e n hc) (fun b o hc e n => u.free b o e n hc) (fun b o hc e => u.there b o e hc) u.tups u.frzs u.tbls (fun m' hm => by
    obtain ⟨o',es',ep',ho',r'⟩:=hm
    rw [ho] at ho'; cases ho'
    exact ⟨_,es',ep',hL,r'⟩) hok hg
theorem Inv.turned {t' : Nat} {it : Addr} (I : Inv X pins σ H s) (k : ∀ b o,b≠it→s.heap.get? b = some o→h'.get? b = some o) (hn : H it = none) (hL : it≠X.env.locals)
    (h1 : it∈X.ex∨X.s₀.heap.objs.size≤it) (h2 : ∀ x c,X.env.cells.lookup x = some c→c≠it) (h3 : ∀ p∈X.pn ++ pins,p.1≠it) : Inv X pins σ H { s with heap:=h',toks:=t' } := by
  have nit : ∀ b u,H b = some u→b≠it:=fun b u e z => by rw [z,hn] at e; cases e
  refine I.step (g':=s.gens) (d':=s.drawn) (ch:=[it]) (fun b hb => ?_) (fun b o _ _ hc e _ => k b o (fun z => hc (by simp [z])) e) (fun b o _ _ hc e _ => ⟨o.slots,k b o (fun z => hc (by simp [z])) e⟩) (fun _ _ _ _ n => n)
    (fun b o hc e => ⟨o,k b o (fun z => hc (by simp [z])) e⟩) (fun _ _ e => e) (fun _ _ _ e => e) (fun b ps e => ⟨#[],by rw [e]; simp⟩) (fun m hm => ?_) (fun b u e => ?_) I.bare
  · have e : b = it := by simpa using hb
    subst e
    exact ⟨h1,hL,h2,h3⟩
  · obtain ⟨o,es,ep,ho,r⟩:=hm
    exact ⟨o,es,ep,k _ o (Ne.symm hL) ho,r⟩
  · refine (I.hok b u e).stay (fun c v hc q => k c v ?_ q) (fun _ q => q) fun _ _ q => q
    rcases hc with z | z
    · rw [z]; exact nit b u e
    · exact nit c _ z
theorem Inv.tok (I : Inv X pins σ H s) (t : Nat) : Inv X pins σ H { s with toks:=t }:=I.un (h':=s.heap) (t':=t) Un.refl I.hok
theorem Inv.kept {t' : Nat} (I : Inv X pins σ H s) (k : ∀ b u,s.heap.get? b = some u→h'.get? b = some u) : Inv X pins σ H { s with heap:=h',toks:=t' }:=I.un (Un.kept k) (I.hok.kept k)
theorem Inv.laid {a : Addr} {o : HO} {t' : Nat} (I : Inv X pins σ H s) (k : ∀ b u,s.heap.get? b = some u→h'.get? b = some u) (hp : s.heap.objs.size≤a) (new : ObjOk X.prog X.w (upd H a o) h' a o) :
    Inv X pins σ (upd H a o) { s with heap:=h',toks:=t' }:=I.un (Un.laid k hp (I.hok.fresh hp)) (I.hok.laid k hp new)
theorem Inv.write {x e : Addr} {o : HO} {t' : Nat} (I : Inv X pins σ H s) (mu : Mut (H x)) (he : e = x∨H e = some (.own x)) (k : ∀ b u,b≠e→s.heap.get? b = some u→h'.get? b = some u) (heo : ∃ u,h'.get? e = some u)
    (new : ObjOk X.prog X.w (upd H x o) h' x o) : Inv X pins σ (upd H x o) { s with heap:=h',toks:=t' }:=I.un (Un.write mu he k heo) (I.hok.write mu he k heo new)
theorem Inv.pins_of {pins' : List (Addr×Obj)} (I : Inv X pins σ H s) (h : ∀ p∈pins',s.heap.get? p.1 = some p.2∧H p.1 = none∧p.1≠X.env.locals∧p.1 ∉ X.fs∧∀ v,p.2.data≠.cell v) : Inv X pins' σ H s :=
  ⟨I.ok,I.os,I.bare,I.base,I.loc,I.cell,I.free,I.freeC,fun p hp => (List.mem_append.mp hp).elim (fun z => I.pin p (List.mem_append_left _ z)) (h p),I.hok,I.len⟩
theorem nodup_ix {N : List Str} (hN : N.Nodup) {i j : Nat} {x : Str} (a : N[i]? = some x) (b : N[j]? = some x) : i = j := by
  obtain ⟨h1,e1⟩:=List.getElem?_eq_some_iff.mp a
  obtain ⟨h2,e2⟩:=List.getElem?_eq_some_iff.mp b
  exact (List.getElem_inj hN).mp (e1.trans e2.symm)
theorem store_ok2 {M : Model} {A : Around} {E : Value→Shared→Prop} {i : Nat} {x : Str} {v : V} {u : Value} {Q : Unit→Shared→Prop} (I : Inv X pins σ H s) (hN : X.N.Nodup) (hi : X.N[i]? = some x) (hx : Loc X.env.scope x) (r : RelV v u)
    (h : ∀ s',Inv X pins (σ.set i (some v)) H s'→(∃ a,Heap.SameBut a s.heap s'.heap∧(a = X.env.locals∨X.env.cells.lookup x = some a))→Q () s') (hf : X.fn x = true∨X.env.scope.names.lookup x = some .local := by first | exact .inl rfl | exact .inr rfl | assumption) : wpAny M A (storeName X.env x u) Q E s := by
  obtain ⟨m,hn,hl⟩:=id I.loc
  have hcls : (X.env.scope.kind == .class || (X.env.scope.kind == .module && X.env.locals != X.env.globals)) = false := by rw [I.ok.kind]; rfl
  have hiσ : i < σ.length := by rw [I.len]; exact (List.getElem?_eq_some_iff.mp hi).1
  have cne:=I.cne
  have tracked : ∀ {a : Addr} {h' : Heap},(∃ o,s.heap.get? a = some o∧H a = none)→Heap.SameBut a s.heap h'→HOk X.prog X.w H h':=fun {a h'} ha hs b ob e => by
    obtain ⟨_,_,hfree⟩:=ha
    refine (I.hok b ob e).stay (fun c w' hc q => (hs.2 c ?_).trans q) (fun _ q => q) fun _ _ q => q
    rintro rfl
    rcases hc with rfl | hc
    · rw [hfree] at e; cases e
    · rw [hfree] at hc; cases hc
  rcases hx with hk | hk
  · refine wpAny_storeName_local hk hn (fun h' hn' hs => ?_) hcls
    obtain ⟨oL,_,_,hoL,_⟩:=id hn
    refine h _ ⟨I.ok,I.os,I.bare,⟨fun b o e n hb hx => ?_,fun b o e n hb hx => ?_,I.base.free,fun b o e hx => ?_,I.base.tups,I.base.frzs,I.base.tbls⟩,⟨_,hn',fun j y v' e1 e2 e3 => ?_⟩,fun y c e => ?_,I.free,I.freeC,fun p hp => ?_,tracked ⟨oL,hoL,I.free⟩ hs,by simpa using I.len⟩ ⟨_,hs,.inl rfl⟩
    · exact (hs.2 b (Nat.ne_of_lt (Nat.lt_of_lt_of_le (Heap.lt_size e) I.ok.above))).trans (I.base.keep b o e n hb hx)
    · obtain ⟨sl,e1⟩:=I.base.slot b o e n hb hx
      exact ⟨sl,(hs.2 b (Nat.ne_of_lt (Nat.lt_of_lt_of_le (Heap.lt_size e) I.ok.above))).trans e1⟩
    · obtain ⟨o',e1⟩:=I.base.there b o e hx
      exact ⟨o',(hs.2 b (Nat.ne_of_lt (Nat.lt_of_lt_of_le (Heap.lt_size e) I.ok.above))).trans e1⟩
    · by_cases hj : j = i
      · subst hj
        rw [hi] at e1; cases e1
        rw [List.getElem?_set_self hiσ] at e2
        cases e2
        exact ⟨u,r,.inl ⟨hk,by simp⟩⟩
      · rw [List.getElem?_set_ne (Ne.symm hj)] at e2
        obtain ⟨u',r',q⟩:=hl j y v' e1 e2 e3
        refine ⟨u',r',?_⟩
        rcases q with ⟨k,e⟩ | ⟨k,c,e,z⟩
        · refine .inl ⟨k,?_⟩
          have : y≠x:=fun e => hj (nodup_ix hN e1 (e ▸ hi))
          simp [this,e]
        · exact .inr ⟨k,c,e,z.sameBut hs (cne y c e)⟩
    · obtain ⟨w',z⟩:=I.cell y c e
      exact ⟨w',z.sameBut hs (cne y c e)⟩
    · obtain ⟨e,n,ne,nf,d⟩:=I.pin p hp
      exact ⟨(hs.2 p.1 ne).trans e,n,ne,nf,d⟩
  · have hfn : X.fn x = true := by
      rcases hf with z | z
      · exact z
      · rw [z] at hk; cases hk
    obtain ⟨c,hc⟩:=I.ok.has x (.inl hk)
    obtain ⟨w',z⟩:=I.cell x c hc
    refine wpAny_storeName_cell I.ok.kind hk hc z (fun h' hc' hs => ?_)
    obtain ⟨oc,hoc,hocd⟩:=id z
    refine h { s with heap:=h' } ⟨I.ok,I.os,I.bare,⟨fun b o e n hb hx => ?_,fun b o e n hb hx => ?_,I.base.free,fun b o e hx => ?_,I.base.tups,I.base.frzs,I.base.tbls⟩,⟨m,hn.sameBut hs (Ne.symm (cne x c hc)),fun j y v' e1 e2 e3 => ?_⟩,fun y c' e => ?_,I.free,I.freeC,fun p hp => ?_,tracked ⟨oc,hoc,I.freeC x c hc⟩ hs,by simpa using I.len⟩ ⟨c,hs,.inr hc⟩
    · exact (hs.2 b (Nat.ne_of_lt (Nat.lt_of_lt_of_le (Heap.lt_size e) (I.ok.cab x c hfn hc)))).trans (I.base.keep b o e n hb hx)
    · obtain ⟨sl,e1⟩:=I.base.slot b o e n hb hx
      exact ⟨sl,(hs.2 b (Nat.ne_of_lt (Nat.lt_of_lt_of_le (Heap.lt_size e) (I.ok.cab x c hfn hc)))).trans e1⟩
    · obtain ⟨o',e1⟩:=I.base.there b o e hx
      exact ⟨o',(hs.2 b (Nat.ne_of_lt (Nat.lt_of_lt_of_le (Heap.lt_size e) (I.ok.cab x c hfn hc)))).trans e1⟩
    · by_cases hj : j = i
      · subst hj
        rw [hi] at e1; cases e1
        rw [List.getElem?_set_self hiσ] at e2
        cases e2
        exact ⟨u,r,.inr ⟨.inl hk,c,hc,hc'⟩⟩
      · rw [List.getElem?_set_ne (Ne.symm hj)] at e2
        obtain ⟨u',r',q⟩:=hl j y v' e1 e2 e3
        refine ⟨u',r',?_⟩
        rcases q with q | ⟨k,c',e,z'⟩
        · exact .inl q
        · refine .inr ⟨k,c',e,z'.sameBut hs ?_⟩
          rintro rfl
          exact hj (nodup_ix hN e1 (I.ok.inj _ _ _ e hc ▸ hi))
    · by_cases hcc : c' = c
      · subst hcc; exact ⟨_,hc'⟩
      · obtain ⟨w2,z2⟩:=I.cell y c' e
        exact ⟨w2,z2.sameBut hs hcc⟩
    · obtain ⟨e,n,ne,nf,d⟩:=I.pin p hp
      refine ⟨(hs.2 p.1 ?_).trans e,n,ne,nf,d⟩
      intro q
      rw [q,hoc] at e
      have q' : oc = p.2:=Option.some.inj e
      exact d w' (by rw [← q']; exact hocd)
theorem store_ok {M : Model} {A : Around} {E : Value→Shared→Prop} {i : Nat} {x : Str} {v : V} {u : Value} {Q : Unit→Shared→Prop} (I : Inv X pins σ H s) (hN : X.N.Nodup) (hi : X.N[i]? = some x) (hx : Loc X.env.scope x) (r : RelV v u)
    (h : ∀ s',Inv X pins (σ.set i (some v)) H s'→Q () s') (hf : X.fn x = true∨X.env.scope.names.lookup x = some .local := by first | exact .inl rfl | exact .inr rfl | assumption) : wpAny M A (storeName X.env x u) Q E s :=
  store_ok2 I hN hi hx r (fun s' I' _ => h s' I') hf
theorem Inv.call' {s' : Shared} {ch : List Addr} (I : Inv X pins σ H s) (ho : s'.os = s.os) (u : Un (frs X.stack) ch H H' s.heap s'.heap) (hok : HOk X.prog X.w H' s'.heap) (hg : AllBare s'.gens)
    (hch : ∀ b∈ch,(b∈X.ex∨X.s₀.heap.objs.size≤b)∧b≠X.env.locals∧(∀ x c,X.env.cells.lookup x = some c→c≠b)∧∀ p∈X.pn ++ pins,p.1≠b) : Inv X pins σ H' s' := by
  obtain ⟨h',g',d',t',o'⟩:=s'
  have e : o' = s.os:=ho
  subst e
  exact I.call (g':=g') (t':=t') (d':=d') u hok hg hch
end
abbrev XK:=Value→Option Addr→Hp→Prop
abbrev St:=List (Option V)
abbrev VK:=V→Hp→Prop
abbrev TE:=St→Hp→VK→Prop
abbrev TT:=St→Hp→(Bool→Hp→Prop)→Prop
abbrev TA:=St→Hp→(List V→Hp→Prop)→Prop
structure Ends where
  nx : St→Hp→Prop
  rt : VK
  bk : St→Hp→Prop:=fun _ _ => False
  ct : St→Hp→Prop:=fun _ _ => False
abbrev TS:=Ends→St→Hp→Prop
def EP (X : Cx) (pins : List (Addr×Obj)) (σ : St) (Q : VK) (u : Value) (s' : Shared) : Prop:=∃ v H',Inv X pins σ H' s'∧RelV v u∧Q v H'
def TP (X : Cx) (pins : List (Addr×Obj)) (σ : St) (Q : Bool→Hp→Prop) (b : Bool) (s' : Shared) : Prop:=∃ H',Inv X pins σ H' s'∧Q b H'
def AP (X : Cx) (pins : List (Addr×Obj)) (σ : St) (Q : List V→Hp→Prop) (us : List Value) (s' : Shared) : Prop:=∃ vs H',Inv X pins σ H' s'∧Vals vs us∧Q vs H'
def SP (X : Cx) (pins : List (Addr×Obj)) (D : Ends) (f : Flow) (s' : Shared) : Prop :=
  match f with
  | .next => ∃ σ' H',Inv X pins σ' H' s'∧D.nx σ' H'
  | .brk => ∃ σ' H',Inv X pins σ' H' s'∧D.bk σ' H'
  | .cont => ∃ σ' H',Inv X pins σ' H' s'∧D.ct σ' H'
  | .ret u => ∃ v σ' H',Inv X pins σ' H' s'∧RelV v u∧D.rt v H'
def PE (X : Cx) (e : Expr) (t : TE) : Prop :=
  ∀ (pins : List (Addr×Obj)) (s : Shared) (σ : St) (H : Hp) (Q : VK),Inv X pins σ H s→t σ H Q→wpAny (model X.prog X.w) X.A (eval e X.env) (EP X pins σ Q) X.xe s
def PT (X : Cx) (e : Expr) (t : TT) : Prop :=
  ∀ (pins : List (Addr×Obj)) (s : Shared) (σ : St) (H : Hp) (Q : Bool→Hp→Prop),Inv X pins σ H s→t σ H Q→wpAny (model X.prog X.w) X.A (isTrue e X.env (eval e X.env)) (TP X pins σ Q) X.xe s
def PW (X : Cx) (e : Expr) (t : TT) : Prop :=
  ∀ (whole : Sem Value) (pins : List (Addr×Obj)) (s : Shared) (σ : St) (H : Hp) (Q : Bool→Hp→Prop),Inv X pins σ H s→t σ H Q→wpAny (model X.prog X.w) X.A (isTrue e X.env whole) (TP X pins σ Q) X.xe s
theorem PW.pt {X : Cx} {e : Expr} {t : TT} (h : PW X e t) : PT X e t:=h _
def PA (X : Cx) (es : List Expr) (t : TA) : Prop :=
  ∀ (pos : Pos) (pins : List (Addr×Obj)) (s : Shared) (σ : St) (H : Hp) (Q : List V→Hp→Prop),Inv X pins σ H s→t σ H Q→wpAny (model X.prog X.w) X.A (spliced (backTo pos (starEach es X.env))) (AP X pins σ Q) X.xe s
def PS (X : Cx) (st : Stmt) (t : TS) : Prop :=
  ∀ (pins : List (Addr×Obj)) (s : Shared) (σ : St) (H : Hp) (D : Ends),Inv X pins σ H s→t D σ H→wpAny (model X.prog X.w) X.A (exec st X.env) (SP X pins D) X.xe s
def PSs (X : Cx) (st : List Stmt) (t : TS) : Prop :=
  ∀ (pins : List (Addr×Obj)) (s : Shared) (σ : St) (H : Hp) (D : Ends),Inv X pins σ H s→t D σ H→wpAny (model X.prog X.w) X.A (execs st X.env) (SP X pins D) X.xe s
theorem thn {α : Type} {t : Sem α} {Q Q' : α→Shared→Prop} {M : Model} {A : Around} {E : Value→Shared→Prop} {s : Shared} (h : wpAny M A t Q E s) (hQ : ∀ a s,Q a s→Q' a s) : wpAny M A t Q' E s:=wpAny_mono h hQ fun _ _ x => x
section
variable {X : Cx}
def tVar (i : Nat) : TE:=fun σ H Q => ∃ v,σ[i]? = some (some v)∧Q v H
def tC (v : V) : TE:=fun _ H Q => Q v H
theorem pe_var {i : Nat} {x : Str} {pos : Pos} (hN : X.N[i]? = some x) (hv : Vis X.env.scope x) (hd : (x == ("__debug__" : Str)) = false := by decide) (hcd : (x == ("__classdict__" : Str)) = false := by decide) : PE X (.Name x pos) (tVar i) := by
  intro pins s σ H Q I h
  obtain ⟨v,e,h⟩:=h
  obtain ⟨m,hn,hl⟩:=I.loc
  obtain ⟨u,r,l⟩:=hl i x v hN e hv
  have fin : EP X pins σ Q u s:=⟨v,H,I,r,h⟩
  rcases l with ⟨hk,hm⟩ | ⟨hk,c,hc,hcell⟩
  · exact wpAny_Name (wpAny_loadName_local I.ok.kind hk hn hm fin) hd
  · rcases hk with hk | hk
    · exact wpAny_Name (wpAny_loadName_cell I.ok.kind hk hc hcell fin) hd
    · exact wpAny_Name (wpAny_loadName_free I.ok.kind hk hc hcell fin hcd) hd
theorem pe_int {i j pos} : PE X (.Constant (.int i) j pos) (tC (.int i)):=fun _ _ _ H _ I h => wpAny_Constant_int ⟨.int i,H,I.tok _,⟨_,rfl⟩,h⟩
theorem pe_bl {b j pos} : PE X (.Constant (.bool b) j pos) (tC (.bl b)):=fun _ _ _ H _ I h => Constant_bool ⟨.bl b,H,I,rfl,h⟩
theorem pe_str {x j pos} : PE X (.Constant (.str x) j pos) (tC (.str x)):=fun _ _ _ H _ I h => Calls.Constant_str ⟨.str x,H,I.tok _,⟨_,rfl⟩,h⟩
def Gl (X : Cx) (x : Str) : Prop:=X.env.kindOf x = some .globalImplicit
theorem ld_glob {E : Value→Shared→Prop} {pins : List (Addr×Obj)} {s : Shared} {σ : St} {H : Hp} {x : Str} {u : Value} {pos : Pos} {Q : Value→Shared→Prop} (I : Inv X pins σ H s) (hg : Gl X x) (hm : X.mg x = some u) (h : Q u s)
    (hd : (x == ("__debug__" : Str)) = false := by decide) : wpAny (model X.prog X.w) X.A (eval (.Name x pos) X.env) Q E s :=
  Calls.Name_function_global I.ok.kind hg (Calls.loadGlobal_global (by rw [I.ok.glob]; exact I.mod.glob.keeps I.bk) hm h) hd
theorem ld_blt {E : Value→Shared→Prop} {pins : List (Addr×Obj)} {s : Shared} {σ : St} {H : Hp} {x : Str} {u : Value} {pos : Pos} {Q : Value→Shared→Prop} (I : Inv X pins σ H s) (hg : Gl X x) (hm : X.mg x = none) (hv : bootBuiltins x = some u) (h : Q u s)
    (hn : x ≠ "__name__" := by decide) (hd : (x == ("__debug__" : Str)) = false := by decide) : wpAny (model X.prog X.w) X.A (eval (.Name x pos) X.env) Q E s := by
  obtain ⟨mb,h1,h2⟩:=I.mod.blt
  exact Calls.Name_function_global I.ok.kind hg (Calls.loadGlobal_builtin (by rw [I.ok.glob]; exact I.mod.glob.keeps I.bk) hm (by rw [I.ok.blt]; exact h1.keeps I.bk) ((h2 x hn).trans hv) h) hd
theorem pe_bltn {x : Str} {v : V} {u : Value} {pos : Pos} (hg : Gl X x) (hm : X.mg x = none) (hv : bootBuiltins x = some u) (r : RelV v u) (hn : x ≠ "__name__" := by decide) (hd : (x == ("__debug__" : Str)) = false := by decide) : PE X (.Name x pos) (tC v) :=
  fun _ _ _ H _ I h => ld_blt I hg hm hv ⟨v,H,I,r,h⟩ hn hd
variable {a b : Expr} {ta tb : TE} {pos : Pos}
def tB (t : TE) : TT:=fun σ H Q => t σ H fun x H1 => ∃ c,x = .bl c∧Q c H1
theorem pt_val {e : Expr} {t : TE} (h : PE X e t) (he : ∀ whole,isTrue e X.env whole = (do let v ← whole; standAt e.pos; holding [v] (truthy v)) := by intro _; rfl) : PT X e (tB t) := by
  intro pins s σ H Q I hw
  refine isTrue_plain (thn (h pins s σ H _ I hw) fun v s1 ⟨x,H1,I1,r1,q1⟩ => ?_) (he _)
  obtain ⟨d,rfl,q⟩:=q1
  cases r1
  exact wpAny_truthy_bool ⟨H1,I1,q⟩
variable {tA tB' : TT} {rest : List Expr}
def tAnd (t u : TT) : TT:=fun σ H Q => t σ H fun c H1 => if c = true then u σ H1 Q else Q false H1
def tOr (t u : TT) : TT:=fun σ H Q => t σ H fun c H1 => if c = true then Q true H1 else u σ H1 Q
def tNot (t : TT) : TT:=fun σ H Q => t σ H fun c H1 => Q (!c) H1
theorem pw_and1 (ha : PT X a tA) : PW X (.BoolOp .And [a] pos) tA := by
  intro wh pins s σ H Q I h
  refine isTrue_and (thn (ha pins s σ H Q I h) fun c s1 e => ?_)
  cases c with
  | true => exact isTrue_and_nil e
  | false => exact e
theorem pw_or1 (ha : PT X a tA) : PW X (.BoolOp .Or [a] pos) tA := by
  intro wh pins s σ H Q I h
  refine isTrue_or (thn (ha pins s σ H Q I h) fun c s1 e => ?_)
  cases c with
  | false => exact isTrue_or_nil e
  | true => exact e
theorem pw_and (ha : PT X a tA) (hb : PW X (.BoolOp .And (b :: rest) pos) tB') : PW X (.BoolOp .And (a :: b :: rest) pos) (tAnd tA tB') := by
  intro wh pins s σ H Q I h
  refine isTrue_and (thn (ha pins s σ H _ I h) fun c s1 ⟨H1,I1,q1⟩ => ?_)
  cases c with
  | true => exact hb wh pins s1 σ H1 Q I1 q1
  | false => exact ⟨H1,I1,q1⟩
theorem pw_or (ha : PT X a tA) (hb : PW X (.BoolOp .Or (b :: rest) pos) tB') : PW X (.BoolOp .Or (a :: b :: rest) pos) (tOr tA tB') := by
  intro wh pins s σ H Q I h
  refine isTrue_or (thn (ha pins s σ H _ I h) fun c s1 ⟨H1,I1,q1⟩ => ?_)
  cases c with
  | true => exact ⟨H1,I1,q1⟩
  | false => exact hb wh pins s1 σ H1 Q I1 q1
theorem pt_not (ha : PT X a tA) : PT X (.UnaryOp .Not a pos) (tNot tA) := by
  intro pins s σ H Q I h
  exact isTrue_not (ha pins s σ H (fun c H1 => Q (!c) H1) I h)
def tIf (t : TT) (ta tb : TE) : TE:=fun σ H Q => t σ H fun c H1 => if c = true then ta σ H1 Q else tb σ H1 Q
theorem pe_ifExp {c : Expr} (hc : PT X c tA) (ha : PE X a ta) (hb : PE X b tb) : PE X (.IfExp c a b pos) (tIf tA ta tb) := by
  intro pins s σ H Q I h
  refine wpAny_IfExp (thn (hc pins s σ H _ I h) fun d s1 ⟨H1,I1,q1⟩ => ?_)
  cases d with
  | true => exact ha pins s1 σ H1 Q I1 q1
  | false => exact hb pins s1 σ H1 Q I1 q1
end
def SqL (K : PySem.W.Frag) (H : Hp) (a : Addr) (xs : List V) : Prop :=
  Rd H a (.lst xs) ∨
    ∃ (o : Obj) (its : Array Value) (n : Nat),K.lookup a = some o∧o.cls = .type "list" ∧ o.dict = none∧o.data = .seq its n∧its.size≤sizeLine∧Vals xs its.toList
def SqT (K : PySem.W.Frag) (H : Hp) (a : Addr) (xs : List V) : Prop :=
  Rd H a (.tup xs) ∨
    ∃ (o : Obj) (its : Array Value) (n : Nat),K.lookup a = some o∧o.cls = .type "tuple" ∧ o.data = .seq its n∧its.size≤sizeLine∧Vals xs its.toList
def absV : Value→Option V
  | .none => some .non
  | .bool b => some (.bl b)
  | .int i _ => some (.int i)
  | .str x _ => some (.str x)
  | .bytes b _ => some (.byt b)
  | .float b _ => some (.flt b)
  | .ref a => some (.ref a)
  | .type n => some (.ty n)
  | _ => none
theorem RelV.abs {x : V} {u : Value} (r : RelV x u) : absV u = some x := by
  cases x with
  | non => cases r; rfl
  | bl _ => cases r; rfl
  | int _ => obtain ⟨t,rfl⟩:=r; rfl
  | str _ => obtain ⟨t,rfl⟩:=r; rfl
  | byt _ => obtain ⟨t,rfl⟩:=r; rfl
  | flt _ => obtain ⟨t,rfl⟩:=r; rfl
  | ref _ => cases r; rfl
  | ty _ => cases r; rfl
theorem RelV.inj {x y : V} {u : Value} (r : RelV x u) (q : RelV y u) : x = y:=Option.some.inj (r.abs.symm.trans q.abs)
theorem Vals.inj : ∀ {xs ys : List V} {us : List Value},Vals xs us→Vals ys us→xs = ys
  | _,_,_,.nil,.nil => rfl
  | _,_,_,.cons r t,.cons r' t' => by rw [r.inj r',Vals.inj t t']
section
variable {X : Cx} {pins : List (Addr×Obj)} {σ : St} {H : Hp} {s : Shared} {a : Addr} {xs ys : List V}
theorem SqL.of {K : PySem.W.Frag} (h : H a = some (.lst xs)) : SqL K H a xs:=.inl (.inl h)
theorem SqT.of {K : PySem.W.Frag} (h : H a = some (.tup xs)) : SqT K H a xs:=.inl (.inl h)
theorem Inv.list (I : Inv X pins σ H s) (h : SqL X.K H a xs) : ∃ its : List Value,Vals xs its∧PlainL s.heap a its.toArray∧xs.length≤sizeLine := by
  rcases h with h | ⟨o,its,n,hk,hc,hd,hs,hz,r⟩
  · obtain ⟨z,its,n,r,e⟩:=h.ok I.hok
    exact ⟨its,r,⟨_,n,e,rfl,rfl,rfl⟩,z⟩
  · refine ⟨its.toList,r,⟨o,n,I.kIn a o hk,hc,hd,by simpa using hs⟩,?_⟩
    have e:=r.length
    simp only [Array.length_toList] at e
    omega
theorem Inv.tuple (I : Inv X pins σ H s) (h : SqT X.K H a xs) : ∃ its : List Value,Vals xs its∧IsTup s.heap a its.toArray∧xs.length≤sizeLine := by
  rcases h with h | ⟨o,its,n,hk,hc,hs,hz,r⟩
  · obtain ⟨z,its,r,p⟩:=h.ok I.hok
    exact ⟨its,r,p,z⟩
  · refine ⟨its.toList,r,⟨o,I.kIn a o hk,hc,n,by simpa using hs⟩,?_⟩
    have e:=r.length
    simp only [Array.length_toList] at e
    omega
theorem Inv.list_inj (I : Inv X pins σ H s) (h : SqL X.K H a xs) (h' : SqL X.K H a ys) : xs = ys := by
  obtain ⟨its,r,⟨o,n,e,_,_,d⟩,_⟩:=I.list h
  obtain ⟨its',r',⟨o',n',e',_,_,d'⟩,_⟩:=I.list h'
  rw [e] at e'; cases e'
  rw [d] at d'
  injection d' with d1 _
  have : its = its' := by simpa using congrArg Array.toList d1
  subst this
  exact r.inj r'
theorem Inv.tuple_inj (I : Inv X pins σ H s) (h : SqT X.K H a xs) (h' : SqT X.K H a ys) : xs = ys := by
  obtain ⟨its,r,⟨o,e,_,n,d⟩,_⟩:=I.tuple h
  obtain ⟨its',r',⟨o',e',_,n',d'⟩,_⟩:=I.tuple h'
  rw [e] at e'; cases e'
  rw [d] at d'
  injection d' with d1 _
  have : its = its' := by simpa using congrArg Array.toList d1
  subst this
  exact r.inj r'
end
abbrev Cx.wish (X : Cx) (E : Value→Shared→Prop) : Cx:={ X with xe:=E }
abbrev Cx.nox (X : Cx) : Cx:=X.wish fun _ _ => False
theorem Cx.Ok.wish {X : Cx} (ok : X.Ok) (E : Value→Shared→Prop) : (X.wish E).Ok :=
  ⟨ok.mod,ok.kind,ok.glob,ok.blt,ok.above,ok.inj,ok.has,ok.cab,ok.hd,ok.frames,ok.stk,ok.exf,ok.bs,ok.bsz,ok.noex,ok.exfs,ok.funs,ok.frf⟩
theorem Cx.Ok.unwish {X : Cx} {E : Value→Shared→Prop} (ok : (X.wish E).Ok) : X.Ok :=
  ⟨ok.mod,ok.kind,ok.glob,ok.blt,ok.above,ok.inj,ok.has,ok.cab,ok.hd,ok.frames,ok.stk,ok.exf,ok.bs,ok.bsz,ok.noex,ok.exfs,ok.funs,ok.frf⟩
section
variable {X : Cx} {pins : List (Addr×Obj)} {σ : St} {H : Hp} {s : Shared} {E : Value→Shared→Prop}
theorem Inv.wish (I : Inv X pins σ H s) (E : Value→Shared→Prop) : Inv (X.wish E) pins σ H s:=⟨I.ok.wish E,I.os,I.bare,I.base,I.loc,I.cell,I.free,I.freeC,I.pin,I.hok,I.len⟩
theorem Inv.unwish (I : Inv (X.wish E) pins σ H s) : Inv X pins σ H s:=⟨I.ok.unwish,I.os,I.bare,I.base,I.loc,I.cell,I.free,I.freeC,I.pin,I.hok,I.len⟩
theorem SP.unwish {D : Ends} {f : Flow} {s' : Shared} (h : SP (X.wish E) pins D f s') : SP X pins D f s' := by
  cases f with
  | next => obtain ⟨σ',H',I,q⟩:=h; exact ⟨σ',H',I.unwish,q⟩
  | brk => obtain ⟨σ',H',I,q⟩:=h; exact ⟨σ',H',I.unwish,q⟩
  | cont => obtain ⟨σ',H',I,q⟩:=h; exact ⟨σ',H',I.unwish,q⟩
  | ret u => obtain ⟨v,σ',H',I,r,q⟩:=h; exact ⟨v,σ',H',I.unwish,r,q⟩
theorem PSs.nox {st : List Stmt} {t : TS} (h : PSs X.nox st t) : PSs X st t:=fun pins s σ H D I hw =>
  wpAny_mono (h pins s σ H D (I.wish _) hw) (fun _ _ q => q.unwish) fun _ _ z => False.elim z
end
section
variable {X : Cx} {st : Stmt} {rest : List Stmt} {t u : TS} {e : Expr} {te : TE} {pos : Pos}
def tNext : TS:=fun D σ H => D.nx σ H
def tSeq (t u : TS) : TS:=fun D σ H => t { D with nx:=u D } σ H
theorem pss_nil : PSs X [] tNext:=fun _ _ σ H _ I h => wpAny_execs_nil ⟨σ,H,I,h⟩
theorem pss_cons (h1 : PS X st t) (h2 : PSs X rest u) : PSs X (st :: rest) (tSeq t u) := by
  intro pins s σ H D I h
  refine wpAny_execs_cons (thn (h1 pins s σ H { D with nx:=u D } I h) fun f s1 q => ?_)
  cases f with
  | next =>
    obtain ⟨σ',H',I',q⟩:=q
    exact h2 pins s1 σ' H' D I' q
  | ret v => exact q
  | brk => exact q
  | cont => exact q
theorem pss_one (h1 : PS X st t) : PSs X [st] t := by
  intro pins s σ H D I h
  refine wpAny_execs_cons (thn (h1 pins s σ H D I h) fun f s1 q => ?_)
  cases f with
  | next => exact wpAny_execs_nil q
  | ret v => exact q
  | brk => exact q
  | cont => exact q
def tCont : TS:=fun D σ H => D.ct σ H
theorem ps_continue : PS X (.Continue pos) tCont:=fun _ _ σ H _ I h => wpAny_Continue ⟨σ,H,I,h⟩
theorem Inv.quiet {pins : List (Addr×Obj)} {σ : St} {H : Hp} {s : Shared} (I : Inv X pins σ H s) : interactive X.env = false := by simp [interactive,I.ok.kind]
def tDrop (te : TE) : TS:=fun D σ H => te σ H fun _ H1 => D.nx σ H1
theorem ps_expr (he : PE X e te) (hs : swapsWith e none pos.line X.env = pure false := by rfl) : PS X (.Expr e pos) (tDrop te) := by
  intro pins s σ H D I h
  exact wpAny_Expr_any (thn (he pins s σ H _ I h) fun v s1 ⟨x,H1,I1,r1,q1⟩ => ⟨σ,H1,I1,q1⟩) I.quiet hs
def tRet (te : TE) : TS:=fun D σ H => te σ H D.rt
theorem ps_ret (he : PE X e te) : PS X (.Return (some e) pos) (tRet te) := by
  intro pins s σ H D I h
  exact wpAny_Return_some (thn (he pins s σ H _ I h) fun v s1 ⟨x,H1,I1,r1,q1⟩ => ⟨x,σ,H1,I1,r1,q1⟩)
def tIfS (c : TT) (t u : TS) : TS:=fun D σ H => c σ H fun b H1 => if b = true then t D σ H1 else u D σ H1
theorem ps_if {c : Expr} {a b : List Stmt} {tc : TT} (hc : PT X c tc) (ha : PSs X a t) (hb : PSs X b u) : PS X (.If c a b pos) (tIfS tc t u) := by
  intro pins s σ H D I h
  refine wpAny_If (thn (hc pins s σ H _ I h) fun d s1 ⟨H1,I1,q1⟩ => ?_)
  cases d with
  | true => exact ha pins s1 σ H1 D I1 q1
  | false => exact hb pins s1 σ H1 D I1 q1
end
abbrev TG:=V→St→Hp→(St→Hp→Prop)→Prop
abbrev TGs:=List V→St→Hp→(St→Hp→Prop)→Prop
def PG (X : Cx) (target : Expr) (t : TG) : Prop :=
  ∀ (pins : List (Addr×Obj)) (s : Shared) (σ : St) (H : Hp) (v : V) (u : Value) (Q : St→Hp→Prop),Inv X pins σ H s→RelV v u→t v σ H Q →
    wpAny (model X.prog X.w) X.A (assign target X.env u) (fun _ s' => ∃ σ' H',Inv X pins σ' H' s'∧Q σ' H') X.xe s
def PGs (X : Cx) (ts : List Expr) (t : TGs) : Prop :=
  ∀ (pins : List (Addr×Obj)) (s : Shared) (σ : St) (H : Hp) (vs : List V) (us : List Value) (Q : St→Hp→Prop),Inv X pins σ H s→Vals vs us→t vs σ H Q →
    wpAny (model X.prog X.w) X.A (assignInOrder ((assignEach ts X.env).map (·.2)) us) (fun _ s' => ∃ σ' H',Inv X pins σ' H' s'∧Q σ' H') X.xe s
section
variable {X : Cx} {pos : Pos}
def gName (i : Nat) : TG:=fun v σ H Q => Q (σ.set i (some v)) H
theorem pg_name {i : Nat} {x : Str} (hN : X.N.Nodup) (hi : X.N[i]? = some x) (hx : Loc X.env.scope x) (hf : X.fn x = true∨X.env.scope.names.lookup x = some .local := by first | exact .inl rfl | exact .inr rfl | assumption) : PG X (.Name x pos) (gName i) := by
  intro pins s σ H v u Q I r h
  exact wpAny_assign_Name (store_ok I hN hi hx r (fun s' I' => ⟨_,H,I',h⟩) hf)
def gNil : TGs:=fun vs σ H Q => vs = []∧Q σ H
def gCons (t : TG) (u : TGs) : TGs:=fun vs σ H Q => ∃ v r,vs = v :: r∧t v σ H fun σ' H' => u r σ' H' Q
theorem pgs_nil : PGs X [] gNil := by
  intro pins s σ H vs us Q I r h
  obtain ⟨e,h⟩:=h
  subst e
  cases r
  exact assignInOrder_nil ⟨σ,H,I,h⟩
theorem pgs_cons {e : Expr} {es : List Expr} {t : TG} {u : TGs} (h1 : PG X e t) (h2 : PGs X es u)
    (hs : (assignEach (e :: es) X.env).map (·.2) = assign e X.env :: (assignEach es X.env).map (·.2) := by rfl) : PGs X (e :: es) (gCons t u) := by
  intro pins s σ H vs us Q I r h
  obtain ⟨v,vr,e1,h⟩:=h
  subst e1
  cases r with
  | cons r rr =>
    rw [hs]
    refine assignInOrder_cons (thn (h1 pins s σ H _ _ _ I r h) fun _ s1 ⟨σ1,H1,I1,q1⟩ => ?_)
    exact h2 pins s1 σ1 H1 _ _ Q I1 rr q1
def gTup (K : PySem.W.Frag) (n : Nat) (t : TGs) : TG:=fun v σ H Q => ∃ a xs,v = .ref a∧SqT K H a xs∧xs.length = n∧t xs σ H Q
theorem pg_tup {es : List Expr} {k : Nat} {t : TGs} {n : Nat} (hc : X.calm = true) (h : PGs X es t)
    (hn : (assignEach es X.env).length = n := by rfl) (hst : (assignEach es X.env).findIdx? (·.1) = none := by rfl) : PG X (.Tuple es k pos) (gTup X.K n t) := by
  intro pins s σ H v u Q I r hw
  obtain ⟨a,xs,e1,hq,hl,hw⟩:=hw
  subst e1
  cases r
  obtain ⟨its,rv,ht,hz⟩:=I.tuple hq
  refine assign_Tuple_tuple (I.ok.hd hc) ht (by simp [hn,← hl,rv.length]) hst fun h' hx => ?_
  have I1 : Inv X pins σ H { s with heap:=h' }:=I.kept (t':=s.toks) fun b o e => hx b o (Nat.ne_of_lt (Heap.lt_size e)) e
  exact h pins _ σ H xs _ Q I1 (by simpa using rv) hw
def tAsg (te : TE) (g : TG) : TS:=fun D σ H => te σ H fun x H1 => g x σ H1 D.nx
theorem ps_set {i : Nat} {x : Str} {e : Expr} {te : TE} {pos' : Pos} (hN : X.N.Nodup) (hi : X.N[i]? = some x) (hx : Loc X.env.scope x) (he : PE X e te) (hs : swapsWith e (some (.Name x pos')) pos.line X.env = pure false := by rfl) (hf : X.fn x = true∨X.env.scope.names.lookup x = some .local := by first | exact .inl rfl | exact .inr rfl | assumption) :
    PS X (.Assign [.Name x pos'] e pos) (tAsg te (gName i)) := by
  intro pins s σ H D I h
  refine wpAny_Assign_Name (thn (he pins s σ H _ I h) fun v s1 ⟨y,H1,I1,r1,q1⟩ => ?_) hs
  exact store_ok I1 hN hi hx r1 (fun s2 I2 => ⟨_,H1,I2,q1⟩) hf
end
structure It where
  go : Nat→Hp→Prop
  yld : Nat→Hp→V→Hp→Prop
  stop : Nat→Hp→Prop
def FpOk (X : Cx) (pins : List (Addr×Obj)) (H : Hp) (b : Addr) : Prop :=
  H b = none∧b≠X.env.locals∧b ∉ X.fs∧(b∈X.ex∨X.s₀.heap.objs.size≤b)∧(∀ x c,X.env.cells.lookup x = some c→c≠b)∧∀ p∈X.pn ++ pins,p.1≠b
theorem Inv.fpOk {X : Cx} {pins : List (Addr×Obj)} {σ : St} {H H' : Hp} {s : Shared} {b : Addr} (I : Inv X pins σ H s) (hb : s.heap.objs.size≤b) (hn : H' b = none) : FpOk X pins H' b := by
  refine ⟨hn,Nat.ne_of_gt (Nat.lt_of_lt_of_le I.lt hb),I.nofs hb,.inr (Nat.le_trans I.sz hb),fun x c e z => ?_,fun p hp z => ?_⟩
  · obtain ⟨v,q⟩:=I.cell x c e
    exact absurd (Nat.lt_of_lt_of_le q.lt (by rw [z]; exact hb)) (Nat.lt_irrefl _)
  · exact absurd (Nat.lt_of_lt_of_le (Heap.lt_size (I.pin p hp).1) (by rw [z]; exact hb)) (Nat.lt_irrefl _)
structure Turn (P : Program) (w : World) (K : PySem.W.Frag) (tg : Expr) (J : It) (fp : List Addr) (it : Addr) (tn : Nat→Heap→Prop) : Prop where
  mem : it∈fp
  obj : ∀ i h,tn i h→∀ b∈fp,∃ o,h.get? b = some o∧∀ v,o.data≠.cell v
  keep : ∀ i h h',tn i h→(∀ b∈fp,∀ o,h.get? b = some o→h'.get? b = some o)→tn i h'
  item : ∀ (X : Cx),X.prog = P→X.w = w→X.K = K→X.calm = true→∀ (i : Nat) (pins : List (Addr×Obj)) (s : Shared) (σ : St) (H : Hp) (E : Value→Shared→Prop),Inv X pins σ H s→(∀ b∈fp,FpOk X pins H b)→tn i s.heap→J.go i H →
    wpAny (model P w) X.A (pyNext (.ref it)) (fun r s1 => ∃ u,r = some u ∧
      wpAny (model P w) X.A (letOwnedTupleGo tg (.ref it) u) (fun _ s2 => ∃ x H',Inv X pins σ H' s2∧RelV x u∧J.yld i H x H'∧tn (i + 1) s2.heap∧∀ b∈fp,H' b = none) E s1) E s
  done : ∀ (X : Cx),X.prog = P→X.w = w→X.K = K→X.calm = true→∀ (i : Nat) (pins : List (Addr×Obj)) (s : Shared) (σ : St) (H : Hp) (E : Value→Shared→Prop),Inv X pins σ H s→(∀ b∈fp,FpOk X pins H b)→tn i s.heap→J.stop i H →
    wpAny (model P w) X.A (pyNext (.ref it)) (fun r s1 => r = none∧Inv X pins σ H s1) E s
  self : ∀ (A : Around) (i : Nat) (s : Shared) (Q : Value→Shared→Prop) (E : Value→Shared→Prop),tn i s.heap→Q (.ref it) s→wpAny (model P w) A (pyIter (.ref it)) Q E s
abbrev TI:=St→Hp→(It→Hp→Prop)→Prop
def PIE (X : Cx) (pins : List (Addr×Obj)) (σ : St) (tg : Expr) (R : It→Hp→Prop) (itv : Value) (s2 : Shared) : Prop :=
  ∃ (it : Addr) (fp : List Addr) (tn : Nat→Heap→Prop) (J : It) (H' : Hp),itv = .ref it∧Inv X pins σ H' s2∧Turn X.prog X.w X.K tg J fp it tn∧tn 0 s2.heap∧(∀ b∈fp,FpOk X pins H' b)∧R J H'
def PI (X : Cx) (tg iter : Expr) (wi : TI) : Prop :=
  ∀ (pins : List (Addr×Obj)) (s : Shared) (σ : St) (H : Hp) (R : It→Hp→Prop),Inv X pins σ H s→wi σ H R →
    wpAny (model X.prog X.w) X.A (eval iter X.env) (fun v s1 => wpAny (model X.prog X.w) X.A (pyIter v) (PIE X pins σ tg R) X.xe s1) X.xe s
theorem go_of {M : Model} {A : Around} {E : Value→Shared→Prop} {s : Shared} {tg : Expr} {it : Addr} {u : Value} {o : Obj} {n : String} {vs : Array Value} {Q : Unit→Shared→Prop} (ho : s.heap.get? it = some o) (hc : o.cls = .type n) (hd : o.data = .fields vs)
    (hn : ["enumerate", "zip", "dict_itemiterator", "dict_reverseitemiterator", "odict_iterator", "itertools.zip_longest", "itertools.pairwise"].contains n = false) (hQ : Q () s) : wpAny M A (letOwnedTupleGo tg (.ref it) u) Q E s := by
  unfold letOwnedTupleGo
  cases tg <;> first
    | exact wpAny_pure hQ
    | (cases u <;> first
        | exact wpAny_pure hQ
        | (refine wpAny_bind (wpAny_load ho ?_)
           rw [hc,hd]
           show wpAny M A (if (["enumerate", "zip", "dict_itemiterator", "dict_reverseitemiterator", "odict_iterator", "itertools.zip_longest", "itertools.pairwise"].contains n && vs[0]? == some (rawInt _)) = true then _ else _) Q E s
           rw [if_neg (by intro h; rw [hn,Bool.false_and] at h; cases h)]
           exact wpAny_pure hQ))
def Itl (K : PySem.W.Frag) (a : Addr) : It :=
  ⟨fun i H => ∃ xs x,SqL K H a xs∧xs[i]? = some x,fun i H x H' => H' = H∧∀ xs,SqL K H a xs→xs[i]? = some x,fun i H => ∃ xs,SqL K H a xs∧xs.length≤i⟩
def Itt (K : PySem.W.Frag) (a : Addr) : It :=
  ⟨fun i H => ∃ xs x,SqT K H a xs∧xs[i]? = some x,fun i H x H' => H' = H∧∀ xs,SqT K H a xs→xs[i]? = some x,fun i H => ∃ xs,SqT K H a xs∧xs.length≤i⟩
def Itr (lo : Int) (n : Nat) : It:=⟨fun i _ => i < n,fun i H x H' => H' = H∧x = .int (lo + i),fun i _ => n≤i⟩
theorem turn_list {P : Program} {w : World} {K : PySem.W.Frag} {tg : Expr} (a it : Addr) : Turn P w K tg (Itl K a) [it] it (fun i h => h.IsListIter it a i) where
  mem := by simp
  obj:=fun i h st b hb => by
    have e : b = it := by simpa using hb
    subst e
    obtain ⟨o,e,c,d⟩:=st
    exact ⟨o,e,fun v z => by rw [d] at z; cases z⟩
  keep:=fun i h h' st k => st.at fun o e => k it (by simp) o e
  item := by
    intro X hP hw hK hc i pins s σ H E I hf st hg
    subst hP hw hK
    obtain ⟨xs,x,hq,hx⟩:=hg
    obtain ⟨its,rv,p,hz⟩:=I.list hq
    obtain ⟨u,hu,ru⟩:=rv.get hx
    obtain ⟨f0,f1,f2,f3,f4,f5⟩:=hf it (by simp)
    refine wpAny_pyNext_list_item st p.isList (x:=u) (by simpa using hu) fun h' st' sb => ?_
    have I1 : Inv X pins σ H { s with heap:=h' }:=I.turned (t':=s.toks) (fun b o hb e => (sb.2 b hb).trans e) f0 f1 f3 f4 f5
    obtain ⟨o,e,c,d⟩:=id st'
    exact ⟨u,rfl,go_of (s:={ s with heap:=h' }) e c d (by decide) ⟨x,H,I1,ru,⟨rfl,fun ys hy => by rw [I.list_inj hy hq]; exact hx⟩,st',fun b hb => (hf b hb).1⟩⟩
  done := by
    intro X hP hw hK hc i pins s σ H E I hf st hg
    subst hP hw hK
    obtain ⟨xs,hq,hx⟩:=hg
    obtain ⟨its,rv,p,hz⟩:=I.list hq
    obtain ⟨f0,f1,f2,f3,f4,f5⟩:=hf it (by simp)
    have hl:=rv.length
    exact wpAny_pyNext_list_end (I.ok.hd hc) st p.isList (by simp; omega) fun h' eb => ⟨rfl,I.turned (t':=s.toks) (fun b o hb e => eb b o hb e) f0 f1 f3 f4 f5⟩
  self:=fun _ _ _ _ _ st h => wpAny_pyIter_listiter st h
theorem turn_tuple {P : Program} {w : World} {K : PySem.W.Frag} {tg : Expr} (a it : Addr) : Turn P w K tg (Itt K a) [it] it (fun i h => h.IsTupleIter it a i) where
  mem := by simp
  obj:=fun i h st b hb => by
    have e : b = it := by simpa using hb
    subst e
    obtain ⟨o,e,c,d⟩:=st
    exact ⟨o,e,fun v z => by rw [d] at z; cases z⟩
  keep:=fun i h h' st k => st.at fun o e => k it (by simp) o e
  item := by
    intro X hP hw hK hc i pins s σ H E I hf st hg
    subst hP hw hK
    obtain ⟨xs,x,hq,hx⟩:=hg
    obtain ⟨its,rv,p,hz⟩:=I.tuple hq
    obtain ⟨u,hu,ru⟩:=rv.get hx
    obtain ⟨f0,f1,f2,f3,f4,f5⟩:=hf it (by simp)
    refine wpAny_pyNext_tuple_item st (show s.heap.IsTuple a its.toArray from p) (x:=u) (by simpa using hu) fun h' st' sb => ?_
    have I1 : Inv X pins σ H { s with heap:=h' }:=I.turned (t':=s.toks) (fun b o hb e => (sb.2 b hb).trans e) f0 f1 f3 f4 f5
    obtain ⟨o,e,c,d⟩:=id st'
    exact ⟨u,rfl,go_of (s:={ s with heap:=h' }) e c d (by decide) ⟨x,H,I1,ru,⟨rfl,fun ys hy => by rw [I.tuple_inj hy hq]; exact hx⟩,st',fun b hb => (hf b hb).1⟩⟩
  done := by
    intro X hP hw hK hc i pins s σ H E I hf st hg
    subst hP hw hK
    obtain ⟨xs,hq,hx⟩:=hg
    obtain ⟨its,rv,p,hz⟩:=I.tuple hq
    obtain ⟨f0,f1,f2,f3,f4,f5⟩:=hf it (by simp)
    have hl:=rv.length
    exact wpAny_pyNext_tuple_end (I.ok.hd hc) st (show s.heap.IsTuple a its.toArray from p) (by simp; omega) fun h' eb => ⟨rfl,I.turned (t':=s.toks) (fun b o hb e => eb b o hb e) f0 f1 f3 f4 f5⟩
  self:=fun _ _ _ _ _ st h => wpAny_pyIter_tupleiter st h
theorem turn_range {P : Program} {w : World} {K : PySem.W.Frag} {tg : Expr} (it : Addr) (lo : Int) (n : Nat) : Turn P w K tg (Itr lo n) [it] it (fun i h => IsRangeIter h it (lo + (i : Nat) * 1) ((n : Int) - (i : Nat)) 1) where
  mem := by simp
  obj:=fun i h st b hb => by
    have e : b = it := by simpa using hb
    subst e
    exact ⟨_,st,fun v z => by
      have z' : Data.fields _ = Data.cell v:=z
      cases z'⟩
  keep:=fun i h h' st k => k it (by simp) _ st
  item := by
    intro X hP hw hK hc i pins s σ H E I hf st hg
    subst hP hw hK
    obtain ⟨f0,f1,f2,f3,f4,f5⟩:=hf it (by simp)
    have W:=Walks.range (prog:=X.prog) (w:=X.w) (I.ok.hd hc) it lo 1 n
    refine W.item i s _ _ hg st fun v h' tk hv st' kk => ?_
    obtain ⟨t,rfl⟩:=hv
    have I1 : Inv X pins σ H { s with heap:=h',toks:=tk }:=I.turned (fun b o hb e => kk b o (by simpa using hb) e) f0 f1 f3 f4 f5
    refine ⟨_,rfl,go_of (s:={ s with heap:=h',toks:=tk }) (n := "range_iterator") st' rfl rfl (by decide) ⟨.int (lo + i),H,I1,⟨t,?_⟩,⟨rfl,rfl⟩,st',fun b hb => (hf b hb).1⟩⟩
    rw [Int.mul_one]
  done := by
    intro X hP hw hK hc i pins s σ H E I hf st hg
    subst hP hw hK
    obtain ⟨f0,f1,f2,f3,f4,f5⟩:=hf it (by simp)
    exact wpAny_pyNext_range_end (I.ok.hd hc) st (by have : n≤i:=hg; omega) fun h' eb => ⟨rfl,I.turned (t':=s.toks) (fun b o hb e => eb b o hb e) f0 f1 f3 f4 f5⟩
  self:=fun _ _ _ _ _ st h => wpAny_pyIter_rangeiter st h
section
variable {X : Cx} {tg : Expr}
def iList (K : PySem.W.Frag) (tl : TE) : TI:=fun σ H R => tl σ H fun x H1 => ∃ a,x = .ref a∧(∃ xs,SqL K H1 a xs)∧R (Itl K a) H1
def iTup (K : PySem.W.Frag) (tl : TE) : TI:=fun σ H R => tl σ H fun x H1 => ∃ a,x = .ref a∧(∃ xs,SqT K H1 a xs)∧R (Itt K a) H1
theorem pi_list {l : Expr} {tl : TE} (hl : PE X l tl) : PI X tg l (iList X.K tl) := by
  intro pins s σ H R I h
  refine thn (hl pins s σ H _ I h) fun v s1 ⟨x,H1,I1,r1,q1⟩ => ?_
  obtain ⟨a,e,⟨xs,hq⟩,q⟩:=q1
  subst e
  cases r1
  obtain ⟨its,rv,p,hz⟩:=I1.list hq
  refine wpAny_pyIter_list p.isList ?_
  refine ⟨s1.heap.objs.size,[s1.heap.objs.size],_,_,H1,rfl,I1.kept (t':=s1.toks) fun b o e => Heap.get?_push_of_some _ e,turn_list a _,⟨_,Heap.get?_push_size _ rfl,rfl,rfl⟩,fun b hb => ?_,q⟩
  have e : b = s1.heap.objs.size := by simpa using hb
  subst e
  exact I1.fpOk (Nat.le_refl _) (I1.hok.fresh (Nat.le_refl _))
theorem pi_tup {l : Expr} {tl : TE} (hl : PE X l tl) : PI X tg l (iTup X.K tl) := by
  intro pins s σ H R I h
  refine thn (hl pins s σ H _ I h) fun v s1 ⟨x,H1,I1,r1,q1⟩ => ?_
  obtain ⟨a,e,⟨xs,hq⟩,q⟩:=q1
  subst e
  cases r1
  obtain ⟨its,rv,p,hz⟩:=I1.tuple hq
  refine wpAny_pyIter_tuple (show s1.heap.IsTuple a its.toArray from p) ?_
  refine ⟨s1.heap.objs.size,[s1.heap.objs.size],_,_,H1,rfl,I1.kept (t':=s1.toks) fun b o e => Heap.get?_push_of_some _ e,turn_tuple a _,⟨_,Heap.get?_push_size _ rfl,rfl,rfl⟩,fun b hb => ?_,q⟩
  have e : b = s1.heap.objs.size := by simpa using hb
  subst e
  exact I1.fpOk (Nat.le_refl _) (I1.hok.fresh (Nat.le_refl _))
theorem range_it {pins : List (Addr×Obj)} {σ : St} {H : Hp} {s : Shared} {R : It→Hp→Prop} {E : Value→Shared→Prop} {lo hi : Int} {t u v : Tok} {tk : Nat} (I : Inv X pins σ H s) (h1 : -(2 ^ 62)≤lo) (h2 : lo < 2 ^ 62) (h3 : -(2 ^ 62)≤hi) (h4 : hi < 2 ^ 62)
    (q : R (Itr lo (hi - lo).toNat) H) : wpAny (model X.prog X.w) X.A (pyIter (.ref s.heap.objs.size)) (PIE X pins σ tg R) E { s with heap:=s.heap.push { cls:=.type "range",data:=.fields #[.int lo t,.int hi u,.int 1 v] },toks:=tk } := by
  refine wpAny_pyIter_range (IsRange.new ..) (small_one h1 h2 h3 h4) ?_
  have I1 : Inv X pins σ H { s with heap:=s.heap.push { cls:=.type "range",data:=.fields #[.int lo t,.int hi u,.int 1 v] },toks:=tk }:=I.kept fun b o e => Heap.get?_push_of_some _ e
  refine ⟨(s.heap.push { cls:=.type "range",data:=.fields #[.int lo t,.int hi u,.int 1 v] }).objs.size,[(s.heap.push { cls:=.type "range",data:=.fields #[.int lo t,.int hi u,.int 1 v] }).objs.size],_,_,H,rfl,
    I1.kept (t':=tk) fun b o e => Heap.get?_push_of_some _ e,turn_range _ lo (hi - lo).toNat,?_,fun b hb => ?_,q⟩
  · have e1 : lo + ((0 : Nat) : Int) * 1 = lo := by simp
    have e2 : (((hi - lo).toNat : Nat) : Int) - ((0 : Nat) : Int) = Builtin.Range.rangeSize lo hi 1 := by rw [rangeSize_one]; split <;> omega
    show IsRangeIter _ _ (lo + ((0 : Nat) : Int) * 1) ((((hi - lo).toNat : Nat) : Int) - ((0 : Nat) : Int)) 1
    rw [e1,e2]
    exact Heap.get?_push_size _ rfl
  · have e : b = (s.heap.push { cls:=.type "range",data:=.fields #[.int lo t,.int hi u,.int 1 v] }).objs.size := by simpa using hb
    subst e
    exact I1.fpOk (Nat.le_refl _) (I1.hok.fresh (Nat.le_refl _))
def iRng1 (ta : TA) : TI:=fun σ H R => ta σ H fun vs H1 => ∃ j : Int,vs = [.int j]∧-(2 ^ 62)≤j∧j < 2 ^ 62∧R (Itr 0 j.toNat) H1
theorem pi_range1 {a : Expr} {ta : TA} {p pos : Pos} (hg : Gl X "range") (hm : X.mg "range" = none) (ha : PA X [a] ta) (hs : starEach [a] X.env = [(false,eval a X.env)] := by rfl) : PI X tg (.Call (.Name "range" p) [a] [] pos) (iRng1 ta) := by
  intro pins s σ H R I h
  refine Call_ (ld_blt I hg hm boot_range (PyProof.Rows.callWith_type1 (thn (ha pos pins s σ H _ I h) fun us s1 ⟨vs,H1,I1,r1,q1⟩ => ?_) hs rfl))
  obtain ⟨j,e,q1,q2,q⟩:=q1
  subst e
  cases r1 with
  | cons r rr =>
    cases rr
    obtain ⟨t,rfl⟩:=r
    exact call_range_1 (range_it I1 (by omega) (by omega) q1 q2 (by simpa using q))
def tFor (wi : TI) (g : TG) (tb : TS) : TS:=fun D σ H => wi σ H fun J H1 => ∃ W : Nat→Nat→St→Hp→Prop,(∃ m,W 0 m σ H1)∧∀ i m σ H,W i m σ H →
  (J.stop i H∧D.nx σ H)∨(J.go i H∧∃ N : St→Hp→Prop,(∀ σ' H',N σ' H'→∃ m',m' < m∧W (i + 1) m' σ' H')∧∀ x H',J.yld i H x H'→g x σ H' fun σ2 H2 => tb { D with nx:=N,ct:=N,bk:=D.nx } σ2 H2)
def pinsAt (fp : List Addr) (h : Heap) : List (Addr×Obj):=fp.filterMap fun b => (h.get? b).map fun o => (b,o)
theorem mem_pinsAt {fp : List Addr} {h : Heap} {b : Addr} {o : Obj} (hb : b∈fp) (e : h.get? b = some o) : (b,o)∈pinsAt fp h:=List.mem_filterMap.mpr ⟨b,hb,by rw [e]; rfl⟩
theorem of_pinsAt {fp : List Addr} {h : Heap} {p : Addr×Obj} (hp : p∈pinsAt fp h) : p.1∈fp∧h.get? p.1 = some p.2 := by
  obtain ⟨b,hb,e⟩:=List.mem_filterMap.mp hp
  cases q : h.get? b with
  | none => rw [q] at e; cases e
  | some o =>
    rw [q] at e
    have e' : (b,o) = p:=Option.some.inj e
    subst e'
    exact ⟨hb,q⟩
theorem Inv.pinned {pins : List (Addr×Obj)} {σ : St} {H : Hp} {s : Shared} {fp : List Addr} (I : Inv X pins σ H s) (hf : ∀ b∈fp,FpOk X pins H b) (ho : ∀ b∈fp,∃ o,s.heap.get? b = some o∧∀ v,o.data≠.cell v) : Inv X (pins ++ pinsAt fp s.heap) σ H s :=
  I.pins_of fun p hp => (List.mem_append.mp hp).elim (fun z => I.pin p (List.mem_append_right _ z)) fun z => by
    obtain ⟨hb,e⟩:=of_pinsAt z
    obtain ⟨f0,f1,f2,_⟩:=hf p.1 hb
    obtain ⟨o,e',d⟩:=ho p.1 hb
    rw [e] at e'; cases e'
    exact ⟨e,f0,f1,f2,d⟩
theorem Inv.unpinned {pins pl : List (Addr×Obj)} {σ : St} {H : Hp} {s : Shared} (I : Inv X (pins ++ pl) σ H s) : Inv X pins σ H s:=I.pins_of fun p hp => I.pin p (List.mem_append_right _ (List.mem_append_left _ hp))
theorem ps_for {iter : Expr} {body : List Stmt} {wi : TI} {g : TG} {tb : TS} {pos : Pos} (hp : PassesOwn (model X.prog X.w) X.A X.env X.xe) (hc : X.calm = true) (hi : PI X tg iter wi) (hg : PG X tg g) (hb : PSs X body tb)
    (hs : ∀ x,foldedSetIterable iter X.env x = pure x := by intro _; rfl) : PS X (.For tg iter body [] pos) (tFor wi g tb) := by
  intro pins s σ H D I h
  refine wpAny_For (thn (hi pins s σ H _ I h) fun v s1 h1 => thn h1 fun itv s2 h2 => ?_) hs
  obtain ⟨it,fp,tn,J,H2,e,I2,T,st2,f2,W,⟨m0,w0⟩,turn⟩:=h2
  subst e
  have stat : ∀ {H' : Hp},(∀ b∈fp,H' b = none)→∀ b∈fp,FpOk X pins H' b:=fun hn b hb => ⟨hn b hb,(f2 b hb).2⟩
  refine codeAny_forLoop_any (fun n s' => ∃ i σ' H',Inv X pins σ' H' s'∧tn i s'.heap∧(∀ b∈fp,H' b = none)∧W i n σ' H') ?_ m0 ⟨0,σ,H2,I2,st2,fun b hb => (f2 b hb).1,w0⟩
  rintro n s3 ⟨i,σ3,H3,I3,st3,fr3,w3⟩
  rcases turn i n σ3 H3 w3 with ⟨stop,qn⟩ | ⟨go,N,hN,step⟩
  · refine wpAny_passesOwn hp (thn (T.done X rfl rfl rfl hc i pins s3 σ3 H3 X.xe I3 (stat fr3) st3 stop) fun r s4 ⟨hr,I4⟩ => ?_)
    subst hr
    exact wpAny_execs_nil ⟨σ3,H3,I4,qn⟩
  · refine wpAny_passesOwn hp (thn (T.item X rfl rfl rfl hc i pins s3 σ3 H3 X.xe I3 (stat fr3) st3 go) fun r s4 ⟨u,hr,h4⟩ => ?_)
    subst hr
    refine wpAny_passesOwn hp (thn h4 fun _ s5 ⟨x,H5,I5,r5,y5,st5,fr5⟩ => ?_)
    have I5':=I5.pinned (stat fr5) (T.obj _ _ st5)
    refine wpAny_passesOwn hp (thn (hg _ s5 σ3 H5 x u _ I5' r5 (step x H5 y5)) fun _ s6 ⟨σ6,H6,I6,q6⟩ => ?_)
    refine wpAny_passesOwn hp (thn (hb _ s6 σ6 H6 _ I6 q6) fun f s7 q7 => ?_)
    have again : ∀ {σ7 : St} {H7 : Hp},Inv X (pins ++ pinsAt fp s5.heap) σ7 H7 s7→N σ7 H7→∃ m,m < n∧∃ i σ' H',Inv X pins σ' H' s7∧tn i s7.heap∧(∀ b∈fp,H' b = none)∧W i m σ' H':=fun {σ7 H7} I7 n7 => by
      obtain ⟨m',hm,w7⟩:=hN σ7 H7 n7
      refine ⟨m',hm,i + 1,σ7,H7,I7.unpinned,T.keep _ _ _ st5 fun b hb o e => (I7.pin (b,o) (List.mem_append_right _ (List.mem_append_right _ (mem_pinsAt hb e)))).1,fun b hb => ?_,w7⟩
      obtain ⟨o,e,d⟩:=T.obj _ _ st5 b hb
      exact (I7.pin (b,o) (List.mem_append_right _ (List.mem_append_right _ (mem_pinsAt hb e)))).2.1
    cases f with
    | next => obtain ⟨σ7,H7,I7,n7⟩:=q7; exact again I7 n7
    | cont => obtain ⟨σ7,H7,I7,n7⟩:=q7; exact again I7 n7
    | brk => obtain ⟨σ7,H7,I7,q7⟩:=q7; exact ⟨σ7,H7,I7.unpinned,q7⟩
    | ret v => obtain ⟨x7,σ7,H7,I7,r7,q7⟩:=q7; exact ⟨x7,σ7,H7,I7.unpinned,r7,q7⟩
end
theorem for_tup {K : PySem.W.Frag} {a : Addr} {xs : List V} {g : TG} {tb : TS} {D : Ends} {σ : St} {H : Hp} (Pv : Nat→St→Hp→Prop) (h0 : Pv 0 σ H) (hl : ∀ i σ H,i≤xs.length→Pv i σ H→SqT K H a xs)
    (hs : ∀ i x σ H,xs[i]? = some x→Pv i σ H→g x σ H fun σ2 H2 => tb { D with nx:=Pv (i + 1),ct:=Pv (i + 1),bk:=D.nx } σ2 H2) (hd : ∀ σ H,Pv xs.length σ H→D.nx σ H) :
    ∃ W : Nat→Nat→St→Hp→Prop,(∃ m,W 0 m σ H)∧∀ i m σ H,W i m σ H →
      ((Itt K a).stop i H∧D.nx σ H)∨((Itt K a).go i H∧∃ N : St→Hp→Prop,(∀ σ' H',N σ' H'→∃ m',m' < m∧W (i + 1) m' σ' H')∧∀ x H',(Itt K a).yld i H x H'→g x σ H' fun σ2 H2 => tb { D with nx:=N,ct:=N,bk:=D.nx } σ2 H2) := by
  refine ⟨fun i m σ H => m = xs.length - i∧i≤xs.length∧Pv i σ H,⟨xs.length,by simp,Nat.zero_le _,h0⟩,?_⟩
  rintro i m σ H ⟨rfl,hi,p⟩
  have q:=hl i σ H hi p
  by_cases hlt : i < xs.length
  · refine .inr ⟨⟨xs,xs[i],q,by simp [hlt]⟩,Pv (i + 1),fun σ' H' p' => ⟨xs.length - (i + 1),by omega,rfl,hlt,p'⟩,fun x H' y => ?_⟩
    obtain ⟨e,y⟩:=y
    subst e
    exact hs i x σ _ (y xs q) p
  · have e : i = xs.length := by omega
    subst e
    exact .inl ⟨⟨xs,q,Nat.le_refl _⟩,hd σ H p⟩
theorem for_range {lo : Int} {n : Nat} {g : TG} {tb : TS} {D : Ends} {σ : St} {H : Hp} (Pv : Nat→St→Hp→Prop) (h0 : Pv 0 σ H)
    (hs : ∀ i σ H,i < n→Pv i σ H→g (.int (lo + i)) σ H fun σ2 H2 => tb { D with nx:=Pv (i + 1),ct:=Pv (i + 1),bk:=D.nx } σ2 H2) (hd : ∀ σ H,Pv n σ H→D.nx σ H) :
    ∃ W : Nat→Nat→St→Hp→Prop,(∃ m,W 0 m σ H)∧∀ i m σ H,W i m σ H →
      ((Itr lo n).stop i H∧D.nx σ H)∨((Itr lo n).go i H∧∃ N : St→Hp→Prop,(∀ σ' H',N σ' H'→∃ m',m' < m∧W (i + 1) m' σ' H')∧∀ x H',(Itr lo n).yld i H x H'→g x σ H' fun σ2 H2 => tb { D with nx:=N,ct:=N,bk:=D.nx } σ2 H2) := by
  refine ⟨fun i m σ H => m = n - i∧i≤n∧Pv i σ H,⟨n,by simp,Nat.zero_le _,h0⟩,?_⟩
  rintro i m σ H ⟨rfl,hi,p⟩
  by_cases hlt : i < n
  · refine .inr ⟨hlt,Pv (i + 1),fun σ' H' p' => ⟨n - (i + 1),by omega,rfl,hlt,p'⟩,fun x H' y => ?_⟩
    obtain ⟨e,y⟩:=y
    subst e y
    exact hs i σ _ hlt p
  · have e : i = n := by omega
    subst e
    exact .inl ⟨Nat.le_refl _,hd σ H p⟩
abbrev R2:=V→V→Hp→VK→Prop
def OpR (X : Cx) (f : Value→Value→Sem Value) (r : R2) : Prop :=
  ∀ (pins : List (Addr×Obj)) (s : Shared) (σ : St) (H : Hp) (x y : V) (v u : Value) (Q : VK),Inv X pins σ H s→RelV x v→RelV y u→r x y H Q →
    wpAny (model X.prog X.w) X.A (f v u) (EP X pins σ Q) X.xe s
def UnR (X : Cx) (f : Value→Sem Value) (r : V→Hp→VK→Prop) : Prop :=
  ∀ (pins : List (Addr×Obj)) (s : Shared) (σ : St) (H : Hp) (x : V) (v : Value) (Q : VK),Inv X pins σ H s→RelV x v→r x H Q →
    wpAny (model X.prog X.w) X.A (f v) (EP X pins σ Q) X.xe s
def CallR (X : Cx) (f : Value) (r : List V→Hp→VK→Prop) : Prop :=
  ∀ (pins : List (Addr×Obj)) (s : Shared) (σ : St) (H : Hp) (xs : List V) (us : List Value) (Q : VK),Inv X pins σ H s→Vals xs us→r xs H Q →
    wpAny (model X.prog X.w) X.A (call f us) (EP X pins σ Q) X.xe s
def tOp (r : R2) (ta tb : TE) : TE:=fun σ H Q => ta σ H fun x H1 => tb σ H1 fun y H2 => r x y H2 Q
def tUn (r : V→Hp→VK→Prop) (ta : TE) : TE:=fun σ H Q => ta σ H fun x H1 => r x H1 Q
def rI (C : Int→Int→Prop) (g : Int→Int→V) : R2:=fun x y H Q => ∃ i j,x = .int i∧y = .int j∧C i j∧Q (g i j) H
def rI0 (g : Int→Int→V) : R2:=fun x y H Q => ∃ i j,x = .int i∧y = .int j∧Q (g i j) H
def rU (g : Int→V) : V→Hp→VK→Prop:=fun x H Q => ∃ i,x = .int i∧Q (g i) H
section
variable {X : Cx} {a b : Expr} {ta tb : TE} {pos : Pos}
theorem binT (ha : PE X a ta) (hb : PE X b tb) {pins : List (Addr×Obj)} {s : Shared} {σ : St} {H : Hp} {R : V→V→Hp→Prop} (I : Inv X pins σ H s)
    (h : ta σ H fun x H1 => tb σ H1 fun y H2 => R x y H2) {Q : Value→Shared→Prop} {f : Value→Value→Sem Value}
    (hf : ∀ v u s2 x y H2,Inv X pins σ H2 s2→RelV x v→RelV y u→R x y H2→wpAny (model X.prog X.w) X.A (f v u) Q X.xe s2) :
    wpAny (model X.prog X.w) X.A (eval a X.env) (fun v s₁ => wpAny (model X.prog X.w) X.A (eval b X.env) (fun u s₂ => wpAny (model X.prog X.w) X.A (f v u) Q X.xe s₂) X.xe s₁) X.xe s := by
  refine thn (ha pins s σ H _ I h) fun v s1 ⟨x,H1,I1,r1,q1⟩ => ?_
  refine thn (hb pins s1 σ H1 _ I1 q1) fun u s2 ⟨y,H2,I2,r2,q2⟩ => ?_
  exact hf v u s2 x y H2 I2 r1 r2 q2
theorem pe_op {op : Operator} {r : R2} (ho : OpR X (binaryOp op) r) (ha : PE X a ta) (hb : PE X b tb) : PE X (.BinOp a op b pos) (tOp r ta tb) := by
  intro pins s σ H Q I h
  exact wpAny_BinOp (binT ha hb I h fun v u s2 x y H2 I2 rx ry q => ho pins s2 σ H2 x y v u Q I2 rx ry q)
theorem pe_un {op : UnaryOp} {r : V→Hp→VK→Prop} (ho : UnR X (unaryOp op) r) (ha : PE X a ta) : PE X (.UnaryOp op a pos) (tUn r ta) := by
  intro pins s σ H Q I h
  exact UnaryOp_ (thn (ha pins s σ H _ I h) fun v s1 ⟨x,H1,I1,r1,q1⟩ => ho pins s1 σ H1 x v Q I1 r1 q1)
theorem opI {f : Value→Value→Sem Value} {C : Int→Int→Prop} {g : Int→Int→Int}
    (rule : ∀ (i j : Int) (t u : Tok) (s : Shared) (Q : Value→Shared→Prop) (E : Value→Shared→Prop),C i j→Q (.int (g i j) s.toks) { s with toks:=s.toks + 1 }→wpAny (model X.prog X.w) X.A (f (.int i t) (.int j u)) Q E s) :
    OpR X f (rI C fun i j => .int (g i j)) := by
  intro pins s σ H x y v u Q I rx ry h
  obtain ⟨i,j,rfl,rfl,hc,q⟩:=h
  obtain ⟨t,rfl⟩:=rx
  obtain ⟨t',rfl⟩:=ry
  exact rule i j t t' s _ _ hc ⟨.int (g i j),H,I.tok _,⟨_,rfl⟩,q⟩
theorem opI0 {f : Value→Value→Sem Value} {g : Int→Int→Int}
    (rule : ∀ (i j : Int) (t u : Tok) (s : Shared) (Q : Value→Shared→Prop) (E : Value→Shared→Prop),Q (.int (g i j) s.toks) { s with toks:=s.toks + 1 }→wpAny (model X.prog X.w) X.A (f (.int i t) (.int j u)) Q E s) :
    OpR X f (rI0 fun i j => .int (g i j)) := by
  intro pins s σ H x y v u Q I rx ry h
  obtain ⟨i,j,rfl,rfl,q⟩:=h
  obtain ⟨t,rfl⟩:=rx
  obtain ⟨t',rfl⟩:=ry
  exact rule i j t t' s _ _ ⟨.int (g i j),H,I.tok _,⟨_,rfl⟩,q⟩
theorem opB0 {f : Value→Value→Sem Value} {g : Int→Int→Bool}
    (rule : ∀ (i j : Int) (t u : Tok) (s : Shared) (Q : Value→Shared→Prop) (E : Value→Shared→Prop),Q (.bool (g i j)) s→wpAny (model X.prog X.w) X.A (f (.int i t) (.int j u)) Q E s) :
    OpR X f (rI0 fun i j => .bl (g i j)) := by
  intro pins s σ H x y v u Q I rx ry h
  obtain ⟨i,j,rfl,rfl,q⟩:=h
  obtain ⟨t,rfl⟩:=rx
  obtain ⟨t',rfl⟩:=ry
  exact rule i j t t' s _ _ ⟨.bl (g i j),H,I,rfl,q⟩
def CPow (i j : Int) : Prop:=0≤j∧j≤1000000∧i.natAbs < 2 ^ 64
def CMul (i j : Int) : Prop:=(-(2 ^ 64) < i∧i < 2 ^ 64)∨(-(2 ^ 64) < j∧j < 2 ^ 64)
theorem CMul.ok {i j : Int} (h : CMul i j) : IntMulOk i j := by
  rcases h with ⟨h1,h2⟩ | ⟨h1,h2⟩
  · exact .of_left (intBits_le_64 h1 h2)
  · exact .of_right (intBits_le_64 h1 h2)
theorem op_add : OpR X (binaryOp .Add) (rI0 fun i j => .int (i + j)):=opI0 fun _ _ _ _ _ _ _ q => add_int q
theorem op_sub : OpR X (binaryOp .Sub) (rI0 fun i j => .int (i - j)):=opI0 fun _ _ _ _ _ _ _ q => sub_int q
theorem op_modN : OpR X (binaryOp .Mod) (rI (fun _ j => j≠0) fun i j => .int (i.fmod j)):=opI fun _ _ _ _ _ _ _ hc q => mod_int' hc q
theorem op_pow : OpR X (binaryOp .Pow) (rI CPow fun i j => .int (i ^ j.toNat)):=opI fun _ _ _ _ _ _ _ hc q => pow_int_small hc.1 hc.2.1 hc.2.2 q
theorem unI {f : Value→Sem Value} {g : Int→Int}
    (rule : ∀ (i : Int) (t : Tok) (s : Shared) (Q : Value→Shared→Prop) (E : Value→Shared→Prop),Q (.int (g i) s.toks) { s with toks:=s.toks + 1 }→wpAny (model X.prog X.w) X.A (f (.int i t)) Q E s) :
    UnR X f (rU fun i => .int (g i)) := by
  intro pins s σ H x v Q I rx h
  obtain ⟨i,rfl,q⟩:=h
  obtain ⟨t,rfl⟩:=rx
  exact rule i t s _ _ ⟨.int (g i),H,I.tok _,⟨_,rfl⟩,q⟩
theorem un_neg : UnR X (unaryOp .USub) (rU fun i => .int (-i)):=unI fun _ _ _ _ _ q => neg_int q
end
section
variable {X : Cx} {a b c : Expr} {ta tb : TE} {pos : Pos}
theorem op_lt : OpR X (compareOp .Lt) (rI0 fun i j => .bl (decide (i < j))):=opB0 fun _ _ _ _ _ _ _ q => lt_int q
theorem op_gt : OpR X (compareOp .Gt) (rI0 fun i j => .bl (decide (j < i))):=opB0 fun _ _ _ _ _ _ _ q => gt_int q
theorem op_ge : OpR X (compareOp .GtE) (rI0 fun i j => .bl (decide (j≤i))):=opB0 fun _ _ _ _ _ _ _ q => ge_int q
theorem OpR.or {f : Value→Value→Sem Value} {r r' : R2} (h : OpR X f r) (h' : OpR X f r') : OpR X f (fun x y H Q => r x y H Q∨r' x y H Q) := by
  intro pins s σ H x y v u Q I rx ry q
  rcases q with q | q
  · exact h pins s σ H x y v u Q I rx ry q
  · exact h' pins s σ H x y v u Q I rx ry q
theorem nomark (b : Expr) {op : CmpOp} (h : op≠.In := by decide) (h2 : op≠.NotIn := by decide) : behindInMarks op b = false := by
  have e1 : (op == CmpOp.In) = false := by cases op <;> first | rfl | exact absurd rfl h
  have e2 : (op == CmpOp.NotIn) = false := by cases op <;> first | rfl | exact absurd rfl h2
  cases b <;> simp [behindInMarks,e1,e2]
theorem pe_cmpR {op : CmpOp} {r : R2} (ho : OpR X (compareOp op) r) (ha : PE X a ta) (hb : PE X b tb) (hm : behindInMarks op b = false) : PE X (.Compare a [op] [b] pos) (tOp r ta tb) := by
  intro pins s σ H Q I h
  exact wpAny_Compare1 (binT ha hb I h fun v u s2 x y H2 I2 rx ry q => ho pins s2 σ H2 x y v u Q I2 rx ry q) hm
def tTest (t : TE) : TT:=fun σ H Q => t σ H fun x H' => ∃ k,x = .bl k∧Q k H'
theorem pt_cmpR {op : CmpOp} {r : R2} (ho : OpR X (compareOp op) r) (ha : PE X a ta) (hb : PE X b tb) (hm : behindInMarks op b = false) : PT X (.Compare a [op] [b] pos) (tTest (tOp r ta tb)) := by
  intro pins s σ H Q I h
  refine wpAny_isTrue_Compare1 (thn (ha pins s σ H _ I h) fun v s1 ⟨x,H1,I1,r1,q1⟩ => thn (hb pins s1 σ H1 _ I1 q1) fun u s2 ⟨y,H2,I2,r2,q2⟩ =>
    thn (ho pins s2 σ H2 x y v u _ I2 r1 r2 q2) fun c s3 ⟨z,H3,I3,r3,k,e,q3⟩ => ?_) hm
  subst e
  cases r3
  exact wpAny_truthy_bool ⟨H3,I3,q3⟩
theorem line63 : (sizeLine : Nat) < 2 ^ 63 := by rw [sizeLine_eq]; decide
theorem op_add_str : OpR X (binaryOp .Add) (fun x y H Q => ∃ i j,x = .str i∧y = .str j∧i.length + j.length≤sizeLine∧Q (.str (i ++ j)) H) := by
  intro pins s σ H x y v u Q I rx ry h
  obtain ⟨i,j,rfl,rfl,hz,q⟩:=h
  obtain ⟨t,rfl⟩:=rx
  obtain ⟨t',rfl⟩:=ry
  exact add_str (fun t' tk => ⟨.str (i ++ j),H,I.tok _,⟨_,rfl⟩,q⟩) hz
theorem vals1 {x : V} {us : List Value} (r : Vals [x] us) : ∃ u,us = [u]∧RelV x u := by
  cases r with
  | cons r1 r2 => cases r2; exact ⟨_,rfl,r1⟩
theorem call_int1 : CallR X (.type "int") (fun xs H Q => (∃ i,xs = [.int i]∧Q (.int i) H)∨∃ k,xs = [.bl k]∧Q (.int (if k then 1 else 0)) H) := by
  intro pins s σ H xs us Q I r h
  rcases h with ⟨i,rfl,q⟩ | ⟨k,rfl,q⟩
  · obtain ⟨u,rfl,t,rfl⟩:=vals1 r
    exact call_int_int ⟨.int i,H,I,⟨_,rfl⟩,q⟩
  · obtain ⟨u,rfl,r1⟩:=vals1 r
    cases r1
    exact call_int_bool ⟨.int (if k then 1 else 0),H,I.tok _,⟨_,rfl⟩,q⟩
end
structure ObjM (h : Heap) (x dx C : Addr) (mA : Str→Option Value) : Prop where
  obj : h.get? x = some (PySem.W.instObj C dx)
  ns : h.Ns1 dx mA
  ne : dx≠x
theorem lookIn_ns {h : Heap} {dx : Addr} {mA : Str→Option Value} (n : h.Ns1 dx mA) : ∃ od,h.get? dx = some od∧∀ name,PySem.W.lookIn name od = some (mA name) := by
  obtain ⟨o,es,ep,ho,hd,hk,_,hm⟩:=n
  refine ⟨o,ho,fun name => ?_⟩
  have e:=hm name
  unfold nsFind findBy at e
  rw [← Array.find?_toList] at e
  unfold PySem.W.lookIn
  rw [hd]
  dsimp only
  split
  · rename_i y q
    rw [q] at e
    exact congrArg some e
  · rename_i q
    rw [q] at e
    have a : es.toList.any (·.refKey) = false := by
      rw [List.any_eq_false]
      intro y hy
      obtain ⟨z,t,hkey⟩:=hk y (Array.mem_toList_iff.mp hy)
      simp [DictEntry.refKey,hkey]
    have a' : ¬ es.toList.any (·.refKey) = true := by rw [a]; exact Bool.false_ne_true
    rw [if_neg a']
    exact congrArg some e
theorem ObjM.look {h : Heap} {x dx C : Addr} {mA : Str→Option Value} (I : ObjM h x dx C mA) : ∃ od,PySem.W.InstAt h x (PySem.W.instObj C dx) C (some od)∧∀ name,PySem.W.lookIn name od = some (mA name) :=
  let ⟨od,ho,hl⟩:=lookIn_ns I.ns
  ⟨od,⟨I.obj,rfl,rfl,ho⟩,hl⟩
theorem RelO.some_of {v : V} {o : Option Value} (r : RelO (some v) o) : ∃ u,o = some u∧RelV v u := by
  cases o with
  | none => exact (show False from r).elim
  | some u => exact ⟨u,rfl,r⟩
section
variable {P : Program} {w : World} {H : Hp} {h : Heap} {a C dx : Addr} {fs : List (Str×V)}
theorem ins_get (hok : HOk P w H h) (e : H a = some (.ins C dx fs)) : ∃ mA,ObjM h a dx C mA∧(∀ f,RelO (fs.lookup f) (mA f))∧PySem.Within mA (fs.map (·.1))∧fs.length≤1000∧H dx = some (.own a) := by
  obtain ⟨d,z,ne,ob,mA,n,r,q⟩:=(show ObjOk P w H h a (.ins C dx fs) from hok a _ e)
  exact ⟨mA,⟨ob,n,ne⟩,r,q,z,d⟩
end
structure Cls (K : PySem.W.Frag) (C : Addr) : Prop where
  pg : PySem.W.plainGet K C Str.empty = true
  hd : PySem.W.hasDictIn K C = true
  po : PySem.W.plainOver K C = true
  sa : PySem.W.findIn K (.ref C) "__setattr__" = some (some (.builtin "object.__setattr__"))
theorem Cls.get {K : PySem.W.Frag} {C : Addr} (c : Cls K C) (f : Str) : PySem.W.plainGet K C f = true:=c.pg
section
variable {X : Cx} {pins : List (Addr×Obj)} {σ : St} {H : Hp} {s : Shared} {A : Around} {E : Value→Shared→Prop} {Q : Value→Shared→Prop} {c : Value} {b : Bool}
inductive TyOf (K : PySem.W.Frag) (H : Hp) : V→Value→Prop where
  | non : TyOf K H .non (.type "NoneType")
  | bl (x : Bool) : TyOf K H (.bl x) (.type "bool")
  | int (i : Int) : TyOf K H (.int i) (.type "int")
  | str (x : Str) : TyOf K H (.str x) (.type "str")
  | flt (x : UInt64) : TyOf K H (.flt x) (.type "float")
  | lst {a : Addr} {xs : List V} (e : H a = some (.lst xs)) : TyOf K H (.ref a) (.type "list")
  | frz {a : Addr} {o : Obj} {xs : List V} (e : H a = some (.frz o (.lst xs))) : TyOf K H (.ref a) (.type "list")
  | tup {a : Addr} {xs : List V} (e : H a = some (.tup xs)) : TyOf K H (.ref a) (.type "tuple")
  | dK {a : Addr} {kvs : List (Key×V)} (e : H a = some (.dK kvs)) : TyOf K H (.ref a) (.type "dict")
  | dT {a : Addr} {kvs : List (List Key×V)} (e : H a = some (.dT kvs)) : TyOf K H (.ref a) (.type "dict")
  | ins {a C dx : Addr} {fs : List (Str×V)} (e : H a = some (.ins C dx fs)) (cl : Cls K C) (ha : PySem.W.findIn K (.ref C) "__class__" = some (some (.builtin "object.__class__")))
      (hn : PySem.W.specialIn K (.builtin "object.__class__") "__get__" = some (some (.builtin "getset_descriptor.__get__"))) (htk : PySem.W.takesIn K (.builtin "object.__class__") = some true)
      (hm : PySem.W.mroIn K C (.type "object") = some true) : TyOf K H (.ref a) (.ref C)
theorem isinst_ok {x : V} {u t : Value} (I : Inv X pins σ H s) (rx : RelV x u) (ty : TyOf X.K H x t) (e : PySem.W.kitOne X.K t c = some b) (h : ∀ tk,Q (.bool b) { s with toks:=tk }) :
    wpAny (model X.prog X.w) A (call (.builtin "isinstance") [u,c]) Q E s := by
  cases ty with
  | non => cases (show u = Value.none from rx); exact PySem.W.kia_one PySem.W.kitx_none I.kIn True.intro e (fun z => nomatch z) h
  | bl y => cases (show u = Value.bool y from rx); exact PySem.W.kia_one PySem.W.kitx_bool I.kIn True.intro e (fun z => nomatch z) h
  | int i => obtain ⟨t,q⟩:=(show ∃ t,u = Value.int i t from rx); cases q; exact PySem.W.kia_one PySem.W.kitx_int I.kIn True.intro e (fun z => nomatch z) h
  | str y => obtain ⟨t,q⟩:=(show ∃ t,u = Value.str y t from rx); cases q; exact PySem.W.kia_one PySem.W.kitx_str I.kIn True.intro e (fun z => nomatch z) h
  | flt y => obtain ⟨t,q⟩:=(show ∃ t,u = Value.float y t from rx); cases q; exact PySem.W.kia_one PySem.W.kitx_float I.kIn True.intro e (fun z => nomatch z) h
  | @lst a xs ea =>
    cases (show u = Value.ref a from rx)
    obtain ⟨_,_,n,_,h1⟩:=(show ObjOk X.prog X.w H s.heap a (.lst xs) from I.hok a _ ea)
    exact PySem.W.kia_one PySem.W.kitx_list I.kIn ⟨_,h1,rfl⟩ e (fun z => nomatch z) h
  | @frz a ob xs ea =>
    cases (show u = Value.ref a from rx)
    obtain ⟨_,_,_,n,_,h1⟩:=(show ObjOk X.prog X.w H s.heap a (.frz ob (.lst xs)) from I.hok a _ ea)
    exact PySem.W.kia_one PySem.W.kitx_list I.kIn ⟨_,h1,rfl⟩ e (fun z => nomatch z) h
  | @tup a xs ea =>
    cases (show u = Value.ref a from rx)
    obtain ⟨_,_,_,p⟩:=(show ObjOk X.prog X.w H s.heap a (.tup xs) from I.hok a _ ea)
    obtain ⟨o,h1,h2,_⟩:=p
    exact PySem.W.kia_one PySem.W.kitx_tuple I.kIn ⟨o,h1,h2⟩ e (fun z => nomatch z) h
  | @dK a kvs ea =>
    cases (show u = Value.ref a from rx)
    obtain ⟨_,_,vs,_,p⟩:=(show ObjOk X.prog X.w H s.heap a (.dK kvs) from I.hok a _ ea)
    obtain ⟨o,es,ep,h1,h2,_⟩:=p
    exact PySem.W.kia_one PySem.W.kitx_dict I.kIn ⟨o,h1,h2.1⟩ e (fun z => nomatch z) h
  | @dT a kvs ea =>
    cases (show u = Value.ref a from rx)
    obtain ⟨_,_,xs,_,o,es,ep,h1,h2,_⟩:=(show ObjOk X.prog X.w H s.heap a (.dT kvs) from I.hok a _ ea)
    exact PySem.W.kia_one PySem.W.kitx_dict I.kIn ⟨o,h1,h2.1⟩ e (fun z => nomatch z) h
  | @ins a C dx fs ea cl ha hn htk hm =>
    cases (show u = Value.ref a from rx)
    obtain ⟨mA,O,_⟩:=ins_get I.hok ea
    obtain ⟨od,J,_⟩:=O.look
    exact PySem.W.kia_one (PySem.W.kitx_own (cl.get _) cl.hd ha hn htk hm) I.kIn J e (fun z => nomatch z) h
end
structure Room (k : Nat) (A : Around) : Prop where
  hd : A.handled = none
  dp : A.depth + 3 * k + 5 < recursionLimit
  un : A.units + 16 * k + 200 < cLine
theorem Room.mono {j k : Nat} {A : Around} (r : Room k A) (h : j≤k) : Room j A:=⟨r.hd,by have:=r.dp; omega,by have:=r.un; omega⟩
theorem Room.deeper {k : Nat} {A : Around} (r : Room (k + 1) A) (env : Env) : Room k (A.deeper env) :=
  ⟨r.hd,by have:=r.dp; show A.depth + 1 + 3 * k + 5 < _; omega,by have:=r.un; show A.units + 3 + 16 * k + 200 < _; omega⟩
theorem Room.depth {k : Nat} {A : Around} (r : Room k A) : A.depth < recursionLimit := by have:=r.dp; omega
theorem Room.units {k : Nat} {A : Around} (r : Room k A) : A.units + 64 < cLine := by have:=r.un; omega
def tNil : TA:=fun _ H Q => Q [] H
def tCons (ta : TE) (tr : TA) : TA:=fun σ H Q => ta σ H fun x H1 => tr σ H1 fun xs H2 => Q (x :: xs) H2
section
variable {X : Cx} {e : Expr} {es : List Expr} {te : TE} {t : TA} {pos : Pos}
theorem pa_nil : PA X [] tNil:=fun _ _ _ _ H Q I h => Calls.spliced_nil ⟨[],H,I,.nil,h⟩
theorem pa_cons (ha : PE X e te) (hr : PA X es t) (hs : starEach (e :: es) X.env = (false,eval e X.env) :: starEach es X.env := by rfl) : PA X (e :: es) (tCons te t) := by
  intro pos pins s σ H Q I h
  rw [hs]
  show wpAny _ _ (spliced ((false,eval e X.env) :: backTo pos (starEach es X.env))) _ _ s
  refine Calls.spliced_cons (thn (ha pins s σ H _ I h) fun u s1 ⟨x,H1,I1,r1,q1⟩ => ?_)
  exact thn (hr pos pins s1 σ H1 _ I1 q1) fun us s2 ⟨xs,H2,I2,r2,q2⟩ => ⟨x :: xs,H2,I2,.cons r1 r2,q2⟩
def tTup (t : TA) : TE:=fun σ H Q => t σ H fun xs H1 => xs.length≤sizeLine∧∀ p,H1 p = none→Q (.ref p) (upd H1 p (.tup xs))
def tLst (t : TA) : TE:=fun σ H Q => t σ H fun xs H1 => xs.length≤sizeLine∧∀ p,H1 p = none→Q (.ref p) (upd H1 p (.lst xs))
theorem pe_tup {x1} (h : PA X es t) : PE X (.Tuple es x1 pos) (tTup t) := by
  intro pins s σ H Q I hq
  refine wpAny_Tuple_spliced (thn (h pos pins s σ H _ I hq) fun us s1 ⟨xs,H1,I1,r,z,q⟩ => ⟨by rw [← r.length]; exact z,?_⟩)
  have hf : H1 s1.heap.objs.size = none:=I1.hok.fresh (Nat.le_refl _)
  refine ⟨.ref s1.heap.objs.size,upd H1 s1.heap.objs.size (.tup xs),I1.laid (t':=s1.toks) (fun b u e => Heap.get?_push_of_some _ e) (Nat.le_refl _) ?_,rfl,q _ hf⟩
  exact ⟨z,us,r,⟨_,Heap.get?_push_size _ rfl,rfl,_,rfl⟩⟩
theorem pe_lst (h : PA X es t) : PE X (.List es pos) (tLst t) := by
  intro pins s σ H Q I hq
  refine wpAny_List_spliced (thn (h pos pins s σ H _ I hq) fun us s1 ⟨xs,H1,I1,r,z,q⟩ => ⟨by rw [← r.length]; exact z,?_⟩)
  have hf : H1 s1.heap.objs.size = none:=I1.hok.fresh (Nat.le_refl _)
  refine ⟨.ref s1.heap.objs.size,upd H1 s1.heap.objs.size (.lst xs),I1.laid (t':=s1.toks) (fun b u e => Heap.get?_push_of_some _ e) (Nat.le_refl _) ?_,rfl,q _ hf⟩
  exact ⟨z,us,0,r,Heap.get?_push_size _ rfl⟩
end
abbrev Sp:=List V→Hp→VK→XK→Prop
abbrev CXT:=List Env→Hp→Shared→XK→Value→Shared→Prop
structure Env0 (P : Program) (w : World) (K : PySem.W.Frag) (mg : Str→Option Value) (base : Heap) (A : Around) (outer : List Env) (s : Shared) (H : Hp) : Prop where
  frames : A.frames = some outer
  mod : Mod K mg base
  bs : ∀ b o,base.get? b = some o→s.heap.get? b = some o∧H b = none
  bsz : base.objs.size≤s.heap.objs.size
  funs : s.heap.FunFrames base outer
  frf : ∀ b∈frs outer,H b = none
  hok : HOk P w H s.heap
  bare : AllBare s.gens
def CE (outer : List Env) (P : Program) (w : World) (H : Hp) (s : Shared) (Q : VK) (u : Value) (s' : Shared) : Prop :=
  ∃ v H',s'.os = s.os∧AllBare s'.gens∧Un (frs outer) [] H H' s.heap s'.heap∧HOk P w H' s'.heap∧RelV v u∧Q v H'
def CR (CX : CXT) (outer : List Env) (P : Program) (w : World) (H : Hp) (s : Shared) (Q : VK) (E : XK) (r : Result) (s' : Shared) : Prop :=
  match r with
  | .ok (.ret u) => CE outer P w H s Q u s'
  | .ok _ => False
  | .error e => CX outer H s E e s'
structure FnOk (P : Program) (w : World) (K : PySem.W.Frag) (mg : Str→Option Value) (base : Heap) (CX : CXT) (k : Nat) (f : Addr) (fd : FuncData) (ps : List Str) (sp : Sp) : Prop where
  len : ∀ vs H Q E,sp vs H Q E→vs.length = ps.length
  run : ∀ (A : Around) (outer : List Env) (s : Shared) (H : Hp) (args : Args) (us : List Value) (vs : List V) (Q : VK) (E : XK),Room k A→Env0 P w K mg base A outer s H→BindsTo s fd args (ps.zip us)→Vals vs us→sp vs H Q E →
    codeAny (model P w) A (.call (.ref f) args) (CR CX outer P w H s Q E) s
theorem FnOk.mono {P : Program} {w : World} {K : PySem.W.Frag} {mg : Str→Option Value} {base : Heap} {CX : CXT} {j k : Nat} {f : Addr} {fd : FuncData} {ps : List Str} {sp : Sp} (F : FnOk P w K mg base CX j f fd ps sp) (h : j≤k := by decide) :
    FnOk P w K mg base CX k f fd ps sp:=⟨F.len,fun A outer s H args us vs Q E hr => F.run A outer s H args us vs Q E (hr.mono h)⟩
theorem FnOk.imp {P : Program} {w : World} {K : PySem.W.Frag} {mg : Str→Option Value} {base : Heap} {CX : CXT} {k : Nat} {f : Addr} {fd : FuncData} {ps : List Str} {sp sp' : Sp} (F : FnOk P w K mg base CX k f fd ps sp)
    (h : ∀ vs H Q E,sp' vs H Q E→sp vs H Q E) : FnOk P w K mg base CX k f fd ps sp' :=
  ⟨fun vs H Q E q => F.len vs H Q E (h _ _ _ _ q),fun A outer s H args us vs Q E hr he hb hv hs => F.run A outer s H args us vs Q E hr he hb hv (h _ _ _ _ hs)⟩
section
variable {X : Cx} {pins : List (Addr×Obj)} {σ : St} {H : Hp} {s s' : Shared}
theorem Inv.env0 (I : Inv X pins σ H s) : Env0 X.prog X.w X.K X.mg X.base X.A X.stack s H :=
  ⟨I.ok.frames,I.ok.mod,I.bs,Nat.le_trans I.ok.bsz I.sz,I.stack,I.stkFree,I.hok,I.bare⟩
theorem Inv.after {Q : VK} {u : Value} (I : Inv X pins σ H s) (h : CE X.stack X.prog X.w H s Q u s') : EP X pins σ Q u s' := by
  obtain ⟨v,H',os,bare,un,hok,r,q⟩:=h
  obtain ⟨hh,g,d,t,os'⟩:=s'
  obtain rfl : os' = s.os:=os
  exact ⟨v,H',I.call (h':=hh) (g':=g) (d':=d) (t':=t) (ch:=[]) un hok bare (fun b z => absurd z (by simp)),r,q⟩
end
def tCall (sp : Sp) (dvs : List V) (E : XK) (t : TA) : TE:=fun σ H Q => t σ H fun vs H1 => sp (vs ++ dvs) H1 Q E
def Binds (K : PySem.W.Frag) (fd : FuncData) (ps : List Str) (ds : List Value) : Prop :=
  ∀ (s : Shared) (us : List Value),K.In s.heap→(us ++ ds).length = ps.length→BindsTo s fd ⟨us,[]⟩ (ps.zip (us ++ ds))
theorem Binds.all {K : PySem.W.Frag} {fd : FuncData} {ps : List Str} (h : ∀ us : List Value,us.length = ps.length→bindArgs fd ⟨us,[]⟩ = pure (ps.zip us)) : Binds K fd ps []:=fun s us _ hl => by
  rw [List.append_nil] at hl ⊢
  exact .of_eq (h us hl)
def Passes (CX : CXT) (X : Cx) (E : XK) : Prop:=∀ (pins : List (Addr×Obj)) (σ : St) (H : Hp) (s : Shared) (e : Value) (s' : Shared),Inv X pins σ H s→CX X.stack H s E e s'→X.xe e s'
section
variable {X : Cx} {CX : CXT} {k : Nat} {f : Addr} {fd : FuncData} {ps : List Str} {sp : Sp} {dvs : List V} {ds : List Value} {E : XK} {x : Str} {p pos : Pos} {e : Expr} {es : List Expr}  {t : TA}
theorem run_fn {pins : List (Addr×Obj)} {σ : St} {H : Hp} {s : Shared} {Q : VK} {us : List Value} {vs : List V} (F : FnOk X.prog X.w X.K X.mg X.base CX k f fd ps sp) (hr : Room k X.A) (hb : Binds X.K fd ps ds) (hd : Vals dvs ds) (hx : Passes CX X E)
    (I : Inv X pins σ H s) (r : Vals vs us) (h : sp (vs ++ dvs) H Q E) : wpAny (model X.prog X.w) X.A (call (.ref f) us) (EP X pins σ Q) X.xe s := by
  have r2 : Vals (vs ++ dvs) (us ++ ds):=r.append hd
  have hl : (us ++ ds).length = ps.length := by rw [← r2.length]; exact F.len _ _ _ _ h
  refine wpAny_call (codeAny_mono (F.run X.A X.stack s H ⟨us,[]⟩ (us ++ ds) (vs ++ dvs) Q E hr I.env0 (hb s us I.kIn hl) r2 h) fun r s' hq => ?_)
  cases r with
  | error e => exact hx pins σ H s e s' I hq
  | ok fl =>
    cases fl with
    | ret u => exact I.after hq
    | next => exact False.elim hq
    | brk => exact False.elim hq
    | cont => exact False.elim hq
theorem pe_call (F : FnOk X.prog X.w X.K X.mg X.base CX k f fd ps sp) (hr : Room k X.A) (hg : Gl X x) (hm : X.mg x = some (.ref f)) (hk : PySem.W.keepIn X.K (.ref f) = true) (hb : Binds X.K fd ps ds) (hd : Vals dvs ds) (hx : Passes CX X E)
    (ha : PA X (e :: es) t) (hdb : (x == ("__debug__" : Str)) = false := by decide) (he : starEach (e :: es) X.env = (false,eval e X.env) :: starEach es X.env := by rfl) (hpl : (backTo pos (starEach es X.env)).any (·.1) = false := by rfl) :
    PE X (.Call (.Name x p) (e :: es) [] pos) (tCall sp dvs E t) := by
  intro pins s σ H Q I h
  refine wpAny_Call_Name_kw (ld_glob I hg hm ?_ hdb)
  refine PySem.W.callWith_K (h₀:=X.base) I.ok.mod.kin hk (thn (ha pos pins s σ H _ I h) fun us s1 ⟨vs,H1,I1,r,q⟩ => ⟨I1.kIn,?_⟩) he hpl
  exact run_fn F hr hb hd hx I1 r q
end
structure FnScope (N P : List Str) (sc : Scope) : Prop where
  kind : sc.kind = .function
  co : sc.isCoroutine = false
  gen : sc.isGenerator = false
  nd : N.Nodup
  pre : N.take P.length = P
  par : ∀ x∈P,sc.names.lookup x = some .local∨sc.names.lookup x = some .cell
  nofree : ∀ y∈sc.names,y.2≠.free
theorem bindL_out {kindOf : Str→Option NameKind} {x : Str} : ∀ {binds : List (Str×Value)} {m : Str→Option Value},(∀ v,(x,v) ∉ binds)→bindL kindOf binds m x = m x
  | [],_,_ => rfl
  | (n,v) :: r,m,h => by
    unfold bindL
    rw [bindL_out fun w hw => h w (List.mem_cons_of_mem _ hw)]
    split
    · have : x≠n := by rintro rfl; exact h v List.mem_cons_self
      simp [this]
    · rfl
theorem bindC_out {kindOf : Str→Option NameKind} {x : Str} : ∀ {binds : List (Str×Value)} {m : Str→Option Value},(∀ v,(x,v) ∉ binds)→bindC kindOf binds m x = m x
  | [],_,_ => rfl
  | (n,v) :: r,m,h => by
    unfold bindC
    rw [bindC_out fun w hw => h w (List.mem_cons_of_mem _ hw)]
    split
    · rfl
    · have : x≠n := by rintro rfl; exact h v List.mem_cons_self
      simp [this]
theorem bindL_get {kindOf : Str→Option NameKind} {x : Str} {v : Value} : ∀ {P : List Str} {vs : List Value} {i : Nat} {m : Str→Option Value},P.Nodup→P[i]? = some x→vs[i]? = some v→kindOf x = some .local →
    bindL kindOf (P.zip vs) m x = some v
  | [],_,_,_,_,h,_,_ => by simp at h
  | _ :: _,[],_,_,_,_,h,_ => by simp at h
  | p :: P,w :: vs,0,m,nd,h1,h2,hk => by
    simp at h1 h2; subst h1; subst h2
    show bindL kindOf ((p,w) :: P.zip vs) m p = _
    unfold bindL
    rw [bindL_out fun v hv => (List.nodup_cons.mp nd).1 (List.of_mem_zip hv).1,if_pos hk]
    simp
  | p :: P,w :: vs,i + 1,m,nd,h1,h2,hk => by
    show bindL kindOf ((p,w) :: P.zip vs) m x = _
    unfold bindL
    exact bindL_get (i:=i) (List.nodup_cons.mp nd).2 (by simpa using h1) (by simpa using h2) hk
theorem bindC_get {kindOf : Str→Option NameKind} {x : Str} {v : Value} : ∀ {P : List Str} {vs : List Value} {i : Nat} {m : Str→Option Value},P.Nodup→P[i]? = some x→vs[i]? = some v→kindOf x≠some .local →
    bindC kindOf (P.zip vs) m x = some v
  | [],_,_,_,_,h,_,_ => by simp at h
  | _ :: _,[],_,_,_,_,h,_ => by simp at h
  | p :: P,w :: vs,0,m,nd,h1,h2,hk => by
    simp at h1 h2; subst h1; subst h2
    show bindC kindOf ((p,w) :: P.zip vs) m p = _
    unfold bindC
    rw [bindC_out fun v hv => (List.nodup_cons.mp nd).1 (List.of_mem_zip hv).1,if_neg hk]
    simp
  | p :: P,w :: vs,i + 1,m,nd,h1,h2,hk => by
    show bindC kindOf ((p,w) :: P.zip vs) m x = _
    unfold bindC
    exact bindC_get (i:=i) (List.nodup_cons.mp nd).2 (by simpa using h1) (by simpa using h2) hk
def start (N : List Str) (vs : List V) : St:=vs.map some ++ List.replicate (N.length - vs.length) none
def cxOf (CX : CXT) (P : Program) (w : World) (K : PySem.W.Frag) (mg : Str→Option Value) (base : Heap) (N : List Str) (qual : Str) (scope : Scope) (f : Addr) (cd : Value) (A : Around) (outer : List Env) (s : Shared) (H : Hp) (E : XK) : Cx where
  prog:=P
  w:=w
  K:=K
  mg:=mg
  base := base
  A:=A.deeper (envOfC qual scope s.heap.objs.size f cd)
  N:=N
  s₀:=s
  H₀:=H
  env:=envOfC qual scope s.heap.objs.size f cd
  outer:=outer
  stack:=envOfC qual scope s.heap.objs.size f cd :: outer
  ex:=[]
  calm:=true
  fn:=fun _ => true
  pn:=[]
  xe:=fun e s' => wpAny (model P w) (A.deeper (envOfC qual scope s.heap.objs.size f cd)) (leaving (envOfC qual scope s.heap.objs.size f cd) e) (fun _ s'' => CX outer H s E e s'') (fun e' s'' => CX outer H s E e' s'') s'
theorem cell_has {sc : Scope} {n : Nat} {x : Str} (h : sc.names.lookup x = some .cell) : ∃ c,(cellsFrom n sc.names []).lookup x = some c := by
  have q:=PySem.W.cellsFrom_some sc.names n [] (.inl h)
  exact Option.isSome_iff_exists.mp q
theorem inv_start {CX : CXT} {P : Program} {w : World} {K : PySem.W.Frag} {mg : Str→Option Value} {base : Heap} {N ps : List Str} {qual : Str} {scope : Scope} {f : Addr} {cd : Value} {A : Around} {outer : List Env} {s s1 : Shared} {H : Hp} {E : XK} {us : List Value} {vs : List V}
    (S : FnScope N ps scope) (hd : A.handled = none) (e0 : Env0 P w K mg base A outer s H) (hl : vs.length = ps.length) (r : Vals vs us)
    (x : InCallC s s.heap.objs.size (bindL (envOfC qual scope s.heap.objs.size f cd).kindOf (ps.zip us) fun _ => none) (cellsFrom (s.heap.objs.size + 1) scope.names []) (bindC (envOfC qual scope s.heap.objs.size f cd).kindOf (ps.zip us) fun _ => none) s1) :
    Inv (cxOf CX P w K mg base N qual scope f cd A outer s H E) [] (start N vs) H s1 := by
  have hpl : ps.length≤N.length := by have:=congrArg List.length S.pre; rw [List.length_take] at this; omega
  obtain ⟨h1,tk,rfl,hk⟩:=x.done
  have noA : ∀ b : Addr,b ∉ (cxOf CX P w K mg base N qual scope f cd A outer s H E).ex:=fun b z => absurd (show b∈([] : List Addr) from z) (by simp)
  refine ⟨⟨e0.mod,S.kind,rfl,rfl,Nat.le_refl _,fun y z c h1 h2 => ?_,fun y hy => ?_,fun y c _ h => ?_,fun _ => hd,Around.frames_deeper e0.frames,.inr ⟨rfl,rfl⟩,fun b z => absurd z (noA b),e0.bs,e0.bsz,fun b _ _ => noA b,fun b z => absurd z (noA b),e0.funs,e0.frf⟩,
    rfl,e0.bare,Un.kept hk,⟨_,x.toInCall.ns,fun i y v h1 h2 h3 => ?_⟩,fun y c h => ⟨_,x.cell y c h⟩,e0.hok.fresh (Nat.le_refl _),fun y c h => ?_,fun p hp => absurd (show p∈([] : List (Addr×Obj)) from hp) (by simp),e0.hok.kept hk,?_⟩
  · exact name_of_addr x.apart (PySem.mem_of_lookup h1) (PySem.mem_of_lookup h2)
  · have hy : scope.names.lookup y = some .cell∨scope.names.lookup y = some .free:=hy
    rcases hy with hy | hy
    · exact cell_has hy
    · exact absurd rfl (S.nofree _ (PySem.mem_of_lookup hy))
  · exact Nat.le_of_lt (x.above y c (PySem.mem_of_lookup h))
  · have hi : i < vs.length := by
      unfold start at h2
      by_cases hi : i < vs.length
      · exact hi
      · rw [List.getElem?_append_right (by simpa using hi)] at h2
        rw [List.getElem?_replicate] at h2
        split at h2 <;> cases h2
    have ha : vs[i]? = some v := by
      unfold start at h2
      rw [List.getElem?_append_left (by simpa using hi),List.getElem?_map] at h2
      cases e : vs[i]? with
      | none => rw [e] at h2; cases h2
      | some a => rw [e] at h2; cases h2; rfl
    obtain ⟨u,hu,rv⟩:=r.get ha
    have hp : ps[i]? = some y := by
      rw [← S.pre,List.getElem?_take_of_lt (by omega)]; exact h1
    have ndP : ps.Nodup := by rw [← S.pre]; exact S.nd.sublist (List.take_sublist _ _)
    refine ⟨u,rv,?_⟩
    rcases S.par y (List.mem_of_getElem? hp) with k | k
    · exact .inl ⟨k,bindL_get ndP hp hu k⟩
    · obtain ⟨c,e⟩:=cell_has (n:=s.heap.objs.size + 1) k
      refine .inr ⟨.inl k,c,e,?_⟩
      have q:=x.cell y c e
      rw [bindC_get ndP hp hu (by show scope.names.lookup y≠_; rw [k]; decide)] at q
      exact q
  · exact e0.hok.fresh (Nat.le_of_lt (x.above y c (PySem.mem_of_lookup h)))
  · unfold start
    show _ = N.length
    rw [List.length_append,List.length_map,List.length_replicate]
    omega
theorem fn_of {CX : CXT} {P : Program} {w : World} {K : PySem.W.Frag} {mg : Str→Option Value} {base : Heap} {k : Nat} {f : Addr} {name qual : Str} {params : Arguments} {body : List Stmt} {scope : Scope} {dV kV doc pm cdv ct oc : Value} {an od : Option Addr}
    {osl : Array (Option Value)} {N ps : List Str} {sp : Sp} (lk : K.lookup f = some ⟨oc,od,.func (PySem.W.fnOf name qual params body scope dV kV doc pm an cdv ct),osl⟩) (hcd : PySem.W.codeIn K cdv qual = true) (S : FnScope N ps scope)
    (len : ∀ vs H Q E,sp vs H Q E→vs.length = ps.length)
    (hbody : ∀ (A : Around) (outer : List Env) (s : Shared) (H : Hp) (vs : List V) (Q : VK) (E : XK),Room k (A.deeper (envOfC qual scope s.heap.objs.size f cdv))→sp vs H Q E →
      ∃ t,PSs (cxOf CX P w K mg base N qual scope f cdv A outer s H E) body t∧t { nx:=fun _ H' => Q .non H',rt:=Q } (start N vs) H) :
    FnOk P w K mg base CX (k + 1) f (PySem.W.fnOf name qual params body scope dV kV doc pm an cdv ct) ps sp := by
  refine ⟨len,fun A outer s H args us vs Q E hr e0 hb r hsp => ?_⟩
  have hl:=len _ _ _ _ hsp
  have KX : K.In s.heap:=e0.mod.kin.keeps fun b o e => (e0.bs b o e).1
  have lim : s.heap.NoLimit:=e0.mod.nolimit.keeps fun b o e => (e0.bs b o e).1
  have hkind : ∀ y∈ps.zip us,scope.names.lookup y.1 = some .local∨(scope.names.lookup y.1 = some .cell∧((cellsFrom (s.heap.objs.size + 1) scope.names []).lookup y.1).isSome = true):=fun ⟨n,v⟩ hy => by
    rcases S.par n (List.of_mem_zip hy).1 with q | q
    · exact .inl q
    · exact .inr ⟨q,PySem.W.cellsFrom_some _ _ _ (.inl q)⟩
  refine codeAny_call_function hr.depth (KX _ _ lk) rfl S.co S.gen rfl (PySem.W.codeRec_of KX hcd) (hb _ _ _ _ ?_)
  refine wpAny_newFunctionEnv_cells S.kind hkind fun env he s1 x => ?_
  subst he
  refine ⟨lim.keeps x.toInCall.keep,codeAny_func ?_⟩
  obtain ⟨t,ht,hq⟩:=hbody A outer s H vs Q E (hr.deeper _) hsp
  have I : Inv (cxOf CX P w K mg base N qual scope f cdv A outer s H E) [] (start N vs) H s1:=inv_start S hr.hd e0 hl r x
  refine wpAny_mono (ht [] s1 (start N vs) H _ I hq) (fun fl s' hs => ?_) fun e s' hs => hs
  have fin : ∀ {σ' : St} {H' : Hp} {v : V} {u : Value},Inv (cxOf CX P w K mg base N qual scope f cdv A outer s H E) [] σ' H' s'→RelV v u→Q v H'→CE outer P w H s Q u s' :=
    fun {σ' H' v u} J rv q => ⟨v,H',J.os,J.bare,J.base,J.hok,rv,q⟩
  cases fl with
  | ret u =>
    obtain ⟨v,σ',H',J,rv,q⟩:=hs
    exact fin J rv q
  | next =>
    obtain ⟨σ',H',J,q⟩:=hs
    exact fin (v:=V.non) (u:=Value.none) J rfl q
  | brk =>
    obtain ⟨_,_,_,q⟩:=hs
    exact False.elim q
  | cont =>
    obtain ⟨_,_,_,q⟩:=hs
    exact False.elim q
section
variable {X : Cx} {x : Str} {p pos : Pos} {e : Expr} {es : List Expr} {t : TA} {id T : String} {r : List V→Hp→VK→Prop}
def tCB (r : List V→Hp→VK→Prop) (t : TA) : TE:=fun σ H Q => t σ H fun vs H1 => r vs H1 Q
theorem pe_callB (hc : CallR X (.builtin id) r) (hg : Gl X x) (hm : X.mg x = none) (hv : bootBuiltins x = some (.builtin id)) (ha : PA X (e :: es) t) (hn : x ≠ "__name__" := by decide) (hdb : (x == ("__debug__" : Str)) = false := by decide)
    (he : starEach (e :: es) X.env = (false,eval e X.env) :: starEach es X.env := by rfl) (hpl : (backTo pos (starEach es X.env)).any (·.1) = false := by rfl) : PE X (.Call (.Name x p) (e :: es) [] pos) (tCB r t) := by
  intro pins s σ H Q I h
  refine wpAny_Call_Name_kw (ld_blt I hg hm hv ?_ hn hdb)
  exact PyProof.Rows.callWith_builtin1 (thn (ha pos pins s σ H _ I h) fun us s1 ⟨vs,H1,I1,r1,q1⟩ => hc pins s1 σ H1 vs us Q I1 r1 q1) he hpl
theorem pe_callTy (hc : CallR X (.type T) r) (hg : Gl X x) (hm : X.mg x = none) (hv : bootBuiltins x = some (.type T)) (ha : PA X (e :: es) t) (hn : x ≠ "__name__" := by decide) (hdb : (x == ("__debug__" : Str)) = false := by decide)
    (he : starEach (e :: es) X.env = (false,eval e X.env) :: starEach es X.env := by rfl) (hpl : (backTo pos (starEach es X.env)).any (·.1) = false := by rfl) : PE X (.Call (.Name x p) (e :: es) [] pos) (tCB r t) := by
  intro pins s σ H Q I h
  refine wpAny_Call_Name_kw (ld_blt I hg hm hv ?_ hn hdb)
  exact PyProof.Rows.callWith_type1 (thn (ha pos pins s σ H _ I h) fun us s1 ⟨vs,H1,I1,r1,q1⟩ => hc pins s1 σ H1 vs us Q I1 r1 q1) he hpl
end
end L2
namespace HT
open PySem PyProof.Rows
section
variable {prog : Program} {w : World} {A : Around} {E : Value→Shared→Prop} {s : Shared}
theorem cat_tup {t b : Addr} {vs ws : List Value} {Q : Value→Shared→Prop} (ht : IsTup s.heap t vs.toArray) (hb : IsTup s.heap b ws.toArray) (hv : vs≠[])
    (h1 : ws = []→Q (.ref t) s) (h2 : ws≠[]→Q (.ref s.heap.objs.size) { s with heap:=s.heap.push { cls:=.type "tuple",data:=.seq (vs ++ ws).toArray } })
    (hsz : vs.length + ws.length≤sizeLine) : wpAny (model prog w) A (binaryOp .Add (.ref t) (.ref b)) Q E s := by
  obtain ⟨⟨cls,dd,data,sl⟩,ho,hc,n,hd⟩:=id ht
  obtain ⟨⟨cls2,dd2,data2,sl2⟩,ho2,hc2,n2,hd2⟩:=id hb
  simp only at hc hd hc2 hd2
  subst hc hd hc2 hd2
  have e : vs.toArray ++ ws.toArray = (vs ++ ws).toArray := by simp
  by_cases hw : ws = []
  · exact concat_meets ⟨_,ho,rfl⟩ ⟨_,ho2,rfl⟩ noFill_tuple_add seq_tuple_add PySem.F.slot_tuple_add PySem.F.entry_tuple_add (PySem.F.args_tuple_add_2 _ _)
      (tuple_addW1 t b vs.toArray ws.toArray n n2 dd dd2 sl sl2 (by simpa using hv) (by simp [hw])) ⟨ho,ho2,h1 hw⟩
  · refine concat_meets ⟨_,ho,rfl⟩ ⟨_,ho2,rfl⟩ noFill_tuple_add seq_tuple_add PySem.F.slot_tuple_add PySem.F.entry_tuple_add (PySem.F.args_tuple_add_2 _ _)
      (tuple_addW2 t b vs.toArray ws.toArray n n2 dd dd2 sl sl2 (by simpa using hv) (by simpa using hw) (by rw [List.size_toArray,List.size_toArray]; exact hsz)) ⟨ho,ho2,?_⟩
    rw [e]
    exact h2 hw
def sIx (n d : Nat) : Option Int→Nat
  | none => d
  | some v => if v < 0 then (v + (n : Int)).toNat else min v.toNat n
theorem sIx_le (n d : Nat) (hd : d≤n) (o : Option Int) : sIx n d o≤n := by
  cases o with
  | none => exact hd
  | some v =>
    show (if v < 0 then (v + (n : Int)).toNat else min v.toNat n)≤n
    by_cases hv : v < 0
    · rw [if_pos hv]; omega
    · rw [if_neg hv]; exact Nat.min_le_right _ _
theorem clip_eq (v : Int) (n d : Nat) : (if v < 0 then max (v + (n : Int)) 0 else min v (n : Int)) = ((sIx n d (some v) : Nat) : Int) := by
  show (if v < 0 then max (v + (n : Int)) 0 else min v (n : Int)) = (((if v < 0 then (v + (n : Int)).toNat else min v.toNat n) : Nat) : Int)
  by_cases hv : v < 0
  · simp only [if_pos hv]; omega
  · simp only [if_neg hv]; omega
theorem adjust_gen (lo hi : Option Int) (n : Nat) : Builtin.Slice.sliceAdjust lo hi 1 (n : Int) = (((sIx n 0 lo : Nat) : Int),((sIx n n hi : Nat) : Int)) := by
  have h1 : ¬ ((1 : Int) < 0) := by omega
  unfold Builtin.Slice.sliceAdjust
  simp only [h1,if_false]
  refine Prod.ext ?_ ?_
  · cases lo with
    | none => rfl
    | some v => exact clip_eq v n 0
  · cases hi with
    | none => rfl
    | some v => exact clip_eq v n n
theorem places_gen (i j : Nat) : Builtin.Slice.slicePlaces (i : Int) (j : Int) 1 = j - i := by
  unfold Builtin.Slice.slicePlaces
  have h1 : (1 : Int) > 0 := by omega
  simp only [h1,if_true,Int.ediv_one]
  split <;> omega
theorem slicePart_ {v : Value} {o : Option Int} {Q : Option Int→Shared→Prop} (p : IsPart v o) (h : Q o s) : wpAny (model prog w) A (Builtin.Slice.slicePartIndex v) Q E s := by
  cases p with
  | none => exact slicePart_none h
  | int i t => exact slicePart_int h
theorem sliceApplied_gen {sl : Addr} {vl vu : Value} {lo hi : Option Int} {n : Nat} {Q : Int×Int×Nat→Shared→Prop} (hs : s.heap.IsSliceOf sl vl vu .none) (pl : IsPart vl lo) (pu : IsPart vu hi)
    (h : Q (((sIx n 0 lo : Nat) : Int),1,sIx n n hi - sIx n 0 lo) s) : wpAny (model prog w) A (Builtin.Slice.sliceApplied (.ref sl) (pure (n : Int))) Q E s := by
  obtain ⟨os,hos,hcs,hds⟩:=id hs
  unfold Builtin.Slice.sliceApplied Builtin.Slice.sliceFields
  refine wpAny_bind (wpAny_bind (wpAny_field hos hds (x:=vl) rfl (wpAny_bind (wpAny_field hos hds (x:=vu) rfl (wpAny_bind (wpAny_field hos hds (x:=.none) rfl (wpAny_pure ?_)))))))
  refine wpAny_bind (slicePart_none ?_)
  show wpAny _ _ (if ((1 : Int) == 0) = true then _ else _) _ _ s
  rw [if_neg (by decide)]
  refine wpAny_bind (slicePart_ pl (wpAny_bind (slicePart_ pu (wpAny_bind (wpAny_pure ?_)))))
  show wpAny _ _ (match Builtin.Slice.sliceAdjust lo hi 1 (n : Int) with | (lo,hi) => pure (lo,(1 : Int),Builtin.Slice.slicePlaces lo hi 1)) _ _ s
  rw [adjust_gen lo hi n]
  show wpAny _ _ (pure (((sIx n 0 lo : Nat) : Int),(1 : Int),Builtin.Slice.slicePlaces ((sIx n 0 lo : Nat) : Int) ((sIx n n hi : Nat) : Int) 1)) _ _ s
  rw [places_gen]
  exact wpAny_pure h
theorem pick_gen (xs : Array Value) (i k : Nat) : ((List.range k).filterMap fun (m : Nat) => xs[((i : Int) + (m : Int) * 1).toNat]?).toArray = ((xs.toList.drop i).take k).toArray := by
  have e : (fun (m : Nat) => xs[((i : Int) + (m : Int) * 1).toNat]?) = fun m => xs[i + m]? := by
    funext m
    have : ((i : Int) + (m : Int) * 1).toNat = i + m := by omega
    rw [this]
  rw [e]
  have:=pick_run xs i k
  rw [List.filterMap_map] at this
  have e2 : ((fun x => xs[x]?) ∘ fun x => i + x) = fun m => xs[i + m]?:=rfl
  rw [e2] at this
  rw [this]
theorem getItem_tuple_cut {t sl : Addr} {items : Array Value} {vl vu : Value} {lo hi : Option Int} {Q : Value→Shared→Prop} (ht : IsTup s.heap t items) (hs : s.heap.IsSliceOf sl vl vu .none) (pl : IsPart vl lo) (pu : IsPart vu hi)
    (hw : ¬ (sIx items.size 0 lo = 0∧sIx items.size items.size hi = items.size))
    (h : Q (.ref s.heap.objs.size) { s with heap:=s.heap.push { cls:=.type "tuple",data:=.seq ((items.toList.drop (sIx items.size 0 lo)).take (sIx items.size items.size hi - sIx items.size 0 lo)).toArray } })
    (hsz : items.size≤sizeLine) : wpAny (model prog w) A (getItem (.ref t) (.ref sl)) Q E s := by
  have htake : sizeOk (.seq ((items.toList.drop (sIx items.size 0 lo)).take (sIx items.size items.size hi - sIx items.size 0 lo)).toArray) := by
    show ((items.toList.drop (sIx items.size 0 lo)).take (sIx items.size items.size hi - sIx items.size 0 lo)).toArray.size≤sizeLine
    rw [List.size_toArray,List.length_take,List.length_drop,Array.length_toList]
    omega
  have hj : sIx items.size items.size hi≤items.size:=sIx_le _ _ (Nat.le_refl _) hi
  obtain ⟨os,hos,hcs,hds⟩:=id hs
  have hTs : s.TypeIs (.ref sl) "slice" := ⟨os,hos,hcs⟩
  unfold getItem
  try with_reducible refine wpAny_holding ?_
  first | refine wpAny_bind (wpAny_pure ?_) | skip
  refine wpAny_bind (wpAny_sequenceKey ht.typeIs (by decide) ?_)
  refine wpAny_bind (wpAny_callSpecial?_slot (name:=Str.ofString "__getitem__") ht.typeIs PyProof.Rows.slot_tuple_getitem
    (wpAny_call_entry PyProof.Rows.slot_tuple_getitem ht.typeIs entry_tuple_getitem ?_ (args_tuple_getitem _ _)))
  show wpAny _ _ (Builtin.Tuple.tupleItemsOf (.ref t) >>= _) _ _ s
  refine wpAny_bind (tupleItemsOf_ ht ?_)
  refine wpAny_bind (wpAny_typeOf hTs ?_)
  rw [if_pos (by decide)]
  refine wpAny_bind (sliceApplied_gen hs pl pu ?_)
  have hno : ¬ ((((sIx items.size 0 lo : Nat) : Int) == 0 && (1 : Int) == 1 && (sIx items.size items.size hi - sIx items.size 0 lo) == items.size) = true) := by
    intro q
    rw [Bool.and_eq_true,Bool.and_eq_true] at q
    have q1 : ((sIx items.size 0 lo : Nat) : Int) = 0:=eq_of_beq q.1.1
    have q2 : sIx items.size items.size hi - sIx items.size 0 lo = items.size:=eq_of_beq q.2
    exact hw ⟨by omega,by omega⟩
  show wpAny _ _ (if (((sIx items.size 0 lo : Nat) : Int) == 0 && (1 : Int) == 1 && (sIx items.size items.size hi - sIx items.size 0 lo) == items.size) = true then _ else _) _ _ s
  rw [if_neg hno,pick_gen]
  first
    | exact wpAny_bind (m:=Builtin.Tuple.tupleExact _) (wpAny_newObj_type (wpAny_pure ⟨_,rfl,wpAny_pure h⟩) htake)
    | exact wpAny_bind (m:=Builtin.Tuple.tupleExact _) (wpAny_newObj_type (wpAny_bind (wpAny_pure (wpAny_pure ⟨_,rfl,wpAny_pure h⟩))) htake)
    | exact wpAny_bind (wpAny_bind (m:=Builtin.Tuple.tupleExact _) (wpAny_newObj_type (wpAny_pure (wpAny_pure ⟨_,rfl,wpAny_pure h⟩)) htake))
    | exact wpAny_bind (wpAny_bind (m:=Builtin.Tuple.tupleExact _) (wpAny_newObj_type (wpAny_pure ⟨_,rfl,wpAny_pure h⟩) htake))
end
end HT
namespace L2
open PySem PySem.Spec PyProof.Rows
abbrev TO:=St→Hp→(Option Int→Hp→Prop)→Prop
def PO (X : Cx) (e : Option Expr) (t : TO) : Prop :=
  ∀ (pins : List (Addr×Obj)) (s : Shared) (σ : St) (H : Hp) (Q : Option Int→Hp→Prop),Inv X pins σ H s→t σ H Q →
    wpAny (model X.prog X.w) X.A (evalPart e X.env) (fun u s' => ∃ o H',Inv X pins σ H' s'∧IsPart u o∧Q o H') X.xe s
def tNoPart : TO:=fun _ H Q => Q none H
def tPart (t : TE) : TO:=fun σ H Q => t σ H fun x H1 => ∃ i,x = .int i∧Q (some i) H1
section
variable {X : Cx} {e : Expr} {te : TE} {lo hi : Option Expr} {tl th : TO} {pos p2 : Pos}
theorem po_none : PO X none tNoPart := by
  intro pins s σ H Q I h
  rw [evalPart_none]
  exact wpAny_pure ⟨none,H,I,.none,h⟩
theorem po_some (h : PE X e te) : PO X (some e) (tPart te) := by
  intro pins s σ H Q I hw
  rw [evalPart_some]
  refine thn (h pins s σ H _ I hw) fun u s1 ⟨x,H1,I1,r1,q1⟩ => ?_
  obtain ⟨i,rfl,q⟩:=q1
  obtain ⟨t,rfl⟩:=r1
  exact ⟨some i,H1,I1,.int i t,q⟩
def SlR (X : Cx) (r : V→Option Int→Option Int→Hp→VK→Prop) : Prop :=
  ∀ (pins : List (Addr×Obj)) (s : Shared) (σ : St) (H : Hp) (x : V) (v vl vu : Value) (lo hi : Option Int) (sl : Addr) (Q : VK),Inv X pins σ H s→RelV x v→s.heap.IsSliceOf sl vl vu .none→IsPart vl lo→IsPart vu hi→r x lo hi H Q →
    ∃ T id,typeLookup (.type T) "__getitem__" = pure (some (.builtin id))∧s.TypeIs v T∧wpAny (model X.prog X.w) X.A (getItem v (.ref sl)) (EP X pins σ Q) X.xe s
theorem SlR.or {r r' : V→Option Int→Option Int→Hp→VK→Prop} (h : SlR X r) (h' : SlR X r') : SlR X (fun x lo hi H Q => r x lo hi H Q∨r' x lo hi H Q) := by
  intro pins s σ H x v vl vu lo hi sl Q I rx hs pl pu q
  rcases q with q | q
  · exact h pins s σ H x v vl vu lo hi sl Q I rx hs pl pu q
  · exact h' pins s σ H x v vl vu lo hi sl Q I rx hs pl pu q
def tSl (r : V→Option Int→Option Int→Hp→VK→Prop) (te : TE) (tl th : TO) : TE:=fun σ H Q => te σ H fun x H1 => tl σ H1 fun l H2 => th σ H2 fun u H3 => r x l u H3 Q
theorem pe_slice {r : V→Option Int→Option Int→Hp→VK→Prop} (hr : SlR X r) (he : PE X e te) (hl : PO X lo tl) (hu : PO X hi th) : PE X (.Subscript e (.Slice lo hi none p2) pos) (tSl r te tl th) := by
  intro pins s σ H Q I h
  refine Subscript_ (thn (he pins s σ H _ I h) fun v s1 ⟨x,H1,I1,r1,q1⟩ => ?_)
  refine wpAny_Slice (thn (hl pins s1 σ H1 _ I1 q1) fun vl s2 ⟨l,H2,I2,pl,q2⟩ => thn (hu pins s2 σ H2 _ I2 q2) fun vu s3 ⟨u,H3,I3,pu,q3⟩ => ?_)
  rw [evalPart_none]
  refine wpAny_pure ?_
  have I4 : Inv X pins σ H3 { s3 with heap:=s3.heap.push { cls:=.type "slice",data:=.fields #[vl,vu,.none] } }:=I3.kept (t':=s3.toks) fun b ob q => Heap.get?_push_of_some _ q
  obtain ⟨T,id,hT,ht,hg⟩:=hr pins { s3 with heap:=s3.heap.push { cls:=.type "slice",data:=.fields #[vl,vu,.none] } } σ H3 x v vl vu l u s3.heap.objs.size Q I4 r1 (Heap.IsSliceOf.new ..) pl pu q3
  show wpAny (model X.prog X.w) X.A (subscriptTail e (.Slice lo hi none p2) v (.ref s3.heap.objs.size)) (EP X pins σ Q) X.xe { s3 with heap:=s3.heap.push { cls:=.type "slice",data:=.fields #[vl,vu,.none] } }
  exact tail_any (ops:=[.ref s3.heap.objs.size,v]) ht hT hg (by with_unfolding_all rfl)
def cutV (xs : List V) (lo hi : Option Int) : List V:=(xs.drop (HT.sIx xs.length 0 lo)).take (HT.sIx xs.length xs.length hi - HT.sIx xs.length 0 lo)
theorem cutV_length (xs : List V) (lo hi : Option Int) : (cutV xs lo hi).length≤xs.length := by
  unfold cutV
  rw [List.length_take,List.length_drop]
  omega
def rSlT (K : PySem.W.Frag) : V→Option Int→Option Int→Hp→VK→Prop:=fun x lo hi H Q => ∃ a xs,x = .ref a∧SqT K H a xs ∧
  ¬ (HT.sIx xs.length 0 lo = 0∧HT.sIx xs.length xs.length hi = xs.length)∧∀ p,H p = none→Q (.ref p) (upd H p (.tup (cutV xs lo hi)))
theorem sl_tup : SlR X (rSlT X.K) := by
  intro pins s σ H x v vl vu lo hi sl Q I rx hs pl pu h
  obtain ⟨a,xs,rfl,hx,hw,q⟩:=h
  cases rx
  obtain ⟨its,r,ht,hz⟩:=I.tuple hx
  have hlen : its.toArray.size = xs.length := by rw [List.size_toArray]; exact r.length.symm
  refine ⟨"tuple",_,PyProof.Rows.slot_tuple_getitem.lookup,ht.typeIs,?_⟩
  refine HT.getItem_tuple_cut ht hs pl pu (by rw [hlen]; exact hw) ?_ (by rw [hlen]; exact hz)
  rw [hlen]
  refine ⟨.ref s.heap.objs.size,_,I.laid (t':=s.toks) (o:=.tup (cutV xs lo hi)) (fun b ob q => Heap.get?_push_of_some _ q) (Nat.le_refl _) ?_,rfl,q _ (I.hok.fresh (Nat.le_refl _))⟩
  exact ⟨Nat.le_trans (cutV_length xs lo hi) hz,_,(r.drop (HT.sIx xs.length 0 lo)).take (HT.sIx xs.length xs.length hi - HT.sIx xs.length 0 lo),IsTup.new _ _⟩
theorem Vals.nil_iff {xs : List V} {us : List Value} (r : Vals xs us) : us = [] ↔ xs = [] := by
  cases r with
  | nil => simp
  | cons _ _ => simp
end
def ixN (n : Nat) (i : Int) : Option Nat:=if 0≤i then (if i < n then some i.toNat else none) else if -(n : Int)≤i then some (i + n).toNat else none
def atI {α : Type} (xs : List α) (i : Int) : Option α:=(ixN xs.length i).bind fun j => xs[j]?
theorem ixN_seq {n : Nat} {i : Int} {j : Nat} (h : ixN n i = some j) : seqIndex? i n = some j∧j < n∧-(n : Int)≤i∧i < n := by
  unfold ixN at h
  by_cases h0 : 0≤i
  · rw [if_pos h0] at h
    by_cases h1 : i < n
    · rw [if_pos h1] at h
      have e : i.toNat = j:=Option.some.inj h
      exact ⟨by rw [seqIndex_of h0 h1,e],by omega,by omega,h1⟩
    · rw [if_neg h1] at h; cases h
  · rw [if_neg h0] at h
    by_cases h1 : -(n : Int)≤i
    · rw [if_pos h1] at h
      have e : (i + n).toNat = j:=Option.some.inj h
      exact ⟨by rw [seqIndex_neg (by omega) h1,e],by omega,h1,by omega⟩
    · rw [if_neg h1] at h; cases h
theorem atI_get {α : Type} {xs : List α} {i : Int} {v : α} (h : atI xs i = some v) : ∃ j,seqIndex? i xs.length = some j∧xs[j]? = some v∧j < xs.length∧-(xs.length : Int)≤i∧i < xs.length := by
  unfold atI at h
  cases e : ixN xs.length i with
  | none => rw [e] at h; cases h
  | some j =>
    rw [e] at h
    obtain ⟨h1,h2,h3,h4⟩:=ixN_seq e
    exact ⟨j,h1,h,h2,h3,h4⟩
theorem atI_nat {α : Type} {xs : List α} {j : Nat} {v : α} (h : xs[j]? = some v) : atI xs (j : Int) = some v := by
  have hj : j < xs.length:=(List.getElem?_eq_some_iff.mp h).1
  have e : ixN xs.length (j : Int) = some j := by
    unfold ixN
    rw [if_pos (by omega),if_pos (by omega)]; simp
  unfold atI; rw [e]; exact h
def PlainIx (b : Expr) : Prop:=∀ o i,subscripted b false o i = operate [o,i] (getItem o i)
def IxR (X : Cx) (r : R2) : Prop :=
  ∀ (value slice : Expr) (pins : List (Addr×Obj)) (s : Shared) (σ : St) (H : Hp) (x y : V) (v u : Value) (Q : VK),Inv X pins σ H s→RelV x v→RelV y u→r x y H Q →
    subscripted slice false v u = operate [v,u] (getItem v u)→wpAny (model X.prog X.w) X.A (subscriptTail value slice v u) (EP X pins σ Q) X.xe s
def MtR (X : Cx) (id : String) (r : V→List V→Hp→VK→Prop) : Prop :=
  ∀ (pins : List (Addr×Obj)) (s : Shared) (σ : St) (H : Hp) (x : V) (xs : List V) (v : Value) (us : List Value) (Q : VK),Inv X pins σ H s→RelV x v→Vals xs us→r x xs H Q →
    wpAny (model X.prog X.w) X.A (call (.builtin id) (v :: us)) (EP X pins σ Q) X.xe s
section
variable {X : Cx} {a b : Expr} {ta tb : TE} {pos : Pos}
theorem IxR.or {r r' : R2} (h : IxR X r) (h' : IxR X r') : IxR X (fun x y H Q => r x y H Q∨r' x y H Q) := by
  intro value slice pins s σ H x y v u Q I rx ry q hs
  rcases q with q | q
  · exact h value slice pins s σ H x y v u Q I rx ry q hs
  · exact h' value slice pins s σ H x y v u Q I rx ry q hs
theorem pe_ix {r : R2} (hr : IxR X r) (ha : PE X a ta) (hb : PE X b tb) (hs : PlainIx b) : PE X (.Subscript a b pos) (tOp r ta tb) := by
  intro pins s σ H Q I h
  exact Subscript_ (binT ha hb I h fun v u s2 x y H2 I2 rx ry q => hr a b pins s2 σ H2 x y v u Q I2 rx ry q (hs _ _))
def rIxL (K : PySem.W.Frag) : R2:=fun x y H Q => ∃ p xs i v,x = .ref p∧y = .int i∧SqL K H p xs∧atI xs i = some v∧Q v H
def rIxT (K : PySem.W.Frag) : R2:=fun x y H Q => ∃ p xs i v,x = .ref p∧y = .int i∧SqT K H p xs∧atI xs i = some v∧Q v H
def rIxS : R2:=fun x y H Q => ∃ z i c,x = .str z∧y = .int i∧z.length≤sizeLine∧atI z.cps.toList i = some c∧Q (.str ⟨#[c]⟩) H
theorem ix_list : IxR X (rIxL X.K) := by
  intro value slice pins s σ H x y v u Q I rx ry h hs
  obtain ⟨p,xs,i,z,rfl,rfl,hq,he,q⟩:=h
  cases rx
  obtain ⟨t,rfl⟩:=ry
  obtain ⟨its,r,pl,hz⟩:=I.list hq
  obtain ⟨j,h1,h2,h3,h4,h5⟩:=atI_get he
  obtain ⟨w,ew,rw'⟩:=r.get h2
  have hl:=r.length
  have hn:=line63
  have fin : EP X pins σ Q w s:=⟨z,H,I,rw',q⟩
  by_cases h0 : 0≤i
  · have hj : i.toNat = j := by
      rw [seqIndex_of h0 h5] at h1
      exact Option.some.inj h1
    exact item_listR pl.isList h0 (by omega) (by rw [hj]; simpa using ew) fin hs
  · have hj : (i + (its.toArray.size : Int)).toNat = j := by
      rw [seqIndex_neg (by omega) h4] at h1
      rw [List.size_toArray,← hl]
      exact Option.some.inj h1
    exact subscriptTail_builtinR (x:=w) pl.isList.typeIs slot_list_getitem.lookup
      (wpAny_getItem_list_neg (Q:=fun r s' => r = w∧EP X pins σ Q r s') pl.isList (by omega) (by rw [List.size_toArray] <;> omega) (by omega) (by rw [hj]; simpa using ew) ⟨rfl,fin⟩) hs
theorem ix_tup : IxR X (rIxT X.K) := by
  intro value slice pins s σ H x y v u Q I rx ry h hs
  obtain ⟨p,xs,i,z,rfl,rfl,hq,he,q⟩:=h
  cases rx
  obtain ⟨t,rfl⟩:=ry
  obtain ⟨its,r,pl,hz⟩:=I.tuple hq
  obtain ⟨j,h1,h2,h3,h4,h5⟩:=atI_get he
  obtain ⟨w,ew,rw'⟩:=r.get h2
  have hl:=r.length
  have hn:=line63
  have fin : EP X pins σ Q w s:=⟨z,H,I,rw',q⟩
  exact subscriptTail_builtinR (x:=w) pl.typeIs slot_tuple_getitem.lookup
    (getItem_tuple (j:=j) (Q:=fun r s' => r = w∧EP X pins σ Q r s') pl (by omega) (by omega) (by rw [List.size_toArray,← hl]; exact h1) (by simpa using ew) ⟨rfl,fin⟩) hs
theorem ix_str : IxR X rIxS := by
  intro value slice pins s σ H x y v u Q I rx ry h hs
  obtain ⟨z,i,c,rfl,rfl,hz,he,q⟩:=h
  obtain ⟨t,rfl⟩:=rx
  obtain ⟨t',rfl⟩:=ry
  obtain ⟨j,h1,h2,h3,h4,h5⟩:=atI_get he
  have hl : z.cps.toList.length = z.length := by simp [Str.length]
  rw [hl] at h1 h4 h5
  have hn:=line63
  exact tail_any (typeIs_str s z t) slot_str_getitem.lookup (getItem_str (c:=c) (by
    have e1 : decide (i < -(2 ^ 63 : Int)) = false:=decide_eq_false (by omega)
    have e2 : decide (i ≥ 2 ^ 63) = false:=decide_eq_false (by omega)
    rw [e1,e2,Bool.or_false]) (by rw [h1]; simpa using h2) ⟨.str ⟨#[c]⟩,H,I.tok _,⟨_,rfl⟩,q⟩) hs
def rIx (K : PySem.W.Frag) : R2:=fun x y H Q => rIxL K x y H Q∨rIxT K x y H Q∨rIxS x y H Q
theorem ix_seq : IxR X (rIx X.K):=ix_list.or (ix_tup.or ix_str)
theorem slice_bounds (lo hi : Option Int) (n : Nat) : (sliceBounds lo hi none n).1 = ((HT.sIx n 0 lo : Nat) : Int)∧(sliceBounds lo hi none n).2.1 = ((HT.sIx n n hi : Nat) : Int)∧(sliceBounds lo hi none n).2.2 = 1 := by
  refine ⟨?_,?_,rfl⟩
  · cases lo with
    | none => simp [sliceBounds,HT.sIx]
    | some i =>
      simp only [sliceBounds,HT.sIx,Option.getD_none,show (1 : Int) > 0 by decide,if_true]
      by_cases h : i < 0
      · simp only [h,if_true] <;> omega
      · simp only [h,if_false] <;> omega
  · cases hi with
    | none => simp [sliceBounds,HT.sIx]
    | some i =>
      simp only [sliceBounds,HT.sIx,Option.getD_none,show (1 : Int) > 0 by decide,if_true]
      by_cases h : i < 0
      · simp only [h,if_true] <;> omega
      · simp only [h,if_false] <;> omega
theorem slicePick_cut (its : List Value) (lo hi : Option Int) : slicePick its.toArray lo hi none = ((its.drop (HT.sIx its.length 0 lo)).take (HT.sIx its.length its.length hi - HT.sIx its.length 0 lo)).toArray := by
  obtain ⟨h1,h2,h3⟩:=slice_bounds lo hi its.toArray.size
  unfold slicePick
  rw [h1,h2,h3]
  simp only [sliceRange_one,pick_run,List.size_toArray] <;> rfl
def rSlL (K : PySem.W.Frag) : V→Option Int→Option Int→Hp→VK→Prop:=fun x lo hi H Q => ∃ a xs,x = .ref a∧SqL K H a xs∧∀ p,H p = none→Q (.ref p) (upd H p (.lst (cutV xs lo hi)))
theorem sl_list : SlR X (rSlL X.K) := by
  intro pins s σ H x v vl vu lo hi sl Q I rx hs pl pu h
  obtain ⟨a,xs,rfl,hx,q⟩:=h
  cases rx
  obtain ⟨its,r,ht,hz⟩:=I.list hx
  have hlen:=r.length
  refine ⟨"list",_,slot_list_getitem.lookup,ht.isList.typeIs,?_⟩
  refine wpAny_getItem_list_slice ht.isList hs pl pu .none (by simp) ?_ (by rw [List.size_toArray] <;> omega)
  rw [slicePick_cut,← hlen]
  refine ⟨.ref s.heap.objs.size,_,I.laid (t':=s.toks) (o:=.lst (cutV xs lo hi)) (fun b ob q => Heap.get?_push_of_some _ q) (Nat.le_refl _) ?_,rfl,q _ (I.hok.fresh (Nat.le_refl _))⟩
  exact ⟨Nat.le_trans (cutV_length xs lo hi) hz,_,0,(r.drop (HT.sIx xs.length 0 lo)).take (HT.sIx xs.length xs.length hi - HT.sIx xs.length 0 lo),Heap.get?_push_size _ rfl⟩
def flatV : V→Bool
  | .non => true
  | .bl _ => true
  | .int _ => true
  | .str _ => true
  | _ => false
def eqV : V→V→Bool
  | .non,.non => true
  | .bl a,.bl b => a == b
  | .bl a,.int b => (if a then 1 else 0) == b
  | .int a,.bl b => a == (if b then 1 else 0)
  | .int a,.int b => a == b
  | .str a,.str b => a == b
  | _,_ => false
theorem eqAt_V {A : Around} {s : Shared} {y x : V} {u v : Value} (ry : RelV y u) (rx : RelV x v) (fy : flatV y = true) (fx : flatV x = true) : SeqAt.EqAt A s u v (eqV y x) := by
  cases y with
  | non =>
    cases ry
    cases x with
    | non => cases rx; exact SeqAt.EqAt.same _
    | bl b => cases rx; exact SeqAt.EqAt.none_bool b
    | int b => obtain ⟨t,rfl⟩:=rx; exact SeqAt.EqAt.none_int b t
    | str b => obtain ⟨t,rfl⟩:=rx; exact SeqAt.EqAt.none_str b t
    | _ => exact absurd (show false = true from fx) Bool.false_ne_true
  | bl a =>
    cases ry
    cases x with
    | non => cases rx; exact SeqAt.EqAt.bool_none a
    | bl b => cases rx; exact SeqAt.EqAt.bool_bool a b
    | int b => obtain ⟨t,rfl⟩:=rx; exact SeqAt.EqAt.bool_int a b t
    | str b => obtain ⟨t,rfl⟩:=rx; exact SeqAt.EqAt.bool_str a b t
    | _ => exact absurd (show false = true from fx) Bool.false_ne_true
  | int a =>
    obtain ⟨t',rfl⟩:=ry
    cases x with
    | non => cases rx; exact SeqAt.EqAt.int_none a t'
    | bl b => cases rx; exact SeqAt.EqAt.int_bool a t' b
    | int b => obtain ⟨t,rfl⟩:=rx; exact SeqAt.EqAt.int_int a t' b t
    | str b => obtain ⟨t,rfl⟩:=rx; exact SeqAt.EqAt.int_str a t' b t
    | _ => exact absurd (show false = true from fx) Bool.false_ne_true
  | str a =>
    obtain ⟨t',rfl⟩:=ry
    cases x with
    | non => cases rx; exact SeqAt.EqAt.str_none a t'
    | bl b => cases rx; exact SeqAt.EqAt.str_bool a t' b
    | int b => obtain ⟨t,rfl⟩:=rx; exact SeqAt.EqAt.str_int a t' b t
    | str b => obtain ⟨t,rfl⟩:=rx; exact SeqAt.EqAt.str_str a t' b t
    | _ => exact absurd (show false = true from fx) Bool.false_ne_true
  | _ => exact absurd (show false = true from fy) Bool.false_ne_true
def eqU (x : V) (u : Value) : Bool:=match u with
  | .none => eqV .non x
  | .bool b => eqV (.bl b) x
  | .int i _ => eqV (.int i) x
  | .str z _ => eqV (.str z) x
  | _ => false
theorem eqU_of {x y : V} {u : Value} (r : RelV y u) (f : flatV y = true) : eqU x u = eqV y x := by
  cases y with
  | non => cases r; rfl
  | bl b => cases r; rfl
  | int i => obtain ⟨t,rfl⟩:=r; rfl
  | str z => obtain ⟨t,rfl⟩:=r; rfl
  | _ => exact absurd (show false = true from f) Bool.false_ne_true
theorem any_eqU {x : V} : ∀ {xs : List V} {us : List Value},Vals xs us→xs.all flatV = true→us.any (eqU x) = xs.any fun y => eqV y x
  | _,_,.nil,_ => rfl
  | y :: xs,u :: us,.cons r t,f => by
    rw [List.all_cons,Bool.and_eq_true] at f
    rw [List.any_cons,List.any_cons,eqU_of r f.1,any_eqU t f.2]
theorem mem_eqAt {A : Around} {s : Shared} {x : V} {v : Value} (rx : RelV x v) (fx : flatV x = true) : ∀ {xs : List V} {us : List Value},Vals xs us→xs.all flatV = true→∀ u∈us,SeqAt.EqAt A s u v (eqU x u)
  | _,_,.nil,_ => fun u hu => by cases hu
  | y :: xs,u :: us,.cons r t,f => fun u' hu => by
    rw [List.all_cons,Bool.and_eq_true] at f
    rcases List.mem_cons.mp hu with rfl | hu
    · rw [eqU_of r f.1]; exact eqAt_V r rx f.1 fx
    · exact mem_eqAt rx fx t f.2 u' hu
def inV (x : V) (xs : List V) : Bool:=xs.any fun y => eqV y x
def rIn (K : PySem.W.Frag) (neg : Bool) : R2:=fun x y H Q => ∃ p xs,y = .ref p∧(SqL K H p xs∨SqT K H p xs)∧flatV x = true∧xs.all flatV = true∧Q (.bl (if neg then !inV x xs else inV x xs)) H
theorem op_in_seq : OpR X (compareOp .In) (rIn X.K false) := by
  intro pins s σ H x y v u Q I rx ry h
  obtain ⟨p,xs,rfl,hq,fx,fs,q⟩:=h
  cases ry
  rcases hq with hq | hq
  · obtain ⟨its,r,pl,hz⟩:=I.list hq
    refine SeqAt.in_listAt (eqU x) pl.isList (fun w hw => mem_eqAt rx fx r fs w (by simpa using hw)) ⟨.bl _,H,I,rfl,?_⟩
    rw [show its.toArray.any (eqU x) = its.any (eqU x) by simp,any_eqU r fs]
    exact q
  · obtain ⟨its,r,pl,hz⟩:=I.tuple hq
    refine SeqAt.in_tupleAt (eqU x) pl (fun w hw => mem_eqAt rx fx r fs w (by simpa using hw)) ⟨.bl _,H,I,rfl,?_⟩
    rw [show its.toArray.any (eqU x) = its.any (eqU x) by simp,any_eqU r fs]
    exact q
theorem call_len_seq : CallR X (.builtin "len") (fun xs H Q => ∃ p ys,xs = [.ref p]∧(SqL X.K H p ys∨SqT X.K H p ys)∧Q (.int ys.length) H) := by
  intro pins s σ H xs us Q I r h
  obtain ⟨p,ys,rfl,hq,q⟩:=h
  obtain ⟨u,rfl,rx⟩:=vals1 r
  cases rx
  have hn:=line63
  rcases hq with hq | hq
  · obtain ⟨its,r',pl,hz⟩:=I.list hq
    have hlen:=r'.length
    exact Calls.call_len_list pl.isList (by simp only [List.size_toArray] <;> omega) ⟨.int ys.length,H,I.tok _,⟨s.toks + 1,by rw [List.size_toArray,hlen]⟩,q⟩
  · obtain ⟨its,r',pl,hz⟩:=I.tuple hq
    have hlen:=r'.length
    exact len_tuple pl (by simp only [List.size_toArray] <;> omega) ⟨.int ys.length,H,I.tok _,⟨s.toks + 1,by rw [List.size_toArray,hlen]⟩,q⟩
theorem call_tuple_of : CallR X (.type "tuple") (fun xs H Q => ∃ p ys,xs = [.ref p]∧((SqL X.K H p ys∧∀ l,H l = none→Q (.ref l) (upd H l (.tup ys)))∨(SqT X.K H p ys∧Q (.ref p) H))) := by
  intro pins s σ H xs us Q I r h
  obtain ⟨p,ys,rfl,h⟩:=h
  obtain ⟨u,rfl,rx⟩:=vals1 r
  cases rx
  rcases h with ⟨hq,q⟩ | ⟨hq,q⟩
  · obtain ⟨its,r',pl,hz⟩:=I.list hq
    have hlen:=r'.length
    refine call_tuple_list pl.isList (fun h' kp => ?_) (by simp only [List.size_toArray] <;> omega)
    have I1 : Inv X pins σ H { s with heap:=h' }:=I.kept (t':=s.toks) kp
    have I2 : Inv X pins σ (upd H h'.objs.size (.tup ys)) { s with heap:=h'.push { cls:=.type "tuple",data:=.seq its.toArray } } :=
      I1.laid (t':=s.toks) (fun b o e => Heap.get?_push_of_some _ e) (Nat.le_refl _) (show ObjOk X.prog X.w _ _ _ (.tup ys) from ⟨hz,its,r',IsTup.new _ _⟩)
    exact ⟨.ref h'.objs.size,_,I2,rfl,q _ (I1.hok.fresh (Nat.le_refl _))⟩
  · obtain ⟨its,r',pl,hz⟩:=I.tuple hq
    exact call_tuple_same pl ⟨.ref p,H,I,rfl,q⟩
def tyV (K : PySem.W.Frag) (T : String) (x : V) (H : Hp) : Prop:=match x with
  | .str _ => T = "str"
  | .int _ => T = "int"
  | .ref p => (T = "list" ∧ ∃ xs,SqL K H p xs)∨(T = "tuple" ∧ ∃ o,K.lookup p = some o∧o.cls = .type "tuple" ∧ o.dict = none) ∨
      (T = "dict" ∧ ((∃ kvs,H p = some (.dK kvs))∨∃ kvs,H p = some (.dT kvs)))∨(T = "set" ∧ ∃ S n,H p = some (.set S n))
  | _ => False
theorem tyV_is {pins : List (Addr×Obj)} {σ : St} {H : Hp} {s : Shared} {T : String} {x : V} {v : Value} (I : Inv X pins σ H s) (r : RelV x v) (ty : tyV X.K T x H) :
    s.TypeIs v T∧∀ a,v = .ref a→∃ ob,s.heap.get? a = some ob∧ob.dict = none := by
  cases x with
  | str z =>
    obtain ⟨t,rfl⟩:=r
    cases (show T = "str" from ty)
    exact ⟨typeIs_str s z t,fun _ e => nomatch e⟩
  | int i =>
    obtain ⟨t,rfl⟩:=r
    cases (show T = "int" from ty)
    exact ⟨typeIs_int s i t,fun _ e => nomatch e⟩
  | ref p =>
    cases r
    rcases ty with ⟨rfl,xs,hq⟩ | ⟨rfl,o,hk,hc,hd⟩ | ⟨rfl,hk⟩ | ⟨rfl,S,n,hk⟩
    · obtain ⟨its,_,pl,_⟩:=I.list hq
      refine ⟨pl.isList.typeIs,fun a e => ?_⟩
      cases e
      obtain ⟨o,n,e,c,hd,_⟩:=pl
      exact ⟨o,e,hd⟩
    · refine ⟨⟨o,I.kIn p o hk,hc⟩,fun a e => ?_⟩
      cases e
      exact ⟨o,I.kIn _ o hk,hd⟩
    · have z : ∃ o,s.heap.get? p = some o∧o.ExactDict := by
        rcases hk with ⟨kvs,hk⟩ | ⟨kvs,hk⟩
        · obtain ⟨_,_,_,_,o,_,_,e,ex,_⟩:=I.hok p _ hk
          exact ⟨o,e,ex⟩
        · obtain ⟨_,_,_,_,o,_,_,e,ex,_⟩:=I.hok p _ hk
          exact ⟨o,e,ex⟩
      obtain ⟨o,e,ex⟩:=z
      refine ⟨⟨o,e,ex.1⟩,fun a e2 => ?_⟩
      cases e2
      exact ⟨o,e,ex.2.1⟩
    · obtain ⟨o,_,_,_,e,ex,_⟩:=I.hok p _ hk
      refine ⟨⟨o,e,ex.1⟩,fun a e2 => ?_⟩
      cases e2
      exact ⟨o,e,ex.2.1⟩
  | _ => exact False.elim ty
def tBM0 (K : PySem.W.Frag) (T : String) (r : V→List V→Hp→VK→Prop) (to : TE) : TE:=fun σ H Q => to σ H fun x H1 => tyV K T x H1∧r x [] H1 Q
def tBM (K : PySem.W.Frag) (T : String) (r : V→List V→Hp→VK→Prop) (to : TE) (t : TA) : TE:=fun σ H Q => to σ H fun x H1 => tyV K T x H1∧t σ H1 fun xs H2 => r x xs H2 Q
variable {o e : Expr} {es : List Expr} {to : TE} {t : TA} {name : Str} {apos cpos : Pos} {T id : String} {r : V→List V→Hp→VK→Prop}
theorem pe_bm0 (pa : PlainAttrs T) (slot : Slot T name id) (hty : typeOf (.builtin id) = pure (.type "method_descriptor")) (hm : MtR X id r) (ho : PE X o to)
    (hbase : attributeBase o name X.env (eval o X.env) = eval o X.env := by rfl) (hline : (apos.endLine == cpos.line) = true := by rfl) : PE X (.Call (.Attribute o name apos) [] [] cpos) (tBM0 X.K T r to) := by
  intro pins s σ H Q I h
  refine wpAny_Call_method0_late hbase hline (thn (ho pins s σ H _ I h) fun v s1 ⟨x,H1,I1,r1,ty,q1⟩ => ?_)
  obtain ⟨h1,h2⟩:=tyV_is I1 r1 ty
  exact ⟨T,id,pa,slot,hty,h1,h2,Calls.callWith_builtin rfl (PySem.evalArgs_none (hm pins s1 σ H1 x [] v [] Q I1 r1 .nil q1))⟩
theorem pe_bm (pa : PlainAttrs T) (slot : Slot T name id) (hty : typeOf (.builtin id) = pure (.type "method_descriptor")) (hm : MtR X id r) (ho : PE X o to) (ha : PA X (e :: es) t)
    (hbase : attributeBase o name X.env (eval o X.env) = eval o X.env := by rfl)
    (hfew : ((backTo cpos (starEach (e :: es) X.env)).all (fun x => !x.1) && (backToKw cpos (keywordEach [] X.env)).all (fun x => x.1.isSome)
      && decide ((e :: es).length + ([] : List Keyword).length + (if ([] : List Keyword).isEmpty then 0 else 1) < 30)) = true := by rfl)
    (hline : (apos.endLine == cpos.line) = true := by rfl) (hs : starEach (e :: es) X.env = (false,eval e X.env) :: starEach es X.env := by rfl) (hplain : (backTo cpos (starEach es X.env)).any (·.1) = false := by rfl) :
    PE X (.Call (.Attribute o name apos) (e :: es) [] cpos) (tBM X.K T r to t) := by
  intro pins s σ H Q I h
  refine wpAny_Call_method_late hbase hfew hline rfl (thn (ho pins s σ H _ I h) fun v s1 ⟨x,H1,I1,r1,ty,q1⟩ => ?_)
  obtain ⟨h1,h2⟩:=tyV_is I1 r1 ty
  refine ⟨T,id,pa,slot,hty,h1,h2,?_⟩
  have hA:=ha cpos pins s1 σ H1 _ I1 q1
  rw [hs] at hA ⊢
  refine Calls.callWith_builtin (by show (false || (backTo cpos (starEach es X.env)).any (·.1)) = false; rw [hplain] <;> rfl) (Calls.evalArgs_plain ?_)
  exact thn hA fun us s2 ⟨vs,H2,I2,r2,q2⟩ => hm pins s2 σ H2 x vs v us Q I2 r1 r2 q2
end
def MtM (X : Cx) (id : String) (r : V→List V→Hp→VK→Prop) : Prop :=
  ∀ (pins : List (Addr×Obj)) (s : Shared) (σ : St) (H : Hp) (x : V) (xs : List V) (v : Value) (us : List Value) (Q : VK),Inv X pins σ H s→RelV x v→Vals xs us→r x xs H Q →
    wpAny (model X.prog X.w) X.A (call (.builtin id) (v :: us)) (EP X pins σ Q) X.xe s
theorem Vals.one : ∀ {x : V} {us : List Value},Vals [x] us→∃ u,us = [u]∧RelV x u
  | _,_,.cons r .nil => ⟨_,rfl,r⟩
theorem Vals.two : ∀ {x y : V} {us : List Value},Vals [x,y] us→∃ u v,us = [u,v]∧RelV x u∧RelV y v
  | _,_,_,.cons r (.cons q .nil) => ⟨_,_,rfl,r,q⟩
theorem Vals.zero : ∀ {us : List Value},Vals [] us→us = []
  | _,.nil => rfl
theorem Vals.reverse {xs : List V} {us : List Value} (h : Vals xs us) : Vals xs.reverse us.reverse := by
  induction h with
  | nil => exact .nil
  | cons r t ih => rw [List.reverse_cons,List.reverse_cons]; exact Vals.append ih (.cons r .nil)
theorem Vals.rep {xs : List V} {us : List Value} (h : Vals xs us) : ∀ k : Nat,Vals (List.replicate k xs).flatten (List.replicate k us).flatten
  | 0 => .nil
  | k + 1 => by
    rw [List.replicate_succ,List.replicate_succ,List.flatten_cons,List.flatten_cons]
    exact Vals.append h (Vals.rep h k)
theorem foldl_rep (its : List Value) : ∀ (k : Nat) (acc : List Value),
    List.foldl (fun x1 x2 => x1 ++ x2) acc.toArray (List.replicate k its.toArray) = (acc ++ (List.replicate k its).flatten).toArray
  | 0,acc => by simp
  | k + 1,acc => by
    have e : acc.toArray ++ its.toArray = (acc ++ its).toArray := by simp
    have e2 : (acc ++ its) ++ (List.replicate k its).flatten = acc ++ (List.replicate (k + 1) its).flatten := by
      rw [List.replicate_succ,List.flatten_cons,List.append_assoc]
    rw [← e2,← foldl_rep its k (acc ++ its),← e,List.replicate_succ,List.foldl_cons]
section
variable {X : Cx} {pins : List (Addr×Obj)} {σ : St} {H : Hp} {s : Shared} {l : Addr} {xs ys : List V}
theorem Inv.lset {its its' : List Value} {n : Nat} {f : Array Value→Array Value} {t' : Nat} (I : Inv X pins σ H s) (hH : H l = some (.lst xs))
    (e : s.heap.get? l = some { cls:=.type "list",data:=.seq its.toArray n }) (hf : f its.toArray = its'.toArray) (hv : Vals ys its') (hz : ys.length≤sizeLine) :
    Inv X pins σ (upd H l (.lst ys)) { s with heap:=s.heap.update l (Obj.mapSeq f),toks:=t' } := by
  have q:=PySem.IsL.update e f
  rw [hf] at q
  refine I.write (x:=l) (e:=l) (by rw [hH]; exact trivial) (.inl rfl) (fun b' u hb hu => (Heap.get?_update_other s.heap (Obj.mapSeq f) (Ne.symm hb)).trans hu) ⟨_,q⟩ ?_
  exact ⟨hz,its',_,hv,q⟩
theorem Inv.lnew {its : List Value} {t' : Nat} (I : Inv X pins σ H s) (hv : Vals ys its) (hz : ys.length≤sizeLine) :
    Inv X pins σ (upd H s.heap.objs.size (.lst ys)) { s with heap:=s.heap.push { cls:=.type "list",data:=.seq its.toArray },toks:=t' } :=
  I.laid (fun _ _ q => Heap.get?_push_of_some _ q) (Nat.le_refl _) ⟨hz,its,0,hv,Heap.get?_push_size _ rfl⟩
theorem Inv.fresh (I : Inv X pins σ H s) : H s.heap.objs.size = none:=I.hok.fresh (Nat.le_refl _)
theorem Inv.lstM (I : Inv X pins σ H s) (hH : H l = some (.lst xs)) : xs.length≤sizeLine∧∃ (its : List Value) (n : Nat),Vals xs its∧xs.length = its.length∧s.heap.get? l = some { cls:=.type "list",data:=.seq its.toArray n } := by
  obtain ⟨z,its,n,r,e⟩:=I.hok l _ hH
  exact ⟨z,its,n,r,r.length,e⟩
theorem notLongL {n : Nat} (h : n≤sizeLine) : Builtin.List.listTooLong n = false := by
  unfold Builtin.List.listTooLong
  exact decide_eq_false (by omega)
end
section
variable {X : Cx}
def rAppend : V→List V→Hp→VK→Prop:=fun x vs H Q => ∃ l xs y,x = .ref l∧vs = [y]∧H l = some (.lst xs)∧xs.length < sizeLine∧Q .non (upd H l (.lst (xs ++ [y])))
theorem mt_append : MtM X "list.append" rAppend := by
  intro pins s σ H x vs v us Q I rx rv h
  obtain ⟨l,xs,y,rfl,rfl,hH,hz,q⟩:=h
  cases rx
  obtain ⟨u,rfl,ru⟩:=rv.one
  obtain ⟨z,its,n,r,hl,e⟩:=I.lstM hH
  refine call_meets F.slot_list_append ⟨_,e,rfl⟩ F.entry_list_append (F.args_list_append_2 _ _) (PySem.list_append l its.toArray n u (by rw [List.size_toArray]; omega)) ⟨e,?_⟩
  refine ⟨.non,_,I.lset (its':=its ++ [u]) hH e (by simp) (r.append (.cons ru .nil)) ?_,rfl,q⟩
  rw [List.length_append,List.length_singleton]
  omega
def rExtend : V→List V→Hp→VK→Prop:=fun x vs H Q => ∃ l b xs zs,x = .ref l∧vs = [.ref b]∧H l = some (.lst xs)∧H b = some (.lst zs)∧xs.length + zs.length≤sizeLine∧Q .non (upd H l (.lst (xs ++ zs)))
theorem mt_extend : MtM X "list.extend" rExtend := by
  intro pins s σ H x vs v us Q I rx rv h
  obtain ⟨l,b,xs,zs,rfl,rfl,hH,hB,hz,q⟩:=h
  cases rx
  obtain ⟨u,rfl,ru⟩:=rv.one
  cases ru
  obtain ⟨z,its,n,r,hl,e⟩:=I.lstM hH
  obtain ⟨z2,its2,n2,r2,hl2,e2⟩:=I.lstM hB
  have hsz : its.toArray.size + its2.toArray.size≤sizeLine := by rw [List.size_toArray,List.size_toArray]; omega
  have hlong : ¬ (!its.toArray.isEmpty && Builtin.List.listTooLong (its.toArray.size + its2.toArray.size)) = true := by
    rw [notLongL hsz,Bool.and_false]
    exact Bool.false_ne_true
  refine call_meets F.slot_list_extend ⟨_,e,rfl⟩ F.entry_list_extend (F.args_list_extend_2 _ _)
    (AutoSeq1.list_extend_list_list_0 l its.toArray n b its2.toArray n2 hlong (by rw [List.size_toArray]; omega) (by omega)) ⟨e,e2,?_⟩
  refine ⟨.non,_,I.lset (its':=its ++ its2) hH e (by simp) (r.append r2) ?_,rfl,q⟩
  rw [List.length_append]
  omega
def rClear : V→List V→Hp→VK→Prop:=fun x vs H Q => ∃ l xs,x = .ref l∧vs = []∧H l = some (.lst xs)∧Q .non (upd H l (.lst []))
theorem mt_clear : MtM X "list.clear" rClear := by
  intro pins s σ H x vs v us Q I rx rv h
  obtain ⟨l,xs,rfl,rfl,hH,q⟩:=h
  cases rx
  have hus:=rv.zero
  subst hus
  obtain ⟨z,its,n,r,hl,e⟩:=I.lstM hH
  refine call_meets F.slot_list_clear ⟨_,e,rfl⟩ F.entry_list_clear (F.args_list_clear_1 _) (AutoSeq1.list_clear_list_0 l its.toArray n (by rw [List.size_toArray]; omega)) ⟨e,?_⟩
  exact ⟨.non,_,I.lset (its':=[]) (ys:=[]) hH e rfl .nil (Nat.zero_le _),rfl,q⟩
def rCat : R2:=fun x y H Q => ∃ l b xs zs,x = .ref l∧y = .ref b∧H l = some (.lst xs)∧H b = some (.lst zs)∧xs.length + zs.length≤sizeLine∧∀ p,H p = none→Q (.ref p) (upd H p (.lst (xs ++ zs)))
theorem op_cat : OpR X (binaryOp .Add) rCat := by
  intro pins s σ H x y v u Q I rx ry h
  obtain ⟨l,b,xs,zs,rfl,rfl,hH,hB,hz,q⟩:=h
  cases rx
  cases ry
  obtain ⟨z,its,n,r,hl,e⟩:=I.lstM hH
  obtain ⟨z2,its2,n2,r2,hl2,e2⟩:=I.lstM hB
  refine PySem.P.add_list e e2 ?_ (by rw [List.size_toArray,List.size_toArray]; omega)
  have ea : its.toArray ++ its2.toArray = (its ++ its2).toArray := by simp
  rw [ea]
  exact ⟨.ref _,_,I.lnew (t':=s.toks) (r.append r2) (by rw [List.length_append]; omega),rfl,q _ I.fresh⟩
def rRep : R2:=fun x y H Q => ∃ l k xs,x = .ref l∧y = .int k∧H l = some (.lst xs)∧-(2 ^ 63)≤k∧k < 2 ^ 63∧xs.length * k.toNat≤sizeLine ∧
  ∀ p,H p = none→Q (.ref p) (upd H p (.lst (List.replicate k.toNat xs).flatten))
theorem len_rep {α : Type} (xs : List α) (k : Nat) : (List.replicate k xs).flatten.length = k * xs.length := by
  induction k with
  | zero => simp
  | succ k ih => rw [List.replicate_succ,List.flatten_cons,List.length_append,ih,Nat.succ_mul,Nat.add_comm]
theorem op_rep : OpR X (binaryOp .Mult) rRep := by
  intro pins s σ H x y v u Q I rx ry h
  obtain ⟨l,k,xs,rfl,rfl,hH,h1,h2,hz,q⟩:=h
  cases rx
  obtain ⟨t,rfl⟩:=ry
  obtain ⟨z,its,n,r,hl,e⟩:=I.lstM hH
  have hlen : its.toArray.size * k.toNat≤sizeLine := by rw [List.size_toArray,← hl]; exact hz
  have hcap : ¬ its.toArray.size * k.toNat > (2 ^ 63 - 1) / 8 := by
    have : (sizeLine : Nat)≤(2 ^ 63 - 1) / 8 := by decide
    omega
  have hfit : ¬ (!Builtin.List.listFitsIndex k) = true := by
    rw [fitsIndex_both h1 h2]
    exact Bool.false_ne_true
  have hlong : ¬ Builtin.List.listTooLong (its.toArray.size * k.toNat) = true := by
    rw [notLongL hlen]
    exact Bool.false_ne_true
  have hnew : List.foldl (fun x1 x2 => x1 ++ x2) #[] (List.replicate (if its.toArray.isEmpty = true then 0 else k.toNat) its.toArray) = (List.replicate k.toNat its).flatten.toArray := by
    have f0 : ∀ m : Nat,List.foldl (fun x1 x2 => x1 ++ x2) #[] (List.replicate m its.toArray) = (List.replicate m its).flatten.toArray:=fun m => by
      have:=foldl_rep its m []
      rw [List.nil_append] at this
      exact this
    rw [f0]
    cases its with
    | nil => simp
    | cons a r' => rw [if_neg (by simp)]
  refine wpAny_binaryOp_repeat_ref (T := "list") (U := "int") (by decide) ⟨_,e,rfl⟩ (fun s' => typeIs_int s' k t) noFill_list_mul F.fills_int_mul F.slot_int_rmul repeat_list F.slot_int_index.lookup
    (call_meets F.slot_int_rmul (typeIs_int s k t) F.entry_int_rmul (F.args_int_rmul_2 _ _) (int___rmul___int_list k t l its.toArray n)
      ⟨e,rfl,⟨_,e,rfl⟩,call_meets F.slot_list_mul ⟨_,e,rfl⟩ F.entry_list_mul (F.args_list_mul_2 _ _) (AutoListH.list___mul___list_int_3 l its.toArray n k t hfit hcap hlong) ⟨e,?_⟩⟩)
  rw [hnew]
  exact ⟨.ref _,_,I.lnew (t':=s.toks) (r.rep k.toNat) (by rw [len_rep,Nat.mul_comm]; exact hz),rfl,q _ I.fresh⟩
end
end L2
namespace Att
open PySem PySem.W PySem.Calls PyProof.Rows
theorem ints_of_wellAll {P : Params} {h : Heap} : ∀ (ns : List Int) (vs : List Value),WellAll P h vs (ns.map WData.int)→IntsAre vs ns := by
  intro ns
  induction ns with
  | nil =>
    intro vs w
    rw [List.map_nil] at w
    cases w
    exact .nil
  | cons n ns ih =>
    intro vs w
    rw [List.map_cons] at w
    cases w with
    | cons a b =>
      cases a
      exact .cons _ _ (ih _ b)
theorem script_of {l : OpenLaw} {n : Nat} (hn : l.most = some n) {P : Params} {h : Heap} {args : List WData} {vals : List Value}
    (hpre : l.row.toRowW.claim.pre args = true) (hwl : WellAll P h vals args) :
    ∃ a vs ns,vals = [Value.ref a]∧args = [WData.list (ns.map WData.int)]∧h.get? a = some { cls:=.type "list",data:=.seq vs.toArray }∧IntsAre vs ns∧ns.length≤n := by
  have hsh : WShape.hasAll [] args [.list .int] = true:=(pre_splitW hpre).1
  have hc : l.pre.holds [] { args:=args } = true:=(pre_splitW hpre).2
  obtain ⟨d,r,rfl,h1,h2⟩:=hasAllW_cons hsh
  obtain rfl:=hasAllW_nil h2
  obtain ⟨xs,rfl,h3⟩:=hasW_list h1
  obtain ⟨ns,rfl⟩:=items_int h3
  have hlen : ns.length≤n := by
    unfold OpenLaw.pre at hc
    have h4 : (WTm.not (.lt (.lit (.int (n : Int))) (.len (.arg 0)))).holds [] { args:=[.list (ns.map .int)] } = true := by
      have h4:=(holds_andW hc).1
      rw [hn] at h4
      exact h4
    have h5:=condW_of h4 (w_not (w_lt w_lit (w_len_list (w_arg rfl))))
    rw [List.length_map] at h5
    refine Nat.le_of_not_lt fun q => ?_
    have q' : (n : Int) < ((ns.length : Nat) : Int) := by omega
    first
      | (rw [decide_eq_true q'] at h5; exact absurd h5 (by decide))
      | (simp at h5; omega)
  cases hwl with
  | cons w1 w2 =>
    cases w2
    cases w1 with
    | list ho hall => exact ⟨_,_,ns,rfl,rfl,ho,ints_of_wellAll ns _ hall,hlen⟩
theorem post_true (l : OpenLaw) (args : List WData) : l.row.toRowW.claim.post args (.bool true) args = true :=
  postW_of (r:=l.row.toRowW) (X:=(true == true))
    (show WShape.has [] (.bool true) .bool = true by first | rfl | decide | simp [WShape.has,WShape.arms,WShape.armsAll])
    (show (WTm.eq .res (.lit (.bool true))).value [] { args:=args,res:=some (.bool true),after:=args } = some (.bool (true == true)) from w_eq_bool (w_res rfl) w_lit) rfl
theorem attach_call {l : OpenLaw} {n : Nat} {q : Program} {loose : List Str} {XP : (Str→Option Value)→Heap→Prop} {YP : World→Heap→Prop} {d : DefRec}
    (hn : l.most = some n) (hdf : d.params.defaults = [])
    (call : ∀ (w : World) (s₀ s₁ : Shared) (mg mb : Str→Option Value) (fa : Addr) (o : Obj) (pm cd doc : Value) (a : Addr) (vs : List Value) (ns : List Int),
      Ground q loose [] XP w s₀ mg mb s₁.heap→YP w s₁.heap →
      s₁.heap.get? fa = some o→o.data = .func (docDef d.name d.params d.body d.scope pm cd doc)→s₁.heap.CodeRec cd d.name→mg d.name = some (.ref fa) →
      s₁.heap.get? a = some { cls:=.type "list",data:=.seq vs.toArray }→IntsAre vs ns→ns.length≤n→s₁.gens = #[] →
      codeAny (model l.prog w) callerA (.call (.ref fa) ⟨[.ref a],[]⟩) (fun r s' => r = .ok (.ret (.bool true))∧OldK s₁.heap s'.heap∧s'.os = s₁.os∧AllBare s'.gens) s₁) :
    WalkO q loose XP YP l.row.toRowW d [] (fun f vs => PySem.call f vs) := by
  intro w s₀ s₁ mg mb G Y fa o pm cd doc dV kV ho hd hcd hD hmg hg args vals as hpre hlay hrd hwl hlo
  obtain rfl : dV = .none:=Dflts.none hD hdf
  obtain rfl : kV = .none:=Dflts.noKw hD
  obtain ⟨a,vs,ns,rfl,rfl,hobj,hints,hlen⟩:=script_of hn hpre hwl
  refine enter_call (codeAny_mono (call w s₀ s₁ mg mb fa o pm cd doc a vs ns G Y ho (fd_plain hd) hcd hmg hobj hints hlen hg) fun r s' hq => ?_)
  obtain ⟨rfl,h2,h3,h4⟩:=hq
  exact ⟨.inl ⟨.bool true,.bool true,[],rfl,fun _ => rfl,.bool true,post_true l _,fun _ => ⟨List.Pairwise.nil,fun _ hm => (nomatch hm)⟩⟩,h2,h3,h4⟩
end Att
namespace L2
open PySem PySem.Spec PyProof.Rows
theorem vals_ints : ∀ {vs : List Value} {ns : List Int},IntsAre vs ns→Vals (ns.map V.int) vs
  | _,_,.nil => .nil
  | _,_,.cons n t h => .cons ⟨t,rfl⟩ (vals_ints h)
def Only (H : Hp) : Prop:=∀ b,H b = none∨∃ o xs,H b = some (.frz o (.lst xs))
theorem law_call {P : Program} {w : World} {K : PySem.W.Frag} {mg mb : Str→Option Value} {CX : CXT} {k : Nat} {fa a : Addr} {fd : FuncData} {x : Str} {sp : Sp} {s₁ : Shared} {vs : List Value} {ns : List Int}
    (KX : K.In s₁.heap) (hns : s₁.heap.Ns mainGlobals mg) (hb : s₁.heap.Ns builtinsNs mb) (hbb : ∀ x : Str,x ≠ "__name__" → mb x = bootBuiltins x) (hlim : s₁.heap.NoLimit) (hg : s₁.gens = #[])
    (ha : s₁.heap.get? a = some { cls:=.type "list",data:=.seq vs.toArray }) (hi : IntsAre vs ns) (hl : ns.length≤sizeLine) (hr : Room k callerA)
    (F : ∀ base : Heap,K.In base→base.Ns mainGlobals mg→FnOk P w K mg base CX k fa fd [x] sp) (hbind : ∀ (s : Shared) (u : Value),BindsTo s fd ⟨[u],[]⟩ [(x,u)])
    (hsp : ∀ H : Hp,Only H→SqL K H a (ns.map V.int)→sp [.ref a] H (fun v _ => v = .bl true) fun _ _ _ => False)
    (hCX : ∀ H e s',CX [] H s₁ (fun _ _ _ => False) e s'→False) :
    codeAny (model P w) callerA (.call (.ref fa) ⟨[.ref a],[]⟩) (fun r s' => r = .ok (.ret (.bool true))∧OldK s₁.heap s'.heap∧s'.os = s₁.os∧AllBare s'.gens) s₁ := by
  have rv:=vals_ints hi
  have lenV:=hi.length
  have core : ∀ H : Hp,Only H→SqL K H a (ns.map V.int)→HOk P w H s₁.heap→(∀ b,H b≠none→b = a)→(H a≠none→K.lookup a = none) →
      codeAny (model P w) callerA (.call (.ref fa) ⟨[.ref a],[]⟩) (fun r s' => r = .ok (.ret (.bool true))∧OldK s₁.heap s'.heap∧s'.os = s₁.os∧AllBare s'.gens) s₁ := by
    intro H hO hS hok hA hK
    have base_of : ∀ {b : Addr} {o : Obj},s₁.heap.get? b = some o→H b = none→(hidT s₁.heap H).get? b = some o:=fun e n => hidT_get e n
    have noA : ∀ {b : Addr} {o : Obj} {es : Array DictEntry} {ep : Nat},s₁.heap.get? b = some o→o.data = .dict es ep→H b = none:=fun {b o es ep} e d => by
      cases q : H b with
      | none => rfl
      | some u =>
        have e' : b = a:=hA b (by rw [q]; simp)
        subst e'
        rw [ha] at e; cases e
        have d' : Data.seq vs.toArray _ = Data.dict es ep:=d
        cases d'
    have nsK : ∀ {b : Addr} {m : Str→Option Value},s₁.heap.Ns b m→(hidT s₁.heap H).Ns b m:=fun {b m} ⟨o,es,ep,e,d,r⟩ => ⟨o,es,ep,base_of e (noA e d),d,r⟩
    have hKb : K.In (hidT s₁.heap H):=fun b o e => base_of (KX b o e) (by
      cases q : H b with
      | none => rfl
      | some u =>
        have e' : b = a:=hA b (by rw [q]; simp)
        subst e'
        rw [hK (by rw [q]; simp)] at e; cases e)
    have hM : Mod K mg (hidT s₁.heap H):=⟨hKb,nsK hns,⟨mb,nsK hb,hbb⟩,let ⟨mc,h1,h2⟩:=hlim; ⟨mc,nsK h1,h2⟩⟩
    have e0 : Env0 P w K mg (hidT s₁.heap H) callerA [] s₁ H:=⟨rfl,hM,fun b o e => of_hidT e,Nat.le_of_eq (hidT_size _ _),trivial,fun b hb => absurd (show b∈([] : List Addr) from hb) (by simp),hok,.of_eq hg⟩
    refine codeAny_mono ((F _ hKb (nsK hns)).run callerA [] s₁ H ⟨[.ref a],[]⟩ [.ref a] [.ref a] _ _ hr e0 (hbind s₁ (.ref a)) (.cons rfl .nil) (hsp H hO hS)) fun r s' h => ?_
    cases r with
    | error e => exact (hCX H e s' h).elim
    | ok fl =>
      cases fl with
      | next => exact False.elim h
      | brk => exact False.elim h
      | cont => exact False.elim h
      | ret u =>
        obtain ⟨v,H',os,bare,un,hok',r',q⟩:=h
        have q' : v = .bl true:=q
        subst q'
        obtain rfl : u = Value.bool true:=r'
        refine ⟨rfl,OldK.of_keep fun b o e => ?_,os,bare⟩
        cases q : H b with
        | none => exact un.keep b o e q (by intro z; exact absurd (show b∈([] : List Addr) from z) (by simp)) (by simp)
        | some u =>
          rcases hO b with z | ⟨ob,xs,z⟩
          · rw [q] at z; cases z
          · have z2:=un.frzs b ob _ z
            obtain ⟨e1,_⟩:=hok b _ z
            obtain ⟨e2,_⟩:=hok' b _ z2
            rw [e] at e1; cases e1
            exact e2
  cases hk : K.lookup a with
  | some o =>
    have e:=KX a o hk
    rw [ha] at e
    cases e
    refine core (fun _ => none) (fun _ => .inl rfl) (.inr ⟨_,vs.toArray,_,hk,rfl,rfl,rfl,by rw [List.size_toArray,lenV]; exact hl,by simpa using rv⟩) (fun b u z => by have z' : (none : Option HO) = some u:=z; cases z') (fun b z => absurd rfl z) fun z => absurd rfl z
  | none =>
    refine core (fun b => if b = a then some (.frz { cls:=.type "list",data:=.seq vs.toArray } (.lst (ns.map V.int))) else none) (fun b => ?_) (.inl (.inr ⟨{ cls:=.type "list",data:=.seq vs.toArray },if_pos rfl⟩)) (fun b u z => ?_) (fun b z => ?_) fun _ => hk
    · by_cases hb : b = a
      · exact .inr ⟨_,_,if_pos hb⟩
      · exact .inl (if_neg hb)
    · by_cases hb : b = a
      · have z':=(if_pos hb).symm.trans z
        cases z'
        subst hb
        exact ⟨ha,by rw [List.length_map]; exact hl,vs,_,rv,ha⟩
      · have z':=(if_neg hb).symm.trans z
        cases z'
    · by_cases hb : b = a
      · exact hb
      · exact absurd (if_neg hb) z
theorem walk_of {l : PySem.W.OpenLaw} {n k : Nat} {q : Program} {loose : List Str} {XP : (Str→Option Value)→Heap→Prop} {YP : World→Heap→Prop} {d : DefRec} {K : Params→PySem.W.Frag} {CX : World→CXT} {sp : World→Sp} {x : Str}
    (hn : l.most = some n) (hn2 : n≤sizeLine) (hdf : d.params.defaults = []) (hr : Room k callerA)
    (hY : ∀ (w : World) (h : Heap),YP w h→(K w.params).In h)
    (F : ∀ (w : World) (mg : Str→Option Value) (fa : Addr) (h : Heap),(K w.params).In h→h.Ns mainGlobals mg→mg d.name = some (.ref fa) →
      ∃ fd : FuncData,(∀ (s : Shared) (u : Value),BindsTo s fd ⟨[u],[]⟩ [(x,u)]) ∧
        ∀ base : Heap,(K w.params).In base→base.Ns mainGlobals mg→FnOk l.prog w (K w.params) mg base (CX w) k fa fd [x] (sp w))
    (hsp : ∀ (w : World) (H : Hp) (a : Addr) (ns : List Int),ns.length≤n→Only H→SqL (K w.params) H a (ns.map V.int)→sp w [.ref a] H (fun v _ => v = .bl true) fun _ _ _ => False)
    (hCX : ∀ (w : World) (H : Hp) (s : Shared) (e : Value) (s' : Shared),CX w [] H s (fun _ _ _ => False) e s'→False) :
    PySem.W.WalkO q loose XP YP l.row.toRowW d [] (fun f vs => PySem.call f vs) := by
  refine Att.attach_call hn hdf fun w s₀ s₁ mg mb fa o pm cd doc a vs ns G Y ho hd hcd hmg hobj hints hlen hg => ?_
  have KX:=hY w _ Y
  obtain ⟨fd,hb,hF⟩:=F w mg fa _ KX G.T.g hmg
  exact law_call KX G.T.g G.T.b G.T.builtins G.T.nolimit hg hobj hints (Nat.le_trans hlen hn2) hr hF hb (fun H hO hS => hsp w H a ns hlen hO hS) fun H e s' => hCX w H s₁ e s'
def defArgs (s : Stmt) : Arguments:=match s with
  | .FunctionDef _ a _ _ _ _ _ _ _ _ => a
  | _ => { posonlyargs:=[],args:=[],vararg:=none,kwonlyargs:=[],kw_defaults:=[],kwarg:=none,defaults:=[] }
def defBody (s : Stmt) : List Stmt:=match s with
  | .FunctionDef _ _ b _ _ _ _ _ _ _ => b
  | _ => []
def defScope (s : Stmt) : Scope:=match s with
  | .FunctionDef _ _ _ _ _ _ sc _ _ _ => sc
  | _ => { kind:=.function,names:=[],isGenerator:=false,isCoroutine:=false }
abbrev CX0 : CXT:=fun _ _ _ _ _ _ => False
abbrev E0 : XK:=fun _ _ _ => False
theorem pass0 {X : Cx} : Passes CX0 X E0:=fun _ _ _ _ _ _ _ h => h.elim
structure Fun (K : PySem.W.Frag) (x qual : Str) (st : Stmt) (f : Addr) (fd : FuncData) : Prop where
  ex : ∃ (oc : Value) (od : Option Addr) (kV doc pm : Value) (an : Option Addr) (cdv ct : Value) (osl : Array (Option Value)),
    fd = PySem.W.fnOf x qual (defArgs st) (defBody st) (defScope st) .none kV doc pm an cdv ct∧K.lookup f = some ⟨oc,od,.func fd,osl⟩∧PySem.W.codeIn K cdv qual = true
  kp : PySem.W.keepIn K (.ref f) = true
section
variable {P : Program} {w : World} {K : PySem.W.Frag} {mg : Str→Option Value} {base : Heap}
theorem Fun.ok {x qual : Str} {st : Stmt} {f : Addr} {fd : FuncData} {N ps : List Str} {k : Nat} {sp : Sp} (F : Fun K x qual st f fd) (S : FnScope N ps (defScope st)) (len : ∀ vs H Q E,sp vs H Q E→vs.length = ps.length)
    (hbody : ∀ (cdv : Value) (A : Around) (outer : List Env) (s : Shared) (H : Hp) (vs : List V) (Q : VK) (E : XK),Room k (A.deeper (envOfC qual (defScope st) s.heap.objs.size f cdv))→sp vs H Q E →
      ∃ t,PSs (cxOf CX0 P w K mg base N qual (defScope st) f cdv A outer s H E).nox (defBody st) t∧t { nx:=fun _ H' => Q .non H',rt:=Q } (start N vs) H) : FnOk P w K mg base CX0 (k + 1) f fd ps sp := by
  obtain ⟨oc,od,kV,doc,pm,an,cdv,ct,osl,rfl,lk,hcd⟩:=F.ex
  refine fn_of lk hcd S len fun A outer s H vs Q E hr hsp => ?_
  obtain ⟨t,h,q⟩:=hbody cdv A outer s H vs Q E hr hsp
  exact ⟨t,h.nox,q⟩
theorem Fun.binds {x qual : Str} {st : Stmt} {f : Addr} {fd : FuncData} {ps : List Str} (F : Fun K x qual st f fd)
    (h : ∀ (kV doc pm : Value) (an : Option Addr) (cdv ct : Value) (us : List Value),us.length = ps.length→bindArgs (PySem.W.fnOf x qual (defArgs st) (defBody st) (defScope st) .none kV doc pm an cdv ct) ⟨us,[]⟩ = pure (ps.zip us)) : Binds K fd ps [] := by
  obtain ⟨oc,od,kV,doc,pm,an,cdv,ct,osl,rfl,lk,hcd⟩:=F.ex
  exact .all (h kV doc pm an cdv ct)
theorem fun_mk {x qual : Str} {st : Stmt} {f : Addr} {oc : Value} {od an : Option Addr} {osl : Array (Option Value)} {kV doc pm cdv ct : Value} (l : K.lookup f = some ⟨oc,od,.func (PySem.W.fnOf x qual (defArgs st) (defBody st) (defScope st) .none kV doc pm an cdv ct),osl⟩)
    (c : PySem.W.codeIn K cdv qual = true) (k : PySem.W.keepIn K (.ref f) = true) : Fun K x qual st f (PySem.W.fnOf x qual (defArgs st) (defBody st) (defScope st) .none kV doc pm an cdv ct):=⟨⟨oc,od,kV,doc,pm,an,cdv,ct,osl,rfl,l,c⟩,k⟩
end
theorem small1000 {n : Nat} (h : n≤1000) : n < sizeLine:=Nat.lt_of_le_of_lt h (by decide)
section
variable {X : Cx}
theorem pv (i : Nat) {x : Str} {pos : Pos} (hN : X.N[i]? = some x := by rfl) (hv : Vis X.env.scope x := by first | exact Or.inl rfl | exact Or.inr (Or.inl rfl) | exact Or.inr (Or.inr rfl)) (hd : (x == ("__debug__" : Str)) = false := by decide)
    (hcd : (x == ("__classdict__" : Str)) = false := by decide) : PE X (.Name x pos) (tVar i):=pe_var hN hv hd hcd
end
theorem iteF {A B : Prop} (h : B) : if false = true then A else B := by
  rw [if_neg Bool.false_ne_true]
  exact h
theorem iteT {A B : Prop} (h : A) : if true = true then A else B := by
  rw [if_pos rfl]
  exact h
theorem ite2 {c A B : Prop} [Decidable c] (h1 : c→A) (h2 : ¬ c→B) : if c then A else B := by
  by_cases h : c
  · rw [if_pos h]
    exact h1 h
  · rw [if_neg h]
    exact h2 h
def Same (H H' : Hp) : Prop:=∀ b o,H b = some o→H' b = some o
theorem Same.refl (H : Hp) : Same H H:=fun _ _ h => h
theorem Same.trans {H H1 H2 : Hp} (a : Same H H1) (b : Same H1 H2) : Same H H2:=fun c o h => b c o (a c o h)
section
variable {X : Cx}
def CMulW (i j : Int) : Prop:=∃ m : Nat,m≤1000000∧i.natAbs < 2 ^ m∧j.natAbs < 2 ^ m
theorem CMulW.ok {i j : Int} (h : CMulW i j) : IntMulOk i j := by
  obtain ⟨m,hm,h1,h2⟩:=h
  exact IntMulOk.of_le (intBits_le_iff.mpr h1) (intBits_le_iff.mpr h2) (by omega)
theorem op_mulW : OpR X (binaryOp .Mult) (rI (fun i j => CMul i j∨CMulW i j) fun i j => .int (i * j)) :=
  opI fun _ _ _ _ _ _ _ hc q => mul_int q (hc.elim (fun z => z.ok) fun z => z.ok)
def CDivW (_i j : Int) : Prop:=j≠0∧∃ m : Nat,m≤9000∧j.natAbs < 2 ^ m
theorem op_fdivW : OpR X (binaryOp .FloorDiv) (rI CDivW fun i j => .int (i.fdiv j)):=opI fun i j _ _ _ _ _ hc q => by
  obtain ⟨h0,m,hm,h1⟩:=hc
  refine floordiv_int h0 q (.inl (PyProof.noPylong_of_log2 ?_))
  have hne : j.natAbs≠0 := by omega
  have : j.natAbs.log2 < m:=(Nat.log2_lt hne).mpr h1
  omega
mutual
def Br (K : PySem.W.Frag) (H : Hp) : PyData→V→Prop
  | .none,v => v = .non
  | .bool b,v => v = .bl b
  | .int i,v => v = .int i
  | .str x,v => v = .str x
  | .tuple ds,v => ∃ a xs,v = .ref a∧SqT K H a xs∧BrAll K H ds xs
  | .list ds,v => ∃ a xs,v = .ref a∧SqL K H a xs∧BrAll K H ds xs
  | .dict _,_ => False
def BrAll (K : PySem.W.Frag) (H : Hp) : List PyData→List V→Prop
  | [],xs => xs = []
  | d :: ds,xs => ∃ x r,xs = x :: r∧Br K H d x∧BrAll K H ds r
end
theorem Same.tup {K : PySem.W.Frag} {H H' : Hp} {a : Addr} {xs : List V} (e : Same H H') (h : SqT K H a xs) : SqT K H' a xs := by
  rcases h with (h | ⟨o,h⟩) | h
  · exact .inl (.inl (e _ _ h))
  · exact .inl (.inr ⟨o,e _ _ h⟩)
  · exact .inr h
mutual
theorem Br.reads {pins : List (Addr×Obj)} {σ : St} {H : Hp} {s : Shared} (I : Inv X pins σ H s) : ∀ {d : PyData} {v : V} {u : Value},Br X.K H d v→RelV v u→∃ as,Reads s.heap u d as
  | .none,_,u,h,r => by rw [Br] at h; subst h; cases r; exact ⟨_,.none⟩
  | .bool b,_,u,h,r => by rw [Br] at h; subst h; cases r; exact ⟨_,.bool b⟩
  | .int i,_,u,h,r => by rw [Br] at h; subst h; obtain ⟨t,rfl⟩:=r; exact ⟨_,.int i t⟩
  | .str x,_,u,h,r => by rw [Br] at h; subst h; obtain ⟨t,rfl⟩:=r; exact ⟨_,.str x t⟩
  | .tuple ds,_,u,h,r => by
    rw [Br] at h
    obtain ⟨a,xs,e1,h1,h2⟩:=h
    subst e1
    cases r
    obtain ⟨its,rv,⟨o,e,c,n,hd⟩,_⟩:=I.tuple h1
    obtain ⟨as,ra⟩:=BrAll.reads I h2 rv
    exact ⟨_,.tuple e c hd (by simpa using ra)⟩
  | .list ds,_,u,h,r => by
    rw [Br] at h
    obtain ⟨a,xs,e1,h1,h2⟩:=h
    subst e1
    cases r
    obtain ⟨its,rv,⟨o,n,e,c,_,hd⟩,_⟩:=I.list h1
    obtain ⟨as,ra⟩:=BrAll.reads I h2 rv
    exact ⟨_,.list e c hd (by simpa using ra)⟩
  | .dict _,_,_,h,_ => by rw [Br] at h; exact h.elim
theorem BrAll.reads {pins : List (Addr×Obj)} {σ : St} {H : Hp} {s : Shared} (I : Inv X pins σ H s) : ∀ {ds : List PyData} {xs : List V} {us : List Value},BrAll X.K H ds xs→Vals xs us→∃ as,ReadsAll s.heap us ds as
  | [],_,us,h,r => by rw [BrAll] at h; subst h; cases r; exact ⟨_,.nil⟩
  | _ :: _,_,us,h,r => by
    rw [BrAll] at h
    obtain ⟨x,q,e1,h1,h2⟩:=h
    subst e1
    cases r with
    | cons r1 r2 =>
      obtain ⟨as,ra⟩:=Br.reads I h1 r1
      obtain ⟨bs,rb⟩:=BrAll.reads I h2 r2
      exact ⟨_,.cons ra rb⟩
end
def rEqD (K : PySem.W.Frag) (neg : Bool) : R2:=fun x y H Q => ∃ d e,Br K H d x∧Br K H e y∧SeqAt.shaped d = true∧SeqAt.shaped e = true∧Q (.bl (if neg then !PyData.eqv d e else PyData.eqv d e)) H
theorem op_eqD (hu : X.A.units + 64 < cLine) : OpR X (compareOp .Eq) (rEqD X.K false) := by
  intro pins s σ H x y v u Q I rx ry h
  obtain ⟨d,e,h1,h2,s1,s2,q⟩:=h
  obtain ⟨as,ra⟩:=Br.reads I h1 rx
  obtain ⟨bs,rb⟩:=Br.reads I h2 ry
  exact eq_dataH ra rb s1 s2 hu ⟨.bl _,H,I,rfl,q⟩
theorem op_neD (hu : X.A.units + 64 < cLine) : OpR X (compareOp .NotEq) (rEqD X.K true) := by
  intro pins s σ H x y v u Q I rx ry h
  obtain ⟨d,e,h1,h2,s1,s2,q⟩:=h
  obtain ⟨as,ra⟩:=Br.reads I h1 rx
  obtain ⟨bs,rb⟩:=Br.reads I h2 ry
  exact ne_dataH ra rb s1 s2 hu ⟨.bl _,H,I,rfl,q⟩
end
end L2
set_option maxHeartbeats 4000000
namespace L2
open PySem PySem.Spec PyProof.Rows
def PIf (X : Cx) (ifs : List Expr) (t : TT) : Prop :=
  ∀ (pins : List (Addr×Obj)) (s : Shared) (σ : St) (H : Hp) (Q : Bool→Hp→Prop),Inv X pins σ H s→t σ H Q →
    wpAny (model X.prog X.w) X.A (forIn ifs true fun c r => if r = true then do let ok ← isTrue c X.env (eval c X.env); pure (ForInStep.yield ok) else pure (ForInStep.yield r)) (TP X pins σ Q) X.xe s
def tNoIf : TT:=fun _ H Q => Q true H
theorem pif_nil {X : Cx} : PIf X [] tNoIf:=fun _ _ σ H _ I h => wpAny_tests_nil ⟨H,I,h⟩
theorem pif_one {X : Cx} {c : Expr} {t : TT} (h : PT X c t) : PIf X [c] t := by
  intro pins s σ H Q I hw
  simp only [List.forIn_cons,List.forIn_nil,if_true]
  refine wpAny_bind (wpAny_bind (thn (h pins s σ H Q I hw) fun b s1 q => ?_))
  exact wpAny_pure (wpAny_pure q)
def frOk (N XN : List Str) (sc xsc : Scope) : List (Option Nat)→Nat→Bool
  | [],_ => true
  | none :: r,i => frOk N XN sc xsc r (i + 1)
  | some j :: r,i => (match N[i]?,XN[j]? with
      | some n,some m => n == m && sc.names.lookup n == some .free && xsc.names.lookup n == some .cell
      | _,_ => false) && frOk N XN sc xsc r (i + 1)
theorem frOk_get {N XN : List Str} {sc xsc : Scope} : ∀ {fr : List (Option Nat)} {k : Nat},frOk N XN sc xsc fr k = true→∀ {i j : Nat},fr[i]? = some (some j) →
    ∃ n,N[k + i]? = some n∧XN[j]? = some n∧sc.names.lookup n = some .free∧xsc.names.lookup n = some .cell
  | [],_,_,i,j,e => by simp at e
  | none :: r,k,h,0,j,e => by simp at e
  | none :: r,k,h,i + 1,j,e => by
    have q:=frOk_get (fr:=r) (k:=k + 1) h (i:=i) (j:=j) (by simpa using e)
    have z : k + (i + 1) = k + 1 + i := by omega
    rw [z]; exact q
  | some j' :: r,k,h,0,j,e => by
    have e' : j' = j := by simpa using e
    subst e'
    rw [frOk,Bool.and_eq_true] at h
    have h1:=h.1
    split at h1
    · rename_i n m hn hm
      simp only [Bool.and_eq_true,beq_iff_eq] at h1
      obtain ⟨⟨rfl,h2⟩,h3⟩:=h1
      exact ⟨n,by simpa using hn,hm,h2,h3⟩
    · cases h1
  | some j' :: r,k,h,i + 1,j,e => by
    rw [frOk,Bool.and_eq_true] at h
    have q:=frOk_get (fr:=r) (k:=k + 1) h.2 (i:=i) (j:=j) (by simpa using e)
    have z : k + (i + 1) = k + 1 + i := by omega
    rw [z]; exact q
def carry (fr : List (Option Nat)) (σ : St) : St:=fr.map fun o => match o with
  | some j => (σ[j]?).join
  | none => none
theorem carry_get {fr : List (Option Nat)} {σ : St} {i : Nat} {v : V} (h : (carry fr σ)[i]? = some (some v)) : ∃ j,fr[i]? = some (some j)∧σ[j]? = some (some v) := by
  unfold carry at h
  rw [List.getElem?_map] at h
  cases e : fr[i]? with
  | none => rw [e] at h; cases h
  | some o =>
    rw [e] at h
    cases o with
    | none => simp at h
    | some j =>
      refine ⟨j,rfl,?_⟩
      simp only [Option.map_some,Option.some.injEq] at h
      cases q : σ[j]? with
      | none => rw [q] at h; cases h
      | some w => rw [q] at h; simp at h; rw [h]
theorem closure_of {env : Env} : ∀ (names : List (Str×NameKind)) (cs : List (Str×Addr)),(∀ x∈names,x.2 = NameKind.free→∃ c,env.cells.lookup x.1 = some c)→(∀ x c,cs.lookup x = some c→env.cells.lookup x = some c) →
    ∃ cl,(forIn names cs (fun (x : Str×NameKind) (r : List (Str×Addr)) => do if (x.2 == NameKind.free) = true then do let a ← cellOf env x.1; pure (ForInStep.yield ((x.1,a) :: r)) else pure (ForInStep.yield r)) : Sem (List (Str×Addr))) = pure cl ∧
      (∀ x c,cl.lookup x = some c→env.cells.lookup x = some c)∧(∀ x,(∃ c,cs.lookup x = some c)→∃ c,cl.lookup x = some c)∧∀ x∈names,x.2 = NameKind.free→∃ c,cl.lookup x.1 = some c
  | [],cs,_,h2 => ⟨cs,rfl,h2,fun _ q => q,fun _ z => (by cases z)⟩
  | (n,k) :: r,cs,h1,h2 => by
    rw [List.forIn_cons]
    by_cases hk : (k == NameKind.free) = true
    · obtain ⟨c,hc⟩:=h1 (n,k) List.mem_cons_self (by simpa using hk)
      have h2' : ∀ x c',((n,c) :: cs).lookup x = some c'→env.cells.lookup x = some c':=fun x c' e => by
        rw [List.lookup_cons] at e
        cases hx : x == n with
        | true => rw [hx] at e; have := beq_iff_eq.mp hx; subst this; simp at e; rw [← e]; exact hc
        | false => rw [hx] at e; exact h2 x c' e
      obtain ⟨cl,q1,q2,q3,q4⟩:=closure_of r ((n,c) :: cs) (fun x hx => h1 x (List.mem_cons_of_mem _ hx)) h2'
      have hn : ∃ c',cl.lookup n = some c':=q3 n ⟨c,by rw [List.lookup_cons,beq_self_eq_true]⟩
      refine ⟨cl,?_,q2,fun x hx => ?_,fun x hx hf => ?_⟩
      · simp only [hk,if_true]
        unfold cellOf
        rw [hc]
        exact q1
      · refine q3 x ?_
        rw [List.lookup_cons]
        cases hxn : x == n with
        | true => exact ⟨c,rfl⟩
        | false => exact hx
      · rcases List.mem_cons.mp hx with e | hx
        · subst e; exact hn
        · exact q4 x hx hf
    · obtain ⟨cl,q1,q2,q3,q4⟩:=closure_of r cs (fun x hx => h1 x (List.mem_cons_of_mem _ hx)) h2
      refine ⟨cl,?_,q2,q3,fun x hx hf => ?_⟩
      · simp only [hk]
        exact q1
      · rcases List.mem_cons.mp hx with e | hx
        · subst e; exact absurd (by simpa using hf) hk
        · exact q4 x hx hf
def cxComp (X : Cx) (scope : Scope) (cl : List (Str×Addr)) (N : List Str) (C : Addr) (s₀ : Shared) (H₀ : Hp) (fp : List Addr) : Cx where
  prog:=X.prog
  w:=X.w
  K:=X.K
  mg:=X.mg
  base:=X.base
  A:=X.A
  N:=N
  s₀:=s₀
  H₀:=H₀
  env:=compEnvC scope cl C X.env
  outer:=X.stack
  stack:=X.stack
  ex:=fp
  fn:=fun _ => false
  calm:=X.calm
  pn:=[]
  xe:=fun _ _ => False
def tComp (wi : TI) (fr : List (Option Nat)) (ix : Nat) (tif : TT) (te : TE) : TE:=fun σ H Q => wi σ H fun J H1 => ∀ D,H1 D = none→∃ W : Nat→Nat→List V→Hp→Prop,(∃ m,W 0 m [] (upd H1 D (.lst []))) ∧
  ∀ i m ys H,W i m ys H→H D = some (.lst ys)∧((J.stop i H∧Q (.ref D) H)∨(J.go i H∧ys.length < sizeLine∧∀ x H',J.yld i H x H' →
    tif ((carry fr σ).set ix (some x)) H' fun b H2 => if b = true then te ((carry fr σ).set ix (some x)) H2 fun y H3 => H3 D = some (.lst ys)∧∃ m',m' < m∧W (i + 1) m' (ys ++ [y]) (upd H3 D (.lst (ys ++ [y])))
      else ∃ m',m' < m∧W (i + 1) m' ys H2))
structure CompScope (scope : Scope) (N : List Str) (x : Str) (ix : Nat) : Prop where
  kind : scope.kind = .function
  cell : ∀ y∈scope.names,y.2≠.cell
  names : ∀ y∈scope.names,y.2 = .local→scope.names.lookup y.1 = some .local
  free : ∀ y∈scope.names,y.2 = .free→scope.names.lookup y.1 = some .free
  loc : scope.names.lookup x = some .local
  nd : N.Nodup
  at_ : N[ix]? = some x
theorem lookup_mem {names : List (Str×NameKind)} {n : Str} {k : NameKind} : names.lookup n = some k→(n,k)∈names := by
  induction names with
  | nil => intro h; cases h
  | cons y r ih =>
    intro h
    obtain ⟨m,j⟩:=y
    rw [List.lookup_cons] at h
    cases e : n == m with
    | true => rw [e] at h; have := beq_iff_eq.mp e; subst this; simp at h; subst h; exact List.mem_cons_self
    | false => rw [e] at h; exact List.mem_cons_of_mem _ (ih h)
theorem relabel_kind {scope : Scope} {env : Env} (hc : ∀ y∈scope.names,y.2≠.cell) {n : Str} (h : (relabel scope env).names.lookup n = some .cell∨(relabel scope env).names.lookup n = some .free) : ∃ k,(n,k)∈scope.names∧k = NameKind.free := by
  have key : ∀ k',(relabel scope env).names.lookup n = some k'→(k' = .cell∨k' = .free)→∃ k,(n,k)∈scope.names∧k = NameKind.free:=fun k' h hk => by
    have hm:=lookup_mem h
    unfold relabel at hm
    obtain ⟨⟨m,k⟩,hy,e⟩:=List.mem_map.mp hm
    dsimp only at e
    by_cases hcond : (k == NameKind.free && env.scope.kind == .function && env.kindOf m == some .cell) = true
    · rw [if_pos hcond] at e
      injection e with e1 e2
      subst e1
      refine ⟨k,hy,?_⟩
      simp only [Bool.and_eq_true,beq_iff_eq] at hcond
      exact hcond.1.1
    · rw [if_neg hcond] at e
      injection e with e1 e2
      subst e1 e2
      rcases hk with rfl | rfl
      · exact absurd rfl (hc _ hy)
      · exact ⟨_,hy,rfl⟩
  rcases h with h | h
  · exact key _ h (.inl rfl)
  · exact key _ h (.inr rfl)
section
variable {X : Cx} {elt iter : Expr} {x : Str} {px pos : Pos} {ifs : List Expr} {scope : Scope} {wi : TI} {fr : List (Option Nat)} {ix : Nat} {tif : TT} {te : TE} {N : List Str}
theorem codeAny_compLoop_testsT {prog : Program} {w : World} {A : Around} {R : Result→Shared→Prop} {s : Shared} {elt target iter : Expr} {ifs : List Expr} {scope : Scope} {pos : Pos} {it acc : Value} {env : Env} (I : Nat→Shared→Prop)
    (turn : ∀ n s,I n s→wpAny (model prog w) A (pyNext it) (fun r s₁ => match r with
      | none => R (.ok .next) s₁
      | some v => wpAny (model prog w) A (letOwnedTupleGo target it v >>= fun _ => assign target env v) (fun _ s₂ =>
          wpAny (model prog w) A (forIn ifs true fun c r => if r = true then do let ok ← isTrue c env (eval c env); pure (ForInStep.yield ok) else pure (ForInStep.yield r)) (fun ok s₃ =>
            if ok = true then wpAny (model prog w) A (eval elt env) (fun x s₄ =>
              wpAny (model prog w) A (call (.builtin "list.append") [acc,x]) (fun _ s₅ => ∃ m,m < n∧I m s₅) (notedBy (model prog w) A env fun e s' => R (.error e) s') s₄) (notedBy (model prog w) A env fun e s' => R (.error e) s') s₃
            else ∃ m,m < n∧I m s₃) (notedBy (model prog w) A env fun e s' => R (.error e) s') s₂) (notedBy (model prog w) A env fun e s' => R (.error e) s') s₁) (notedBy (model prog w) A env fun e s' => R (.error e) s') s)
    (n : Nat) (h : I n s) :
    codeAny (model prog w) A (.compLoop (.ListComp elt [⟨target,iter,ifs,0⟩] scope pos) 0 it acc env) R s := by
  refine codeAny_loop rfl I (fun n s hI => ?_) n h
  show wpAny _ A ((compTurn (.ListComp elt [⟨target,iter,ifs,0⟩] scope pos) 0 it acc env).onRaise (fun x => do noteFrame x env; theTreesLotGoes x)) _ _ s
  refine wpAny_noted ?_
  rw [compTurn_list]
  refine wpAny_bind (wpAny_standAt (wpAny_bind (wpAny_mono (turn n s hI) (fun r s₁ h₁ => ?_) fun _ _ h' => h')))
  cases r with
  | none => exact wpAny_pure h₁
  | some v =>
    show wpAny (model prog w) A (letOwnedTupleGo target it v >>= fun _ => assign target env v >>= _) _ _ s₁
    rw [← bind_assoc]
    refine wpAny_bind (wpAny_mono h₁ (fun _ s₂ h₂ => wpAny_bind (wpAny_mono h₂ (fun ok s₃ h₃ => ?_) fun _ _ h' => h')) fun _ _ h' => h')
    cases ok with
    | false => exact wpAny_pure ⟨rfl,h₃⟩
    | true =>
      exact wpAny_bind (wpAny_bind (wpAny_mono h₃ (fun x s₄ h₄ => wpAny_bind (wpAny_mono h₄ (fun _ s₅ h₅ => wpAny_pure (wpAny_pure ⟨rfl,h₅⟩)) fun _ _ h' => h')) fun _ _ h' => h'))
theorem comp_blockG {pins : List (Addr×Obj)} {σ : St} {H2 : Hp} {s2 : Shared} {Q : VK} {it : Addr} {fp : List Addr} {tn : Nat→Heap→Prop} {J : It} {cl : List (Str×Addr)} {E : Value→Shared→Prop} {RR : Value→Addr→Result→Shared→Prop}
    (S : CompScope scope N x ix) (hcalm : X.calm = true) {tgE : Expr} {g : TG} (Rv : St→Prop) (r0 : Rv (carry fr σ)) (hpg : ∀ C,PG (cxComp X scope cl N C s2 H2 fp) tgE g) (hfr : frOk N X.N scope X.env.scope fr 0 = true) (hlen : fr.length = N.length)
    (hif : ∀ cl C s₀ H₀ fp,PIf (cxComp X scope cl N C s₀ H₀ fp) ifs tif) (he : ∀ cl C s₀ H₀ fp,PE (cxComp X scope cl N C s₀ H₀ fp) elt te)
    (I2 : Inv X pins σ H2 s2) (T : Turn X.prog X.w X.K tgE J fp it tn) (st2 : tn 0 s2.heap) (f2 : ∀ b∈fp,FpOk X pins H2 b)
    (c1 : ∀ x c,cl.lookup x = some c→X.env.cells.lookup x = some c) (c2 : ∀ x∈scope.names,x.2 = NameKind.free→∃ c,cl.lookup x.1 = some c)
    (W : ∀ D,H2 D = none→∃ W : Nat→Nat→List V→Hp→Prop,(∃ m,W 0 m [] (upd H2 D (.lst []))) ∧
      ∀ i m ys H,W i m ys H→H D = some (.lst ys)∧((J.stop i H∧Q (.ref D) H)∨(J.go i H∧ys.length < sizeLine∧∀ x H',J.yld i H x H'→∀ σ',Rv σ'→g x σ' H' fun σ6 H6 => Rv σ6 ∧
        tif σ6 H6 fun b H2 => if b = true then te σ6 H2 fun y H3 => H3 D = some (.lst ys)∧∃ m',m' < m∧W (i + 1) m' (ys ++ [y]) (upd H3 D (.lst (ys ++ [y])))
          else ∃ m',m' < m∧W (i + 1) m' ys H2)))
    (fin : ∀ (D C : Addr) (s' : Shared) (H' : Hp) m,s'.heap.Ns C m→Q (.ref D) H'→(∀ h',Heap.SameBut C s'.heap h'→Inv X pins σ H' { s' with heap:=h' })→C≠D→(∀ b o,s2.heap.get? b = some o→b≠C)→H' C = none→s2.heap.objs.size≤C→RR (.ref D) C (.ok .next) s') :
    wpAny (model X.prog X.w) X.A (newList []) (fun acc s₃ => wpAny (model X.prog X.w) X.A (newFunctionEnv scope X.env.globals cl [] X.env.qual none .none (some X.env)) (fun cenv s₄ =>
      codeAny (model X.prog X.w) X.A (.compStart (.ListComp elt [⟨tgE,iter,ifs,0⟩] scope pos) 0 (.ref it) acc { cenv with scope:=relabel scope X.env }) (RR acc cenv.locals) s₄) E s₃) E s2 := by
  refine wpAny_newObj_type (wpAny_newFunctionEnv S.cell (by intro y hy; simp at hy) (fun h₁ hns₁ hsb₁ => ?_) S.kind)
  dsimp only at hns₁ hsb₁ ⊢
  generalize hHp : s2.heap.push { cls:=.type "list",dict:=none,data:=.seq ([] : List Value).toArray } = Hq at hns₁ hsb₁ ⊢
  have hC : Hq.objs.size = s2.heap.objs.size + 1 := by rw [← hHp,Heap.size_push]
  have hDC : s2.heap.objs.size≠Hq.objs.size := by rw [hC]; exact Nat.ne_of_lt (Nat.lt_succ_self _)
  have below : ∀ b,b < s2.heap.objs.size→b≠Hq.objs.size∧b≠s2.heap.objs.size:=fun b hb => ⟨by rw [hC]; exact Nat.ne_of_lt (Nat.lt_succ_of_lt hb),Nat.ne_of_lt hb⟩
  have old : ∀ b o,s2.heap.get? b = some o→h₁.get? b = some o:=fun b o e => hsb₁.extBut b o (below b (Heap.lt_size e)).1 (Heap.get?_push_of_some _ (hHp ▸ Heap.get?_push_of_some _ e))
  have hacc : h₁.get? s2.heap.objs.size = some { cls:=.type "list",data:=.seq ([] : List Value).toArray }:=hsb₁.extBut _ _ hDC (Heap.get?_push_of_some _ (hHp ▸ Heap.get?_push_size _ rfl))
  have hD2 : H2 s2.heap.objs.size = none:=I2.hok.fresh (Nat.le_refl _)
  have hC2 : H2 Hq.objs.size = none:=I2.hok.fresh (by rw [hC]; exact Nat.le_succ _)
  have fpo : ∀ b∈fp,b < s2.heap.objs.size:=fun b hb => by
    obtain ⟨o,e,_⟩:=T.obj _ _ st2 b hb
    exact Heap.lt_size e
  obtain ⟨W,⟨m0,w0⟩,turn⟩:=W s2.heap.objs.size hD2
  have ok : (cxComp X scope cl N Hq.objs.size s2 H2 fp).Ok := by
    refine ⟨I2.ok.mod,S.kind,I2.ok.glob,I2.ok.blt,by show s2.heap.objs.size≤Hq.objs.size; rw [hC]; exact Nat.le_succ _,?_,?_,?_,fun _ => I2.ok.hd hcalm,I2.ok.frames,.inl rfl,?_,I2.bs,Nat.le_trans I2.ok.bsz I2.sz,?_,?_,I2.stack,I2.stkFree⟩
    · exact fun a b c h1 h2 => I2.ok.inj a b c (c1 _ _ h1) (c1 _ _ h2)
    · intro y hy
      obtain ⟨k,hm,rfl⟩:=relabel_kind S.cell hy
      exact c2 _ hm rfl
    · intro y c hf
      cases hf
    · intro b hb
      refine ⟨(below b (fpo b hb)).1,fun y c e => ?_⟩
      obtain ⟨_,_,_,_,f5,_⟩:=f2 b hb
      exact f5 y c (c1 _ _ e)
    · intro b o e hb
      obtain ⟨_,_,_,f4,_,_⟩:=f2 b hb
      rcases f4 with z | z
      · exact I2.ok.noex b o e z
      · exact absurd (Nat.lt_of_lt_of_le (Heap.lt_size e) (Nat.le_trans I2.ok.bsz z)) (Nat.lt_irrefl _)
    · intro b hb hs
      obtain ⟨_,f1,f3,_⟩:=f2 b hb
      rcases List.mem_cons.mp (I2.stkSub b hs) with z | z
      · exact f1 z
      · exact f3 z
  have I4 : Inv (cxComp X scope cl N Hq.objs.size s2 H2 fp) [] (carry fr σ) (upd H2 s2.heap.objs.size (.lst [])) { s2 with heap:=h₁,toks:=s2.toks + ([] : List (Str×Value)).length } := by
    refine ⟨ok,rfl,I2.bare,Un.laid old (Nat.le_refl _) hD2,⟨_,hns₁,fun i y v h1 h2 h3 => ?_⟩,fun y c e => ?_,?_,fun y c e => ?_,fun p hp => (by cases hp),I2.hok.laid old (Nat.le_refl _) ⟨Nat.zero_le _,[],0,.nil,hacc⟩,?_⟩
    · obtain ⟨j,e1,e2⟩:=carry_get h2
      obtain ⟨n,n1,n2,n3,n4⟩:=frOk_get hfr e1
      rw [Nat.zero_add] at n1
      have : y = n := by
        have h1' : N[i]? = some y:=h1
        rw [h1'] at n1; exact Option.some.inj n1
      subst this
      obtain ⟨m,hn,hl⟩:=I2.loc
      obtain ⟨u,ru,lk⟩:=hl j y v n2 e2 (.inr (.inl n4))
      refine ⟨u,ru,?_⟩
      obtain ⟨c,hc⟩:=c2 _ (lookup_mem n3) rfl
      rcases lk with ⟨k1,_⟩ | ⟨_,c',hc',hcell⟩
      · have k1' : X.env.scope.names.lookup y = some .local:=k1
        rw [n4] at k1'; cases k1'
      · have:=c1 _ _ hc
        rw [hc'] at this; cases this
        refine .inr ⟨?_,c,hc,hcell.keeps old⟩
        rcases h3 with z | z | z
        · obtain ⟨k,hm⟩ : ∃ k,(y,k)∈scope.names∧k = NameKind.local := by
            have hm:=lookup_mem z
            have hm' : (y,NameKind.local)∈(relabel scope X.env).names:=hm
            unfold relabel at hm'
            obtain ⟨⟨m',k⟩,hy,e⟩:=List.mem_map.mp hm'
            dsimp only at e
            by_cases hcond : (k == NameKind.free && X.env.scope.kind == .function && X.env.kindOf m' == some .cell) = true
            · rw [if_pos hcond] at e; injection e with _ e2'; cases e2'
            · rw [if_neg hcond] at e; injection e with e1' e2'; subst e1' e2'; exact ⟨_,hy,rfl⟩
          obtain ⟨hm,rfl⟩:=hm
          have:=S.names _ hm rfl
          rw [n3] at this; cases this
        · exact .inl z
        · exact .inr z
    · obtain ⟨v,z⟩:=I2.cell y c (c1 _ _ e)
      exact ⟨v,z.keeps old⟩
    · show upd H2 s2.heap.objs.size _ Hq.objs.size = none
      rw [upd_ne (Ne.symm hDC)]; exact hC2
    · obtain ⟨v,o,ho,_⟩:=I2.cell y c (c1 _ _ e)
      rw [upd_ne (below c (Heap.lt_size ho)).2]
      exact I2.freeC y c (c1 _ _ e)
    · show (carry fr σ).length = N.length
      unfold carry
      rw [List.length_map]; exact hlen
  have fpX : ∀ (p : List (Addr×Obj)) (H' : Hp),(∀ q∈p,q.1∈fp→False)→(∀ b∈fp,H' b = none)→∀ b∈fp,FpOk (cxComp X scope cl N Hq.objs.size s2 H2 fp) p H' b:=fun p H' hp hn b hb => by
    obtain ⟨_,f1,f3,f4,f5,_⟩:=f2 b hb
    refine ⟨hn b hb,(below b (fpo b hb)).1,fun hs => ok.exfs b hb hs,.inl hb,fun y c e => f5 y c (c1 _ _ e),fun q hq e => ?_⟩
    exact hp q hq (e ▸ hb)
  have hxv : (relabel scope X.env).names.lookup x = some .local:=lookup_relabel_local S.loc
  have loop : ∀ s₃ : Shared,s₃ = { s2 with heap:=h₁,toks:=s2.toks + ([] : List (Str×Value)).length } →
      codeAny (model X.prog X.w) X.A (.compLoop (.ListComp elt [⟨tgE,iter,ifs,0⟩] scope pos) 0 (.ref it) (.ref s2.heap.objs.size) (compEnvC scope cl Hq.objs.size X.env)) (RR (.ref s2.heap.objs.size) Hq.objs.size) s₃ := by
    rintro s₃ rfl
    refine codeAny_compLoop_testsT (fun n s' => ∃ i ys σ' H',Inv (cxComp X scope cl N Hq.objs.size s2 H2 fp) [] σ' H' s'∧Rv σ'∧tn i s'.heap∧(∀ b∈fp,H' b = none)∧W i n ys H') ?_ m0
      ⟨0,[],carry fr σ,_,I4,r0,T.keep _ _ _ st2 fun b _ o e => old b o e,fun b hb => by rw [upd_ne (below b (fpo b hb)).2]; exact (f2 b hb).1,w0⟩
    rintro n s3 ⟨i,ys,σ3,H3,I3,hσ,st3,fr3,w3⟩
    obtain ⟨hD3,way⟩:=turn i n ys H3 w3
    rcases way with ⟨stop,qn⟩ | ⟨go,hsz,step⟩
    · refine wpAny_mono (T.done (cxComp X scope cl N Hq.objs.size s2 H2 fp) rfl rfl rfl hcalm i [] s3 σ3 H3 (fun _ _ => False) I3 (fpX [] H3 (fun _ z => by cases z) fr3) st3 stop) (fun r s4 ⟨hr,I5⟩ => ?_) fun _ _ z => z.elim
      subst hr
      obtain ⟨m,hn,_⟩:=id I5.loc
      refine fin _ _ s4 H3 m hn qn (fun h' hs' => ?_) (Ne.symm hDC) (fun b o e => (below b (Heap.lt_size e)).1) I5.free (by rw [hC]; exact Nat.le_succ _)
      have nC : ∀ b u,H3 b = some u→b≠Hq.objs.size:=fun b u e z => by
        have:=I5.free
        rw [show (cxComp X scope cl N Hq.objs.size s2 H2 fp).env.locals = Hq.objs.size from rfl,← z,e] at this
        cases this
      have keepU : Un (frs X.stack) fp H2 H3 s2.heap h' := by
        have u:=I5.base
        refine ⟨fun b o e n hb hx => ?_,fun b o e n hb hx => ?_,fun b o e n hx => u.free b o e n hx,fun b o e hx => ?_,u.tups,u.frzs,u.tbls⟩
        · exact (hs'.2 b (below b (Heap.lt_size e)).1).trans (u.keep b o e n hb hx)
        · obtain ⟨sl,e1⟩:=u.slot b o e n hb hx
          exact ⟨sl,(hs'.2 b (below b (Heap.lt_size e)).1).trans e1⟩
        · obtain ⟨o',e1⟩:=u.there b o e hx
          exact ⟨o',(hs'.2 b (below b (Heap.lt_size e)).1).trans e1⟩
      have hok' : HOk X.prog X.w H3 h':=fun b u e => (I5.hok b u e).stay (fun c v hc q => (hs'.2 c (by
        rcases hc with rfl | hc
        · exact nC _ _ e
        · exact nC _ _ hc)).trans q) (fun _ q => q) fun _ _ q => q
      refine I2.call' (s':={ s4 with heap:=h' }) (ch:=fp) I5.os keepU hok' I5.bare fun b hb => ?_
      obtain ⟨_,f1,_,f4,f5,f6⟩:=f2 b hb
      exact ⟨f4,f1,f5,f6⟩
    · refine wpAny_mono (T.item (cxComp X scope cl N Hq.objs.size s2 H2 fp) rfl rfl rfl hcalm i [] s3 σ3 H3 (fun _ _ => False) I3 (fpX [] H3 (fun _ z => by cases z) fr3) st3 go) (fun r s4 ⟨u,hr,h4⟩ => ?_) fun _ _ z => z.elim
      subst hr
      show wpAny (model X.prog X.w) X.A (letOwnedTupleGo tgE (.ref it) u >>= fun _ => assign tgE (compEnvC scope cl Hq.objs.size X.env) u) _ _ s4
      refine wpAny_bind (wpAny_mono h4 (fun _ s5 ⟨xv,H5,I5,r5,y5,st5,fr5⟩ => ?_) fun _ _ z => z.elim)
      have I5':=I5.pinned (fpX [] H5 (fun _ z => by cases z) fr5) (T.obj _ _ st5)
      refine wpAny_mono (hpg _ _ s5 σ3 H5 xv u _ I5' r5 (step xv H5 y5 σ3 hσ)) (fun _ s6 ⟨σ6,H6,I6,rv6,step5⟩ => ?_) fun _ _ z => z.elim
      refine wpAny_mono (hif _ _ _ _ _ _ s6 _ H6 _ I6 step5) (fun b s7 ⟨H7,I7,q7⟩ => ?_) fun _ _ z => z.elim
      have again : ∀ {s8 : Shared} {H8 : Hp} {k : Nat} {zs : List V},Inv (cxComp X scope cl N Hq.objs.size s2 H2 fp) ([] ++ pinsAt fp s5.heap) σ6 H8 s8→W (i + 1) k zs H8→k < n →
          ∃ m,m < n∧∃ i ys σ' H',Inv (cxComp X scope cl N Hq.objs.size s2 H2 fp) [] σ' H' s8∧Rv σ'∧tn i s8.heap∧(∀ b∈fp,H' b = none)∧W i m ys H':=fun {s8 H8 k zs} I8 w8 hk => by
        refine ⟨k,hk,i + 1,zs,_,H8,I8.unpinned,rv6,T.keep _ _ _ st5 fun b hb o e => (I8.pin (b,o) (List.mem_append_right _ (List.mem_append_right _ (mem_pinsAt hb e)))).1,fun b hb => ?_,w8⟩
        obtain ⟨o,e,d⟩:=T.obj _ _ st5 b hb
        exact (I8.pin (b,o) (List.mem_append_right _ (List.mem_append_right _ (mem_pinsAt hb e)))).2.1
      cases b with
      | false =>
        rw [if_neg Bool.false_ne_true] at q7 ⊢
        obtain ⟨k,hk,w7⟩:=q7
        exact again I7 w7 hk
      | true =>
        rw [if_pos rfl] at q7 ⊢
        refine wpAny_mono (he _ _ _ _ _ _ s7 _ H7 _ I7 q7) (fun yv s8 ⟨y,H8,I8,r8,hD8,k,hk,w8⟩ => ?_) fun _ _ z => z.elim
        refine wpAny_mono (mt_append (X:=cxComp X scope cl N Hq.objs.size s2 H2 fp) _ s8 _ H8 (.ref s2.heap.objs.size) [y] (.ref s2.heap.objs.size) [yv] (fun _ H9 => H9 = upd H8 s2.heap.objs.size (.lst (ys ++ [y]))) I8 rfl (.cons r8 .nil) ⟨_,ys,y,rfl,rfl,hD8,hsz,rfl⟩) (fun _ s9 ⟨_,H9,I9,_,e9⟩ => ?_) fun _ _ z => z.elim
        subst e9
        exact again I9 w8 hk
  exact codeAny_compStart_list (loop _ rfl) (T.self X.A 0 _ _ _ (T.keep _ _ _ st2 fun b _ o e => old b o e) (loop _ rfl))
theorem comp_block {pins : List (Addr×Obj)} {σ : St} {H2 : Hp} {s2 : Shared} {Q : VK} {it : Addr} {fp : List Addr} {tn : Nat→Heap→Prop} {J : It} {cl : List (Str×Addr)} {E : Value→Shared→Prop} {RR : Value→Addr→Result→Shared→Prop}
    (S : CompScope scope N x ix) (hcalm : X.calm = true) (hfr : frOk N X.N scope X.env.scope fr 0 = true) (hlen : fr.length = N.length)
    (hif : ∀ cl C s₀ H₀ fp,PIf (cxComp X scope cl N C s₀ H₀ fp) ifs tif) (he : ∀ cl C s₀ H₀ fp,PE (cxComp X scope cl N C s₀ H₀ fp) elt te)
    (I2 : Inv X pins σ H2 s2) (T : Turn X.prog X.w X.K (.Name x px) J fp it tn) (st2 : tn 0 s2.heap) (f2 : ∀ b∈fp,FpOk X pins H2 b)
    (c1 : ∀ x c,cl.lookup x = some c→X.env.cells.lookup x = some c) (c2 : ∀ x∈scope.names,x.2 = NameKind.free→∃ c,cl.lookup x.1 = some c)
    (W : ∀ D,H2 D = none→∃ W : Nat→Nat→List V→Hp→Prop,(∃ m,W 0 m [] (upd H2 D (.lst []))) ∧
      ∀ i m ys H,W i m ys H→H D = some (.lst ys)∧((J.stop i H∧Q (.ref D) H)∨(J.go i H∧ys.length < sizeLine∧∀ x H',J.yld i H x H' →
        tif ((carry fr σ).set ix (some x)) H' fun b H2 => if b = true then te ((carry fr σ).set ix (some x)) H2 fun y H3 => H3 D = some (.lst ys)∧∃ m',m' < m∧W (i + 1) m' (ys ++ [y]) (upd H3 D (.lst (ys ++ [y])))
          else ∃ m',m' < m∧W (i + 1) m' ys H2)))
    (fin : ∀ (D C : Addr) (s' : Shared) (H' : Hp) m,s'.heap.Ns C m→Q (.ref D) H'→(∀ h',Heap.SameBut C s'.heap h'→Inv X pins σ H' { s' with heap:=h' })→C≠D→(∀ b o,s2.heap.get? b = some o→b≠C)→H' C = none→s2.heap.objs.size≤C→RR (.ref D) C (.ok .next) s') :
    wpAny (model X.prog X.w) X.A (newList []) (fun acc s₃ => wpAny (model X.prog X.w) X.A (newFunctionEnv scope X.env.globals cl [] X.env.qual none .none (some X.env)) (fun cenv s₄ =>
      codeAny (model X.prog X.w) X.A (.compStart (.ListComp elt [⟨.Name x px,iter,ifs,0⟩] scope pos) 0 (.ref it) acc { cenv with scope:=relabel scope X.env }) (RR acc cenv.locals) s₄) E s₃) E s2 := by
  have hxv : (relabel scope X.env).names.lookup x = some .local:=lookup_relabel_local S.loc
  refine comp_blockG S hcalm (fun σ' => ∀ v,σ'.set ix v = (carry fr σ).set ix v) (fun _ => rfl) (fun C => pg_name (X:=cxComp X scope cl N C s2 H2 fp) S.nd S.at_ (.inl hxv) (.inr hxv)) hfr hlen hif he I2 T st2 f2 c1 c2 (fun D hD => ?_) fin
  obtain ⟨W,w0,st⟩:=W D hD
  refine ⟨W,w0,fun i m ys H w => ?_⟩
  obtain ⟨h1,h2 | ⟨h2,h3,h4⟩⟩:=st i m ys H w
  · exact ⟨h1,.inl h2⟩
  · refine ⟨h1,.inr ⟨h2,h3,fun x H' hy σ' hr => ?_⟩⟩
    have:=h4 x H' hy
    rw [← hr] at this
    exact ⟨fun v => by rw [List.set_set,hr],this⟩
theorem pe_comp (S : CompScope scope N x ix) (hcalm : X.calm = true) (hfr : frOk N X.N scope X.env.scope fr 0 = true) (hlen : fr.length = N.length) (hfree : ∀ y∈scope.names,y.2 = .free→X.env.scope.names.lookup y.1 = some .cell∨X.env.scope.names.lookup y.1 = some .free)
    (hi : PI X (.Name x px) iter wi) (hif : ∀ cl C s₀ H₀ fp,PIf (cxComp X scope cl N C s₀ H₀ fp) ifs tif) (he : ∀ cl C s₀ H₀ fp,PE (cxComp X scope cl N C s₀ H₀ fp) elt te)
    (hs : ∀ x,foldedSetIterable iter X.env x = pure x := by intro _; rfl) : PE X (.ListComp elt [⟨.Name x px,iter,ifs,0⟩] scope pos) (tComp wi fr ix tif te) := by
  intro pins s σ H Q I hw
  obtain ⟨cl,hclos,c1,_,c2⟩:=closure_of (env:=X.env) scope.names [] (fun y hy hf => I.ok.has y.1 (hfree y hy hf)) (fun y c z => by cases z)
  have hclos' : closureFor scope X.env = pure cl := by
    have e : closureFor scope X.env = ((forIn scope.names [] (fun (x : Str×NameKind) (r : List (Str×Addr)) => do if (x.2 == NameKind.free) = true then do let a ← cellOf X.env x.1; pure (ForInStep.yield ((x.1,a) :: r)) else pure (ForInStep.yield r)) : Sem (List (Str×Addr))) >>= fun cs => pure cs):=rfl
    rw [e,hclos]
    rfl
  rw [eval_ListComp]
  refine wpAny_comprehension_free (use:=none) rfl hs hclos' S.kind S.names (thn (hi pins s σ H _ I hw) fun v s1 h1 => thn h1 fun itv s2 h2 => ?_)
  obtain ⟨it,fp,tn,J,H2,e,I2,T,st2,f2,W⟩:=h2
  subst e
  refine comp_block (RR:=fun acc C => compPost (model X.prog X.w) X.A X.xe none (EP X pins σ Q) acc C) S hcalm hfr hlen hif he I2 T st2 f2 c1 c2 W ?_
  intro D C s' H' m hn q hI _ _ _ _
  exact ⟨m,hn,fun h' hs' => ⟨.ref D,H',hI h' hs',rfl,q⟩⟩
end
end L2
namespace L2
open PySem PySem.Spec PyProof.Rows
structure Fn (K : PySem.W.Frag) (mg : Str→Option Value) (x : Str) (st : Stmt) (ps : List Str) (f : Addr) (fd : FuncData) : Prop where
  F : Fun K x x st f fd
  b : Binds K fd ps []
  m : mg x = some (.ref f)
section
variable {X : Cx} {k : Nat} {f : Addr} {fd : FuncData} {ps : List Str} {sp : Sp} {x : Str} {st : Stmt} {p pos : Pos} {e : Expr} {es : List Expr} {t : TA}
theorem pe_fn (T : Fn X.K X.mg x st ps f fd) (G : FnOk X.prog X.w X.K X.mg X.base CX0 k f fd ps sp) (hr : Room k X.A) (hg : Gl X x) (ha : PA X (e :: es) t)
    (hdb : (x == ("__debug__" : Str)) = false := by decide) (he : starEach (e :: es) X.env = (false,eval e X.env) :: starEach es X.env := by rfl) (hpl : (backTo pos (starEach es X.env)).any (·.1) = false := by rfl) :
    PE X (.Call (.Name x p) (e :: es) [] pos) (tCall sp [] E0 t):=pe_call G hr hg T.m T.F.kp T.b .nil pass0 ha hdb he hpl
end
theorem sz2 : 2≤sizeLine := by decide
theorem same_new {H : Hp} {p : Addr} (h : H p = none) (o : HO) : Same H (upd H p o):=fun b u q => by rw [upd_ne (ne_of_none q h)]; exact q
def SameBut (l : Addr) (H H' : Hp) : Prop:=∀ b o,b≠l→H b = some o→H' b = some o
theorem SameBut.of {l : Addr} {H H' : Hp} (h : Same H H') : SameBut l H H':=fun b o _ q => h b o q
structure FlyB (P : Program) (w : World) (outer : List Env) (H : Hp) (s : Shared) (ea : Addr) (cls a0 : Value) (H' : Hp) (s' : Shared) (B : Heap) : Prop where
  os : s'.os = s.os
  bare : AllBare s'.gens
  fly : Heap.FlyingW B outer ea cls a0 s'.heap
  keep : ∀ b o,s.heap.get? b = some o→H b = none→b ∉ frs outer→B.get? b = some o
  there : ∀ b o,s.heap.get? b = some o→b ∉ frs outer→∃ o',B.get? b = some o'
  slot : ∀ b o,s.heap.get? b = some o→b∈frs outer→∃ sl,s'.heap.get? b = some { o with slots:=sl }
  free : ∀ b o,s.heap.get? b = some o→H b = none→H' b = none
  tups : ∀ b xs,H b = some (.tup xs)→H' b = some (.tup xs)
  frzs : ∀ b o u,H b = some (.frz o u)→H' b = some (.frz o u)
  tbls : ∀ b ps,H b = some (.tbl ps)→∃ more,H' b = some (.tbl (ps ++ more))
  hok : HOk P w H' B
  new : s.heap.get? ea = none
def CXW (P : Program) (w : World) : CXT:=fun outer H s E e s' => ∃ ea cls a0 H' B,e = .ref ea∧FlyB P w outer H s ea cls a0 H' s' B∧E cls none H'
theorem frs_data {base h : Heap} {l : List Env} (F : h.FunFrames base l) {b : Addr} (hb : b∈frs l) : ∃ o,h.get? b = some o∧∀ vs,o.data≠.fields vs:=(F.mem hb).2
section
variable {P : Program} {w : World} {K : PySem.W.Frag} {mg : Str→Option Value} {base : Heap} {N : List Str} {qual : Str} {scope : Scope} {f : Addr} {cd : Value} {A : Around} {outer : List Env} {s : Shared} {H : Hp} {E : XK}
theorem xe_made {pins : List (Addr×Obj)} {σ : St} {H1 : Hp} {s1 : Shared} {h' : Heap} {ea : Addr} {cls : Value} {args : List Value} (I : Inv (cxOf (CXW P w) P w K mg base N qual scope f cd A outer s H E) pins σ H1 s1)
    (hx : Heap.MadeExcOf s1.heap h' ea cls args) (hE : E cls none H1) : (cxOf (CXW P w) P w K mg base N qual scope f cd A outer s H E).xe (.ref ea) { s1 with heap:=h' } := by
  show wpAny (model P w) (A.deeper (envOfC qual scope s.heap.objs.size f cd)) (leaving (envOfC qual scope s.heap.objs.size f cd) (.ref ea)) _ _ _
  have FF:=I.stack
  have hfr : (A.deeper (envOfC qual scope s.heap.objs.size f cd)).frames = some (envOfC qual scope s.heap.objs.size f cd :: outer):=I.ok.frames
  have hin : ∀ env∈(envOfC qual scope s.heap.objs.size f cd :: outer),∀ b,env.frame = some b→b∈(envOfC qual scope s.heap.objs.size f cd :: outer).filterMap (·.frame):=fun env he b hb => List.mem_filterMap.mpr ⟨env,he,hb⟩
  have notL : ∀ b o,s.heap.get? b = some o→b≠s.heap.objs.size:=fun b o e => Nat.ne_of_lt (Heap.lt_size e)
  have out : ∀ b,b≠s.heap.objs.size→b ∉ frs outer→b ∉ (envOfC qual scope s.heap.objs.size f cd :: outer).filterMap (·.frame):=fun b h1 h2 hm => by
    rcases List.mem_cons.mp (I.stkSub b hm) with z | z
    · exact h1 z
    · exact h2 z
  have outT : ∀ b u,H1 b = some u→b ∉ (envOfC qual scope s.heap.objs.size f cd :: outer).filterMap (·.frame):=fun b u e hm => by
    have:=I.stkFree b hm
    rw [e] at this; cases this
  refine wpAny_leaves_madeW (base:=PySem.W.hideAll s1.heap ((envOfC qual scope s.heap.objs.size f cd :: outer).filterMap (·.frame))) hfr rfl (fun b o q => PySem.W.of_hideAll _ q) (PySem.W.funFrames_hide FF hin) hx fun h2 t fl _ _ up => ?_
  have hokB : HOk P w H1 (PySem.W.hideAll s1.heap ((envOfC qual scope s.heap.objs.size f cd :: outer).filterMap (·.frame))):=fun b u e =>
    (I.hok b u e).stay (fun c v hc q => PySem.W.hideAll_get _ q (by
      rcases hc with rfl | hc
      · exact outT _ _ e
      · exact outT _ _ hc)) (fun _ q => q) fun _ _ q => q
  refine ⟨ea,cls,.ref t,H1,_,rfl,⟨I.os,I.bare,fl,fun b o e n hb => ?_,fun b o e hb => ?_,fun b o e hb => ?_,fun b o e n => I.base.free b o e n (by simp [cxOf]),I.base.tups,I.base.frzs,I.base.tbls,hokB,?_⟩,hE⟩
  · exact PySem.W.hideAll_get _ (I.base.keep b o e n hb (by simp [cxOf])) (out b (notL b o e) hb)
  · obtain ⟨o',e1⟩:=I.base.there b o e (by simp [cxOf])
    exact ⟨o',PySem.W.hideAll_get _ e1 (out b (notL b o e) hb)⟩
  · obtain ⟨sl,e1⟩:=I.base.slot b o e (I.ok.frf b hb) hb (by simp [cxOf])
    obtain ⟨o',e2,hd⟩:=frs_data I.funs hb
    rw [e1] at e2
    cases e2
    obtain ⟨sl',e3⟩:=up b _ (hx.keeps _ _ e1) hd
    exact ⟨sl',e3⟩
  · cases q : s.heap.get? ea with
    | none => rfl
    | some o =>
      obtain ⟨o',e1⟩:=I.base.there ea o q (by simp [cxOf])
      have:=hx.new
      rw [e1] at this; cases this
theorem Fun.okW {x : Str} {st : Stmt} {fd : FuncData} {ps : List Str} {k : Nat} {sp : Sp} (F : Fun K x x st f fd) (S : FnScope N ps (defScope st)) (len : ∀ vs H Q E,sp vs H Q E→vs.length = ps.length)
    (hbody : ∀ (cdv : Value) (A : Around) (outer : List Env) (s : Shared) (H : Hp) (vs : List V) (Q : VK) (E : XK),Room k (A.deeper (envOfC x (defScope st) s.heap.objs.size f cdv))→sp vs H Q E →
      ∃ t,PSs (cxOf (CXW P w) P w K mg base N x (defScope st) f cdv A outer s H E) (defBody st) t∧t { nx:=fun _ H' => Q .non H',rt:=Q } (start N vs) H) : FnOk P w K mg base (CXW P w) (k + 1) f fd ps sp := by
  obtain ⟨oc,od,kV,doc,pm,an,cdv,ct,osl,rfl,lk,hcd⟩:=F.ex
  exact fn_of lk hcd S len fun A outer s H vs Q E hr hsp => hbody cdv A outer s H vs Q E hr hsp
end
structure Exc (K : PySem.W.Frag) (mg : Str→Option Value) (x : Str) (C : Addr) : Prop where
  m : mg x = some (.ref C)
  q : PySem.W.excIn K C [.type "ValueError",.type "Exception",.type "BaseException",.type "object"] "ValueError.__new__" = true
theorem exc_obj {K : PySem.W.Frag} {h : Heap} {C : Addr} {bB : List Value} {nid : String} (kin : K.In h) (hq : PySem.W.excIn K C bB nid = true) :
    ∃ tl N nm qn bs hd sn sub ab col dd k0 k1 k2 k3 k5 mN,h.get? C = some (excClassObj nm qn C N bs tl hd sn sub ab col dd k0 k1 k2 k3 k5 nid)∧h.Ns N mN∧mN "__init__" = none∧OwnTail h bB tl := by
  unfold PySem.W.excIn at hq
  split at hq
  · rename_i dd cd sl lk
    split at hq
    · rename_i C1 tl k0 k1 k2 k3 n1 k5 e1 e2
      simp only [Bool.and_eq_true,beq_iff_eq,Bool.not_eq_true'] at hq
      obtain ⟨⟨⟨⟨⟨y1,y2⟩,y3⟩,y4⟩,y5⟩,y6⟩:=hq
      subst y1 y2
      obtain ⟨nm,bs,mro,N,qn,hd,sn,sub,ab,col,del⟩:=cd
      dsimp only at e1 y3 y5 y6
      subst e1 y3
      have e3 : sl = #[k0,k1,k2,k3,some (.builtin n1),k5] := by
        cases sl with
        | mk l => simp only at e2; rw [e2]
      subst e3
      exact ⟨tl,N,nm,qn,bs,hd,sn,sub,ab,col,dd,k0,k1,k2,k3,k5,_,kin _ _ lk,.of_isNs (PySem.W.isNs_of_in kin y5),PySem.W.nsMap_none_of_in kin y5 y6,PySem.W.tail_of_in kin y4⟩
    · cases hq
  · cases hq
section
variable {X : Cx} {x : Str} {C : Addr} {np cpos pos : Pos} {e : Expr} {te : TE} {E : XK}
def Lets (X : Cx) (E : XK) : Prop:=∀ (pins : List (Addr×Obj)) (σ : St) (H : Hp) (s : Shared) (h' : Heap) (ea : Addr) (cls : Value) (args : List Value),Inv X pins σ H s→Heap.MadeExcOf s.heap h' ea cls args→E cls none H→X.xe (.ref ea) { s with heap:=h' }
def tRaise (C : Addr) (E : XK) (te : TE) : TS:=fun _ σ H => te σ H fun _ H1 => E (.ref C) none H1
theorem ps_raise (T : Exc X.K X.mg x C) (hL : Lets X E) (hcalm : X.calm = true) (hg : Gl X x) (he : PE X e te) (hd : (x == ("__debug__" : Str)) = false := by decide)
    (hst : starEach [e] X.env = [(false,eval e X.env)] := by rfl) : PS X (.Raise (some (.Call (.Name x np) [e] [] cpos)) none pos) (tRaise C E te) := by
  intro pins s σ H D I h
  obtain ⟨tl,N,nm,qn,bs,hdct,sn,sub,ab,col,dd,k0,k1,k2,k3,k5,mN,hC,hN,hni,TL⟩:=exc_obj I.ok.mod.kin T.q
  refine wpAny_Raise_call_subT (C:=C) (nm:=nm) (q:=qn) (N:=N) (bs := bs) (bm:=tl) (hdct:=hdct) (sn:=sn) (sub:=sub) (ab:=ab) (col:=col) (dd:=dd) (k0:=k0) (k1:=k1) (k2:=k2) (k3:=k3) (k5:=k5)
    PySem.F.excBase_ValueError (mN:=mN) (TL.hasType (by decide)) (I.ok.hd hcalm) (by rw [hst]; rfl) hni (ld_glob I hg T.m ⟨rfl,?_⟩ hd)
  rw [hst]
  refine Calls.evalArgs_plain (Calls.spliced_cons (thn (he pins s σ H _ I h) fun u s1 ⟨v,H1,I1,r1,q1⟩ => Calls.spliced_nil ?_))
  exact ⟨rfl,by show 1≤sizeLine; decide,I1.bk _ _ hC,hN.keeps I1.bk,TL.keeps I1.bk,fun h' ea hm => hL pins σ H1 s1 h' ea _ _ I1 hm q1⟩
end
def excO (ea : Addr) (cls : Value) : HO:=.ext fun h => ∃ o vs,h.get? ea = some o∧o.cls = cls∧o.data = .fields vs
structure Beneath (K : PySem.W.Frag) (C G : Addr) (b : Bool) : Prop where
  cl : (PySem.W.clsIn K G).isSome = true
  ty : PySem.W.typeIn K (.ref G) = some (.type "type")
  ex : PySem.W.subIn K (.ref G) (.type "BaseException") = some true
  sub : PySem.W.subIn K (.ref C) (.ref G) = some b
open PySem PySem.Spec PyProof.Rows PySem.Builtin.ObjectAttr PySem.Builtin.Getset_descriptor
structure ExcK (K : PySem.W.Frag) (C : Addr) : Prop where
  cl : (PySem.W.clsIn K C).isSome = true
  ga : PySem.W.findIn K (.ref C) "__getattribute__" = some (some (.builtin "BaseException.__getattribute__"))
  gh : PySem.W.findIn K (.ref C) "__getattr__" = some none
  at_ : PySem.W.findIn K (.ref C) "__class__" = some (some (.builtin "object.__class__"))
  gt : PySem.W.specialIn K (.builtin "object.__class__") "__get__" = some (some (.builtin "getset_descriptor.__get__"))
  tk : PySem.W.takesIn K (.builtin "object.__class__") = some true
  ob : PySem.W.mroIn K C (.type "object") = some true
  be : PySem.W.mroIn K C (.type "BaseException") = some true
def clsV : V→Value
  | .ref C => .ref C
  | .ty n => .type n
  | _ => .none
theorem clsV_of {c : V} {u : Value} (r : RelV c u) (h : clsV c≠.none) : u = clsV c := by
  cases c with
  | ref C => exact r
  | ty n => exact r
  | _ => exact absurd rfl h
section
variable {X : Cx}
def rIsi (K : PySem.W.Frag) : List V→Hp→VK→Prop:=fun xs H Q => ∃ x c t b,xs = [x,c]∧clsV c≠.none∧TyOf K H x t∧PySem.W.kitOne K t (clsV c) = some b∧Q (.bl b) H
theorem call_isi : CallR X (.builtin "isinstance") (rIsi X.K) := by
  intro pins s σ H xs us Q I r h
  obtain ⟨x,c,t,b,rfl,hc,ty,e,q⟩:=h
  obtain ⟨u,v,rfl,r1,r2⟩:=r.two
  rw [clsV_of r2 hc]
  exact isinst_ok I r1 ty e fun tk => ⟨.bl b,H,I.tok tk,rfl,q⟩
end
theorem kit_tt (K : PySem.W.Frag) : PySem.W.kitOne K (.type "tuple") (.type "tuple") = some true:=rfl
theorem kit_ii (K : PySem.W.Frag) : PySem.W.kitOne K (.type "int") (.type "int") = some true:=rfl
theorem kit_bb (K : PySem.W.Frag) : PySem.W.kitOne K (.type "bool") (.type "bool") = some true:=rfl
theorem kit_ib (K : PySem.W.Frag) : PySem.W.kitOne K (.type "int") (.type "bool") = some false := by kernel_rfl
theorem kit_bi (K : PySem.W.Frag) : PySem.W.kitOne K (.type "bool") (.type "int") = some true := by kernel_rfl
theorem kit_lt (K : PySem.W.Frag) : PySem.W.kitOne K (.type "list") (.type "tuple") = some false := by kernel_rfl
theorem kit_it (K : PySem.W.Frag) : PySem.W.kitOne K (.type "int") (.type "tuple") = some false := by kernel_rfl
theorem kit_bt (K : PySem.W.Frag) : PySem.W.kitOne K (.type "bool") (.type "tuple") = some false := by kernel_rfl
theorem kit_nt (K : PySem.W.Frag) : PySem.W.kitOne K (.type "NoneType") (.type "tuple") = some false := by kernel_rfl
theorem kit_st (K : PySem.W.Frag) : PySem.W.kitOne K (.type "str") (.type "tuple") = some false := by kernel_rfl
theorem kit_ti (K : PySem.W.Frag) : PySem.W.kitOne K (.type "tuple") (.type "int") = some false := by kernel_rfl
theorem kit_li (K : PySem.W.Frag) : PySem.W.kitOne K (.type "list") (.type "int") = some false := by kernel_rfl
theorem kit_ni (K : PySem.W.Frag) : PySem.W.kitOne K (.type "NoneType") (.type "int") = some false := by kernel_rfl
theorem kit_si (K : PySem.W.Frag) : PySem.W.kitOne K (.type "str") (.type "int") = some false := by kernel_rfl
def freeOk (xsc : Scope) (names : List (Str×NameKind)) : Bool:=names.all fun y => y.2 != .free || xsc.names.lookup y.1 == some .cell || xsc.names.lookup y.1 == some .free
theorem freeOk_of {xsc : Scope} {names : List (Str×NameKind)} (h : freeOk xsc names = true) : ∀ y∈names,y.2 = .free→xsc.names.lookup y.1 = some .cell∨xsc.names.lookup y.1 = some .free:=fun y hy hf => by
  have q:=List.all_eq_true.mp h y hy
  rw [hf] at q
  simp only [bne_self_eq_false,Bool.false_or,Bool.or_eq_true,beq_iff_eq] at q
  exact q
def compScopeOk (scope : Scope) (N : List Str) (x : Str) (ix : Nat) : Bool :=
  scope.kind == .function && (scope.names.all fun y => y.2 != .cell && (y.2 != .local || scope.names.lookup y.1 == some .local) && (y.2 != .free || scope.names.lookup y.1 == some .free)) && scope.names.lookup x == some .local && decide N.Nodup && N[ix]? == some x
theorem compScope_of {scope : Scope} {N : List Str} {x : Str} {ix : Nat} (h : compScopeOk scope N x ix = true) : CompScope scope N x ix := by
  unfold compScopeOk at h
  simp only [Bool.and_eq_true,beq_iff_eq,decide_eq_true_eq,List.all_eq_true,bne_iff_ne,Bool.or_eq_true] at h
  obtain ⟨⟨⟨⟨h1,h2⟩,h3⟩,h4⟩,h5⟩:=h
  exact ⟨h1,fun y hy => (h2 y hy).1.1,fun y hy hl => (h2 y hy).1.2.resolve_left fun z => z hl,fun y hy hl => (h2 y hy).2.resolve_left fun z => z hl,h3,h4,h5⟩
section
variable {X : Cx} {elt iter : Expr} {x : Str} {px pos : Pos} {ifs : List Expr} {scope : Scope} {wi : TI} {tif : TT} {te : TE}
theorem pe_compr (N : List Str) (ix : Nat) (fr : List (Option Nat)) (hi : PI X (.Name x px) iter wi) (hif : ∀ cl C s₀ H₀ fp,PIf (cxComp X scope cl N C s₀ H₀ fp) ifs tif) (he : ∀ cl C s₀ H₀ fp,PE (cxComp X scope cl N C s₀ H₀ fp) elt te)
    (h1 : compScopeOk scope N x ix = true := by decide +kernel) (h2 : X.calm = true := by rfl) (h3 : frOk N X.N scope X.env.scope fr 0 = true := by rfl) (h4 : fr.length = N.length := by rfl) (h5 : freeOk X.env.scope scope.names = true := by rfl)
    (hs : ∀ x,foldedSetIterable iter X.env x = pure x := by intro _; rfl) : PE X (.ListComp elt [⟨.Name x px,iter,ifs,0⟩] scope pos) (tComp wi fr ix tif te) :=
  pe_comp (compScope_of h1) h2 h3 h4 (freeOk_of h5) hi hif he hs
end
end L2
inductive Tr where
  | nil
  | cons (b r : Tr)
  deriving DecidableEq
namespace Tr
def bs : Tr→List Tr
  | .nil => []
  | .cons b r => b :: r.bs
def of : List Tr→Tr
  | [] => .nil
  | b :: r => .cons b (of r)
theorem of_bs : ∀ t : Tr,of t.bs = t
  | .nil => rfl
  | .cons b r => by rw [bs,of,of_bs r]
theorem bs_of : ∀ l : List Tr,(of l).bs = l
  | [] => rfl
  | b :: r => by rw [of,bs,bs_of r]
theorem bs_inj {t u : Tr} (h : t.bs = u.bs) : t = u := by rw [← of_bs t,h,of_bs]
def len : Tr→Nat
  | .nil => 0
  | .cons _ r => r.len + 1
theorem len_bs : ∀ t : Tr,t.bs.length = t.len
  | .nil => rfl
  | .cons _ r => by rw [bs,List.length_cons,len_bs r,len]
def knots : Tr→Nat
  | .nil => 1
  | .cons b r => b.knots + r.knots
def deep : Tr→Nat
  | .nil => 0
  | .cons b r => max (b.deep + 1) r.deep
def lt : Tr→Tr→Bool
  | .nil,.nil => false
  | .nil,.cons _ _ => true
  | .cons _ _,.nil => false
  | .cons b r,.cons c q => if b = c then lt r q else lt b c
theorem lt_irrefl : ∀ t : Tr,lt t t = false
  | .nil => rfl
  | .cons b r => by rw [lt,if_pos rfl]; exact lt_irrefl r
theorem lt_trans : ∀ a b c : Tr,lt a b = true→lt b c = true→lt a c = true
  | .nil,.nil,_,h,_ => by cases h
  | .nil,.cons _ _,.nil,_,h => by cases h
  | .nil,.cons _ _,.cons _ _,_,_ => rfl
  | .cons _ _,.nil,_,h,_ => by cases h
  | .cons _ _,.cons _ _,.nil,_,h => by cases h
  | .cons a r,.cons b s,.cons c t,h1,h2 => by
    rw [lt] at h1 h2 ⊢
    by_cases e1 : a = b
    · subst e1
      rw [if_pos rfl] at h1
      by_cases e2 : a = c
      · subst e2
        rw [if_pos rfl] at h2 ⊢
        exact lt_trans r s t h1 h2
      · rw [if_neg e2] at h2 ⊢; exact h2
    · rw [if_neg e1] at h1
      by_cases e2 : b = c
      · subst e2
        rw [if_neg e1]; exact h1
      · rw [if_neg e2] at h2
        have h3:=lt_trans a b c h1 h2
        by_cases e3 : a = c
        · subst e3
          rw [lt_irrefl] at h3; cases h3
        · rw [if_neg e3]; exact h3
theorem lt_total : ∀ a b : Tr,lt a b = false→lt b a = false→a = b
  | .nil,.nil,_,_ => rfl
  | .nil,.cons _ _,h,_ => by cases h
  | .cons _ _,.nil,_,h => by cases h
  | .cons a r,.cons b s,h1,h2 => by
    rw [lt] at h1 h2
    by_cases e : a = b
    · subst e
      rw [if_pos rfl] at h1 h2
      rw [lt_total r s h1 h2]
    · rw [if_neg e] at h1
      rw [if_neg (Ne.symm e)] at h2
      exact absurd (lt_total a b h1 h2) e
theorem lt_negTrans (a b c : Tr) (h : lt a c = true) : lt a b = true∨lt b c = true := by
  cases h1 : lt a b with
  | true => exact .inl rfl
  | false =>
    right
    cases h2 : lt b a with
    | true => exact lt_trans b a c h2 h
    | false => rw [← lt_total a b h1 h2]; exact h
theorem lt_asymm {a b : Tr} (h : lt a b = true) : lt b a = false := by
  cases h2 : lt b a with
  | false => rfl
  | true => have:=lt_trans a b a h h2; rw [lt_irrefl] at this; cases this
def fall : Tr→Bool
  | .nil => true
  | .cons b r => b.fall && r.fall && (match r with
    | .nil => true
    | .cons c _ => !lt b c)
def ins (x : Tr) : List Tr→List Tr
  | [] => [x]
  | y :: r => if lt x y = true then y :: ins x r else x :: y :: r
def srt : List Tr→List Tr
  | [] => []
  | x :: r => ins x (srt r)
end Tr
namespace TH
open PySem PyProof.Rows PySem.SeqAt
def Vs (h : Heap) : Tr→List Value→Prop
  | .nil,us => us = []
  | .cons b r,us => ∃ (a : Addr) (its rest : List Value),us = .ref a :: rest∧h.IsTuple a its.toArray∧Vs h b its∧Vs h r rest
theorem Vs.length {h : Heap} : ∀ {t : Tr} {us : List Value},Vs h t us→us.length = t.len
  | .nil,us,e => by rw [Vs] at e; rw [e]; rfl
  | .cons b r,us,e => by
    rw [Vs] at e
    obtain ⟨a,its,rest,rfl,_,_,q⟩:=e
    rw [List.length_cons,Tr.len,Vs.length q]
theorem tuple_same {h : Heap} {a : Addr} {x y : Array Value} (h1 : h.IsTuple a x) (h2 : h.IsTuple a y) : x = y := by
  obtain ⟨o,e,_,n,d⟩:=h1
  obtain ⟨o',e',_,n',d'⟩:=h2
  rw [e] at e'; cases e'
  rw [d] at d'; cases d'; rfl
theorem Vs.inj {h : Heap} : ∀ {t u : Tr} {us : List Value},Vs h t us→Vs h u us→t = u
  | .nil,.nil,_,_,_ => rfl
  | .nil,.cons _ _,us,e,f => by
    rw [Vs] at e
    rw [Vs] at f
    obtain ⟨_,_,_,f,_⟩:=f
    rw [e] at f; cases f
  | .cons _ _,.nil,us,e,f => by
    rw [Vs] at e
    rw [Vs] at f
    obtain ⟨_,_,_,e,_⟩:=e
    rw [f] at e; cases e
  | .cons b r,.cons c q,us,e,f => by
    rw [Vs] at e f
    obtain ⟨a,its,rest,rfl,h1,h2,h3⟩:=e
    obtain ⟨a',its',rest',e',k1,k2,k3⟩:=f
    cases e'
    have:=tuple_same h1 k1
    have e2 : its = its' := by simpa using this
    subst e2
    rw [Vs.inj h2 k2,Vs.inj h3 k3]
theorem eqRow {s : Shared} : ∀ (t u : Tr) (A : Around) (us vs : List Value),Vs s.heap t us→Vs s.heap u vs→A.units + t.deep≤cLine →
    ∀ j (h1 : j < us.length) (h2 : j < vs.length),EqAt A s us[j] vs[j] (decide (t.bs[j]? = u.bs[j]?))
  | .nil,u,A,us,vs,e,f,_,j,h1,h2 => by
    rw [Vs] at e; subst e; exact absurd h1 (Nat.not_lt_zero _)
  | .cons b r,.nil,A,us,vs,e,f,_,j,h1,h2 => by
    rw [Vs] at f; subst f; exact absurd h2 (Nat.not_lt_zero _)
  | .cons b r,.cons c q,A,us,vs,e,f,hu,j,h1,h2 => by
    rw [Vs] at e f
    obtain ⟨a,its,rest,rfl,k1,k2,k3⟩:=e
    obtain ⟨a',its',rest',rfl,l1,l2,l3⟩:=f
    have hd : (Tr.cons b r).deep = max (b.deep + 1) r.deep:=rfl
    cases j with
    | zero =>
      show EqAt A s (.ref a) (.ref a') (decide (some b = some c))
      by_cases ea : a = a'
      · subst ea
        have:=tuple_same k1 l1
        have e2 : its = its' := by simpa using this
        subst e2
        rw [Vs.inj k2 l2,decide_eq_true rfl]
        exact EqAt.same _
      · refine EqAt.of_refs ea ?_
        have key:=RcAt.tuples (s:=s) (A:=A) (e:=fun j => decide (b.bs[j]? = c.bs[j]?)) k1 l1 (by omega) fun j x1 x2 => by
          have:=eqRow b c A.in1 its its' k2 l2 (by rw [show A.in1.units = A.units + 1 from rfl]; omega) j (by simpa using x1) (by simpa using x2)
          simpa using this
        have ev : ((List.range (min its.toArray.size its'.toArray.size)).all (fun j => decide (b.bs[j]? = c.bs[j]?)) && its.toArray.size == its'.toArray.size) = decide (some b = some c) := by
          have z1 : its.toArray.size = b.bs.length := by rw [Tr.len_bs,← Vs.length k2]; simp
          have z2 : its'.toArray.size = c.bs.length := by rw [Tr.len_bs,← Vs.length l2]; simp
          rw [z1,z2]
          by_cases hbc : b = c
          · subst hbc; simp
          · rw [decide_eq_false (fun z => hbc (Option.some.inj z))]
            cases hl : b.bs.length == c.bs.length with
            | false => rw [Bool.and_false]
            | true =>
              rw [Bool.and_true]
              have hl' : b.bs.length = c.bs.length := by simpa using hl
              refine Bool.eq_false_iff.mpr fun z => hbc (Tr.bs_inj (List.ext_getElem? fun i => ?_))
              by_cases hi : i < b.bs.length
              · have:=List.all_eq_true.mp z i (List.mem_range.mpr (by omega))
                simpa using this
              · rw [List.getElem?_eq_none (by omega),List.getElem?_eq_none (by omega)]
        rw [ev] at key
        exact key
    | succ j =>
      exact eqRow r q A rest rest' k3 l3 (by omega) j (by simpa using h1) (by simpa using h2)
theorem eqAt {s : Shared} {t u : Tr} {A : Around} {a b : Addr} {its its' : List Value} (h1 : s.heap.IsTuple a its.toArray) (k1 : Vs s.heap t its) (h2 : s.heap.IsTuple b its'.toArray) (k2 : Vs s.heap u its') (hu : A.units + t.deep < cLine) :
    EqAt A s (.ref a) (.ref b) (decide (t = u)) := by
  have:=eqRow (.cons t .nil) (.cons u .nil) A [.ref a] [.ref b] ⟨a,its,[],rfl,h1,k1,by rw [Vs]⟩ ⟨b,its',[],rfl,h2,k2,by rw [Vs]⟩ (by show A.units + max (t.deep + 1) 0≤cLine; omega) 0 (by simp) (by simp)
  simpa [Tr.bs] using this
section
open PySem.AutoSeq1 (wpAny_loadPart')
open PySem.MeetsSeq PySem.MeetsSeq2 PySem.MeetsSeq3
theorem tuple_lt (n0 : Nat) (ih : ∀ (t u : Tr) (A : Around) (s : Shared) (a b : Addr) (its its' : List Value),t.deep < n0→s.heap.IsTuple a its.toArray→Vs s.heap t its→s.heap.IsTuple b its'.toArray→Vs s.heap u its'→A.units + t.deep < cLine →
      ∀ (prog : Program) (w : World) (E : Value→Shared→Prop) (Q : Value→Shared→Prop),Q (.bool (Tr.lt t u)) s→wpAny (model prog w) A (richCompare .Lt (.ref a) (.ref b)) Q E s)
    (l b : Addr) (items items2 : Array Value) (n n2 : Nat) (dd dd2 : Option Addr) (sl sl2 : Array (Option Value)) (t u : Tr) (ht : t.deep≤n0) :
    Meets (Builtin.«tuple.__lt__» ⟨[.ref l,.ref b],[]⟩)
      (fun A R s => s.heap.get? l = some { cls:=.type "tuple",dict:=dd,data:=.seq items n,slots:=sl }∧s.heap.get? b = some { cls:=.type "tuple",dict:=dd2,data:=.seq items2 n2,slots:=sl2 } ∧
        Vs s.heap t items.toList∧Vs s.heap u items2.toList∧A.units + t.deep < cLine∧R (.ok (.ret (.bool (Tr.lt t u)))) s) :=
  .of_wp fun prog w A R s h => by
    obtain ⟨hp,g,d,tk,os⟩:=s; obtain ⟨hl,hb,hi,hj,hun,h⟩:=h
    have f2:=AutoSeq1.sub_tuple_tuple
    have z1 : items.size = t.len := by rw [← Vs.length hi]; simp
    have z2 : items2.size = u.len := by rw [← Vs.length hj]; simp
    wp_walk using wpAny_loadPart' hl,wpAny_loadPart' hb,wpAny_forIn_list _ (fun rest b s' => b.1 = none∧s' = ⟨hp,g,d,tk,os⟩∧∃ (vs ws : List Value) (t' u' : Tr),rest = vs.zip ws ∧
      Vs hp t' vs∧Vs hp u' ws∧t'.deep≤t.deep∧t'.len + items2.size = u'.len + items.size∧R (.ok (.ret (.bool (Tr.lt t' u')))) ⟨hp,g,d,tk,os⟩) _
    case turn =>
      rintro ⟨y,x⟩ rest b s' ⟨hb',rfl,vs,ws,t',u',hz,hvi,hwi,hdp,hlen,hR⟩
      cases t' with
      | nil => rw [Vs] at hvi; subst hvi; rw [List.zip_nil_left] at hz; cases hz
      | cons bt rt =>
        cases u' with
        | nil => rw [Vs] at hwi; subst hwi; rw [List.zip_nil_right] at hz; cases hz
        | cons bu ru =>
          rw [Vs] at hvi hwi
          obtain ⟨a1,i1,v1,rfl,p1,p2,p3⟩:=hvi
          obtain ⟨a2,i2,v2,rfl,q1,q2,q3⟩:=hwi
          rw [List.zip_cons_cons] at hz
          injection hz with hyx hrest
          injection hyx with hy hx
          subst hy hx
          have hdd : (Tr.cons bt rt).deep = max (bt.deep + 1) rt.deep:=rfl
          rw [Tr.lt] at hR
          simp only [Tr.len] at hlen
          have he:=eqAt (s:=⟨hp,g,d,tk,os⟩) (A:=A.in1) p1 p2 q1 q2 (by rw [show A.in1.units = A.units + 1 from rfl]; omega)
          refine wpAny_bind (he prog w _ _ ?_)
          cases hc : decide (bt = bu) with
          | true =>
            rw [if_pos (of_decide_eq_true hc)] at hR
            wp_walk
            exact ⟨rfl,rfl,_,_,_,_,hrest,p3,q3,by omega,by omega,hR⟩
          | false =>
            rw [if_neg (of_decide_eq_false hc)] at hR
            have hri:=ih bt bu A.in1 ⟨hp,g,d,tk,os⟩ a1 a2 i1 i2 (by omega) p1 p2 q1 q2 (by rw [show A.in1.units = A.units + 1 from rfl]; omega) prog w
            wp_walk using hri
            exact ⟨_,rfl,by simpa using hR⟩
    case fin =>
      rintro ⟨b1,b2⟩ s' ⟨hb',rfl,vs,ws,t',u',hz,hvi,hwi,hdp,hlen,hR⟩
      simp only at hb'
      subst hb'
      have hv : Tr.lt t' u' = decide (items.size < items2.size) := by
        cases t' with
        | nil =>
          cases u' with
          | nil =>
            simp only [Tr.len] at hlen
            exact (decide_eq_false (by omega)).symm
          | cons c q =>
            simp only [Tr.len] at hlen
            exact (decide_eq_true (by omega)).symm
        | cons bt rt =>
          cases u' with
          | nil =>
            simp only [Tr.len] at hlen
            exact (decide_eq_false (by omega)).symm
          | cons c q =>
            rw [Vs] at hvi hwi
            obtain ⟨_,_,_,rfl,_⟩:=hvi
            obtain ⟨_,_,_,rfl,_⟩:=hwi
            rw [List.zip_cons_cons] at hz
            cases hz
      rw [hv] at hR
      wp_walk
      exact ⟨_,rfl,by simpa [Builtin.Tuple.tupleCompareSizes] using hR⟩
    case h =>
      exact ⟨rfl,rfl,items.toList,items2.toList,t,u,rfl,hi,hj,Nat.le_refl _,by omega,h⟩
theorem rc_lt : ∀ (n0 : Nat) (t u : Tr) (A : Around) (s : Shared) (a b : Addr) (its its' : List Value),t.deep < n0→s.heap.IsTuple a its.toArray→Vs s.heap t its→s.heap.IsTuple b its'.toArray→Vs s.heap u its'→A.units + t.deep < cLine →
      ∀ (prog : Program) (w : World) (E : Value→Shared→Prop) (Q : Value→Shared→Prop),Q (.bool (Tr.lt t u)) s→wpAny (model prog w) A (richCompare .Lt (.ref a) (.ref b)) Q E s
  | 0,_,_,_,_,_,_,_,_,h,_,_,_,_,_ => absurd h (Nat.not_lt_zero _)
  | n0 + 1,t,u,A,s,a,b,its,its',hd,hl,ht,hb,hu',hun => fun prog w E Q h => by
    obtain ⟨⟨cls,dd,data,sl⟩,ho,hc,n,hdt⟩:=id hl
    obtain ⟨⟨cls2,dd2,data2,sl2⟩,ho2,hc2,n2,hdt2⟩:=id hb
    simp only at hc hdt hc2 hdt2
    subst hc hdt hc2 hdt2
    exact richCompare_meets_room (op:=.Lt) ⟨_,ho,rfl⟩ ⟨_,ho2,rfl⟩ PySem.F.slot_tuple_lt PySem.F.entry_tuple_lt (PySem.F.args_tuple_lt_2 _ _) (tuple_lt n0 (rc_lt n0) a b its.toArray its'.toArray n n2 dd dd2 sl sl2 t u (by omega))
      ⟨ho,ho2,by simpa using ht,by simpa using hu',hun,show Value.bool (Tr.lt t u)≠Value.notImplemented∧Q (.bool (Tr.lt t u)) s from ⟨(fun x => nomatch x),h⟩⟩ (by omega)
end
section
open PySem.AutoSeq1 (wpAny_loadPart')
open PySem.MeetsSeq PySem.MeetsSeq2 PySem.MeetsSeq3
theorem tuple_gt (n0 : Nat) (ih : ∀ (t u : Tr) (A : Around) (s : Shared) (a b : Addr) (its its' : List Value),t.deep < n0→s.heap.IsTuple a its.toArray→Vs s.heap t its→s.heap.IsTuple b its'.toArray→Vs s.heap u its'→A.units + t.deep < cLine →
      ∀ (prog : Program) (w : World) (E : Value→Shared→Prop) (Q : Value→Shared→Prop),Q (.bool (Tr.lt u t)) s→wpAny (model prog w) A (richCompare .Gt (.ref a) (.ref b)) Q E s)
    (l b : Addr) (items items2 : Array Value) (n n2 : Nat) (dd dd2 : Option Addr) (sl sl2 : Array (Option Value)) (t u : Tr) (ht : t.deep≤n0) :
    Meets (Builtin.«tuple.__gt__» ⟨[.ref l,.ref b],[]⟩)
      (fun A R s => s.heap.get? l = some { cls:=.type "tuple",dict:=dd,data:=.seq items n,slots:=sl }∧s.heap.get? b = some { cls:=.type "tuple",dict:=dd2,data:=.seq items2 n2,slots:=sl2 } ∧
        Vs s.heap t items.toList∧Vs s.heap u items2.toList∧A.units + t.deep < cLine∧R (.ok (.ret (.bool (Tr.lt u t)))) s) :=
  .of_wp fun prog w A R s h => by
    obtain ⟨hp,g,d,tk,os⟩:=s; obtain ⟨hl,hb,hi,hj,hun,h⟩:=h
    have f2:=AutoSeq1.sub_tuple_tuple
    have z1 : items.size = t.len := by rw [← Vs.length hi]; simp
    have z2 : items2.size = u.len := by rw [← Vs.length hj]; simp
    wp_walk using wpAny_loadPart' hl,wpAny_loadPart' hb,wpAny_forIn_list _ (fun rest b s' => b.1 = none∧s' = ⟨hp,g,d,tk,os⟩∧∃ (vs ws : List Value) (t' u' : Tr),rest = vs.zip ws ∧
      Vs hp t' vs∧Vs hp u' ws∧t'.deep≤t.deep∧t'.len + items2.size = u'.len + items.size∧R (.ok (.ret (.bool (Tr.lt u' t')))) ⟨hp,g,d,tk,os⟩) _
    case turn =>
      rintro ⟨y,x⟩ rest b s' ⟨hb',rfl,vs,ws,t',u',hz,hvi,hwi,hdp,hlen,hR⟩
      cases t' with
      | nil => rw [Vs] at hvi; subst hvi; rw [List.zip_nil_left] at hz; cases hz
      | cons bt rt =>
        cases u' with
        | nil => rw [Vs] at hwi; subst hwi; rw [List.zip_nil_right] at hz; cases hz
        | cons bu ru =>
          rw [Vs] at hvi hwi
          obtain ⟨a1,i1,v1,rfl,p1,p2,p3⟩:=hvi
          obtain ⟨a2,i2,v2,rfl,q1,q2,q3⟩:=hwi
          rw [List.zip_cons_cons] at hz
          injection hz with hyx hrest
          injection hyx with hy hx
          subst hy hx
          have hdd : (Tr.cons bt rt).deep = max (bt.deep + 1) rt.deep:=rfl
          rw [Tr.lt] at hR
          simp only [Tr.len] at hlen
          have he:=eqAt (s:=⟨hp,g,d,tk,os⟩) (A:=A.in1) p1 p2 q1 q2 (by rw [show A.in1.units = A.units + 1 from rfl]; omega)
          refine wpAny_bind (he prog w _ _ ?_)
          cases hc : decide (bt = bu) with
          | true =>
            rw [if_pos (of_decide_eq_true hc).symm] at hR
            wp_walk
            exact ⟨rfl,rfl,_,_,_,_,hrest,p3,q3,by omega,by omega,hR⟩
          | false =>
            rw [if_neg (fun z => of_decide_eq_false hc z.symm)] at hR
            have hri:=ih bt bu A.in1 ⟨hp,g,d,tk,os⟩ a1 a2 i1 i2 (by omega) p1 p2 q1 q2 (by rw [show A.in1.units = A.units + 1 from rfl]; omega) prog w
            wp_walk using hri
            exact ⟨_,rfl,by simpa using hR⟩
    case fin =>
      rintro ⟨b1,b2⟩ s' ⟨hb',rfl,vs,ws,t',u',hz,hvi,hwi,hdp,hlen,hR⟩
      simp only at hb'
      subst hb'
      have hv : Tr.lt u' t' = decide (items2.size < items.size) := by
        cases t' with
        | nil =>
          cases u' with
          | nil =>
            simp only [Tr.len] at hlen
            exact (decide_eq_false (by omega)).symm
          | cons c q =>
            simp only [Tr.len] at hlen
            exact (decide_eq_false (by omega)).symm
        | cons bt rt =>
          cases u' with
          | nil =>
            simp only [Tr.len] at hlen
            exact (decide_eq_true (by omega)).symm
          | cons c q =>
            rw [Vs] at hvi hwi
            obtain ⟨_,_,_,rfl,_⟩:=hvi
            obtain ⟨_,_,_,rfl,_⟩:=hwi
            rw [List.zip_cons_cons] at hz
            cases hz
      rw [hv] at hR
      wp_walk
      exact ⟨_,rfl,by simpa [Builtin.Tuple.tupleCompareSizes] using hR⟩
    case h =>
      exact ⟨rfl,rfl,items.toList,items2.toList,t,u,rfl,hi,hj,Nat.le_refl _,by omega,h⟩
theorem rc_gt : ∀ (n0 : Nat) (t u : Tr) (A : Around) (s : Shared) (a b : Addr) (its its' : List Value),t.deep < n0→s.heap.IsTuple a its.toArray→Vs s.heap t its→s.heap.IsTuple b its'.toArray→Vs s.heap u its'→A.units + t.deep < cLine →
      ∀ (prog : Program) (w : World) (E : Value→Shared→Prop) (Q : Value→Shared→Prop),Q (.bool (Tr.lt u t)) s→wpAny (model prog w) A (richCompare .Gt (.ref a) (.ref b)) Q E s
  | 0,_,_,_,_,_,_,_,_,h,_,_,_,_,_ => absurd h (Nat.not_lt_zero _)
  | n0 + 1,t,u,A,s,a,b,its,its',hd,hl,ht,hb,hu',hun => fun prog w E Q h => by
    obtain ⟨⟨cls,dd,data,sl⟩,ho,hc,n,hdt⟩:=id hl
    obtain ⟨⟨cls2,dd2,data2,sl2⟩,ho2,hc2,n2,hdt2⟩:=id hb
    simp only at hc hdt hc2 hdt2
    subst hc hdt hc2 hdt2
    exact richCompare_meets_room (op:=.Gt) ⟨_,ho,rfl⟩ ⟨_,ho2,rfl⟩ PySem.F.slot_tuple_gt PySem.F.entry_tuple_gt (PySem.F.args_tuple_gt_2 _ _) (tuple_gt n0 (rc_gt n0) a b its.toArray its'.toArray n n2 dd dd2 sl sl2 t u (by omega))
      ⟨ho,ho2,by simpa using ht,by simpa using hu',hun,show Value.bool (Tr.lt u t)≠Value.notImplemented∧Q (.bool (Tr.lt u t)) s from ⟨(fun x => nomatch x),h⟩⟩ (by omega)
end
end TH
namespace SM
open PySem.W PyProof.Rows
def Wp {α : Type} (lt : Nat→Nat→Bool) (n : Nat) : KasT α→(α→Prop)→Prop
  | .ret a,Q => Q a
  | .ask i j k,Q => i < n∧j < n∧Wp lt n (k (lt i j)) Q
theorem Wp.mono {α : Type} {lt : Nat→Nat→Bool} {n : Nat} {Q Q' : α→Prop} (hq : ∀ a,Q a→Q' a) : ∀ t : KasT α,Wp lt n t Q→Wp lt n t Q'
  | .ret a,h => hq a h
  | .ask i j k,h => ⟨h.1,h.2.1,Wp.mono hq (k (lt i j)) h.2.2⟩
theorem Wp.bind {α β : Type} {lt : Nat→Nat→Bool} {n : Nat} {f : α→KasT β} {Q : β→Prop} : ∀ t : KasT α,Wp lt n t (fun a => Wp lt n (f a) Q)→Wp lt n (t.bind f) Q
  | .ret _,h => h
  | .ask i j k,h => ⟨h.1,h.2.1,Wp.bind (k (lt i j)) h.2.2⟩
theorem getD_rev {p : Array Nat} {i j : Nat} (hj : j≤p.size) (k : Nat) : (kas_rev p i j).getD k 0 = if i≤k∧k < j then p.getD (i + j - 1 - k) 0 else p.getD k 0 := by
  have e:=getElem?_mirror_all (i:=i) hj k
  unfold kas_rev
  rw [Array.getD_eq_getD_getElem?,Array.getD_eq_getD_getElem?,Array.getD_eq_getD_getElem?,e]
  split <;> rfl
theorem getD_bubble {p : Array Nat} {src d : Nat} (hs : src < p.size) (hd : d≤src) (k : Nat) :
    (bubble p src d).getD k 0 = if k = src - d then p.getD src 0 else if src - d < k∧k≤src then p.getD (k - 1) 0 else p.getD k 0 := by
  have e:=getElem?_bubble hs d hd k
  simp only [Array.getD_eq_getD_getElem?,e]
  split
  · rfl
  · split <;> rfl
section
variable {O : KeyOrd} {key : Nat→O.α} {n : Nat}
def Key (key : Nat→O.α) (p : Array Nat) (i : Nat) : O.α:=key (p.getD i 0)
def Up (key : Nat→O.α) (p : Array Nat) (m : Nat) : Prop:=∀ i j,i≤j→j < m→O.kle (Key key p i) (Key key p j)
def Dn (key : Nat→O.α) (p : Array Nat) (m : Nat) : Prop:=∀ i j,i≤j→j < m→O.kle (Key key p j) (Key key p i)
structure Pm (n : Nat) (p : Array Nat) : Prop where
  perm : p.Perm (List.toArray (List.range n))
  pos : 0 < n
theorem Pm.size {p : Array Nat} (h : Pm n p) : p.size = n := by rw [h.perm.size_eq]; simp
theorem Pm.lt {p : Array Nat} (h : Pm n p) (i : Nat) : p.getD i 0 < n := by
  rw [Array.getD_eq_getD_getElem?]
  by_cases hi : i < p.size
  · rw [Array.getElem?_eq_getElem hi]
    have hm : p[i]∈p:=Array.getElem_mem hi
    have:=(h.perm.mem_iff).mp hm
    simpa using this
  · rw [Array.getElem?_eq_none (by omega)]
    exact h.pos
theorem Pm.rev {p : Array Nat} (h : Pm n p) (i j : Nat) : Pm n (kas_rev p i j):=⟨(mirror_perm _ _ _ _).trans h.perm,h.pos⟩
theorem Pm.bubble {p : Array Nat} (h : Pm n p) (i j : Nat) : Pm n (bubble p i j):=⟨(bubble_perm _ _ _).trans h.perm,h.pos⟩
abbrev ltOf (key : Nat→O.α) : Nat→Nat→Bool:=fun i j => O.blt (key i) (key j)
theorem Up.one {p : Array Nat} : Up key p 1:=fun i j h1 h2 => by
  have : i = j := by omega
  subst this; exact KeyOrd.kle_refl _
theorem Up.more {p : Array Nat} {m : Nat} (h : Up key p m) (h1 : 1≤m) (hk : O.kle (Key key p (m - 1)) (Key key p m)) : Up key p (m + 1):=fun i j hij hj => by
  by_cases e : j = m
  · subst e
    by_cases e2 : i = j
    · subst e2; exact KeyOrd.kle_refl _
    · exact KeyOrd.kle_trans (h i (j - 1) (by omega) (by omega)) hk
  · exact h i j hij (by omega)
theorem Dn.more {p : Array Nat} {m : Nat} (h : Dn key p m) (h1 : 1≤m) (hk : O.kle (Key key p m) (Key key p (m - 1))) : Dn key p (m + 1):=fun i j hij hj => by
  by_cases e : j = m
  · subst e
    by_cases e2 : i = j
    · subst e2; exact KeyOrd.kle_refl _
    · exact KeyOrd.kle_trans hk (h i (j - 1) (by omega) (by omega))
  · exact h i j hij (by omega)
theorem asc {p : Array Nat} (hp : Pm n p) : ∀ (f m : Nat),1≤m→Up key p m→Wp (ltOf key) n (kas_asc p f m) fun r => m≤r∧r≤m + f∧Up key p r∧(r = m + f∨O.klt (Key key p r) (Key key p (r - 1)))
  | 0,m,_,h => ⟨Nat.le_refl _,Nat.le_refl _,h,.inl rfl⟩
  | f + 1,m,h1,h => by
    refine ⟨hp.lt _,hp.lt _,?_⟩
    cases c : ltOf key (p.getD m 0) (p.getD (m - 1) 0) with
    | true => exact ⟨Nat.le_refl _,by omega,h,.inr c⟩
    | false =>
      simp only [Bool.false_eq_true,if_false]
      refine Wp.mono (fun r hr => ?_) _ (asc hp f (m + 1) (by omega) (h.more h1 c))
      exact ⟨by omega,by omega,hr.2.2.1,hr.2.2.2.elim (fun z => .inl (by omega)) .inr⟩
def Eq (key : Nat→O.α) (p : Array Nat) (m q : Nat) : Prop:=q < m∧∀ k,m - (q + 1)≤k→k < m→Key key p k = Key key p (m - 1)
theorem rev_eq {p : Array Nat} {m q : Nat} (h : Eq key p m q) (hm : m≤p.size) (k : Nat) : Key key (kas_rev p (m - (q + 1)) m) k = Key key p k := by
  unfold Key
  rw [getD_rev hm]
  split
  · have a:=h.2 (m - (q + 1) + m - 1 - k) (by have:=h.1; omega) (by have:=h.1; omega)
    have b:=h.2 k (by omega) (by omega)
    exact a.trans b.symm
  · rfl
theorem desc : ∀ (f : Nat) (p : Array Nat) (m q : Nat),Pm n p→1≤m→m + f≤n→Dn key p m→Eq key p m q→Wp (ltOf key) n (kas_desc f p m q) fun r => Pm n r.1∧m≤r.2.1∧r.2.1≤m + f∧Dn key r.1 r.2.1∧Eq key r.1 r.2.1 r.2.2
  | 0,p,m,q,hp,_,_,h,e => ⟨hp,Nat.le_refl _,Nat.le_refl _,h,e⟩
  | f + 1,p,m,q,hp,h1,hf,h,e => by
    refine ⟨hp.lt _,hp.lt _,?_⟩
    have hm : m≤p.size := by rw [hp.size]; omega
    cases c : ltOf key (p.getD m 0) (p.getD (m - 1) 0) with
    | true =>
      have ck : O.klt (Key key p m) (Key key p (m - 1)):=c
      simp only [if_true]
      have fin : ∀ p' : Array Nat,Pm n p'→(∀ k,Key key p' k = Key key p k)→Wp (ltOf key) n (kas_desc f p' (m + 1) 0) fun r => Pm n r.1∧m≤r.2.1∧r.2.1≤m + (f + 1)∧Dn key r.1 r.2.1∧Eq key r.1 r.2.1 r.2.2:=fun p' hp' hk => by
        have hd : Dn key p' (m + 1):=fun i j hij hj => by rw [hk,hk]; exact h.more h1 (KeyOrd.kle_of_klt ck) i j hij hj
        have he : Eq key p' (m + 1) 0:=⟨by omega,fun k h1 h2 => by rw [show k = m + 1 - 1 by omega]⟩
        exact Wp.mono (fun r hr => ⟨hr.1,by omega,by omega,hr.2.2.2.1,hr.2.2.2.2⟩) _ (desc f p' (m + 1) 0 hp' (by omega) (by omega) hd he)
      split
      · exact fin _ (hp.rev _ _) (rev_eq e hm)
      · exact fin _ hp fun _ => rfl
    | false =>
      simp only [Bool.false_eq_true,if_false]
      refine ⟨hp.lt _,hp.lt _,?_⟩
      cases d : ltOf key (p.getD (m - 1) 0) (p.getD m 0) with
      | true =>
        simp only [if_true]
        exact ⟨hp,Nat.le_refl _,Nat.le_add_right _ _,h,e⟩
      | false =>
        simp only [Bool.false_eq_true,if_false]
        have ek : Key key p m = Key key p (m - 1):=KeyOrd.kle_antisymm (show O.kle (Key key p m) (Key key p (m - 1)) from d) (show O.kle (Key key p (m - 1)) (Key key p m) from c)
        refine Wp.mono (fun r hr => ⟨hr.1,by omega,by omega,hr.2.2.2.1,hr.2.2.2.2⟩) _ (desc f p (m + 1) (q + 1) hp (by omega) (by omega) (h.more h1 (by rw [ek]; exact KeyOrd.kle_refl _)) ⟨by have:=e.1; omega,fun k h2 h3 => ?_⟩)
        rw [show m + 1 - 1 = m by omega,ek]
        by_cases z : k = m
        · rw [z,ek]
        · exact e.2 k (by omega) (by omega)
theorem up_rev {p : Array Nat} {m : Nat} (h : Dn key p m) (hm : m≤p.size) : Up key (kas_rev p 0 m) m:=fun i j hij hj => by
  unfold Key
  rw [getD_rev hm,getD_rev hm,if_pos ⟨Nat.zero_le _,by omega⟩,if_pos ⟨Nat.zero_le _,by omega⟩]
  exact h (0 + m - 1 - j) (0 + m - 1 - i) (by omega) (by omega)
theorem tail3 {p : Array Nat} {m : Nat} (hp : Pm n p) (h1 : 1≤m) (hm : m≤n) (h : Dn key p m) : Wp (ltOf key) n (kas_tail3 m n p) fun r => Pm n r.2∧1≤r.1∧r.1≤n∧Up key r.2 r.1 := by
  unfold kas_tail3
  refine Wp.bind _ (Wp.mono (fun r hr => ?_) _ (asc (hp.rev 0 m) (n - m) m h1 (up_rev h (by rw [hp.size]; exact hm))))
  exact ⟨hp.rev 0 m,by omega,by omega,hr.2.2.1⟩
theorem descPart {p : Array Nat} {m : Nat} (hp : Pm n p) (h1 : 1≤m) (hm : m + 1≤n) (h : Dn key p (m + 1)) : Wp (ltOf key) n (kas_descPart m n p) fun r => Pm n r.2∧1≤r.1∧r.1≤n∧Up key r.2 r.1 := by
  unfold kas_descPart
  refine Wp.bind _ (Wp.mono (fun r hr => ?_) _ (desc (n - (m + 1)) p (m + 1) 0 hp (by omega) (by omega) h ⟨by omega,fun k h1 h2 => by rw [show k = m + 1 - 1 by omega]⟩))
  obtain ⟨a,b,c,d,e⟩:=hr
  have hz : r.2.1≤r.1.size := by rw [a.size]; omega
  split
  · refine tail3 (a.rev _ _) (by omega) (by omega) fun i j hij hj => ?_
    rw [rev_eq e hz,rev_eq e hz]
    exact d i j hij hj
  · exact tail3 a (by omega) (by omega) d
theorem count {p : Array Nat} (hp : Pm n p) : Wp (ltOf key) n (kas_count n p) fun r => Pm n r.2∧1≤r.1∧r.1≤n∧Up key r.2 r.1 := by
  have hn:=hp.pos
  unfold kas_count
  refine Wp.bind _ (Wp.mono (fun m hm => ?_) _ (asc hp (n - 1) 1 (Nat.le_refl _) Up.one))
  obtain ⟨h1,h2,h3,h4⟩:=hm
  split
  · exact ⟨hp,h1,by omega,h3⟩
  · rename_i hne
    have hne' : m≠n := by simpa using hne
    have hk : O.klt (Key key p m) (Key key p (m - 1)) := by
      rcases h4 with z | z
      · exact absurd (by omega) hne'
      · exact z
    have hz : m≤p.size := by rw [hp.size]; omega
    split
    · refine ⟨hp.lt _,hp.lt _,?_⟩
      cases c : ltOf key (p.getD 0 0) (p.getD (m - 1) 0) with
      | true => simp only [if_true]; exact ⟨hp,h1,by omega,h3⟩
      | false =>
        simp only [Bool.false_eq_true,if_false]
        have all : ∀ k,k < m→Key key p k = Key key p (m - 1):=fun k hk' => KeyOrd.kle_antisymm (h3 k (m - 1) (by omega) (by omega)) (KeyOrd.kle_trans (show O.kle (Key key p (m - 1)) (Key key p 0) from c) (h3 0 k (by omega) hk'))
        have ek : ∀ k,Key key (kas_rev p 0 m) k = Key key p k:=fun k => by
          by_cases hk' : k < m
          · have : Key key (kas_rev p 0 m) k = Key key p (0 + m - 1 - k) := by
              unfold Key; rw [getD_rev hz,if_pos ⟨Nat.zero_le _,hk'⟩]
            rw [this,all _ (by omega),all k hk']
          · unfold Key; rw [getD_rev hz,if_neg (by omega)]
        refine descPart (hp.rev _ _) h1 (by omega) fun i j hij hj => ?_
        rw [ek,ek]
        by_cases e : j = m
        · subst e
          by_cases e2 : i = j
          · subst e2; exact KeyOrd.kle_refl _
          · rw [all i (by omega)]; exact KeyOrd.kle_of_klt hk
        · rw [all i (by omega),all j (by omega)]; exact KeyOrd.kle_refl _
    · have : m = 1 := by omega
      subst this
      refine descPart hp h1 (by omega) fun i j hij hj => ?_
      by_cases e : i = j
      · subst e; exact KeyOrd.kle_refl _
      · rw [show i = 0 by omega,show j = 1 by omega]
        exact KeyOrd.kle_of_klt hk
theorem place {p : Array Nat} {k : Nat} (hp : Pm n p) (hs : Up key p k) : ∀ (f l r : Nat),l≤r→r≤k→r - l≤f→(∀ i,i < l→O.kle (Key key p i) (Key key p k))→(∀ i,r≤i→i < k→O.klt (Key key p k) (Key key p i)) →
    Wp (ltOf key) n (kas_place p k f l r) fun x => x≤k∧(∀ i,i < x→O.kle (Key key p i) (Key key p k))∧∀ i,x≤i→i < k→O.klt (Key key p k) (Key key p i)
  | 0,l,r,h1,h2,h3,a,b => by
    have : l = r := by omega
    subst this
    exact ⟨h2,a,b⟩
  | f + 1,l,r,h1,h2,h3,a,b => by
    unfold kas_place
    split
    · have : l = r := by omega
      subst this
      exact ⟨h2,a,b⟩
    · refine ⟨hp.lt _,hp.lt _,?_⟩
      cases c : ltOf key (p.getD k 0) (p.getD ((l + r) / 2) 0) with
      | true =>
        simp only [if_true]
        exact place hp hs f l ((l + r) / 2) (by omega) (by omega) (by omega) a fun i x1 x2 => KeyOrd.klt_of_klt_of_kle (show O.klt (Key key p k) (Key key p ((l + r) / 2)) from c) (hs _ _ x1 x2)
      | false =>
        simp only [Bool.false_eq_true,if_false]
        exact place hp hs f ((l + r) / 2 + 1) r (by omega) h2 (by omega) (fun i x1 => KeyOrd.kle_trans (hs i ((l + r) / 2) (by omega) (by omega)) (show O.kle (Key key p ((l + r) / 2)) (Key key p k) from c)) b
theorem bin : ∀ (f : Nat) (p : Array Nat) (k : Nat),Pm n p→1≤k→k + f = n→Up key p k→Wp (ltOf key) n (kas_bin f p k) fun r => Pm n r∧Up key r n
  | 0,p,k,hp,_,hk,h => by
    have : k = n := by omega
    subst this
    exact ⟨hp,h⟩
  | f + 1,p,k,hp,h1,hk,h => by
    have hks : k < p.size := by rw [hp.size]; omega
    refine Wp.bind _ (Wp.mono (fun l hl => ?_) _ (place hp h k 0 k (Nat.zero_le _) (Nat.le_refl _) (by omega) (fun i z => absurd z (by omega)) fun i z1 z2 => absurd z1 (by omega)))
    obtain ⟨hlk,hlo,hhi⟩:=hl
    refine bin f _ (k + 1) (hp.bubble _ _) (by omega) (by omega) fun i j hij hj => ?_
    have kb : ∀ x,Key key (PyProof.Rows.bubble p k (k - l)) x = if x = l then Key key p k else if l < x∧x≤k then Key key p (x - 1) else Key key p x:=fun x => by
      unfold Key
      rw [getD_bubble hks (by omega),show k - (k - l) = l by omega]
      split
      · rfl
      · split <;> rfl
    rw [kb,kb]
    repeat' split
    all_goals first
      | (exfalso; omega)
      | exact KeyOrd.kle_refl _
      | exact hlo _ (by omega)
      | exact KeyOrd.kle_of_klt (hhi _ (by omega) (by omega))
      | exact h _ _ (by omega) (by omega)
theorem sort (hn : 0 < n) : Wp (ltOf key) n (kas_sort n) fun p => Pm n p∧Up key p n := by
  have hp : Pm n (List.toArray (List.range n)):=⟨Array.Perm.refl _,hn⟩
  unfold kas_sort
  refine Wp.bind _ (Wp.mono (fun r hr => ?_) _ (count hp))
  obtain ⟨a,b,c,d⟩:=hr
  split
  · rw [show max r.1 1 = r.1 by omega]
    exact bin _ _ _ a b (by omega) d
  · have : r.1 = n := by omega
    rw [this] at d
    exact ⟨a,d⟩
end
end SM
namespace Tr
theorem perm_ins (x : Tr) : ∀ l : List Tr,(ins x l).Perm (x :: l)
  | [] => .refl _
  | y :: r => by
    rw [ins]
    split
    · exact ((perm_ins x r).cons y).trans (.swap x y r)
    · exact .refl _
theorem perm_srt : ∀ l : List Tr,(srt l).Perm l
  | [] => .refl _
  | x :: r => by
    rw [srt]
    exact (perm_ins x (srt r)).trans ((perm_srt r).cons x)
abbrev Fall (l : List Tr) : Prop:=l.Pairwise fun a b => lt a b = false
theorem fall_ins (x : Tr) : ∀ l : List Tr,Fall l→Fall (ins x l)
  | [],_ => List.pairwise_singleton _ _
  | y :: r,h => by
    obtain ⟨h1,h2⟩:=List.pairwise_cons.mp h
    rw [ins]
    split
    · rename_i c
      refine List.pairwise_cons.mpr ⟨fun z hz => ?_,fall_ins x r h2⟩
      rcases List.mem_cons.mp ((perm_ins x r).mem_iff.mp hz) with rfl | hz
      · exact lt_asymm c
      · exact h1 z hz
    · rename_i c
      have c' : lt x y = false := by simpa using c
      refine List.pairwise_cons.mpr ⟨fun z hz => ?_,h⟩
      rcases List.mem_cons.mp hz with rfl | hz
      · exact c'
      · cases e : lt x z with
        | false => rfl
        | true =>
          rcases lt_negTrans x y z e with q | q
          · rw [c'] at q; cases q
          · rw [h1 z hz] at q; cases q
theorem fall_srt : ∀ l : List Tr,Fall (srt l)
  | [] => List.Pairwise.nil
  | x :: r => by rw [srt]; exact fall_ins x _ (fall_srt r)
theorem fall_unique : ∀ {l m : List Tr},Fall l→Fall m→l.Perm m→l = m
  | [],m,_,_,p => (List.nil_perm.mp p).symm
  | x :: r,[],_,_,p => absurd p.length_eq (by simp)
  | x :: r,y :: q,h1,h2,p => by
    obtain ⟨a1,a2⟩:=List.pairwise_cons.mp h1
    obtain ⟨b1,b2⟩:=List.pairwise_cons.mp h2
    have hx : x∈y :: q:=p.mem_iff.mp List.mem_cons_self
    have hy : y∈x :: r:=p.mem_iff.mpr List.mem_cons_self
    have e : x = y := by
      rcases List.mem_cons.mp hx with e | hx
      · exact e
      · rcases List.mem_cons.mp hy with e | hy
        · exact e.symm
        · exact lt_total x y (a1 y hy) (b1 x hx)
    subst e
    rw [fall_unique a2 b2 (List.Perm.cons_inv p)]
theorem srt_of {l m : List Tr} (h : Fall m) (p : m.Perm l) : m = srt l:=fall_unique h (fall_srt l) (p.trans (perm_srt l).symm)
theorem srt_rev_of {l m : List Tr} (h : m.Pairwise fun a b => lt b a = false) (p : m.Perm l) : m = (srt l).reverse := by
  have : m.reverse = srt l:=srt_of (List.pairwise_reverse.mpr h) ((List.reverse_perm m).trans p)
  rw [← this,List.reverse_reverse]
theorem deep_of (n : Nat) : ∀ l : List Tr,(of l).deep≤n ↔ ∀ c∈l,c.deep + 1≤n
  | [] => by simp [of,deep]
  | b :: r => by
    rw [of,deep,List.forall_mem_cons,← deep_of n r]
    omega
theorem deep_perm {l m : List Tr} (p : l.Perm m) : (of l).deep≤(of m).deep:=(deep_of _ l).mpr fun c hc => (deep_of _ m).mp (Nat.le_refl _) c (p.mem_iff.mp hc)
theorem deep_rev (t : Tr) : (of t.bs.reverse).deep≤t.deep := by
  have:=deep_perm (List.reverse_perm t.bs)
  rwa [of_bs] at this
def ord : PyProof.Rows.KeyOrd where
  α:=Tr
  blt:=lt
  irrefl:=lt_irrefl
  trans:=lt_trans
  negTrans:=lt_negTrans
  total:=lt_total
end Tr
namespace TH
open PySem PySem.W PyProof.Rows PySem.SeqAt
theorem Vs.at {h : Heap} : ∀ {t : Tr} {us : List Value} {i : Nat},Vs h t us→i < us.length→∃ (a : Addr) (its : List Value) (c : Tr),us.getD i Value.none = .ref a∧h.IsTuple a its.toArray∧Vs h c its∧t.bs[i]? = some c∧c.deep < t.deep
  | .nil,us,i,e,hi => by rw [Vs] at e; subst e; exact absurd hi (Nat.not_lt_zero _)
  | .cons b r,us,i,e,hi => by
    rw [Vs] at e
    obtain ⟨a,its,rest,rfl,h1,h2,h3⟩:=e
    have hd : (Tr.cons b r).deep = max (b.deep + 1) r.deep:=rfl
    cases i with
    | zero => exact ⟨a,its,b,rfl,h1,h2,rfl,by omega⟩
    | succ i =>
      obtain ⟨a',its',c,q1,q2,q3,q4,q5⟩:=Vs.at (i:=i) h3 (by simpa using hi)
      exact ⟨a',its',c,by simpa using q1,q2,q3,by simpa [Tr.bs] using q4,by omega⟩
theorem Vs.of_all {h : Heap} : ∀ (ts : List Tr) (us : List Value),us.length = ts.length→(∀ i,i < ts.length→∃ (a : Addr) (its : List Value) (c : Tr),us[i]? = some (.ref a)∧h.IsTuple a its.toArray∧Vs h c its∧ts[i]? = some c)→Vs h (Tr.of ts) us
  | [],us,hl,_ => by
    rw [Tr.of,Vs]
    exact List.eq_nil_of_length_eq_zero (by simpa using hl)
  | t :: ts,[],hl,_ => by simp at hl
  | t :: ts,u :: us,hl,h => by
    rw [Tr.of,Vs]
    obtain ⟨a,its,c,e1,e2,e3,e4⟩:=h 0 (by simp)
    simp at e1 e4
    subst e1 e4
    refine ⟨a,its,us,rfl,e2,e3,Vs.of_all ts us (by simpa using hl) fun i hi => ?_⟩
    obtain ⟨a',its',c',q1,q2,q3,q4⟩:=h (i + 1) (by simpa using hi)
    exact ⟨a',its',c',by simpa using q1,q2,q3,by simpa using q4⟩
theorem Vs.all {h : Heap} {t : Tr} {us : List Value} (e : Vs h t us) : ∀ i,i < t.bs.length→∃ (a : Addr) (its : List Value) (c : Tr),us[i]? = some (.ref a)∧h.IsTuple a its.toArray∧Vs h c its∧t.bs[i]? = some c:=fun i hi => by
  have hl : i < us.length := by rw [Vs.length e,← Tr.len_bs]; exact hi
  obtain ⟨a,its,c,q1,q2,q3,q4,_⟩:=e.at hl
  refine ⟨a,its,c,?_,q2,q3,q4⟩
  rw [List.getD_eq_getElem?_getD,List.getElem?_eq_getElem hl] at q1
  rw [List.getElem?_eq_getElem hl]
  simpa using q1
section
variable {prog : Program} {w : World} {A : Around} {E : Value→Shared→Prop} {s : Shared} {t u : Tr} {a b : Addr} {its its' : List Value} {Q : Bool→Shared→Prop}
theorem ask_gen (h1 : s.heap.IsTuple a its.toArray) (k1 : Vs s.heap t its) (h2 : s.heap.IsTuple b its'.toArray) (k2 : Vs s.heap u its') (hu : A.units + t.deep < cLine) (h : Q (Tr.lt t u) s) : wpAny (model prog w) A (oneLt' false (.ref a) (.ref b)) Q E s := by
  rw [oneLt'_eq]
  simp only [Bool.false_eq_true,if_false]
  exact wpAny_bind (rc_lt (t.deep + 1) t u A s a b its its' (Nat.lt_succ_self _) h1 k1 h2 k2 hu prog w E _ (wpAny_truthy_bool h))
theorem ask_one (h1 : s.heap.IsTuple a its.toArray) (k1 : Vs s.heap t its) (h2 : s.heap.IsTuple b its'.toArray) (k2 : Vs s.heap u its') (hu : A.units + t.deep < cLine) (h : Q (Tr.lt t u) s) : wpAny (model prog w) A (oneLt' true (.ref a) (.ref b)) Q E s := by
  rw [oneLt'_eq]
  simp only [if_true]
  refine wpAny_bind (wpAny_cRoomFor (by omega) ?_)
  obtain ⟨⟨cls,dd,data,sl⟩,ho,hc,n,hdt⟩:=id h1
  obtain ⟨⟨cls2,dd2,data2,sl2⟩,ho2,hc2,n2,hdt2⟩:=id h2
  simp only at hc hdt hc2 hdt2
  subst hc hdt hc2 hdt2
  refine wpAny_bind (wpAny_callSpecialIfBound?_slot (T := "tuple") ⟨_,ho,rfl⟩ PySem.F.slot_tuple_lt (call_meets PySem.F.slot_tuple_lt ⟨_,ho,rfl⟩ PySem.F.entry_tuple_lt (PySem.F.args_tuple_lt_2 _ _)
    (tuple_lt t.deep (rc_lt t.deep) a b its.toArray its'.toArray n n2 dd dd2 sl sl2 t u (Nat.le_refl _)) ⟨ho,ho2,by simpa using k1,by simpa using k2,hu,?_⟩))
  exact wpAny_truthy_bool h
theorem ask_lex : ∀ (t u : Tr) (us vs : List Value) (i : Nat),Vs s.heap t us→Vs s.heap u vs→A.units + t.deep≤cLine→Q (Tr.lt t u) s→KatLex prog w A false (decide (t.len < u.len)) Q (us.zip vs) i s
  | .nil,.nil,us,vs,i,e,f,_,h => by
    rw [Vs] at e
    subst e
    rw [List.zip_nil_left]
    exact kat_nil h
  | .nil,.cons c q,us,vs,i,e,f,_,h => by
    rw [Vs] at e
    subst e
    rw [List.zip_nil_left]
    refine kat_nil ?_
    rw [show decide (Tr.nil.len < (Tr.cons c q).len) = true from decide_eq_true (Nat.zero_lt_succ _)]
    exact h
  | .cons b r,.nil,us,vs,i,e,f,_,h => by
    rw [Vs] at f
    subst f
    rw [List.zip_nil_right]
    refine kat_nil ?_
    rw [show decide ((Tr.cons b r).len < Tr.nil.len) = false from decide_eq_false (Nat.not_lt_zero _)]
    exact h
  | .cons b r,.cons c q,us,vs,i,e,f,hu,h => by
    rw [Vs] at e f
    obtain ⟨a,its,rest,rfl,k1,k2,k3⟩:=e
    obtain ⟨a',its',rest',rfl,l1,l2,l3⟩:=f
    have hd : (Tr.cons b r).deep = max (b.deep + 1) r.deep:=rfl
    rw [List.zip_cons_cons,show decide ((Tr.cons b r).len < (Tr.cons c q).len) = decide (r.len < q.len) from by simp [Tr.len]]
    rw [Tr.lt] at h
    refine kat_cons (eqAt k1 k2 l1 l2 (by omega) prog w _ _ ?_)
    by_cases hbc : b = c
    · rw [decide_eq_true hbc]
      rw [if_pos hbc] at h
      exact kat_yes (ask_lex r q rest rest' (i + 1) k3 l3 (by omega) h)
    · rw [decide_eq_false hbc]
      rw [if_neg hbc] at h
      exact kat_no (by rw [Bool.false_and]; exact ask_gen k1 k2 l1 l2 (by omega) h)
theorem ask_tup (h1 : s.heap.IsTuple a its.toArray) (k1 : Vs s.heap t its) (h2 : s.heap.IsTuple b its'.toArray) (k2 : Vs s.heap u its') (hu : A.units + t.deep < cLine) (h : Q (Tr.lt t u) s) : wpAny (model prog w) A (keyLt' (tuples' false) (.ref a) (.ref b)) Q E s := by
  obtain ⟨o,ho,hc,n,hd⟩:=id h1
  obtain ⟨o2,ho2,hc2,n2,hd2⟩:=id h2
  refine kat_lt ho hd ho2 hd2 ?_
  have z1 : its.toArray.size = t.len := by rw [← Vs.length k1]; simp
  have z2 : its'.toArray.size = u.len := by rw [← Vs.length k2]; simp
  rw [z1,z2]
  exact ask_lex t u its its' 0 k1 k2 (by omega) h
def TrKind (κ : SortKind) : Prop:=κ = general'∨κ = oneType'∨κ = tuples' false
theorem ask_any {κ : SortKind} (hκ : TrKind κ) (h1 : s.heap.IsTuple a its.toArray) (k1 : Vs s.heap t its) (h2 : s.heap.IsTuple b its'.toArray) (k2 : Vs s.heap u its') (hu : A.units + t.deep < cLine) (h : Q (Tr.lt t u) s) : wpAny (model prog w) A (keyLt' κ (.ref a) (.ref b)) Q E s := by
  rcases hκ with rfl | rfl | rfl
  · exact ask_gen h1 k1 h2 k2 hu h
  · rw [keyLt'_oneType]; exact ask_one h1 k1 h2 k2 hu h
  · exact ask_tup h1 k1 h2 k2 hu h
theorem tuple_looks {M : Model} {h : Heap} {a : Addr} {x : Array Value} (h1 : h.IsTuple a x) : Looks M h (typeOf (.ref a)) (.type "tuple") := by
  obtain ⟨o,ho,hc,_⟩:=h1
  exact hc ▸ (Looks.ld ho).andThen .now
theorem firsts_tr {M : Model} : ∀ (t : Tr) (us : List Value) {Q : List (Option Value)→Shared→Prop},Vs s.heap t us→(∀ fs : List (Option Value),(∀ v,some v∈fs→Looks M s.heap (typeOf v) (.type "tuple"))→Q fs s)→wpAny M A (us.mapM firstOfTuple') Q E s
  | .nil,us,Q,e,h => by
    rw [Vs] at e
    subst e
    rw [List.mapM_nil]
    exact wpAny_pure (h [] fun _ z => by cases z)
  | .cons b r,us,Q,e,h => by
    rw [Vs] at e
    obtain ⟨a,its,rest,rfl,h1,h2,h3⟩:=e
    obtain ⟨o,ho,hc,n,hd⟩:=id h1
    rw [List.mapM_cons]
    refine wpAny_bind ?_
    rw [kas_first_eq]
    refine wpAny_bind (Looks.here (show Looks M s.heap (typeOf (.ref a)) o.cls from (Looks.ld ho).andThen .now) ?_)
    rw [hc,if_neg (by first | decide | simp)]
    refine wpAny_bind (listItems_at ho hd (wpAny_pure ?_))
    refine wpAny_bind (firsts_tr r rest (Q:=fun bs s' => wpAny M A (pure (its.toArray[0]? :: bs)) Q E s') h3 fun fs hfs => wpAny_pure (h _ fun v hv => ?_))
    rcases List.mem_cons.mp hv with z | z
    · cases b with
      | nil => rw [Vs] at h2; subst h2; simp at z
      | cons c q =>
        rw [Vs] at h2
        obtain ⟨a',its',rest',rfl,k1,_⟩:=h2
        simp at z
        subst z
        exact tuple_looks k1
    · exact hfs v z
theorem only_tr {M : Model} {vs : List Value} {Q : Option Value→Shared→Prop} (hT : ∀ v∈vs,Looks M s.heap (typeOf v) (.type "tuple")) (h0 : vs = []→Q none s) (h1 : Q (some (.type "tuple")) s) : wpAny M A (oneTypeOnly' vs.toArray) Q E s := by
  rw [oneTypeOnly'_eq,List.mapM_toArray,map_eq_pure_bind]
  refine wpAny_bind (wpAny_bind (kas_mapM (r:=Value.type "tuple") _ (fun v hv Q' hq => (hT v hv).here hq) (wpAny_pure ?_)))
  cases vs with
  | nil => exact wpAny_pure (h0 rfl)
  | cons f r =>
    have hall : ((List.map (fun _ => Value.type "tuple") (f :: r)).toArray.all fun x => x == Value.type "tuple") = true := by
      simp only [List.all_toArray,List.all_map,List.all_eq_true]
      intro _ _
      rfl
    have e0 : (List.map (fun _ => Value.type "tuple") (f :: r)).toArray[0]? = some (Value.type "tuple") := by simp
    rw [e0]
    simp only [hall,if_true]
    exact wpAny_pure h1
theorem kind_tr {M : Model} {t : Tr} {us : List Value} {Q : SortKind→Shared→Prop} (e : Vs s.heap t us) (h : ∀ κ,TrKind κ→Q κ s) : wpAny M A (keyKind' us.toArray) Q E s := by
  rw [kat_kind_eq,List.mapM_toArray,map_eq_pure_bind]
  refine wpAny_bind (wpAny_bind (firsts_tr t us e fun fs hfs => wpAny_pure ?_))
  split
  · refine wpAny_bind (wpAny_rule ?_)
    have e1 : fs.toArray.filterMap id = (fs.filterMap id).toArray := by simp
    rw [e1]
    have hl : ∀ v∈fs.filterMap id,Looks M s.heap (typeOf v) (.type "tuple"):=fun v hv => hfs v (by simpa using hv)
    refine wpAny_bind (only_tr hl (fun _ => ?_) ?_)
    · exact wpAny_pure (h _ (.inr (.inr rfl)))
    · exact wpAny_pure (h _ (.inr (.inr rfl)))
  · split
    · exact wpAny_pure (h _ (.inl rfl))
    · have hl : ∀ v∈us,Looks M s.heap (typeOf v) (.type "tuple"):=fun v hv => by
        obtain ⟨i,hi,rfl⟩:=List.getElem_of_mem hv
        obtain ⟨a,its,c,q1,q2,_⟩:=e.at hi
        rw [List.getD_eq_getElem?_getD,List.getElem?_eq_getElem hi] at q1
        simp at q1
        rw [q1]
        exact tuple_looks q2
      refine wpAny_bind (only_tr hl (fun _ => ?_) ?_)
      · exact wpAny_pure (h _ (.inl rfl))
      · exact wpAny_pure (h _ (.inr (.inl rfl)))
theorem kasWp_of {α : Type} {cmp : Nat→Nat→(Bool→Shared→Prop)→Shared→Prop} {lt : Nat→Nat→Bool} {n : Nat} {Q' : α→Prop} (hc : ∀ i j C,i < n→j < n→C (lt i j) s→cmp i j C s) : ∀ T : KasT α,SM.Wp lt n T Q'→T.kasWp cmp (fun a s' => s' = s∧Q' a) s
  | .ret a,h => ⟨rfl,h⟩
  | .ask i j k,h => hc i j _ h.1 h.2.1 (kasWp_of hc (k (lt i j)) h.2.2)
end
end TH
namespace TH
open PySem PySem.W PyProof.Rows PySem.SeqAt
theorem Vs.keeps {h h' : Heap} (k : ∀ b o,h.get? b = some o→o.cls = .type "tuple" → h'.get? b = some o) : ∀ {t : Tr} {us : List Value},Vs h t us→Vs h' t us
  | .nil,us,e => by rw [Vs] at e ⊢; exact e
  | .cons b r,us,e => by
    rw [Vs] at e ⊢
    obtain ⟨a,its,rest,rfl,⟨o,ho,hc,hd⟩,h2,h3⟩:=e
    exact ⟨a,its,rest,rfl,⟨o,k _ _ ho hc,hc,hd⟩,h2.keeps k,h3.keeps k⟩
theorem map_getD {α : Type} (d : α) (l : List α) : (List.range l.length).map (fun i => l.getD i d) = l := by
  refine List.ext_getElem (by simp) fun i h1 h2 => ?_
  simp [h2]
theorem Vs.rev {h : Heap} {t : Tr} {us : List Value} (e : Vs h t us) : Vs h (Tr.of t.bs.reverse) us.reverse := by
  have hl : us.length = t.bs.length := by rw [e.length,Tr.len_bs]
  refine Vs.of_all _ _ (by simp [hl]) fun i hi => ?_
  rw [List.length_reverse] at hi
  obtain ⟨a,its,c,q1,q2,q3,q4⟩:=e.all (t.bs.length - 1 - i) (by omega)
  exact ⟨a,its,c,by rw [List.getElem?_reverse (by omega),hl]; exact q1,q2,q3,by rw [List.getElem?_reverse hi]; exact q4⟩
section
variable {prog : Program} {w : World} {A : Around} {E : Value→Shared→Prop} {s : Shared}
theorem sort_run {κ : SortKind} {t : Tr} {ws : List Value} (hκ : TrKind κ) (e : Vs s.heap t ws) (h2 : 2≤ws.length) (h64 : ws.length < 64) (hu : A.units + t.deep≤cLine) :
    wpAny (model prog w) A ((sortRuns').run (SortSt.mk' κ (ws.toArray.zip ws.toArray) #[] 7 none)) (fun r s' => s' = s∧failedOf r.2 = none∧∃ ix : List Nat,ix.length = ws.length∧(∀ i∈ix,i < ws.length) ∧
      (arrOf r.2).map (·.2) = (ix.map fun i => ws.getD i Value.none).toArray∧(ix.map fun i => t.bs.getD i .nil) = (Tr.srt t.bs).reverse) E s := by
  have hl : ws.length = t.bs.length := by rw [e.length,Tr.len_bs]
  have key : ∀ i,i < ws.length→∃ (a : Addr) (its : List Value),ws.getD i Value.none = .ref a∧s.heap.IsTuple a its.toArray∧Vs s.heap (t.bs.getD i .nil) its∧(t.bs.getD i .nil).deep < t.deep:=fun i hi => by
    obtain ⟨a,its,c,q1,q2,q3,q4,q5⟩:=e.at hi
    have : t.bs.getD i .nil = c := by rw [List.getD_eq_getElem?_getD,q4]; rfl
    rw [this]
    exact ⟨a,its,q1,q2,q3,q5⟩
  refine kat_run (Q:=fun st' s' => s' = s∧failedOf st' = none∧∃ ix : List Nat,ix.length = ws.length∧(∀ i∈ix,i < ws.length)∧(arrOf st').map (·.2) = (ix.map fun i => ws.getD i Value.none).toArray∧(ix.map fun i => t.bs.getD i .nil) = (Tr.srt t.bs).reverse)
    (G:=fun p s' => s' = s∧SM.Pm ws.length p∧SM.Up (O:=Tr.ord) (fun i => t.bs.getD i .nil) p ws.length) rfl h2 h64 (fun p st' s' hp har hf hG => ?_)
    (kasWp_of (lt:=SM.ltOf (O:=Tr.ord) fun i => t.bs.getD i .nil) (n:=ws.length) (fun i j C hi hj hC => ?_) _ (SM.sort (by omega)))
  · obtain ⟨rfl,hpm,hup⟩:=hG
    have h1 : p.toList.Perm (List.range ws.length) := by simpa using Array.perm_iff_toList_perm.mp hpm.perm
    refine ⟨rfl,hf,p.toList,by rw [Array.length_toList,hp],fun i hi => List.mem_range.mp (h1.mem_iff.mp hi),kat_snds rfl har,?_⟩
    have perm : (p.toList.map fun i => t.bs.getD i .nil).Perm t.bs := by
      have h3:=h1.map fun i => t.bs.getD i Tr.nil
      rwa [hl,map_getD] at h3
    refine Tr.srt_rev_of (List.pairwise_iff_getElem.mpr fun i j hi hj hij => ?_) perm
    rw [List.length_map,Array.length_toList,hp] at hi hj
    have:=hup i j (by omega) hj
    have e1 : ∀ k,k < ws.length→∀ hk,(p.toList.map fun i => t.bs.getD i Tr.nil)[k]'hk = t.bs.getD (p.getD k 0) .nil:=fun k hk hk' => by
      rw [List.getElem_map,Array.getElem_toList,Array.getD,dif_pos (by omega)]
      rfl
    rw [e1 i hi,e1 j hj]
    exact this
  · obtain ⟨a,its,q1,q2,q3,q4⟩:=key i hi
    obtain ⟨a',its',r1,r2,r3,r4⟩:=key j hj
    unfold kas_ask
    rw [q1,r1]
    exact ask_any hκ q2 q3 r2 r3 (by omega) hC
theorem short_out (b : Bool) (us : List Value) (hz : us.length < 2) : (if b = true then ((if b = true then (us.toArray.zip us.toArray).reverse else us.toArray.zip us.toArray).map (·.2)).reverse else (if b = true then (us.toArray.zip us.toArray).reverse else us.toArray.zip us.toArray).map (·.2)) = us.toArray := by
  match us,hz with
  | [],_ => cases b <;> simp
  | [x],_ => cases b <;> simp
theorem list_sort_tr {a : Addr} {us : List Value} {t : Tr} {n : Nat} {b : Bool} {P : PySem.Fin→Shared→Prop} (ho : s.heap.get? a = some (seqObj "list" us.toArray n)) (e : Vs s.heap t us) (h64 : us.length < 64) (hu : A.units + t.deep≤cLine)
    (h : ∀ ix : List Nat,ix.length = us.length→(∀ i∈ix,i < us.length)→(ix.map fun i => t.bs.getD i .nil) = (if b then Tr.srt t.bs else (Tr.srt t.bs).reverse)→P (.done (.ret .none)) { s with heap:=sortedHeap s.heap a us (ix.map fun i => us.getD i Value.none).toArray }) :
    wpAny (model prog w) A (Builtin.«list.sort» ⟨[.ref a],[(Str.ofString "reverse",.bool b)]⟩) P E s := by
  rw [list_sort_rev]
  have ha : a < s.heap.objs.size:=Heap.lt_size ho
  refine wpAny_bind (listItems_at ho rfl ?_)
  refine wpAny_bind (listUpdate_at ho rfl ?_ (by rw [List.size_toArray,sizeLine_eq]; omega) (Nat.zero_le _))
  obtain ⟨e1,ho1⟩ : ∃ e1,(s.heap.update a (Obj.mapSeq fun _ => #[])).get? a = some (seqObj "list" #[] e1):=⟨_,get?_update_seq ho (fun _ => #[])⟩
  refine wpAny_bind (seqEpoch_at ho1 rfl ?_)
  refine wpAny_bind (wpAny_newTuple ?_ (by show us.length≤_; rw [sizeLine_eq]; omega))
  refine wpAny_bind (wpAny_newList ?_ (Nat.zero_le _))
  refine wpAny_holding ?_
  have ho6 : (((s.heap.update a (Obj.mapSeq fun _ => #[])).push (seqObj "tuple" us.toArray 0)).push (seqObj "list" #[] 0)).get? a = some (seqObj "list" #[] e1) := by
    rw [Heap.get?_push_ne _ _ _ (by rw [size_push',Heap.size_update]; exact Nat.ne_of_lt (Nat.lt_succ_of_lt ha)),Heap.get?_push_ne _ _ _ (by rw [Heap.size_update]; exact Nat.ne_of_lt ha)]
    exact ho1
  have keep : ∀ c o,s.heap.get? c = some o→o.cls = .type "tuple" → (((s.heap.update a (Obj.mapSeq fun _ => #[])).push (seqObj "tuple" us.toArray 0)).push (seqObj "list" #[] 0)).get? c = some o:=fun c o hc hcl => by
    have hne : c≠a:=fun z => by
      rw [z,ho] at hc
      cases hc
      exact absurd (show Value.type "list" = Value.type "tuple" from hcl) (by decide)
    refine Heap.get?_push_of_some _ (Heap.get?_push_of_some _ ?_)
    rw [Heap.get?_update_ne _ _ _ _ hne]
    exact hc
  show wpAny (model prog w) A _ P E { s with heap:=((s.heap.update a (Obj.mapSeq fun _ => #[])).push (seqObj "tuple" us.toArray 0)).push (seqObj "list" #[] 0) }
  have e6:=e.keeps keep
  dsimp only
  have step : ∀ T : Sem PySem.Fin,wpAny (model prog w) A T P E { s with heap:=((s.heap.update a (Obj.mapSeq fun _ => #[])).push (seqObj "tuple" us.toArray 0)).push (seqObj "list" #[] 0) } →
      wpAny (model prog w) A (if b = true then (do let _ ← rule "list.sort.reverse"; T) else T) P E { s with heap:=((s.heap.update a (Obj.mapSeq fun _ => #[])).push (seqObj "tuple" us.toArray 0)).push (seqObj "list" #[] 0) } := by
    intro T hT
    split
    · exact wpAny_bind (wpAny_rule hT)
    · exact hT
  refine step _ ?_
  by_cases h2 : us.toArray.size < 2
  · rw [if_pos h2,if_pos h2]
    refine wpAny_bind (wpAny_pure ?_)
    rw [StateT.run_pure]
    refine wpAny_bind (wpAny_pure ?_)
    dsimp only
    have hz : us.length < 2 := by simpa using h2
    have hout:=short_out b us hz
    refine wpAny_bind (seqEpoch_at ho6 rfl ?_)
    refine wpAny_bind (listUpdate_at ho6 rfl ?_ (Nat.zero_le _) (by
      refine Nat.le_trans (Nat.le_of_eq (congrArg Array.size hout)) ?_
      rw [List.size_toArray,sizeLine_eq]; omega))
    simp only [bne_self_eq_false,Bool.false_eq_true,if_false]
    have hl : us.length = t.bs.length := by rw [e.length,Tr.len_bs]
    have fin:=h (List.range us.length) (by simp) (fun i hi => List.mem_range.mp hi) (by
      rw [hl,map_getD]
      match hbs : t.bs,(show t.bs.length < 2 by omega) with
      | [],_ => cases b <;> rfl
      | [_],_ => cases b <;> rfl)
    rw [map_getD] at fin
    rw [← hout] at fin
    exact wpAny_pure fin
  · rw [if_neg h2,if_neg h2]
    have hz : 2≤us.length := by simpa using h2
    refine wpAny_bind (kind_tr (s:={ s with heap:=((s.heap.update a (Obj.mapSeq fun _ => #[])).push (seqObj "tuple" us.toArray 0)).push (seqObj "list" #[] 0) }) e6 fun κ hκ => ?_)
    have hl : us.length = t.bs.length := by rw [e.length,Tr.len_bs]
    obtain ⟨ws,tw,ew,hwl,hws,hdp,pick⟩ : ∃ (ws : List Value) (tw : Tr),Vs (((s.heap.update a (Obj.mapSeq fun _ => #[])).push (seqObj "tuple" us.toArray 0)).push (seqObj "list" #[] 0)) tw ws∧ws.length = us.length ∧
        (if b = true then (us.toArray.zip us.toArray).reverse else us.toArray.zip us.toArray) = ws.toArray.zip ws.toArray∧tw.deep≤t.deep ∧
        ∀ (_b : Bool) (ix : List Nat),ix.length = ws.length→(∀ i∈ix,i < ws.length)→(ix.map fun i => tw.bs.getD i .nil) = (Tr.srt tw.bs).reverse→∃ iy : List Nat,iy.length = us.length∧(∀ i∈iy,i < us.length)∧(iy.map fun i => t.bs.getD i .nil) = (if b then Tr.srt t.bs else (Tr.srt t.bs).reverse) ∧
          (if b = true then ((ix.map fun i => ws.getD i Value.none).toArray).reverse else (ix.map fun i => ws.getD i Value.none).toArray) = (iy.map fun i => us.getD i Value.none).toArray := by
      cases b with
      | false => exact ⟨us,t,e6,rfl,rfl,Nat.le_refl _,fun _ ix h1 h2 h3 => ⟨ix,h1,h2,h3,rfl⟩⟩
      | true =>
        have hsrt : Tr.srt t.bs.reverse = Tr.srt t.bs:=Tr.srt_of (Tr.fall_srt _) ((Tr.perm_srt _).trans (List.reverse_perm _))
        refine ⟨us.reverse,Tr.of t.bs.reverse,e6.rev,by simp,kat_pairs (ks:=us) (vs:=us) true rfl,Tr.deep_rev t,fun _ ix h1 h2 h3 => ⟨(ix.map fun i => us.length - 1 - i).reverse,by simpa using h1,fun i hi => ?_,?_,?_⟩⟩
        · rw [List.mem_reverse,List.mem_map] at hi
          obtain ⟨k,hk,rfl⟩:=hi
          have:=h2 k hk
          rw [List.length_reverse] at this
          omega
        · rw [Tr.bs_of,hsrt] at h3
          rw [List.map_reverse,List.map_map]
          have : (ix.map ((fun i => t.bs.getD i Tr.nil) ∘ fun i => us.length - 1 - i)) = ix.map fun i => t.bs.reverse.getD i .nil:=List.map_congr_left fun i hi => by
            have:=h2 i hi
            rw [List.length_reverse] at this
            show t.bs.getD (us.length - 1 - i) Tr.nil = _
            rw [List.getD_eq_getElem?_getD,List.getD_eq_getElem?_getD,List.getElem?_reverse (by omega),hl]
          rw [this,h3,List.reverse_reverse]
          rfl
        · rw [if_pos rfl,List.map_reverse,List.map_map,List.reverse_toArray]
          congr 2
          exact List.map_congr_left fun i hi => by
            have:=h2 i hi
            rw [List.length_reverse] at this
            show us.reverse.getD i Value.none = us.getD (us.length - 1 - i) Value.none
            rw [List.getD_eq_getElem?_getD,List.getD_eq_getElem?_getD,List.getElem?_reverse (by omega)]
    rw [hws]
    refine wpAny_bind (wpAny_mono (sort_run (s:={ s with heap:=((s.heap.update a (Obj.mapSeq fun _ => #[])).push (seqObj "tuple" us.toArray 0)).push (seqObj "list" #[] 0) }) hκ ew (by omega) (by omega) (by omega)) ?_ fun _ _ z => z)
    rintro ⟨⟨⟩,st'⟩ s' ⟨rfl,hf,ix,hil,hix,hout,hst⟩
    dsimp only
    refine wpAny_bind (seqEpoch_at ho6 rfl ?_)
    obtain ⟨iy,y1,y2,y3,hfin⟩ : ∃ iy : List Nat,iy.length = us.length∧(∀ i∈iy,i < us.length)∧(iy.map fun i => t.bs.getD i .nil) = (if b then Tr.srt t.bs else (Tr.srt t.bs).reverse) ∧
        (if b = true then ((arrOf st').map (·.2)).reverse else (arrOf st').map (·.2)) = (iy.map fun i => us.getD i Value.none).toArray := by
      rw [show (arrOf st').map (·.2) = _ from hout]
      exact pick b ix hil hix hst
    refine wpAny_bind (listUpdate_at ho6 rfl ?_ (Nat.zero_le _) (by
      refine Nat.le_trans (Nat.le_of_eq (congrArg Array.size hfin)) ?_
      rw [List.size_toArray,List.length_map,y1,sizeLine_eq]; omega))
    rw [show failedOf st' = none from hf]
    simp only [bne_self_eq_false,Bool.false_eq_true,if_false]
    have fin:=h iy y1 y2 y3
    rw [← hfin] at fin
    exact wpAny_pure fin
end
end TH
namespace ET
open PySem
section
variable {prog : Program} {w : World} {A : Around} {E : Value→Shared→Prop} {s : Shared}
theorem next_item {it t : Addr} {i : Nat} {items} {x : Value} {Q : Value→Shared→Prop} (hit : s.heap.IsTupleIter it t i) (ht : s.heap.IsTuple t items) (hx : items[i]? = some x)
    (hQ : ∀ h',h'.IsTupleIter it t (i + 1)→Heap.SameBut it s.heap h'→Q x { s with heap:=h' }) : wpAny (model prog w) A (Builtin.SmallTypes.nextOf (.ref it)) Q E s := by
  obtain ⟨o,ho,hc,hd⟩:=id hit
  obtain ⟨ol,hol,_,nl,hdl⟩:=ht
  unfold Builtin.SmallTypes.nextOf
  refine wpAny_bind (wpAny_callSpecial?_slot (name:=Str.ofString "__next__") hit.typeIs F.slot_tuple_iterator_next
    (wpAny_call_entry F.slot_tuple_iterator_next hit.typeIs F.entry_tuple_iterator_next ?_ (F.args_tuple_iterator_next_1 _)))
  show wpAny _ _ (field (.ref it) 0 >>= _) _ _ s
  refine wpAny_bind (wpAny_field ho hd (x:=.ref t) rfl ?_)
  show wpAny _ _ (if (Value.ref t == Value.none) = true then _ else _) _ _ s
  rw [if_neg (show ¬ ((Value.ref t == Value.none) = true) from Bool.false_ne_true)]
  show wpAny _ _ (field (.ref it) 1 >>= _) _ _ s
  refine wpAny_bind (wpAny_field ho hd (x:=.int i 0) rfl ?_)
  show wpAny _ _ (seqItems? (.ref t) >>= _) _ _ s
  refine wpAny_bind (wpAny_seqItems hol hdl ?_)
  simp only [Int.toNat_natCast,hx]
  refine wpAny_bind (wpAny_setField ho hd (by simp) (wpAny_pure ⟨x,rfl,wpAny_pure (hQ _ ?_ (Heap.SameBut.update ..))⟩))
  exact ⟨_,Heap.get?_update_self _ ho (Obj.isFreed_of_fields (Obj.data_mapFields hd _)),(Obj.cls_mapFields ..).trans hc,by
    rw [Obj.data_mapFields hd]; simp [rawInt]⟩
theorem next_end {it t : Addr} {i : Nat} {items} {Q : Value→Shared→Prop} (hh : A.handled = none) (hit : s.heap.IsTupleIter it t i) (ht : s.heap.IsTuple t items) (hx : items[i]? = none)
    (hE : ∀ h' e,Heap.ExtBut it s.heap h'→(∃ o,h'.get? e = some o∧o.cls = .type "StopIteration")→E (.ref e) { s with heap:=h' }) : wpAny (model prog w) A (Builtin.SmallTypes.nextOf (.ref it)) Q E s := by
  obtain ⟨o,ho,hc,hd⟩:=id hit
  obtain ⟨ol,hol,_,nl,hdl⟩:=ht
  unfold Builtin.SmallTypes.nextOf
  refine wpAny_bind (wpAny_callSpecial?_slot (name:=Str.ofString "__next__") hit.typeIs F.slot_tuple_iterator_next
    (wpAny_call_entry F.slot_tuple_iterator_next hit.typeIs F.entry_tuple_iterator_next ?_ (F.args_tuple_iterator_next_1 _)))
  show wpAny _ _ (field (.ref it) 0 >>= _) _ _ s
  refine wpAny_bind (wpAny_field ho hd (x:=.ref t) rfl ?_)
  show wpAny _ _ (if (Value.ref t == Value.none) = true then _ else _) _ _ s
  rw [if_neg (show ¬ ((Value.ref t == Value.none) = true) from Bool.false_ne_true)]
  show wpAny _ _ (field (.ref it) 1 >>= _) _ _ s
  refine wpAny_bind (wpAny_field ho hd (x:=.int i 0) rfl ?_)
  show wpAny _ _ (seqItems? (.ref t) >>= _) _ _ s
  refine wpAny_bind (wpAny_seqItems hol hdl ?_)
  simp only [Int.toNat_natCast,hx]
  refine wpAny_bind (wpAny_rule (wpAny_bind (wpAny_setField ho hd (by simp) ?_)))
  show wpAny _ _ (newExc (.type "StopIteration") [] >>= _) _ _ _
  refine wpAny_bind ?_
  simp only [newExc,newTuple]
  refine wpAny_bind (wpAny_newObj_type ?_ (by size_fits))
  refine wpAny_bind (m:=firstArgMember _ _) (wpAny_of_eq (a:=Value.none) (by first | rfl | (simp only [firstArgMember]; rfl)) ?_)
  refine wpAny_newObj_type ?_ (by size_fits)
  simp only [raiseNew]
  refine wpAny_bind (wpAny_handled ?_)
  first | rw [show A.in1.handled = none from hh] | rw [hh]
  refine wpAny_bind (wpAny_pure (wpAny_throw ?_))
  exact hE _ _ (((Heap.SameBut.update ..).extBut.push _).push _) ⟨_,Heap.get?_push_size _ rfl,rfl⟩
end
section
open AutoSeq1 (wpAny_loadPart')
theorem new_tuple (l : Addr) (items : Array Value) (n : Nat) (dct : Option Addr) (sl : Array (Option Value)) :
    Meets (Builtin.«enumerate.__new__» ⟨[.type "enumerate",.ref l],[]⟩) (fun _ R s => s.heap.get? l = some { cls:=.type "tuple",dict:=dct,data:=.seq items n,slots:=sl } ∧
      R (.ok (.ret (.ref (s.heap.push { cls:=.type "tuple_iterator",data:=.fields #[.ref l,.int 0 0] }).objs.size)))
        { s with heap:=(s.heap.push { cls:=.type "tuple_iterator",data:=.fields #[.ref l,.int 0 0] }).push { cls:=.type "enumerate",data:=.fields #[.none,.bool false,.ref s.heap.objs.size,rawInt 0,.none,.none] } }) :=
  .of_wp fun prog w A R s h => by
    obtain ⟨hp,g,d,tk,os⟩:=s; obtain ⟨hl,h⟩:=h
    have hsub:=sub_enumerate
    have hL : Heap.IsTuple (Shared.heap ⟨hp,g,d,tk,os⟩) l items:=⟨_,hl,rfl,n,rfl⟩
    wp_walk using wpAny_loadPart' hl
    refine wpAny_stack_any fun st => wpAny_pure ?_
    split
    · rename_i c _ _ _ _ _
      cases (c == Value.type "enumerate")
      · wp_walk using wpAny_loadPart' hl,wpAny_pyIter_tuple hL
        exact ⟨_,rfl,h⟩
      · wp_walk using wpAny_loadPart' hl,wpAny_pyIter_tuple hL
        exact ⟨_,rfl,h⟩
    · wp_walk using wpAny_loadPart' hl,wpAny_pyIter_tuple hL
      exact ⟨_,rfl,h⟩
theorem call_enum {prog : Program} {w : World} {A : Around} {E : Value→Shared→Prop} {s : Shared} {l : Addr} {items : Array Value} {Q : Value→Shared→Prop} (hL : s.heap.IsTuple l items)
    (h : ∀ h',IsEnum h' (s.heap.objs.size + 1) s.heap.objs.size 0 .none→h'.IsTupleIter s.heap.objs.size l 0→h'.objs.size = s.heap.objs.size + 2 →
      (∀ b o,s.heap.get? b = some o→h'.get? b = some o)→Q (.ref (s.heap.objs.size + 1)) { s with heap:=h' }) :
    wpAny (model prog w) A (call (.type "enumerate") [.ref l]) Q E s := by
  obtain ⟨⟨c,dct,dt,sl⟩,hl,hc,n,hd⟩:=hL
  replace hc : c = .type "tuple" := hc
  replace hd : dt = .seq items n:=hd
  subst hc hd
  refine callType_new F.called_enumerate (by decide) (F.typeCall_enumerate_1 _) (F.newCall_enumerate_1 _) (fun obj => F.args_object_init_2 obj _) F.entry_enumerate_new
    (new_tuple l items n dct sl) ⟨hl,?_⟩
  have hz : (s.heap.push { cls:=.type "tuple_iterator",data:=.fields #[.ref l,.int 0 0] }).objs.size = s.heap.objs.size + 1:=Heap.size_push ..
  show _∧_
  rw [hz]
  have he : IsEnum ((s.heap.push { cls:=.type "tuple_iterator",data:=.fields #[.ref l,.int 0 0] }).push
      { cls:=.type "enumerate",data:=.fields #[.none,.bool false,.ref s.heap.objs.size,rawInt 0,.none,.none] }) (s.heap.objs.size + 1) s.heap.objs.size 0 .none := by
    have:=Heap.get?_push_size (s.heap.push { cls:=.type "tuple_iterator",data:=.fields #[.ref l,.int 0 0] })
      (o:={ cls:=.type "enumerate",data:=.fields #[.none,.bool false,.ref s.heap.objs.size,rawInt 0,.none,.none] }) rfl
    rw [hz] at this; exact this
  refine ⟨⟨_,he,rfl⟩,h _ he ⟨_,Heap.get?_push_of_some _ (Heap.get?_push_size _ rfl),rfl,rfl⟩ (by rw [Heap.size_push,hz]) fun b o x => Heap.get?_push_of_some _ (Heap.get?_push_of_some _ x)⟩
end
theorem draws {prog : Program} {w : World} {A : Around} (hh : A.handled = none) (it a : Addr) (its : List Value) (hne : a≠it) :
    Draws prog w A it [it,a] its.length (fun i x => its[i]? = some x) (fun i h => h.IsTupleIter it a i∧h.IsTuple a its.toArray) where
  live:=fun i h st => let ⟨o,e,_⟩:=st.1; ⟨o,e⟩
  frame:=fun i h h' st k => by
    obtain ⟨⟨o,e,r⟩,o2,e2,r2⟩:=st
    exact ⟨⟨o,k it (by simp) o e,r⟩,o2,k a (by simp) o2 e2,r2⟩
  item:=fun i s Q E hi st hQ => next_item st.1 st.2 (x:=its[i]) (by simp [hi]) fun h' st' sb =>
    hQ _ h' s.toks (by simp [hi]) ⟨st',let ⟨o,e,r⟩:=st.2; ⟨o,(sb.2 a hne).trans e,r⟩⟩ sb
  done:=fun s Q E st hE => next_end hh st.1 st.2 (by simp) hE
end ET
namespace L2
open PySem PySem.Spec PyProof.Rows
def Ts (H : Hp) : Tr→List V→Prop
  | .nil,xs => xs = []
  | .cons b r,xs => ∃ (a : Addr) (ys zs : List V),xs = .ref a :: zs∧H a = some (.tup ys)∧Ts H b ys∧Ts H r zs
def Tv (H : Hp) (t : Tr) (v : V) : Prop:=∃ (a : Addr) (ys : List V),v = .ref a∧H a = some (.tup ys)∧Ts H t ys
theorem Ts.same {H H' : Hp} (e : Same H H') : ∀ {t : Tr} {xs : List V},Ts H t xs→Ts H' t xs
  | .nil,xs,h => by rw [Ts] at h ⊢; exact h
  | .cons b r,xs,h => by
    rw [Ts] at h ⊢
    obtain ⟨a,ys,zs,e1,h1,h2,h3⟩:=h
    exact ⟨a,ys,zs,e1,e _ _ h1,h2.same e,h3.same e⟩
theorem Tv.same {H H' : Hp} {t : Tr} {v : V} (h : Tv H t v) (e : Same H H') : Tv H' t v:=let ⟨a,ys,e1,h1,h2⟩:=h; ⟨a,ys,e1,e _ _ h1,h2.same e⟩
def TupS (H H' : Hp) : Prop:=∀ b xs,H b = some (.tup xs)→H' b = some (.tup xs)
theorem Ts.tups {H H' : Hp} (e : TupS H H') : ∀ {t : Tr} {xs : List V},Ts H t xs→Ts H' t xs
  | .nil,xs,h => by rw [Ts] at h ⊢; exact h
  | .cons b r,xs,h => by
    rw [Ts] at h ⊢
    obtain ⟨a,ys,zs,e1,h1,h2,h3⟩:=h
    exact ⟨a,ys,zs,e1,e _ _ h1,h2.tups e,h3.tups e⟩
theorem Tv.tups {H H' : Hp} {t : Tr} {v : V} (h : Tv H t v) (e : TupS H H') : Tv H' t v:=let ⟨a,ys,e1,h1,h2⟩:=h; ⟨a,ys,e1,e _ _ h1,h2.tups e⟩
theorem Ts.length {H : Hp} : ∀ {t : Tr} {xs : List V},Ts H t xs→xs.length = t.len
  | .nil,xs,h => by rw [Ts] at h; rw [h]; rfl
  | .cons b r,xs,h => by
    rw [Ts] at h
    obtain ⟨a,ys,zs,rfl,_,_,h3⟩:=h
    rw [List.length_cons,Tr.len,h3.length]
theorem Ts.len {H : Hp} {t : Tr} {xs : List V} (h : Ts H t xs) : xs.length = t.bs.length := by rw [h.length,Tr.len_bs]
theorem Ts.get {H : Hp} : ∀ {t : Tr} {xs : List V} {i : Nat} {v : V},Ts H t xs→xs[i]? = some v→∃ c,t.bs[i]? = some c∧Tv H c v
  | .nil,xs,i,v,h,e => by rw [Ts] at h; subst h; simp at e
  | .cons b r,xs,i,v,h,e => by
    rw [Ts] at h
    obtain ⟨a,ys,zs,rfl,h1,h2,h3⟩:=h
    cases i with
    | zero => simp at e; subst e; exact ⟨b,rfl,a,ys,rfl,h1,h2⟩
    | succ i =>
      obtain ⟨c,q1,q2⟩:=h3.get (i:=i) (v:=v) (by simpa using e)
      exact ⟨c,by simpa [Tr.bs] using q1,q2⟩
theorem Ts.of_all {H : Hp} : ∀ (ts : List Tr) (xs : List V),xs.length = ts.length→(∀ (i : Nat) (v : V),xs[i]? = some v→∃ c,ts[i]? = some c∧Tv H c v)→Ts H (Tr.of ts) xs
  | [],xs,hl,_ => by
    rw [Tr.of,Ts]
    exact List.eq_nil_of_length_eq_zero (by simpa using hl)
  | t :: ts,[],hl,_ => by simp at hl
  | t :: ts,x :: xs,hl,h => by
    rw [Tr.of,Ts]
    obtain ⟨c,e1,a,ys,rfl,h1,h2⟩:=h 0 x rfl
    simp at e1
    subst e1
    exact ⟨a,ys,xs,rfl,h1,h2,Ts.of_all ts xs (by simpa using hl) fun i v e => by
      obtain ⟨c,q1,q2⟩:=h (i + 1) v (by simpa using e)
      exact ⟨c,by simpa using q1,q2⟩⟩
theorem Ts.nil {H : Hp} : Ts H .nil [] := by rw [Ts]
theorem Ts.cons {H : Hp} {b r : Tr} {v : V} {zs : List V} (h : Tv H b v) (k : Ts H r zs) : Ts H (.cons b r) (v :: zs) := by
  obtain ⟨a,ys,rfl,h1,h2⟩:=h
  rw [Ts]
  exact ⟨a,ys,zs,rfl,h1,h2,k⟩
theorem Ts.pick {H : Hp} {t : Tr} {xs : List V} (h : Ts H t xs) (ix : List Nat) (hi : ∀ i∈ix,i < xs.length) : Ts H (Tr.of (ix.map fun i => t.bs.getD i .nil)) (ix.map fun i => xs.getD i .non) := by
  refine Ts.of_all _ _ (by simp) fun i v e => ?_
  rw [List.getElem?_map] at e ⊢
  cases q : ix[i]? with
  | none => rw [q] at e; cases e
  | some k =>
    rw [q] at e
    have hk : k < xs.length:=hi k (List.mem_of_getElem? q)
    simp only [Option.map_some,Option.some.injEq] at e
    obtain ⟨c,q1,q2⟩:=h.get (i:=k) (v:=v) (by rw [← e,List.getD_eq_getElem?_getD,List.getElem?_eq_getElem hk]; rfl)
    refine ⟨c,?_,q2⟩
    simp only [Option.map_some,List.getD_eq_getElem?_getD,q1]
    rfl
section
variable {X : Cx} {pins : List (Addr×Obj)} {σ : St} {H : Hp} {s : Shared}
theorem Ts.vs (I : Inv X pins σ H s) : ∀ {t : Tr} {xs : List V} {us : List Value},Ts H t xs→Vals xs us→TH.Vs s.heap t us
  | .nil,xs,us,h,r => by
    rw [Ts] at h
    subst h
    cases r
    rw [TH.Vs]
  | .cons b rr,xs,us,h,r => by
    rw [Ts] at h
    obtain ⟨a,ys,zs,rfl,h1,h2,h3⟩:=h
    cases r with
    | cons r1 r2 =>
      cases r1
      obtain ⟨its,rv,p,_⟩:=I.tuple (SqT.of (K:=X.K) h1)
      rw [TH.Vs]
      exact ⟨a,its,_,rfl,p,Ts.vs I h2 rv,Ts.vs I h3 r2⟩
theorem Tv.at (I : Inv X pins σ H s) {t : Tr} {v : V} {u : Value} (h : Tv H t v) (r : RelV v u) : ∃ (a : Addr) (its : List Value),u = .ref a∧s.heap.IsTuple a its.toArray∧TH.Vs s.heap t its := by
  obtain ⟨a,ys,rfl,h1,h2⟩:=h
  cases r
  obtain ⟨its,rv,p,_⟩:=I.tuple (SqT.of (K:=X.K) h1)
  exact ⟨a,its,rfl,p,Ts.vs I h2 rv⟩
def rGtTr : R2:=fun x y H Q => ∃ t u,Tv H t x∧Tv H u y∧t.deep≤60∧Q (.bl (Tr.lt u t)) H
theorem op_gtTr (hu : X.A.units + 64 < cLine) : OpR X (compareOp .Gt) rGtTr := by
  intro pins s σ H x y v u' Q I rx ry h
  obtain ⟨t,u,h1,h2,hd,q⟩:=h
  obtain ⟨a,its,rfl,p1,k1⟩:=h1.at I rx
  obtain ⟨b,its',rfl,p2,k2⟩:=h2.at I ry
  exact TH.rc_gt (t.deep + 1) t u X.A s a b its its' (Nat.lt_succ_self _) p1 k1 p2 k2 (by omega) X.prog X.w X.xe _ ⟨.bl _,H,I,rfl,q⟩
end
def Ite (K : PySem.W.Frag) (a : Addr) : It :=
  ⟨fun i H => ∃ xs x,SqT K H a xs∧xs[i]? = some x,fun i H v H' => ∃ p x,v = .ref p∧H p = none∧H' = upd H p (.tup [.int i,x])∧∀ xs,SqT K H a xs→xs[i]? = some x,fun i H => ∃ xs,SqT K H a xs∧xs.length = i⟩
theorem turn_enum {P : Program} {w : World} {K : PySem.W.Frag} {elts : List Expr} {x1} {pos : Pos} (a e it : Addr) (hne : e≠it) :
    Turn P w K (.Tuple elts x1 pos) (Ite K a) [e,it] e (fun i h => (∃ old,IsEnum h e it (i : Nat) old)∧h.IsTupleIter it a i) where
  mem := by simp
  obj:=fun i h st b hb => by
    rcases List.mem_cons.mp hb with rfl | hb
    · obtain ⟨⟨old,q⟩,_⟩:=st
      exact ⟨_,q,fun v z => by cases z⟩
    · have e2 : b = it := by simpa using hb
      subst e2
      obtain ⟨_,o,q,c,d⟩:=st
      exact ⟨o,q,fun v z => by rw [d] at z; cases z⟩
  keep:=fun i h h' st k => by
    obtain ⟨⟨old,q⟩,o,q2,r⟩:=st
    exact ⟨⟨old,k e (by simp) _ q⟩,o,k it (by simp) _ q2,r⟩
  item := by
    intro X hP hw hK hc i pins s σ H E I hf st hg
    subst hP hw hK
    obtain ⟨xs,x,hq,hx⟩:=hg
    obtain ⟨its,rv,p,hz⟩:=I.tuple hq
    obtain ⟨u,hu,ru⟩:=rv.get hx
    obtain ⟨⟨old,he⟩,hit⟩:=st
    have hai : a≠it:=fun z => by
      obtain ⟨o,e1,c1,_⟩:=p
      obtain ⟨o2,e2,c2,_⟩:=hit
      rw [z,e2] at e1; cases e1
      rw [c1] at c2; exact absurd c2 (by decide)
    have hae : a≠e:=fun z => by
      obtain ⟨o,e1,c1,_⟩:=p
      rw [z,he] at e1; cases e1
      exact absurd (show Value.type "enumerate" = Value.type "tuple" from c1) (by decide)
    have hlt : i < its.length:=(List.getElem?_eq_some_iff.mp hu).1
    have hE0:=hf e (by simp)
    have hI0:=hf it (by simp)
    refine wpAny_pyNext_enum_itemD (ET.draws (prog:=X.prog) (w:=X.w) (A:=X.A.in1) (I.ok.hd hc) it a its hai) he ⟨hit,p⟩ hlt hne (by simp [hne,Ne.symm hae]) fun y h' tk hy ho hs' hT hsz hk => ⟨_,rfl,wpAny_letOwnedTupleGo_enum (s:={ s with heap:=h',toks:=tk + 1 }) ho fun h'' he'' sb => ?_⟩
    have hyu : y = u := by rw [hu] at hy; exact (Option.some.inj hy).symm
    subst hyu
    have keep : ∀ b o,b≠e→b≠it→s.heap.get? b = some o→h''.get? b = some o:=fun b o h1 h2 q => (sb.2 b h1).trans (hk b o h1 h2 q)
    have hTe : s.heap.objs.size≠e:=Nat.ne_of_gt (Heap.lt_size he)
    have hTi : s.heap.objs.size≠it:=let ⟨_,q,_⟩:=hit; Nat.ne_of_gt (Heap.lt_size q)
    have hT'' : h''.get? s.heap.objs.size = some { cls:=.type "tuple",data:=.seq #[.int i tk,y] }:=(sb.2 _ hTe).trans hT
    have hTn : H s.heap.objs.size = none:=I.hok.fresh (Nat.le_refl _)
    have neT : ∀ b o,s.heap.get? b = some o→b≠s.heap.objs.size:=fun b o q => Nat.ne_of_lt (Heap.lt_size q)
    have trk : ∀ b o,H b = some o→b≠e∧b≠it:=fun b o q => ⟨(fun z => by rw [z,hE0.1] at q; cases q),(fun z => by rw [z,hI0.1] at q; cases q)⟩
    refine ⟨.ref s.heap.objs.size,upd H s.heap.objs.size (.tup [.int i,x]),?_,rfl,⟨_,x,rfl,hTn,rfl,fun ys hy => by rw [I.tuple_inj hy hq]; exact hx⟩,⟨⟨_,by simpa using he''⟩,?_⟩,fun b hb => ?_⟩
    · show Inv X pins σ _ { s with heap:=h'',gens:=s.gens,drawn:=s.drawn,toks:=tk + 1 }
      refine I.step (h':=h'') (g':=s.gens) (d':=s.drawn) (t':=tk + 1) (ch:=[e,it]) (fun b hb => ?_) (fun b o _ _ hc q _ => keep b o (fun z => hc (by simp [z])) (fun z => hc (by simp [z])) q) (fun b o _ _ hc q _ => ⟨o.slots,keep b o (fun z => hc (by simp [z])) (fun z => hc (by simp [z])) q⟩)
        (fun b o _ q n => by rw [upd_ne (neT b o q)]; exact n) (fun b o hc q => ⟨o,keep b o (fun z => hc (by simp [z])) (fun z => hc (by simp [z])) q⟩) (fun b ys q => by rw [upd_ne (ne_of_none q hTn)]; exact q) (fun b o u q => by rw [upd_ne (ne_of_none q hTn)]; exact q)
        (fun b ps q => ⟨#[],by rw [upd_ne (ne_of_none q hTn),q]; simp⟩) (fun m hm => ?_) (fun b o q => ?_) I.bare
      · rcases List.mem_cons.mp hb with rfl | hb
        · exact ⟨hE0.2.2.2.1,hE0.2.1,hE0.2.2.2.2.1,hE0.2.2.2.2.2⟩
        · have e2 : b = it := by simpa using hb
          subst e2
          exact ⟨hI0.2.2.2.1,hI0.2.1,hI0.2.2.2.2.1,hI0.2.2.2.2.2⟩
      · obtain ⟨o,es,ep,ho,r⟩:=hm
        exact ⟨o,es,ep,keep _ o (Ne.symm hE0.2.1) (Ne.symm hI0.2.1) ho,r⟩
      · by_cases hb : b = s.heap.objs.size
        · subst hb
          rw [upd_same] at q
          cases q
          exact ⟨sz2,[.int i tk,y],.cons ⟨tk,rfl⟩ (.cons ru .nil),_,hT'',rfl,_,rfl⟩
        · rw [upd_ne hb] at q
          refine (I.hok b o q).stay (fun c v hc r => keep c v ?_ ?_ r) (fun c r => by rw [upd_ne (ne_of_none r hTn)]; exact r) fun c ys r => by rw [upd_ne (ne_of_none r hTn)]; exact r
          · rcases hc with rfl | hc
            · exact (trk _ _ q).1
            · exact (trk _ _ hc).1
          · rcases hc with rfl | hc
            · exact (trk _ _ q).2
            · exact (trk _ _ hc).2
    · obtain ⟨⟨o,q,r⟩,_⟩:=hs'
      exact ⟨o,(sb.2 it (Ne.symm hne)).trans q,r⟩
    · rcases List.mem_cons.mp hb with rfl | hb
      · rw [upd_ne (Ne.symm hTe)]; exact hE0.1
      · have e2 : b = it := by simpa using hb
        subst e2
        rw [upd_ne (Ne.symm hTi)]; exact hI0.1
  done := by
    intro X hP hw hK hc i pins s σ H E I hf st hg
    subst hP hw hK
    obtain ⟨xs,hq,hx⟩:=hg
    obtain ⟨its,rv,p,hz⟩:=I.tuple hq
    obtain ⟨⟨old,he⟩,hit⟩:=st
    have hai : a≠it:=fun z => by
      obtain ⟨o,e1,c1,_⟩:=p
      obtain ⟨o2,e2,c2,_⟩:=hit
      rw [z,e2] at e1; cases e1
      rw [c1] at c2; exact absurd c2 (by decide)
    have hl : its.length = i := by rw [← rv.length]; exact hx
    subst hl
    obtain ⟨f0,f1,f2,f3,f4,f5⟩:=hf it (by simp)
    exact wpAny_pyNext_enum_endD (ET.draws (prog:=X.prog) (w:=X.w) (A:=X.A.in1) (I.ok.hd hc) it a its hai) he ⟨hit,p⟩ fun h' eb => ⟨rfl,I.turned (t':=s.toks) (fun b o hb q => eb b o hb q) f0 f1 f3 f4 f5⟩
  self:=fun _ _ _ _ _ st h => by
    obtain ⟨⟨old,he⟩,_⟩:=st
    exact wpAny_pyIter_enum he h
def iEnum (K : PySem.W.Frag) (ta : TA) : TI:=fun σ H R => ta σ H fun vs H1 => ∃ a,vs = [.ref a]∧(∃ xs,SqT K H1 a xs)∧R (Ite K a) H1
theorem pi_enum {X : Cx} {elts : List Expr} {x1} {tpos : Pos} {a : Expr} {ta : TA} {p pos : Pos} (hg : Gl X "enumerate") (hm : X.mg "enumerate" = none) (ha : PA X [a] ta) (hs : starEach [a] X.env = [(false,eval a X.env)] := by rfl) :
    PI X (.Tuple elts x1 tpos) (.Call (.Name "enumerate" p) [a] [] pos) (iEnum X.K ta) := by
  intro pins s σ H R I h
  refine Call_ (ld_blt I hg hm boot_enumerate (PyProof.Rows.callWith_type1 (thn (ha pos pins s σ H _ I h) fun us s1 ⟨vs,H1,I1,r1,q1⟩ => ?_) hs rfl))
  obtain ⟨t,e,⟨xs,hq⟩,q⟩:=q1
  subst e
  cases r1 with
  | cons r rr =>
    cases rr
    cases r
    obtain ⟨its,rv,p',hz⟩:=I1.tuple hq
    refine ET.call_enum (show s1.heap.IsTuple t its.toArray from p') fun h' he hit hsz hk => wpAny_pyIter_enum he ?_
    have I2 : Inv X pins σ H1 { s1 with heap:=h' }:=I1.kept (t':=s1.toks) hk
    have hn : s1.heap.objs.size + 1≠s1.heap.objs.size := by omega
    refine ⟨s1.heap.objs.size + 1,[s1.heap.objs.size + 1,s1.heap.objs.size],_,_,H1,rfl,I2,turn_enum t _ _ hn,⟨⟨_,he⟩,hit⟩,fun b hb => ?_,q⟩
    have hb' : s1.heap.objs.size≤b := by
      have hb2 : b = s1.heap.objs.size + 1∨b = s1.heap.objs.size := by simpa using hb
      rcases hb2 with z | z
      · rw [z]; exact Nat.le_succ _
      · rw [z]; exact Nat.le_refl _
    exact I1.fpOk hb' (I1.hok.fresh hb')
theorem for_enum {K : PySem.W.Frag} {a : Addr} {xs : List V} {g : TG} {tb : TS} {D : Ends} {σ : St} {H : Hp} (Pv : Nat→St→Hp→Prop) (h0 : Pv 0 σ H) (hl : ∀ i σ H,i≤xs.length→Pv i σ H→SqT K H a xs)
    (hs : ∀ i x σ H,xs[i]? = some x→Pv i σ H→∀ p,H p = none→g (.ref p) σ (upd H p (.tup [.int (i : Nat),x])) fun σ2 H2 => tb { D with nx:=Pv (i + 1),ct:=Pv (i + 1),bk:=D.nx } σ2 H2) (hd : ∀ σ H,Pv xs.length σ H→D.nx σ H) :
    ∃ W : Nat→Nat→St→Hp→Prop,(∃ m,W 0 m σ H)∧∀ i m σ H,W i m σ H →
      ((Ite K a).stop i H∧D.nx σ H)∨((Ite K a).go i H∧∃ N : St→Hp→Prop,(∀ σ' H',N σ' H'→∃ m',m' < m∧W (i + 1) m' σ' H')∧∀ x H',(Ite K a).yld i H x H'→g x σ H' fun σ2 H2 => tb { D with nx:=N,ct:=N,bk:=D.nx } σ2 H2) := by
  refine ⟨fun i m σ H => m = xs.length - i∧i≤xs.length∧Pv i σ H,⟨xs.length,by simp,Nat.zero_le _,h0⟩,?_⟩
  rintro i m σ H ⟨rfl,hi,p⟩
  have q:=hl i σ H hi p
  by_cases hlt : i < xs.length
  · refine .inr ⟨⟨xs,xs[i],q,by simp [hlt]⟩,Pv (i + 1),fun σ' H' p' => ⟨xs.length - (i + 1),by omega,rfl,hlt,p'⟩,fun x H' y => ?_⟩
    obtain ⟨pp,x',rfl,hn,rfl,y⟩:=y
    exact hs i x' σ _ (y xs q) p pp hn
  · have e : i = xs.length := by omega
    subst e
    exact .inl ⟨⟨xs,q,rfl⟩,hd σ H p⟩
end L2
namespace TH
open PySem PySem.W PyProof.Rows PySem.SeqAt
section
variable {prog : Program} {w : World} {A : Around} {E : Value→Shared→Prop} {s : Shared}
theorem sort_plain_rev (a : Addr) : Builtin.«list.sort» ⟨[.ref a],[]⟩ = Builtin.«list.sort» ⟨[.ref a],[(Str.ofString "reverse",.bool false)]⟩ := by
  rw [list_sort_rev,list_sort_plain]
  rfl
theorem list_sort_tr0 {a : Addr} {us : List Value} {t : Tr} {n : Nat} {P : PySem.Fin→Shared→Prop} (ho : s.heap.get? a = some (seqObj "list" us.toArray n)) (e : Vs s.heap t us) (h64 : us.length < 64) (hu : A.units + t.deep≤cLine)
    (h : ∀ ix : List Nat,ix.length = us.length→(∀ i∈ix,i < us.length)→(ix.map fun i => t.bs.getD i .nil) = (Tr.srt t.bs).reverse→P (.done (.ret .none)) { s with heap:=sortedHeap s.heap a us (ix.map fun i => us.getD i Value.none).toArray }) :
    wpAny (model prog w) A (Builtin.«list.sort» ⟨[.ref a],[]⟩) P E s := by
  rw [sort_plain_rev]
  exact list_sort_tr (b:=false) ho e h64 hu h
theorem collect_tup {l : Addr} {vs : List Value} {Q : List Value→Shared→Prop} (hl : s.heap.IsTuple l vs.toArray)
    (h : Q vs { s with heap:=(s.heap.push (seqObj "list" #[] 0)).update s.heap.objs.size (Obj.mapSeq (· ++ vs.toArray)) }) (hsz : vs.length≤sizeLine) :
    wpAny (model prog w) A (collect (.ref l)) Q E s := by
  obtain ⟨o,ho,hc,n,hd⟩:=id hl
  unfold collect
  refine wpAny_bind (wpAny_runValue (codeAny_builtin entry_proto_collect' ?_))
  show wpAny _ _ (do again (.builtin "list.__iadd__" ⟨[← newList [],.ref l],[]⟩)) _ _ s
  refine wpAny_bind (wpAny_newList (wpAny_pure ⟨Code.quiet_builtin _ (by decide +kernel),codeAny_builtin entry_list_iadd' ?_⟩))
  show wpAny _ _ (Builtin.List.listExtendWith (.ref s.heap.objs.size) (.ref l) (.ref s.heap.objs.size)) _ _ { s with heap:=s.heap.push (seqObj "list" #[] 0) }
  unfold Builtin.List.listExtendWith
  have ho' : (s.heap.push (seqObj "list" #[] 0)).get? l = some o:=Heap.get?_push_of_some _ ho
  refine wpAny_bind (wpAny_typeOf (T := "tuple") ⟨o,ho',hc⟩ ?_)
  have ht : (Value.type "tuple" == Value.type "tuple") = true := by rfl
  rw [if_pos (by rw [ht]; simp)]
  refine wpAny_bind (listItems_at ho' hd ?_)
  refine wpAny_bind (listItems_at (xs:=#[]) (n:=0) (Heap.get?_push_size _ rfl) rfl ?_)
  rw [if_neg (by simp)]
  refine wpAny_bind (listUpdate_at (xs:=#[]) (n:=0) (Heap.get?_push_size _ rfl) rfl ?_ (Nat.zero_le _) (by show (#[] ++ vs.toArray).size≤sizeLine + 1; simp only [Array.size_append,List.size_toArray,List.length_nil]; omega))
  refine wpAny_pure ?_
  show wpAny (model prog w) A (do
      let o ← load s.heap.objs.size
      match o.data with
      | .seq xs _ => pure xs.toList
      | _ => unsupported "internal:collect") Q E { s with heap:=(s.heap.push (seqObj "list" #[] 0)).update s.heap.objs.size (Obj.mapSeq (· ++ vs.toArray)) }
  refine wpAny_bind (wpAny_load (get?_update_seq (Heap.get?_push_size _ rfl) _) ?_)
  show wpAny _ _ (pure ((#[] : Array Value) ++ vs.toArray).toList) Q E _
  rw [show ((#[] : Array Value) ++ vs.toArray).toList = vs by simp]
  exact wpAny_pure h
theorem collect_any {l : Addr} {vs : List Value} {Q : List Value→Shared→Prop} (hl : s.heap.IsList l vs.toArray∨s.heap.IsTuple l vs.toArray)
    (h : Q vs { s with heap:=(s.heap.push (seqObj "list" #[] 0)).update s.heap.objs.size (Obj.mapSeq (· ++ vs.toArray)) }) (hsz : vs.length≤sizeLine) : wpAny (model prog w) A (collect (.ref l)) Q E s:=hl.elim (fun z => collect_list z h hsz) fun z => collect_tup z h hsz
theorem sorted_list {l : Addr} {us : List Value} {t : Tr} {Q : Value→Shared→Prop} (hl : s.heap.IsList l us.toArray∨s.heap.IsTuple l us.toArray) (e : Vs s.heap t us) (h64 : us.length < 64) (hu : A.units + 2 + t.deep≤cLine)
    (h : ∀ (h' : Heap) (ix : List Nat) (e1 : Nat),ix.length = us.length→(∀ i∈ix,i < us.length)→(ix.map fun i => t.bs.getD i .nil) = (Tr.srt t.bs).reverse→(∀ c o,s.heap.get? c = some o→h'.get? c = some o) →
      h'.get? (s.heap.objs.size + 1) = some (seqObj "list" (ix.map fun i => us.getD i Value.none).toArray e1)→Q (.ref (s.heap.objs.size + 1)) { s with heap:=h' }) :
    wpAny (model prog w) A (call (.builtin "sorted") [.ref l]) Q E s := by
  refine Calls.call_function_entry kind_sorted plain_sorted entry_sorted (args_sorted1 _) ?_
  unfold Builtin.«sorted»
  refine wpAny_bind (m:=checkCount "sorted" 1 1 _) (wpAny_pure ?_)
  refine wpAny_bind (collect_any hl ?_ (by rw [sizeLine_eq]; omega))
  refine wpAny_bind (wpAny_newList ?_ (by rw [sizeLine_eq]; omega))
  have hsz : ((s.heap.push (seqObj "list" #[] 0)).update s.heap.objs.size (Obj.mapSeq (· ++ us.toArray))).objs.size = s.heap.objs.size + 1 := by
    rw [Heap.size_update,size_push']
  have hoL : (((s.heap.push (seqObj "list" #[] 0)).update s.heap.objs.size (Obj.mapSeq (· ++ us.toArray))).push (seqObj "list" us.toArray 0)).get? (s.heap.objs.size + 1) = some (seqObj "list" us.toArray 0) := by
    rw [← hsz]; exact Heap.get?_push_size _ rfl
  have keep : ∀ b o,s.heap.get? b = some o→o.cls = .type "tuple" → (((s.heap.push (seqObj "list" #[] 0)).update s.heap.objs.size (Obj.mapSeq (· ++ us.toArray))).push (seqObj "list" us.toArray 0)).get? b = some o:=fun b o q _ => by
    have hlt : b < s.heap.objs.size:=Heap.lt_size q
    rw [Heap.get?_push_ne _ _ _ (by rw [hsz]; exact Nat.ne_of_lt (Nat.lt_succ_of_lt hlt)),Heap.get?_update_ne _ _ _ _ (Nat.ne_of_lt hlt),Heap.get?_push_ne _ _ _ (Nat.ne_of_lt hlt)]
    exact q
  show wpAny _ _ _ _ _ { s with heap:=((s.heap.push (seqObj "list" #[] 0)).update s.heap.objs.size (Obj.mapSeq (· ++ us.toArray))).push (seqObj "list" us.toArray 0) }
  rw [hsz]
  refine wpAny_bind (wpAny_holding (wpAny_call_entry slot_list_sort ⟨_,hoL,rfl⟩ entry_list_sort (list_sort_tr0 (s:={ s with heap:=((s.heap.push (seqObj "list" #[] 0)).update s.heap.objs.size (Obj.mapSeq (· ++ us.toArray))).push (seqObj "list" us.toArray 0) }) hoL (e.keeps keep) h64 (by
    rw [show A.in1.in1.units = A.units + 2 from rfl]; omega) fun ix a1 a2 a3 => ⟨_,rfl,?_⟩) (args_list_sort _)))
  obtain ⟨e1,he1⟩:=sortedAll_at s.heap us (ix.map fun i => us.getD i Value.none).toArray
  exact wpAny_pure ⟨_,rfl,h _ ix e1 a1 a2 a3 (fun _ _ => sortedAll_old) he1⟩
theorem sorted_listR {l : Addr} {us : List Value} {t : Tr} {b : Bool} {Q : Value→Shared→Prop} (hl : s.heap.IsList l us.toArray∨s.heap.IsTuple l us.toArray) (e : Vs s.heap t us) (h64 : us.length < 64) (hu : A.units + 2 + t.deep≤cLine)
    (h : ∀ (h' : Heap) (ix : List Nat) (e1 : Nat),ix.length = us.length→(∀ i∈ix,i < us.length)→(ix.map fun i => t.bs.getD i .nil) = (if b then Tr.srt t.bs else (Tr.srt t.bs).reverse)→(∀ c o,s.heap.get? c = some o→h'.get? c = some o) →
      h'.get? (s.heap.objs.size + 1) = some (seqObj "list" (ix.map fun i => us.getD i Value.none).toArray e1)→Q (.ref (s.heap.objs.size + 1)) { s with heap:=h' }) :
    wpAny (model prog w) A (call (.builtin "sorted") [.ref l] [(Str.ofString "reverse",.bool b)]) Q E s := by
  refine call_function_entry_kw kind_sorted plain_sorted entry_sorted (args_sorted_rev _ _) ?_
  unfold Builtin.«sorted»
  refine wpAny_bind (m:=checkCount "sorted" 1 1 _) (wpAny_pure ?_)
  refine wpAny_bind (collect_any hl ?_ (by rw [sizeLine_eq]; omega))
  refine wpAny_bind (wpAny_newList ?_ (by rw [sizeLine_eq]; omega))
  have hsz : ((s.heap.push (seqObj "list" #[] 0)).update s.heap.objs.size (Obj.mapSeq (· ++ us.toArray))).objs.size = s.heap.objs.size + 1 := by
    rw [Heap.size_update,size_push']
  have hoL : (((s.heap.push (seqObj "list" #[] 0)).update s.heap.objs.size (Obj.mapSeq (· ++ us.toArray))).push (seqObj "list" us.toArray 0)).get? (s.heap.objs.size + 1) = some (seqObj "list" us.toArray 0) := by
    rw [← hsz]; exact Heap.get?_push_size _ rfl
  have keep : ∀ b o,s.heap.get? b = some o→o.cls = .type "tuple" → (((s.heap.push (seqObj "list" #[] 0)).update s.heap.objs.size (Obj.mapSeq (· ++ us.toArray))).push (seqObj "list" us.toArray 0)).get? b = some o:=fun b o q _ => by
    have hlt : b < s.heap.objs.size:=Heap.lt_size q
    rw [Heap.get?_push_ne _ _ _ (by rw [hsz]; exact Nat.ne_of_lt (Nat.lt_succ_of_lt hlt)),Heap.get?_update_ne _ _ _ _ (Nat.ne_of_lt hlt),Heap.get?_push_ne _ _ _ (Nat.ne_of_lt hlt)]
    exact q
  show wpAny _ _ _ _ _ { s with heap:=((s.heap.push (seqObj "list" #[] 0)).update s.heap.objs.size (Obj.mapSeq (· ++ us.toArray))).push (seqObj "list" us.toArray 0) }
  rw [hsz]
  refine wpAny_bind (wpAny_holding (wpAny_call_entry_kw slot_list_sort ⟨_,hoL,rfl⟩ entry_list_sort (list_sort_tr (b := b) (s:={ s with heap:=((s.heap.push (seqObj "list" #[] 0)).update s.heap.objs.size (Obj.mapSeq (· ++ us.toArray))).push (seqObj "list" us.toArray 0) }) hoL (e.keeps keep) h64 (by
    rw [show A.in1.in1.units = A.units + 2 from rfl]; omega) fun ix a1 a2 a3 => ⟨_,rfl,?_⟩) (args_list_sort_rev _ _)))
  obtain ⟨e1,he1⟩:=sortedAll_at s.heap us (ix.map fun i => us.getD i Value.none).toArray
  exact wpAny_pure ⟨_,rfl,h _ ix e1 a1 a2 a3 (fun _ _ => sortedAll_old) he1⟩
end
end TH
namespace L2
open PySem PySem.Spec PyProof.Rows
theorem Vals.pick {xs : List V} {us : List Value} (r : Vals xs us) : ∀ ix : List Nat,(∀ i∈ix,i < xs.length)→Vals (ix.map fun i => xs.getD i .non) (ix.map fun i => us.getD i Value.none)
  | [],_ => .nil
  | i :: ix,h => by
    refine .cons ?_ (Vals.pick r ix fun k hk => h k (List.mem_cons_of_mem _ hk))
    have hi:=h i List.mem_cons_self
    obtain ⟨u,h1,h2⟩:=r.get (i:=i) (x:=xs[i]) (by simp [hi])
    show RelV (xs.getD i .non) (us.getD i Value.none)
    rw [List.getD_eq_getElem?_getD,List.getD_eq_getElem?_getD,h1,List.getElem?_eq_getElem hi]
    exact h2
section
variable {X : Cx}
def rSort (K : PySem.W.Frag) : List V→Hp→VK→Prop:=fun xs H Q => ∃ (p : Addr) (ys : List V) (t : Tr),xs = [.ref p]∧(SqL K H p ys∨SqT K H p ys)∧Ts H t ys∧ys.length < 64∧t.deep≤60 ∧
  ∀ (l : Addr) (zs : List V),H l = none→Ts H (Tr.of (Tr.srt t.bs).reverse) zs→Q (.ref l) (upd H l (.lst zs))
theorem sort_fin {pins : List (Addr×Obj)} {σ : St} {H : Hp} {s : Shared} {Q : VK} {t : Tr} {ts : List Tr} {ys : List V} {its : List Value} {h' : Heap} {ix : List Nat} {e1 : Nat} (I : Inv X pins σ H s) (ht : Ts H t ys) (rv : Vals ys its) (h64 : ys.length < 64)
    (a1 : ix.length = its.length) (a2 : ∀ i∈ix,i < its.length) (a3 : (ix.map fun i => t.bs.getD i .nil) = ts) (keep : ∀ c o,s.heap.get? c = some o→h'.get? c = some o)
    (hD : h'.get? (s.heap.objs.size + 1) = some (seqObj "list" (ix.map fun i => its.getD i Value.none).toArray e1)) (q : ∀ (l : Addr) (zs : List V),H l = none→Ts H (Tr.of ts) zs→Q (.ref l) (upd H l (.lst zs))) :
    EP X pins σ Q (.ref (s.heap.objs.size + 1)) { s with heap:=h' } := by
  have hl:=rv.length
  have a2' : ∀ i∈ix,i < ys.length:=fun i hi => by rw [hl]; exact a2 i hi
  refine ⟨.ref (s.heap.objs.size + 1),upd H (s.heap.objs.size + 1) (.lst (ix.map fun i => ys.getD i .non)),I.laid (t':=s.toks) keep (Nat.le_succ _) ⟨?_,_,e1,rv.pick ix a2',hD⟩,rfl,q _ _ (I.hok.fresh (Nat.le_succ _)) ?_⟩
  · rw [List.length_map,a1,← hl]
    exact Nat.le_of_lt (Nat.lt_of_lt_of_le h64 (by rw [sizeLine_eq]; decide))
  · rw [← a3]
    exact ht.pick ix a2'
theorem call_sort (hu : X.A.units + 64 < cLine) : CallR X (.builtin "sorted") (rSort X.K) := by
  intro pins s σ H xs us Q I r h
  obtain ⟨p,ys,t,rfl,hq,ht,h64,hd,q⟩:=h
  obtain ⟨u,rfl,r1⟩:=r.one
  cases r1
  rcases hq with hq | hq
  · obtain ⟨its,rv,pl,hz⟩:=I.list hq
    have hl:=rv.length
    exact TH.sorted_list (.inl pl.isList) (ht.vs I rv) (by omega) (by omega) fun h' ix e1 a1 a2 a3 keep hD => sort_fin I ht rv h64 a1 a2 a3 keep hD q
  · obtain ⟨its,rv,pl,hz⟩:=I.tuple hq
    have hl:=rv.length
    exact TH.sorted_list (.inr (show s.heap.IsTuple p its.toArray from pl)) (ht.vs I rv) (by omega) (by omega) fun h' ix e1 a1 a2 a3 keep hD => sort_fin I ht rv h64 a1 a2 a3 keep hD q
theorem pe_rev {e k : Expr} {te tk : TE} {pos p2 : Pos} (he : PE X e te) (hk : PE X k tk) : PE X (.Subscript e (.Slice none none (some k) p2) pos)
    (fun σ H Q => te σ H fun x H1 => tk σ H1 fun z H2 => ∃ (a : Addr) (xs : List V),x = .ref a∧z = .int (-1)∧SqL X.K H2 a xs∧∀ p,H2 p = none→Q (.ref p) (upd H2 p (.lst xs.reverse))) := by
  intro pins s σ H Q I h
  refine Subscript_ (thn (he pins s σ H _ I h) fun v s1 ⟨x,H1,I1,r1,q1⟩ => ?_)
  refine wpAny_Slice ?_
  rw [evalPart_none]
  refine wpAny_pure ?_
  refine wpAny_pure ?_
  rw [evalPart_some]
  refine thn (hk pins s1 σ H1 _ I1 q1) fun vk s3 ⟨z,H3,I3,r3,q3⟩ => ?_
  obtain ⟨a,xs,rfl,rfl,hq,q⟩:=q3
  cases r1
  obtain ⟨tk',rfl⟩:=r3
  have I4 : Inv X pins σ H3 { s3 with heap:=s3.heap.push { cls:=.type "slice",data:=.fields #[.none,.none,.int (-1) tk'] } }:=I3.kept (t':=s3.toks) fun b ob q => Heap.get?_push_of_some _ q
  obtain ⟨its,rv,pl,hz⟩:=I4.list hq
  have hlen:=rv.length
  show wpAny (model X.prog X.w) X.A (subscriptTail e (.Slice none none (some k) p2) (.ref a) (.ref s3.heap.objs.size)) (EP X pins σ Q) X.xe { s3 with heap:=s3.heap.push { cls:=.type "slice",data:=.fields #[.none,.none,.int (-1) tk'] } }
  refine tail_any (ops:=[.ref a,.ref s3.heap.objs.size]) (T := "list") pl.isList.typeIs slot_list_getitem.lookup ?_ (by with_unfolding_all rfl)
  refine wpAny_getItem_list_slice pl.isList (Heap.IsSliceOf.new ..) .none .none (.int (-1) tk') (by decide) ?_ (by rw [List.size_toArray] <;> omega)
  rw [PySem.W.krv_pick]
  refine ⟨.ref _,_,I4.laid (t':=s3.toks) (o:=.lst xs.reverse) (fun b ob q => Heap.get?_push_of_some _ q) (Nat.le_refl _) ?_,rfl,q _ (I4.hok.fresh (Nat.le_refl _))⟩
  exact ⟨by rw [List.length_reverse]; exact hz,its.reverse,0,rv.reverse,Heap.get?_push_size _ rfl⟩
end
def CW (Pv : Nat→List V→Hp→Prop) (n : Nat) (D : Addr) : Nat→Nat→List V→Hp→Prop:=fun i m ys H => m = n - i∧i≤n∧H D = some (.lst ys)∧Pv i ys H
theorem cw_next {Pv : Nat→List V→Hp→Prop} {n i : Nat} {D : Addr} {ys : List V} {y : V} {H : Hp} (hi : i < n) (p : Pv (i + 1) (ys ++ [y]) (upd H D (.lst (ys ++ [y])))) : ∃ m',m' < n - i∧CW Pv n D (i + 1) m' (ys ++ [y]) (upd H D (.lst (ys ++ [y]))) :=
  ⟨n - (i + 1),by omega,rfl,hi,upd_same,p⟩
theorem cw_skip {Pv : Nat→List V→Hp→Prop} {n i : Nat} {D : Addr} {ys : List V} {H : Hp} (hi : i < n) (hD : H D = some (.lst ys)) (p : Pv (i + 1) ys H) : ∃ m',m' < n - i∧CW Pv n D (i + 1) m' ys H:=⟨n - (i + 1),by omega,rfl,hi,hD,p⟩
theorem comp_by {J : It} {n : Nat} {D : Addr} {H1 : Hp} {fr : List (Option Nat)} {σ : St} {ix : Nat} {tif : TT} {te : TE} {G : Hp→Prop} (Pv : Nat→List V→Hp→Prop) (h0 : Pv 0 [] (upd H1 D (.lst [])))
    (hgo : ∀ i ys H,i < n→Pv i ys H→H D = some (.lst ys)→J.go i H∧ys.length < sizeLine∧∀ x H',J.yld i H x H' →
      tif ((carry fr σ).set ix (some x)) H' fun b H2 => if b = true then te ((carry fr σ).set ix (some x)) H2 fun y H3 => H3 D = some (.lst ys)∧∃ m',m' < n - i∧CW Pv n D (i + 1) m' (ys ++ [y]) (upd H3 D (.lst (ys ++ [y])))
        else ∃ m',m' < n - i∧CW Pv n D (i + 1) m' ys H2)
    (hstop : ∀ ys H,Pv n ys H→H D = some (.lst ys)→J.stop n H∧G H) :
    ∃ W : Nat→Nat→List V→Hp→Prop,(∃ m,W 0 m [] (upd H1 D (.lst []))) ∧
      ∀ i m ys H,W i m ys H→H D = some (.lst ys)∧((J.stop i H∧G H)∨(J.go i H∧ys.length < sizeLine∧∀ x H',J.yld i H x H' →
        tif ((carry fr σ).set ix (some x)) H' fun b H2 => if b = true then te ((carry fr σ).set ix (some x)) H2 fun y H3 => H3 D = some (.lst ys)∧∃ m',m' < m∧W (i + 1) m' (ys ++ [y]) (upd H3 D (.lst (ys ++ [y])))
          else ∃ m',m' < m∧W (i + 1) m' ys H2)) := by
  refine ⟨CW Pv n D,⟨n,by simp,Nat.zero_le _,upd_same,h0⟩,?_⟩
  rintro i m ys H ⟨rfl,hi,hH,p⟩
  refine ⟨hH,?_⟩
  by_cases hlt : i < n
  · exact .inr (hgo i ys H hlt p hH)
  · have e : i = n := by omega
    subst e
    exact .inl (hstop ys H p hH)
mutual
def Dt (l : Addr) (H : Hp) : PyData→V→Prop
  | .none,v => v = .non
  | .bool b,v => v = .bl b
  | .int i,v => v = .int i
  | .str x,v => v = .str x
  | .tuple ds,v => ∃ (a : Addr) (xs : List V),v = .ref a∧a≠l∧H a = some (.tup xs)∧DtAll l H ds xs
  | .list ds,v => ∃ (a : Addr) (xs : List V),v = .ref a∧a≠l∧H a = some (.lst xs)∧DtAll l H ds xs
  | .dict _,_ => False
def DtAll (l : Addr) (H : Hp) : List PyData→List V→Prop
  | [],xs => xs = []
  | d :: ds,xs => ∃ x r,xs = x :: r∧Dt l H d x∧DtAll l H ds r
end
mutual
theorem Dt.but {l : Addr} {H H' : Hp} (e : SameBut l H H') : ∀ {d : PyData} {v : V},Dt l H d v→Dt l H' d v
  | .none,_,h => by rw [Dt] at h ⊢; exact h
  | .bool _,_,h => by rw [Dt] at h ⊢; exact h
  | .int _,_,h => by rw [Dt] at h ⊢; exact h
  | .str _,_,h => by rw [Dt] at h ⊢; exact h
  | .tuple _,_,h => by
    rw [Dt] at h ⊢
    obtain ⟨a,xs,e1,n,h1,h2⟩:=h
    exact ⟨a,xs,e1,n,e _ _ n h1,DtAll.but e h2⟩
  | .list _,_,h => by
    rw [Dt] at h ⊢
    obtain ⟨a,xs,e1,n,h1,h2⟩:=h
    exact ⟨a,xs,e1,n,e _ _ n h1,DtAll.but e h2⟩
  | .dict _,_,h => by rw [Dt] at h; exact h.elim
theorem DtAll.but {l : Addr} {H H' : Hp} (e : SameBut l H H') : ∀ {ds : List PyData} {xs : List V},DtAll l H ds xs→DtAll l H' ds xs
  | [],_,h => by rw [DtAll] at h ⊢; exact h
  | _ :: _,_,h => by
    rw [DtAll] at h ⊢
    obtain ⟨x,r,e1,h1,h2⟩:=h
    exact ⟨x,r,e1,Dt.but e h1,DtAll.but e h2⟩
end
theorem Dt.same {l : Addr} {H H' : Hp} {d : PyData} {v : V} (h : Dt l H d v) (e : Same H H') : Dt l H' d v:=Dt.but (.of e) h
mutual
theorem Dt.br {K : PySem.W.Frag} {l : Addr} {H : Hp} : ∀ {d : PyData} {v : V},Dt l H d v→Br K H d v
  | .none,_,h => by rw [Dt] at h; rw [Br]; exact h
  | .bool _,_,h => by rw [Dt] at h; rw [Br]; exact h
  | .int _,_,h => by rw [Dt] at h; rw [Br]; exact h
  | .str _,_,h => by rw [Dt] at h; rw [Br]; exact h
  | .tuple _,_,h => by
    rw [Dt] at h; rw [Br]
    obtain ⟨a,xs,e1,n,h1,h2⟩:=h
    exact ⟨a,xs,e1,SqT.of h1,DtAll.br h2⟩
  | .list _,_,h => by
    rw [Dt] at h; rw [Br]
    obtain ⟨a,xs,e1,n,h1,h2⟩:=h
    exact ⟨a,xs,e1,SqL.of h1,DtAll.br h2⟩
  | .dict _,_,h => by rw [Dt] at h; exact h.elim
theorem DtAll.br {K : PySem.W.Frag} {l : Addr} {H : Hp} : ∀ {ds : List PyData} {xs : List V},DtAll l H ds xs→BrAll K H ds xs
  | [],_,h => by rw [DtAll] at h; rw [BrAll]; exact h
  | _ :: _,_,h => by
    rw [DtAll] at h; rw [BrAll]
    obtain ⟨x,r,e1,h1,h2⟩:=h
    exact ⟨x,r,e1,Dt.br h1,DtAll.br h2⟩
end
theorem DtAll.len {l : Addr} {H : Hp} : ∀ {ds : List PyData} {xs : List V},DtAll l H ds xs→xs.length = ds.length
  | [],_,h => by rw [DtAll] at h; rw [h]; rfl
  | _ :: _,_,h => by
    rw [DtAll] at h
    obtain ⟨x,r,rfl,_,h2⟩:=h
    rw [List.length_cons,List.length_cons,DtAll.len h2]
theorem DtAll.get {l : Addr} {H : Hp} : ∀ {ds : List PyData} {xs : List V} {i : Nat} {v : V},DtAll l H ds xs→xs[i]? = some v→∃ d,ds[i]? = some d∧Dt l H d v
  | [],_,i,v,h,e => by rw [DtAll] at h; subst h; simp at e
  | d :: ds,_,i,v,h,e => by
    rw [DtAll] at h
    obtain ⟨x,r,rfl,h1,h2⟩:=h
    cases i with
    | zero => simp at e; subst e; exact ⟨d,rfl,h1⟩
    | succ i =>
      obtain ⟨c,q1,q2⟩:=h2.get (i:=i) (v:=v) (by simpa using e)
      exact ⟨c,by simpa using q1,q2⟩
theorem DtAll.nil {l : Addr} {H : Hp} : DtAll l H [] [] := by rw [DtAll]
theorem DtAll.cons {l : Addr} {H : Hp} {d : PyData} {ds : List PyData} {x : V} {xs : List V} (h : Dt l H d x) (k : DtAll l H ds xs) : DtAll l H (d :: ds) (x :: xs) := by
  rw [DtAll]; exact ⟨x,xs,rfl,h,k⟩
theorem Dt.int {l : Addr} {H : Hp} {i : Int} : Dt l H (.int i) (.int i) := by rw [Dt]
theorem Dt.bool {l : Addr} {H : Hp} {b : Bool} : Dt l H (.bool b) (.bl b) := by rw [Dt]
theorem Dt.non {l : Addr} {H : Hp} : Dt l H .none .non := by rw [Dt]
theorem Dt.str {l : Addr} {H : Hp} {x : Str} : Dt l H (.str x) (.str x) := by rw [Dt]
theorem Dt.tup {l a : Addr} {H : Hp} {ds : List PyData} {xs : List V} (n : a≠l) (h : H a = some (.tup xs)) (k : DtAll l H ds xs) : Dt l H (.tuple ds) (.ref a) := by rw [Dt]; exact ⟨a,xs,rfl,n,h,k⟩
theorem Dt.lst {l a : Addr} {H : Hp} {ds : List PyData} {xs : List V} (n : a≠l) (h : H a = some (.lst xs)) (k : DtAll l H ds xs) : Dt l H (.list ds) (.ref a) := by rw [Dt]; exact ⟨a,xs,rfl,n,h,k⟩
def Ok (n : Nat) (d : PyData) : Prop:=d.canLay0 = true∧d.depth≤n
def OkAll (n : Nat) (ds : List PyData) : Prop:=PyData.canLayAll0 ds = true∧PyData.depthAll ds≤n
theorem Ok.shaped {n : Nat} {d : PyData} (h : Ok n d) (hn : n≤64) : SeqAt.shaped d = true := by
  unfold SeqAt.shaped
  rw [h.1,Bool.true_and]
  exact decide_eq_true (Nat.le_trans h.2 hn)
theorem OkAll.nil {n : Nat} : OkAll n []:=⟨by simp [PyData.canLayAll0],by simp [PyData.depthAll]⟩
theorem OkAll.cons {n : Nat} {d : PyData} {ds : List PyData} (h : Ok n d) (k : OkAll n ds) : OkAll n (d :: ds):=⟨by simp [PyData.canLayAll0,h.1,k.1],by simp only [PyData.depthAll]; exact Nat.max_le.mpr ⟨h.2,k.2⟩⟩
theorem OkAll.of {n : Nat} : ∀ {ds : List PyData},(∀ d∈ds,Ok n d)→OkAll n ds
  | [],_ => .nil
  | d :: ds,h => .cons (h d List.mem_cons_self) (OkAll.of fun e he => h e (List.mem_cons_of_mem _ he))
theorem Ok.tup {n : Nat} {ds : List PyData} (h : OkAll n ds) : Ok (n + 1) (.tuple ds):=⟨by simp only [PyData.canLay0]; exact h.1,by simp only [PyData.depth]; exact Nat.succ_le_succ h.2⟩
theorem Ok.lst {n : Nat} {ds : List PyData} (h : OkAll n ds) : Ok (n + 1) (.list ds):=⟨by simp only [PyData.canLay0]; exact h.1,by simp only [PyData.depth]; exact Nat.succ_le_succ h.2⟩
theorem Ok.int {n : Nat} {i : Int} : Ok n (.int i):=⟨by simp [PyData.canLay0],by simp [PyData.depth]⟩
theorem Ok.bool {n : Nat} {b : Bool} : Ok n (.bool b):=⟨by simp [PyData.canLay0],by simp [PyData.depth]⟩
theorem Ok.non {n : Nat} : Ok n .none:=⟨by simp [PyData.canLay0],by simp [PyData.depth]⟩
theorem Ok.str {n : Nat} {x : Str} (h : PyData.strOk x = true) : Ok n (.str x):=⟨by simp [PyData.canLay0,h],by simp [PyData.depth]⟩
def tyOf : PyData→String
  | .none => "NoneType"
  | .bool _ => "bool"
  | .int _ => "int"
  | .str _ => "str"
  | .tuple _ => "tuple"
  | .list _ => "list"
  | .dict _ => "dict"
theorem Dt.ty {K : PySem.W.Frag} {l : Addr} {H : Hp} : ∀ {d : PyData} {v : V},Dt l H d v→TyOf K H v (.type (tyOf d))
  | .none,_,h => by rw [Dt] at h; subst h; exact .non
  | .bool _,_,h => by rw [Dt] at h; subst h; exact .bl _
  | .int _,_,h => by rw [Dt] at h; subst h; exact .int _
  | .str _,_,h => by rw [Dt] at h; subst h; exact .str _
  | .tuple _,_,h => by rw [Dt] at h; obtain ⟨a,xs,rfl,_,h1,_⟩:=h; exact .tup h1
  | .list _,_,h => by rw [Dt] at h; obtain ⟨a,xs,rfl,_,h1,_⟩:=h; exact .lst h1
  | .dict _,_,h => by rw [Dt] at h; exact h.elim
def isTupD : PyData→Bool
  | .tuple _ => true
  | _ => false
def isIntD : PyData→Bool
  | .int _ => true
  | .bool _ => true
  | _ => false
def isBoolD : PyData→Bool
  | .bool _ => true
  | _ => false
theorem kit_tupD (K : PySem.W.Frag) : ∀ d : PyData,(∀ kv,d≠.dict kv)→PySem.W.kitOne K (.type (tyOf d)) (.type "tuple") = some (isTupD d)
  | .none,_ => kit_nt K
  | .bool _,_ => kit_bt K
  | .int _,_ => kit_it K
  | .str _,_ => kit_st K
  | .tuple _,_ => kit_tt K
  | .list _,_ => kit_lt K
  | .dict kv,h => absurd rfl (h kv)
theorem kit_nb (K : PySem.W.Frag) : PySem.W.kitOne K (.type "NoneType") (.type "bool") = some false := by kernel_rfl
theorem kit_sb (K : PySem.W.Frag) : PySem.W.kitOne K (.type "str") (.type "bool") = some false := by kernel_rfl
theorem kit_tb (K : PySem.W.Frag) : PySem.W.kitOne K (.type "tuple") (.type "bool") = some false := by kernel_rfl
theorem kit_lb (K : PySem.W.Frag) : PySem.W.kitOne K (.type "list") (.type "bool") = some false := by kernel_rfl
theorem kit_intD (K : PySem.W.Frag) : ∀ d : PyData,(∀ kv,d≠.dict kv)→PySem.W.kitOne K (.type (tyOf d)) (.type "int") = some (isIntD d)
  | .none,_ => kit_ni K
  | .bool _,_ => kit_bi K
  | .int _,_ => kit_ii K
  | .str _,_ => kit_si K
  | .tuple _,_ => kit_ti K
  | .list _,_ => kit_li K
  | .dict kv,h => absurd rfl (h kv)
theorem kit_boolD (K : PySem.W.Frag) : ∀ d : PyData,(∀ kv,d≠.dict kv)→PySem.W.kitOne K (.type (tyOf d)) (.type "bool") = some (isBoolD d)
  | .none,_ => kit_nb K
  | .bool _,_ => kit_bb K
  | .int _,_ => kit_ib K
  | .str _,_ => kit_sb K
  | .tuple _,_ => kit_tb K
  | .list _,_ => kit_lb K
  | .dict kv,h => absurd rfl (h kv)
theorem Dt.nodict {l : Addr} {H : Hp} {d : PyData} {v : V} (h : Dt l H d v) : ∀ kv,d≠.dict kv:=fun kv z => by subst z; rw [Dt] at h; exact h
end L2
namespace Tr
theorem fall_cons {b r : Tr} : (cons b r).fall = true ↔ b.fall = true∧r.fall = true∧∀ c,r.bs[0]? = some c→lt b c = false := by
  cases r with
  | nil => simp [bs,fall]
  | cons c q =>
    rw [show (cons b (cons c q)).fall = (b.fall && (cons c q).fall && !lt b c) from rfl]
    simp only [Bool.and_eq_true,Bool.not_eq_true',bs,List.getElem?_cons_zero,Option.some.injEq,forall_eq',and_assoc]
theorem fall_iff : ∀ t : Tr,t.fall = true ↔ (∀ c∈t.bs,c.fall = true)∧∀ (i : Nat) (a b : Tr),t.bs[i]? = some a→t.bs[i + 1]? = some b→lt a b = false
  | .nil => by simp [fall,bs]
  | .cons b r => by
    rw [fall_cons,fall_iff r,bs,List.forall_mem_cons]
    constructor
    · rintro ⟨h1,⟨h2,h3⟩,h4⟩
      refine ⟨⟨h1,h2⟩,fun i x y ex ey => ?_⟩
      cases i with
      | zero => simp at ex; subst ex; exact h4 y (by simpa using ey)
      | succ i => exact h3 i x y (by simpa using ex) (by simpa using ey)
    · rintro ⟨⟨h1,h2⟩,h3⟩
      exact ⟨h1,⟨h2,fun i x y ex ey => h3 (i + 1) x y (by simpa using ex) (by simpa using ey)⟩,fun c hc => h3 0 b c rfl (by simpa using hc)⟩
theorem deep_mem {t c : Tr} (h : c∈t.bs) : c.deep < t.deep := by
  induction t with
  | nil => cases h
  | cons b r _ ih =>
    rw [bs] at h
    have hd : (cons b r).deep = max (b.deep + 1) r.deep:=rfl
    rcases List.mem_cons.mp h with rfl | h
    · omega
    · have:=ih h; omega
theorem knots_pos : ∀ t : Tr,0 < t.knots
  | .nil => Nat.one_pos
  | .cons b r => by rw [knots]; have:=knots_pos b; omega
end Tr
namespace L2
open PySem PySem.Spec PyProof.Rows
def leaf : PyData→Prop
  | .none => True
  | .bool _ => True
  | .int _ => True
  | .str x => PyData.strOk x = true
  | _ => False
def Sm : Nat→PyData→Prop
  | 0,d => leaf d
  | n + 1,d => leaf d∨∃ ds,(d = .tuple ds∨d = .list ds)∧ds.length≤60∧∀ e∈ds,Sm n e
theorem leaf.ok {n : Nat} : ∀ {d : PyData},leaf d→Ok n d
  | .none,_ => .non
  | .bool _,_ => .bool
  | .int _,_ => .int
  | .str _,h => .str h
theorem leaf.sm {n : Nat} {d : PyData} (h : leaf d) : Sm n d := by
  cases n with
  | zero => exact h
  | succ n => exact .inl h
theorem Sm.ok : ∀ {n : Nat} {d : PyData},Sm n d→Ok n d
  | 0,_,h => leaf.ok h
  | n + 1,d,h => by
    rcases h with h | ⟨ds,h1,_,h2⟩
    · exact h.ok
    · have:=OkAll.of fun e he => (h2 e he).ok
      rcases h1 with rfl | rfl
      · exact .tup this
      · exact .lst this
theorem Sm.tup {n : Nat} {ds : List PyData} (h : ds.length≤60) (k : ∀ e∈ds,Sm n e) : Sm (n + 1) (.tuple ds):=.inr ⟨ds,.inl rfl,h,k⟩
theorem Sm.lst {n : Nat} {ds : List PyData} (h : ds.length≤60) (k : ∀ e∈ds,Sm n e) : Sm (n + 1) (.list ds):=.inr ⟨ds,.inr rfl,h,k⟩
theorem Sm.un {n : Nat} {d : PyData} {ds : List PyData} (e : d = .tuple ds∨d = .list ds) (h : Sm n d) : ∃ m,n = m + 1∧ds.length≤60∧∀ x∈ds,Sm m x := by
  cases n with
  | zero => rcases e with rfl | rfl <;> exact h.elim
  | succ n =>
    refine ⟨n,rfl,?_⟩
    rcases h with h | ⟨cs,h1,h2,h3⟩
    · rcases e with rfl | rfl <;> exact h.elim
    · rcases e with rfl | rfl
      · rcases h1 with h1 | h1
        · cases h1; exact ⟨h2,h3⟩
        · cases h1
      · rcases h1 with h1 | h1
        · cases h1
        · cases h1; exact ⟨h2,h3⟩
mutual
def trOf : PyData→Option Tr
  | .tuple ds => trsOf ds
  | _ => none
def trsOf : List PyData→Option Tr
  | [] => some .nil
  | d :: ds => (trOf d).bind fun b => (trsOf ds).map fun r => .cons b r
end
theorem trsOf_map : ∀ {ds : List PyData} {t : Tr},trsOf ds = some t ↔ ds.map trOf = t.bs.map some
  | [],.nil => by simp [trsOf,Tr.bs]
  | [],.cons _ _ => by simp [trsOf,Tr.bs]
  | d :: ds,.nil => by
    rw [trsOf]
    cases trOf d <;> cases trsOf ds <;> simp [Tr.bs]
  | d :: ds,.cons b r => by
    rw [trsOf,Tr.bs]
    simp only [List.map_cons,List.cons.injEq]
    rw [← trsOf_map (ds:=ds) (t:=r)]
    cases trOf d <;> cases trsOf ds <;> simp
mutual
theorem eqv_tr : ∀ {d e : PyData} {t : Tr},PyData.eqv d e = true→trOf e = some t→trOf d = some t
  | d,.tuple es,t,h,k => by
    cases d with
    | tuple ds =>
      rw [PyData.eqv] at h
      rw [trOf] at k ⊢
      exact eqvAll_tr h k
    | none => simp [PyData.eqv] at h
    | bool b => simp [PyData.eqv] at h
    | int b => simp [PyData.eqv] at h
    | str b => simp [PyData.eqv] at h
    | list b => simp [PyData.eqv] at h
    | dict b => simp [PyData.eqv] at h
  | _,.none,_,_,k => by simp [trOf] at k
  | _,.bool _,_,_,k => by simp [trOf] at k
  | _,.int _,_,_,k => by simp [trOf] at k
  | _,.str _,_,_,k => by simp [trOf] at k
  | _,.list _,_,_,k => by simp [trOf] at k
  | _,.dict _,_,_,k => by simp [trOf] at k
theorem eqvAll_tr : ∀ {ds es : List PyData} {t : Tr},PyData.eqvAll ds es = true→trsOf es = some t→trsOf ds = some t
  | [],[],_,_,k => k
  | [],_ :: _,_,h,_ => by simp [PyData.eqvAll] at h
  | _ :: _,[],_,h,_ => by simp [PyData.eqvAll] at h
  | d :: ds,e :: es,t,h,k => by
    rw [PyData.eqvAll,Bool.and_eq_true] at h
    rw [trsOf] at k ⊢
    cases k1 : trOf e with
    | none => rw [k1] at k; simp at k
    | some b =>
      cases k2 : trsOf es with
      | none => rw [k1,k2] at k; simp at k
      | some r =>
        rw [k1,k2] at k
        rw [eqv_tr h.1 k1,eqvAll_tr h.2 k2]
        exact k
end
mutual
theorem dt_tv {l : Addr} {H : Hp} : ∀ {d : PyData} {v : V} {t : Tr},Dt l H d v→trOf d = some t→Tv H t v
  | .tuple ds,v,t,h,k => by
    rw [Dt] at h
    rw [trOf] at k
    obtain ⟨a,xs,rfl,_,h1,h2⟩:=h
    exact ⟨a,xs,rfl,h1,dtAll_ts h2 k⟩
  | .none,_,_,_,k => by simp [trOf] at k
  | .bool _,_,_,_,k => by simp [trOf] at k
  | .int _,_,_,_,k => by simp [trOf] at k
  | .str _,_,_,_,k => by simp [trOf] at k
  | .list _,_,_,_,k => by simp [trOf] at k
  | .dict _,_,_,_,k => by simp [trOf] at k
theorem dtAll_ts {l : Addr} {H : Hp} : ∀ {ds : List PyData} {xs : List V} {t : Tr},DtAll l H ds xs→trsOf ds = some t→Ts H t xs
  | [],xs,t,h,k => by
    rw [DtAll] at h
    rw [trsOf] at k
    cases k
    subst h
    exact .nil
  | d :: ds,xs,t,h,k => by
    rw [DtAll] at h
    obtain ⟨x,r,rfl,h1,h2⟩:=h
    rw [trsOf] at k
    cases k1 : trOf d with
    | none => rw [k1] at k; simp at k
    | some b =>
      cases k2 : trsOf ds with
      | none => rw [k1,k2] at k; simp at k
      | some q =>
        rw [k1,k2] at k
        cases k
        exact .cons (dt_tv h1 k1) (dtAll_ts h2 k2)
end
def fallD (d : PyData) : Bool:=match trOf d with
  | some t => t.fall
  | none => false
theorem fallD_of {d : PyData} {t : Tr} (h : trOf d = some t) : fallD d = t.fall := by unfold fallD; rw [h]
theorem fallD_no {d : PyData} (h : trOf d = none) : fallD d = false := by unfold fallD; rw [h]
theorem fallD_true {d : PyData} (h : fallD d = true) : ∃ t,trOf d = some t∧t.fall = true := by
  unfold fallD at h
  cases e : trOf d with
  | none => rw [e] at h; cases h
  | some t => rw [e] at h; exact ⟨t,rfl,h⟩
theorem fallD_row {ds : List PyData} : fallD (.tuple ds) = true ↔ (∀ (j : Nat) (d : PyData),ds[j]? = some d→fallD d = true)∧∀ (j : Nat) (d e : PyData) (b c : Tr),ds[j]? = some d→ds[j + 1]? = some e→trOf d = some b→trOf e = some c→Tr.lt b c = false := by
  constructor
  · intro h
    obtain ⟨t,h1,h2⟩:=fallD_true h
    rw [trOf,trsOf_map] at h1
    obtain ⟨k1,k2⟩:=(Tr.fall_iff t).mp h2
    have at_ : ∀ (j : Nat) (d : PyData),ds[j]? = some d→∃ c,t.bs[j]? = some c∧trOf d = some c:=fun j d hd => by
      have e:=congrArg (fun l => l[j]?) h1
      simp only [List.getElem?_map,hd,Option.map_some] at e
      cases hc : t.bs[j]? with
      | none => rw [hc] at e; cases e
      | some c => rw [hc] at e; exact ⟨c,rfl,by simpa using e⟩
    refine ⟨fun j d hd => ?_,fun j d e b c hd he hb hc => ?_⟩
    · obtain ⟨c,h3,h4⟩:=at_ j d hd
      rw [fallD_of h4]
      exact k1 c (List.mem_of_getElem? h3)
    · obtain ⟨b',h3,h4⟩:=at_ j d hd
      obtain ⟨c',h5,h6⟩:=at_ (j + 1) e he
      rw [hb] at h4; cases h4
      rw [hc] at h6; cases h6
      exact k2 j _ _ h3 h5
  · rintro ⟨h1,h2⟩
    have all : ∀ l : List PyData,(∀ d∈l,fallD d = true)→∃ ts : List Tr,l.map trOf = ts.map some:=fun l hl => by
      induction l with
      | nil => exact ⟨[],rfl⟩
      | cons d l ih =>
        obtain ⟨ts,e⟩:=ih fun x hx => hl x (List.mem_cons_of_mem _ hx)
        obtain ⟨t,e1,_⟩:=fallD_true (hl d List.mem_cons_self)
        exact ⟨t :: ts,by rw [List.map_cons,List.map_cons,e1,e]⟩
    obtain ⟨ts,hts⟩:=all ds fun d hd => by
      obtain ⟨j,hj⟩:=List.getElem?_of_mem hd
      exact h1 j d hj
    have e : trOf (.tuple ds) = some (Tr.of ts) := by rw [trOf,trsOf_map,Tr.bs_of]; exact hts
    have at_ : ∀ (j : Nat) (c : Tr),ts[j]? = some c→∃ d,ds[j]? = some d∧trOf d = some c:=fun j c hc => by
      have e:=congrArg (fun l => l[j]?) hts
      simp only [List.getElem?_map,hc,Option.map_some] at e
      cases hd : ds[j]? with
      | none => rw [hd] at e; cases e
      | some d => rw [hd] at e; exact ⟨d,rfl,by simpa using e⟩
    rw [fallD_of e,Tr.fall_iff,Tr.bs_of]
    refine ⟨fun c hc => ?_,fun j b c hb hc => ?_⟩
    · obtain ⟨j,hj⟩:=List.getElem?_of_mem hc
      obtain ⟨d,h3,h4⟩:=at_ j c hj
      rw [← fallD_of h4]
      exact h1 j d h3
    · obtain ⟨d,h3,h4⟩:=at_ j b hb
      obtain ⟨e,h5,h6⟩:=at_ (j + 1) c hc
      exact h2 j d e b c h3 h5 h4 h6
section
variable {X : Cx}
def rCatA : R2:=fun x y H Q => ∃ a b xs ys,x = .ref a∧y = .ref b∧H a = some (.tup xs)∧H b = some (.tup ys)∧xs.length + ys.length≤sizeLine∧∀ p H',Same H H'→H' p = some (.tup (xs ++ ys))→Q (.ref p) H'
theorem op_catA : OpR X (binaryOp .Add) rCatA := by
  intro pins s σ H x y v u Q I rx ry h
  obtain ⟨a,b,xs,ys,rfl,rfl,ha,hb,hz,q⟩:=h
  cases rx
  cases ry
  obtain ⟨its,r1,p1,_⟩:=I.tuple (SqT.of (K:=X.K) ha)
  obtain ⟨its2,r2,p2,_⟩:=I.tuple (SqT.of (K:=X.K) hb)
  by_cases hv : its = []
  · have hx:=r1.nil_iff.mp hv
    subst hv hx
    obtain ⟨⟨cls,dd,data,sl⟩,ho,hc,n,hd⟩:=id p1
    obtain ⟨⟨cls2,dd2,data2,sl2⟩,ho2,hc2,n2,hd2⟩:=id p2
    simp only at hc hd hc2 hd2
    subst hc hd hc2 hd2
    exact concat_meets ⟨_,ho,rfl⟩ ⟨_,ho2,rfl⟩ noFill_tuple_add seq_tuple_add PySem.F.slot_tuple_add PySem.F.entry_tuple_add (PySem.F.args_tuple_add_2 _ _)
      (tuple_addW0 a b _ _ n n2 dd dd2 sl sl2 (by simp)) ⟨ho,ho2,⟨.ref b,H,I,rfl,q b H (.refl H) (by simpa using hb)⟩⟩
  · refine HT.cat_tup p1 p2 hv (fun z => ?_) (fun z => ?_) (by rw [← r1.length,← r2.length]; exact hz)
    · have hy:=r2.nil_iff.mp z
      subst hy
      exact ⟨.ref a,H,I,rfl,q a H (.refl H) (by simpa using ha)⟩
    · refine ⟨.ref s.heap.objs.size,_,I.laid (t':=s.toks) (o:=.tup (xs ++ ys)) (fun b ob q => Heap.get?_push_of_some _ q) (Nat.le_refl _) ?_,rfl,q _ _ (same_new (I.hok.fresh (Nat.le_refl _)) _) upd_same⟩
      exact ⟨by rw [List.length_append]; exact hz,_,r1.append r2,IsTup.new _ _⟩
end
end L2
namespace Tim
open PySem PyProof.Rows
def gallop' : Bool→Keyed→Array Keyed→Nat→Nat→Nat→StateT SortSt Sem (Option Nat):=sortPriv% PySem.Builtin.gallop
def mergeLo' : Array Keyed→Array Keyed→StateT SortSt Sem (Array Keyed):=sortPriv% PySem.Builtin.mergeLo
def iter {T : Type} (step : T→Option (Bool×T)) : Nat→T→Option T
  | 0,t => some t
  | n + 1,t => match step t with
    | none => none
    | some (true,t') => some t'
    | some (false,t') => iter step n t'
section pure
variable (N : Nat) (lt : Nat→Nat→Bool)
def cmp (i j : Nat) : Option Bool:=if i < N∧j < N then some (lt i j) else none
def at2 (p : Array Nat) (i j : Nat) : Option Bool:=match p[i]?,p[j]? with
  | some x,some y => cmp N lt x y
  | _,_ => none
def turn (p : Array Nat) (i j : Nat) : Array Nat:=mirror p i j ((j - i) / 2)
def ascS (p : Array Nat) (lo : Nat) (n : Nat) : Option (Bool×Nat):=match at2 N lt p (lo + n) (lo + n - 1) with
  | none => none
  | some true => some (true,n)
  | some false => some (false,n + 1)
def descS (lo : Nat) (t : Array Nat×Nat×Nat) : Option (Bool×Array Nat×Nat×Nat):=match at2 N lt t.1 (lo + t.2.1) (lo + t.2.1 - 1) with
  | none => none
  | some true => some (false,(if t.2.2 > 0 then turn t.1 (lo + t.2.1 - (t.2.2 + 1)) (lo + t.2.1) else t.1),t.2.1 + 1,0)
  | some false => match at2 N lt t.1 (lo + t.2.1 - 1) (lo + t.2.1) with
    | none => none
    | some true => some (true,t)
    | some false => some (false,t.1,t.2.1 + 1,t.2.2 + 1)
def fallT (p : Array Nat) (lo nrem n : Nat) : Option (Nat×Array Nat):=match iter (descS N lt lo) (nrem - (n + 1)) (p,n + 1,0) with
  | none => none
  | some (p,n,q) =>
    let p:=if q > 0 then turn p (lo + n - (q + 1)) (lo + n) else p
    let p:=turn p lo (lo + n)
    (iter (ascS N lt p lo) (nrem - n) n).map fun m => (m,p)
def countT (p : Array Nat) (lo nrem : Nat) : Option (Nat×Array Nat):=match iter (ascS N lt p lo) (nrem - 1) 1 with
  | none => none
  | some n => if n == nrem then some (n,p) else if n > 1 then match at2 N lt p lo (lo + n - 1) with
      | none => none
      | some true => some (n,p)
      | some false => fallT N lt (turn p lo (lo + n)) lo nrem n
    else fallT N lt p lo nrem n
def placeS (p : Array Nat) (lo k : Nat) (t : Nat×Nat) : Option (Bool×Nat×Nat):=if t.1 ≥ t.2 then some (true,t) else match at2 N lt p (lo + k) (lo + (t.1 + t.2) / 2) with
  | none => none
  | some true => some (false,t.1,(t.1 + t.2) / 2)
  | some false => some (false,(t.1 + t.2) / 2 + 1,t.2)
def binT (lo : Nat) : Nat→Nat→Array Nat→Option (Array Nat)
  | 0,_,p => some p
  | f + 1,k,p => match iter (placeS N lt p lo k) k (0,k) with
    | none => none
    | some (l,_) => binT lo f (k + 1) (bubble p (lo + k) (lo + k - (lo + l)))
def bey (left : Bool) (key : Nat) (p : Array Nat) (base i : Nat) : Option Bool:=match p[base + i]? with
  | none => none
  | some x => if left then cmp N lt x key else (cmp N lt key x).map (!·)
def upS (b : Nat→Option Bool) (hint mx : Nat) (t : Nat×Nat) : Option (Bool×Nat×Nat):=if t.2 ≥ mx then some (true,t) else match b (hint + t.2) with
  | none => none
  | some true => some (false,t.2,2 * t.2 + 1)
  | some false => some (true,t)
def dnS (b : Nat→Option Bool) (hint mx : Nat) (t : Nat×Nat) : Option (Bool×Nat×Nat):=if t.2 ≥ mx then some (true,t) else match b (hint - t.2) with
  | none => none
  | some true => some (true,t)
  | some false => some (false,t.2,2 * t.2 + 1)
def bisS (b : Nat→Option Bool) (t : Nat×Nat) : Option (Bool×Nat×Nat):=if t.1 ≥ t.2 then some (true,t) else match b (t.1 + (t.2 - t.1) / 2) with
  | none => none
  | some true => some (false,t.1 + (t.2 - t.1) / 2 + 1,t.2)
  | some false => some (false,t.1,t.1 + (t.2 - t.1) / 2)
def galT (b : Nat→Option Bool) (n hint : Nat) : Option Nat:=match b hint with
  | none => none
  | some true => match iter (upS b hint (n - hint)) n (0,1) with
    | none => none
    | some (l,o) => (iter (bisS b) n (hint + l + 1,hint + min o (n - hint))).map (·.2)
  | some false => match iter (dnS b hint (hint + 1)) n (0,1) with
    | none => none
    | some (l,o) => (iter (bisS b) n (hint + 1 - min o (hint + 1),hint - l)).map (·.2)
end pure
section
variable {M : Model} {A : Around} {E : Value→Shared→Prop} {s : Shared} {σ : Type}
theorem wpS_iter {T β : Type} {body : Nat→β→StateT σ Sem (ForInStep β)} (step : T→Option (Bool×T)) (toB : T→β) (toS : T→σ) {Q : β→σ→Prop}
    (hb : ∀ x t b t',step t = some (b,t')→∀ R : ForInStep β→σ→Prop,R (if b = true then .done (toB t') else .yield (toB t')) (toS t')→wpS M A E s (body x (toB t)) R (toS t)) :
    ∀ (l : List Nat) (t t' : T),iter step l.length t = some t'→Q (toB t') (toS t')→wpS M A E s (forIn l (toB t) body) Q (toS t)
  | [],t,t',h,q => by
    cases h
    rw [List.forIn_nil]
    exact wpS_pure q
  | x :: l,t,t',h,q => by
    rw [List.forIn_cons]
    rw [List.length_cons,iter] at h
    cases e : step t with
    | none => rw [e] at h; cases h
    | some r =>
      obtain ⟨b,t2⟩:=r
      rw [e] at h
      refine wpS_bind (hb x t b t2 e _ ?_)
      cases b with
      | true =>
        simp only [if_true]
        cases h
        exact wpS_pure q
      | false =>
        simp only [Bool.false_eq_true,if_false]
        exact wpS_iter step toB toS hb l t2 t' h q
theorem wpS_iterR {T β : Type} {a b : Nat} {body : Nat→β→StateT σ Sem (ForInStep β)} (step : T→Option (Bool×T)) (toB : T→β) (toS : T→σ) {Q : β→σ→Prop} {t t' : T} (h : iter step (b - a) t = some t')
    (hb : ∀ x t b t',step t = some (b,t')→∀ R : ForInStep β→σ→Prop,R (if b = true then .done (toB t') else .yield (toB t')) (toS t')→wpS M A E s (body x (toB t)) R (toS t)) (q : Q (toB t') (toS t')) :
    wpS M A E s (forIn [a:b] (toB t) body) Q (toS t) := by
  rw [Std.Legacy.Range.forIn_eq_forIn_range']
  have hsz : ([a:b] : Std.Legacy.Range).size = b - a := by simp [Std.Legacy.Range.size]
  show wpS M A E s (forIn (List.range' a ([a:b] : Std.Legacy.Range).size 1) (toB t) body) Q (toS t)
  rw [hsz]
  exact wpS_iter step toB toS hb _ t t' (by rw [List.length_range']; exact h) q
end
section
variable {prog : Program} {w : World} {A : Around} {E : Value→Shared→Prop} {s : Shared} {N : Nat} {lt : Nat→Nat→Bool} {κ : SortKind} {it : Nat→Keyed}
def Cm (prog : Program) (w : World) (A : Around) (s : Shared) (κ : SortKind) (it : Nat→Keyed) (N : Nat) (lt : Nat→Nat→Bool) : Prop :=
  ∀ (i j : Nat) (E : Value→Shared→Prop) (Q : Bool→Shared→Prop),i < N→j < N→Q (lt i j) s→wpAny (model prog w) A (keyLt' κ (it i).1 (it j).1) Q E s
abbrev St (κ : SortKind) (it : Nat→Keyed) (p : Array Nat) (pend : Array (Nat×Nat×Nat)) (g : Nat) : SortSt:=SortSt.mk' κ (p.map it) pend g none
variable {p : Array Nat} {pend : Array (Nat×Nat×Nat)} {g : Nat}
theorem lt_ok (hc : Cm prog w A s κ it N lt) {i j : Nat} {b : Bool} (h : cmp N lt i j = some b) {Q : Option Bool→SortSt→Prop} (q : Q (some b) (St κ it p pend g)) : wpS (model prog w) A E s (lt' (it i) (it j)) Q (St κ it p pend g) := by
  unfold cmp at h
  split at h
  · rename_i hij
    cases h
    rw [lt'_eq]
    refine wpS_bind (wpS_get ?_)
    refine wpS_bind (wpS_lift (wpAny_attempt (hc i j _ _ hij.1 hij.2 ⟨rfl,?_⟩)))
    exact wpS_pure q
  · cases h
theorem elem_ok {xs : Array Nat} {k i : Nat} (h : xs[k]? = some i) {Q : Keyed→SortSt→Prop} {st : SortSt} (q : Q (it i) st) : wpS (model prog w) A E s (elem' (xs.map it) k) Q st := by
  rw [elem'_eq,Array.getElem?_map,h]
  exact wpS_pure q
theorem ltAt_ok (hc : Cm prog w A s κ it N lt) {i j : Nat} {b : Bool} (h : at2 N lt p i j = some b) {Q : Option Bool→SortSt→Prop} (q : Q (some b) (St κ it p pend g)) : wpS (model prog w) A E s (ltAt' i j) Q (St κ it p pend g) := by
  unfold at2 at h
  split at h
  · rename_i x y h1 h2
    rw [ltAt'_eq]
    refine wpS_bind (wpS_get ?_)
    show wpS _ _ _ _ (do let x ← elem' (p.map it) i; let y ← elem' (p.map it) j; lt' x y) Q _
    exact wpS_bind (elem_ok h1 (wpS_bind (elem_ok h2 (lt_ok hc h q))))
  · cases h
theorem swaps_map {α β : Type} (f : α→β) (u v : Nat→Nat) : ∀ (l : List Nat) (xs : Array α),l.foldl (fun a k => a.swapIfInBounds (u k) (v k)) (xs.map f) = (l.foldl (fun a k => a.swapIfInBounds (u k) (v k)) xs).map f
  | [],_ => rfl
  | k :: l,xs => by
    have e : (xs.map f).swapIfInBounds (u k) (v k) = (xs.swapIfInBounds (u k) (v k)).map f := by
      apply Array.ext_getElem?
      intro m
      by_cases hi : u k < xs.size
      · by_cases hj : v k < xs.size
        · rw [getElem?_swapIB (by rw [Array.size_map]; exact hi) (by rw [Array.size_map]; exact hj)]
          simp only [Array.getElem?_map]
          rw [getElem?_swapIB hi hj]
          by_cases h1 : v k = m <;> by_cases h2 : u k = m <;> simp [h1,h2]
        · rw [Array.swapIfInBounds_def,Array.swapIfInBounds_def]
          simp [hi,hj]
      · rw [Array.swapIfInBounds_def,Array.swapIfInBounds_def]
        simp [hi]
    show l.foldl (fun a k => a.swapIfInBounds (u k) (v k)) ((xs.map f).swapIfInBounds (u k) (v k)) = _
    rw [e]
    exact swaps_map f u v l _
theorem turn_ok {i j : Nat} {Q : Unit→SortSt→Prop} (q : Q () (St κ it (turn p i j) pend g)) : wpS (model prog w) A E s (reverseSlice' i j) Q (St κ it p pend g) := by
  rw [reverseSlice'_eq]
  refine wpS_modify ?_
  have e : mirror (p.map it) i j ((j - i) / 2) = (mirror p i j ((j - i) / 2)).map it:=swaps_map it (fun k => i + k) (fun k => j - 1 - k) _ p
  show Q () (SortSt.mk' κ (mirror (p.map it) i j ((j - i) / 2)) pend g none)
  rw [e]
  exact q
theorem move_ok {i j : Nat} {Q : Unit→SortSt→Prop} (q : Q () (St κ it (bubble p i (i - j)) pend g)) : wpS (model prog w) A E s (moveDown' i j) Q (St κ it p pend g) := by
  rw [moveDown'_eq]
  refine wpS_modify ?_
  have e : bubble (p.map it) i (i - j) = (bubble p i (i - j)).map it:=swaps_map it (fun k => i - k) (fun k => i - k - 1) _ p
  show Q () (SortSt.mk' κ (bubble (p.map it) i (i - j)) pend g none)
  rw [e]
  exact q
theorem bey_ok (hc : Cm prog w A s κ it N lt) {left : Bool} {key : Nat} {xs : Array Nat} {base i : Nat} {b : Bool} (h : bey N lt left key xs base i = some b) {Q : Option Bool→SortSt→Prop} (q : Q (some b) (St κ it p pend g)) :
    wpS (model prog w) A E s (do
        let x ← elem' (xs.map it) (base + i)
        if left = true then lt' x (it key)
          else do
            let c ← lt' (it key) x
            pure (Option.map (fun x => !x) c)) Q (St κ it p pend g) := by
  unfold bey at h
  split at h
  · cases h
  · rename_i x hx
    refine wpS_bind (elem_ok hx ?_)
    cases left with
    | true =>
      simp only [if_true] at h ⊢
      exact lt_ok hc h q
    | false =>
      simp only [Bool.false_eq_true,if_false] at h ⊢
      cases e : cmp N lt key x with
      | none => rw [e] at h; cases h
      | some c =>
        rw [e] at h
        cases h
        exact wpS_bind (lt_ok hc e (wpS_pure q))
theorem gallop_ok (hc : Cm prog w A s κ it N lt) {left : Bool} {key : Nat} {xs : Array Nat} {base n hint k : Nat} (h : galT (bey N lt left key xs base) n hint = some k) {Q : Option Nat→SortSt→Prop} (q : Q (some k) (St κ it p pend g)) :
    wpS (model prog w) A E s (gallop' left (it key) (xs.map it) base n hint) Q (St κ it p pend g) := by
  unfold galT at h
  refine wpS_bind ?_
  have fin : ∀ {lo hi : Nat},(iter (bisS (bey N lt left key xs base)) n (lo,hi)).map (·.2) = some k→∃ lo' ,iter (bisS (bey N lt left key xs base)) n (lo,hi) = some (lo',k):=fun {lo hi} z => by
    cases e : iter (bisS (bey N lt left key xs base)) n (lo,hi) with
    | none => rw [e] at z; cases z
    | some t => rw [e] at z; cases z; exact ⟨t.1,rfl⟩
  cases e0 : bey N lt left key xs base hint with
  | none => rw [e0] at h; cases h
  | some right =>
    rw [e0] at h
    refine bey_ok hc e0 ?_
    have bis : ∀ (body : Nat→Option (Option Nat)×Nat×Nat→StateT SortSt Sem (ForInStep (Option (Option Nat)×Nat×Nat))) (K : Option (Option Nat)×Nat×Nat→StateT SortSt Sem (Option Nat)),
        (∀ x lo hi (R : ForInStep (Option (Option Nat)×Nat×Nat)→SortSt→Prop),lo ≥ hi→R (.done (none,lo,hi)) (St κ it p pend g)→wpS (model prog w) A E s (body x (none,lo,hi)) R (St κ it p pend g)) →
        (∀ x lo hi c (R : ForInStep (Option (Option Nat)×Nat×Nat)→SortSt→Prop),¬ lo ≥ hi→bey N lt left key xs base (lo + (hi - lo) / 2) = some c→R (.yield (if c = true then (none,lo + (hi - lo) / 2 + 1,hi) else (none,lo,lo + (hi - lo) / 2))) (St κ it p pend g)→wpS (model prog w) A E s (body x (none,lo,hi)) R (St κ it p pend g)) →
        (∀ lo hi,K (none,lo,hi) = pure (some hi))→∀ lo hi,(iter (bisS (bey N lt left key xs base)) n (lo,hi)).map (·.2) = some k→wpS (model prog w) A E s (forIn [0:n] (none,lo,hi) body >>= K) Q (St κ it p pend g) := by
      intro body K h1 h2 h3 lo hi hz
      obtain ⟨lo',e⟩:=fin hz
      refine wpS_bind (wpS_iterR (T:=Nat×Nat) (bisS (bey N lt left key xs base)) (fun t => (none,t.1,t.2)) (fun _ => St κ it p pend g) (t:=(lo,hi)) e (fun x t b t' hs R hR => ?_) ?_)
      · unfold bisS at hs
        split at hs
        · rename_i hge
          cases hs
          exact h1 x t.1 t.2 R hge hR
        · rename_i hge
          split at hs
          · cases hs
          · rename_i hb
            cases hs
            exact h2 x t.1 t.2 true R hge hb hR
          · rename_i hb
            cases hs
            exact h2 x t.1 t.2 false R hge hb hR
      · show wpS _ _ _ _ (K (none,lo',k)) _ _
        rw [h3]
        exact wpS_pure q
    cases right with
    | true =>
      simp only [if_true] at h ⊢
      split at h
      · cases h
      · rename_i l o e1
        refine wpS_bind (wpS_iterR (T:=Nat×Nat) (upS (bey N lt left key xs base) hint (n - hint)) (fun t => (none,t.1,t.2)) (fun _ => St κ it p pend g) (t:=(0,1)) e1 (fun x t b t' hs R hR => ?_) ?_)
        · unfold upS at hs
          split at hs
          · rename_i hge
            cases hs
            show wpS _ _ _ _ (if t.2 ≥ n - hint then _ else _) _ _
            rw [if_pos hge]
            exact wpS_pure hR
          · rename_i hge
            show wpS _ _ _ _ (if t.2 ≥ n - hint then _ else _) _ _
            rw [if_neg hge]
            split at hs
            · cases hs
            · rename_i hb
              cases hs
              exact wpS_bind (bey_ok hc hb (wpS_pure hR))
            · rename_i hb
              cases hs
              exact wpS_bind (bey_ok hc hb (wpS_pure hR))
        · refine bis _ _ (fun x lo hi R hge hR => ?_) (fun x lo hi c R hge hb hR => ?_) (fun _ _ => rfl) _ _ h
          · dsimp only
            rw [if_pos hge]
            exact wpS_pure hR
          · dsimp only
            rw [if_neg hge]
            refine wpS_bind (bey_ok hc hb ?_)
            cases c with
            | true => exact wpS_pure hR
            | false => exact wpS_pure hR
    | false =>
      simp only [Bool.false_eq_true,if_false] at h ⊢
      split at h
      · cases h
      · rename_i l o e1
        refine wpS_bind (wpS_iterR (T:=Nat×Nat) (dnS (bey N lt left key xs base) hint (hint + 1)) (fun t => (none,t.1,t.2)) (fun _ => St κ it p pend g) (t:=(0,1)) e1 (fun x t b t' hs R hR => ?_) ?_)
        · unfold dnS at hs
          split at hs
          · rename_i hge
            cases hs
            show wpS _ _ _ _ (if t.2 ≥ hint + 1 then _ else _) _ _
            rw [if_pos hge]
            exact wpS_pure hR
          · rename_i hge
            show wpS _ _ _ _ (if t.2 ≥ hint + 1 then _ else _) _ _
            rw [if_neg hge]
            split at hs
            · cases hs
            · rename_i hb
              cases hs
              exact wpS_bind (bey_ok hc hb (wpS_pure hR))
            · rename_i hb
              cases hs
              exact wpS_bind (bey_ok hc hb (wpS_pure hR))
        · refine bis _ _ (fun x lo hi R hge hR => ?_) (fun x lo hi c R hge hb hR => ?_) (fun _ _ => rfl) _ _ h
          · dsimp only
            rw [if_pos hge]
            exact wpS_pure hR
          · dsimp only
            rw [if_neg hge]
            refine wpS_bind (bey_ok hc hb ?_)
            cases c with
            | true => exact wpS_pure hR
            | false => exact wpS_pure hR
theorem asc_step (hc : Cm prog w A s κ it N lt) {lo n : Nat} {b : Bool} {t' : Nat} (h : ascS N lt p lo n = some (b,t')) {R : ForInStep (Option (Option Nat)×Nat)→SortSt→Prop} (hR : R (if b = true then .done (none,t') else .yield (none,t')) (St κ it p pend g)) :
    wpS (model prog w) A E s (do
      let x ← ltAt' (lo + n) (lo + n - 1)
      match x with
      | some smaller => if smaller = true then pure (ForInStep.done (none,n)) else pure (ForInStep.yield (none,n + 1))
      | _ => pure (ForInStep.done (some none,n))) R (St κ it p pend g) := by
  unfold ascS at h
  split at h
  · cases h
  · rename_i hb
    cases h
    exact wpS_bind (ltAt_ok hc hb (wpS_pure hR))
  · rename_i hb
    cases h
    exact wpS_bind (ltAt_ok hc hb (wpS_pure hR))
theorem count_ok (hc : Cm prog w A s κ it N lt) {lo nrem m : Nat} {p' : Array Nat} (h : countT N lt p lo nrem = some (m,p')) {Q : Option Nat→SortSt→Prop} (q : Q (some m) (St κ it p' pend g)) : wpS (model prog w) A E s (countRun' lo nrem) Q (St κ it p pend g) := by
  unfold countT at h
  split at h
  · cases h
  · rename_i n e1
    refine wpS_bind (wpS_iterR (T:=Nat) (ascS N lt p lo) (fun t => (none,t)) (fun _ => St κ it p pend g) e1 (fun x t b t' hs R hR => asc_step hc hs hR) ?_)
    dsimp only
    split at h
    · rename_i hn
      cases h
      rw [if_pos hn]
      exact wpS_pure q
    · rename_i hn
      rw [if_neg hn]
      split at h
      · rename_i hn1
        rw [if_pos hn1]
        split at h
        · cases h
        · rename_i hb
          cases h
          exact wpS_bind (ltAt_ok hc hb (wpS_pure q))
        · rename_i hb
          refine wpS_bind (ltAt_ok hc hb ?_)
          dsimp only
          rw [if_neg (by decide)]
          refine wpS_bind (turn_ok ?_)
          obtain ⟨p1,hp1⟩ : ∃ p1,p1 = turn p lo (lo + n):=⟨_,rfl⟩
          rw [← hp1] at h ⊢
          refine wpS_bind (wpS_lift (wpAny_rule ⟨rfl,?_⟩))
          unfold fallT at h
          split at h
          · cases h
          · rename_i p2 n2 q2 e2
            refine wpS_bind (wpS_iterR (T:=Array Nat×Nat×Nat) (descS N lt lo) (fun t => (none,t.2)) (fun t => St κ it t.1 pend g) (t:=(p1,n + 1,0)) e2 (fun x t b t' hs R hR => ?_) ?_)
            · unfold descS at hs
              split at hs
              · cases hs
              · rename_i hb
                cases hs
                refine wpS_bind (ltAt_ok hc hb ?_)
                dsimp only at hR ⊢
                rw [if_pos rfl]
                by_cases hq : t.2.2 > 0
                · rw [if_pos hq] at hR ⊢
                  exact wpS_bind (turn_ok (wpS_pure hR))
                · rw [if_neg hq] at hR ⊢
                  exact wpS_pure hR
              · rename_i hb
                refine wpS_bind (ltAt_ok hc hb ?_)
                dsimp only
                rw [if_neg (by decide)]
                split at hs
                · cases hs
                · rename_i hb2
                  cases hs
                  exact wpS_bind (ltAt_ok hc hb2 (wpS_pure hR))
                · rename_i hb2
                  cases hs
                  exact wpS_bind (ltAt_ok hc hb2 (wpS_pure hR))
            · dsimp only at h ⊢
              obtain ⟨p3,hp3⟩ : ∃ p3,p3 = turn (if q2 > 0 then turn p2 (lo + n2 - (q2 + 1)) (lo + n2) else p2) lo (lo + n2):=⟨_,rfl⟩
              rw [← hp3] at h
              cases e3 : iter (ascS N lt p3 lo) (nrem - n2) n2 with
              | none => rw [e3] at h; cases h
              | some m' =>
                rw [e3] at h
                obtain ⟨rfl,h4⟩ : m' = m∧p3 = p' := by simpa using h
                rw [← h4] at q
                by_cases hq : q2 > 0
                · rw [if_pos hq] at hp3 ⊢
                  refine wpS_bind (turn_ok (wpS_bind (turn_ok ?_)))
                  rw [← hp3]
                  exact wpS_bind (wpS_iterR (T:=Nat) (ascS N lt p3 lo) (fun t => (none,t)) (fun _ => St κ it p3 pend g) e3 (fun x t b t' hs R hR => asc_step hc hs hR) (wpS_pure q))
                · rw [if_neg hq] at hp3 ⊢
                  refine wpS_bind (turn_ok ?_)
                  rw [← hp3]
                  exact wpS_bind (wpS_iterR (T:=Nat) (ascS N lt p3 lo) (fun t => (none,t)) (fun _ => St κ it p3 pend g) e3 (fun x t b t' hs R hR => asc_step hc hs hR) (wpS_pure q))
      · rename_i hn1
        rw [if_neg hn1]
        refine wpS_bind (wpS_lift (wpAny_rule ⟨rfl,?_⟩))
        unfold fallT at h
        split at h
        · cases h
        · rename_i p2 n2 q2 e2
          refine wpS_bind (wpS_iterR (T:=Array Nat×Nat×Nat) (descS N lt lo) (fun t => (none,t.2)) (fun t => St κ it t.1 pend g) (t:=(p,n + 1,0)) e2 (fun x t b t' hs R hR => ?_) ?_)
          · unfold descS at hs
            split at hs
            · cases hs
            · rename_i hb
              cases hs
              refine wpS_bind (ltAt_ok hc hb ?_)
              dsimp only at hR ⊢
              rw [if_pos rfl]
              by_cases hq : t.2.2 > 0
              · rw [if_pos hq] at hR ⊢
                exact wpS_bind (turn_ok (wpS_pure hR))
              · rw [if_neg hq] at hR ⊢
                exact wpS_pure hR
            · rename_i hb
              refine wpS_bind (ltAt_ok hc hb ?_)
              dsimp only
              rw [if_neg (by decide)]
              split at hs
              · cases hs
              · rename_i hb2
                cases hs
                exact wpS_bind (ltAt_ok hc hb2 (wpS_pure hR))
              · rename_i hb2
                cases hs
                exact wpS_bind (ltAt_ok hc hb2 (wpS_pure hR))
          · dsimp only at h ⊢
            obtain ⟨p3,hp3⟩ : ∃ p3,p3 = turn (if q2 > 0 then turn p2 (lo + n2 - (q2 + 1)) (lo + n2) else p2) lo (lo + n2):=⟨_,rfl⟩
            rw [← hp3] at h
            cases e3 : iter (ascS N lt p3 lo) (nrem - n2) n2 with
            | none => rw [e3] at h; cases h
            | some m' =>
              rw [e3] at h
              obtain ⟨rfl,h4⟩ : m' = m∧p3 = p' := by simpa using h
              rw [← h4] at q
              by_cases hq : q2 > 0
              · rw [if_pos hq] at hp3 ⊢
                refine wpS_bind (turn_ok (wpS_bind (turn_ok ?_)))
                rw [← hp3]
                exact wpS_bind (wpS_iterR (T:=Nat) (ascS N lt p3 lo) (fun t => (none,t)) (fun _ => St κ it p3 pend g) e3 (fun x t b t' hs R hR => asc_step hc hs hR) (wpS_pure q))
              · rw [if_neg hq] at hp3 ⊢
                refine wpS_bind (turn_ok ?_)
                rw [← hp3]
                exact wpS_bind (wpS_iterR (T:=Nat) (ascS N lt p3 lo) (fun t => (none,t)) (fun _ => St κ it p3 pend g) e3 (fun x t b t' hs R hR => asc_step hc hs hR) (wpS_pure q))
theorem bin_loop {R : Option Bool×Unit→SortSt→Prop} {body : Nat→Option Bool×Unit→StateT SortSt Sem (ForInStep (Option Bool×Unit))} {lo : Nat} {p' : Array Nat} (hR : R (none,()) (St κ it p' pend g))
    (hb : ∀ (k : Nat) (p : Array Nat) (t : Nat×Nat),iter (placeS N lt p lo k) k (0,k) = some t→∀ R' : ForInStep (Option Bool×Unit)→SortSt→Prop,R' (.yield (none,())) (St κ it (bubble p (lo + k) (lo + k - (lo + t.1))) pend g)→wpS (model prog w) A E s (body k (none,())) R' (St κ it p pend g)) :
    ∀ (f k : Nat) (p : Array Nat),binT N lt lo f k p = some p'→wpS (model prog w) A E s (forIn (List.range' k f 1) (none,()) body) R (St κ it p pend g)
  | 0,k,p,h => by
    cases h
    exact wpS_pure hR
  | f + 1,k,p,h => by
    rw [List.range'_succ,List.forIn_cons]
    rw [binT] at h
    split at h
    · cases h
    · rename_i l r e
      exact wpS_bind (hb k p _ e _ (bin_loop hR hb f (k + 1) _ h))
theorem bin_ok (hc : Cm prog w A s κ it N lt) {lo n ok : Nat} {p' : Array Nat} (h : binT N lt lo (n - max ok 1) (max ok 1) p = some p') {Q : Bool→SortSt→Prop} (q : Q true (St κ it p' pend g)) : wpS (model prog w) A E s (binarySort' lo n ok) Q (St κ it p pend g) := by
  refine wpS_bind ?_
  rw [Std.Legacy.Range.forIn_eq_forIn_range']
  have hsz : ([max ok 1:n] : Std.Legacy.Range).size = n - max ok 1 := by simp [Std.Legacy.Range.size]
  show wpS _ _ _ _ (forIn (List.range' (max ok 1) ([max ok 1:n] : Std.Legacy.Range).size 1) _ _) _ _
  rw [hsz]
  refine bin_loop (N:=N) (lt:=lt) (lo:=lo) (wpS_pure q) (fun k p2 t e R' hR' => ?_) _ _ _ h
  refine wpS_bind (wpS_iterR (T:=Nat×Nat) (placeS N lt p2 lo k) (fun t => (none,t.1,t.2)) (fun _ => St κ it p2 pend g) (t:=(0,k)) e (fun x t b t' hs R hR => ?_) ?_)
  · unfold placeS at hs
    split at hs
    · rename_i hge
      cases hs
      dsimp only
      rw [if_pos hge]
      exact wpS_pure hR
    · rename_i hge
      dsimp only
      rw [if_neg hge]
      split at hs
      · cases hs
      · rename_i hb
        cases hs
        exact wpS_bind (ltAt_ok hc hb (wpS_pure hR))
      · rename_i hb
        cases hs
        exact wpS_bind (ltAt_ok hc hb (wpS_pure hR))
  · exact wpS_bind (move_ok (wpS_pure hR'))
section pure
end pure
theorem wpS_pos {M : Model} {σ α : Type} {c : Prop} [Decidable c] {x y : StateT σ Sem α} {Q : α→σ→Prop} {st : σ} (h : c) (k : wpS M A E s x Q st) : wpS M A E s (if c then x else y) Q st := by rw [if_pos h]; exact k
theorem wpS_neg {M : Model} {σ α : Type} {c : Prop} [Decidable c] {x y : StateT σ Sem α} {Q : α→σ→Prop} {st : σ} (h : ¬ c) (k : wpS M A E s y Q st) : wpS M A E s (if c then x else y) Q st := by rw [if_neg h]; exact k
def putT (p : Array Nat) (at_ : Nat) (m : Array Nat) : Array Nat:=m.toList.zipIdx.foldl (fun a x => a.setIfInBounds (at_ + x.2) x.1) p
section pure
end pure
theorem put_map (p : Array Nat) (at_ : Nat) (m : Array Nat) : (m.map it).toList.zipIdx.foldl (fun a (x : Keyed×Nat) => a.setIfInBounds (at_ + x.2) x.1) (p.map it) = (putT p at_ m).map it := by
  unfold putT
  rw [Array.toList_map]
  have key : ∀ (l : List Nat) (k : Nat) (p : Array Nat),((l.map it).zipIdx k).foldl (fun a (x : Keyed×Nat) => a.setIfInBounds (at_ + x.2) x.1) (p.map it) = ((l.zipIdx k).foldl (fun a x => a.setIfInBounds (at_ + x.2) x.1) p).map it := by
    intro l
    induction l with
    | nil => intro k p; rfl
    | cons x l ih =>
      intro k p
      rw [List.map_cons,List.zipIdx_cons,List.zipIdx_cons,List.foldl_cons,List.foldl_cons,← ih]
      congr 1
      simp
  exact key _ 0 p
theorem wpS_set {M : Model} {σ : Type} {Q : PUnit→σ→Prop} {st st' : σ} (h : Q ⟨⟩ st') : wpS M A E s (set st' : StateT σ Sem PUnit) Q st := by
  unfold wpS; rw [StateT.run_set]; exact wpAny_pure ⟨rfl,h⟩
end
end Tim
set_option maxHeartbeats 0
set_option maxHeartbeats 4000000
namespace L2
open PySem PySem.Spec PyProof.Rows
section
variable {κ : Type} [DecidableEq κ]
def valV (kvs : List (κ×V)) (k : κ) : Option V:=(kvs.find? fun kv => decide (kv.1 = k)).map (·.2)
def putK (kvs : List (κ×V)) (k : κ) (v : V) : List (κ×V) :=
  if (kvs.any fun kv => decide (kv.1 = k)) = true then kvs.map (fun kv => if kv.1 = k then (kv.1,v) else kv) else kvs ++ [(k,v)]
theorem valV_pos {p : κ×V} {r : List (κ×V)} {k : κ} (e : p.1 = k) : valV (p :: r) k = some p.2 := by simp [valV,List.find?_cons,e]
theorem valV_neg {p : κ×V} {r : List (κ×V)} {k : κ} (e : ¬ p.1 = k) : valV (p :: r) k = valV r k := by simp [valV,List.find?_cons,e]
theorem valV_any (k : κ) : ∀ kvs : List (κ×V),(kvs.any fun kv => decide (kv.1 = k)) = (valV kvs k).isSome
  | [] => rfl
  | p :: r => by
    rw [List.any_cons]
    by_cases e : p.1 = k
    · simp only [valV_pos e,decide_eq_true e,Bool.true_or,Option.isSome_some]
    · rw [valV_neg e,decide_eq_false e,Bool.false_or]; exact valV_any k r
theorem valV_map (k j : κ) (y : V) : ∀ kvs : List (κ×V),valV (kvs.map fun kv => if kv.1 = k then (kv.1,y) else kv) j = (valV kvs j).map fun x => if j = k then y else x
  | [] => rfl
  | p :: r => by
    have ih:=valV_map k j y r
    rw [List.map_cons]
    by_cases h : p.1 = k
    · rw [if_pos h]
      by_cases e : p.1 = j
      · rw [valV_pos (p:=(p.1,y)) e,valV_pos e,Option.map_some,if_pos (e.symm.trans h)]
      · rw [valV_neg (p:=(p.1,y)) e,valV_neg e,ih]
    · rw [if_neg h]
      by_cases e : p.1 = j
      · rw [valV_pos (p:=p) e,valV_pos e,Option.map_some,if_neg (fun z => h (e.trans z))]
      · rw [valV_neg (p:=p) e,valV_neg e,ih]
theorem valV_snoc (k j : κ) (y : V) : ∀ kvs : List (κ×V),valV kvs k = none→valV (kvs ++ [(k,y)]) j = if j = k then some y else valV kvs j
  | [],_ => by
    by_cases e : k = j
    · rw [if_pos e.symm]; exact valV_pos (p:=(k,y)) e
    · rw [if_neg (fun z => e z.symm)]; exact valV_neg (p:=(k,y)) e
  | p :: r,hn => by
    rw [List.cons_append]
    have hk : ¬ p.1 = k:=fun z => by rw [valV_pos z] at hn; cases hn
    rw [valV_neg hk] at hn
    have ih:=valV_snoc k j y r hn
    by_cases e : p.1 = j
    · rw [valV_pos e,valV_pos e,if_neg (fun z => hk (e.trans z))]
    · rw [valV_neg e,valV_neg e,ih]
theorem valV_put (kvs : List (κ×V)) (k j : κ) (y : V) : valV (putK kvs k y) j = if j = k then some y else valV kvs j := by
  unfold putK
  by_cases a : (kvs.any fun kv => decide (kv.1 = k)) = true
  · rw [if_pos a,valV_map]
    rw [valV_any] at a
    by_cases e : j = k
    · obtain ⟨x,hx⟩:=Option.isSome_iff_exists.mp a
      rw [if_pos e,e,hx,Option.map_some,if_pos rfl]
    · rw [if_neg e]
      cases valV kvs j with
      | none => rfl
      | some x => rw [Option.map_some,if_neg e]
  · rw [if_neg a]
    refine valV_snoc k j y kvs ?_
    rw [valV_any] at a
    cases q : valV kvs k with
    | none => rfl
    | some x => rw [q] at a; exact (a rfl).elim
theorem length_putK (kvs : List (κ×V)) (k : κ) (v : V) : (putK kvs k v).length≤kvs.length + 1 := by
  unfold putK
  split
  · rw [List.length_map]; omega
  · rw [List.length_append,List.length_cons,List.length_nil]; omega
theorem putK_new {kvs : List (κ×V)} {k : κ} (v : V) (h : valV kvs k = none) : putK kvs k v = kvs ++ [(k,v)] := by
  unfold putK
  rw [valV_any,h]
  exact if_neg (by decide)
theorem RelO.isSome_eq {o : Option V} {u : Option Value} (r : RelO o u) : o.isSome = u.isSome := by
  cases o with
  | none => cases u with
    | none => rfl
    | some _ => exact (show False from r).elim
  | some _ => cases u with
    | none => exact (show False from r).elim
    | some _ => rfl
theorem KV.val {kvs : List (κ×V)} {vs : List (κ×Value)} (r : KV kvs vs) (k : κ) : RelO (valV kvs k) (valueAt vs k) := by
  unfold KV at r
  induction r with
  | nil => exact True.intro
  | @cons p q ps qs h t ih =>
    obtain ⟨h1,h2⟩:=h
    by_cases e : p.1 = k
    · have e' : q.1 = k:=h1.symm.trans e
      have b : valueAt (q :: qs) k = some q.2 := by simp [valueAt,List.find?_cons,e']
      rw [valV_pos e,b]; exact h2
    · have e' : ¬ q.1 = k:=fun z => e (h1.trans z)
      have b : valueAt (q :: qs) k = valueAt qs k := by simp [valueAt,List.find?_cons,e']
      rw [valV_neg e,b]; exact ih
theorem KV.any {kvs : List (κ×V)} {vs : List (κ×Value)} (r : KV kvs vs) (k : κ) : (kvs.any fun kv => decide (kv.1 = k)) = vs.any fun kv => decide (kv.1 = k) := by
  unfold KV at r
  induction r with
  | nil => rfl
  | cons h t ih => rw [List.any_cons,List.any_cons,ih,h.1]
theorem KV.repl {kvs : List (κ×V)} {vs : List (κ×Value)} (r : KV kvs vs) (k : κ) {y : V} {u : Value} (ry : RelV y u) :
    KV (kvs.map fun kv => if kv.1 = k then (kv.1,y) else kv) (vs.map fun kv => if kv.1 = k then (kv.1,u) else kv) := by
  unfold KV at r ⊢
  induction r with
  | nil => exact .nil
  | @cons p q ps qs h t ih =>
    rw [List.map_cons,List.map_cons]
    refine .cons ?_ ih
    obtain ⟨h1,h2⟩:=h
    by_cases e : p.1 = k
    · rw [if_pos e,if_pos (h1.symm.trans e)]; exact ⟨h1,ry⟩
    · rw [if_neg e,if_neg (fun z => e (h1.trans z))]; exact ⟨h1,h2⟩
theorem KV.put {kvs : List (κ×V)} {vs : List (κ×Value)} (r : KV kvs vs) (k : κ) {y : V} {u : Value} (ry : RelV y u) : KV (putK kvs k y) (stored vs k u) := by
  unfold putK stored
  rw [r.any k]
  by_cases e : (vs.any fun kv => decide (kv.1 = k)) = true
  · rw [if_pos e,if_pos e]; exact r.repl k ry
  · rw [if_neg e,if_neg e]; exact Paired.snoc r ⟨rfl,ry⟩
theorem KV.length {kvs : List (κ×V)} {vs : List (κ×Value)} (r : KV kvs vs) : kvs.length = vs.length:=Paired.length r
end
theorem kV_is {P : Program} {w : World} {k : Key} {u : Value} (r : RelV (kV k) u) : (mixKind P w).is k u = true := by
  cases k with
  | inl i => obtain ⟨t,e⟩:=(show ∃ t,u = Value.int i t from r); subst e; exact mixKind_int P w i t
  | inr x => obtain ⟨t,e⟩:=(show ∃ t,u = Value.str x t from r); subst e; exact mixKind_str P w x t
theorem items_are {P : Program} {w : World} : ∀ {ks : List Key} {us : List Value},Vals (ks.map kV) us→ItemsAre (mixKind P w) ks us
  | [],_,r => by rw [List.map_nil] at r; cases r; exact .nil
  | k :: ks,_,r => by
    rw [List.map_cons] at r
    cases r with
    | cons h t => exact .cons (kV_is h) (items_are t)
abbrev KT (H : Hp) : List (List Key×V)→List (List Key×Addr×Value)→Prop:=Paired fun p q => p.1 = q.1∧H q.2.1 = some (.tup (p.1.map kV))∧RelV p.2 q.2.2
theorem KT.val {H : Hp} {kvs : List (List Key×V)} {xs : List (List Key×Addr×Value)} (r : KT H kvs xs) (k : List Key) : RelO (valV kvs k) ((atKey xs k).map (·.2)) := by
  induction r with
  | nil => exact True.intro
  | @cons p q ps qs h t ih =>
    obtain ⟨h1,_,h2⟩:=h
    by_cases e : p.1 = k
    · have e' : q.1 = k:=h1.symm.trans e
      have b : atKey (q :: qs) k = some q.2 := by simp [atKey,List.find?_cons,e']
      rw [valV_pos e,b]; exact h2
    · have e' : ¬ q.1 = k:=fun z => e (h1.trans z)
      have b : atKey (q :: qs) k = atKey qs k := by simp [atKey,List.find?_cons,e']
      rw [valV_neg e,b]; exact ih
theorem KT.repl {H : Hp} {kvs : List (List Key×V)} {xs : List (List Key×Addr×Value)} (r : KT H kvs xs) (k : List Key) {y : V} {u : Value} (ry : RelV y u) :
    KT H (kvs.map fun kv => if kv.1 = k then (kv.1,y) else kv) (xs.map (putAt k u)) := by
  induction r with
  | nil => exact .nil
  | @cons p q ps qs h t ih =>
    rw [List.map_cons,List.map_cons]
    refine .cons ?_ ih
    obtain ⟨h1,h2,h3⟩:=h
    unfold putAt
    by_cases e : p.1 = k
    · rw [if_pos e,if_pos (h1.symm.trans e)]; exact ⟨h1,h2,ry⟩
    · rw [if_neg e,if_neg (fun z => e (h1.trans z))]; exact ⟨h1,h2,h3⟩
theorem KT.put {H : Hp} {kvs : List (List Key×V)} {xs : List (List Key×Addr×Value)} (r : KT H kvs xs) (k : List Key) {b : Addr} {y : V} {u : Value} (hb : H b = some (.tup (k.map kV))) (ry : RelV y u) :
    KT H (putK kvs k y) (storedH xs k b u) := by
  have e : (kvs.any fun kv => decide (kv.1 = k)) = (atKey xs k).isSome := by
    rw [valV_any,(r.val k).isSome_eq,Option.isSome_map]
  unfold putK storedH
  rw [e]
  by_cases q : (atKey xs k).isSome = true
  · rw [if_pos q,if_pos q]; exact r.repl k ry
  · rw [if_neg q,if_neg q]; exact Paired.snoc r ⟨rfl,hb,ry⟩
theorem KT.keeps {H H' : Hp} {kvs : List (List Key×V)} {xs : List (List Key×Addr×Value)} (r : KT H kvs xs) (ht : ∀ b ys,H b = some (.tup ys)→H' b = some (.tup ys)) : KT H' kvs xs :=
  Paired.mapP r fun _ _ z => ⟨z.1,ht _ _ z.2.1,z.2.2⟩
section
variable {P : Program} {w : World} {H : Hp} {h : Heap} {a : Addr}
theorem rd_of {u : HO} (ok : HOk P w H h) (e : Rd H a u) : ObjOk P w H h a u:=e.ok ok
theorem dk_rd {kvs : List (Key×V)} (ok : HOk P w H h) (e : Rd H a (.dK kvs)) : kvs.length≤sizeLine∧(a == sysModules) = false∧∃ vs,KV kvs vs∧h.DictOf (mixKind P w) a vs :=
  show ObjOk P w H h a (.dK kvs) from rd_of ok e
theorem dk_of {kvs : List (Key×V)} (ok : HOk P w H h) (e : H a = some (.dK kvs)) : kvs.length≤sizeLine∧(a == sysModules) = false∧∃ vs,KV kvs vs∧h.DictOf (mixKind P w) a vs:=dk_rd ok (.inl e)
theorem key_of {ks : List Key} (ok : HOk P w H h) (e : H a = some (.tup (ks.map kV))) : (tupleKind (mixKind P w)).is h ks a := by
  obtain ⟨_,its,r,o,h1,h2,n,h3⟩:=(show ObjOk P w H h a (.tup (ks.map kV)) from ok a _ e)
  exact ⟨o,its.toArray,n,h1,h2,h3,by simpa using items_are r⟩
theorem dt_rd {kvs : List (List Key×V)} (ok : HOk P w H h) (e : Rd H a (.dT kvs)) : kvs.length≤sizeLine∧(a == sysModules) = false ∧
    ∃ xs,KT H kvs xs∧h.DictOfH (tupleKind (mixKind P w)) a xs := by
  obtain ⟨z,y,xs,r,o,es,ep,h1,h2,h3,h4,h5⟩:=(show ObjOk P w H h a (.dT kvs) from rd_of ok e)
  refine ⟨z,y,xs,r,o,es,ep,h1,h2,h3,h4,fun x hx => ?_,h5⟩
  have all : ∀ {l : List (List Key×V)} {m : List (List Key×Addr×Value)},KT H l m→∀ x∈m,(tupleKind (mixKind P w)).is h x.1 x.2.1 := by
    intro l m q
    induction q with
    | nil => intro x hx; exact nomatch hx
    | @cons p q ps qs hq t ih =>
      intro x hx
      rcases List.mem_cons.mp hx with e | hx
      · subst e
        exact key_of ok (by rw [← hq.1]; exact hq.2.1)
      · exact ih x hx
  exact all r x hx
theorem dt_of {kvs : List (List Key×V)} (ok : HOk P w H h) (e : H a = some (.dT kvs)) : kvs.length≤sizeLine∧(a == sysModules) = false ∧
    ∃ xs,KT H kvs xs∧h.DictOfH (tupleKind (mixKind P w)) a xs:=dt_rd ok (.inl e)
end
def DGet (H : Hp) (a : Addr) (y : V) (r : Option V) : Prop :=
  (∃ kvs k,Rd H a (.dK kvs)∧y = kV k∧r = valV kvs k)∨∃ kvs k b,Rd H a (.dT kvs)∧y = .ref b∧H b = some (.tup (k.map kV))∧r = valV kvs k
def DPut (H : Hp) (a : Addr) (y v : V) (H' : Hp) : Prop :=
  (∃ kvs k,H a = some (.dK kvs)∧y = kV k∧kvs.length < sizeLine∧H' = upd H a (.dK (putK kvs k v))) ∨
  ∃ kvs k b,H a = some (.dT kvs)∧y = .ref b∧H b = some (.tup (k.map kV))∧kvs.length < sizeLine∧H' = upd H a (.dT (putK kvs k v))
theorem DGet.k {H : Hp} {a : Addr} {kvs : List (Key×V)} {k : Key} (e : H a = some (.dK kvs)) : DGet H a (kV k) (valV kvs k):=.inl ⟨kvs,k,.inl e,rfl,rfl⟩
theorem DPut.k {H : Hp} {a : Addr} {kvs : List (Key×V)} {k : Key} {v : V} (e : H a = some (.dK kvs)) (hl : kvs.length < sizeLine) : DPut H a (kV k) v (upd H a (.dK (putK kvs k v))):=.inl ⟨kvs,k,e,rfl,hl,rfl⟩
section
variable {X : Cx} {pins : List (Addr×Obj)} {σ : St} {H : Hp} {s : Shared} {a : Addr} {y v : V} {u r : Value} {o : Option V} {A : Around} {E : Value→Shared→Prop}
theorem Inv.big (I : Inv X pins σ H s) : sysModules < s.heap.objs.size := by
  have h : mainGlobals < s.heap.objs.size:=(I.mod.glob.keeps I.bk).lt
  exact Nat.lt_trans (by decide) h
theorem d_getItem {Q : Value→Shared→Prop} (hu : A.units + 1 < cLine) (I : Inv X pins σ H s) (g : DGet H a y (some v)) (ry : RelV y u) (h : ∀ w' s',Inv X pins σ H s'→RelV v w'→Q w' s') :
    wpAny (model X.prog X.w) A (getItem (.ref a) u) Q E s := by
  rcases g with ⟨kvs,k,e,ey,l⟩ | ⟨kvs,k,b,e,ey,eb,l⟩
  · subst ey
    obtain ⟨z,hd,vs,rel,dd⟩:=dk_rd I.hok e
    obtain ⟨w',hw,rw'⟩:=RelO.some_of (v:=v) (o:=valueAt vs k) (by rw [l]; exact rel.val k)
    exact wpAny_getItem_of (kV_is ry) dd.mapOf hw (h w' _ (I.tok _) rw')
  · subst ey
    cases (show u = Value.ref b from ry)
    obtain ⟨z,hd,xs,rel,dd⟩:=dt_rd I.hok e
    obtain ⟨w',hw,rw'⟩:=RelO.some_of (v:=v) (o:=(atKey xs k).map (·.2)) (by rw [l]; exact rel.val k)
    obtain ⟨p,hp,hp2⟩:=Option.map_eq_some_iff.mp hw
    refine wpAny_getItem_heap (tupleKind_room_in1 hu) (key_of I.hok eb) dd hp ?_
    rw [hp2]
    exact h w' _ (I.tok _) rw'
theorem d_write {h' : Heap} {t' : Nat} {ob : HO} (I : Inv X pins σ H s) (mu : Mut (H a)) (hs : Heap.SameBut a s.heap h') (he : ∃ q,h'.get? a = some q) (new : ObjOk X.prog X.w (upd H a ob) h' a ob) :
    Inv X pins σ (upd H a ob) { s with heap:=h',toks:=t' } :=
  I.write (x:=a) (e:=a) mu (.inl rfl) (fun b q hb z => (hs.2 b hb).trans z) he new
theorem dk_new {P : Program} {w : World} {H' : Hp} {h' : Heap} {kvs : List (Key×V)} {vs : List (Key×Value)} (z : kvs.length≤sizeLine) (hd : (a == sysModules) = false) (rel : KV kvs vs) (dd : h'.DictOf (mixKind P w) a vs) :
    ObjOk P w H' h' a (.dK kvs):=⟨z,hd,vs,rel,dd⟩
theorem d_setItem {H' : Hp} {Q : Unit→Shared→Prop} (hu : A.units + 1 < cLine) (I : Inv X pins σ H s) (g : DPut H a y v H') (ry : RelV y u) (rv : RelV v r) (h : ∀ s',Inv X pins σ H' s'→Q () s') :
    wpAny (model X.prog X.w) A (setItem (.ref a) u r) Q E s := by
  rcases g with ⟨kvs,k,e,ey,l,eH⟩ | ⟨kvs,k,b,e,ey,eb,l,eH⟩
  · subst ey eH
    obtain ⟨z,hd,vs,rel,dd⟩:=dk_of I.hok e
    have hz : vs.length≤sizeLine := by rw [← rel.length]; exact z
    have hl : (putK kvs k v).length≤sizeLine := by have:=length_putK kvs k v; omega
    refine wpAny_setItem_pairs (hsz:=hz) (kV_is ry) dd fun h' dd' hs => h _ ?_
    have he : ∃ q,h'.get? a = some q:=let ⟨q,_,_,hq,_⟩:=dd'; ⟨q,hq⟩
    exact d_write I (by rw [e]; exact True.intro) hs he (dk_new hl hd (rel.put k rv) dd')
  · subst ey eH
    cases (show u = Value.ref b from ry)
    obtain ⟨z,hd,xs,rel,dd⟩:=dt_of I.hok e
    have hz : xs.length≤sizeLine := by rw [← Paired.length rel]; exact z
    have hl : (putK kvs k v).length≤sizeLine := by have:=length_putK kvs k v; omega
    refine wpAny_setItem_heap (hsz:=hz) (tupleKind_room_in1 hu) (key_of I.hok eb) dd fun h' dd' hs => h _ ?_
    obtain ⟨q,es,ep,hq,h2,h3,h4,_,h5⟩:=dd'
    refine d_write I (by rw [e]; exact True.intro) hs ⟨q,hq⟩ ⟨hl,hd,_,(rel.put k eb rv).keeps fun c ys ec => ?_,q,es,ep,hq,h2,h3,h4,h5⟩
    rw [upd_ne (ne_of ec e (fun z => nomatch z))]
    exact ec
end
def NoSl (i : Expr) : Prop:=∀ ov iv,subscripted i false ov iv = operate [ov,iv] (getItem ov iv)
theorem subD_of {prog : Program} {w : World} {A : Around} {E : Value→Shared→Prop} {s : Shared} {env : Env} {value slice : Expr} {pos : Pos} {T id : String} {Q : Value→Shared→Prop}
    (hl : typeLookup (.type T) "__getitem__" = pure (some (.builtin id))) (hs : NoSl slice)
    (h : wpAny (model prog w) A (eval value env) (fun o s₁ => wpAny (model prog w) A (eval slice env) (fun i s₂ => s₂.TypeIs o T∧wpAny (model prog w) A (getItem o i) Q E s₂) E s₁) E s) :
    wpAny (model prog w) A (eval (.Subscript value slice pos) env) Q E s := by
  refine Subscript_ (wpAny_mono h (fun o s₁ h₁ => wpAny_mono h₁ (fun i s₂ h₂ => ?_) fun _ _ x => x) fun _ _ x => x)
  obtain ⟨hT,h₂⟩:=h₂
  unfold subscriptTail
  refine wpAny_bind ?_
  rw [getitemInPython_of_ne hT.not_modules]
  refine wpAny_bind (wpAny_specialOf hT hl ?_)
  have fin : wpAny (model prog w) A (subscripted slice false o i) (fun r s₃ => wpAny (model prog w) A (letTemporaryGo value o r >>= fun _ => pure r) Q E s₃) E s₂ := by
    rw [hs o i]
    exact wpAny_operating (wpAny_mono h₂ (fun r s₃ h₃ => wpAny_bind (wpAny_letTemporaryGo (wpAny_pure h₃))) fun _ _ x => x)
  first
    | exact wpAny_pure (wpAny_bind fin)
    | exact wpAny_bind (wpAny_pure (wpAny_bind fin))
    | exact wpAny_bind fin
theorem dict_typeIs {X : Cx} {pins : List (Addr×Obj)} {σ : St} {H : Hp} {s : Shared} {a : Addr} {y : V} {o : Option V} (I : Inv X pins σ H s) (g : DGet H a y o) : s.TypeIs (.ref a) "dict" := by
  rcases g with ⟨kvs,k,e,_,_⟩ | ⟨kvs,k,b,e,_,_,_⟩
  · obtain ⟨_,_,vs,_,dd⟩:=dk_rd I.hok e
    exact dd.typeIs
  · obtain ⟨_,_,xs,_,dd⟩:=dt_rd I.hok e
    exact dd.typeIs
def tDGet (td ty : TE) : TE:=fun σ H Q => td σ H fun x H1 => ty σ H1 fun y H2 => ∃ a v,x = .ref a∧DGet H2 a y (some v)∧Q v H2
def sDPut (td ty tv : TE) : TS:=fun D σ H => tv σ H fun v H1 => td σ H1 fun x H2 => ty σ H2 fun y H3 => ∃ a H4,x = .ref a∧DPut H3 a y v H4∧D.nx σ H4
section
variable {X : Cx} {o i value : Expr} {pos pos' : Pos} {td ty tv : TE}
theorem pe_dget (hu : X.A.units + 1 < cLine) (ho : PE X o td) (hi : PE X i ty) (hs : NoSl i) : PE X (.Subscript o i pos) (tDGet td ty) := by
  intro pins s σ H Q I h
  refine subD_of PySem.F.slot_dict_getitem.lookup hs (thn (ho pins s σ H _ I h) fun u s1 ⟨x,H1,I1,rx,q1⟩ => thn (hi pins s1 σ H1 _ I1 q1) fun iv s2 ⟨y,H2,I2,ry,a,v,ex,g,q2⟩ => ?_)
  subst ex
  obtain rfl : u = Value.ref a:=rx
  exact ⟨dict_typeIs I2 g,d_getItem hu I2 g ry fun w' s3 I3 rw' => ⟨v,H2,I3,rw',q2⟩⟩
theorem ps_dput (hu : X.A.units + 1 < cLine) (ho : PE X o td) (hi : PE X i ty) (hv : PE X value tv) (hs : swapsWith value (some (.Subscript o i pos')) pos.line X.env = pure false) :
    PS X (.Assign [.Subscript o i pos'] value pos) (sDPut td ty tv) := by
  intro pins s σ H D I h
  refine wpAny_Assign_Subscript (thn (hv pins s σ H _ I h) fun r s1 ⟨v,H1,I1,rv,q1⟩ => thn (ho pins s1 σ H1 _ I1 q1) fun u s2 ⟨x,H2,I2,rx,q2⟩ => thn (hi pins s2 σ H2 _ I2 q2) fun iv s3 ⟨y,H3,I3,ry,a,H4,ex,g,q3⟩ => ?_) hs
  subst ex
  obtain rfl : u = Value.ref a:=rx
  exact d_setItem hu I3 g ry rv fun s4 I4 => ⟨σ,H4,I4,q3⟩
end
theorem dk_empty {P : Program} {w : World} {H : Hp} (h : Heap) (hb : sysModules < h.objs.size) : ObjOk P w H (h.push { cls:=.type "dict",data:=.dict #[] }) h.objs.size (.dK []) :=
  ⟨Nat.zero_le _,beq_eq_false_iff_ne.mpr (Ne.symm (Nat.ne_of_lt hb)),[],.nil,Heap.DictOf.new h⟩
def tDNewK : TE:=fun _ H Q => ∀ p,H p = none→Q (.ref p) (upd H p (.dK []))
section
variable {X : Cx} {pos : Pos}
theorem pe_dnewK : PE X (.Dict [] [] pos) tDNewK:=fun pins s σ H Q I h =>
  wpAny_Dict_empty ⟨.ref s.heap.objs.size,_,I.laid (a:=s.heap.objs.size) (o:=.dK []) (t':=s.toks) (fun _ _ q => Heap.get?_push_of_some _ q) (Nat.le_refl _) (dk_empty s.heap I.big),rfl,h _ (I.hok.fresh (Nat.le_refl _))⟩
end
end L2
namespace TH
open PySem PyProof.Rows PySem.SeqAt
def hashL : Tr→List Int
  | .nil => []
  | .cons b r => reduceHash (Builtin.Tuple.tupleHashOf (hashL b)) :: hashL r
def hashT (t : Tr) : Int:=reduceHash (Builtin.Tuple.tupleHashOf (hashL t))
section
variable {prog : Program} {w : World} {E : Value→Shared→Prop}
theorem IsTuple.ty {h : Heap} {a : Addr} {x : Array Value} {s : Shared} (e : s.heap = h) (k : h.IsTuple a x) : s.TypeIs (.ref a) "tuple" := by
  subst e
  obtain ⟨o,ho,hc,_⟩:=k
  exact ⟨o,ho,hc⟩
def HashRow (prog : Program) (w : World) (E : Value→Shared→Prop) (t : Tr) : Prop:=∀ (us : List Value) (A : Around) (s : Shared) (b : Array Int) (Q : Array Int→Shared→Prop),Vs s.heap t us→A.units + t.deep≤cLine →
  (∀ tk b',b'.toList = b.toList ++ hashL t→Q b' { s with toks:=tk })→wpAny (model prog w) A (forIn us b fun x r => do let h ← pyHash x; pure PUnit.unit; pure (ForInStep.yield (r.push h))) Q E s
theorem hash_of_row {t : Tr} (row : HashRow prog w E t) {a : Addr} {its : List Value} {A : Around} {s : Shared} {Q : Int→Shared→Prop} (h1 : s.heap.IsTuple a its.toArray) (h2 : Vs s.heap t its) (hu : A.units + t.deep < cLine)
    (h : ∀ tk,Q (hashT t) { s with toks:=tk }) : wpAny (model prog w) A (pyHash (.ref a)) Q E s := by
  have hT:=IsTuple.ty rfl h1
  obtain ⟨o,ho,hc,n,hd⟩:=id h1
  refine PySem.W.pyHash_slot (T := "tuple") hT F.slot_tuple_hash F.entry_tuple_hash (F.args_tuple_hash_1 _) (beq_builtin_none _) (.inr (by omega)) ?_
  show wpAny _ _ (Builtin.Tuple.tupleItemsOf (.ref a) >>= _) _ _ s
  refine wpAny_bind (wpAny_tupleItemsOf ho hd ?_)
  refine wpAny_bind ?_
  rw [← Array.forIn_toList]
  refine row its A.in1 s #[] _ h2 (by rw [Around.in1_units]; omega) fun tk b hb => ?_
  show wpAny _ _ (retInt (Builtin.Tuple.tupleHashOf b.toList)) _ _ _
  rw [hb]
  exact wpAny_bind (wpAny_mkInt (wpAny_pure ⟨_,_,rfl,h _⟩))
theorem hash_row : ∀ t : Tr,HashRow prog w E t
  | .nil => fun us A s b Q e _ h => by rw [Vs] at e; subst e; exact wpAny_pure (h s.toks b (by simp [hashL]))
  | .cons c r => fun us A s b Q e hu h => by
    rw [Vs] at e
    obtain ⟨a,its,rest,rfl,h1,h2,h3⟩:=e
    have hd : (Tr.cons c r).deep = max (c.deep + 1) r.deep:=rfl
    rw [List.forIn_cons]
    refine wpAny_bind (wpAny_bind (hash_of_row (hash_row c) h1 h2 (by omega) fun tk => ?_))
    refine wpAny_bind (wpAny_pure (wpAny_pure ?_))
    exact hash_row r rest A _ _ Q h3 (by omega) fun tk' b' hb => h tk' b' (by simp [hb,hashL,hashT])
theorem hash_at {t : Tr} {a : Addr} {its : List Value} {A : Around} {s : Shared} {Q : Int→Shared→Prop} (h1 : s.heap.IsTuple a its.toArray) (h2 : Vs s.heap t its) (hu : A.units + t.deep < cLine)
    (h : ∀ tk,Q (hashT t) { s with toks:=tk }) : wpAny (model prog w) A (pyHash (.ref a)) Q E s:=hash_of_row (hash_row t) h1 h2 hu h
def Good (h : Heap) (n : Nat) (v : Value) : Prop:=∃ a its t,v = .ref a∧h.IsTuple a its.toArray∧Vs h t its∧t.deep < n
theorem good_mem {h : Heap} : ∀ {t : Tr} {us : List Value} {n : Nat},Vs h t us→t.deep≤n→∀ v∈us,Good h n v
  | .nil,us,n,e,_,v,hv => by rw [Vs] at e; subst e; cases hv
  | .cons c r,us,n,e,hd,v,hv => by
    rw [Vs] at e
    obtain ⟨a,its,rest,rfl,h1,h2,h3⟩:=e
    rw [Tr.deep] at hd
    rcases List.mem_cons.mp hv with rfl | hv
    · exact ⟨a,its,c,rfl,h1,h2,by omega⟩
    · exact good_mem h3 (by omega) v hv
theorem by_value : ∀ (n : Nat) {v : Value} {A : Around} {s : Shared} {Q : Bool→Shared→Prop},Good s.heap n v→Q true s→wpAny (model prog w) A (hashByValue n v) Q E s
  | 0,v,A,s,Q,⟨_,_,_,_,_,_,z⟩,_ => absurd z (Nat.not_lt_zero _)
  | n + 1,v,A,s,Q,⟨a,its,t,e,h1,h2,hd⟩,h => by
    subst e
    have hT:=IsTuple.ty rfl h1
    obtain ⟨o,ho,hc,k,hdt⟩:=id h1
    unfold hashByValue
    refine wpAny_bind (wpAny_specialOf hT F.slot_tuple_hash.lookup ?_)
    refine wpAny_bind (wpAny_seqItems ho hdt ?_)
    refine wpAny_bind ?_
    show wpAny _ _ (forIn its.toArray _ _) _ _ s
    rw [← Array.forIn_toList]
    refine wpAny_forIn_list _ (fun rest r s' => r.1 = none∧s' = s∧∀ v∈rest,Good s.heap n v) _ ?_ ?_ _ _ ⟨rfl,rfl,good_mem h2 (by omega)⟩
    · rintro v rest r s' ⟨hr,rfl,hall⟩
      refine wpAny_bind (by_value n (hall v List.mem_cons_self) ?_)
      simp only [Bool.not_true,Bool.false_eq_true,if_false]
      exact wpAny_pure ⟨rfl,rfl,fun u hu' => hall u (List.mem_cons_of_mem _ hu')⟩
    · rintro ⟨r1,r2⟩ s' ⟨hr,rfl,_⟩
      simp only at hr
      subst hr
      exact wpAny_pure h
theorem quiet : ∀ (n : Nat) {v : Value} {A : Around} {s : Shared} {Q : Bool→Shared→Prop},Good s.heap n v→Q true s→wpAny (model prog w) A (eqIsQuiet n v) Q E s
  | 0,v,A,s,Q,⟨_,_,_,_,_,_,z⟩,_ => absurd z (Nat.not_lt_zero _)
  | n + 1,v,A,s,Q,⟨a,its,t,e,h1,h2,hd⟩,h => by
    subst e
    have hT:=IsTuple.ty rfl h1
    obtain ⟨o,ho,hc,k,hdt⟩:=id h1
    unfold eqIsQuiet
    refine wpAny_bind (wpAny_specialOf hT F.slot_tuple_eq.lookup ?_)
    show wpAny _ _ (isInstance (.ref a) (.type "tuple") >>= _) _ _ s
    refine wpAny_bind (wpAny_isInstance hT isSubtype_tuple_tuple ?_)
    simp only [Bool.not_true,Bool.false_eq_true,if_false]
    refine wpAny_bind (wpAny_seqItems ho hdt ?_)
    refine wpAny_bind ?_
    show wpAny _ _ (forIn its.toArray _ _) _ _ s
    rw [← Array.forIn_toList]
    refine wpAny_forIn_list _ (fun rest r s' => r.1 = none∧s' = s∧∀ v∈rest,Good s.heap n v) _ ?_ ?_ _ _ ⟨rfl,rfl,good_mem h2 (by omega)⟩
    · rintro v rest r s' ⟨hr,rfl,hall⟩
      refine wpAny_bind (quiet n (hall v List.mem_cons_self) ?_)
      simp only [Bool.not_true,Bool.false_eq_true,if_false]
      exact wpAny_pure ⟨rfl,rfl,fun u hu' => hall u (List.mem_cons_of_mem _ hu')⟩
    · rintro ⟨r1,r2⟩ s' ⟨hr,rfl,_⟩
      simp only at hr
      subst hr
      exact wpAny_pure h
theorem no_class : ∀ (n : Nat) {v : Value} {A : Around} {s : Shared} {Q : Bool→Shared→Prop},Good s.heap n v→Q false s→wpAny (model prog w) A (ofAClassStatement n v) Q E s
  | 0,v,A,s,Q,⟨_,_,_,_,_,_,z⟩,_ => absurd z (Nat.not_lt_zero _)
  | n + 1,v,A,s,Q,⟨a,its,t,e,h1,h2,hd⟩,h => by
    subst e
    have hT:=IsTuple.ty rfl h1
    obtain ⟨o,ho,hc,k,hdt⟩:=id h1
    unfold ofAClassStatement
    refine wpAny_bind (wpAny_typeOf hT ?_)
    have ht : ("tuple" == "tuple") = true := by rfl
    dsimp only
    rw [if_pos ht]
    refine wpAny_bind (wpAny_pure ?_)
    simp only [Bool.not_true,Bool.false_eq_true,if_false]
    refine wpAny_bind (wpAny_seqItems ho hdt ?_)
    refine wpAny_bind ?_
    rw [← Array.forIn_toList]
    refine wpAny_forIn_list _ (fun rest r s' => r.1 = none∧s' = s∧∀ v∈rest,Good s.heap n v) _ ?_ ?_ _ _ ⟨rfl,rfl,good_mem h2 (by omega)⟩
    · rintro v rest r s' ⟨hr,rfl,hall⟩
      refine wpAny_bind (no_class n (hall v List.mem_cons_self) ?_)
      simp only [Bool.false_eq_true,if_false]
      exact wpAny_pure ⟨rfl,rfl,fun u hu' => hall u (List.mem_cons_of_mem _ hu')⟩
    · rintro ⟨r1,r2⟩ s' ⟨hr,rfl,_⟩
      simp only at hr
      subst hr
      exact wpAny_pure h
theorem not_seen {x : Value} {l : List Value} {A : Around} {s : Shared} {Q : Bool→Shared→Prop} (hx : Good s.heap 8 x) (hl : ∀ y∈l,Good s.heap 8 y) (h : Q false s) : wpAny (model prog w) A (searchCouldBeSeen x l) Q E s := by
  unfold searchCouldBeSeen
  refine wpAny_bind ?_
  refine wpAny_forIn_list _ (fun rest r s' => r.1 = none∧s' = s∧∀ v∈rest,Good s.heap 8 v) _ ?_ ?_ _ _ ⟨rfl,rfl,hl⟩
  · rintro v rest r s' ⟨hr,rfl,hall⟩
    have go : ∀ b : Bool,wpAny (model prog w) A (if b = true then pure (ForInStep.yield (none,())) else do
        let q ← eqIsQuiet 8 x
        if (!q) = true then pure (ForInStep.done (some true,())) else do
          let q ← eqIsQuiet 8 v
          if (!q) = true then pure (ForInStep.done (some true,())) else do
            let q ← ofAClassStatement 8 x
            if q = true then pure (ForInStep.done (some true,())) else do
              let q ← ofAClassStatement 8 v
              if q = true then pure (ForInStep.done (some true,())) else pure (ForInStep.yield (none,())))
        (fun st s'' => match st with
          | ForInStep.yield r => r.1 = none∧s'' = s'∧∀ v∈rest,Good s'.heap 8 v
          | ForInStep.done r => False) E s':=fun b => by
      cases b with
      | true => rw [if_pos rfl]; exact wpAny_pure ⟨rfl,rfl,fun u hu' => hall u (List.mem_cons_of_mem _ hu')⟩
      | false =>
        rw [if_neg Bool.false_ne_true]
        refine wpAny_bind (quiet 8 hx ?_)
        simp only [Bool.not_true,Bool.false_eq_true,if_false]
        refine wpAny_bind (quiet 8 (hall v List.mem_cons_self) ?_)
        simp only [Bool.not_true,Bool.false_eq_true,if_false]
        refine wpAny_bind (no_class 8 hx ?_)
        simp only [Bool.false_eq_true,if_false]
        refine wpAny_bind (no_class 8 (hall v List.mem_cons_self) ?_)
        simp only [Bool.false_eq_true,if_false]
        exact wpAny_pure ⟨rfl,rfl,fun u hu' => hall u (List.mem_cons_of_mem _ hu')⟩
    refine wpAny_mono (go _) (fun st s'' z => ?_) fun _ _ z => z
    cases st with
    | yield r => exact z
    | done r => exact z.elim
  · rintro ⟨r1,r2⟩ s' ⟨hr,rfl,_⟩
    simp only at hr
    subst hr
    exact wpAny_pure h
end
end TH
namespace TH
open PySem PyProof.Rows PySem.SeqAt
abbrev ES:=Array (Int×Tr)
def hAt (et : ES) (i : Nat) : Int:=(et[i]?.map (·.1)).getD 0
def srch (et : ES) (t : SetTable) (x : Tr) (h : Int) : Option (Option Nat) :=
  if t.gaveWay then none else
  match t.probe (hAt et) h (t.probeStart h) with
  | some (.empty j none) => some (some j)
  | some (.candidate _ i _) => match et[i]? with
    | some (_,y) => if y = x then some none else none
    | none => none
  | _ => none
def addP (st : ES×SetTable) (x : Tr) : Option (ES×SetTable) :=
  if (st.2.fits st.1.size && decide (st.1.size≤1000) && st.2.plain) = false then none else
  match srch st.1 st.2 x (hashT x) with
  | none => none
  | some none => some st
  | some (some slot) =>
    if (st.2.put slot).1.tooFull = false then some (SetTable.insertAt st.1 (st.2.put slot).2 (hashT x,x),(st.2.put slot).1) else
    if ((st.2.put slot).1.fits (SetTable.insertAt st.1 (st.2.put slot).2 (hashT x,x)).size && decide (SetTable.sizeAbove (SetTable.grown (st.1.size + 1))≤100000)) = false then none else
    match (st.2.put slot).1.relaid ((SetTable.insertAt st.1 (st.2.put slot).2 (hashT x,x)).map (·.1)) (SetTable.grown (st.1.size + 1)) with
    | none => none
    | some (t',order) =>
      if (order.filterMap ((SetTable.insertAt st.1 (st.2.put slot).2 (hashT x,x))[·]?)).size = (SetTable.insertAt st.1 (st.2.put slot).2 (hashT x,x)).size then
        some (order.filterMap ((SetTable.insertAt st.1 (st.2.put slot).2 (hashT x,x))[·]?),t') else none
def MemR (G : Value→Tr→Prop) (h : Heap) (p : Int×Value) (q : Int×Tr) : Prop:=p.1 = q.1∧q.2.deep < 8∧G p.2 q.2∧∃ a its,p.2 = .ref a∧h.IsTuple a its.toArray∧Vs h q.2 its
abbrev Mems (G : Value→Tr→Prop) (h : Heap) (ev : Array (Int×Value)) (et : ES) : Prop:=Paired (MemR G h) ev.toList et.toList
variable {G : Value→Tr→Prop}
section
variable {α β : Type} {F : α→β→Prop}
theorem Paired.get : ∀ {l : List α} {m : List β},Paired F l m→∀ {i : Nat} {y : β},m[i]? = some y→∃ x,l[i]? = some x∧F x y
  | _,_,.nil,i,y,h => by simp at h
  | _,_,.cons h1 r,0,y,h => by simp at h; subst h; exact ⟨_,rfl,h1⟩
  | _,_,.cons h1 r,i + 1,y,h => Paired.get r (by simpa using h)
theorem Paired.none : ∀ {l : List α} {m : List β},Paired F l m→∀ {i : Nat},m[i]? = Option.none→l[i]? = Option.none:=fun {l m} r i h => by
  have:=r.length
  rw [List.getElem?_eq_none_iff] at h ⊢
  omega
theorem Paired.app {l2 : List α} {m2 : List β} (k : Paired F l2 m2) : ∀ {l : List α} {m : List β},Paired F l m→Paired F (l ++ l2) (m ++ m2)
  | _,_,.nil => k
  | _,_,.cons h r => .cons h (Paired.app k r)
theorem Paired.take : ∀ {l : List α} {m : List β} (n : Nat),Paired F l m→Paired F (l.take n) (m.take n)
  | _,_,0,_ => by simpa using Paired.nil
  | _,_,n + 1,.nil => by simpa using Paired.nil
  | _,_,n + 1,.cons h r => .cons h (Paired.take n r)
theorem Paired.drop : ∀ {l : List α} {m : List β} (n : Nat),Paired F l m→Paired F (l.drop n) (m.drop n)
  | _,_,0,h => h
  | _,_,n + 1,.nil => by simpa using Paired.nil
  | _,_,n + 1,.cons h r => Paired.drop n r
theorem Paired.pick {l : List α} {m : List β} (r : Paired F l m) : ∀ (o : List Nat),Paired F (o.filterMap (l[·]?)) (o.filterMap (m[·]?))
  | [] => .nil
  | i :: o => by
    rw [List.filterMap_cons,List.filterMap_cons]
    cases e : m[i]? with
    | none => rw [Paired.none r e]; exact Paired.pick r o
    | some y =>
      obtain ⟨x,e2,h⟩:=Paired.get r e
      rw [e2]
      exact .cons h (Paired.pick r o)
theorem Paired.imp {G : α→β→Prop} (h : ∀ a b,F a b→G a b) : ∀ {l : List α} {m : List β},Paired F l m→Paired G l m
  | _,_,.nil => .nil
  | _,_,.cons k r => .cons (h _ _ k) (Paired.imp h r)
end
theorem insertAt_list {α : Type} (xs : Array α) (p : Nat) (x : α) : (SetTable.insertAt xs p x).toList = xs.toList.take p ++ x :: xs.toList.drop p := by
  unfold SetTable.insertAt
  simp [List.extract]
  rw [List.take_of_length_le (by simp)]
theorem Mems.fst {h : Heap} {ev : Array (Int×Value)} {et : ES} (r : Mems G h ev et) : ev.map (·.1) = et.map (·.1) := by
  have key : ∀ {l : List (Int×Value)} {m : List (Int×Tr)},Paired (MemR G h) l m→l.map (·.1) = m.map (·.1):=fun r => by
    induction r with
    | nil => rfl
    | cons k _ ih => rw [List.map_cons,List.map_cons,ih,k.1]
  apply Array.toList_inj.mp
  simpa using key r
theorem Mems.size {h : Heap} {ev : Array (Int×Value)} {et : ES} (r : Mems G h ev et) : ev.size = et.size := by simpa using Paired.length r
theorem Mems.hAt {h : Heap} {ev : Array (Int×Value)} {et : ES} (r : Mems G h ev et) (i : Nat) : (ev[i]?.map (·.1)).getD 0 = hAt et i := by
  have:=congrArg (fun a : Array Int => a[i]?) r.fst
  simp only [Array.getElem?_map] at this
  rw [TH.hAt,this]
theorem Mems.good {h : Heap} {ev : Array (Int×Value)} {et : ES} (r : Mems G h ev et) : ∀ p∈ev.toList,Good h 8 p.2 := by
  have key : ∀ {l : List (Int×Value)} {m : List (Int×Tr)},Paired (MemR G h) l m→∀ p∈l,Good h 8 p.2:=fun r => by
    induction r with
    | nil => intro p hp; cases hp
    | cons k _ ih =>
      intro p hp
      rcases List.mem_cons.mp hp with rfl | hp
      · obtain ⟨_,hd,_,a,its,e,h1,h2⟩:=k
        exact ⟨a,its,_,e,h1,h2,hd⟩
      · exact ih p hp
  exact key r
theorem Mems.at {h : Heap} {ev : Array (Int×Value)} {et : ES} (r : Mems G h ev et) {i : Nat} {z : Int} {y : Tr} (e : et[i]? = some (z,y)) : ∃ a its,ev[i]? = some (z,.ref a)∧h.IsTuple a its.toArray∧Vs h y its∧y.deep < 8 := by
  obtain ⟨⟨z',v⟩,h1,h2,hd,_,a,its,e2,h3,h4⟩:=Paired.get r (by simpa using e)
  have h2 : z' = z:=h2
  have e2 : v = .ref a:=e2
  subst h2 e2
  exact ⟨a,its,by simpa using h1,h3,h4,hd⟩
theorem Mems.keeps {h h' : Heap} {ev : Array (Int×Value)} {et : ES} (k : ∀ b o,h.get? b = some o→o.cls = .type "tuple" → h'.get? b = some o) (r : Mems G h ev et) : Mems G h' ev et :=
  Paired.imp (fun p q ⟨e,hd,hg,a,its,e2,h1,h2⟩ => ⟨e,hd,hg,a,its,e2,(by obtain ⟨o,ho,hc,n,hdt⟩:=h1; exact ⟨o,k _ _ ho hc,hc,n,hdt⟩),h2.keeps k⟩) r
section
variable {prog : Program} {w : World} {E : Value→Shared→Prop} {A : Around} {s : Shared} {a xa : Addr} {o : Obj} {ev : Array (Int×Value)} {et : ES} {ep : Nat} {t : SetTable} {x : Tr} {its : List Value} {h : Int}
theorem search_tr {r : Option Nat} {Q : SetFound→Shared→Prop} (ho : s.heap.get? a = some o) (hd : o.data = .set ev ep t) (hf : t.fits et.size = true) (R : Mems G s.heap ev et) (hx1 : s.heap.IsTuple xa its.toArray) (hx2 : Vs s.heap x its) (hxd : x.deep < 8)
    (hu : A.units + 8 < cLine) (hs : srch et t x h = some r) (h0 : r = none→Q (.there none) s) (h1 : ∀ j,r = some j→Q (.free j false) s) : wpAny (model prog w) A (setSearch a (.ref xa) h true) Q E s := by
  have hf' : t.fits ev.size = true := by rw [R.size]; exact hf
  unfold srch at hs
  by_cases hg : t.gaveWay = true
  · rw [if_pos hg] at hs; cases hs
  rw [if_neg hg] at hs
  unfold setSearch
  rw [show (100000 : Nat) = 99999 + 1 from rfl,setSearchFrom]
  refine wpAny_bind (wpAny_setState_of ho hd hf' ?_)
  dsimp only
  rw [if_neg hg]
  have hpr : ∀ f : Nat→Int,(∀ i,f i = hAt et i)→t.probe f h ((none : Option SetTable.Probe).getD (t.probeStart h)) = t.probe (hAt et) h (t.probeStart h):=fun f hf => by
    rw [show f = hAt et from funext hf]; rfl
  generalize hst : t.probe _ h ((none : Option SetTable.Probe).getD (t.probeStart h)) = pr
  have hpr' : pr = t.probe (hAt et) h (t.probeStart h):=hst.symm.trans (hpr _ fun i => R.hAt i)
  clear hst hpr
  subst hpr'
  cases hp : t.probe (hAt et) h (t.probeStart h) with
  | none => rw [hp] at hs; cases hs
  | some met =>
    rw [hp] at hs
    cases met with
    | empty j dummy =>
      cases dummy with
      | none => cases hs; exact wpAny_pure (h1 j rfl)
      | some d => cases hs
    | candidate j i next =>
      cases he : et[i]? with
      | none => simp only [he] at hs; cases hs
      | some zy =>
        obtain ⟨z,y⟩:=zy
        simp only [he] at hs
        by_cases hy : y = x
        · rw [if_pos hy] at hs
          cases hs
          subst hy
          obtain ⟨b,its2,e1,e2,e3,e4⟩:=R.at he
          cases hl : t.led with
          | true =>
            simp only [Bool.not_true,Bool.false_eq_true,if_false]
            rw [e1]
            refine wpAny_bind (wpAny_holding (eqAt e2 e3 hx1 hx2 (by omega) prog w E _ ?_))
            rw [decide_eq_true rfl]
            refine wpAny_bind (wpAny_setState_of ho hd hf' ?_)
            exact wpAny_pure (h0 rfl)
          | false =>
            simp only [Bool.not_false,if_true]
            refine wpAny_bind (not_seen ⟨xa,its,_,rfl,hx1,hx2,hxd⟩ (fun v hv => ?_) ?_)
            · obtain ⟨p,hp1,rfl⟩:=List.mem_map.mp hv
              exact R.good p (Array.mem_toList_iff.mpr (Array.mem_filter.mp (Array.mem_toList_iff.mp hp1)).1)
            simp only [Bool.false_eq_true,if_false]
            rw [e1]
            refine wpAny_bind (wpAny_holding (eqAt e2 e3 hx1 hx2 (by omega) prog w E _ ?_))
            rw [decide_eq_true rfl]
            refine wpAny_bind (wpAny_setState_of ho hd hf' ?_)
            exact wpAny_pure (h0 rfl)
        · rw [if_neg hy] at hs; cases hs
theorem size_small {n : Nat} (h : n≤100000) : n≤sizeLine:=Nat.le_trans h (by rw [sizeLine_eq]; decide)
theorem put_get {hp : Heap} (ho : hp.get? a = some o) (hd : o.data = .set ev ep t) (ev' : Array (Int×Value)) (t' : SetTable) : (hp.update a (Obj.putSet ev' t')).get? a = some { o with data:=.set ev' (ep + 1) t' } := by
  have:=Heap.get?_update_self (Obj.putSet ev' t') ho (by rw [putSet_of ev' t' hd]; rfl)
  rw [putSet_of ev' t' hd] at this
  exact this
theorem put_keep {hp : Heap} (ho : hp.get? a = some o) (hc : o.cls = .type "set") (g : Obj→Obj) : ∀ b u,hp.get? b = some u→u.cls = .type "tuple" → (hp.update a g).get? b = some u:=fun b u q hu => by
  have : a≠b:=fun z => by
    subst z
    rw [ho] at q
    cases q
    rw [hc] at hu
    injection hu with z
    exact absurd z (by decide)
  rw [Heap.get?_update_other _ _ this]
  exact q
theorem add_tr {et' : ES} {t' : SetTable} {Q : Bool→Shared→Prop} (ho : s.heap.get? a = some o) (hc : o.cls = .type "set") (hd : o.data = .set ev ep t) (R : Mems G s.heap ev et) (hx1 : s.heap.IsTuple xa its.toArray) (hx2 : Vs s.heap x its) (hxd : x.deep < 8) (hxg : G (.ref xa) x)
    (hu : A.units + 8 < cLine) (hs : addP (et,t) x = some (et',t'))
    (k : ∀ (b : Bool) (h' : Heap) (tk : Nat) (ev' : Array (Int×Value)) (ep' : Nat),Heap.SameBut a s.heap h'→h'.get? a = some { o with data:=.set ev' ep' t' }→Mems G h' ev' et'→Q b { s with heap:=h',toks:=tk }) :
    wpAny (model prog w) A (setAdd a (.ref xa)) Q E s := by
  unfold setAdd
  refine wpAny_holding (wpAny_bind (hash_at hx1 hx2 (by omega) fun tk => ?_))
  unfold setAddHashed
  refine wpAny_holding ?_
  unfold addP at hs
  by_cases h1 : (t.fits et.size && decide (et.size≤1000) && t.plain) = false
  · rw [if_pos h1] at hs; cases hs
  rw [if_neg h1] at hs
  simp only [Bool.not_eq_false,Bool.and_eq_true,decide_eq_true_eq] at h1
  obtain ⟨⟨hf,hz⟩,hpl⟩:=h1
  have hf' : t.fits ev.size = true := by rw [R.size]; exact hf
  cases hsr : srch et t x (hashT x) with
  | none => simp only [hsr] at hs; cases hs
  | some r =>
    simp only [hsr] at hs
    rw [show (100000 : Nat) = 99999 + 1 from rfl,setAddHashedIn]
    refine wpAny_bind (wpAny_setState_of (s:={ s with toks:=tk }) ho hd hf' ?_)
    dsimp only
    have hbs : byScan (.ref xa) ev = false:=rfl
    rw [hbs,if_neg Bool.false_ne_true]
    refine wpAny_bind (search_tr (s:={ s with toks:=tk }) ho hd hf R hx1 hx2 hxd hu hsr (fun hr => ?_) fun j hr => ?_)
    · subst hr
      cases hs
      exact wpAny_pure (k _ s.heap tk ev ep (Heap.SameBut.refl ..) (by rw [ho,← hd]) R)
    · subst hr
      dsimp only at hs ⊢
      refine wpAny_bind (wpAny_setState_of (s:={ s with toks:=tk }) ho hd hf' ?_)
      dsimp only
      have hpl2 : (t.put j).1.plain = true:=hpl
      rw [if_pos hpl2]
      refine wpAny_bind (by_value 8 (s:={ s with toks:=tk }) ⟨xa,its,x,rfl,hx1,hx2,hxd⟩ ?_)
      simp only [if_true]
      have R1 : Mems G s.heap (SetTable.insertAt ev (t.put j).2 (hashT x,.ref xa)) (SetTable.insertAt et (t.put j).2 (hashT x,x)) := by
        unfold Mems
        rw [insertAt_list,insertAt_list]
        exact Paired.app (.cons ⟨rfl,hxd,hxg,xa,its,rfl,hx1,hx2⟩ (Paired.drop _ R)) (Paired.take _ R)
      have hz1 : (SetTable.insertAt ev (t.put j).2 (hashT x,Value.ref xa)).size≤1001 := by
        have h2:=congrArg List.length (insertAt_list ev (t.put j).2 (hashT x,Value.ref xa))
        simp only [Array.length_toList,List.length_append,List.length_take,List.length_cons,List.length_drop] at h2
        have:=R.size
        omega
      have hz2 : (SetTable.insertAt et (t.put j).2 (hashT x,x)).size = (SetTable.insertAt ev (t.put j).2 (hashT x,Value.ref xa)).size:=R1.size.symm
      refine wpAny_bind (wpAny_storeSet_of (s:={ s with toks:=tk }) ho hd ?_ (size_small (by omega)))
      have g1:=put_get ho hd (SetTable.insertAt ev (t.put j).2 (hashT x,.ref xa)) (t.put j).1
      have k1:=put_keep ho hc (Obj.putSet (SetTable.insertAt ev (t.put j).2 (hashT x,.ref xa)) (t.put j).1)
      have sb1:=Heap.SameBut.update s.heap a (Obj.putSet (SetTable.insertAt ev (t.put j).2 (hashT x,.ref xa)) (t.put j).1)
      by_cases hfull : (t.put j).1.tooFull = false
      · rw [if_pos hfull] at hs
        cases hs
        rw [hfull]
        simp only [Bool.and_false,Bool.false_eq_true,if_false]
        exact wpAny_pure (k _ _ tk _ _ sb1 g1 (R1.keeps k1))
      · rw [if_neg hfull] at hs
        have hfull : (t.put j).1.tooFull = true := by simpa using hfull
        rw [hfull]
        simp only [Bool.not_false,Bool.and_true,if_true]
        by_cases h2 : ((t.put j).1.fits (SetTable.insertAt et (t.put j).2 (hashT x,x)).size && decide (SetTable.sizeAbove (SetTable.grown (et.size + 1))≤100000)) = false
        · rw [if_pos h2] at hs; cases hs
        rw [if_neg h2] at hs
        simp only [Bool.not_eq_false,Bool.and_eq_true,decide_eq_true_eq] at h2
        obtain ⟨hfit,hsa⟩:=h2
        cases hrl : (t.put j).1.relaid ((SetTable.insertAt et (t.put j).2 (hashT x,x)).map (·.1)) (SetTable.grown (et.size + 1)) with
        | none => simp only [hrl] at hs; cases hs
        | some to =>
          obtain ⟨t2,order⟩:=to
          simp only [hrl] at hs
          by_cases h3 : (order.filterMap ((SetTable.insertAt et (t.put j).2 (hashT x,x))[·]?)).size = (SetTable.insertAt et (t.put j).2 (hashT x,x)).size
          · rw [if_pos h3] at hs
            cases hs
            have R2 : Mems G s.heap (order.filterMap ((SetTable.insertAt ev (t.put j).2 (hashT x,Value.ref xa))[·]?)) (order.filterMap ((SetTable.insertAt et (t.put j).2 (hashT x,x))[·]?)) := by
              unfold Mems
              have:=Paired.pick R1 order.toList
              simpa using this
            have g2:=put_get g1 rfl (order.filterMap ((SetTable.insertAt ev (t.put j).2 (hashT x,Value.ref xa))[·]?)) t'
            have k2:=put_keep g1 hc (Obj.putSet (order.filterMap ((SetTable.insertAt ev (t.put j).2 (hashT x,Value.ref xa))[·]?)) t')
            have sb2:=Heap.SameBut.update (s.heap.update a (Obj.putSet (SetTable.insertAt ev (t.put j).2 (hashT x,.ref xa)) (t.put j).1)) a (Obj.putSet (order.filterMap ((SetTable.insertAt ev (t.put j).2 (hashT x,Value.ref xa))[·]?)) t')
            refine wpAny_bind ?_
            unfold setRelay
            refine wpAny_bind (wpAny_setState_of g1 rfl (by rw [← hz2]; exact hfit) ?_)
            dsimp only
            rw [R.size,if_neg (Nat.not_lt.mpr (size_small hsa))]
            refine wpAny_bind ?_
            rw [R1.fst,hrl]
            have hsz : (order.filterMap ((SetTable.insertAt ev (t.put j).2 (hashT x,Value.ref xa))[·]?)).size = (SetTable.insertAt ev (t.put j).2 (hashT x,Value.ref xa)).size := by rw [R2.size,h3,hz2]
            have hne : ¬ ((order.filterMap ((SetTable.insertAt ev (t.put j).2 (hashT x,Value.ref xa))[·]?)).size != (SetTable.insertAt ev (t.put j).2 (hashT x,Value.ref xa)).size) = true := by simp [hsz]
            show wpAny _ _ (do if (order.filterMap ((SetTable.insertAt ev (t.put j).2 (hashT x,Value.ref xa))[·]?)).size != (SetTable.insertAt ev (t.put j).2 (hashT x,Value.ref xa)).size then unsupported "internal:set-table-lost-an-element"
                               pure (order.filterMap ((SetTable.insertAt ev (t.put j).2 (hashT x,Value.ref xa))[·]?),t')) _ _ _
            rw [if_neg hne]
            refine wpAny_pure ?_
            refine wpAny_storeSet_of g1 rfl ?_ (size_small (by rw [hsz]; omega))
            exact wpAny_pure (k _ _ tk _ _ (sb1.trans sb2) g2 ((R2.keeps k1).keeps k2))
          · rw [if_neg h3] at hs; cases hs
end
end TH
namespace TH
open PySem
def grow : List Tr→Tr→List Tr
  | _,.nil => []
  | pre,.cons b r => ((Tr.of (Tr.srt (b.bs ++ [.nil])) :: grow [] b).map fun g => Tr.of (Tr.srt (pre ++ g :: r.bs))) ++ grow (pre ++ [b]) r
def oneL (t : Tr) : List Tr:=Tr.of (Tr.srt (t.bs ++ [.nil])) :: grow [] t
def ups (l : List Tr) : List Tr:=l.flatMap oneL
def runP (st : ES×SetTable) : List Tr→Option (ES×SetTable)
  | [] => some st
  | x :: r => (addP st x).bind fun st' => runP st' r
def fresh0 (led : Bool) : ES×SetTable:=(#[],.fresh 0 0 led)
def memsOf (st : ES×SetTable) : List Tr:=st.1.toList.map (·.2)
def tz : Nat→List Tr
  | 0 => [.nil]
  | n + 1 => (Tr.srt ((ups (tz n)).eraseDups)).reverse
end TH
namespace TH
open PySem PyProof.Rows PySem.SeqAt
def TreeV (G : Value→Tr→Prop) (h : Heap) (v : Value) (x : Tr) : Prop:=x.deep < 8∧G v x∧∃ a its,v = .ref a∧h.IsTuple a its.toArray∧Vs h x its
abbrev TreesAt (G : Value→Tr→Prop) (h : Heap) (vs : List Value) (xs : List Tr) : Prop:=Paired (TreeV G h) vs xs
variable {G : Value→Tr→Prop}
theorem TreeV.keeps {h h' : Heap} (k : ∀ b o,h.get? b = some o→o.cls = .type "tuple" → h'.get? b = some o) {v : Value} {x : Tr} (r : TreeV G h v x) : TreeV G h' v x := by
  obtain ⟨hd,hg,a,its,e,h1,h2⟩:=r
  exact ⟨hd,hg,a,its,e,(by obtain ⟨o,ho,hc,n,hdt⟩:=h1; exact ⟨o,k _ _ ho hc,hc,n,hdt⟩),h2.keeps k⟩
theorem TreesAt.keeps {h h' : Heap} (k : ∀ b o,h.get? b = some o→o.cls = .type "tuple" → h'.get? b = some o) {vs : List Value} {xs : List Tr} (r : TreesAt G h vs xs) : TreesAt G h' vs xs:=Paired.imp (fun _ _ z => z.keeps k) r
def SetAt (G : Value→Tr→Prop) (h : Heap) (S : Addr) (st : ES×SetTable) : Prop:=∃ o ev ep,h.get? S = some o∧o.ExactSet∧o.data = .set ev ep st.2∧Mems G h ev st.1
theorem SetAt.keeps {h h' : Heap} {S : Addr} {st : ES×SetTable} (x : SetAt G h S st) (kS : ∀ o,h.get? S = some o→h'.get? S = some o) (k : ∀ b o,h.get? b = some o→o.cls = .type "tuple" → h'.get? b = some o) : SetAt G h' S st := by
  obtain ⟨o,ev,ep,h1,h2,h3,h4⟩:=x
  exact ⟨o,ev,ep,kS _ h1,h2,h3,h4.keeps k⟩
section
variable {prog : Program} {w : World} {A : Around} {R : Result→Shared→Prop} {I S : Addr} {fp wr : List Addr} {St : Nat→Heap→Prop} {items : Array Value} {xs : List Tr} {st' : ES×SetTable}
theorem loop_tr (W : Walks prog w A.in1 I fp wr items.size (fun i v => items[i]? = some v) St) (hSf : S ∉ fp) (hcl : ∀ i h b o,St i h→b∈wr→h.get? b = some o→o.cls≠.type "tuple") (hu : A.units + 10 < cLine) :
    ∀ (k i : Nat) (s : Shared) (st : ES×SetTable),items.size - i = k→i≤items.size→St i s.heap→SetAt G s.heap S st→TreesAt G s.heap items.toList xs→runP st (xs.drop i) = some st' →
      (∀ (h' : Heap) (tk : Nat),(∀ b o,b≠S→b ∉ wr→s.heap.get? b = some o→h'.get? b = some o)→(∀ b o,s.heap.get? b = some o→o.cls = .type "tuple" → h'.get? b = some o)→SetAt G h' S st'→R (.ok (.ret .none)) { s with heap:=h',toks:=tk }) →
      codeAny (model prog w) A (.builtin "set.update.loop" ⟨[.ref S,.ref I],[]⟩) R s := by
  have hSw : S ∉ wr:=fun h => hSf (W.sub _ h)
  intro k
  induction k with
  | zero =>
    intro i s st hk hi hst hS hT hrun hR
    have hin : i = items.size := by omega
    subst hin
    have hlen:=Paired.length hT
    rw [List.drop_of_length_le (by rw [← hlen]; simp)] at hrun
    cases hrun
    refine codeAny_builtin F.entry_set_update_loop ?_
    rw [Around.under_plainId F.plain_set_update_loop _]
    show wpAny _ A.in1 (pyNext (.ref I) >>= _) _ _ s
    refine wpAny_bind (W.done s _ _ hst fun h' tk hm => ?_)
    show wpAny _ A.in1 (ret Value.none) _ _ _
    have kt : ∀ b o,s.heap.get? b = some o→o.cls = .type "tuple" → h'.get? b = some o:=fun b o e hc => hm b o (fun hb => hcl _ _ b o hst hb e hc) e
    exact wpAny_pure (hR h' tk (fun b o _ hb e => hm b o hb e) kt (hS.keeps (fun o e => hm S o hSw e) kt))
  | succ k ih =>
    intro i s st hk hi hst hS hT hrun hR
    have hlt : i < items.size := by omega
    refine codeAny_builtin F.entry_set_update_loop ?_
    rw [Around.under_plainId F.plain_set_update_loop _]
    show wpAny _ A.in1 (pyNext (.ref I) >>= _) _ _ s
    refine wpAny_bind (W.item i s _ _ hlt hst fun v h1 tk hP hst' hm => ?_)
    have kt : ∀ b o,s.heap.get? b = some o→o.cls = .type "tuple" → h1.get? b = some o:=fun b o e hc => hm b o (fun hb => hcl _ _ b o hst hb e hc) e
    have hS1:=hS.keeps (fun o e => hm S o hSw e) kt
    have hT1:=hT.keeps kt
    have hlen:=Paired.length hT
    have hxi : i < xs.length := by rw [← hlen]; simpa using hlt
    have hx : xs[i]? = some xs[i]:=List.getElem?_eq_getElem hxi
    obtain ⟨v',hv',hxd,hxg,xa,its,e1,e2,e3⟩:=Paired.get hT1 hx
    have hvv : v' = v := by
      have h2 : items.toList[i]? = some v := by simpa using hP
      rw [h2] at hv'
      exact (Option.some.inj hv').symm
    subst hvv
    subst e1
    rw [List.drop_eq_getElem_cons hxi,runP] at hrun
    cases hadd : addP st xs[i] with
    | none => rw [hadd] at hrun; cases hrun
    | some st1 =>
      rw [hadd] at hrun
      obtain ⟨o,ev,ep,g1,g2,g3,g4⟩:=hS1
      obtain ⟨et,t⟩:=st
      obtain ⟨et1,t1⟩:=st1
      show wpAny _ A.in1 (holding [Value.ref xa] (setAdd S (.ref xa)) >>= _) _ _ _
      refine wpAny_bind (wpAny_holding (add_tr (s:={ s with heap:=h1,toks:=tk }) g1 g2.1 g3 g4 e2 e3 hxd hxg (by rw [Around.in1_units]; omega) hadd fun b h2 tk2 ev2 ep2 sb gS R2 => ?_))
      have kt2 : ∀ b o,h1.get? b = some o→o.cls = .type "tuple" → h2.get? b = some o:=fun b o' e hc => by
        rw [sb.2 b fun z => ?_]
        · exact e
        · subst z
          rw [g1] at e
          cases e
          rw [g2.1] at hc
          injection hc with hc
          exact absurd hc (by decide)
      refine wpAny_pure ⟨plainId_quiet F.plain_set_update_loop _,ih (i + 1) { s with heap:=h2,toks:=tk2 } (et1,t1) (by omega) hlt (W.frame _ _ _ hst' fun b hb o' e => ?_) ⟨_,ev2,ep2,gS,g2,rfl,R2⟩ (hT1.keeps kt2) hrun fun h3 tk3 m3 kt3 S3 => ?_⟩
      · rw [sb.2 b fun z => hSf (z ▸ hb)]
        exact e
      · refine hR h3 tk3 (fun b o' hbS hb e => ?_) (fun b o' e hc => kt3 b o' (kt2 b o' (kt b o' e hc) hc) hc) S3
        refine m3 b o' hbS hb ?_
        show h2.get? b = some o'
        rw [sb.2 b hbS]
        exact hm b o' hb e
end
end TH
namespace TH
open PySem PyProof.Rows PySem.SeqAt
section
variable {G : Value→Tr→Prop} {prog : Program} {w : World} {A : Around} {E : Value→Shared→Prop} {s : Shared} {l : Addr} {us : List Value} {xs : List Tr}
abbrev noSet (led : Bool) : Obj:={ cls:=.type "set",dict:=none,data:=.set #[] 0 (.fresh 0 0 led) }
theorem new_set_at (v : Value) {Q1 : Value→Shared→Prop} (k : Q1 (.ref s.heap.objs.size) { s with heap:=s.heap.push (noSet (!w.params.followText "set-order")) }) :
    codeAny (model prog w) A (.call (.builtin "set.__new__") ⟨[.type "set",v],[]⟩) (wants Q1 E) s := by
  refine codeAny_of_tree (show wpAny _ A.in1 (checkBuiltinCall "set.__new__" ⟨[.type "set",v],[]⟩ >>= fun _ => again (.builtin "set.__new__" ⟨[.type "set",v],[]⟩)) _ _ s from ?_)
  refine wpAny_bind (wpAny_of_eq (F.newCall_set_1 v) (wpAny_pure ⟨plainId_quiet F.plain_set_new _,codeAny_builtin F.entry_set_new ?_⟩))
  rw [Around.under_plainId F.plain_set_new _]
  unfold Builtin.«set.__new__»
  unfold Builtin.Frozenset.newClass
  have q:=sub_set_self
  obtain ⟨h0,g0,d0,t0,o0⟩:=s
  dsimp only
  wp_walk
  refine wpAny_askSetting (wpAny_pure ?_)
  dsimp only
  simp only [newObj]
  exact wpAny_bind (wpAny_alloc (wpAny_pure (wpAny_pure k)))
theorem call_set_tr {Q : Value→Shared→Prop} (hA : A.handled = none) (hL : s.heap.IsList l us.toArray) (hT : TreesAt G s.heap us xs) (hu : A.units + 20 < cLine) {st : ES×SetTable} (hst : runP (fresh0 (!w.params.followText "set-order")) xs = some st)
    (k : ∀ (h2 : Heap) (tk : Nat),SetAt G h2 s.heap.objs.size st→(∀ b u,s.heap.get? b = some u→h2.get? b = some u)→Q (.ref s.heap.objs.size) { s with heap:=h2,toks:=tk }) :
    wpAny (model prog w) A (call (.type "set") [.ref l]) Q E s := by
  obtain ⟨mc,mt,hmro⟩:=F.called_set.mro
  have q1:=F.called_set.made
  have q2:=F.called_set.sub
  have q3:=F.called_set.notType
  have q4:=F.called_set.canCreate
  have q5:=F.typeCall_set_1 (.ref l)
  refine wpAny_call (codeAny_of_tree (show wpAny _ _ (callAny (.type "set") _) _ _ _ from ?_))
  refine wpAny_pure ⟨Code.quiet_builtin _ (by decide +kernel),codeAny_builtin F.entry_type_call ?_⟩
  rw [Around.under_plain (weight_type_call_type "set" [.ref l] []) rfl]
  repeat (any_goals (first | assumption | wp_step))
  have hnew:=new_set_at (prog:=prog) (w:=w) (s:=s) (A:=A.in1) (E:=E) (.ref l) (Q1:=fun v s1 => v = .ref s.heap.objs.size∧s1 = { s with heap:=s.heap.push (noSet (!w.params.followText "set-order")) }) ⟨rfl,rfl⟩
  refine codeAny_mono hnew fun r s1 hr => ?_
  cases r with
  | error e => exact hr
  | ok fl =>
    cases fl with
    | next => exact hr.elim
    | brk => exact hr.elim
    | cont => exact hr.elim
    | ret obj =>
      obtain ⟨rfl,rfl⟩:=hr
      generalize (!w.params.followText "set-order") = led at hst
      have gS : (s.heap.push (noSet led)).get? s.heap.objs.size = some (noSet led):=Heap.get?_push_size _ rfl
      have tS : Shared.TypeIs { s with heap:=s.heap.push (noSet led) } (.ref s.heap.objs.size) "set" := ⟨_,gS,rfl⟩
      have q6:=F.called_set.init.lookup
      have q7:=F.called_set.init.bind (.ref s.heap.objs.size)
      repeat (any_goals (first | assumption | wp_step))
      have hinit : codeAny (model prog w) A.in1 (.call (.builtin "set.__init__") ⟨[.ref s.heap.objs.size,.ref l],[]⟩)
          (wants (fun v s2 => v = .none∧∃ h2 tk,s2 = { s with heap:=h2,toks:=tk }∧SetAt G h2 s.heap.objs.size st∧∀ b u,s.heap.get? b = some u→h2.get? b = some u) E) { s with heap:=s.heap.push (noSet led) } := by
        refine codeAny_call_builtin F.called_set.init.plain F.entry_set_init (check_set_init_1 tS ?_)
        obtain ⟨⟨c0,d0,dt0,sl0⟩,gl,c1,n0,dt1⟩:=id hL
        simp only at c1 dt1
        subst c1 dt1
        have gl1 : (s.heap.push (noSet led)).get? l = some ⟨.type "list",d0,.seq us.toArray n0,sl0⟩:=Heap.get?_push_of_some _ gl
        have isl : (s.heap.push (noSet led)).IsList l us.toArray:=⟨_,gl1,rfl,n0,rfl⟩
        have s1:=F.sub_list_set
        have s2:=F.sub_list_frozenset
        have s3 : (Value.type "list" == Value.type "dict") = false := by decide
        unfold Builtin.«set.__init__» noKeywords Builtin.Frozenset.updateFrom
        generalize ePI : pyIter = PI
        wp_walk
        subst ePI
        refine wpAny_pyIter_list isl (wpAny_bind (wpAny_runValue ?_))
        have ll : l < s.heap.objs.size:=Heap.lt_size gl
        have zI : (s.heap.push (noSet led)).objs.size = s.heap.objs.size + 1:=Heap.size_push ..
        have neI : l≠(s.heap.push (noSet led)).objs.size := by rw [zI]; exact Nat.ne_of_lt (Nat.lt_succ_of_lt ll)
        have nfp : s.heap.objs.size ∉ [(s.heap.push (noSet led)).objs.size,l] := by
          simp only [List.mem_cons,List.not_mem_nil,or_false,not_or]
          exact ⟨by rw [zI]; exact Nat.ne_of_lt (Nat.lt_succ_self _),Nat.ne_of_gt ll⟩
        have hA3 : A.in1.in1.in1.handled = none := by simp [hA]
        refine loop_tr (G:=G) (xs:=xs) (st':=st) (Walks.list hA3 _ l neI us.toArray) nfp (fun i h b o hit hb e hc => ?_) (by simp only [Around.in1_units]; omega) _ 0 _ (fresh0 led) rfl (Nat.zero_le _) ⟨⟨_,Heap.get?_push_size _ rfl,rfl,rfl⟩,isl.push _⟩ ?_ ?_ hst fun h2 tk m2 kt2 S2 => ?_
        · obtain ⟨⟨oi,gi,ci,_⟩,_⟩:=hit
          have : b = (s.heap.push (noSet led)).objs.size := by simpa using hb
          subst this
          rw [gi] at e
          cases e
          rw [ci] at hc
          injection hc with hc
          exact absurd hc (by decide)
        · exact ⟨noSet led,#[],0,Heap.get?_push_of_some _ gS,⟨rfl,rfl,rfl⟩,rfl,.nil⟩
        · exact hT.keeps fun b o e _ => Heap.get?_push_of_some _ (Heap.get?_push_of_some _ e)
        · refine wpAny_pure ?_
          show wpAny _ _ (ret Value.none) _ _ _
          refine wpAny_pure ⟨rfl,h2,tk,rfl,S2,fun b u e => ?_⟩
          have lb : b < s.heap.objs.size:=Heap.lt_size e
          refine m2 b u (Nat.ne_of_lt lb) ?_ (Heap.get?_push_of_some _ (Heap.get?_push_of_some _ e))
          simp only [List.mem_cons,List.not_mem_nil,or_false]
          rw [zI]
          exact Nat.ne_of_lt (Nat.lt_succ_of_lt lb)
      refine codeAny_mono hinit fun r2 s2 hr2 => ?_
      cases r2 with
      | error e => exact hr2
      | ok f2 =>
        cases f2 with
        | next => exact hr2.elim
        | brk => exact hr2.elim
        | cont => exact hr2.elim
        | ret v2 =>
          obtain ⟨rfl,h2,tk,rfl,S2,k2⟩:=hr2
          repeat (any_goals (first | assumption | wp_step))
          exact k h2 tk S2 k2
end
end TH
namespace TH
open PySem PyProof.Rows PySem.SeqAt
theorem entry_set_walk : entryFor table "set.__iter__" = some Builtin.«frozenset.__iter__» :=
  entryFor_alias (id' := "frozenset.__iter__") (by kernel_rfl) rfl (by decide +kernel) (by kernel_rfl)
theorem slot_set_step : Slot "set_iterator" "__next__" "set_iterator.__next__" :=
  .of (owner := "set_iterator") (n := "__next__") (by rw [typeLookup_type,builtinLookup_eq_fast]; kernel_rfl) (by decide +kernel)
    (by decide +kernel) (by decide +kernel) (by first | exact .inl (by decide +kernel) | exact .inr (by decide +kernel)) (by rw [isSubtype_type]; kernel_rfl)
theorem entry_set_step : entryFor table "set_iterator.__next__" = some Builtin.«set_iterator.__next__»:=entryFor_of_fast (by kernel_rfl)
theorem args_set_step (a : Value) : argsOk "set_iterator.__next__" ⟨[a],[]⟩ := by unfold argsOk; kernel_rfl
theorem slot_set_self : Slot "set_iterator" "__iter__" "set_iterator.__iter__" :=
  .of (owner := "set_iterator") (n := "__iter__") (by rw [typeLookup_type,builtinLookup_eq_fast]; kernel_rfl) (by decide +kernel)
    (by decide +kernel) (by decide +kernel) (by first | exact .inl (by decide +kernel) | exact .inr (by decide +kernel)) (by rw [isSubtype_type]; kernel_rfl)
theorem entry_set_self : entryFor table "set_iterator.__iter__" = some Builtin.«dict_keyiterator.__iter__» :=
  entryFor_alias (id' := "dict_keyiterator.__iter__") (by kernel_rfl) rfl (by decide +kernel) (by kernel_rfl)
theorem args_set_self (a : Value) : argsOk "set_iterator.__iter__" ⟨[a],[]⟩ := by unfold argsOk; kernel_rfl
section
variable {α : Type} {next : Nat→Nat}
theorem pick_go : ∀ (n k : Nat) (left : List α) (out : Array α),left.length = n→(pickOrder.go next n k left out).toList.Perm (out.toList ++ left)
  | 0,k,left,out,h => by
    have : left = []:=List.eq_nil_of_length_eq_zero h
    subst this
    rw [pickOrder.go]
    simp
  | n + 1,k,left,out,h => by
    rw [pickOrder.go]
    have hlt : next k % left.length < left.length:=Nat.mod_lt _ (by omega)
    rw [List.getElem?_eq_getElem hlt]
    refine (pick_go n (k + 1) _ _ (by rw [List.length_eraseIdx_of_lt hlt]; omega)).trans ?_
    rw [Array.toList_push,List.append_assoc]
    refine List.Perm.append_left _ ?_
    rw [List.eraseIdx_eq_take_drop_succ]
    have e : left.take (next k % left.length) ++ left[next k % left.length] :: left.drop (next k % left.length + 1) = left := by rw [← List.drop_eq_getElem_cons hlt,List.take_append_drop]
    have p:=List.perm_middle (a:=left[next k % left.length]) (l₁:=left.take (next k % left.length)) (l₂:=left.drop (next k % left.length + 1))
    rw [e] at p
    exact p.symm
theorem pick_perm (xs : Array α) : (pickOrder next xs).toList.Perm xs.toList := by
  unfold pickOrder
  simpa using pick_go xs.size 0 xs.toList #[] (by simp)
end
end TH
namespace TH
open PySem PyProof.Rows PySem.SeqAt
def ordr (w : World) (S : Addr) (ep : Nat) (ev : Array (Int×Value)) : Array (Int×Value):=if w.params.followText "set-order" = true then pickOrder (w.params.setOrder S ep) ev else ev
theorem ordr_perm (w : World) (S : Addr) (ep : Nat) (ev : Array (Int×Value)) : (ordr w S ep ev).toList.Perm ev.toList := by
  unfold ordr
  split
  · exact pick_perm ev
  · exact .refl _
theorem ordr_size (w : World) (S : Addr) (ep : Nat) (ev : Array (Int×Value)) : (ordr w S ep ev).size = ev.size := by simpa using (ordr_perm w S ep ev).length_eq
def slotOf (t : SetTable) : Nat→Nat
  | 0 => 0
  | i + 1 => t.place.getD i 0 + 1
def slotW (w : World) (t : SetTable) (i : Nat) : Nat:=if w.params.followText "set-order" = true then 0 else slotOf t i
def walkOk (t : SetTable) (n : Nat) : Bool:=(List.range (n + 1)).all fun i => decide (SetTable.below t.place (slotOf t i) = i)
abbrev iterO (w : World) (S : Addr) (t : SetTable) (ep n i : Nat) : Obj:={ cls:=.type "set_iterator",data:=.fields #[rawInt ((slotW w t i : Nat) : Int),rawInt (i : Int),.ref S,rawInt (n : Int),rawInt (ep : Int)] }
structure Walked (w : World) (o : Obj) (ev : Array (Int×Value)) (ep : Nat) (t : SetTable) : Prop where
  ex : o.ExactSet
  dat : o.data = .set ev ep t
  fit : t.fits ev.size = true
  plain : t.plain = true
  led : t.led = !w.params.followText "set-order"
  walk : walkOk t ev.size = true
section
variable {prog : Program} {w : World} {A : Around} {E : Value→Shared→Prop} {s : Shared} {S I : Addr} {o : Obj} {ev : Array (Int×Value)} {ep i : Nat} {t : SetTable}
theorem by_text {Q : Bool→Shared→Prop} (h : Q (w.params.followText "set-order") s) : wpAny (model prog w) A setsByText Q E s := by
  unfold setsByText
  exact wpAny_bind (wpAny_askSetting (wpAny_pure h))
theorem Walked.nodraw (W : Walked w o ev ep t) : (!t.plain && decide (ev.size > 1)) = false := by rw [W.plain]; rfl
theorem Walked.place (W : Walked w o ev ep t) : t.place.size = ev.size := by
  have:=W.fit
  unfold SetTable.fits at this
  simp only [Bool.and_eq_true,beq_iff_eq] at this
  exact this.1
theorem set_next {Q : Option (Value×Nat)→Shared→Prop} (W : Walked w o ev ep t) (ho : s.heap.get? S = some o) (hi : i≤ev.size) (h : Q ((ordr w S ep ev)[i]?.map fun e => (e.2,slotW w t (i + 1))) s) :
    wpAny (model prog w) A (setNext S (slotW w t i) i ep) Q E s := by
  unfold setNext
  refine wpAny_bind (wpAny_setState_of ho W.dat W.fit ?_)
  refine wpAny_bind (by_text ?_)
  cases hb : w.params.followText "set-order" with
  | true =>
    rw [if_pos rfl]
    have hne : ¬ (ep != ep) = true := by simp
    rw [if_neg hne]
    unfold setWalk
    refine wpAny_bind (wpAny_bind (wpAny_setState_of ho W.dat W.fit ?_))
    refine wpAny_bind (by_text ?_)
    rw [if_pos hb]
    refine wpAny_bind (wpAny_askSetting (wpAny_pure ?_))
    refine wpAny_pure ?_
    have e : ordr w S ep ev = pickOrder (w.params.setOrder S ep) ev := by unfold ordr; rw [if_pos hb]
    rw [e] at h
    have e2 : slotW w t i = slotW w t (i + 1) := by unfold slotW; rw [if_pos hb,if_pos hb]
    rw [e2]
    exact h
  | false =>
    rw [if_neg Bool.false_ne_true]
    refine wpAny_ite_split (fun hd => ?_) fun _ => ?_
    · have : (!t.plain && decide (ev.size > 1)) = true:=hd
      rw [W.nodraw] at this
      cases this
    · refine wpAny_bind ?_
      have hl : t.led = true := by rw [W.led,hb]; rfl
      have hn : ¬ (!t.led && !ev.isEmpty) = true := by rw [hl]; simp
      show wpAny _ _ (if (!t.led && !ev.isEmpty) = true then unsupported "set:maker-not-led" else pure ()) _ _ _
      rw [if_neg hn]
      refine wpAny_pure (wpAny_pure ?_)
      have hw:=W.walk
      unfold walkOk at hw
      have hw:=List.all_eq_true.mp hw i (List.mem_range.mpr (by omega))
      have hw : SetTable.below t.place (slotOf t i) = i := by simpa using hw
      have e1 : slotW w t i = slotOf t i := by unfold slotW; rw [hb]; rfl
      have e2 : slotW w t (i + 1) = slotOf t (i + 1) := by unfold slotW; rw [hb]; rfl
      have e3 : ordr w S ep ev = ev := by unfold ordr; rw [hb]; rfl
      rw [e2,e3] at h
      rw [e1,hw]
      by_cases hlt : i < ev.size
      · have hp : i < t.place.size := by rw [W.place]; exact hlt
        rw [Array.getElem?_eq_getElem hlt] at h ⊢
        rw [Array.getElem?_eq_getElem hp]
        have e4 : slotOf t (i + 1) = t.place[i] + 1 := by
          rw [slotOf,Array.getD_eq_getD_getElem?,Array.getElem?_eq_getElem hp]
          rfl
        rw [e4] at h
        exact h
      · rw [Array.getElem?_eq_none (by omega)] at h ⊢
        exact h
theorem step_set {Q : Option Value→Shared→Prop} {z : Int} {v : Value} (W : Walked w o ev ep t) (ho : s.heap.get? S = some o) (hI : s.heap.get? I = some (iterO w S t ep ev.size i)) (hx : (ordr w S ep ev)[i]? = some (z,v))
    (h : ∀ h',h'.get? I = some (iterO w S t ep ev.size (i + 1))→Heap.SameBut I s.heap h'→Q (some v) { s with heap:=h' }) : wpAny (model prog w) A (pyNext (.ref I)) Q E s := by
  have hT : s.TypeIs (.ref I) "set_iterator" := ⟨_,hI,rfl⟩
  have hlt : i < ev.size := by
    have:=(Array.getElem?_eq_some_iff.mp hx).1
    rw [ordr_size] at this
    exact this
  unfold pyNext
  refine wpAny_bind (wpAny_attempt (wpAny_callSpecial?_slot (name:=Str.ofString "__next__") hT slot_set_step (wpAny_call_entry slot_set_step hT entry_set_step ?_ (args_set_step _))))
  unfold Builtin.«set_iterator.__next__»
  refine wpAny_bind (wpAny_of_eq (a:=(Value.ref I,[])) rfl ?_)
  refine wpAny_bind (wpAny_fieldsOf hI rfl ?_)
  show wpAny _ _ (setEntries S >>= _) _ _ s
  refine wpAny_bind (wpAny_setEntries_of ho W.dat W.fit ?_)
  have hne : ¬ ((ev.size : Int) != (ev.size : Int)) = true := by simp
  dsimp only
  rw [if_neg hne]
  refine wpAny_bind ?_
  show wpAny _ _ (setNext S (slotW w t i) i ep) _ _ _
  refine set_next W ho (by omega) ?_
  rw [hx]
  show wpAny _ _ (setField (.ref I) 0 (rawInt ((slotW w t (i + 1) : Nat) : Int)) >>= _) _ _ _
  refine wpAny_bind (wpAny_setField hI rfl (by simp) ?_)
  have g1 : (s.heap.update I (Obj.mapFields (·.setIfInBounds 0 (rawInt ((slotW w t (i + 1) : Nat) : Int))))).get? I = some { cls:=.type "set_iterator",data:=.fields #[rawInt ((slotW w t (i + 1) : Nat) : Int),rawInt (i : Int),.ref S,rawInt (ev.size : Int),rawInt (ep : Int)] } :=
    Heap.get?_update_self _ hI rfl
  refine wpAny_bind (wpAny_setField g1 rfl (by simp) ?_)
  refine wpAny_pure ⟨_,rfl,wpAny_pure (h _ ?_ ((Heap.SameBut.update ..).trans (Heap.SameBut.update ..)))⟩
  exact Heap.get?_update_self _ g1 rfl
theorem stop_set {Q : Option Value→Shared→Prop} (hh : A.handled = none) (W : Walked w o ev ep t) (ho : s.heap.get? S = some o) (hI : s.heap.get? I = some (iterO w S t ep ev.size ev.size))
    (h : ∀ h',Heap.ExtBut I s.heap h'→Q none { s with heap:=h' }) : wpAny (model prog w) A (pyNext (.ref I)) Q E s := by
  have hT : s.TypeIs (.ref I) "set_iterator" := ⟨_,hI,rfl⟩
  unfold pyNext
  refine wpAny_bind (wpAny_attempt (wpAny_callSpecial?_slot (name:=Str.ofString "__next__") hT slot_set_step (wpAny_call_entry slot_set_step hT entry_set_step ?_ (args_set_step _))))
  unfold Builtin.«set_iterator.__next__»
  refine wpAny_bind (wpAny_of_eq (a:=(Value.ref I,[])) rfl ?_)
  refine wpAny_bind (wpAny_fieldsOf hI rfl ?_)
  show wpAny _ _ (setEntries S >>= _) _ _ s
  refine wpAny_bind (wpAny_setEntries_of ho W.dat W.fit ?_)
  have hne : ¬ ((ev.size : Int) != (ev.size : Int)) = true := by simp
  dsimp only
  rw [if_neg hne]
  refine wpAny_bind ?_
  show wpAny _ _ (setNext S (slotW w t ev.size) ev.size ep) _ _ _
  refine set_next W ho (Nat.le_refl _) ?_
  rw [Array.getElem?_eq_none (by rw [ordr_size]; exact Nat.le_refl _)]
  show wpAny _ _ (setField (.ref I) 2 Value.none >>= _) _ _ _
  refine wpAny_bind (wpAny_setField hI rfl (by simp) ?_)
  refine wpAny_bind ?_
  simp only [newExc,newTuple]
  refine wpAny_bind (wpAny_newObj_type ?_ (by size_fits))
  refine wpAny_bind (m:=firstArgMember _ _) (wpAny_of_eq (a:=Value.none) (by first | rfl | (simp only [firstArgMember]; rfl)) (wpAny_newObj_type ?_ (by size_fits)))
  simp only [raiseNew]
  refine wpAny_bind (wpAny_handled ?_)
  have hh1 : A.in1.handled = none:=hh
  rw [hh1]
  refine wpAny_bind (wpAny_pure (wpAny_throw ?_))
  refine wpAny_bind (wpAny_isInstance (b:=true) (T := "StopIteration") ⟨_,Heap.get?_push_size _ rfl,rfl⟩ isSubtype_stop ?_)
  exact wpAny_pure (h _ (((Heap.SameBut.update ..).extBut.push _).push _))
theorem self_set {Q : Value→Shared→Prop} (hI : s.heap.get? I = some (iterO w S t ep ev.size i)) (h : Q (.ref I) s) : wpAny (model prog w) A (pyIter (.ref I)) Q E s := by
  have hT : s.TypeIs (.ref I) "set_iterator" := ⟨_,hI,rfl⟩
  refine wpAny_pyIter_slot hT slot_set_self (wpAny_call_entry slot_set_self hT entry_set_self ?_ (args_set_self _))
  show wpAny _ _ (ret (.ref I)) _ _ s
  exact wpAny_pure ⟨_,rfl, "set_iterator",_,hT,slot_set_step.lookup,h⟩
theorem walks_set (hh : A.handled = none) (hne : S≠I) (W : Walked w o ev ep t) :
    Walks prog w A I [I,S] [I] ev.size (fun i v => ∃ z,(ordr w S ep ev)[i]? = some (z,v)) (fun i h => h.get? I = some (iterO w S t ep ev.size i)∧h.get? S = some o) where
  sub:=fun b hb => by simp at hb; simp [hb]
  frame:=fun _ _ _ x k => ⟨k I (by simp) _ x.1,k S (by simp) _ x.2⟩
  item:=fun i s Q E hi x hQ => by
    have hi' : i < (ordr w S ep ev).size := by rw [ordr_size]; exact hi
    obtain ⟨z,v,hx⟩ : ∃ z v,(ordr w S ep ev)[i]? = some (z,v):=⟨(ordr w S ep ev)[i].1,(ordr w S ep ev)[i].2,by rw [Array.getElem?_eq_getElem hi']⟩
    refine step_set W x.2 x.1 hx fun h' g sb => hQ v h' s.toks ⟨z,hx⟩ ⟨g,(sb.2 S hne).trans x.2⟩ fun b u hb e => ?_
    rw [sb.2 b fun q => hb (by simp [q])]
    exact e
  done:=fun s Q E x hQ => stop_set hh W x.2 x.1 fun h' eb => hQ h' s.toks fun b u hb e => eb b u (fun q => hb (by simp [q])) e
  self:=fun _ _ _ _ x hQ => self_set x.1 hQ
theorem hint_set {Q : Bool→Shared→Prop} (hT : s.TypeIs (.ref S) "set") (h : Q false s) : wpAny (model prog w) A (Builtin.List.listLengthHint (.ref S)) Q E s := by
  unfold Builtin.List.listLengthHint
  refine wpAny_bind (wpAny_specialOf hT PySem.F.slot_set_len.lookup ?_)
  generalize hid : ("set.__len__" : String) = id0
  wp_delta
  rw [show splitId id0 = some ("set", "__len__") from by subst hid; decide +kernel]
  subst hid
  refine wpAny_bind (wpAny_isInstance (b:=true) (T := "set") hT (by rw [isSubtype_type]; kernel_rfl) ?_)
  refine wpAny_ite_split (fun z => absurd z (by decide)) fun _ => ?_
  refine wpAny_ite_split (fun _ => ?_) fun z => absurd (by decide +kernel) z
  exact wpAny_bind (wpAny_typeOf hT (wpAny_pure h))
theorem iter_set {Q : Value→Shared→Prop} (W : Walked w o ev ep t) (ho : s.heap.get? S = some o) (h : Q (.ref s.heap.objs.size) { s with heap:=s.heap.push (iterO w S t ep ev.size 0) }) :
    wpAny (model prog w) A (pyIter (.ref S)) Q E s := by
  have hT : s.TypeIs (.ref S) "set" := ⟨o,ho,W.ex.1⟩
  refine wpAny_pyIter_slot hT PySem.F.slot_set_iter (wpAny_call_entry PySem.F.slot_set_iter hT entry_set_walk ?_ (PySem.F.args_set_iter_1 _))
  unfold Builtin.«frozenset.__iter__»
  refine wpAny_bind (wpAny_of_eq (a:=S) rfl ?_)
  unfold Builtin.Frozenset.sizeOf
  refine wpAny_bind (wpAny_bind (wpAny_setEntries_of ho W.dat W.fit (wpAny_pure ?_)))
  unfold setDrawn
  refine wpAny_bind (wpAny_bind (wpAny_setState_of ho W.dat W.fit (wpAny_bind (by_text (wpAny_pure ?_)))))
  have hd : (!w.params.followText "set-order" && (!t.plain && decide (ev.size > 1))) = false := by rw [W.nodraw]; simp
  refine wpAny_ite_split (fun z => ?_) fun _ => ?_
  · have : (!w.params.followText "set-order" && (!t.plain && decide (ev.size > 1))) = true:=z
    rw [hd] at this
    cases this
  refine wpAny_bind (wpAny_pure ?_)
  unfold setEpoch
  refine wpAny_bind (wpAny_bind (wpAny_setState_of ho W.dat W.fit (wpAny_pure ?_)))
  have e0 : slotW w t 0 = 0 := by unfold slotW slotOf; split <;> rfl
  refine wpAny_bind (wpAny_newObj_type (wpAny_pure ⟨_,rfl, "set_iterator",_,⟨_,Heap.get?_push_size _ rfl,rfl⟩,slot_set_step.lookup,?_⟩))
  unfold iterO at h
  rw [e0] at h
  exact h
theorem src_set (W : Walked w o ev ep t) : PySem.W.KdlSrc prog w "set" S S ev.size (fun i v => ∃ z,(ordr w S ep ev)[i]? = some (z,v)) (fun h => h.get? S = some o) where
  type:=fun _ ho => ⟨o,ho,W.ex.1⟩
  there:=fun _ ho => ⟨Heap.lt_size ho,Heap.lt_size ho⟩
  keep:=fun _ _ ho k => k S (.inl rfl) _ ho
  notList := by decide
  notTuple := by decide
  hint:=fun _ _ s _ ho h => hint_set ⟨o,ho,W.ex.1⟩ h
  iter:=fun A s hh ho => ⟨iterO w S t ep ev.size 0,_,(fun E Q h => iter_set W ho h),walks_set hh (Nat.ne_of_lt (Heap.lt_size ho)) W,⟨Heap.get?_push_size _ rfl,Heap.get?_push_of_some _ ho⟩⟩
end
end TH
namespace TH
open PySem PyProof.Rows PySem.SeqAt
theorem Paired.perm {α β : Type} {F : α→β→Prop} {l l' : List α} (p : l'.Perm l) : ∀ {m : List β},Paired F l m→∃ m',m'.Perm m∧Paired F l' m' := by
  induction p with
  | nil => intro m r; exact ⟨m,.refl _,r⟩
  | cons x _ ih =>
    intro m r
    cases r with
    | cons h r' =>
      obtain ⟨m',p',q⟩:=ih r'
      exact ⟨_ :: m',p'.cons _,.cons h q⟩
  | swap x y l =>
    intro m r
    cases r with
    | cons h r' =>
      cases r' with
      | cons h' r'' => exact ⟨_ :: _ :: _,List.Perm.swap ..,.cons h' (.cons h r'')⟩
  | trans _ _ ih1 ih2 =>
    intro m r
    obtain ⟨m1,p1,q1⟩:=ih2 r
    obtain ⟨m2,p2,q2⟩:=ih1 q1
    exact ⟨m2,p2.trans p1,q2⟩
variable {G : Value→Tr→Prop}
theorem mems_vs {h : Heap} : ∀ {l : List (Int×Value)} {m : List (Int×Tr)},Paired (MemR G h) l m→Vs h (Tr.of (m.map (·.2))) (l.map (·.2))
  | _,_,.nil => by rw [List.map_nil,List.map_nil,Tr.of,Vs]
  | _,_,.cons (a:=(z,v)) ⟨_,_,_,a,its,e,h1,h2⟩ r => by
    have e : v = .ref a:=e
    subst e
    rw [List.map_cons,List.map_cons,Tr.of,Vs]
    exact ⟨a,its,_,rfl,h1,h2,mems_vs r⟩
theorem mems_deep {h : Heap} : ∀ {l : List (Int×Value)} {m : List (Int×Tr)},Paired (MemR G h) l m→∀ c∈m.map (·.2),c.deep < 8
  | _,_,.nil,c,hc => by cases hc
  | _,_,.cons ⟨_,hd,_⟩ r,c,hc => by
    rw [List.map_cons] at hc
    rcases List.mem_cons.mp hc with rfl | hc
    · exact hd
    · exact mems_deep r c hc
theorem mems_g {h : Heap} : ∀ {l : List (Int×Value)} {m : List (Int×Tr)},Paired (MemR G h) l m→Paired G (l.map (·.2)) (m.map (·.2))
  | _,_,.nil => .nil
  | _,_,.cons ⟨_,_,hg,_⟩ r => .cons hg (mems_g r)
theorem Paired.pickD {α β : Type} {F : α→β→Prop} {l : List α} {m : List β} (r : Paired F l m) (d : α) (e : β) : ∀ (ix : List Nat),(∀ i∈ix,i < l.length)→Paired F (ix.map fun i => l.getD i d) (ix.map fun i => m.getD i e)
  | [],_ => .nil
  | i :: ix,h => by
    have hl:=r.length
    have hi:=h i List.mem_cons_self
    have hm : m[i]? = some m[i]:=List.getElem?_eq_getElem (by omega)
    obtain ⟨x,e1,e2⟩:=Paired.get r hm
    rw [List.map_cons,List.map_cons]
    refine .cons ?_ (Paired.pickD r d e ix fun j hj => h j (List.mem_cons_of_mem _ hj))
    rw [List.getD_eq_getElem?_getD,List.getD_eq_getElem?_getD,e1,hm]
    exact e2
theorem srt_perm {l m : List Tr} (p : l.Perm m) : Tr.srt l = Tr.srt m:=Tr.fall_unique (Tr.fall_srt l) (Tr.fall_srt m) ((Tr.perm_srt l).trans (p.trans (Tr.perm_srt m).symm))
section
variable {prog : Program} {w : World} {A : Around} {E : Value→Shared→Prop} {s : Shared}
theorem gather {T : String} {r d : Addr} {n : Nat} {P : Nat→Value→Prop} {OK : Heap→Prop} {R : List Value→Shared→Prop} (K : PySem.W.KdlSrc prog w T r d n P OK) (hA : A.handled = none) (hok : OK s.heap) (hn : n≤sizeLine)
    (k : ∀ (h1 : Heap) (tk : Nat) (acc : Array Value),s.heap.objs.size < h1.objs.size→(∀ b u,s.heap.get? b = some u→h1.get? b = some u)→ItemsOf P acc n→R acc.toList { s with heap:=h1,toks:=tk }) :
    wpAny (model prog w) A (collect (.ref r)) R E s := by
  obtain ⟨lr,ld⟩:=K.there _ hok
  unfold collect
  refine wpAny_bind (wpAny_runValue (codeAny_builtin entry_proto_collect' ?_))
  rw [Around.under_plainId PySem.F.plain_proto_collect _]
  show wpAny _ A.in1 (newList [] >>= fun v => again (.builtin "list.__iadd__" ⟨[v,.ref r],[]⟩)) _ _ s
  refine wpAny_bind (wpAny_newObj_type (wpAny_pure ⟨plainId_quiet PySem.F.plain_list_iadd _,codeAny_builtin entry_list_iadd' ?_⟩))
  rw [Around.under_plainId PySem.F.plain_list_iadd _]
  have g0 : (s.heap.push { cls:=.type "list",data:=.seq ([] : List Value).toArray }).get? s.heap.objs.size = some { cls:=.type "list",data:=.seq #[] }:=Heap.get?_push_size _ rfl
  have main:=PySem.W.kdl_extend (A:=A) (s:={ s with heap:=s.heap.push { cls:=.type "list",data:=.seq ([] : List Value).toArray } }) K hA
    (K.keep _ _ hok fun _ _ _ e => Heap.get?_push_of_some _ e) s.heap.objs.size (Nat.ne_of_gt lr) (Nat.ne_of_gt ld) (.ref s.heap.objs.size) 0 g0
    (R:=fun q s1 => ∃ h1 tk acc c,q = .ok (.ret (.ref s.heap.objs.size))∧s1 = { s with heap:=h1,toks:=tk }∧(∀ b u,s.heap.get? b = some u→h1.get? b = some u)∧h1.get? s.heap.objs.size = some { cls:=.type "list",dict:=none,data:=.seq acc c,slots:=#[] }∧ItemsOf P acc n)
    (fun h1 tk acc c k1 g1 ha => ⟨h1,tk,acc,c,rfl,rfl,fun b u e => k1 b u (Nat.ne_of_lt (Heap.lt_size e)) (Heap.get?_push_of_some _ e),g1,ha⟩) hn
  refine wpAny_mono main (fun fin s1 x => ?_) fun e s1 x => ?_
  · cases fin with
    | done f =>
      obtain ⟨h1,tk,acc,c,e,rfl,k1,g1,ha⟩:=x
      cases e
      show wpAny _ A (load s.heap.objs.size >>= _) _ _ _
      exact wpAny_bind (wpAny_load g1 (wpAny_pure (k h1 tk acc (Heap.lt_size g1) k1 ha)))
    | again c1 =>
      refine ⟨x.1,codeAny_mono x.2 fun q s2 y => ?_⟩
      obtain ⟨h1,tk,acc,c,rfl,rfl,k1,g1,ha⟩:=y
      show wpAny _ A (load s.heap.objs.size >>= _) _ _ _
      exact wpAny_bind (wpAny_load g1 (wpAny_pure (k h1 tk acc (Heap.lt_size g1) k1 ha)))
  · obtain ⟨_,_,_,_,z,_⟩:=x
    cases z
end
section
variable {prog : Program} {w : World} {A : Around} {E : Value→Shared→Prop} {s : Shared} {S : Addr} {o : Obj} {ev : Array (Int×Value)} {et : ES} {ep : Nat} {t : SetTable}
theorem sorted_set {Q : Value→Shared→Prop} (hA : A.handled = none) (W : Walked w o ev ep t) (ho : s.heap.get? S = some o) (R : Mems G s.heap ev et) (h64 : et.size < 64) (hu : A.units + 20 < cLine)
    (h : ∀ (h' : Heap) (D tk e1 : Nat) (us : List Value),s.heap.objs.size≤D→(∀ b u,s.heap.get? b = some u→h'.get? b = some u)→h'.get? D = some (seqObj "list" us.toArray e1)→Paired G us (Tr.srt (et.toList.map (·.2))).reverse→us.length < 64 →
      Q (.ref D) { s with heap:=h',toks:=tk }) : wpAny (model prog w) A (call (.builtin "sorted") [.ref S]) Q E s := by
  have hsz:=R.size
  refine Calls.call_function_entry kind_sorted plain_sorted entry_sorted (args_sorted1 _) ?_
  unfold Builtin.«sorted»
  refine wpAny_bind (m:=checkCount "sorted" 1 1 _) (wpAny_pure ?_)
  refine wpAny_bind (gather (A:=A.in1) (src_set W) hA ho (size_small (by omega)) fun h1 tk acc z1 k1 hacc => ?_)
  have hal : acc.toList = (ordr w S ep ev).toList.map (·.2) := by
    apply List.ext_getElem?
    intro j
    rw [List.getElem?_map]
    by_cases hj : j < acc.size
    · have e1 : acc[j]? = some acc[j]:=Array.getElem?_eq_getElem hj
      obtain ⟨z,e2⟩:=hacc.2 j _ e1
      rw [Array.getElem?_toList,e1,Array.getElem?_toList,e2]
      rfl
    · have hj2 : ¬ j < (ordr w S ep ev).size := by rw [ordr_size,← hacc.1]; exact hj
      rw [List.getElem?_eq_none (by simpa using hj),List.getElem?_eq_none (by simpa using hj2)]
      rfl
  obtain ⟨m,pm,rm⟩:=Paired.perm (ordr_perm w S ep ev) R
  have hvs:=mems_vs rm
  rw [← hal] at hvs
  have hd : (Tr.of (m.map (·.2))).deep≤8:=(Tr.deep_of 8 _).mpr fun c hc => by have:=mems_deep rm c hc; omega
  have hlen : acc.toList.length < 64 := by rw [Array.length_toList,hacc.1,hsz]; exact h64
  refine wpAny_bind (wpAny_newList ?_ (size_small (by omega)))
  have g1 : (h1.push (seqObj "list" acc.toList.toArray 0)).get? h1.objs.size = some (seqObj "list" acc.toList.toArray 0):=Heap.get?_push_size _ rfl
  have k2 : ∀ b u,s.heap.get? b = some u→(h1.push (seqObj "list" acc.toList.toArray 0)).get? b = some u:=fun b u e => Heap.get?_push_of_some _ (k1 b u e)
  refine wpAny_bind (wpAny_holding (wpAny_call_entry slot_list_sort ⟨_,g1,rfl⟩ entry_list_sort (list_sort_tr0 (s:={ s with heap:=h1.push (seqObj "list" acc.toList.toArray 0),toks:=tk }) g1 (hvs.keeps fun b u e _ => k2 b u e) hlen
    (by rw [show A.in1.in1.units = A.units + 2 from rfl]; omega) fun ix a1 a2 a3 => ⟨_,rfl,?_⟩) (args_list_sort _)))
  obtain ⟨e1,he1⟩:=sortedHeap_at (vs:=acc.toList) (out:=(ix.map fun i => acc.toList.getD i Value.none).toArray) g1
  refine wpAny_pure ⟨_,rfl,h _ h1.objs.size tk e1 (ix.map fun i => acc.toList.getD i Value.none) ?_ (fun b u e => ?_) he1 ?_ (by rw [List.length_map,a1]; exact hlen)⟩
  · exact Nat.le_of_lt z1
  · have lb : b < h1.objs.size:=Heap.lt_size (k1 b u e)
    rw [sortedHeap_old (Nat.ne_of_lt lb) (by rw [Heap.size_push]; exact Nat.lt_succ_of_lt lb)]
    exact k2 b u e
  · have hg:=mems_g rm
    rw [← hal] at hg
    have:=Paired.pickD hg Value.none Tr.nil ix a2
    rw [Tr.bs_of] at a3
    rw [a3,srt_perm (pm.map (·.2))] at this
    exact this
end
end TH
namespace TH
open PySem PyProof.Rows
def kHash : Option Tr→Int
  | none => 4238894112
  | some t => hashT t
abbrev KE:=Option Tr×Value×Value
def entN (x : KE) : DictEntry:=⟨kHash x.1,x.2.1,x.2.2⟩
end TH
namespace L2
open PySem PySem.Spec PyProof.Rows
abbrev KR:=Option Tr×V×V
def KRel (q : KR) (x : TH.KE) : Prop:=x.1 = q.1∧RelV q.2.1 x.2.1∧RelV q.2.2 x.2.2
def dN (d : Addr) (r : List KR) : HO:=.ext fun h => (d == sysModules) = false∧∃ o es ep xs,h.get? d = some o∧o.ExactDict∧o.data = .dict es ep∧es.toList = xs.map TH.entN∧PySem.Paired KRel r xs
def KeyV (H : Hp) : Option Tr→V→Prop
  | none,v => v = .non
  | some t,v => t.deep < 8∧Tv H t v
theorem KeyV.same {H H' : Hp} {k : Option Tr} {v : V} (h : KeyV H k v) (e : Same H H') : KeyV H' k v := by
  cases k with
  | none => exact h
  | some t => exact ⟨h.1,h.2.same e⟩
end L2
set_option maxHeartbeats 1000000
namespace L2
open PySem PySem.Spec PyProof.Rows
theorem Rd.same {H H' : Hp} {a : Addr} {u : HO} (e : Same H H') (h : Rd H a u) : Rd H' a u := by
  rcases h with h | ⟨o,h⟩
  · exact .inl (e _ _ h)
  · exact .inr ⟨o,e _ _ h⟩
def rowD : Tr→List PyData
  | .nil => []
  | .cons b r => .tuple (rowD b) :: rowD r
def keyD : Option Tr→PyData
  | none => .none
  | some t => .tuple (rowD t)
mutual
def Du (H : Hp) : PyData→V→Prop
  | .none,v => v = .non
  | .bool b,v => v = .bl b
  | .int i,v => v = .int i
  | .str x,v => v = .str x
  | .tuple ds,v => ∃ a xs,v = .ref a∧H a = some (.tup xs)∧DuA H ds xs
  | .list ds,v => ∃ a xs,v = .ref a∧H a = some (.lst xs)∧DuA H ds xs
  | .dict kv,v => (∃ ea C : Addr,kv = [(.int (C : Nat),.none)]∧v = .ref ea∧H ea = some (excO ea (.ref C)))∨(∃ (a : Addr) (ns : List Int),kv = [(.none,.list (ns.map .int))]∧v = .ref a∧Rd H a (.lst (ns.map V.int)))∨DuM H kv v
def DuA (H : Hp) : List PyData→List V→Prop
  | [],xs => xs = []
  | d :: ds,xs => ∃ x r,xs = x :: r∧Du H d x∧DuA H ds r
def DuM (H : Hp) : List (PyData×PyData)→V→Prop
  | [],_ => False
  | (k0,d0) :: t,v => k0 = .bool true∧d0 = .none∧∃ a r,v = .ref a∧H a = some (dN a r)∧(r.map (·.1)).Nodup∧DuK H t r
def DuK (H : Hp) : List (PyData×PyData)→List KR→Prop
  | [],r => r = []
  | (k,d) :: t,r => ∃ q r',r = q :: r'∧k = keyD q.1∧KeyV H q.1 q.2.1∧Du H d q.2.2∧DuK H t r'
end
mutual
theorem Du.same {H H' : Hp} (e : Same H H') : ∀ {d : PyData} {v : V},Du H d v→Du H' d v
  | .none,_,h => by rw [Du] at h ⊢; exact h
  | .bool _,_,h => by rw [Du] at h ⊢; exact h
  | .int _,_,h => by rw [Du] at h ⊢; exact h
  | .str _,_,h => by rw [Du] at h ⊢; exact h
  | .tuple _,_,h => by
    rw [Du] at h ⊢
    obtain ⟨a,xs,e1,h1,h2⟩:=h
    exact ⟨a,xs,e1,e _ _ h1,DuA.same e h2⟩
  | .list _,_,h => by
    rw [Du] at h ⊢
    obtain ⟨a,xs,e1,h1,h2⟩:=h
    exact ⟨a,xs,e1,e _ _ h1,DuA.same e h2⟩
  | .dict _,_,h => by
    rw [Du] at h ⊢
    rcases h with ⟨ea,C,e1,e2,h1⟩ | ⟨a,ns,e1,e2,h1⟩ | h
    · exact .inl ⟨ea,C,e1,e2,e _ _ h1⟩
    · exact .inr (.inl ⟨a,ns,e1,e2,h1.same e⟩)
    · exact .inr (.inr (DuM.same e h))
theorem DuA.same {H H' : Hp} (e : Same H H') : ∀ {ds : List PyData} {xs : List V},DuA H ds xs→DuA H' ds xs
  | [],_,h => by rw [DuA] at h ⊢; exact h
  | _ :: _,_,h => by
    rw [DuA] at h ⊢
    obtain ⟨x,r,e1,h1,h2⟩:=h
    exact ⟨x,r,e1,Du.same e h1,DuA.same e h2⟩
theorem DuM.same {H H' : Hp} (e : Same H H') : ∀ {kv : List (PyData×PyData)} {v : V},DuM H kv v→DuM H' kv v
  | [],_,h => by rw [DuM] at h; exact h.elim
  | (_,_) :: _,_,h => by
    rw [DuM] at h ⊢
    obtain ⟨h1,h2,a,r,h3,h4,h5,h6⟩:=h
    exact ⟨h1,h2,a,r,h3,e _ _ h4,h5,DuK.same e h6⟩
theorem DuK.same {H H' : Hp} (e : Same H H') : ∀ {kv : List (PyData×PyData)} {r : List KR},DuK H kv r→DuK H' kv r
  | [],_,h => by rw [DuK] at h ⊢; exact h
  | (_,_) :: _,_,h => by
    rw [DuK] at h ⊢
    obtain ⟨q,r',h1,h2,h3,h4,h5⟩:=h
    exact ⟨q,r',h1,h2,h3.same e,Du.same e h4,DuK.same e h5⟩
end
mutual
theorem Du.br {K : PySem.W.Frag} {H : Hp} : ∀ {d : PyData} {v : V},d.canLay0 = true→Du H d v→Br K H d v
  | .none,_,_,h => by rw [Du] at h; rw [Br]; exact h
  | .bool _,_,_,h => by rw [Du] at h; rw [Br]; exact h
  | .int _,_,_,h => by rw [Du] at h; rw [Br]; exact h
  | .str _,_,_,h => by rw [Du] at h; rw [Br]; exact h
  | .tuple _,_,c,h => by
    rw [Du] at h; rw [Br]
    obtain ⟨a,xs,e1,h1,h2⟩:=h
    exact ⟨a,xs,e1,SqT.of h1,DuA.br (by simp only [PyData.canLay0,Bool.and_eq_true] at c; first | exact c | exact c.2 | exact c.1) h2⟩
  | .list _,_,c,h => by
    rw [Du] at h; rw [Br]
    obtain ⟨a,xs,e1,h1,h2⟩:=h
    exact ⟨a,xs,e1,SqL.of h1,DuA.br (by simp only [PyData.canLay0,Bool.and_eq_true] at c; first | exact c | exact c.2 | exact c.1) h2⟩
  | .dict _,_,c,h => by simp [PyData.canLay0] at c
theorem DuA.br {K : PySem.W.Frag} {H : Hp} : ∀ {ds : List PyData} {xs : List V},PyData.canLayAll0 ds = true→DuA H ds xs→BrAll K H ds xs
  | [],_,_,h => by rw [DuA] at h; rw [BrAll]; exact h
  | _ :: _,_,c,h => by
    rw [DuA] at h; rw [BrAll]
    obtain ⟨x,r,e1,h1,h2⟩:=h
    simp only [PyData.canLayAll0,Bool.and_eq_true] at c
    exact ⟨x,r,e1,Du.br c.1 h1,DuA.br c.2 h2⟩
end
theorem DuA.nil {H : Hp} : DuA H [] [] := by rw [DuA]
theorem DuA.cons {H : Hp} {d : PyData} {ds : List PyData} {x : V} {xs : List V} (h : Du H d x) (k : DuA H ds xs) : DuA H (d :: ds) (x :: xs) := by rw [DuA]; exact ⟨x,xs,rfl,h,k⟩
theorem DuA.un {H : Hp} {d : PyData} {ds : List PyData} {xs : List V} (h : DuA H (d :: ds) xs) : ∃ x r,xs = x :: r∧Du H d x∧DuA H ds r := by rw [DuA] at h; exact h
theorem DuA.nil_eq {H : Hp} {xs : List V} (h : DuA H [] xs) : xs = [] := by rw [DuA] at h; exact h
theorem DuA.len {H : Hp} : ∀ {ds : List PyData} {xs : List V},DuA H ds xs→xs.length = ds.length
  | [],_,h => by rw [h.nil_eq]; rfl
  | _ :: _,_,h => by obtain ⟨x,r,rfl,_,h2⟩:=h.un; simp [h2.len]
theorem DuA.get {H : Hp} : ∀ {ds : List PyData} {xs : List V} {i : Nat} {d : PyData},DuA H ds xs→ds[i]? = some d→∃ v,xs[i]? = some v∧Du H d v
  | [],_,i,_,_,e => by simp at e
  | _ :: _,_,0,_,h,e => by
    obtain ⟨x,r,rfl,h1,_⟩:=h.un
    simp at e; subst e
    exact ⟨x,rfl,h1⟩
  | _ :: _,_,i + 1,_,h,e => by
    obtain ⟨x,r,rfl,_,h2⟩:=h.un
    obtain ⟨v,k1,k2⟩:=h2.get (i:=i) (by simpa using e)
    exact ⟨v,by simpa using k1,k2⟩
theorem DuA.back {H : Hp} {ds : List PyData} {xs : List V} {i : Nat} {v : V} (h : DuA H ds xs) (e : xs[i]? = some v) : ∃ d,ds[i]? = some d∧Du H d v := by
  have hl:=h.len
  have hi : i < ds.length := by rw [← hl]; exact (List.getElem?_eq_some_iff.mp e).1
  have hd : ds[i]? = some ds[i] := by simp [hi]
  obtain ⟨w,k1,k2⟩:=h.get hd
  rw [e] at k1; cases k1
  exact ⟨_,hd,k2⟩
theorem DuA.app {H : Hp} : ∀ {ds es : List PyData} {xs ys : List V},DuA H ds xs→DuA H es ys→DuA H (ds ++ es) (xs ++ ys)
  | [],_,_,_,h,k => by rw [h.nil_eq]; exact k
  | _ :: _,_,_,_,h,k => by obtain ⟨x,r,rfl,h1,h2⟩:=h.un; exact .cons h1 (h2.app k)
theorem DuA.take {H : Hp} : ∀ {ds : List PyData} {xs : List V} (i : Nat),DuA H ds xs→DuA H (ds.take i) (xs.take i)
  | _,_,0,_ => by rw [List.take_zero,List.take_zero]; exact .nil
  | [],_,i + 1,h => by rw [h.nil_eq]; exact .nil
  | _ :: _,_,i + 1,h => by obtain ⟨x,r,rfl,h1,h2⟩:=h.un; exact .cons h1 (h2.take i)
theorem DuA.drop {H : Hp} : ∀ {ds : List PyData} {xs : List V} (i : Nat),DuA H ds xs→DuA H (ds.drop i) (xs.drop i)
  | _,_,0,h => h
  | [],_,i + 1,h => by rw [h.nil_eq]; exact .nil
  | _ :: _,_,i + 1,h => by obtain ⟨x,r,rfl,h1,h2⟩:=h.un; exact h2.drop i
theorem DuA.rev {H : Hp} : ∀ {ds : List PyData} {xs : List V},DuA H ds xs→DuA H ds.reverse xs.reverse
  | [],_,h => by rw [h.nil_eq]; exact .nil
  | _ :: _,_,h => by
    obtain ⟨x,r,rfl,h1,h2⟩:=h.un
    rw [List.reverse_cons,List.reverse_cons]
    exact h2.rev.app (.cons h1 .nil)
inductive Oc where
  | lst (xs : List PyData) | dic (kvs : List (List Key×PyData)) | dtr (kvs : List (Option Tr×PyData))
inductive L where
  | no | d (x : PyData) | own (c : Oc)
abbrev Dv:=List L
def KvOk (G : Hp) : List (List Key×PyData)→List (List Key×V)→Prop
  | [],r => r = []
  | q :: t,r => ∃ v r',r = (q.1,v) :: r'∧Du G q.2 v∧KvOk G t r'
theorem KvOk.same {G G' : Hp} (e : Same G G') : ∀ {t : List (List Key×PyData)} {r : List (List Key×V)},KvOk G t r→KvOk G' t r
  | [],r,h => h
  | q :: t,r,h => by
    obtain ⟨v,r',rfl,h1,h2⟩:=h
    exact ⟨v,r',rfl,h1.same e,KvOk.same e h2⟩
abbrev entsD (kvs : List (Option Tr×PyData)) : List (PyData×PyData):=kvs.map fun q => (keyD q.1,q.2)
abbrev dictD (kvs : List (Option Tr×PyData)) : PyData:=.dict ((.bool true,.none) :: entsD kvs)
def OcOk (G : Hp) (a : Addr) : Oc→HO→Prop
  | .lst xs,o => ∃ ys,o = .lst ys∧DuA G xs ys
  | .dic kvs,o => ∃ r,o = .dT r∧KvOk G kvs r
  | .dtr kvs,o => ∃ r,o = dN a r∧(r.map (·.1)).Nodup∧DuK G (entsD kvs) r
theorem OcOk.same {G G' : Hp} {a : Addr} {c : Oc} {o : HO} (h : OcOk G a c o) (e : Same G G') : OcOk G' a c o := by
  cases c with
  | dtr kvs => obtain ⟨r,h1,h2,h3⟩:=h; exact ⟨r,h1,h2,DuK.same e h3⟩
  | lst xs => obtain ⟨ys,h1,h2⟩:=h; exact ⟨ys,h1,h2.same e⟩
  | dic kvs => obtain ⟨ys,h1,h2⟩:=h; exact ⟨ys,h1,h2.same e⟩
theorem OcOk.ntup {G : Hp} {a : Addr} {c : Oc} {xs : List V} (h : OcOk G a c (.tup xs)) : False := by
  cases c with
  | dtr kvs => obtain ⟨r,h1,h2,h3⟩:=h; unfold dN at h1; cases h1
  | lst xs => obtain ⟨ys,h1,h2⟩:=h; cases h1
  | dic kvs => obtain ⟨ys,h1,h2⟩:=h; cases h1
def Nw (G0 H0 G : Hp) : Prop:=∀ a o,G a = some o→G0 a = some o∨H0 a = none∨∃ xs,o = HO.tup xs
structure Rw (G0 H0 G H : Hp) (σ : St) (δ : Dv) (ts : List (PyData×V)) : Prop where
  ext : Same G0 G
  new : Nw G0 H0 G
  ins : Same G H
  keep : Same H0 H
  len : σ.length = δ.length
  dat : ∀ (i : Nat) (x : PyData),δ[i]? = some (L.d x)→∃ v,σ[i]? = some (some v)∧Du G x v
  own : ∀ (i : Nat) (xs : Oc),δ[i]? = some (L.own xs)→∃ (a : Addr) (ys : HO),σ[i]? = some (some (V.ref a))∧G a = none∧H0 a = none∧H a = some ys∧OcOk G a xs ys
  apart : ∀ (i j : Nat) (xs ys : Oc),i≠j→δ[i]? = some (L.own xs)→δ[j]? = some (L.own ys)→σ[i]?≠σ[j]?
  tmp : ∀ p∈ts,Du G p.1 p.2
def DE (X : Cx) (e : Expr) (f : Dv→Option PyData) : Prop:=∃ t,PE X e t∧∀ δ x,f δ = some x→∀ G0 H0 G H σ ts (Q : VK),Rw G0 H0 G H σ δ ts→(∀ v G' H',Rw G0 H0 G' H' σ δ ((x,v) :: ts)→Q v H')→t σ H Q
def DA (X : Cx) (es : List Expr) (f : Dv→Option (List PyData)) : Prop:=∃ t,PA X es t∧∀ δ xs,f δ = some xs→∀ G0 H0 G H σ ts (Q : List V→Hp→Prop),Rw G0 H0 G H σ δ ts→(∀ vs G' H',Rw G0 H0 G' H' σ δ (xs.zip vs ++ ts)→vs.length = xs.length→Q vs H')→t σ H Q
def DT (X : Cx) (e : Expr) (f : Dv→Option Bool) : Prop:=∃ t,PT X e t∧∀ δ b,f δ = some b→∀ G0 H0 G H σ ts (Q : Bool→Hp→Prop),Rw G0 H0 G H σ δ ts→(∀ G' H',Rw G0 H0 G' H' σ δ ts→Q b H')→t σ H Q
section
variable {G0 H0 G H : Hp} {σ : St} {δ : Dv} {ts : List (PyData×V)}
theorem Rw.drop {p : PyData×V} (r : Rw G0 H0 G H σ δ (p :: ts)) : Rw G0 H0 G H σ δ ts:={ r with tmp:=fun q hq => r.tmp q (.tail _ hq) }
theorem Rw.less {us : List (PyData×V)} (r : Rw G0 H0 G H σ δ ts) (h : ∀ p∈us,p∈ts) : Rw G0 H0 G H σ δ us:={ r with tmp:=fun q hq => r.tmp q (h q hq) }
theorem Rw.put {x : PyData} {v : V} (r : Rw G0 H0 G H σ δ ts) (h : Du G x v) : Rw G0 H0 G H σ δ ((x,v) :: ts):={ r with tmp:=fun q hq => by rcases List.mem_cons.mp hq with rfl | hq; exact h; exact r.tmp q hq }
theorem Rw.newObj {p : Addr} {o : HO} (r : Rw G0 H0 G H σ δ ts) (hp : H p = none) : Rw G0 H0 (upd G p o) (upd H p o) σ δ ts := by
  have hG : G p = none := by
    cases q : G p with
    | none => rfl
    | some u => rw [r.ins _ _ q] at hp; cases hp
  have h0 : H0 p = none := by
    cases q : H0 p with
    | none => rfl
    | some u => rw [r.keep _ _ q] at hp; cases hp
  have e : Same G (upd G p o):=same_new hG o
  refine ⟨r.ext.trans e,fun a u h => ?_,fun a u h => ?_,r.keep.trans (same_new hp o),r.len,fun i x h => ?_,fun i xs h => ?_,r.apart,fun q hq => (r.tmp q hq).same e⟩
  · by_cases ha : a = p
    · subst ha; exact .inr (.inl h0)
    · rw [upd_ne ha] at h; exact r.new _ _ h
  · by_cases ha : a = p
    · subst ha; rw [upd_same] at h ⊢; exact h
    · rw [upd_ne ha] at h ⊢; exact r.ins _ _ h
  · obtain ⟨v,k1,k2⟩:=r.dat i x h
    exact ⟨v,k1,k2.same e⟩
  · obtain ⟨a,ys,k1,k2,k3,k4,k5⟩:=r.own i xs h
    have ha : a≠p:=fun z => by subst z; rw [k4] at hp; cases hp
    exact ⟨a,ys,k1,by rw [upd_ne ha]; exact k2,k3,by rw [upd_ne ha]; exact k4,k5.same e⟩
theorem Rw.anyTup {p : Addr} {xs : List V} {H' : Hp} (r : Rw G0 H0 G H σ δ ts) (e : Same H H') (hp : H' p = some (.tup xs)) : Rw G0 H0 (upd G p (.tup xs)) H' σ δ ts := by
  have e1 : Same G (upd G p (.tup xs)):=fun a o h => by
    by_cases ha : a = p
    · subst ha
      have:=e _ _ (r.ins _ _ h)
      rw [hp] at this; rw [upd_same]; exact this
    · rw [upd_ne ha]; exact h
  refine ⟨r.ext.trans e1,fun a u h => ?_,fun a u h => ?_,r.keep.trans e,r.len,fun i x h => ?_,fun i xs h => ?_,r.apart,fun q hq => (r.tmp q hq).same e1⟩
  · by_cases ha : a = p
    · subst ha; rw [upd_same] at h; cases h; exact .inr (.inr ⟨_,rfl⟩)
    · rw [upd_ne ha] at h; exact r.new _ _ h
  · by_cases ha : a = p
    · subst ha; rw [upd_same] at h; rw [hp]; exact h
    · rw [upd_ne ha] at h; exact e _ _ (r.ins _ _ h)
  · obtain ⟨v,k1,k2⟩:=r.dat i x h
    exact ⟨v,k1,k2.same e1⟩
  · obtain ⟨a,ys,k1,k2,k3,k4,k5⟩:=r.own i xs h
    have ha : a≠p:=fun z => by subst z; rw [e _ _ k4] at hp; cases hp; exact k5.ntup
    exact ⟨a,ys,k1,by rw [upd_ne ha]; exact k2,k3,e _ _ k4,k5.same e1⟩
theorem Rw.lift {G' H' : Hp} (r : Rw G0 H0 G H σ δ ts) (h1 : Same G G') (h2 : Nw G H G') (h3 : Same G' H') (h4 : Same H H') : Rw G0 H0 G' H' σ δ ts := by
  refine ⟨r.ext.trans h1,fun a o h => ?_,h3,r.keep.trans h4,r.len,fun i x h => ?_,fun i xs h => ?_,r.apart,fun q hq => (r.tmp q hq).same h1⟩
  · rcases h2 a o h with k | k | k
    · exact r.new a o k
    · right; left
      cases q : H0 a with
      | none => rfl
      | some u => rw [r.keep _ _ q] at k; cases k
    · exact .inr (.inr k)
  · obtain ⟨v,k1,k2⟩:=r.dat i x h
    exact ⟨v,k1,k2.same h1⟩
  · obtain ⟨a,ys,k1,k2,k3,k4,k5⟩:=r.own i xs h
    refine ⟨a,ys,k1,?_,k3,h4 _ _ k4,k5.same h1⟩
    cases q : G' a with
    | none => rfl
    | some u =>
      rcases h2 a u q with z | z | ⟨xs',z⟩
      · rw [k2] at z; cases z
      · rw [k4] at z; cases z
      · have:=h3 _ _ q
        rw [h4 _ _ k4,z] at this; cases this; exact k5.ntup.elim
end
section
variable {X : Cx} {a b e : Expr}  {f g h : Dv→Option PyData} {pos : Pos}
theorem de_int {i j pos} : DE X (.Constant (.int i) j pos) (fun _ => some (.int i)):=⟨_,pe_int,fun δ x h G0 H0 G H σ ts Q r k => by cases h; exact k _ _ _ (r.put (by rw [Du]))⟩
theorem de_bl {i j pos} : DE X (.Constant (.bool i) j pos) (fun _ => some (.bool i)):=⟨_,pe_bl,fun δ x h G0 H0 G H σ ts Q r k => by cases h; exact k _ _ _ (r.put (by rw [Du]))⟩
theorem de_str {i j pos} : DE X (.Constant (.str i) j pos) (fun _ => some (.str i)):=⟨_,pe_str,fun δ x h G0 H0 G H σ ts Q r k => by cases h; exact k _ _ _ (r.put (by rw [Du]))⟩
def nm (i : Nat) (δ : Dv) : Option PyData:=match δ[i]? with | some (.d x) => some x | _ => none
theorem nm_eq {i : Nat} {δ : Dv} {x : PyData} (h : nm i δ = some x) : δ[i]? = some (.d x) := by
  unfold nm at h
  split at h
  · rename_i y e; cases h; exact e
  · cases h
theorem de_var {i : Nat} {x : Str} (h : PE X (.Name x pos) (tVar i)) : DE X (.Name x pos) (nm i):=⟨_,h,fun δ y hy G0 H0 G H σ ts Q r k => by
  obtain ⟨v,h1,h2⟩:=r.dat _ _ (nm_eq hy)
  exact ⟨v,h1,k _ _ _ (r.put h2)⟩⟩
def op2 (o : PyData→PyData→Option PyData) (f g : Dv→Option PyData) (δ : Dv) : Option PyData:=(f δ).bind fun x => (g δ).bind fun y => o x y
def DOp (X : Cx) (m : Value→Value→Sem Value) (o : PyData→PyData→Option PyData) : Prop:=∃ r : R2,OpR X m r∧∀ x y z,o x y = some z→∀ G0 H0 G H σ δ ts u v (Q : VK),Rw G0 H0 G H σ δ ts→Du G x u→Du G y v→(∀ w G' H',Rw G0 H0 G' H' σ δ ((z,w) :: ts)→Q w H')→r u v H Q
theorem two {x y : PyData} {f g : Dv→Option PyData} {δ : Dv} {o : PyData→PyData→Option PyData} {z : PyData} (h : op2 o f g δ = some z) : ∃ x y,f δ = some x∧g δ = some y∧o x y = some z := by
  unfold op2 at h
  obtain ⟨x,h1,h2⟩:=Option.bind_eq_some_iff.mp h
  obtain ⟨y,h3,h4⟩:=Option.bind_eq_some_iff.mp h2
  exact ⟨x,y,h1,h3,h4⟩
theorem de_op {op : Operator} {o : PyData→PyData→Option PyData} (ho : DOp X (binaryOp op) o) (ha : DE X a f) (hb : DE X b g) : DE X (.BinOp a op b pos) (op2 o f g) := by
  obtain ⟨r,hr,kr⟩:=ho
  obtain ⟨ta,pa,ka⟩:=ha
  obtain ⟨tb,pb,kb⟩:=hb
  refine ⟨_,pe_op hr pa pb,fun δ z hz G0 H0 G H σ ts Q R0 k => ?_⟩
  obtain ⟨x,y,h1,h2,h3⟩:=two (x:=.none) (y:=.none) hz
  refine ka δ x h1 G0 H0 G H σ ts _ R0 fun u G1 H1 R1 => ?_
  refine kb δ y h2 G0 H0 G1 H1 σ _ _ R1 fun v G2 H2 R2 => ?_
  exact kr x y z h3 G0 H0 G2 H2 σ δ ts u v Q (R2.drop.drop) (R2.tmp (x,u) (.tail _ (.head _))) (R2.tmp (y,v) (.head _)) k
theorem de_cmp {op : CmpOp} {o : PyData→PyData→Option PyData} (ho : DOp X (compareOp op) o) (ha : DE X a f) (hb : DE X b g) (hm : behindInMarks op b = false) : DE X (.Compare a [op] [b] pos) (op2 o f g) := by
  obtain ⟨r,hr,kr⟩:=ho
  obtain ⟨ta,pa,ka⟩:=ha
  obtain ⟨tb,pb,kb⟩:=hb
  refine ⟨_,pe_cmpR hr pa pb hm,fun δ z hz G0 H0 G H σ ts Q R0 k => ?_⟩
  obtain ⟨x,y,h1,h2,h3⟩:=two (x:=.none) (y:=.none) hz
  refine ka δ x h1 G0 H0 G H σ ts _ R0 fun u G1 H1 R1 => ?_
  refine kb δ y h2 G0 H0 G1 H1 σ _ _ R1 fun v G2 H2 R2 => ?_
  exact kr x y z h3 G0 H0 G2 H2 σ δ ts u v Q (R2.drop.drop) (R2.tmp (x,u) (.tail _ (.head _))) (R2.tmp (y,v) (.head _)) k
end
section
variable {X : Cx}
def orD (o o' : PyData→PyData→Option PyData) (x y : PyData) : Option PyData:=match o x y with | some z => some z | none => o' x y
theorem DOp.or {m : Value→Value→Sem Value} {o o' : PyData→PyData→Option PyData} (h : DOp X m o) (h' : DOp X m o') : DOp X m (orD o o') := by
  obtain ⟨r,hr,kr⟩:=h
  obtain ⟨r',hr',kr'⟩:=h'
  refine ⟨_,OpR.or hr hr',fun x y z hz G0 H0 G H σ δ ts u v Q R0 du dv k => ?_⟩
  unfold orD at hz
  split at hz
  · rename_i z' e
    cases hz
    exact .inl (kr x y z e G0 H0 G H σ δ ts u v Q R0 du dv k)
  · exact .inr (kr' x y z hz G0 H0 G H σ δ ts u v Q R0 du dv k)
theorem dop_int {m : Value→Value→Sem Value} {C : Int→Int→Prop} {gv : Int→Int→V} {o : Int→Int→Option PyData} (ho : OpR X m (rI C gv)) (hC : ∀ i j z,o i j = some z→C i j∧∀ H,Du H z (gv i j)) :
    DOp X m (fun x y => match x,y with | .int i,.int j => o i j | _,_ => none) := by
  refine ⟨_,ho,fun x y z hz G0 H0 G H σ δ ts u v Q R0 du dv k => ?_⟩
  dsimp only at hz
  split at hz
  · rename_i i j
    rw [Du] at du dv
    obtain ⟨h1,h2⟩:=hC i j z hz
    exact ⟨i,j,du,dv,h1,k _ _ _ (R0.put (h2 _))⟩
  · cases hz
theorem dop_int0 {m : Value→Value→Sem Value} {gv : Int→Int→V} {o : Int→Int→PyData} (ho : OpR X m (rI0 gv)) (hC : ∀ i j H,Du H (o i j) (gv i j)) :
    DOp X m (fun x y => match x,y with | .int i,.int j => some (o i j) | _,_ => none) := by
  refine ⟨_,ho,fun x y z hz G0 H0 G H σ δ ts u v Q R0 du dv k => ?_⟩
  dsimp only at hz
  split at hz
  · rename_i i j
    cases hz
    rw [Du] at du dv
    exact ⟨i,j,du,dv,k _ _ _ (R0.put (hC _ _ _))⟩
  · cases hz
def dMax : Nat:=1000
theorem dMax_lt {n : Nat} (h : n≤dMax) : n < sizeLine:=small1000 h
theorem dMax_le {n : Nat} (h : n≤dMax) : n≤sizeLine:=Nat.le_of_lt (small1000 h)
def iAdd : PyData→PyData→Option PyData:=fun x y => match x,y with | .int i,.int j => some (.int (i + j)) | _,_ => none
def iSub : PyData→PyData→Option PyData:=fun x y => match x,y with | .int i,.int j => some (.int (i - j)) | _,_ => none
def fitI (n : Nat) (i : Int) : Bool:=decide (i.natAbs < 2 ^ n)
def mulOk (i j : Int) : Bool:=fitI 64 i || fitI 64 j || (fitI 9000 i && fitI 9000 j)
def iMul : PyData→PyData→Option PyData:=fun x y => match x,y with | .int i,.int j => (if mulOk i j = true then some (.int (i * j)) else none) | _,_ => none
def iDiv : PyData→PyData→Option PyData:=fun x y => match x,y with | .int i,.int j => (if j≠0∧fitI 9000 j = true then some (.int (i.fdiv j)) else none) | _,_ => none
def iMod : PyData→PyData→Option PyData:=fun x y => match x,y with | .int i,.int j => (if j≠0 then some (.int (i.fmod j)) else none) | _,_ => none
def iPow : PyData→PyData→Option PyData:=fun x y => match x,y with | .int i,.int j => (if 0≤j∧j≤1000∧fitI 64 i = true then some (.int (i ^ j.toNat)) else none) | _,_ => none
theorem do_iAdd : DOp X (binaryOp .Add) iAdd:=dop_int0 op_add fun _ _ _ => by rw [Du]
theorem do_iSub : DOp X (binaryOp .Sub) iSub:=dop_int0 op_sub fun _ _ _ => by rw [Du]
theorem fit64 {i : Int} (h : fitI 64 i = true) : -(2 ^ 64) < i∧i < 2 ^ 64 := by
  have:=of_decide_eq_true h
  omega
theorem do_iMul : DOp X (binaryOp .Mult) iMul:=dop_int (o:=fun i j => if mulOk i j = true then some (.int (i * j)) else none) op_mulW fun i j z h => by
  split at h
  · rename_i q
    cases h
    refine ⟨?_,fun _ => by rw [Du]⟩
    unfold mulOk at q
    rw [Bool.or_eq_true,Bool.or_eq_true,Bool.and_eq_true] at q
    rcases q with (q | q) | q
    · exact .inl (.inl (fit64 q))
    · exact .inl (.inr (fit64 q))
    · exact .inr ⟨9000,by decide,of_decide_eq_true q.1,of_decide_eq_true q.2⟩
  · cases h
theorem do_iDiv : DOp X (binaryOp .FloorDiv) iDiv:=dop_int (o:=fun i j => if j≠0∧fitI 9000 j = true then some (.int (i.fdiv j)) else none) op_fdivW fun i j z h => by
  split at h
  · rename_i q
    cases h
    exact ⟨⟨q.1,9000,Nat.le_refl _,of_decide_eq_true q.2⟩,fun _ => by rw [Du]⟩
  · cases h
theorem do_iMod : DOp X (binaryOp .Mod) iMod:=dop_int (o:=fun i j => if j≠0 then some (.int (i.fmod j)) else none) op_modN fun i j z h => by
  split at h
  · rename_i q
    cases h
    exact ⟨q,fun _ => by rw [Du]⟩
  · cases h
theorem do_iPow : DOp X (binaryOp .Pow) iPow:=dop_int (o:=fun i j => if 0≤j∧j≤1000∧fitI 64 i = true then some (.int (i ^ j.toNat)) else none) op_pow fun i j z h => by
  split at h
  · rename_i q
    cases h
    exact ⟨⟨q.1,by omega,of_decide_eq_true q.2.2⟩,fun _ => by rw [Du]⟩
  · cases h
def iCmp (p : Int→Int→Bool) : PyData→PyData→Option PyData:=fun x y => match x,y with | .int i,.int j => some (.bool (p i j)) | _,_ => none
theorem do_lt : DOp X (compareOp .Lt) (iCmp fun i j => decide (i < j)):=dop_int0 (o:=fun i j => .bool (decide (i < j))) op_lt fun _ _ _ => by rw [Du]
theorem do_gt : DOp X (compareOp .Gt) (iCmp fun i j => decide (j < i)):=dop_int0 (o:=fun i j => .bool (decide (j < i))) op_gt fun _ _ _ => by rw [Du]
theorem do_ge : DOp X (compareOp .GtE) (iCmp fun i j => decide (j≤i)):=dop_int0 (o:=fun i j => .bool (decide (j≤i))) op_ge fun _ _ _ => by rw [Du]
def lAdd : PyData→PyData→Option PyData:=fun x y => match x,y with | .list a,.list b => (if a.length + b.length≤dMax then some (.list (a ++ b)) else none) | _,_ => none
theorem do_lAdd : DOp X (binaryOp .Add) lAdd := by
  refine ⟨_,op_cat,fun x y z hz G0 H0 G H σ δ ts u v Q R0 du dv k => ?_⟩
  unfold lAdd at hz
  split at hz
  · rename_i a b
    split at hz
    · rename_i hl
      cases hz
      rw [Du] at du dv
      obtain ⟨p,xs,rfl,h1,h2⟩:=du
      obtain ⟨q,ys,rfl,h3,h4⟩:=dv
      refine ⟨p,q,xs,ys,rfl,rfl,R0.ins _ _ h1,R0.ins _ _ h3,dMax_le (by rw [h2.len,h4.len]; exact hl),fun l hl' => ?_⟩
      have R1:=R0.newObj (o:=.lst (xs ++ ys)) hl'
      refine k _ _ _ (R1.put ?_)
      rw [Du]
      have e : Same G (upd G l (.lst (xs ++ ys))):=fun a o h => by
        have:=R0.ins _ _ h
        rw [upd_ne (ne_of_none this hl')]; exact h
      exact ⟨l,xs ++ ys,rfl,upd_same,(h2.same e).app (h4.same e)⟩
    · cases hz
  · cases hz
def tAdd' : PyData→PyData→Option PyData:=fun x y => match x,y with | .tuple a,.tuple b => (if a.length + b.length≤dMax then some (.tuple (a ++ b)) else none) | _,_ => none
theorem do_tAdd : DOp X (binaryOp .Add) tAdd' := by
  refine ⟨_,op_catA,fun x y z hz G0 H0 G H σ δ ts u v Q R0 du dv k => ?_⟩
  unfold tAdd' at hz
  split at hz
  · rename_i a b
    split at hz
    · rename_i hl
      cases hz
      rw [Du] at du dv
      obtain ⟨p,xs,rfl,h1,h2⟩:=du
      obtain ⟨q,ys,rfl,h3,h4⟩:=dv
      refine ⟨p,q,xs,ys,rfl,rfl,R0.ins _ _ h1,R0.ins _ _ h3,dMax_le (by rw [h2.len,h4.len]; exact hl),fun l H' e hp => ?_⟩
      have R1:=R0.anyTup e hp
      refine k _ _ _ (R1.put ?_)
      rw [Du]
      have e1 : Same G (upd G l (.tup (xs ++ ys))):=fun a o h => by
        by_cases ha : a = l
        · subst ha
          have:=e _ _ (R0.ins _ _ h)
          rw [hp] at this; rw [upd_same]; exact this
        · rw [upd_ne ha]; exact h
      exact ⟨l,xs ++ ys,rfl,upd_same,(h2.same e1).app (h4.same e1)⟩
    · cases hz
  · cases hz
def sAdd : PyData→PyData→Option PyData:=fun x y => match x,y with | .str a,.str b => (if a.length + b.length≤dMax then some (.str (a ++ b)) else none) | _,_ => none
theorem do_sAdd : DOp X (binaryOp .Add) sAdd := by
  refine ⟨_,op_add_str,fun x y z hz G0 H0 G H σ δ ts u v Q R0 du dv k => ?_⟩
  unfold sAdd at hz
  split at hz
  · rename_i a b
    split at hz
    · rename_i hl
      cases hz
      rw [Du] at du dv
      exact ⟨a,b,du,dv,dMax_le hl,k _ _ _ (R0.put (by rw [Du]))⟩
    · cases hz
  · cases hz
def dAdd : PyData→PyData→Option PyData:=orD iAdd (orD lAdd (orD tAdd' sAdd))
theorem do_add : DOp X (binaryOp .Add) dAdd:=do_iAdd.or (do_lAdd.or (do_tAdd.or do_sAdd))
def lRep : PyData→PyData→Option PyData:=fun x y => match x,y with | .list a,.int k => (if a.length * k.toNat≤dMax∧-1000000≤k∧k≤1000000 then some (.list (List.replicate k.toNat a).flatten) else none) | _,_ => none
theorem DuA.rep {H : Hp} {ds : List PyData} {xs : List V} (h : DuA H ds xs) : ∀ n,DuA H (List.replicate n ds).flatten (List.replicate n xs).flatten
  | 0 => .nil
  | n + 1 => by rw [List.replicate_succ,List.replicate_succ,List.flatten_cons,List.flatten_cons]; exact h.app (h.rep n)
theorem do_lRep : DOp X (binaryOp .Mult) lRep := by
  refine ⟨_,op_rep,fun x y z hz G0 H0 G H σ δ ts u v Q R0 du dv k => ?_⟩
  unfold lRep at hz
  split at hz
  · rename_i a n
    split at hz
    · rename_i hl
      cases hz
      rw [Du] at du; rw [Du] at dv
      obtain ⟨p,xs,rfl,h1,h2⟩:=du
      subst dv
      refine ⟨p,n,xs,rfl,rfl,R0.ins _ _ h1,by omega,by omega,dMax_le (by rw [h2.len]; exact hl.1),fun l hl' => ?_⟩
      have R1:=R0.newObj (o:=.lst (List.replicate n.toNat xs).flatten) hl'
      refine k _ _ _ (R1.put ?_)
      rw [Du]
      have e : Same G (upd G l (.lst (List.replicate n.toNat xs).flatten)):=fun a o h => by
        have:=R0.ins _ _ h
        rw [upd_ne (ne_of_none this hl')]; exact h
      exact ⟨l,_,rfl,upd_same,(h2.same e).rep _⟩
    · cases hz
  · cases hz
def dMul : PyData→PyData→Option PyData:=orD iMul lRep
theorem do_mul : DOp X (binaryOp .Mult) dMul:=do_iMul.or do_lRep
theorem canLay_of {d : PyData} (h : SeqAt.shaped d = true) : d.canLay0 = true := by unfold SeqAt.shaped at h; rw [Bool.and_eq_true] at h; exact h.1
def dEq (neg : Bool) : PyData→PyData→Option PyData:=fun x y => if SeqAt.shaped x = true∧SeqAt.shaped y = true then some (.bool (if neg then !PyData.eqv x y else PyData.eqv x y)) else none
theorem do_eqG {m : Value→Value→Sem Value} {neg : Bool} (ho : OpR X m (rEqD X.K neg)) : DOp X m (dEq neg) := by
  refine ⟨_,ho,fun x y z hz G0 H0 G H σ δ ts u v Q R0 du dv k => ?_⟩
  unfold dEq at hz
  split at hz
  · rename_i hs
    cases hz
    exact ⟨x,y,(du.same R0.ins).br (canLay_of hs.1),(dv.same R0.ins).br (canLay_of hs.2),hs.1,hs.2,k _ _ _ (R0.put (by rw [Du]))⟩
  · cases hz
theorem do_eq (hu : X.A.units + 64 < cLine) : DOp X (compareOp .Eq) (dEq false):=do_eqG (op_eqD hu)
theorem do_ne (hu : X.A.units + 64 < cLine) : DOp X (compareOp .NotEq) (dEq true):=do_eqG (op_neD hu)
end
section
variable {X : Cx} {a b c e : Expr} {es : List Expr} {f g h : Dv→Option PyData} {pos p : Pos}
def asB : PyData→Option Bool
  | .bool b => some b
  | _ => none
def asI : PyData→Option Int
  | .int b => some b
  | _ => none
theorem asB_eq {x : PyData} {b : Bool} (h : asB x = some b) : x = .bool b := by
  unfold asB at h; split at h
  · cases h; rfl
  · cases h
theorem asI_eq {x : PyData} {b : Int} (h : asI x = some b) : x = .int b := by
  unfold asI at h; split at h
  · cases h; rfl
  · cases h
theorem de_neg (ha : DE X a f) : DE X (.UnaryOp .USub a pos) (fun δ => (f δ).bind fun x => (asI x).map fun i => .int (-i)) := by
  obtain ⟨ta,pa,ka⟩:=ha
  refine ⟨_,pe_un un_neg pa,fun δ z hz G0 H0 G H σ ts Q R0 k => ?_⟩
  obtain ⟨x,h1,h2⟩:=Option.bind_eq_some_iff.mp hz
  obtain ⟨i,h3,rfl⟩:=Option.map_eq_some_iff.mp h2
  have:=asI_eq h3; subst this
  refine ka δ _ h1 G0 H0 G H σ ts _ R0 fun u G1 H1 R1 => ?_
  have:=R1.tmp _ (.head _)
  rw [Du] at this
  exact ⟨i,this,k _ _ _ (R1.drop.put (by rw [Du]))⟩
variable {fa fb : Dv→Option Bool}
def DW (X : Cx) (e : Expr) (f : Dv→Option Bool) : Prop:=∃ t,PW X e t∧∀ δ b,f δ = some b→∀ G0 H0 G H σ ts (Q : Bool→Hp→Prop),Rw G0 H0 G H σ δ ts→(∀ G' H',Rw G0 H0 G' H' σ δ ts→Q b H')→t σ H Q
theorem DW.dt (h : DW X e fa) : DT X e fa:=let ⟨t,p,k⟩:=h; ⟨t,p.pt,k⟩
theorem dt_cmp {op : CmpOp} {o : PyData→PyData→Option PyData} (ho : DOp X (compareOp op) o) (ha : DE X a f) (hb : DE X b g) (hm : behindInMarks op b = false) : DT X (.Compare a [op] [b] pos) (fun δ => (op2 o f g δ).bind asB) := by
  obtain ⟨r,hr,kr⟩:=ho
  obtain ⟨ta,pa,ka⟩:=ha
  obtain ⟨tb,pb,kb⟩:=hb
  refine ⟨_,pt_cmpR hr pa pb hm,fun δ z hz G0 H0 G H σ ts Q R0 k => ?_⟩
  obtain ⟨q,h0,h4⟩:=Option.bind_eq_some_iff.mp hz
  have:=asB_eq h4; subst this
  obtain ⟨x,y,h1,h2,h3⟩:=two (x:=.none) (y:=.none) h0
  refine ka δ x h1 G0 H0 G H σ ts _ R0 fun u G1 H1 R1 => ?_
  refine kb δ y h2 G0 H0 G1 H1 σ _ _ R1 fun v G2 H2 R2 => ?_
  refine kr x y _ h3 G0 H0 G2 H2 σ δ ts u v _ (R2.drop.drop) (R2.tmp (x,u) (.tail _ (.head _))) (R2.tmp (y,v) (.head _)) fun w G3 H3 R3 => ?_
  have hu:=R3.tmp _ (.head _)
  rw [Du] at hu
  exact ⟨z,hu,k _ _ R3.drop⟩
theorem dt_val (ha : DE X e f) (he : ∀ whole,isTrue e X.env whole = (do let v ← whole; standAt e.pos; holding [v] (truthy v)) := by intro _; rfl) : DT X e (fun δ => (f δ).bind asB) := by
  obtain ⟨ta,pa,ka⟩:=ha
  refine ⟨_,pt_val pa he,fun δ z hz G0 H0 G H σ ts Q R0 k => ?_⟩
  obtain ⟨q,h0,h4⟩:=Option.bind_eq_some_iff.mp hz
  have:=asB_eq h4; subst this
  refine ka δ _ h0 G0 H0 G H σ ts _ R0 fun u G1 H1 R1 => ?_
  have hu:=R1.tmp _ (.head _)
  rw [Du] at hu
  exact ⟨z,hu,k _ _ R1.drop⟩
theorem dt_not (ha : DT X a fa) : DT X (.UnaryOp .Not a pos) (fun δ => (fa δ).map fun c => !c) := by
  obtain ⟨ta,pa,ka⟩:=ha
  refine ⟨_,pt_not pa,fun δ z hz G0 H0 G H σ ts Q R0 k => ?_⟩
  obtain ⟨i,h3,rfl⟩:=Option.map_eq_some_iff.mp hz
  exact ka δ _ h3 G0 H0 G H σ ts _ R0 fun G1 H1 R1 => k _ _ R1
theorem dw_one {op : BoolOp} (ha : DT X a fa) : DW X (.BoolOp op [a] pos) fa := by
  obtain ⟨ta,pa,ka⟩:=ha
  cases op
  · exact ⟨_,pw_and1 pa,ka⟩
  · exact ⟨_,pw_or1 pa,ka⟩
theorem dw_or {rest : List Expr} (ha : DT X a fa) (hb : DW X (.BoolOp .Or (b :: rest) pos) fb) : DW X (.BoolOp .Or (a :: b :: rest) pos) (fun δ => (fa δ).bind fun c => if c = true then some true else fb δ) := by
  obtain ⟨ta,pa,ka⟩:=ha
  obtain ⟨tb,pb,kb⟩:=hb
  refine ⟨_,pw_or pa pb,fun δ z hz G0 H0 G H σ ts Q R0 k => ?_⟩
  obtain ⟨i,h3,h4⟩:=Option.bind_eq_some_iff.mp hz
  refine ka δ _ h3 G0 H0 G H σ ts _ R0 fun G1 H1 R1 => ?_
  split
  · rename_i hc
    rw [if_pos hc] at h4; cases h4
    exact k _ _ R1
  · rename_i hc
    rw [if_neg hc] at h4
    exact kb δ z h4 G0 H0 G1 H1 σ ts Q R1 k
theorem de_if (hc : DT X c fa) (ha : DE X a f) (hb : DE X b g) : DE X (.IfExp c a b pos) (fun δ => (fa δ).bind fun c => if c = true then f δ else g δ) := by
  obtain ⟨tc,pc,kc⟩:=hc
  obtain ⟨ta,pa,ka⟩:=ha
  obtain ⟨tb,pb,kb⟩:=hb
  refine ⟨_,pe_ifExp pc pa pb,fun δ z hz G0 H0 G H σ ts Q R0 k => ?_⟩
  obtain ⟨i,h3,h4⟩:=Option.bind_eq_some_iff.mp hz
  refine kc δ _ h3 G0 H0 G H σ ts _ R0 fun G1 H1 R1 => ?_
  split
  · rename_i hc
    rw [if_pos hc] at h4
    exact ka δ z h4 G0 H0 G1 H1 σ ts Q R1 k
  · rename_i hc
    rw [if_neg hc] at h4
    exact kb δ z h4 G0 H0 G1 H1 σ ts Q R1 k
variable {fs : Dv→Option (List PyData)}
theorem da_nil : DA X [] (fun _ => some []):=⟨_,pa_nil,fun δ xs h G0 H0 G H σ ts Q R0 k => by cases h; exact k [] G H (by simpa using R0) rfl⟩
theorem da_cons (ha : DE X e f) (hr : DA X es fs) (hs : starEach (e :: es) X.env = (false,eval e X.env) :: starEach es X.env := by rfl) : DA X (e :: es) (fun δ => (f δ).bind fun x => (fs δ).map fun xs => x :: xs) := by
  obtain ⟨ta,pa,ka⟩:=ha
  obtain ⟨tr,pr,kr⟩:=hr
  refine ⟨_,pa_cons pa pr hs,fun δ z hz G0 H0 G H σ ts Q R0 k => ?_⟩
  obtain ⟨x,h1,h2⟩:=Option.bind_eq_some_iff.mp hz
  obtain ⟨xs,h3,rfl⟩:=Option.map_eq_some_iff.mp h2
  refine ka δ x h1 G0 H0 G H σ ts _ R0 fun u G1 H1 R1 => ?_
  refine kr δ xs h3 G0 H0 G1 H1 σ _ _ R1 fun vs G2 H2 R2 hl => ?_
  refine k (u :: vs) G2 H2 (R2.less fun q hq => ?_) (by simp [hl])
  simp only [List.zip_cons_cons,List.cons_append,List.mem_cons,List.mem_append] at hq ⊢
  rcases hq with h | h | h
  · exact .inr (.inl h)
  · exact .inl h
  · exact .inr (.inr h)
theorem duA_of {G : Hp} : ∀ {xs : List PyData} {vs : List V},vs.length = xs.length→(∀ q∈xs.zip vs,Du G q.1 q.2)→DuA G xs vs
  | [],vs,hl,_ => by rw [List.eq_nil_of_length_eq_zero hl]; exact .nil
  | x :: xs,[],hl,_ => by simp at hl
  | x :: xs,v :: vs,hl,h => .cons (h (x,v) (by simp)) (duA_of (by simpa using hl) fun q hq => h q (by simp [hq]))
theorem Rw.args {G0 H0 G H : Hp} {σ : St} {δ : Dv} {ts : List (PyData×V)} {xs : List PyData} {vs : List V} (r : Rw G0 H0 G H σ δ (xs.zip vs ++ ts)) (hl : vs.length = xs.length) : DuA G xs vs∧Rw G0 H0 G H σ δ ts :=
  ⟨duA_of hl fun q hq => r.tmp q (List.mem_append_left _ hq),r.less fun q hq => List.mem_append_right _ hq⟩
theorem Rw.newL {G0 H0 G H : Hp} {σ : St} {δ : Dv} {ts : List (PyData×V)} {xs : List PyData} {vs : List V} {p : Addr} (r : Rw G0 H0 G H σ δ ts) (d : DuA G xs vs) (hp : H p = none) : Rw G0 H0 (upd G p (.lst vs)) (upd H p (.lst vs)) σ δ ((.list xs,.ref p) :: ts) := by
  refine (r.newObj hp).put ?_
  have e : Same G (upd G p (.lst vs)):=fun a o h => by rw [upd_ne (ne_of_none (r.ins _ _ h) hp)]; exact h
  rw [Du]
  exact ⟨p,vs,rfl,upd_same,d.same e⟩
theorem Rw.newT {G0 H0 G H : Hp} {σ : St} {δ : Dv} {ts : List (PyData×V)} {xs : List PyData} {vs : List V} {p : Addr} (r : Rw G0 H0 G H σ δ ts) (d : DuA G xs vs) (hp : H p = none) : Rw G0 H0 (upd G p (.tup vs)) (upd H p (.tup vs)) σ δ ((.tuple xs,.ref p) :: ts) := by
  refine (r.newObj hp).put ?_
  have e : Same G (upd G p (.tup vs)):=fun a o h => by rw [upd_ne (ne_of_none (r.ins _ _ h) hp)]; exact h
  rw [Du]
  exact ⟨p,vs,rfl,upd_same,d.same e⟩
def few (xs : List PyData) : Option (List PyData):=if xs.length≤dMax then some xs else none
theorem few_eq {xs ys : List PyData} (h : few xs = some ys) : xs = ys∧xs.length≤dMax := by
  unfold few at h; split at h
  · rename_i q; cases h; exact ⟨rfl,q⟩
  · cases h
theorem de_tup {x1} (ha : DA X es fs) : DE X (.Tuple es x1 pos) (fun δ => ((fs δ).bind few).map .tuple) := by
  obtain ⟨ta,pa,ka⟩:=ha
  refine ⟨_,pe_tup pa,fun δ z hz G0 H0 G H σ ts Q R0 k => ?_⟩
  obtain ⟨ys,h1,rfl⟩:=Option.map_eq_some_iff.mp hz
  obtain ⟨xs,h2,h3⟩:=Option.bind_eq_some_iff.mp h1
  obtain ⟨rfl,hl⟩:=few_eq h3
  refine ka δ _ h2 G0 H0 G H σ ts _ R0 fun vs G1 H1 R1 hv => ?_
  obtain ⟨d,R2⟩:=R1.args hv
  exact ⟨dMax_le (by rw [hv]; exact hl),fun q hq => k _ _ _ (R2.newT d hq)⟩
theorem de_lst (ha : DA X es fs) : DE X (.List es pos) (fun δ => ((fs δ).bind few).map .list) := by
  obtain ⟨ta,pa,ka⟩:=ha
  refine ⟨_,pe_lst pa,fun δ z hz G0 H0 G H σ ts Q R0 k => ?_⟩
  obtain ⟨ys,h1,rfl⟩:=Option.map_eq_some_iff.mp hz
  obtain ⟨xs,h2,h3⟩:=Option.bind_eq_some_iff.mp h1
  obtain ⟨rfl,hl⟩:=few_eq h3
  refine ka δ _ h2 G0 H0 G H σ ts _ R0 fun vs G1 H1 R1 hv => ?_
  obtain ⟨d,R2⟩:=R1.args hv
  exact ⟨dMax_le (by rw [hv]; exact hl),fun q hq => k _ _ _ (R2.newL d hq)⟩
theorem DuA.atI {H : Hp} {ds : List PyData} {xs : List V} {i : Int} {d : PyData} (h : DuA H ds xs) (e : atI ds i = some d) : ∃ v,atI xs i = some v∧Du H d v := by
  unfold L2.atI at e ⊢
  rw [h.len]
  obtain ⟨j,h1,h2⟩:=Option.bind_eq_some_iff.mp e
  obtain ⟨v,h3,h4⟩:=h.get h2
  exact ⟨v,by rw [h1]; exact h3,h4⟩
theorem duA_intsG {G : Hp} : ∀ ns : List Int,DuA G (ns.map .int) (ns.map V.int)
  | [] => .nil
  | n :: ns => .cons (by rw [Du]) (duA_intsG ns)
def dIx : PyData→PyData→Option PyData:=fun x y => match x,y with
  | .list xs,.int i => atI xs i
  | .tuple xs,.int i => atI xs i
  | .dict [(.none,.list xs)],.int i => atI xs i
  | .str z,.int i => if z.length≤dMax then (atI z.cps.toList i).map fun c => .str ⟨#[c]⟩ else none
  | _,_ => none
theorem de_ix (ha : DE X a f) (hb : DE X b g) (hs : PlainIx b) : DE X (.Subscript a b pos) (op2 dIx f g) := by
  obtain ⟨ta,pa,ka⟩:=ha
  obtain ⟨tb,pb,kb⟩:=hb
  refine ⟨_,pe_ix ix_seq pa pb hs,fun δ z hz G0 H0 G H σ ts Q R0 k => ?_⟩
  obtain ⟨x,y,h1,h2,h3⟩:=two (x:=.none) (y:=.none) hz
  refine ka δ x h1 G0 H0 G H σ ts _ R0 fun u G1 H1 R1 => ?_
  refine kb δ y h2 G0 H0 G1 H1 σ _ _ R1 fun v G2 H2 R2 => ?_
  have du:=R2.tmp (x,u) (.tail _ (.head _))
  have dv:=R2.tmp (y,v) (.head _)
  unfold dIx at h3
  split at h3
  · rw [Du] at du; rw [Du] at dv
    obtain ⟨p,xs,rfl,h4,h5⟩:=du
    obtain ⟨w,h6,h7⟩:=h5.atI h3
    exact .inl ⟨p,xs,_,w,rfl,dv,SqL.of (R2.ins _ _ h4),h6,k _ _ _ (R2.drop.drop.put h7)⟩
  · rw [Du] at du; rw [Du] at dv
    obtain ⟨p,xs,rfl,h4,h5⟩:=du
    obtain ⟨w,h6,h7⟩:=h5.atI h3
    exact .inr (.inl ⟨p,xs,_,w,rfl,dv,SqT.of (R2.ins _ _ h4),h6,k _ _ _ (R2.drop.drop.put h7)⟩)
  · rw [Du] at du; rw [Du] at dv
    rcases du with ⟨ea,C,e1,_⟩ | ⟨p,ns,e1,rfl,h4⟩ | z
    rotate_left 2
    · rw [DuM] at z; cases z.1
    · simp at e1
    · obtain rfl : _ = ns.map PyData.int := by simpa using e1
      obtain ⟨w,h6,h7⟩:=(duA_intsG (G:=_) ns).atI h3
      exact .inl ⟨p,_,_,w,rfl,dv,.inl (h4.same R2.ins),h6,k _ _ _ (R2.drop.drop.put h7)⟩
  · rw [Du] at du; rw [Du] at dv
    split at h3
    · rename_i hl
      obtain ⟨ch,h6,rfl⟩:=Option.map_eq_some_iff.mp h3
      exact .inr (.inr ⟨_,_,ch,du,dv,dMax_le hl,h6,k _ _ _ (R2.drop.drop.put (by rw [Du]))⟩)
    · cases h3
  · cases h3
end
def spD (g : List PyData→Option PyData) : Sp:=fun vs H Q _ => ∃ ds x G,g ds = some x∧DuA G ds vs∧Same G H∧∀ v G' H',Same G G'→Nw G H G'→Same G' H'→Same H H'→Du G' x v→Q v H'
section
variable {X : Cx} {a e : Expr} {es : List Expr} {f h : Dv→Option PyData} {fs : Dv→Option (List PyData)} {pos p : Pos}
theorem de_call {k : Nat} {fA : Addr} {fd : FuncData} {ps : List Str} {m : List PyData→Option PyData} {x : Str} {st : Stmt} (T : Fn X.K X.mg x st ps fA fd) (F : FnOk X.prog X.w X.K X.mg X.base CX0 k fA fd ps (spD m)) (hr : Room k X.A) (hg : Gl X x) (ha : DA X (e :: es) fs)
    (hdb : (x == ("__debug__" : Str)) = false := by decide) (he : starEach (e :: es) X.env = (false,eval e X.env) :: starEach es X.env := by rfl) (hpl : (backTo pos (starEach es X.env)).any (·.1) = false := by rfl) :
    DE X (.Call (.Name x p) (e :: es) [] pos) (fun δ => (fs δ).bind m) := by
  obtain ⟨ta,pa,ka⟩:=ha
  refine ⟨_,pe_fn T F hr hg pa hdb he hpl,fun δ z hz G0 H0 G H σ ts Q R0 k => ?_⟩
  obtain ⟨xs,h1,h2⟩:=Option.bind_eq_some_iff.mp hz
  refine ka δ _ h1 G0 H0 G H σ ts _ R0 fun vs G1 H1 R1 hv => ?_
  obtain ⟨d,R2⟩:=R1.args hv
  refine ⟨xs,z,G1,h2,by rw [List.append_nil]; exact d,R2.ins,fun v G' H' h3 h4 h5 h6 h7 => ?_⟩
  exact k _ _ _ ((R2.lift h3 h4 h5 h6).put h7)
def DCall (X : Cx) (v : Value) (o : List PyData→Option PyData) : Prop:=∃ r,CallR X v r∧∀ xs z,o xs = some z→∀ G0 H0 G H σ δ ts us (Q : VK),Rw G0 H0 G H σ δ ts→DuA G xs us→(∀ w G' H',Rw G0 H0 G' H' σ δ ((z,w) :: ts)→Q w H')→r us H Q
theorem de_callB {x : Str} {id : String} {o : List PyData→Option PyData} (hc : DCall X (.builtin id) o) (hg : Gl X x) (hm : X.mg x = none) (hv : bootBuiltins x = some (.builtin id)) (ha : DA X (e :: es) fs) (hn : x ≠ "__name__" := by decide) (hdb : (x == ("__debug__" : Str)) = false := by decide)
    (he : starEach (e :: es) X.env = (false,eval e X.env) :: starEach es X.env := by rfl) (hpl : (backTo pos (starEach es X.env)).any (·.1) = false := by rfl) : DE X (.Call (.Name x p) (e :: es) [] pos) (fun δ => (fs δ).bind o) := by
  obtain ⟨r,hr,kr⟩:=hc
  obtain ⟨ta,pa,ka⟩:=ha
  refine ⟨_,pe_callB hr hg hm hv pa hn hdb he hpl,fun δ z hz G0 H0 G H σ ts Q R0 k => ?_⟩
  obtain ⟨xs,h1,h2⟩:=Option.bind_eq_some_iff.mp hz
  refine ka δ _ h1 G0 H0 G H σ ts _ R0 fun vs G1 H1 R1 hv => ?_
  obtain ⟨d,R2⟩:=R1.args hv
  exact kr xs z h2 G0 H0 G1 H1 σ δ ts vs Q R2 d k
theorem de_callTy {x : Str} {T : String} {o : List PyData→Option PyData} (hc : DCall X (.type T) o) (hg : Gl X x) (hm : X.mg x = none) (hv : bootBuiltins x = some (.type T)) (ha : DA X (e :: es) fs) (hn : x ≠ "__name__" := by decide) (hdb : (x == ("__debug__" : Str)) = false := by decide)
    (he : starEach (e :: es) X.env = (false,eval e X.env) :: starEach es X.env := by rfl) (hpl : (backTo pos (starEach es X.env)).any (·.1) = false := by rfl) : DE X (.Call (.Name x p) (e :: es) [] pos) (fun δ => (fs δ).bind o) := by
  obtain ⟨r,hr,kr⟩:=hc
  obtain ⟨ta,pa,ka⟩:=ha
  refine ⟨_,pe_callTy hr hg hm hv pa hn hdb he hpl,fun δ z hz G0 H0 G H σ ts Q R0 k => ?_⟩
  obtain ⟨xs,h1,h2⟩:=Option.bind_eq_some_iff.mp hz
  refine ka δ _ h1 G0 H0 G H σ ts _ R0 fun vs G1 H1 R1 hv => ?_
  obtain ⟨d,R2⟩:=R1.args hv
  exact kr xs z h2 G0 H0 G1 H1 σ δ ts vs Q R2 d k
theorem DuA.un1 {H : Hp} {d : PyData} {xs : List V} (h : DuA H [d] xs) : ∃ x,xs = [x]∧Du H d x := by
  obtain ⟨x,r,rfl,h1,h2⟩:=h.un
  rw [h2.nil_eq]; exact ⟨x,rfl,h1⟩
theorem DuA.un2 {H : Hp} {d e : PyData} {xs : List V} (h : DuA H [d,e] xs) : ∃ x y,xs = [x,y]∧Du H d x∧Du H e y := by
  obtain ⟨x,r,rfl,h1,h2⟩:=h.un
  obtain ⟨y,rfl,h3⟩:=h2.un1; exact ⟨x,y,rfl,h1,h3⟩
def dLen : List PyData→Option PyData
  | [.list xs] => some (.int xs.length)
  | [.tuple xs] => some (.int xs.length)
  | [.dict [(.none,.list xs)]] => some (.int xs.length)
  | _ => none
theorem dc_len : DCall X (.builtin "len") dLen := by
  refine ⟨_,call_len_seq,fun xs z hz G0 H0 G H σ δ ts us Q R0 d k => ?_⟩
  unfold dLen at hz
  split at hz
  · cases hz
    obtain ⟨u,rfl,du⟩:=d.un1
    rw [Du] at du
    obtain ⟨p,ys,rfl,h4,h5⟩:=du
    refine ⟨p,ys,rfl,.inl (SqL.of (R0.ins _ _ h4)),?_⟩
    rw [h5.len]
    exact k _ _ _ (R0.put (by rw [Du]))
  · cases hz
    obtain ⟨u,rfl,du⟩:=d.un1
    rw [Du] at du
    obtain ⟨p,ys,rfl,h4,h5⟩:=du
    refine ⟨p,ys,rfl,.inr (SqT.of (R0.ins _ _ h4)),?_⟩
    rw [h5.len]
    exact k _ _ _ (R0.put (by rw [Du]))
  · cases hz
    obtain ⟨u,rfl,du⟩:=d.un1
    rw [Du] at du
    rcases du with ⟨ea,C,e1,_⟩ | ⟨p,ns,e1,rfl,h4⟩ | z
    rotate_left 2
    · rw [DuM] at z; cases z.1
    · simp at e1
    · obtain rfl : _ = ns.map PyData.int := by simpa using e1
      refine ⟨p,_,rfl,.inl (.inl (h4.same R0.ins)),?_⟩
      rw [List.length_map] at k ⊢
      exact k _ _ _ (R0.put (by rw [Du]))
  · cases hz
def dTupleOf : List PyData→Option PyData
  | [.list xs] => some (.tuple xs)
  | [.tuple xs] => some (.tuple xs)
  | _ => none
theorem dc_tuple : DCall X (.type "tuple") dTupleOf := by
  refine ⟨_,call_tuple_of,fun xs z hz G0 H0 G H σ δ ts us Q R0 d k => ?_⟩
  unfold dTupleOf at hz
  split at hz
  · cases hz
    obtain ⟨u,rfl,du⟩:=d.un1
    rw [Du] at du
    obtain ⟨p,ys,rfl,h4,h5⟩:=du
    exact ⟨p,ys,rfl,.inl ⟨SqL.of (R0.ins _ _ h4),fun l hl => k _ _ _ (R0.newT h5 hl)⟩⟩
  · cases hz
    obtain ⟨u,rfl,du⟩:=d.un1
    have du':=du
    rw [Du] at du
    obtain ⟨p,ys,rfl,h4,h5⟩:=du
    exact ⟨p,ys,rfl,.inr ⟨SqT.of (R0.ins _ _ h4),k _ _ _ (R0.put du')⟩⟩
  · cases hz
theorem Du.ty {K : PySem.W.Frag} {H : Hp} : ∀ {d : PyData} {v : V},(∀ kv,d≠.dict kv)→Du H d v→TyOf K H v (.type (tyOf d))∧∀ kv,d≠.dict kv
  | .none,_,_,h => by rw [Du] at h; subst h; exact ⟨.non,by simp⟩
  | .bool _,_,_,h => by rw [Du] at h; subst h; exact ⟨.bl _,by simp⟩
  | .int _,_,_,h => by rw [Du] at h; subst h; exact ⟨.int _,by simp⟩
  | .str _,_,_,h => by rw [Du] at h; subst h; exact ⟨.str _,by simp⟩
  | .tuple _,_,_,h => by rw [Du] at h; obtain ⟨a,xs,rfl,h1,_⟩:=h; exact ⟨.tup h1,by simp⟩
  | .list _,_,_,h => by rw [Du] at h; obtain ⟨a,xs,rfl,h1,_⟩:=h; exact ⟨.lst h1,by simp⟩
  | .dict _,_,n,h => absurd rfl (n _)
def isiD (q : PyData→Bool) : PyData→Option PyData
  | .dict _ => none
  | x => some (.bool (q x))
theorem isiD_eq {q : PyData→Bool} {x z : PyData} (h : isiD q x = some z) : (∀ kv,x≠.dict kv)∧z = .bool (q x) := by
  unfold isiD at h
  split at h
  · cases h
  · rename_i n; cases h; exact ⟨fun kv e => n kv e,rfl⟩
theorem de_isi {T : String} {q : PyData→Bool} {xT : Str} {p1 p2 : Pos} (hk : ∀ d : PyData,(∀ kv,d≠.dict kv)→PySem.W.kitOne X.K (.type (tyOf d)) (.type T) = some (q d)) (hg : Gl X "isinstance") (hm : X.mg "isinstance" = none) (hgT : Gl X xT) (hmT : X.mg xT = none) (hvT : bootBuiltins xT = some (.type T)) (ha : DE X a f)
    (hnT : xT ≠ "__name__" := by decide) (hdT : (xT == ("__debug__" : Str)) = false := by decide) (hs1 : starEach [a,.Name xT p2] X.env = (false,eval a X.env) :: starEach [.Name xT p2] X.env := by rfl) (hpl : (backTo pos (starEach [.Name xT p2] X.env)).any (·.1) = false := by rfl) :
    DE X (.Call (.Name "isinstance" p1) [a,.Name xT p2] [] pos) (fun δ => (f δ).bind (isiD q)) := by
  obtain ⟨ta,pa,ka⟩:=ha
  have pT : PE X (.Name xT p2) (tC (.ty T)):=pe_bltn hgT hmT hvT rfl hnT hdT
  refine ⟨_,pe_callB call_isi hg hm PyProof.Rows.boot_isinstance (pa_cons pa (pa_cons pT pa_nil) hs1) (by decide) (by decide) hs1 hpl,fun δ z hz G0 H0 G H σ ts Q R0 k => ?_⟩
  obtain ⟨x,h1,h2⟩:=Option.bind_eq_some_iff.mp hz
  obtain ⟨n1,rfl⟩:=isiD_eq h2
  refine ka δ _ h1 G0 H0 G H σ ts _ R0 fun u G1 H1 R1 => ?_
  have du:=R1.tmp _ (.head _)
  obtain ⟨t1,t2⟩:=(du.same R1.ins).ty (K:=X.K) n1
  exact ⟨u,.ty T,_,q x,rfl,by simp [clsV],t1,hk x t2,k _ _ _ (R1.drop.put (by rw [Du]))⟩
end
inductive Ou where
  | nx (δ : Dv) | rt (x : PyData) | bk (δ : Dv) | ct (δ : Dv) | rn (xs : List PyData)
def Fin (G0 H0 : Hp) (D : Ends) : Ou→Prop
  | .nx δ => ∀ σ G H,Rw G0 H0 G H σ δ []→D.nx σ H
  | .rt x => ∀ v G H,Same G0 G→Nw G0 H0 G→Same G H→Same H0 H→Du G x v→D.rt v H
  | .bk δ => ∀ σ G H,Rw G0 H0 G H σ δ []→D.bk σ H
  | .ct δ => ∀ σ G H,Rw G0 H0 G H σ δ []→D.ct σ H
  | .rn xs => ∀ a ys G H,Same G0 G→Nw G0 H0 G→Same G H→Same H0 H→H0 a = none→G a = none→H a = some (.lst ys)→DuA G xs ys→D.rt (.ref a) H
abbrev DF:=Dv→Option Ou
def DS (X : Cx) (st : Stmt) (F : DF) : Prop:=∃ t,PS X st t∧∀ δ r,F δ = some r→∀ G0 H0 G H σ D,Rw G0 H0 G H σ δ []→Fin G0 H0 D r→t D σ H
def DSs (X : Cx) (st : List Stmt) (F : DF) : Prop:=∃ t,PSs X st t∧∀ δ r,F δ = some r→∀ G0 H0 G H σ D,Rw G0 H0 G H σ δ []→Fin G0 H0 D r→t D σ H
def seqD (F1 F2 : DF) (δ : Dv) : Option Ou:=match F1 δ with
  | some (.nx δ') => F2 δ'
  | o => o
section
variable {X : Cx} {c e : Expr}  {f h : Dv→Option PyData}  {fa : Dv→Option Bool} {pos p : Pos} {st : Stmt} {sts sts' : List Stmt} {F1 F2 : DF}
theorem dss_nil : DSs X [] (fun δ => some (.nx δ)):=⟨_,pss_nil,fun δ r h G0 H0 G H σ D R k => by cases h; exact k _ _ _ R⟩
theorem dss_cons (h1 : DS X st F1) (h2 : DSs X sts F2) : DSs X (st :: sts) (seqD F1 F2) := by
  obtain ⟨t1,p1,k1⟩:=h1
  obtain ⟨t2,p2,k2⟩:=h2
  refine ⟨_,pss_cons p1 p2,fun δ r h G0 H0 G H σ D R k => ?_⟩
  unfold seqD at h
  split at h
  · rename_i δ' e1
    exact k1 δ _ e1 G0 H0 G H σ _ R fun σ' G' H' R' => k2 δ' r h G0 H0 G' H' σ' D R' k
  · rename_i hne
    refine k1 δ r h G0 H0 G H σ _ R ?_
    cases r with
    | nx δ' => exact absurd h (hne δ')
    | rt x => exact k
    | bk δ' => exact k
    | ct δ' => exact k
    | rn xs => exact k
theorem dss_one (h1 : DS X st F1) : DSs X [st] F1 := by
  obtain ⟨t1,p1,k1⟩:=h1
  exact ⟨_,pss_one p1,k1⟩
theorem ds_ret (he : DE X e f) : DS X (.Return (some e) pos) (fun δ => (f δ).map .rt) := by
  obtain ⟨t,p,k⟩:=he
  refine ⟨_,ps_ret p,fun δ r h G0 H0 G H σ D R q => ?_⟩
  obtain ⟨x,h1,rfl⟩:=Option.map_eq_some_iff.mp h
  exact k δ x h1 G0 H0 G H σ [] _ R fun v G' H' R' => q v G' H' R'.ext R'.new R'.ins R'.keep (R'.tmp _ (.head _))
theorem ds_expr (he : DE X e f) (hs : swapsWith e none pos.line X.env = pure false := by rfl) : DS X (.Expr e pos) (fun δ => (f δ).map fun _ => .nx δ) := by
  obtain ⟨t,p,k⟩:=he
  refine ⟨_,ps_expr p hs,fun δ r h G0 H0 G H σ D R q => ?_⟩
  obtain ⟨x,h1,rfl⟩:=Option.map_eq_some_iff.mp h
  exact k δ x h1 G0 H0 G H σ [] _ R fun v G' H' R' => q _ _ _ R'.drop
theorem ds_if (hc : DT X c fa) (h1 : DSs X sts F1) (h2 : DSs X sts' F2) : DS X (.If c sts sts' pos) (fun δ => (fa δ).bind fun c => if c = true then F1 δ else F2 δ) := by
  obtain ⟨tc,pc,kc⟩:=hc
  obtain ⟨t1,p1,k1⟩:=h1
  obtain ⟨t2,p2,k2⟩:=h2
  refine ⟨_,ps_if pc p1 p2,fun δ r h G0 H0 G H σ D R q => ?_⟩
  obtain ⟨i,h3,h4⟩:=Option.bind_eq_some_iff.mp h
  refine kc δ i h3 G0 H0 G H σ [] _ R fun G' H' R' => ?_
  split
  · rename_i hc
    rw [if_pos hc] at h4
    exact k1 δ r h4 G0 H0 G' H' σ D R' q
  · rename_i hc
    rw [if_neg hc] at h4
    exact k2 δ r h4 G0 H0 G' H' σ D R' q
end
section
variable {G0 H0 G H : Hp} {σ : St} {δ : Dv} {ts : List (PyData×V)}
theorem Rw.setD {i : Nat} {x : PyData} {v : V} (r : Rw G0 H0 G H σ δ ((x,v) :: ts)) : Rw G0 H0 G H (σ.set i (some v)) (δ.set i (.d x)) ts := by
  have hl:=r.len
  refine ⟨r.ext,r.new,r.ins,r.keep,by simp [hl],fun j y h => ?_,fun j ys h => ?_,fun j l ys zs hjl h1 h2 => ?_,fun q hq => r.tmp q (.tail _ hq)⟩
  · by_cases hj : i = j
    · subst hj
      by_cases hi : i < δ.length
      · rw [List.getElem?_set_self hi] at h
        cases h
        exact ⟨v,by rw [List.getElem?_set_self (by omega)],r.tmp _ (.head _)⟩
      · rw [List.getElem?_eq_none (by simp; omega)] at h; cases h
    · rw [List.getElem?_set_ne hj] at h
      obtain ⟨w,k1,k2⟩:=r.dat j y h
      exact ⟨w,by rw [List.getElem?_set_ne hj]; exact k1,k2⟩
  · by_cases hj : i = j
    · subst hj
      by_cases hi : i < δ.length
      · rw [List.getElem?_set_self hi] at h; cases h
      · rw [List.getElem?_eq_none (by simp; omega)] at h; cases h
    · rw [List.getElem?_set_ne hj] at h
      obtain ⟨w,k1,k2,k3⟩:=r.own j ys h
      exact ⟨w,k1,by rw [List.getElem?_set_ne hj]; exact k2,k3⟩
  · have nj : i≠j:=fun z => by
      subst z
      by_cases hi : i < δ.length
      · rw [List.getElem?_set_self hi] at h1; cases h1
      · rw [List.getElem?_eq_none (by simp; omega)] at h1; cases h1
    have nl : i≠l:=fun z => by
      subst z
      by_cases hi : i < δ.length
      · rw [List.getElem?_set_self hi] at h2; cases h2
      · rw [List.getElem?_eq_none (by simp; omega)] at h2; cases h2
    rw [List.getElem?_set_ne nj] at h1 ⊢
    rw [List.getElem?_set_ne nl] at h2 ⊢
    exact r.apart j l ys zs hjl h1 h2
end
section
variable {X : Cx} {e : Expr} {f : Dv→Option PyData} {pos p : Pos}
theorem ds_set {i : Nat} {x : Str} {pos' : Pos} (hN : X.N.Nodup) (hi : X.N[i]? = some x) (hx : Loc X.env.scope x) (he : DE X e f) (hs : swapsWith e (some (.Name x pos')) pos.line X.env = pure false := by rfl) (hf : X.fn x = true∨X.env.scope.names.lookup x = some .local := by first | exact .inl rfl | exact .inr rfl | assumption) :
    DS X (.Assign [.Name x pos'] e pos) (fun δ => (f δ).map fun y => .nx (δ.set i (.d y))) := by
  obtain ⟨t,p,k⟩:=he
  refine ⟨_,ps_set hN hi hx p hs hf,fun δ r h G0 H0 G H σ D R q => ?_⟩
  obtain ⟨y,h1,rfl⟩:=Option.map_eq_some_iff.mp h
  exact k δ y h1 G0 H0 G H σ [] _ R fun v G' H' R' => q _ _ _ R'.setD
end
section
variable {G0 H0 G H : Hp} {σ : St} {δ : Dv} {ts : List (PyData×V)}
theorem Rw.base (r : Rw G0 H0 G H σ δ ts) : Rw G H0 G H σ δ ts:={ r with ext:=Same.refl G,new:=fun _ _ h => .inl h }
theorem Nw.trans {G1 G2 : Hp} (a : Nw G0 H0 G1) (b : Nw G1 H0 G2) : Nw G0 H0 G2:=fun c o h => by
  rcases b c o h with z | z | z
  · exact a c o z
  · exact .inr (.inl z)
  · exact .inr (.inr z)
theorem Rw.unbase {G' H' : Hp} {σ' : St} {δ' : Dv} {ts' : List (PyData×V)} (r : Rw G0 H0 G H σ δ ts) (q : Rw G H0 G' H' σ' δ' ts') : Rw G0 H0 G' H' σ' δ' ts':={ q with ext:=r.ext.trans q.ext,new:=r.new.trans q.new }
def frz (i : Nat) (δ : Dv) : Dv:=match δ[i]? with
  | some (.own (.lst xs)) => δ.set i (.d (.list xs))
  | some (.own (.dtr kvs)) => δ.set i (.d (dictD kvs))
  | _ => δ
theorem Rw.letGo {i : Nat} {c : Oc} {x : PyData} (r : Rw G0 H0 G H σ δ ts) (hi : δ[i]? = some (.own c)) (hx : ∀ a o,G a = none→OcOk G a c o→Du (upd G a o) x (.ref a)) : ∃ a o,σ[i]? = some (some (.ref a))∧G a = none∧H0 a = none∧H a = some o∧OcOk G a c o∧Rw G0 H0 (upd G a o) H σ (δ.set i (.d x)) ts := by
  obtain ⟨a,o,k1,k2,k3,k4,k5⟩:=r.own i _ hi
  have e : Same G (upd G a o):=same_new k2 _
  have hlt : i < δ.length:=(List.getElem?_eq_some_iff.mp hi).1
  refine ⟨a,o,k1,k2,k3,k4,k5,r.ext.trans e,fun b o' h => ?_,fun b o' h => ?_,r.keep,by simp [r.len],fun j y h => ?_,fun j zs h => ?_,fun j l us ws hjl h1 h2 => ?_,fun q hq => (r.tmp q hq).same e⟩
  · by_cases hb : b = a
    · subst hb; exact .inr (.inl k3)
    · rw [upd_ne hb] at h; exact r.new _ _ h
  · by_cases hb : b = a
    · subst hb; rw [upd_same] at h; rw [k4]; exact h
    · rw [upd_ne hb] at h; exact r.ins _ _ h
  · by_cases hj : i = j
    · subst hj
      rw [List.getElem?_set_self hlt] at h
      cases h
      exact ⟨.ref a,k1,hx a o k2 k5⟩
    · rw [List.getElem?_set_ne hj] at h
      obtain ⟨w,m1,m2⟩:=r.dat j y h
      exact ⟨w,m1,m2.same e⟩
  · by_cases hj : i = j
    · subst hj; rw [List.getElem?_set_self hlt] at h; cases h
    · rw [List.getElem?_set_ne hj] at h
      obtain ⟨b,us,m1,m2,m3,m4,m5⟩:=r.own j zs h
      have nb : b≠a:=fun z => by subst z; exact r.apart i j _ zs hj hi h (by rw [k1,m1])
      exact ⟨b,us,m1,by rw [upd_ne nb]; exact m2,m3,m4,m5.same e⟩
  · have nj : i≠j:=fun z => by subst z; rw [List.getElem?_set_self hlt] at h1; cases h1
    have nl : i≠l:=fun z => by subst z; rw [List.getElem?_set_self hlt] at h2; cases h2
    rw [List.getElem?_set_ne nj] at h1
    rw [List.getElem?_set_ne nl] at h2
    exact r.apart j l us ws hjl h1 h2
theorem du_lst {a : Addr} {o : HO} {xs : List PyData} (hG : G a = none) (h : OcOk G a (.lst xs) o) : Du (upd G a o) (.list xs) (.ref a) := by
  obtain ⟨ys,rfl,k5⟩:=h
  rw [Du]
  exact ⟨a,ys,rfl,upd_same,k5.same (same_new hG _)⟩
theorem du_dtr {a : Addr} {o : HO} {kvs : List (Option Tr×PyData)} (hG : G a = none) (h : OcOk G a (.dtr kvs) o) : Du (upd G a o) (dictD kvs) (.ref a) := by
  obtain ⟨r,rfl,n,k5⟩:=h
  rw [Du,DuM]
  exact .inr (.inr ⟨rfl,rfl,a,r,rfl,upd_same,n,DuK.same (same_new hG _) k5⟩)
theorem Rw.frz (i : Nat) (r : Rw G0 H0 G H σ δ ts) : ∃ G',Rw G0 H0 G' H σ (L2.frz i δ) ts := by
  unfold L2.frz
  split
  · rename_i xs hi
    obtain ⟨a,o,_,_,_,_,_,R⟩:=r.letGo (x:=.list xs) hi fun a o h => du_lst h
    exact ⟨_,R⟩
  · rename_i kvs hi
    obtain ⟨a,o,_,_,_,_,_,R⟩:=r.letGo (x:=dictD kvs) hi fun a o h => du_dtr h
    exact ⟨_,R⟩
  · exact ⟨G,r⟩
theorem Rw.setOwn {i : Nat} {xs : Oc} {ys : HO} {a : Addr} (r : Rw G0 H0 G H σ δ ts) (d : OcOk G a xs ys) (ha : H a = none) : Rw G0 H0 G (upd H a ys) (σ.set i (some (.ref a))) (δ.set i (.own xs)) ts := by
  have hG : G a = none := by
    cases q : G a with
    | none => rfl
    | some u => rw [r.ins _ _ q] at ha; cases ha
  have h0 : H0 a = none := by
    cases q : H0 a with
    | none => rfl
    | some u => rw [r.keep _ _ q] at ha; cases ha
  have e : Same H (upd H a ys):=same_new ha _
  have hl:=r.len
  have other : ∀ (j : Nat) (zs : Oc),i≠j→(δ.set i (.own xs))[j]? = some (L.own zs)→δ[j]? = some (L.own zs):=fun j zs hj h => by rw [List.getElem?_set_ne hj] at h; exact h
  have nota : ∀ (j : Nat) (zs : Oc),δ[j]? = some (L.own zs)→σ[j]?≠some (some (V.ref a)):=fun j zs h z => by
    obtain ⟨b,us,m1,m2,m3,m4,m5⟩:=r.own j zs h
    rw [z] at m1; cases m1
    rw [m4] at ha; cases ha
  refine ⟨r.ext,r.new,r.ins.trans e,r.keep.trans e,by simp [hl],fun j y h => ?_,fun j zs h => ?_,fun j l us ws hjl h1 h2 => ?_,r.tmp⟩
  · by_cases hj : i = j
    · subst hj
      by_cases hi : i < δ.length
      · rw [List.getElem?_set_self hi] at h; cases h
      · rw [List.getElem?_eq_none (by simp; omega)] at h; cases h
    · rw [List.getElem?_set_ne hj] at h
      obtain ⟨w,m1,m2⟩:=r.dat j y h
      exact ⟨w,by rw [List.getElem?_set_ne hj]; exact m1,m2⟩
  · by_cases hj : i = j
    · subst hj
      by_cases hi : i < δ.length
      · rw [List.getElem?_set_self hi] at h; cases h
        exact ⟨a,ys,by rw [List.getElem?_set_self (by omega)],hG,h0,upd_same,d⟩
      · rw [List.getElem?_eq_none (by simp; omega)] at h; cases h
    · have h:=other j zs hj h
      obtain ⟨b,us,m1,m2,m3,m4,m5⟩:=r.own j zs h
      exact ⟨b,us,by rw [List.getElem?_set_ne hj]; exact m1,m2,m3,e _ _ m4,m5⟩
  · by_cases hj : i = j
    · subst hj
      have hl2 : i≠l:=hjl
      have h2:=other l ws hl2 h2
      by_cases hi : i < δ.length
      · rw [List.getElem?_set_self (by omega),List.getElem?_set_ne hl2]
        exact fun z => nota l ws h2 z.symm
      · rw [List.getElem?_eq_none (by simp; omega)] at h1; cases h1
    · have h1:=other j us hj h1
      by_cases hk : i = l
      · subst hk
        by_cases hi : i < δ.length
        · rw [List.getElem?_set_self (by omega),List.getElem?_set_ne hj]
          exact fun z => nota j us h1 z
        · rw [List.getElem?_eq_none (by simp; omega)] at h2; cases h2
      · have h2:=other l ws hk h2
        rw [List.getElem?_set_ne hj,List.getElem?_set_ne hk]
        exact r.apart j l us ws hjl h1 h2
theorem Rw.chOwn {i : Nat} {xs xs' : Oc} {ys : HO} {a : Addr} (r : Rw G0 H0 G H σ δ ts) (hi : δ[i]? = some (.own xs)) (ha : σ[i]? = some (some (.ref a))) (d : OcOk G a xs' ys) : Rw G0 H0 G (upd H a ys) σ (δ.set i (.own xs')) ts := by
  obtain ⟨a',ys0,k1,k2,k3,k4,k5⟩:=r.own i xs hi
  rw [ha] at k1; cases k1
  have hlt : i < δ.length:=(List.getElem?_eq_some_iff.mp hi).1
  have hl:=r.len
  refine ⟨r.ext,r.new,fun b o h => ?_,fun b o h => ?_,by simp [hl],fun j y h => ?_,fun j zs h => ?_,fun j l us ws hjl h1 h2 => ?_,r.tmp⟩
  · rw [upd_ne (fun z => by subst z; rw [k2] at h; cases h)]; exact r.ins _ _ h
  · rw [upd_ne (fun z => by subst z; rw [k3] at h; cases h)]; exact r.keep _ _ h
  · by_cases hj : i = j
    · subst hj; rw [List.getElem?_set_self hlt] at h; cases h
    · rw [List.getElem?_set_ne hj] at h; exact r.dat j y h
  · by_cases hj : i = j
    · subst hj; rw [List.getElem?_set_self hlt] at h; cases h
      exact ⟨a,ys,ha,k2,k3,upd_same,d⟩
    · rw [List.getElem?_set_ne hj] at h
      obtain ⟨b,us,m1,m2,m3,m4,m5⟩:=r.own j zs h
      have nb : b≠a:=fun z => by subst z; exact r.apart i j xs zs hj hi h (by rw [ha,m1])
      exact ⟨b,us,m1,m2,m3,by rw [upd_ne nb]; exact m4,m5⟩
  · have f : ∀ (j : Nat) (us : Oc),(δ.set i (.own xs'))[j]? = some (L.own us)→∃ us',δ[j]? = some (L.own us'):=fun j us h => by
      by_cases hj : i = j
      · subst hj; exact ⟨xs,hi⟩
      · rw [List.getElem?_set_ne hj] at h; exact ⟨us,h⟩
    obtain ⟨us',h1⟩:=f j us h1
    obtain ⟨ws',h2⟩:=f l ws h2
    exact r.apart j l us' ws' hjl h1 h2
end
section
variable {X : Cx} {a b e : Expr} {es : List Expr} {f h : Dv→Option PyData} {fs : Dv→Option (List PyData)}  {pos p : Pos} {st : Stmt}  {F : DF}
theorem ds_frz (i : Nat) (h1 : DS X st F) : DS X st (fun δ => F (frz i δ)) := by
  obtain ⟨t,p,k⟩:=h1
  refine ⟨t,p,fun δ r h G0 H0 G H σ D R q => ?_⟩
  obtain ⟨G',R'⟩:=R.frz i
  exact k _ r h G0 H0 G' H σ D R' q
theorem ds_own {i : Nat} {x : Str} {pos' lp : Pos} (hN : X.N.Nodup) (hi : X.N[i]? = some x) (hx : Loc X.env.scope x) (ha : DA X es fs) (hs : swapsWith (.List es lp) (some (.Name x pos')) pos.line X.env = pure false := by rfl) (hf : X.fn x = true∨X.env.scope.names.lookup x = some .local := by first | exact .inl rfl | exact .inr rfl | assumption) :
    DS X (.Assign [.Name x pos'] (.List es lp) pos) (fun δ => ((fs δ).bind few).map fun ys => .nx (δ.set i (.own (.lst ys)))) := by
  obtain ⟨t,p,k⟩:=ha
  refine ⟨_,ps_set hN hi hx (pe_lst p) hs hf,fun δ r h G0 H0 G H σ D R q => ?_⟩
  obtain ⟨y,h1,rfl⟩:=Option.map_eq_some_iff.mp h
  obtain ⟨xs,h2,h3⟩:=Option.bind_eq_some_iff.mp h1
  obtain ⟨rfl,hl⟩:=few_eq h3
  refine k δ _ h2 G0 H0 G H σ [] _ R fun vs G1 H1 R1 hv => ?_
  obtain ⟨d,R2⟩:=R1.args hv
  exact ⟨dMax_le (by rw [hv]; exact hl),fun l hl' => q _ _ _ (R2.setOwn ⟨_,rfl,d⟩ hl')⟩
def ow (i : Nat) (δ : Dv) : Option (List PyData):=match δ[i]? with
  | some (.own (.lst xs)) => some xs
  | _ => none
theorem ow_eq {i : Nat} {δ : Dv} {xs : List PyData} (h : ow i δ = some xs) : δ[i]? = some (.own (.lst xs)) := by
  unfold ow at h
  split at h
  · rename_i y e; cases h; exact e
  · cases h
theorem ds_append {i : Nat} {x : Str} {np ap cp : Pos} (hv : PE X (.Name x np) (tVar i)) (he : DE X e f)
    (hP : ∀ {to : TE} {t : TA},PE X (.Name x np) to→PA X [e] t→PS X (.Expr (.Call (.Attribute (.Name x np) "append" ap) [e] [] cp) pos) (tDrop (tBM X.K "list" rAppend to t))) (hs1 : starEach [e] X.env = (false,eval e X.env) :: starEach [] X.env := by rfl) :
    DS X (.Expr (.Call (.Attribute (.Name x np) "append" ap) [e] [] cp) pos) (fun δ => (f δ).bind fun y => (ow i δ).bind fun xs => if xs.length < dMax then some (.nx (δ.set i (.own (.lst (xs ++ [y]))))) else none) := by
  obtain ⟨t,p,k⟩:=he
  refine ⟨_,hP hv (pa_cons p pa_nil hs1),fun δ r h G0 H0 G H σ D R q => ?_⟩
  obtain ⟨y,h1,h2⟩:=Option.bind_eq_some_iff.mp h
  obtain ⟨xs,h3,h4⟩:=Option.bind_eq_some_iff.mp h2
  split at h4
  · rename_i hl
    cases h4
    have hi:=ow_eq h3
    obtain ⟨a,_,k1,k2,k3,k4,⟨ys,rfl,k5⟩⟩:=R.own i _ hi
    refine ⟨.ref a,k1,.inl ⟨rfl,ys,SqL.of k4⟩,?_⟩
    refine k δ y h1 G0 H0 G H σ [] _ R fun u G1 H1 R1 => ?_
    obtain ⟨a',_,m1,m2,m3,m4,⟨zs,rfl,m5⟩⟩:=R1.own i _ hi
    rw [k1] at m1; cases m1
    refine ⟨a,zs,u,rfl,rfl,m4,dMax_lt (by rw [m5.len]; omega),?_⟩
    exact q _ _ _ (R1.drop.chOwn hi k1 ⟨_,rfl,m5.app (.cons (R1.tmp _ (.head _)) .nil)⟩)
  · cases h4
theorem ds_extend {i : Nat} {x : Str} {np ap cp : Pos} (hv : PE X (.Name x np) (tVar i)) (he : DE X e f)
    (hP : ∀ {to : TE} {t : TA},PE X (.Name x np) to→PA X [e] t→PS X (.Expr (.Call (.Attribute (.Name x np) "extend" ap) [e] [] cp) pos) (tDrop (tBM X.K "list" rExtend to t))) (hs1 : starEach [e] X.env = (false,eval e X.env) :: starEach [] X.env := by rfl) :
    DS X (.Expr (.Call (.Attribute (.Name x np) "extend" ap) [e] [] cp) pos) (fun δ => (f δ).bind fun y => (ow i δ).bind fun xs => match y with | .list zs => (if xs.length + zs.length≤dMax then some (.nx (δ.set i (.own (.lst (xs ++ zs))))) else none) | _ => none) := by
  obtain ⟨t,p,k⟩:=he
  refine ⟨_,hP hv (pa_cons p pa_nil hs1),fun δ r h G0 H0 G H σ D R q => ?_⟩
  obtain ⟨y,h1,h2⟩:=Option.bind_eq_some_iff.mp h
  obtain ⟨xs,h3,h4⟩:=Option.bind_eq_some_iff.mp h2
  split at h4
  · rename_i zs
    split at h4
    · rename_i hl
      cases h4
      have hi:=ow_eq h3
      obtain ⟨a,_,k1,k2,k3,k4,⟨ys,rfl,k5⟩⟩:=R.own i _ hi
      refine ⟨.ref a,k1,.inl ⟨rfl,ys,SqL.of k4⟩,?_⟩
      refine k δ _ h1 G0 H0 G H σ [] _ R fun u G1 H1 R1 => ?_
      obtain ⟨a',_,m1,m2,m3,m4,⟨us,rfl,m5⟩⟩:=R1.own i _ hi
      rw [k1] at m1; cases m1
      have du:=R1.tmp _ (.head _)
      rw [Du] at du
      obtain ⟨b,ws,rfl,n1,n2⟩:=du
      refine ⟨a,b,us,ws,rfl,rfl,m4,R1.ins _ _ n1,dMax_le (by rw [m5.len,n2.len]; exact hl),?_⟩
      exact q _ _ _ (R1.drop.chOwn hi k1 ⟨_,rfl,m5.app n2⟩)
    · cases h4
  · cases h4
theorem de_lenOwn {i : Nat} {x : Str} {np : Pos} (hv : PE X (.Name x np) (tVar i)) (hg : Gl X "len") (hm : X.mg "len" = none) (hs1 : starEach [.Name x np] X.env = (false,eval (.Name x np) X.env) :: starEach [] X.env := by rfl) (hpl : (backTo pos (starEach [] X.env)).any (·.1) = false := by rfl) :
    DE X (.Call (.Name "len" p) [.Name x np] [] pos) (fun δ => (ow i δ).map fun xs => .int xs.length) := by
  refine ⟨_,pe_callB call_len_seq hg hm PySem.boot_len (pa_cons hv pa_nil hs1) (by decide) (by decide) hs1 hpl,fun δ z hz G0 H0 G H σ ts Q R0 k => ?_⟩
  obtain ⟨xs,h1,rfl⟩:=Option.map_eq_some_iff.mp hz
  obtain ⟨a,_,k1,k2,k3,k4,⟨ys,rfl,k5⟩⟩:=R0.own i _ (ow_eq h1)
  refine ⟨.ref a,k1,a,ys,rfl,.inl (SqL.of k4),?_⟩
  rw [k5.len]
  exact k _ _ _ (R0.put (by rw [Du]))
end
structure ItOk (J : It) (xs : List PyData) (G : Hp) : Prop where
  stop : ∀ H,Same G H→J.stop xs.length H
  go : ∀ (i : Nat) (d : PyData) H,xs[i]? = some d→Same G H→J.go i H
  yld : ∀ (i : Nat) (d : PyData) H x H',xs[i]? = some d→Same G H→J.yld i H x H'→∀ Gc,Same G Gc→Same Gc H→∃ Gc',Same Gc Gc'∧Nw Gc H Gc'∧Same Gc' H'∧Same H H'∧Du Gc' d x
theorem Nw.refl {G H : Hp} : Nw G H G:=fun _ _ h => .inl h
theorem it_list {K : PySem.W.Frag} {G : Hp} {a : Addr} {ys : List V} {xs : List PyData} (ha : G a = some (.lst ys)) (d : DuA G xs ys) : ItOk (Itl K a) xs G where
  stop:=fun H e => ⟨ys,SqL.of (e _ _ ha),by rw [d.len]; exact Nat.le_refl _⟩
  go:=fun i x H hx e => by
    obtain ⟨v,h1,_⟩:=d.get hx
    exact ⟨ys,v,SqL.of (e _ _ ha),h1⟩
  yld:=fun i x H v H' hx e y Gc e1 e2 => by
    obtain ⟨rfl,y⟩:=y
    have h1:=y ys (SqL.of (e _ _ ha))
    obtain ⟨x',h2,h3⟩:=d.back h1
    rw [hx] at h2; cases h2
    exact ⟨Gc,Same.refl _,Nw.refl,e2,Same.refl _,h3.same e1⟩
theorem it_tup {K : PySem.W.Frag} {G : Hp} {a : Addr} {ys : List V} {xs : List PyData} (ha : G a = some (.tup ys)) (d : DuA G xs ys) : ItOk (Itt K a) xs G where
  stop:=fun H e => ⟨ys,SqT.of (e _ _ ha),by rw [d.len]; exact Nat.le_refl _⟩
  go:=fun i x H hx e => by
    obtain ⟨v,h1,_⟩:=d.get hx
    exact ⟨ys,v,SqT.of (e _ _ ha),h1⟩
  yld:=fun i x H v H' hx e y Gc e1 e2 => by
    obtain ⟨rfl,y⟩:=y
    have h1:=y ys (SqT.of (e _ _ ha))
    obtain ⟨x',h2,h3⟩:=d.back h1
    rw [hx] at h2; cases h2
    exact ⟨Gc,Same.refl _,Nw.refl,e2,Same.refl _,h3.same e1⟩
def rngD (lo : Int) (n : Nat) : List PyData:=(List.range n).map fun k => .int (lo + (k : Nat))
theorem it_rng {G : Hp} {lo : Int} {n : Nat} : ItOk (Itr lo n) (rngD lo n) G where
  stop:=fun H e => by show n≤_; simp [rngD]
  go:=fun i x H hx e => by
    have:=(List.getElem?_eq_some_iff.mp hx).1
    show i < n
    simpa [rngD] using this
  yld:=fun i x H v H' hx e y Gc e1 e2 => by
    obtain ⟨rfl,rfl⟩:=y
    unfold rngD at hx
    rw [List.getElem?_map] at hx
    obtain ⟨k,h1,rfl⟩:=Option.map_eq_some_iff.mp hx
    have hk : k = i := by
      have:=(List.getElem?_eq_some_iff.mp h1).1
      rw [List.getElem?_range (by simpa using this)] at h1
      cases h1; rfl
    subst hk
    exact ⟨Gc,Same.refl _,Nw.refl,e2,Same.refl _,by rw [Du]⟩
def DI (X : Cx) (tg iter : Expr) (f : Dv→Option (List PyData)) : Prop:=∃ wi,PI X tg iter wi∧∀ δ xs,f δ = some xs→∀ G0 H0 G H σ ts (R : It→Hp→Prop),Rw G0 H0 G H σ δ ts→(∀ J G' H',Rw G0 H0 G' H' σ δ ts→ItOk J xs G'→R J H')→wi σ H R
section
variable {X : Cx} {tg a b e : Expr}  {f g h : Dv→Option PyData} {fs : Dv→Option (List PyData)}  {pos p : Pos}  {sts : List Stmt} {F : DF}
theorem PI.or {wi wi' : TI} (h : PI X tg e wi) (h' : PI X tg e wi') : PI X tg e (fun σ H R => wi σ H R∨wi' σ H R):=fun pins s σ H R I q => by
  rcases q with q | q
  · exact h pins s σ H R I q
  · exact h' pins s σ H R I q
def seqOf : PyData→Option (List PyData)
  | .list xs => some xs
  | .tuple xs => some xs
  | _ => none
theorem di_seq (he : DE X e f) : DI X tg e (fun δ => (f δ).bind seqOf) := by
  obtain ⟨t,p,k⟩:=he
  refine ⟨_,(pi_list p).or (pi_tup p),fun δ xs h G0 H0 G H σ ts R R0 q => ?_⟩
  obtain ⟨x,h1,h2⟩:=Option.bind_eq_some_iff.mp h
  unfold seqOf at h2
  split at h2
  · cases h2
    left
    refine k δ _ h1 G0 H0 G H σ ts _ R0 fun v G' H' R' => ?_
    have du:=R'.tmp _ (.head _)
    rw [Du] at du
    obtain ⟨a,ys,rfl,n1,n2⟩:=du
    exact ⟨a,rfl,⟨ys,SqL.of (R'.ins _ _ n1)⟩,q _ _ _ R'.drop (it_list n1 n2)⟩
  · cases h2
    right
    refine k δ _ h1 G0 H0 G H σ ts _ R0 fun v G' H' R' => ?_
    have du:=R'.tmp _ (.head _)
    rw [Du] at du
    obtain ⟨a,ys,rfl,n1,n2⟩:=du
    exact ⟨a,rfl,⟨ys,SqT.of (R'.ins _ _ n1)⟩,q _ _ _ R'.drop (it_tup n1 n2)⟩
  · cases h2
def rng1 : List PyData→Option (List PyData)
  | [.int j] => if -1000000≤j∧j≤1000000 then some (rngD 0 j.toNat) else none
  | _ => none
theorem di_range1 (hg : Gl X "range") (hm : X.mg "range" = none) (ha : DA X [a] fs) (hs : starEach [a] X.env = [(false,eval a X.env)] := by rfl) : DI X tg (.Call (.Name "range" p) [a] [] pos) (fun δ => (fs δ).bind rng1) := by
  obtain ⟨t,p,k⟩:=ha
  refine ⟨_,pi_range1 hg hm p hs,fun δ xs h G0 H0 G H σ ts R R0 q => ?_⟩
  obtain ⟨x,h1,h2⟩:=Option.bind_eq_some_iff.mp h
  refine k δ _ h1 G0 H0 G H σ ts _ R0 fun vs G' H' R' hv => ?_
  obtain ⟨d,R2⟩:=R'.args hv
  unfold rng1 at h2
  split at h2
  · split at h2
    · cases h2
      obtain ⟨u,rfl,du⟩:=d.un1
      rw [Du] at du; subst du
      exact ⟨_,rfl,by omega,by omega,q _ _ _ R2 it_rng⟩
    · cases h2
  · cases h2
theorem seq_at {G : Hp} {x : PyData} {v : V} {xs : List PyData} (h : Du G x v) (e : seqOf x = some xs) : ∃ (b : Bool) (a : Addr) (ys : List V),v = .ref a∧G a = some (if b then .tup ys else .lst ys)∧DuA G xs ys := by
  unfold seqOf at e
  split at e
  · cases e
    rw [Du] at h
    obtain ⟨a,ys,rfl,n1,n2⟩:=h
    exact ⟨false,a,ys,rfl,n1,n2⟩
  · cases e
    rw [Du] at h
    obtain ⟨a,ys,rfl,n1,n2⟩:=h
    exact ⟨true,a,ys,rfl,n1,n2⟩
  · cases e
def DG (X : Cx) (tg : Expr) (set : PyData→Dv→Option Dv) : Prop:=∃ g,PG X tg g∧∀ δ x δ',set x δ = some δ'→∀ G0 H0 G H σ v (Q : St→Hp→Prop),Rw G0 H0 G H σ δ [(x,v)]→(∀ σ' G' H',Rw G0 H0 G' H' σ' δ' []→Q σ' H')→g v σ H Q
theorem dg_name {i : Nat} {x : Str} (h : PG X (.Name x pos) (gName i)) : DG X (.Name x pos) (fun y δ => some (δ.set i (.d y))) :=
  ⟨_,h,fun δ y δ' e G0 H0 G H σ v Q R k => by cases e; exact k _ _ _ R.setD⟩
def set2 (i j : Nat) (y : PyData) (δ : Dv) : Option Dv:=match y with
  | .tuple [u,v] => some ((δ.set i (.d u)).set j (.d v))
  | _ => none
theorem dg_two {x y : Str} {i j : Nat} {px py : Pos} {k1} (h : PG X (.Tuple [.Name x px,.Name y py] k1 pos) (gTup X.K 2 (gCons (gName i) (gCons (gName j) gNil)))) : DG X (.Tuple [.Name x px,.Name y py] k1 pos) (set2 i j) := by
  refine ⟨_,h,fun δ z δ' e G0 H0 G H σ v Q R k => ?_⟩
  unfold set2 at e
  split at e
  · cases e
    have du:=R.tmp _ (.head _)
    rw [Du] at du
    obtain ⟨a,ys,rfl,n1,n2⟩:=du
    obtain ⟨w1,w2,rfl,m1,m2⟩:=n2.un2
    refine ⟨a,[w1,w2],rfl,SqT.of (R.ins _ _ n1),rfl,w1,[w2],rfl,w2,[],rfl,rfl,?_⟩
    exact k _ _ _ (((R.drop.put m2).put m1).setD.setD)
  · cases e
def forD (set : PyData→Dv→Option Dv) (body : DF) : List PyData→Dv→Option Ou
  | [],δ => some (.nx δ)
  | x :: xs,δ => match (set x δ).bind body with
    | some (.nx δ') => forD set body xs δ'
    | some (.ct δ') => forD set body xs δ'
    | some (.bk δ') => some (.nx δ')
    | some (.rt v) => some (.rt v)
    | some (.rn v) => some (.rn v)
    | none => none
theorem ds_for {set : PyData→Dv→Option Dv} (hp : PassesOwn (model X.prog X.w) X.A X.env X.xe) (hc : X.calm = true) (hi : DI X tg e fs) (hg : DG X tg set) (hb : DSs X sts F) (hs : ∀ x,foldedSetIterable e X.env x = pure x := by intro _; rfl) :
    DS X (.For tg e sts [] pos) (fun δ => (fs δ).bind fun xs => forD set F xs δ) := by
  obtain ⟨wi,pi,ki⟩:=hi
  obtain ⟨g,pg,kg⟩:=hg
  obtain ⟨tb,pb,kb⟩:=hb
  refine ⟨_,ps_for hp hc pi pg pb hs,fun δ r h G0 H0 G H σ D R q => ?_⟩
  obtain ⟨xs,h1,h2⟩:=Option.bind_eq_some_iff.mp h
  refine ki δ xs h1 G0 H0 G H σ [] _ R fun J Ga Ha Ra it => ?_
  refine ⟨fun i m σ' H' => m = xs.length - i∧i≤xs.length∧∃ δ' G',forD set F (xs.drop i) δ' = some r∧Rw G0 H0 G' H' σ' δ' []∧Same Ga G',⟨xs.length,by simp,Nat.zero_le _,δ,Ga,by simpa using h2,Ra,Same.refl _⟩,?_⟩
  rintro i m σ1 H1 ⟨rfl,hi,δ1,G1,f1,R1,s1⟩
  have sH : Same Ga H1:=s1.trans R1.ins
  by_cases hlt : i < xs.length
  · right
    have hx : xs[i]? = some xs[i] := by simp [hlt]
    refine ⟨it.go i _ H1 hx sH,fun σ' H' => i + 1≤xs.length∧∃ δ' G',forD set F (xs.drop (i + 1)) δ' = some r∧Rw G0 H0 G' H' σ' δ' []∧Same Ga G',fun σ' H' n => ⟨xs.length - (i + 1),by omega,rfl,n⟩,fun x H' y => ?_⟩
    obtain ⟨G2,e1,e2,e3,e4,e5⟩:=it.yld i _ H1 x H' hx sH y G1 s1 R1.ins
    have R2:=(R1.lift e1 e2 e3 e4).put e5
    have s2:=s1.trans e1
    rw [List.drop_eq_getElem_cons hlt] at f1
    unfold forD at f1
    cases hb2 : (set xs[i] δ1).bind F with
    | none => rw [hb2] at f1; cases f1
    | some o =>
      obtain ⟨δ2,k1,k2⟩:=Option.bind_eq_some_iff.mp hb2
      rw [hb2] at f1
      have R2b:=R2.base
      refine kg δ1 _ δ2 k1 G2 H0 G2 H' σ1 x _ R2b fun σ3 G3 H3 R3 => ?_
      refine kb δ2 o k2 G2 H0 G3 H3 σ3 _ R3 ?_
      cases o with
      | nx δ3 => exact fun σ4 G4 H4 R4 => ⟨hlt,δ3,G4,f1,R2.drop.unbase R4,s2.trans R4.ext⟩
      | ct δ3 => exact fun σ4 G4 H4 R4 => ⟨hlt,δ3,G4,f1,R2.drop.unbase R4,s2.trans R4.ext⟩
      | bk δ3 => cases f1; exact fun σ4 G4 H4 R4 => q σ4 G4 H4 (R2.drop.unbase R4)
      | rt v => cases f1; exact fun w G4 H4 h1 h2 h3 h4 h5 => q w G4 H4 (R2.ext.trans h1) (R2.new.trans h2) h3 h4 h5
      | rn v => cases f1; exact fun w ys G4 H4 h1 h2 => q w ys G4 H4 (R2.ext.trans h1) (R2.new.trans h2)
  · left
    have e : i = xs.length := by omega
    subst e
    refine ⟨it.stop H1 sH,?_⟩
    rw [List.drop_length] at f1
    unfold forD at f1
    cases f1
    exact q _ _ _ R1
end
def tD (f : Dv→Option PyData) : TE:=fun σ H Q => ∃ δ x G0 H0 G ts,f δ = some x∧Rw G0 H0 G H σ δ ts∧∀ v G' H',Rw G0 H0 G' H' σ δ ((x,v) :: ts)→Q v H'
def tDT (f : Dv→Option Bool) : TT:=fun σ H Q => ∃ δ x G0 H0 G ts,f δ = some x∧Rw G0 H0 G H σ δ ts∧∀ G' H',Rw G0 H0 G' H' σ δ ts→Q x H'
theorem DE.pe {X : Cx} {e : Expr} {f : Dv→Option PyData} (h : DE X e f) : PE X e (tD f) := by
  obtain ⟨t,p,k⟩:=h
  intro pins s σ H Q I q
  obtain ⟨δ,x,G0,H0,G,ts,h1,h2,h3⟩:=q
  exact p pins s σ H Q I (k δ x h1 G0 H0 G H σ ts Q h2 h3)
theorem DT.pt {X : Cx} {e : Expr} {f : Dv→Option Bool} (h : DT X e f) : PT X e (tDT f) := by
  obtain ⟨t,p,k⟩:=h
  intro pins s σ H Q I q
  obtain ⟨δ,x,G0,H0,G,ts,h1,h2,h3⟩:=q
  exact p pins s σ H Q I (k δ x h1 G0 H0 G H σ ts Q h2 h3)
def DIf (X : Cx) (ifs : List Expr) (f : Dv→Option Bool) : Prop:=PIf X ifs (tDT f)
theorem dif_nil {X : Cx} : DIf X [] (fun _ => some true) := by
  intro pins s σ H Q I q
  obtain ⟨δ,x,G0,H0,G,ts,h1,h2,h3⟩:=q
  cases h1
  exact pif_nil pins s σ H Q I (h3 _ _ h2)
theorem dif_one {X : Cx} {c : Expr} {f : Dv→Option Bool} (h : DT X c f) : DIf X [c] f:=pif_one h.pt
def carryD (fr : List (Option Nat)) (δ : Dv) : Dv:=fr.map fun o => match o with
  | some j => (match δ[j]? with | some (.d x) => .d x | _ => .no)
  | none => .no
theorem Rw.inner {G0 H0 G H : Hp} {σ : St} {δ : Dv} {ts : List (PyData×V)} (fr : List (Option Nat)) (r : Rw G0 H0 G H σ δ ts) : Rw G H G H (carry fr σ) (carryD fr δ) ts := by
  have key : ∀ (i : Nat) (l : L),(carryD fr δ)[i]? = some l→∃ o,fr[i]? = some o∧l = (match o with | some j => (match δ[j]? with | some (.d x) => .d x | _ => .no) | none => .no):=fun i l h => by
    unfold carryD at h
    rw [List.getElem?_map] at h
    obtain ⟨o,h1,rfl⟩:=Option.map_eq_some_iff.mp h
    exact ⟨o,h1,rfl⟩
  have noown : ∀ (i : Nat) (xs : Oc),(carryD fr δ)[i]?≠some (L.own xs):=fun i xs h => by
    obtain ⟨o,_,h2⟩:=key i _ h
    split at h2
    · split at h2 <;> cases h2
    · cases h2
  refine ⟨Same.refl _,Nw.refl,r.ins,Same.refl _,by simp [carry,carryD],fun i x h => ?_,fun i xs h => absurd h (noown i xs),fun i j xs ys _ h => absurd h (noown i xs),r.tmp⟩
  obtain ⟨o,h1,h2⟩:=key i _ h
  split at h2
  · rename_i j
    split at h2
    · rename_i y hy
      cases h2
      obtain ⟨v,k1,k2⟩:=r.dat j _ hy
      refine ⟨v,?_,k2⟩
      unfold carry
      rw [List.getElem?_map,h1]
      simp [k1]
    · cases h2
  · cases h2
theorem Rw.other {G0 H0 G H : Hp} {σ : St} {δ : Dv} {ts : List (PyData×V)} {D : Addr} {o : HO} (r : Rw G0 H0 G H σ δ ts) (hG : G D = none) (h0 : H0 D = none) (ho : ∀ (i : Nat) (xs : Oc),δ[i]? = some (L.own xs)→σ[i]?≠some (some (V.ref D))) : Rw G0 H0 G (upd H D o) σ δ ts := by
  refine ⟨r.ext,r.new,fun a u h => ?_,fun a u h => ?_,r.len,r.dat,fun i xs h => ?_,r.apart,r.tmp⟩
  · rw [upd_ne (fun z => by subst z; rw [hG] at h; cases h)]; exact r.ins _ _ h
  · rw [upd_ne (fun z => by subst z; rw [h0] at h; cases h)]; exact r.keep _ _ h
  · obtain ⟨a,ys,k1,k2,k3,k4,k5⟩:=r.own i xs h
    exact ⟨a,ys,k1,k2,k3,by rw [upd_ne (fun z => by subst z; exact ho i xs h k1)]; exact k4,k5⟩
theorem Rw.adopt {G0 H0 G H : Hp} {σ : St} {δ : Dv} {ts : List (PyData×V)} {D : Addr} {ys : List V} (r : Rw G0 H0 G H σ δ ts) (hD : H D = some (.lst ys)) (hG : G D = none) (h0 : H0 D = none) (ho : ∀ (i : Nat) (xs : Oc),δ[i]? = some (L.own xs)→σ[i]?≠some (some (V.ref D))) : Rw G0 H0 (upd G D (.lst ys)) H σ δ ts := by
  have e : Same G (upd G D (.lst ys)):=same_new hG _
  refine ⟨r.ext.trans e,fun a u h => ?_,fun a u h => ?_,r.keep,r.len,fun i x h => ?_,fun i xs h => ?_,r.apart,fun q hq => (r.tmp q hq).same e⟩
  · by_cases ha : a = D
    · subst ha; exact .inr (.inl h0)
    · rw [upd_ne ha] at h; exact r.new _ _ h
  · by_cases ha : a = D
    · subst ha; rw [upd_same] at h; rw [hD]; exact h
    · rw [upd_ne ha] at h; exact r.ins _ _ h
  · obtain ⟨v,k1,k2⟩:=r.dat i x h
    exact ⟨v,k1,k2.same e⟩
  · obtain ⟨a,zs,k1,k2,k3,k4,k5⟩:=r.own i xs h
    have ha : a≠D:=fun z => by subst z; exact ho i xs h k1
    exact ⟨a,zs,k1,by rw [upd_ne ha]; exact k2,k3,k4,k5.same e⟩
def oneD (set : PyData→Dv→Option Dv) (tif : Dv→Option Bool) (f : Dv→Option PyData) (δ : Dv) (x : PyData) : Option (Option PyData) :=
  (set x δ).bind fun δ1 => (tif δ1).bind fun b => if b = true then (f δ1).map some else some none
def collect (one : PyData→Option (Option PyData)) : List PyData→Option (List PyData)
  | [] => some []
  | x :: xs => (one x).bind fun o => (collect one xs).map fun r => o.toList ++ r
def compL (set : PyData→Dv→Option Dv) (tif : Dv→Option Bool) (f : Dv→Option PyData) (fr : List (Option Nat)) (fs : Dv→Option (List PyData)) (δ : Dv) : Option (List PyData) :=
  (fs δ).bind fun xs => (collect (oneD set tif f (carryD fr δ)) xs).bind few
def compD (set : PyData→Dv→Option Dv) (tif : Dv→Option Bool) (f : Dv→Option PyData) (fr : List (Option Nat)) (fs : Dv→Option (List PyData)) (δ : Dv) : Option PyData :=
  (compL set tif f fr fs δ).map .list
structure CompInv (G0 H0 Ga : Hp) (σ : St) (δ : Dv) (ts : List (PyData×V)) (one : PyData→Option (Option PyData)) (xs full : List PyData) (D : Addr) (i : Nat) (ys : List V) (H : Hp) : Prop where
  ex : ∃ G done rest,Rw G0 H0 G H σ δ ts∧Same Ga G∧G D = none∧collect one (xs.drop i) = some rest∧done ++ rest = full∧DuA G done ys
  h0 : H0 D = none
  ap : ∀ (j : Nat) (us : Oc),δ[j]? = some (L.own us)→σ[j]?≠some (some (V.ref D))
theorem notD {G0 H0 G H : Hp} {D : Addr} {ys : List V} (hG : G0 D = none) (hD : H0 D = some (.lst ys)) (n : Nw G0 H0 G) (e : Same G H) (k : Same H0 H) : G D = none := by
  cases q : G D with
  | none => rfl
  | some o =>
    rcases n _ _ q with z | z | ⟨us,z⟩
    · rw [hG] at z; cases z
    · rw [hD] at z; cases z
    · have:=e _ _ q
      rw [k _ _ hD,z] at this; cases this
section
variable {X : Cx} {elt iter : Expr} {x y : Str} {px pos : Pos}  {ifs : List Expr} {scope : Scope} {fs : Dv→Option (List PyData)} {tif : Dv→Option Bool} {f : Dv→Option PyData}
def set1 (i : Nat) (y : PyData) (δ : Dv) : Option Dv:=some (δ.set i (.d y))
theorem comp_readN {wi : TI} {ix : Nat} {fr : List (Option Nat)} (ki : ∀ (δ : Dv) (xs : List PyData),fs δ = some xs→∀ (G0 H0 G H : Hp) (σ : St) (ts : List (PyData×V)) (R : It→Hp→Prop),Rw G0 H0 G H σ δ ts→(∀ J G' H',Rw G0 H0 G' H' σ δ ts→ItOk J xs G'→R J H')→wi σ H R) {δ : Dv} {zs : List PyData} (hz : compL (set1 ix) tif f fr fs δ = some zs) {G0 H0 G H : Hp} {σ : St} {ts : List (PyData×V)} {Q : VK} (R0 : Rw G0 H0 G H σ δ ts) (k : ∀ D ys G' H',Rw G0 H0 G' H' σ δ ts→H' D = some (.lst ys)→G' D = none→H0 D = none→(∀ (j : Nat) (us : Oc),δ[j]? = some (L.own us)→σ[j]?≠some (some (V.ref D)))→DuA G' zs ys→Q (.ref D) H') :
    tComp wi fr ix (tDT tif) (tD f) σ H Q := by
  unfold compL at hz
  obtain ⟨xs,m2,m3⟩:=Option.bind_eq_some_iff.mp hz
  obtain ⟨full,m4,m5⟩:=Option.bind_eq_some_iff.mp m3
  obtain ⟨rfl,hfew⟩:=few_eq m5
  refine ki δ xs m2 G0 H0 G H σ ts _ R0 fun J Ga Ha Ra it D hD => ?_
  have hGD : Ga D = none := by
    cases q : Ga D with
    | none => rfl
    | some u => rw [Ra.ins _ _ q] at hD; cases hD
  have hHD : H0 D = none := by
    cases q : H0 D with
    | none => rfl
    | some u => rw [Ra.keep _ _ q] at hD; cases hD
  have hap : ∀ (j : Nat) (us : Oc),δ[j]? = some (L.own us)→σ[j]?≠some (some (V.ref D)):=fun j us h z => by
    obtain ⟨a,ys,k1,k2,k3,k4,k5⟩:=Ra.own j us h
    rw [z] at k1; cases k1
    rw [k4] at hD; cases hD
  refine comp_by (n:=xs.length) (CompInv G0 H0 Ga σ δ ts (oneD (set1 ix) tif f (carryD fr δ)) xs full D) ⟨⟨Ga,[],full,Ra.other hGD hHD hap,Same.refl _,hGD,by simpa using m4,rfl,.nil⟩,hHD,hap⟩ ?_ ?_
  · rintro i ys H1 hlt ⟨⟨G1,done,rest,R1,s1,g1,c1,e1,d1⟩,_,_⟩ hD1
    have hx : xs[i]? = some xs[i] := by simp [hlt]
    have sH:=s1.trans R1.ins
    have hyl : ys.length < sizeLine:=dMax_lt (by
      rw [d1.len]
      have : done.length≤full.length := by rw [← e1]; simp
      omega)
    refine ⟨it.go i _ H1 hx sH,hyl,fun v H' y => ?_⟩
    obtain ⟨G2,n1,n2,n3,n4,n5⟩:=it.yld i _ H1 v H' hx sH y G1 s1 R1.ins
    have R2:=R1.lift n1 n2 n3 n4
    have hD2:=n4 _ _ hD1
    have g2 : G2 D = none:=notD g1 hD1 n2 n3 n4
    rw [List.drop_eq_getElem_cons hlt] at c1
    unfold collect at c1
    obtain ⟨o,c2,c3⟩:=Option.bind_eq_some_iff.mp c1
    obtain ⟨rest',c4,rfl⟩:=Option.map_eq_some_iff.mp c3
    unfold oneD set1 at c2
    simp only [Option.bind_some] at c2
    obtain ⟨b,c5,c6⟩:=Option.bind_eq_some_iff.mp c2
    have Ri:=((R2.inner fr).put n5).setD (i:=ix)
    have Ri0 : Rw G2 H' G2 H' ((carry fr σ).set ix (some v)) ((carryD fr δ).set ix (.d xs[i])) []:=Ri.less fun q hq => by cases hq
    refine ⟨_,b,G2,H',G2,[],c5,Ri0,fun G3 H3 R3 => ?_⟩
    have R3o:=R2.lift R3.ext R3.new R3.ins R3.keep
    have hD3:=R3.keep _ _ hD2
    have g3 : G3 D = none:=notD g2 hD2 R3.new R3.ins R3.keep
    dsimp only
    split
    · rename_i hb
      rw [if_pos hb] at c6
      obtain ⟨w,c7,rfl⟩:=Option.map_eq_some_iff.mp c6
      refine ⟨_,w,G2,H',G3,[],c7,R3,fun u G4 H4 R4 => ?_⟩
      have R4o:=R2.lift R4.ext R4.new R4.ins R4.keep
      have hD4:=R4.keep _ _ hD2
      have g4 : G4 D = none:=notD g2 hD2 R4.new R4.ins R4.keep
      refine ⟨hD4,cw_next hlt ⟨⟨G4,done ++ [w],rest',R4o.other g4 hHD hap,s1.trans (n1.trans R4.ext),g4,c4,by simpa using e1,(d1.same (n1.trans R4.ext)).app (.cons (R4.tmp _ (.head _)) .nil)⟩,hHD,hap⟩⟩
    · rename_i hb
      rw [if_neg hb] at c6
      cases c6
      exact cw_skip hlt hD3 ⟨⟨G3,done,rest',R3o,s1.trans (n1.trans R3.ext),g3,c4,by simpa using e1,d1.same (n1.trans R3.ext)⟩,hHD,hap⟩
  · rintro ys H1 ⟨⟨G1,done,rest,R1,s1,g1,c1,e1,d1⟩,_,_⟩ hD1
    refine ⟨it.stop H1 (s1.trans R1.ins),?_⟩
    rw [List.drop_length] at c1
    cases c1
    rw [List.append_nil] at e1
    subst e1
    exact k _ _ _ _ R1 hD1 g1 hHD hap d1
theorem comp_read {wi : TI} {ix : Nat} {fr : List (Option Nat)} (ki : ∀ (δ : Dv) (xs : List PyData),fs δ = some xs→∀ (G0 H0 G H : Hp) (σ : St) (ts : List (PyData×V)) (R : It→Hp→Prop),Rw G0 H0 G H σ δ ts→(∀ J G' H',Rw G0 H0 G' H' σ δ ts→ItOk J xs G'→R J H')→wi σ H R) {δ : Dv} {z : PyData} (hz : compD (set1 ix) tif f fr fs δ = some z) {G0 H0 G H : Hp} {σ : St} {ts : List (PyData×V)} {Q : VK} (R0 : Rw G0 H0 G H σ δ ts) (k : ∀ v G' H',Rw G0 H0 G' H' σ δ ((z,v) :: ts)→Q v H') :
    tComp wi fr ix (tDT tif) (tD f) σ H Q := by
  unfold compD at hz
  obtain ⟨full,m1,rfl⟩:=Option.map_eq_some_iff.mp hz
  refine comp_readN ki m1 R0 fun D ys G1 H1 R1 hD1 g1 hHD hap d1 => ?_
  have e : Same G1 (upd G1 D (.lst ys)):=same_new g1 _
  have R2:=R1.adopt hD1 g1 hHD hap
  refine k _ _ _ (R2.put ?_)
  rw [Du]
  exact ⟨D,ys,rfl,upd_same,d1.same e⟩
theorem de_comp (N : List Str) (ix : Nat) (fr : List (Option Nat)) (hi : DI X (.Name x px) iter fs) (hif : ∀ cl C s₀ H₀ fp,DIf (cxComp X scope cl N C s₀ H₀ fp) ifs tif) (he : ∀ cl C s₀ H₀ fp,DE (cxComp X scope cl N C s₀ H₀ fp) elt f)
    (h1 : compScopeOk scope N x ix = true := by decide +kernel) (h2 : X.calm = true := by rfl) (h3 : frOk N X.N scope X.env.scope fr 0 = true := by rfl) (h4 : fr.length = N.length := by rfl) (h5 : freeOk X.env.scope scope.names = true := by rfl)
    (hs : ∀ x,foldedSetIterable iter X.env x = pure x := by intro _; rfl) : DE X (.ListComp elt [⟨.Name x px,iter,ifs,0⟩] scope pos) (compD (set1 ix) tif f fr fs) := by
  obtain ⟨wi,pi,ki⟩:=hi
  exact ⟨_,pe_compr N ix fr pi hif (fun cl C s₀ H₀ fp => (he cl C s₀ H₀ fp).pe) h1 h2 h3 h4 h5 hs,fun δ z hz G0 H0 G H σ ts Q R0 k => comp_read ki hz R0 k⟩
end
section
variable   {x y : Str}       
def iniD (N : List Str) (ds : List PyData) : Dv:=ds.map .d ++ List.replicate (N.length - ds.length) .no
def retD (ps N : List Str) (F : DF) (ds : List PyData) : Option PyData:=if ds.length = ps.length then (match F (iniD N ds) with
  | some (.rt x) => some x
  | some (.nx _) => some .none
  | some (.rn xs) => some (.list xs)
  | _ => none) else none
theorem Rw.start {N : List Str} {ds : List PyData} {vs : List V} {G H : Hp} (d : DuA G ds vs) (e : Same G H) : Rw G H G H (start N vs) (iniD N ds) [] := by
  have hl:=d.len
  refine ⟨Same.refl _,Nw.refl,e,Same.refl _,by simp [L2.start,iniD,hl],fun i x h => ?_,fun i xs h => ?_,fun i j xs ys _ h => ?_,fun q hq => by cases hq⟩
  · unfold iniD at h
    by_cases hi : i < ds.length
    · rw [List.getElem?_append_left (by simpa using hi),List.getElem?_map] at h
      obtain ⟨y,h1,h2⟩:=Option.map_eq_some_iff.mp h
      cases h2
      obtain ⟨v,h3,h4⟩:=d.get h1
      refine ⟨v,?_,h4⟩
      unfold L2.start
      rw [List.getElem?_append_left (by simp; omega),List.getElem?_map,h3]; rfl
    · rw [List.getElem?_append_right (by simpa using hi),List.getElem?_replicate] at h
      split at h <;> cases h
  · unfold iniD at h
    by_cases hi : i < ds.length
    · rw [List.getElem?_append_left (by simpa using hi),List.getElem?_map] at h
      obtain ⟨y,h1,h2⟩:=Option.map_eq_some_iff.mp h
      cases h2
    · rw [List.getElem?_append_right (by simpa using hi),List.getElem?_replicate] at h
      split at h <;> cases h
  · unfold iniD at h
    by_cases hi : i < ds.length
    · rw [List.getElem?_append_left (by simpa using hi),List.getElem?_map] at h
      obtain ⟨y,h1,h2⟩:=Option.map_eq_some_iff.mp h
      cases h2
    · rw [List.getElem?_append_right (by simpa using hi),List.getElem?_replicate] at h
      split at h <;> cases h
theorem keepL {G H G' H' : Hp} {a : Addr} {ys : List V} {xs : List PyData} (m1 : Same G G') (m2 : Nw G H G') (m3 : Same G' H') (m5 : H a = none) (m6 : G' a = none) (m7 : H' a = some (.lst ys)) (m8 : DuA G' xs ys) :
    Same G (upd G' a (.lst ys))∧Nw G H (upd G' a (.lst ys))∧Same (upd G' a (.lst ys)) H'∧Du (upd G' a (.lst ys)) (.list xs) (.ref a) := by
  refine ⟨m1.trans (same_new m6 _),fun b o hb => ?_,fun b o hb => ?_,?_⟩
  · by_cases z : b = a
    · subst z; exact .inr (.inl m5)
    · rw [upd_ne z] at hb; exact m2 _ _ hb
  · by_cases z : b = a
    · subst z; rw [upd_same] at hb; rw [m7]; exact hb
    · rw [upd_ne z] at hb; exact m3 _ _ hb
  · rw [Du]; exact ⟨a,ys,rfl,upd_same,m8.same (same_new m6 _)⟩
theorem okD {P : Program} {w : World} {K : PySem.W.Frag} {mg : Str→Option Value} {base : Heap} {x : Str} {st : Stmt} {fA : Addr} {fd : FuncData} {N ps : List Str} {k : Nat} {F : DF} (T : Fn K mg x st ps fA fd) (S : FnScope N ps (defScope st))
    (hb : ∀ (cdv : Value) (A : Around) (outer : List Env) (s : Shared) (H : Hp) (E : XK),Room k (A.deeper (envOfC x (defScope st) s.heap.objs.size fA cdv))→DSs (cxOf CX0 P w K mg base N x (defScope st) fA cdv A outer s H E).nox (defBody st) F) :
    FnOk P w K mg base CX0 (k + 1) fA fd ps (spD (retD ps N F)) := by
  refine T.F.ok S (fun vs H Q E h => ?_) fun cdv A outer s H vs Q E hr h => ?_
  · obtain ⟨ds,y,G,h1,h2,_⟩:=h
    unfold retD at h1
    split at h1
    · rename_i hl; rw [h2.len]; exact hl
    · cases h1
  · obtain ⟨ds,y,G,h1,h2,h3,h4⟩:=h
    obtain ⟨t,p,kk⟩:=hb cdv A outer s H E hr
    refine ⟨t,p,?_⟩
    unfold retD at h1
    split at h1
    · split at h1
      · rename_i z e1
        cases h1
        exact kk _ _ e1 G H G H _ _ (Rw.start h2 h3) fun v G' H' m1 m2 m3 m4 m5 => h4 v G' H' m1 m2 m3 m4 m5
      · rename_i δ e1
        cases h1
        exact kk _ _ e1 G H G H _ _ (Rw.start h2 h3) fun σ' G' H' R => h4 .non G' H' R.ext R.new R.ins R.keep (by rw [Du])
      · rename_i xs e1
        cases h1
        exact kk _ _ e1 G H G H _ _ (Rw.start h2 h3) fun a ys G' H' m1 m2 m3 m4 m5 m6 m7 m8 => let ⟨n1,n2,n3,n4⟩:=keepL m1 m2 m3 m5 m6 m7 m8; h4 _ _ H' n1 n2 n3 m4 n4
      · cases h1
    · cases h1
end
section
variable {X : Cx} {a e : Expr}  {f h : Dv→Option PyData}   {pos p p2 : Pos}   
def DO (X : Cx) (o : Option Expr) (f : Dv→Option (Option Int)) : Prop:=∃ t,PO X o t∧∀ δ x,f δ = some x→∀ G0 H0 G H σ ts (Q : Option Int→Hp→Prop),Rw G0 H0 G H σ δ ts→(∀ G' H',Rw G0 H0 G' H' σ δ ts→Q x H')→t σ H Q
variable {fo fu : Dv→Option (Option Int)} {lo hi : Option Expr}
theorem do_none : DO X none (fun _ => some none):=⟨_,po_none,fun δ x h G0 H0 G H σ ts Q r k => by cases h; exact k _ _ r⟩
theorem do_some (he : DE X e f) : DO X (some e) (fun δ => (f δ).bind fun x => (asI x).map some) := by
  obtain ⟨t,p,k⟩:=he
  refine ⟨_,po_some p,fun δ z h G0 H0 G H σ ts Q r q => ?_⟩
  obtain ⟨x,h1,h2⟩:=Option.bind_eq_some_iff.mp h
  obtain ⟨i,h3,rfl⟩:=Option.map_eq_some_iff.mp h2
  have:=asI_eq h3; subst this
  refine k δ _ h1 G0 H0 G H σ ts _ r fun v G' H' R' => ?_
  have hv:=R'.tmp _ (.head _)
  rw [Du] at hv
  exact ⟨i,hv,q _ _ R'.drop⟩
def cutD (xs : List PyData) (lo hi : Option Int) : List PyData:=(xs.drop (HT.sIx xs.length 0 lo)).take (HT.sIx xs.length xs.length hi - HT.sIx xs.length 0 lo)
theorem DuA.cut {H : Hp} {ds : List PyData} {xs : List V} (h : DuA H ds xs) (lo hi : Option Int) : DuA H (cutD ds lo hi) (cutV xs lo hi) := by
  unfold cutD cutV
  rw [h.len]
  exact (h.drop _).take _
def dCut (x : PyData) (lo hi : Option Int) : Option PyData:=match x with
  | .list xs => some (.list (cutD xs lo hi))
  | .tuple xs => if ¬ (HT.sIx xs.length 0 lo = 0∧HT.sIx xs.length xs.length hi = xs.length) then some (.tuple (cutD xs lo hi)) else none
  | _ => none
theorem de_slice (he : DE X e f) (hl : DO X lo fo) (hh : DO X hi fu) : DE X (.Subscript e (.Slice lo hi none p2) pos) (fun δ => (f δ).bind fun x => (fo δ).bind fun l => (fu δ).bind fun u => dCut x l u) := by
  obtain ⟨te,pe,ke⟩:=he
  obtain ⟨tl,pl,kl⟩:=hl
  obtain ⟨th,ph,kh⟩:=hh
  refine ⟨_,pe_slice (sl_list.or sl_tup) pe pl ph,fun δ z hz G0 H0 G H σ ts Q R0 k => ?_⟩
  obtain ⟨x,h1,h2⟩:=Option.bind_eq_some_iff.mp hz
  obtain ⟨l,h3,h4⟩:=Option.bind_eq_some_iff.mp h2
  obtain ⟨u,h5,h6⟩:=Option.bind_eq_some_iff.mp h4
  refine ke δ x h1 G0 H0 G H σ ts _ R0 fun v G1 H1 R1 => ?_
  refine kl δ l h3 G0 H0 G1 H1 σ _ _ R1 fun G2 H2 R2 => ?_
  refine kh δ u h5 G0 H0 G2 H2 σ _ _ R2 fun G3 H3 R3 => ?_
  have du:=R3.tmp _ (.head _)
  unfold dCut at h6
  split at h6
  · cases h6
    rw [Du] at du
    obtain ⟨a,ys,rfl,n1,n2⟩:=du
    exact .inl ⟨a,ys,rfl,SqL.of (R3.ins _ _ n1),fun q hq => k _ _ _ (R3.drop.newL (n2.cut l u) hq)⟩
  · split at h6
    · rename_i hc
      cases h6
      rw [Du] at du
      obtain ⟨a,ys,rfl,n1,n2⟩:=du
      exact .inr ⟨a,ys,rfl,SqT.of (R3.ins _ _ n1),by rw [n2.len]; exact hc,fun q hq => k _ _ _ (R3.drop.newT (n2.cut l u) hq)⟩
    · cases h6
  · cases h6
end
open PySem
abbrev fC (x : PyData) : Dv→Option PyData:=fun _ => some x
abbrev fNeg (f : Dv→Option PyData) : Dv→Option PyData:=fun δ => (f δ).bind fun x => (asI x).map fun i => .int (-i)
abbrev fIf (c : Dv→Option Bool) (f g : Dv→Option PyData) : Dv→Option PyData:=fun δ => (c δ).bind fun c => if c = true then f δ else g δ
abbrev fNil : Dv→Option (List PyData):=fun _ => some []
abbrev fCons (f : Dv→Option PyData) (fs : Dv→Option (List PyData)) : Dv→Option (List PyData):=fun δ => (f δ).bind fun x => (fs δ).map fun xs => x :: xs
abbrev fTup (fs : Dv→Option (List PyData)) : Dv→Option PyData:=fun δ => ((fs δ).bind few).map .tuple
abbrev fLst (fs : Dv→Option (List PyData)) : Dv→Option PyData:=fun δ => ((fs δ).bind few).map .list
abbrev fCall (m : List PyData→Option PyData) (fs : Dv→Option (List PyData)) : Dv→Option PyData:=fun δ => (fs δ).bind m
abbrev fIsi (q : PyData→Bool) (f : Dv→Option PyData) : Dv→Option PyData:=fun δ => (f δ).bind (isiD q)
abbrev fLenOwn (i : Nat) : Dv→Option PyData:=fun δ => (ow i δ).map fun xs => .int xs.length
abbrev oNone : Dv→Option (Option Int):=fun _ => some none
abbrev oSome (f : Dv→Option PyData) : Dv→Option (Option Int):=fun δ => (f δ).bind fun x => (asI x).map some
abbrev fCut (f : Dv→Option PyData) (fo fu : Dv→Option (Option Int)) : Dv→Option PyData:=fun δ => (f δ).bind fun x => (fo δ).bind fun l => (fu δ).bind fun u => dCut x l u
abbrev bVal (f : Dv→Option PyData) : Dv→Option Bool:=fun δ => (f δ).bind asB
abbrev bCmp (o : PyData→PyData→Option PyData) (f g : Dv→Option PyData) : Dv→Option Bool:=fun δ => (op2 o f g δ).bind asB
abbrev bNot (f : Dv→Option Bool) : Dv→Option Bool:=fun δ => (f δ).map fun c => !c
abbrev bOr (f g : Dv→Option Bool) : Dv→Option Bool:=fun δ => (f δ).bind fun c => if c = true then some true else g δ
abbrev iSeq (f : Dv→Option PyData) : Dv→Option (List PyData):=fun δ => (f δ).bind seqOf
abbrev iCall (m : List PyData→Option (List PyData)) (fs : Dv→Option (List PyData)) : Dv→Option (List PyData):=fun δ => (fs δ).bind m
abbrev bYes : Dv→Option Bool:=fun _ => some true
abbrev setN (i : Nat) : PyData→Dv→Option Dv:=fun y δ => some (δ.set i (.d y))
abbrev sNext : DF:=fun δ => some (.nx δ)
abbrev sRet (f : Dv→Option PyData) : DF:=fun δ => (f δ).map .rt
abbrev sExpr (f : Dv→Option PyData) : DF:=fun δ => (f δ).map fun _ => .nx δ
abbrev sIf (c : Dv→Option Bool) (F G : DF) : DF:=fun δ => (c δ).bind fun c => if c = true then F δ else G δ
abbrev sSet (i : Nat) (f : Dv→Option PyData) : DF:=fun δ => (f δ).map fun y => .nx (δ.set i (.d y))
abbrev sOwn (i : Nat) (fs : Dv→Option (List PyData)) : DF:=fun δ => ((fs δ).bind few).map fun ys => .nx (δ.set i (.own (.lst ys)))
abbrev sApp (i : Nat) (f : Dv→Option PyData) : DF:=fun δ => (f δ).bind fun y => (ow i δ).bind fun xs => if xs.length < dMax then some (.nx (δ.set i (.own (.lst (xs ++ [y]))))) else none
abbrev sExt (i : Nat) (f : Dv→Option PyData) : DF:=fun δ => (f δ).bind fun y => (ow i δ).bind fun xs => match y with | .list zs => (if xs.length + zs.length≤dMax then some (.nx (δ.set i (.own (.lst (xs ++ zs))))) else none) | _ => none
abbrev sFor (fs : Dv→Option (List PyData)) (set : PyData→Dv→Option Dv) (F : DF) : DF:=fun δ => (fs δ).bind fun xs => forD set F xs δ
abbrev sFrz (i : Nat) (F : DF) : DF:=fun δ => F (frz i δ)
theorem never_okD {P : Program} {w : World} {K : PySem.W.Frag} {mg : Str→Option Value} {base : Heap} {CX : CXT} {k : Nat} {f : Addr} {fd : FuncData} {ps : List Str} {sp : Sp} (h : ∀ vs H Q E,¬ sp vs H Q E) : FnOk P w K mg base CX k f fd ps sp :=
  ⟨fun _ _ _ _ z => (h _ _ _ _ z).elim,fun _ _ _ _ _ _ _ _ _ _ _ _ _ z => (h _ _ _ _ z).elim⟩
theorem spD_imp {P : Program} {w : World} {K : PySem.W.Frag} {mg : Str→Option Value} {base : Heap} {CX : CXT} {k : Nat} {f : Addr} {fd : FuncData} {ps : List Str} {sp : Sp} {m : List PyData→Option PyData} (F : FnOk P w K mg base CX k f fd ps sp)
    (h : ∀ ds x,m ds = some x→∀ (G H : Hp) (vs : List V) (Q : VK) (E : XK),DuA G ds vs→Same G H→(∀ v G' H',Same G G'→Nw G H G'→Same G' H'→Same H H'→Du G' x v→Q v H')→sp vs H Q E) : FnOk P w K mg base CX k f fd ps (spD m) :=
  F.imp fun vs H Q E z => by
    obtain ⟨ds,x,G,h1,h2,h3,h4⟩:=z
    exact h ds x h1 G H vs Q E h2 h3 h4
def tups (G H : Hp) : Hp:=fun a => match H a with
  | some (.tup xs) => some (.tup xs)
  | _ => G a
theorem tups_tup {G H : Hp} {a : Addr} {xs : List V} (h : H a = some (.tup xs)) : tups G H a = some (.tup xs) := by unfold tups; rw [h]
section
variable {G0 H0 G H : Hp} {σ : St} {δ : Dv} {ts : List (PyData×V)}
theorem Rw.tups (r : Rw G0 H0 G H σ δ ts) : Rw G0 H0 (L2.tups G H) H σ δ ts := by
  have e : Same G (L2.tups G H):=fun a o h => by
    unfold L2.tups
    split
    · rename_i xs hx; rw [r.ins _ _ h] at hx; exact hx.symm ▸ rfl
    · exact h
  refine ⟨r.ext.trans e,fun a o h => ?_,fun a o h => ?_,r.keep,r.len,fun i x h => ?_,fun i xs h => ?_,r.apart,fun q hq => (r.tmp q hq).same e⟩
  · unfold L2.tups at h
    split at h
    · cases h; exact .inr (.inr ⟨_,rfl⟩)
    · exact r.new _ _ h
  · unfold L2.tups at h
    split at h
    · rename_i xs hx; rw [hx]; exact h
    · exact r.ins _ _ h
  · obtain ⟨v,k1,k2⟩:=r.dat i x h
    exact ⟨v,k1,k2.same e⟩
  · obtain ⟨a,ys,k1,k2,k3,k4,k5⟩:=r.own i xs h
    refine ⟨a,ys,k1,?_,k3,k4,k5.same e⟩
    unfold L2.tups
    rw [k4]
    split
    · rename_i q; cases q; exact k5.ntup.elim
    · exact k2
end
theorem du_row {G : Hp} : ∀ {t : Tr} {xs : List V},DuA G (rowD t) xs→Ts G t xs
  | .nil,xs,h => by rw [rowD] at h; rw [Ts]; exact h.nil_eq
  | .cons b r,xs,h => by
    rw [rowD] at h
    obtain ⟨x,q,rfl,h1,h2⟩:=h.un
    rw [Du] at h1
    obtain ⟨a,ys,rfl,h3,h4⟩:=h1
    rw [Ts]
    exact ⟨a,ys,q,rfl,h3,du_row h4,du_row h2⟩
theorem row_du {G H : Hp} : ∀ {t : Tr} {xs : List V},Ts H t xs→DuA (tups G H) (rowD t) xs
  | .nil,xs,h => by rw [Ts] at h; rw [rowD,h]; exact .nil
  | .cons b r,xs,h => by
    rw [Ts] at h
    obtain ⟨a,ys,zs,rfl,h1,h2,h3⟩:=h
    rw [rowD]
    refine .cons ?_ (row_du h3)
    rw [Du]
    exact ⟨a,ys,rfl,tups_tup h1,row_du h2⟩
mutual
theorem row_of : ∀ {ds : List PyData} {t : Tr},trsOf ds = some t→ds = rowD t
  | [],t,h => by rw [trsOf] at h; cases h; rw [rowD]
  | d :: ds,t,h => by
    rw [trsOf] at h
    obtain ⟨b,h1,h2⟩:=Option.bind_eq_some_iff.mp h
    obtain ⟨r,h3,rfl⟩:=Option.map_eq_some_iff.mp h2
    rw [rowD,← tree_of h1,← row_of h3]
theorem tree_of : ∀ {d : PyData} {t : Tr},trOf d = some t→d = .tuple (rowD t)
  | .tuple ds,t,h => by rw [trOf] at h; rw [row_of h]
  | .none,_,h => by simp [trOf] at h
  | .bool _,_,h => by simp [trOf] at h
  | .int _,_,h => by simp [trOf] at h
  | .str _,_,h => by simp [trOf] at h
  | .list _,_,h => by simp [trOf] at h
  | .dict _,_,h => by simp [trOf] at h
end
def srtD (rev : Bool) (t : Tr) : Option PyData:=if t.bs.length < 64∧t.deep≤60 then some (.list (rowD (Tr.of (if rev then Tr.srt t.bs else (Tr.srt t.bs).reverse)))) else none
def dSortT (rev : Bool) : List PyData→Option PyData
  | [x] => (seqOf x).bind fun ds => (trsOf ds).bind (srtD rev)
  | _ => none
section
variable {X : Cx} {a e : Expr}  {f g : Dv→Option PyData}   {pos p : Pos}
theorem sort_at {rev : Bool} {G0 H0 G H : Hp} {σ : St} {δ : Dv} {ts : List (PyData×V)} {x z : PyData} {u : V} {Q : VK} (R0 : Rw G0 H0 G H σ δ ts) (du : Du G x u) (hz : dSortT rev [x] = some z) (k : ∀ w G' H',Rw G0 H0 G' H' σ δ ((z,w) :: ts)→Q w H') :
    ∃ (p : Addr) (ys : List V) (t : Tr),[u] = [.ref p]∧(SqL X.K H p ys∨SqT X.K H p ys)∧Ts H t ys∧ys.length < 64∧t.deep≤60∧∀ (l : Addr) (zs : List V),H l = none→Ts H (Tr.of (if rev then Tr.srt t.bs else (Tr.srt t.bs).reverse)) zs→Q (.ref l) (upd H l (.lst zs)) := by
  unfold dSortT at hz
  obtain ⟨ds,h1,h2⟩:=Option.bind_eq_some_iff.mp hz
  obtain ⟨t,h3,h4⟩:=Option.bind_eq_some_iff.mp h2
  unfold srtD at h4
  split at h4
  · rename_i hc
    cases h4
    have hds:=row_of h3
    obtain ⟨bb,a,ys,rfl,n1,n2⟩:=seq_at du h1
    rw [hds] at n2
    have ht:=(du_row n2).same R0.ins
    have hl : ys.length = t.bs.length := by rw [ht.len]
    refine ⟨a,ys,t,rfl,?_,ht,by omega,hc.2,fun l zs hl' hz' => ?_⟩
    · have:=R0.ins _ _ n1
      cases bb
      · exact .inl (SqL.of (by simpa using this))
      · exact .inr (SqT.of (by simpa using this))
    · have R1:=R0.tups
      exact k _ _ _ (R1.newL (row_du hz') hl')
  · cases h4
theorem dc_sort (hu : X.A.units + 64 < cLine) : DCall X (.builtin "sorted") (dSortT false) := by
  refine ⟨_,call_sort hu,fun xs z hz G0 H0 G H σ δ ts us Q R0 d k => ?_⟩
  cases xs with
  | nil => cases hz
  | cons x r =>
    cases r with
    | cons y q => cases hz
    | nil =>
      obtain ⟨u,rfl,du⟩:=d.un1
      exact sort_at R0 du hz k
def dRev (x k : PyData) : Option PyData:=match x,k with
  | .list xs,.int i => if i = -1 then some (.list xs.reverse) else none
  | _,_ => none
abbrev fRev (f g : Dv→Option PyData) : Dv→Option PyData:=op2 dRev f g
theorem de_rev {p2 : Pos} {k : Expr} (he : DE X e f) (hk : DE X k g) : DE X (.Subscript e (.Slice none none (some k) p2) pos) (fRev f g) := by
  obtain ⟨te,pe,ke⟩:=he
  obtain ⟨tk,pk,kk⟩:=hk
  refine ⟨_,pe_rev pe pk,fun δ z hz G0 H0 G H σ ts Q R0 k => ?_⟩
  obtain ⟨x,y,h1,h2,h3⟩:=two (x:=.none) (y:=.none) hz
  refine ke δ x h1 G0 H0 G H σ ts _ R0 fun u G1 H1 R1 => ?_
  refine kk δ y h2 G0 H0 G1 H1 σ _ _ R1 fun v G2 H2 R2 => ?_
  have du:=R2.tmp (x,u) (.tail _ (.head _))
  have dv:=R2.tmp (y,v) (.head _)
  unfold dRev at h3
  split at h3
  · split at h3
    · rename_i hi
      cases h3
      subst hi
      rw [Du] at du; rw [Du] at dv
      obtain ⟨a,ys,rfl,n1,n2⟩:=du
      exact ⟨a,ys,rfl,dv,SqL.of (R2.ins _ _ n1),fun q hq => k _ _ _ (R2.drop.drop.newL n2.rev hq)⟩
    · cases h3
  · cases h3
end
def frzL : L→L
  | .own (.lst xs) => .d (.list xs)
  | .own (.dtr kvs) => .d (dictD kvs)
  | .own _ => .no
  | l => l
def frzAll (δ : Dv) : Dv:=δ.map frzL
section
variable {G0 H0 G H : Hp} {σ : St} {δ : Dv} {ts : List (PyData×V)}
theorem Rw.frzAll (r : Rw G0 H0 G H σ δ ts) : Rw H H H H σ (L2.frzAll δ) ts := by
  refine ⟨Same.refl _,fun _ _ h => .inl h,Same.refl _,Same.refl _,by rw [L2.frzAll,List.length_map]; exact r.len,fun i x h => ?_,fun i xs h => ?_,fun i j xs ys _ h => ?_,fun q hq => (r.tmp q hq).same r.ins⟩
  · unfold L2.frzAll at h
    rw [List.getElem?_map] at h
    obtain ⟨l,h1,h2⟩:=Option.map_eq_some_iff.mp h
    unfold frzL at h2
    split at h2
    · rename_i xs
      cases h2
      obtain ⟨a,_,k1,k2,k3,k4,⟨ys,rfl,k5⟩⟩:=r.own i _ h1
      refine ⟨.ref a,k1,?_⟩
      rw [Du]
      exact ⟨a,ys,rfl,k4,k5.same r.ins⟩
    · rename_i kvs
      cases h2
      obtain ⟨a,_,k1,k2,k3,k4,⟨rr,rfl,k5,k6⟩⟩:=r.own i _ h1
      refine ⟨.ref a,k1,?_⟩
      rw [Du,DuM]
      exact .inr (.inr ⟨rfl,rfl,a,rr,rfl,k4,k5,DuK.same r.ins k6⟩)
    · cases h2
    · subst h2
      obtain ⟨v,k1,k2⟩:=r.dat i x h1
      exact ⟨v,k1,k2.same r.ins⟩
  all_goals
    unfold L2.frzAll at h
    rw [List.getElem?_map] at h
    obtain ⟨l,h1,h2⟩:=Option.map_eq_some_iff.mp h
    unfold frzL at h2
    split at h2
    · cases h2
    · cases h2
    · cases h2
    · rename_i n1 n3 n2
      subst h2
      cases xs with
      | lst zs => exact (n1 zs rfl).elim
      | dtr zs => exact (n3 zs rfl).elim
      | dic zs => exact (n2 (.dic zs) rfl).elim
theorem Rw.on {H' : Hp} (r : Rw G0 H0 G H σ δ ts) (e : Same H H') : Rw G0 H0 G H' σ δ ts:=r.lift (Same.refl _) Nw.refl (r.ins.trans e) e
end
section
variable {F F1 F2 : DF} {δ δ' : Dv} {r : Option Ou} {c : Dv→Option Bool} {f g : Dv→Option PyData} {fs : Dv→Option (List PyData)}
theorem seqD_nx (h : F1 δ = some (.nx δ')) (k : F2 δ' = r) : seqD F1 F2 δ = r := by unfold seqD; rw [h]; exact k
theorem seqD_rt {x : PyData} (h : F1 δ = some (.rt x)) : seqD F1 F2 δ = some (.rt x) := by unfold seqD; rw [h]
theorem sIf_t (h : c δ = some true) (k : F1 δ = r) : sIf c F1 F2 δ = r := by show (c δ).bind _ = r; rw [h]; exact k
theorem sIf_f (h : c δ = some false) (k : F2 δ = r) : sIf c F1 F2 δ = r := by show (c δ).bind _ = r; rw [h]; exact k
theorem sSet_is {i : Nat} {y : PyData} (h : f δ = some y) : sSet i f δ = some (.nx (δ.set i (.d y))) := by show (f δ).map _ = _; rw [h]; rfl
theorem sRet_is {y : PyData} (h : f δ = some y) : sRet f δ = some (.rt y) := by show (f δ).map _ = _; rw [h]; rfl
theorem op2_is {o : PyData→PyData→Option PyData} {x y : PyData} {z : Option PyData} (h1 : f δ = some x) (h2 : g δ = some y) (h3 : o x y = z) : op2 o f g δ = z := by unfold op2; rw [h1,h2]; exact h3
theorem fCall_is {m : List PyData→Option PyData} {xs : List PyData} {z : Option PyData} (h1 : fs δ = some xs) (h2 : m xs = z) : fCall m fs δ = z := by show (fs δ).bind m = z; rw [h1]; exact h2
theorem fCons_is {x : PyData} {xs : List PyData} (h1 : f δ = some x) (h2 : fs δ = some xs) : fCons f fs δ = some (x :: xs) := by show (f δ).bind _ = _; rw [h1]; show (fs δ).map _ = _; rw [h2]; rfl
theorem fLst_is {xs : List PyData} (h : fs δ = some xs) (hl : xs.length≤dMax) : fLst fs δ = some (.list xs) := by show ((fs δ).bind few).map _ = _; rw [h]; show (few xs).map _ = _; unfold few; rw [if_pos hl]; rfl
theorem bCmp_is {o : PyData→PyData→Option PyData} {x y : PyData} {b : Bool} (h1 : f δ = some x) (h2 : g δ = some y) (h3 : o x y = some (.bool b)) : bCmp o f g δ = some b := by show (op2 o f g δ).bind asB = _; rw [op2_is h1 h2 h3]; rfl
theorem bOr_f {a b : Dv→Option Bool} {q : Option Bool} (h : a δ = some false) (k : b δ = q) : bOr a b δ = q := by show (a δ).bind _ = q; rw [h]; exact k
theorem bNot_is {a : Dv→Option Bool} {b : Bool} (h : a δ = some b) : bNot a δ = some (!b) := by show (a δ).map _ = _; rw [h]; rfl
theorem bVal_is {b : Bool} (h : f δ = some (.bool b)) : bVal f δ = some b := by show (f δ).bind asB = _; rw [h]; rfl
theorem forD_inv {set : PyData→Dv→Option Dv} (Iv : Nat→Dv→Prop) : ∀ (xs : List PyData) (δ : Dv) (n : Nat),Iv n δ→(∀ (i : Nat) (x : PyData) (δ : Dv),xs[i]? = some x→Iv (n + i) δ→∃ δ1 δ2,set x δ = some δ1∧F δ1 = some (.nx δ2)∧Iv (n + i + 1) δ2) →
    ∃ δ',forD set F xs δ = some (.nx δ')∧Iv (n + xs.length) δ'
  | [],δ,n,h,_ => ⟨δ,rfl,h⟩
  | x :: xs,δ,n,h,k => by
    obtain ⟨δ1,δ2,h1,h2,h3⟩:=k 0 x δ rfl h
    obtain ⟨δ',h4,h5⟩:=forD_inv Iv xs δ2 (n + 1) h3 fun i y δ hy hv => by
      have:=k (i + 1) y δ (by simpa using hy) (by rw [show n + (i + 1) = n + 1 + i by omega]; exact hv)
      rw [show n + (i + 1) + 1 = n + 1 + i + 1 by omega] at this
      exact this
    refine ⟨δ',?_,by rw [List.length_cons,show n + (xs.length + 1) = n + 1 + xs.length by omega]; exact h5⟩
    unfold forD
    rw [h1,Option.bind_some,h2]
    exact h4
theorem sFor_inv {set : PyData→Dv→Option Dv} {xs : List PyData} (Iv : Nat→Dv→Prop) (hx : fs δ = some xs) (h0 : Iv 0 δ) (hs : ∀ (i : Nat) (x : PyData) (δ : Dv),xs[i]? = some x→Iv i δ→∃ δ1 δ2,set x δ = some δ1∧F δ1 = some (.nx δ2)∧Iv (i + 1) δ2) :
    ∃ δ',sFor fs set F δ = some (.nx δ')∧Iv xs.length δ' := by
  obtain ⟨δ',h1,h2⟩:=forD_inv (F:=F) (set:=set) Iv xs δ 0 h0 fun i x δ hx hv => by
    have:=hs i x δ hx (by simpa using hv)
    simpa using this
  refine ⟨δ',?_,by simpa using h2⟩
  show (fs δ).bind _ = _
  rw [hx]; exact h1
end
theorem retD_rt {ps N : List Str} {F : DF} {ds : List PyData} {x : PyData} (hl : ds.length = ps.length) (h : F (iniD N ds) = some (.rt x)) : retD ps N F ds = some x := by unfold retD; rw [if_pos hl,h]
theorem fit_of {n : Nat} {i : Int} (h : i.natAbs < 2 ^ n) : fitI n i = true:=decide_eq_true h
theorem mul_ok {i j : Int} (h : mulOk i j = true) : dMul (.int i) (.int j) = some (.int (i * j)) := by
  show orD iMul lRep (.int i) (.int j) = _
  unfold orD
  rw [show iMul (.int i) (.int j) = some (.int (i * j)) from if_pos h]
theorem mul_r {i j : Int} (h : j.natAbs < 2 ^ 64) : dMul (.int i) (.int j) = some (.int (i * j)):=mul_ok (by unfold mulOk; rw [fit_of h]; simp)
theorem mod_is {i j : Int} (h : 0 < j) : iMod (.int i) (.int j) = some (.int (i % j)) := by
  show (if j≠0 then some (PyData.int (i.fmod j)) else none) = _
  rw [if_pos (by omega),Int.fmod_eq_emod_of_nonneg _ (by omega)]
theorem pow_is {i : Int} {n : Nat} (hn : n≤1000) (hi : fitI 64 i = true) : iPow (.int i) (.int (n : Int)) = some (.int (i ^ n)) := by
  show (if 0≤(n : Int)∧(n : Int)≤1000∧fitI 64 i = true then some (PyData.int (i ^ (n : Int).toNat)) else none) = _
  rw [if_pos ⟨by omega,by omega,hi⟩,Int.toNat_natCast]
def scrD (ns : List Int) : PyData:=.dict [(.none,.list (ns.map .int))]
theorem du_scr {H : Hp} {a : Addr} {ns : List Int} (h : Rd H a (.lst (ns.map V.int))) : Du H (scrD ns) (.ref a) := by unfold scrD; rw [Du]; exact .inr (.inl ⟨a,ns,rfl,rfl,h⟩)
def noLst (K : PySem.W.Frag) : Bool:=K.all fun p => match p.2.cls with | .type n => n != "list" | _ => true
theorem lookup_memK {a : Addr} {o : Obj} : ∀ {K : PySem.W.Frag},K.lookup a = some o→(a,o)∈K
  | [],h => by cases h
  | (b,u) :: K,h => by
    rw [List.lookup_cons] at h
    split at h
    · rename_i e
      cases h
      rw [show a = b from by simpa using e]
      exact .head _
    · exact .tail _ (lookup_memK h)
theorem rdK_of {K : PySem.W.Frag} {H : Hp} {a : Addr} {xs : List V} (hK : noLst K = true) (h : SqL K H a xs) : Rd H a (.lst xs) := by
  rcases h with h | ⟨o,its,n,h1,h2,_⟩
  · exact h
  · unfold noLst at hK
    rw [List.all_eq_true] at hK
    have:=hK _ (lookup_memK h1)
    rw [h2] at this
    exact absurd this (by decide)
abbrev Xr:=PyData ⊕ Addr
def spX (g : List PyData→Option Xr) : Sp:=fun vs H Q E => ∃ ds r G,g ds = some r∧DuA G ds vs∧Same G H∧match r with
  | .inl x => ∀ v G' H',Same G G'→Nw G H G'→Same G' H'→Same H H'→Du G' x v→Q v H'
  | .inr C => ∀ H',Same H H'→E (.ref C) none H'
abbrev OuX:=Ou ⊕ Addr
abbrev DFX:=Dv→Option OuX
def FinX (G0 H0 : Hp) (D : Ends) (E : XK) : OuX→Prop
  | .inl o => Fin G0 H0 D o
  | .inr C => ∀ H',Same H0 H'→E (.ref C) none H'
def DX (X : Cx) (E : XK) (st : Stmt) (F : DFX) : Prop:=∃ t,PS X st t∧∀ δ r,F δ = some r→∀ G0 H0 G H σ D,Rw G0 H0 G H σ δ []→FinX G0 H0 D E r→t D σ H
def DXs (X : Cx) (E : XK) (sts : List Stmt) (F : DFX) : Prop:=∃ t,PSs X sts t∧∀ δ r,F δ = some r→∀ G0 H0 G H σ D,Rw G0 H0 G H σ δ []→FinX G0 H0 D E r→t D σ H
section
variable {X : Cx} {E : XK} {b c e : Expr}  {f h : Dv→Option PyData}  {fa : Dv→Option Bool} {pos p : Pos} {st : Stmt} {sts sts' : List Stmt}  {J J1 J2 : DFX}
theorem pe_nox {t : TE} (h : PE X.nox e t) : PE X e t:=fun pins s σ H Q I k => wpAny_mono (h pins s σ H Q (I.wish _) k) (fun _ _ ⟨v,H',I',r,q⟩ => ⟨v,H',I'.unwish,r,q⟩) fun _ _ z => z.elim
theorem pt_nox {t : TT} (h : PT X.nox e t) : PT X e t:=fun pins s σ H Q I k => wpAny_mono (h pins s σ H Q (I.wish _) k) (fun _ _ ⟨H',I',q⟩ => ⟨H',I'.unwish,q⟩) fun _ _ z => z.elim
theorem dxs_nil : DXs X E [] (fun δ => some (.inl (.nx δ))):=⟨_,pss_nil,fun δ r h G0 H0 G H σ D R k => by cases h; exact k _ _ _ R⟩
theorem dxs_one (h : DX X E st J) : DXs X E [st] J := by
  obtain ⟨t,p,k⟩:=h
  exact ⟨t,pss_one p,k⟩
abbrev xIf (c : Dv→Option Bool) (J1 J2 : DFX) : DFX:=fun δ => (c δ).bind fun b => if b = true then J1 δ else J2 δ
theorem dx_if (hc : DT X.nox c fa) (h1 : DXs X E sts J1) (h2 : DXs X E sts' J2) : DX X E (.If c sts sts' pos) (xIf fa J1 J2) := by
  obtain ⟨tc,pc,kc⟩:=hc
  obtain ⟨t1,p1,k1⟩:=h1
  obtain ⟨t2,p2,k2⟩:=h2
  refine ⟨_,ps_if (pt_nox pc) p1 p2,fun δ r h G0 H0 G H σ D R q => ?_⟩
  obtain ⟨b,h3,h4⟩:=Option.bind_eq_some_iff.mp h
  refine kc δ _ h3 G0 H0 G H σ [] _ R fun G1 H1 R1 => ?_
  split
  · rename_i hb
    rw [if_pos hb] at h4
    exact k1 δ r h4 G0 H0 G1 H1 σ D R1 q
  · rename_i hb
    rw [if_neg hb] at h4
    exact k2 δ r h4 G0 H0 G1 H1 σ D R1 q
abbrev xRaise (C : Addr) (f : Dv→Option PyData) : DFX:=fun δ => (f δ).map fun _ => .inr C
theorem dx_raise {x : Str} {C : Addr} {np cpos : Pos} (T : Exc X.K X.mg x C) (hL : Lets X E) (he : DE X.nox e f) (hcalm : X.calm = true := by rfl) (hg : Gl X x := by rfl) (hd : (x == ("__debug__" : Str)) = false := by decide)
    (hst : starEach [e] X.env = [(false,eval e X.env)] := by rfl) : DX X E (.Raise (some (.Call (.Name x np) [e] [] cpos)) none pos) (xRaise C f) := by
  obtain ⟨t,p,k⟩:=he
  refine ⟨_,ps_raise T hL hcalm hg (pe_nox p) hd hst,fun δ r h G0 H0 G H σ D R q => ?_⟩
  obtain ⟨y,h1,rfl⟩:=Option.map_eq_some_iff.mp h
  exact k δ y h1 G0 H0 G H σ [] _ R fun v G' H' R' => q _ R'.keep
end
theorem Rw.setNo {G0 H0 G H : Hp} {σ : St} {δ : Dv} {ts : List (PyData×V)} (k : Nat) (o : Option V) (r : Rw G0 H0 G H σ δ ts) : Rw G0 H0 G H (σ.set k o) (δ.set k .no) ts := by
  have ne : ∀ (j : Nat) (l : L),l≠.no→(δ.set k .no)[j]? = some l→k≠j∧δ[j]? = some l:=fun j l hl h => by
    by_cases hj : k = j
    · subst hj
      by_cases hi : k < δ.length
      · rw [List.getElem?_set_self hi] at h; cases h; exact absurd rfl hl
      · rw [List.getElem?_eq_none (by simp; omega)] at h; cases h
    · rw [List.getElem?_set_ne hj] at h; exact ⟨hj,h⟩
  refine ⟨r.ext,r.new,r.ins,r.keep,by simp [r.len],fun j y h => ?_,fun j zs h => ?_,fun j l us ws hjl h1 h2 => ?_,r.tmp⟩
  · obtain ⟨n,h⟩:=ne j _ (by simp) h
    obtain ⟨w,m1,m2⟩:=r.dat j y h
    exact ⟨w,by rw [List.getElem?_set_ne n]; exact m1,m2⟩
  · obtain ⟨n,h⟩:=ne j _ (by simp) h
    obtain ⟨b,us,m1,m2⟩:=r.own j zs h
    exact ⟨b,us,by rw [List.getElem?_set_ne n]; exact m1,m2⟩
  · obtain ⟨n1,h1⟩:=ne j _ (by simp) h1
    obtain ⟨n2,h2⟩:=ne l _ (by simp) h2
    rw [List.getElem?_set_ne n1,List.getElem?_set_ne n2]
    exact r.apart j l us ws hjl h1 h2
def retX (ps N : List Str) (J : DFX) (ds : List PyData) : Option Xr:=if ds.length = ps.length then (match J (iniD N ds) with
  | some (.inl (.rt x)) => some (.inl x)
  | some (.inl (.nx _)) => some (.inl .none)
  | some (.inl (.rn xs)) => some (.inl (.list xs))
  | some (.inr C) => some (.inr C)
  | _ => none) else none
section
variable {P : Program} {w : World} {K : PySem.W.Frag} {mg : Str→Option Value} {base : Heap} {x : Str} {st : Stmt} {fA : Addr} {fd : FuncData} {N ps : List Str} {k : Nat}
theorem letsX {qual : Str} {scope : Scope} {cd : Value} {A : Around} {outer : List Env} {s : Shared} {H : Hp} {E : XK} :
    Lets (cxOf (CXW P w) P w K mg base N qual scope fA cd A outer s H E) E:=fun _ _ _ _ _ _ _ _ I hx hE => xe_made I hx hE
theorem okX {J : DFX} (T : Fn K mg x st ps fA fd) (S : FnScope N ps (defScope st))
    (hb : ∀ (cdv : Value) (A : Around) (outer : List Env) (s : Shared) (H : Hp) (E : XK),Room k (A.deeper (envOfC x (defScope st) s.heap.objs.size fA cdv))→DXs (cxOf (CXW P w) P w K mg base N x (defScope st) fA cdv A outer s H E) E (defBody st) J) :
    FnOk P w K mg base (CXW P w) (k + 1) fA fd ps (spX (retX ps N J)) := by
  refine T.F.okW S (fun vs H Q E h => ?_) fun cdv A outer s H vs Q E hr h => ?_
  · obtain ⟨ds,y,G,h1,h2,_⟩:=h
    unfold retX at h1
    split at h1
    · rename_i hl; rw [h2.len]; exact hl
    · cases h1
  · obtain ⟨ds,y,G,h1,h2,h3,h4⟩:=h
    obtain ⟨t,p,kk⟩:=hb cdv A outer s H E hr
    refine ⟨t,p,?_⟩
    unfold retX at h1
    split at h1
    · split at h1
      · rename_i z e1
        cases h1
        exact kk _ _ e1 G H G H _ _ (Rw.start h2 h3) fun v G' H' m1 m2 m3 m4 m5 => h4 v G' H' m1 m2 m3 m4 m5
      · rename_i δ e1
        cases h1
        exact kk _ _ e1 G H G H _ _ (Rw.start h2 h3) fun σ' G' H' R => h4 .non G' H' R.ext R.new R.ins R.keep (by rw [Du])
      · rename_i xs e1
        cases h1
        exact kk _ _ e1 G H G H _ _ (Rw.start h2 h3) fun a ys G' H' m1 m2 m3 m4 m5 m6 m7 m8 => let ⟨n1,n2,n3,n4⟩:=keepL m1 m2 m3 m5 m6 m7 m8; h4 _ _ H' n1 n2 n3 m4 n4
      · rename_i C e1
        cases h1
        exact kk _ _ e1 G H G H _ _ (Rw.start h2 h3) h4
      · cases h1
    · cases h1
theorem FnOk.to0 {sp sp' : Sp} (F : FnOk P w K mg base (CXW P w) k fA fd ps sp) (h : ∀ vs H Q E,sp' vs H Q E→sp vs H Q fun _ _ _ => False) : FnOk P w K mg base CX0 k fA fd ps sp' :=
  ⟨fun vs H Q E z => F.len _ _ _ _ (h _ _ _ _ z),fun A outer s H args us vs Q E hr he hb hv hs => codeAny_mono (F.run A outer s H args us vs Q _ hr he hb hv (h _ _ _ _ hs)) fun r s' z => by
    cases r with
    | ok fl => cases fl <;> exact z
    | error e => obtain ⟨_,_,_,_,_,_,_,z⟩:=z; exact z.elim⟩
def good (m : List PyData→Option Xr) (ds : List PyData) : Option PyData:=match m ds with
  | some (.inl x) => some x
  | _ => none
theorem spX_D {m : List PyData→Option Xr} (F : FnOk P w K mg base (CXW P w) k fA fd ps (spX m)) : FnOk P w K mg base CX0 k fA fd ps (spD (good m)):=F.to0 fun vs H Q E z => by
  obtain ⟨ds,x,G,h1,h2,h3,h4⟩:=z
  unfold good at h1
  split at h1
  · rename_i y e; cases h1
    exact ⟨ds,.inl x,G,e,h2,h3,h4⟩
  · cases h1
end
abbrev sRetO (i : Nat) : DF:=fun δ => (ow i δ).map .rn
section
variable {X : Cx} {a : Expr}  {h : Dv→Option PyData}   {pos : Pos}
theorem ds_retO {i : Nat} {x : Str} {np : Pos} (hv : PE X (.Name x np) (tVar i)) : DS X (.Return (some (.Name x np)) pos) (sRetO i) := by
  refine ⟨_,ps_ret hv,fun δ r h G0 H0 G H σ D R q => ?_⟩
  obtain ⟨xs,h1,rfl⟩:=Option.map_eq_some_iff.mp h
  obtain ⟨a,_,k1,k2,k3,k4,⟨ys,rfl,k5⟩⟩:=R.own i _ (ow_eq h1)
  exact ⟨.ref a,k1,q a ys G H R.ext R.new R.ins R.keep k3 k2 k4 k5⟩
end
section
variable          {N ps : List Str} 
theorem retX_nx {J : DFX} {ds : List PyData} {δ : Dv} (hl : ds.length = ps.length) (h : J (iniD N ds) = some (.inl (.nx δ))) : retX ps N J ds = some (.inl .none) := by unfold retX; rw [if_pos hl,h]
end
section
variable {J1 J2 : DFX} {δ : Dv} {r : Option OuX} {c : Dv→Option Bool}  {m : List PyData→Option Xr} {ds : List PyData}   
theorem xIf_f (h : c δ = some false) (k : J2 δ = r) : xIf c J1 J2 δ = r := by show (c δ).bind _ = r; rw [h]; exact k
theorem good_is {y : PyData} (q : m ds = some (.inl y)) : good m ds = some y := by unfold good; rw [q]
end
section
variable {F F1 F2 : DF} {δ δ' : Dv} {fs : Dv→Option (List PyData)} {xs : List PyData} {set : PyData→Dv→Option Dv} {r : Option Ou}
theorem ex_nx {Q : Dv→Prop} (h : F1 δ = some (.nx δ')) (k : ∃ δ2,F2 δ' = some (.nx δ2)∧Q δ2) : ∃ δ2,seqD F1 F2 δ = some (.nx δ2)∧Q δ2:=let ⟨δ2,a,b⟩:=k; ⟨δ2,seqD_nx h a,b⟩
theorem for_ex (Iv : Nat→Dv→Prop) (hx : fs δ = some xs) (h0 : Iv 0 δ) (hs : ∀ (i : Nat) (x : PyData) (δ : Dv),xs[i]? = some x→Iv i δ→∃ δ1,set x δ = some δ1∧∃ δ2,F δ1 = some (.nx δ2)∧Iv (i + 1) δ2) :
    ∃ δ',sFor fs set F δ = some (.nx δ')∧Iv xs.length δ':=sFor_inv Iv hx h0 fun i x δ a b => let ⟨δ1,c,δ2,e,g⟩:=hs i x δ a b; ⟨δ1,δ2,c,e,g⟩
theorem seqD_for (Iv : Nat→Dv→Prop) (hx : fs δ = some xs) (h0 : Iv 0 δ) (hs : ∀ (i : Nat) (x : PyData) (δ : Dv),xs[i]? = some x→Iv i δ→∃ δ1,set x δ = some δ1∧∃ δ2,F δ1 = some (.nx δ2)∧Iv (i + 1) δ2)
    (k : ∀ δ',Iv xs.length δ'→F2 δ' = r) : seqD (sFor fs set F) F2 δ = r := by
  obtain ⟨δ',h1,h2⟩:=for_ex Iv hx h0 hs
  exact seqD_nx h1 (k δ' h2)
theorem iSeq_is {f : Dv→Option PyData} {x : PyData} (h : f δ = some x) (k : seqOf x = some xs) : iSeq f δ = some xs := by show (f δ).bind seqOf = _; rw [h]; exact k
end
end L2
set_option maxHeartbeats 2000000
set_option maxHeartbeats 1000000
set_option maxHeartbeats 4000000
namespace L2
open PySem PySem.Spec PyProof.Rows
def GT (H : Hp) (v : Value) (x : Tr) : Prop:=∃ a ys,v = .ref a∧H a = some (.tup ys)∧Ts H x ys
def setO (S : Addr) (ev : Array (Int×Value)) (ep : Nat) (t : SetTable) : HO:=.ext fun h => ∃ o,h.get? S = some o∧o.ExactSet∧o.data = .set ev ep t
abbrev MemG (H : Hp) (p : Int×Value) (q : Int×Tr) : Prop:=p.1 = q.1∧q.2.deep < 8∧GT H p.2 q.2
def SetV (H : Hp) (S : Addr) (st : TH.ES×SetTable) : Prop:=∃ ev ep,H S = some (setO S ev ep st.2)∧PySem.Paired (MemG H) ev.toList st.1.toList
theorem GT.same {H H' : Hp} {v : Value} {x : Tr} (h : GT H v x) (e : Same H H') : GT H' v x:=let ⟨a,ys,e1,e2,e3⟩:=h; ⟨a,ys,e1,e _ _ e2,e3.same e⟩
structure SetOk (w : World) (st : TH.ES×SetTable) : Prop where
  fit : st.2.fits st.1.size = true
  plain : st.2.plain = true
  led : st.2.led = !w.params.followText "set-order"
  walk : TH.walkOk st.2 st.1.size = true
  small : st.1.size < 64
section
variable {X : Cx} {pins : List (Addr×Obj)} {σ : St} {H : Hp} {s : Shared}
theorem gt_raw (I : Inv X pins σ H s) {v : Value} {x : Tr} (g : GT H v x) : ∃ a its,v = .ref a∧s.heap.IsTuple a its.toArray∧TH.Vs s.heap x its := by
  obtain ⟨a,ys,rfl,h1,h2⟩:=g
  obtain ⟨its,r,p,_⟩:=I.tuple (SqT.of (K:=X.K) h1)
  exact ⟨a,its,rfl,p,h2.vs I r⟩
theorem ts_trees (I : Inv X pins σ H s) : ∀ {t : Tr} {ys : List V} {us : List Value},Ts H t ys→Vals ys us→t.deep≤8→TH.TreesAt (GT H) s.heap us t.bs
  | .nil,ys,us,h,r,_ => by
    rw [Ts] at h
    subst h
    cases r
    exact .nil
  | .cons b q,ys,us,h,r,hd => by
    rw [Ts] at h
    obtain ⟨a,zs,rest,rfl,h1,h2,h3⟩:=h
    rw [Tr.deep] at hd
    cases r with
    | cons r1 r2 =>
      cases r1
      have g : GT H (.ref a) b:=⟨a,zs,rfl,h1,h2⟩
      exact .cons ⟨by omega,g,gt_raw I g⟩ (ts_trees I h3 r2 (by omega))
theorem mems_raw (I : Inv X pins σ H s) {l : List (Int×Value)} {m : List (Int×Tr)} (h : PySem.Paired (MemG H) l m) : PySem.Paired (TH.MemR (GT H) s.heap) l m :=
  TH.Paired.imp (fun _ _ ⟨a,b,c⟩ => ⟨a,b,c,gt_raw I c⟩) h
theorem g_ts : ∀ {us : List Value} {ts : List Tr},PySem.Paired (GT H) us ts→∃ zs,Vals zs us∧Ts H (Tr.of ts) zs
  | _,_,.nil => ⟨[],.nil,by rw [Tr.of,Ts]⟩
  | _,_,.cons ⟨a,ys,e,h1,h2⟩ r => by
    obtain ⟨zs,r1,r2⟩:=g_ts r
    subst e
    exact ⟨.ref a :: zs,.cons rfl r1,by rw [Tr.of,Ts]; exact ⟨a,ys,zs,rfl,h1,h2,r2⟩⟩
def rSetT (w : World) (K : PySem.W.Frag) : List V→Hp→VK→Prop:=fun xs H Q => ∃ p ys t st,xs = [.ref p]∧SqL K H p ys∧Ts H t ys∧t.deep≤8∧TH.runP (TH.fresh0 (!w.params.followText "set-order")) t.bs = some st ∧
  ∀ S H',Same H H'→SetV H' S st→Q (.ref S) H'
theorem call_setT (hc : X.calm = true) (hu : X.A.units + 64 < cLine) : CallR X (.type "set") (rSetT X.w X.K) := by
  intro pins s σ H xs us Q I r h
  obtain ⟨p,ys,t,st,rfl,hq,ht,hd,hst,q⟩:=h
  obtain ⟨u,rfl,r1⟩:=r.one
  cases r1
  obtain ⟨its,rv,pl,hz⟩:=I.list hq
  refine TH.call_set_tr (G:=GT H) (I.ok.hd hc) pl.isList (ts_trees I ht rv hd) (by omega) hst fun h2 tk S2 k2 => ?_
  obtain ⟨o,ev,ep,g1,g2,g3,g4⟩:=S2
  have hf:=I.hok.fresh (Nat.le_refl s.heap.objs.size)
  have es:=same_new hf (setO s.heap.objs.size ev ep st.2)
  refine ⟨.ref s.heap.objs.size,upd H s.heap.objs.size (setO s.heap.objs.size ev ep st.2),I.laid (t':=tk) k2 (Nat.le_refl _) ?_,rfl,q _ _ es ⟨ev,ep,upd_same,TH.Paired.imp (fun _ _ ⟨a,b,c,_⟩ => ⟨a,b,c.same es⟩) g4⟩⟩
  exact ⟨⟨o,g1,g2,g3⟩,⟨o,g1⟩,fun h1 h2 ⟨o,q1,q2⟩ k => ⟨o,k _ q1,q2⟩⟩
theorem set_raw (I : Inv X pins σ H s) {S : Addr} {st : TH.ES×SetTable} (h : SetV H S st) (ok : SetOk X.w st) : ∃ o ev ep,s.heap.get? S = some o∧TH.Walked X.w o ev ep st.2∧TH.Mems (GT H) s.heap ev st.1 := by
  obtain ⟨ev,ep,h1,h2⟩:=h
  obtain ⟨⟨o,g1,g2,g3⟩,_,_⟩:=(show ObjOk X.prog X.w H s.heap S (setO S ev ep st.2) from I.hok S _ h1)
  have R:=mems_raw I h2
  have hz : ev.size = st.1.size:=TH.Mems.size R
  exact ⟨o,ev,ep,g1,⟨g2,g3,by rw [hz]; exact ok.fit,ok.plain,ok.led,by rw [hz]; exact ok.walk⟩,R⟩
def rSortS (w : World) : List V→Hp→VK→Prop:=fun xs H Q => ∃ S st,xs = [.ref S]∧SetV H S st∧SetOk w st∧∀ (l : Addr) (zs : List V),H l = none→zs.length < 64→Ts H (Tr.of (Tr.srt (TH.memsOf st)).reverse) zs→Q (.ref l) (upd H l (.lst zs))
theorem call_sortS (hc : X.calm = true) (hu : X.A.units + 64 < cLine) : CallR X (.builtin "sorted") (rSortS X.w) := by
  intro pins s σ H xs us Q I r h
  obtain ⟨S,st,rfl,hS,ok,q⟩:=h
  obtain ⟨u,rfl,r1⟩:=r.one
  cases r1
  obtain ⟨o,ev,ep,g1,W,R⟩:=set_raw I hS ok
  refine TH.sorted_set (I.ok.hd hc) W g1 R ok.small (by omega) fun h' D tk e1 us hD k1 gD hp hl => ?_
  obtain ⟨zs,r1,r2⟩:=g_ts hp
  have hz : zs.length < 64 := by rw [r1.length]; exact hl
  refine ⟨.ref D,upd H D (.lst zs),I.laid (t':=tk) k1 hD ⟨Nat.le_of_lt (Nat.lt_of_lt_of_le hz (by rw [sizeLine_eq]; decide)),us,e1,r1,gD⟩,rfl,q D zs (I.hok.fresh hD) hz r2⟩
end
open PySem PyProof.Rows
end L2
set_option maxHeartbeats 1000000
namespace L2
open PySem PySem.Spec PyProof.Rows
def okRun (led : Bool) (l z : List Tr) : Bool:=match TH.runP (TH.fresh0 led) l with
  | some st => decide ((Tr.srt (TH.memsOf st)).reverse = z) && st.2.fits st.1.size && st.2.plain && decide (st.2.led = led) && TH.walkOk st.2 st.1.size && decide (st.1.size < 64)
  | none => false
theorem okRun_of {led : Bool} {l z : List Tr} (h : okRun led l z = true) : ∃ st,TH.runP (TH.fresh0 led) l = some st∧(Tr.srt (TH.memsOf st)).reverse = z∧st.2.fits st.1.size = true∧st.2.plain = true∧st.2.led = led∧TH.walkOk st.2 st.1.size = true∧st.1.size < 64 := by
  unfold okRun at h
  split at h
  · rename_i st e
    simp only [Bool.and_eq_true,decide_eq_true_eq] at h
    obtain ⟨⟨⟨⟨⟨h1,h2⟩,h3⟩,h4⟩,h5⟩,h6⟩:=h
    exact ⟨st,e,h1,h2,h3,h4,h5,h6⟩
  · cases h
def runZ (l : List Tr) : List Tr:=match TH.runP (TH.fresh0 true) l with
  | some st => (Tr.srt (TH.memsOf st)).reverse
  | none => []
def setD (t : Tr) : Option PyData:=if t.deep≤8∧okRun true t.bs (runZ t.bs) = true∧okRun false t.bs (runZ t.bs) = true then some (.list (rowD (Tr.of (runZ t.bs)))) else none
end L2
set_option maxHeartbeats 4000000
set_option maxHeartbeats 1000000
set_option maxHeartbeats 4000000
set_option maxHeartbeats 1000000
set_option maxHeartbeats 4000000
set_option maxHeartbeats 1000000
set_option maxHeartbeats 4000000
set_option maxHeartbeats 1000000
set_option maxHeartbeats 2000000
set_option maxHeartbeats 4000000
namespace Tim
open PySem PyProof.Rows
def mergeHi' : Array Keyed→Array Keyed→StateT SortSt Sem (Array Keyed):=sortPriv% PySem.Builtin.mergeHi
def En (N : Nat) (a : Array Nat) : Prop:=∀ (i : Nat) (x : Nat),a[i]? = some x→x < N
section
variable {N : Nat} {a b : Array Nat}
theorem En.get (h : En N a) {i : Nat} (hi : i < a.size) : ∃ x,a[i]? = some x∧x < N:=⟨a[i],Array.getElem?_eq_getElem hi,h i _ (Array.getElem?_eq_getElem hi)⟩
theorem en_mem : En N a ↔ ∀ x∈a,x < N := by
  constructor
  · intro h x hx
    obtain ⟨i,hi,rfl⟩:=Array.getElem_of_mem hx
    exact h i _ (Array.getElem?_eq_getElem hi)
  · intro h i x hx
    exact h x (Array.mem_of_getElem? hx)
theorem En.push (h : En N a) {x : Nat} (hx : x < N) : En N (a.push x):=en_mem.mpr fun y hy => by
  rcases Array.mem_push.mp hy with z | z
  · exact en_mem.mp h y z
  · rw [z]; exact hx
theorem En.app (h : En N a) (k : En N b) : En N (a ++ b):=en_mem.mpr fun y hy => by
  rcases Array.mem_append.mp hy with z | z
  · exact en_mem.mp h y z
  · exact en_mem.mp k y z
theorem En.ext (h : En N a) {i j : Nat} : En N (a.extract i j):=fun k x hx => by
  have hk:=(Array.getElem?_eq_some_iff.mp hx).1
  rw [Array.getElem?_extract] at hx
  split at hx
  · exact h _ _ hx
  · cases hx
theorem En.rev (h : En N a) : En N a.reverse:=en_mem.mpr fun y hy => en_mem.mp h y (Array.mem_reverse.mp hy)
theorem En.one {x : Nat} (hx : x < N) : En N #[x]:=en_mem.mpr fun y hy => by
  simp at hy
  rw [hy]; exact hx
end
section
variable {M : Model} {A : Around} {E : Value→Shared→Prop} {s : Shared} {σ : Type}
theorem wpS_invL {β : Type} {body : Nat→β→StateT σ Sem (ForInStep β)} (I : Nat→β→σ→Prop) {Q : β→σ→Prop} {n : Nat}
    (hs : ∀ x i b st,i < n→I i b st→wpS M A E s (body x b) (fun r st' => match r with | .yield b' => I (i + 1) b' st' | .done b' => Q b' st') st) (he : ∀ b st,I n b st→Q b st) :
    ∀ (l : List Nat) (i : Nat) (b : β) (st : σ),i + l.length = n→I i b st→wpS M A E s (forIn l b body) Q st
  | [],i,b,st,h,q => by
    rw [List.forIn_nil]
    exact wpS_pure (he b st (by rw [← h]; exact q))
  | x :: l,i,b,st,h,q => by
    rw [List.forIn_cons]
    rw [List.length_cons] at h
    refine wpS_bind (wpS_mono (hs x i b st (by omega) q) fun r st' k => ?_)
    cases r with
    | done b' => exact wpS_pure k
    | yield b' => exact wpS_invL I hs he l (i + 1) b' st' (by omega) k
theorem wpS_inv {β : Type} {lo hi : Nat} {body : Nat→β→StateT σ Sem (ForInStep β)} (I : Nat→β→σ→Prop) {Q : β→σ→Prop} {b : β} {st : σ} (h0 : I 0 b st)
    (hs : ∀ x i b st,i < hi - lo→I i b st→wpS M A E s (body x b) (fun r st' => match r with | .yield b' => I (i + 1) b' st' | .done b' => Q b' st') st) (he : ∀ b st,I (hi - lo) b st→Q b st) :
    wpS M A E s (forIn [lo:hi] b body) Q st := by
  rw [Std.Legacy.Range.forIn_eq_forIn_range']
  have hsz : ([lo:hi] : Std.Legacy.Range).size = hi - lo := by simp [Std.Legacy.Range.size]
  show wpS M A E s (forIn (List.range' lo ([lo:hi] : Std.Legacy.Range).size 1) b body) Q st
  rw [hsz]
  exact wpS_invL I hs he _ 0 b st (by rw [List.length_range']; omega) h0
end
theorem iter_inv {T : Type} {step : T→Option (Bool×T)} (I : Nat→T→Prop) (R : T→Prop) (hs : ∀ f t,I (f + 1) t→∃ b t',step t = some (b,t')∧(if b = true then R t' else I f t')) (he : ∀ t,I 0 t→R t) : ∀ n t,I n t→∃ t',iter step n t = some t'∧R t'
  | 0,t,h => ⟨t,rfl,he t h⟩
  | n + 1,t,h => by
    obtain ⟨b,t',h1,h2⟩:=hs n t h
    cases b with
    | true => exact ⟨t',by rw [iter,h1],by simpa using h2⟩
    | false =>
      obtain ⟨t2,h3,h4⟩:=iter_inv I R hs he n t' (by simpa using h2)
      exact ⟨t2,by rw [iter,h1]; exact h3,h4⟩
theorem gal_some {b : Nat→Option Bool} {n hint : Nat} (hb : ∀ i,i < n→∃ x,b i = some x) (hh : hint < n) : ∃ k,galT b n hint = some k∧k≤n := by
  have bis : ∀ t : Nat×Nat,t.2≤n→∃ t',iter (bisS b) n t = some t'∧t'.2≤n:=fun t ht => by
    refine iter_inv (fun _ t => t.2≤n) (fun t => t.2≤n) (fun f t h => ?_) (fun t h => h) n t ht
    unfold bisS
    by_cases z : t.1 ≥ t.2
    · exact ⟨true,t,if_pos z,by simpa using h⟩
    · rw [if_neg z]
      obtain ⟨x,hx⟩:=hb (t.1 + (t.2 - t.1) / 2) (by omega)
      rw [hx]
      cases x with
      | true => exact ⟨false,_,rfl,by simpa using h⟩
      | false => exact ⟨false,_,rfl,by simp; omega⟩
  obtain ⟨x,hx⟩:=hb hint hh
  unfold galT
  rw [hx]
  cases x with
  | true =>
    obtain ⟨t,h1,_⟩:=iter_inv (step:=upS b hint (n - hint)) (fun _ _ => True) (fun _ => True) (fun f t _ => by
      unfold upS
      by_cases z : t.2 ≥ n - hint
      · exact ⟨true,t,if_pos z,trivial⟩
      · rw [if_neg z]
        obtain ⟨y,hy⟩:=hb (hint + t.2) (by omega)
        rw [hy]
        cases y with
        | true => exact ⟨false,_,rfl,trivial⟩
        | false => exact ⟨true,_,rfl,trivial⟩) (fun _ _ => trivial) n (0,1) trivial
    dsimp only
    rw [h1]
    obtain ⟨t2,h2,h3⟩ := bis (hint + t.1 + 1,hint + min t.2 (n - hint)) (by show hint + min t.2 (n - hint)≤n; omega)
    refine ⟨t2.2,?_,h3⟩
    show (iter (bisS b) n (hint + t.1 + 1,hint + min t.2 (n - hint))).map (·.2) = _
    rw [h2]; rfl
  | false =>
    obtain ⟨t,h1,_⟩:=iter_inv (step:=dnS b hint (hint + 1)) (fun _ _ => True) (fun _ => True) (fun f t _ => by
      unfold dnS
      by_cases z : t.2 ≥ hint + 1
      · exact ⟨true,t,if_pos z,trivial⟩
      · rw [if_neg z]
        obtain ⟨y,hy⟩:=hb (hint - t.2) (by omega)
        rw [hy]
        cases y with
        | true => exact ⟨true,_,rfl,trivial⟩
        | false => exact ⟨false,_,rfl,trivial⟩) (fun _ _ => trivial) n (0,1) trivial
    dsimp only
    rw [h1]
    obtain ⟨t2,h2,h3⟩ := bis (hint + 1 - min t.2 (hint + 1),hint - t.1) (by show hint - t.1≤n; omega)
    refine ⟨t2.2,?_,h3⟩
    show (iter (bisS b) n (hint + 1 - min t.2 (hint + 1),hint - t.1)).map (·.2) = _
    rw [h2]; rfl
section
variable {N : Nat} {lt : Nat→Nat→Bool} {p : Array Nat}
theorem cmp_some {i j : Nat} (hi : i < N) (hj : j < N) : cmp N lt i j = some (lt i j):=if_pos ⟨hi,hj⟩
theorem at_some (h : En N p) {i j : Nat} (hi : i < p.size) (hj : j < p.size) : ∃ x,at2 N lt p i j = some x := by
  obtain ⟨x,h1,h2⟩:=h.get hi
  obtain ⟨y,h3,h4⟩:=h.get hj
  exact ⟨lt x y,by unfold at2; rw [h1,h3]; exact cmp_some h2 h4⟩
theorem bey_some (h : En N p) {left : Bool} {key base i : Nat} (hk : key < N) (hi : base + i < p.size) : ∃ x,bey N lt left key p base i = some x := by
  obtain ⟨x,h1,h2⟩:=h.get hi
  unfold bey
  rw [h1]
  cases left with
  | true => exact ⟨_,cmp_some h2 hk⟩
  | false => exact ⟨_,by show (cmp N lt key x).map _ = _; rw [cmp_some hk h2]; rfl⟩
end
section
variable {prog : Program} {w : World} {A : Around} {E : Value→Shared→Prop} {s : Shared} {N : Nat} {lt : Nat→Nat→Bool} {κ : SortKind} {it : Nat→Keyed} {p : Array Nat} {pend : Array (Nat×Nat×Nat)} {g : Nat}
theorem gallop_any (hc : Cm prog w A s κ it N lt) {left : Bool} {key : Nat} {xs : Array Nat} {base n hint : Nat} (hx : En N xs) (hk : key < N) (hn : base + n≤xs.size) (hh : hint < n) {Q : Option Nat→SortSt→Prop} (q : ∀ k,k≤n→Q (some k) (St κ it p pend g)) :
    wpS (model prog w) A E s (gallop' left (it key) (xs.map it) base n hint) Q (St κ it p pend g) := by
  obtain ⟨k,h1,h2⟩:=gal_some (b := bey N lt left key xs base) (n:=n) (hint:=hint) (fun i hi => bey_some hx hk (by omega)) hh
  exact gallop_ok hc h1 (q k h2)
theorem lt_any (hc : Cm prog w A s κ it N lt) {i j : Nat} (hi : i < N) (hj : j < N) {Q : Option Bool→SortSt→Prop} (q : ∀ b,Q (some b) (St κ it p pend g)) : wpS (model prog w) A E s (lt' (it i) (it j)) Q (St κ it p pend g):=lt_ok hc (cmp_some hi hj) (q _)
theorem elem_any {xs : Array Nat} {k : Nat} (hx : En N xs) (hk : k < xs.size) {Q : Keyed→SortSt→Prop} {st : SortSt} (q : ∀ x,x < N→Q (it x) st) : wpS (model prog w) A E s (elem' (xs.map it) k) Q st := by
  obtain ⟨x,h1,h2⟩:=hx.get hk
  exact elem_ok h1 (q x h2)
end
end Tim
namespace Tim
open PySem PyProof.Rows
def Mg (N : Nat) (it : Nat→Keyed) (x : Array Keyed) : Prop:=∃ r : Array Nat,En N r∧x = r.map it
section
variable {N : Nat} {it : Nat→Keyed} {x y : Array Keyed}
theorem Mg.of {a : Array Nat} (h : En N a) : Mg N it (a.map it):=⟨a,h,rfl⟩
theorem Mg.push (h : Mg N it x) {i : Nat} (hi : i < N) : Mg N it (x.push (it i)) := by
  obtain ⟨r,h1,rfl⟩:=h
  exact ⟨r.push i,h1.push hi,by rw [Array.map_push]⟩
theorem Mg.app (h : Mg N it x) (k : Mg N it y) : Mg N it (x ++ y) := by
  obtain ⟨r,h1,rfl⟩:=h
  obtain ⟨r',h2,rfl⟩:=k
  exact ⟨r ++ r',h1.app h2,by rw [Array.map_append]⟩
theorem Mg.ext (h : Mg N it x) {i j : Nat} : Mg N it (x.extract i j) := by
  obtain ⟨r,h1,rfl⟩:=h
  exact ⟨r.extract i j,h1.ext,by rw [Array.map_extract]⟩
theorem Mg.rev (h : Mg N it x) : Mg N it x.reverse := by
  obtain ⟨r,h1,rfl⟩:=h
  exact ⟨r.reverse,h1.rev,by rw [Array.map_reverse]⟩
theorem Mg.one {i : Nat} (hi : i < N) : Mg N it #[it i]:=⟨#[i],.one hi,by simp⟩
end
section
variable {prog : Program} {w : World} {A : Around} {E : Value→Shared→Prop} {s : Shared} {N : Nat} {lt : Nat→Nat→Bool} {κ : SortKind} {it : Nat→Keyed} {p : Array Nat} {pend : Array (Nat×Nat×Nat)} {g : Nat}
theorem elem_p {xs : Array Nat} {k : Nat} (hx : En N xs) (hk : k < xs.size) {β : Type} {f : Keyed→StateT SortSt Sem β} {Q : β→SortSt→Prop} {st : SortSt} (q : ∀ x,x < N→wpS (model prog w) A E s (f (it x)) Q st) : wpS (model prog w) A E s ((sortPriv% PySem.Builtin.elem) (xs.map it) k >>= f) Q st:=wpS_bind (elem_any hx hk q)
theorem lt_p (hc : Cm prog w A s κ it N lt) {i j : Nat} (hi : i < N) (hj : j < N) {β : Type} {f : Option Bool→StateT SortSt Sem β} {Q : β→SortSt→Prop} (q : ∀ b,wpS (model prog w) A E s (f (some b)) Q (St κ it p pend g)) : wpS (model prog w) A E s ((sortPriv% PySem.Builtin.lt) (it i) (it j) >>= f) Q (St κ it p pend g):=wpS_bind (lt_any hc hi hj q)
theorem gal_p (hc : Cm prog w A s κ it N lt) {left : Bool} {key : Nat} {xs : Array Nat} {base n hint : Nat} (hx : En N xs) (hk : key < N) (hn : base + n≤xs.size) (hh : hint < n) {β : Type} {f : Option Nat→StateT SortSt Sem β} {Q : β→SortSt→Prop} (q : ∀ k,k≤n→wpS (model prog w) A E s (f (some k)) Q (St κ it p pend g)) : wpS (model prog w) A E s ((sortPriv% PySem.Builtin.gallop) left (it key) (xs.map it) base n hint >>= f) Q (St κ it p pend g):=wpS_bind (gallop_any hc hx hk hn hh q)
theorem set_p {m : Nat} {β : Type} {f : Unit→StateT SortSt Sem β} {Q : β→SortSt→Prop} (q : wpS (model prog w) A E s (f ()) Q (St κ it p pend m)) : wpS (model prog w) A E s ((sortPriv% PySem.Builtin.setMinGallop) m >>= f) Q (St κ it p pend g):=wpS_bind (wpS_modify q)
theorem if_p {c : Prop} [Decidable c] {β : Type} {x y : StateT SortSt Sem β} {Q : β→SortSt→Prop} {st : SortSt} (h1 : c→wpS (model prog w) A E s x Q st) (h2 : ¬ c→wpS (model prog w) A E s y Q st) : wpS (model prog w) A E s (if c then x else y) Q st := by
  by_cases z : c
  · rw [if_pos z]; exact h1 z
  · rw [if_neg z]; exact h2 z
theorem mergeHi_any (hc : Cm prog w A s κ it N lt) {a b : Array Nat} (ha : En N a) (hb : En N b) (a1 : 1≤a.size) (b1 : 1≤b.size) {Q : Array Keyed→SortSt→Prop} (q : ∀ r g',Mg N it r→Q r (St κ it p pend g')) : wpS (model prog w) A E s (mergeHi' (a.map it) (b.map it)) Q (St κ it p pend g) := by
  have ma:=Mg.of (it:=it) ha
  have mb:=Mg.of (it:=it) hb
  refine wpS_bind (wpS_lift (wpAny_rule ⟨rfl,?_⟩))
  dsimp only
  refine wpS_bind (elem_any ha (by rw [Array.size_map]; omega) fun y hy => ?_)
  simp only [Array.size_map]
  by_cases z1 : (a.size - 1 == 0) = true
  · rw [if_pos z1]
    exact wpS_pure (q _ _ ((ma.ext.app mb.ext).app (Mg.one hy).rev))
  rw [if_neg z1]
  have z1' : a.size - 1≠0 := by simpa using z1
  by_cases z2 : (b.size == 1) = true
  · rw [if_pos z2]
    exact wpS_pure (q _ _ ((mb.ext.app ma.ext).app (Mg.one hy).rev))
  rw [if_neg z2]
  have z2' : b.size≠1 := by simpa using z2
  refine wpS_bind (wpS_get ?_)
  dsimp only
  refine wpS_bind (wpS_mono (wpS_inv (fun i (t : Option (Array Keyed)×Nat×Nat×Array Keyed×Nat) st => (∃ g',st = St κ it p pend g')∧t.1 = none∧1≤t.2.1∧t.2.1≤a.size∧2≤t.2.2.1∧t.2.2.1≤b.size∧Mg N it t.2.2.2.1∧t.2.1 + t.2.2.1 + i≤a.size + b.size)
    (Q:=fun t st => (∃ g',st = St κ it p pend g')∧∃ r,t.1 = some r∧Mg N it r) ?_ ?_ ?_) fun t st' hq => ?_)
  · exact ⟨⟨_,rfl⟩,rfl,by show 1≤a.size - 1; omega,by show a.size - 1≤a.size; omega,by show 2≤b.size; omega,Nat.le_refl _,Mg.one hy,by show a.size - 1 + b.size + 0≤_; omega⟩
  · rintro x i ⟨res,na,nb,out,mg⟩ st hi ⟨⟨g0,rfl⟩,h1,n1,n2,n3,n4,mo,hs⟩
    dsimp only at h1 n1 n2 n3 n4 mo hs ⊢
    subst h1
    refine wpS_bind (wpS_mono (wpS_inv (fun j (t : Option (Array Keyed)×Nat×Nat×Array Keyed×Nat×Nat) st => st = St κ it p pend g0∧t.1 = none∧1≤t.2.1∧t.2.1≤a.size∧2≤t.2.2.1∧t.2.2.1≤b.size∧Mg N it t.2.2.2.1∧t.2.1 + t.2.2.1 + j≤na + nb)
      (Q:=fun t st => st = St κ it p pend g0∧match t.1 with
        | some r => Mg N it r
        | none => 1≤t.2.1∧t.2.1≤a.size∧2≤t.2.2.1∧t.2.2.1≤b.size∧Mg N it t.2.2.2.1∧t.2.1 + t.2.2.1 < na + nb) ?_ ?_ ?_) fun t st' hq => ?_)
    · exact ⟨rfl,rfl,n1,n2,n3,n4,mo,Nat.le_refl _⟩
    · rintro x2 j ⟨res2,na2,nb2,out2,ac2,bc2⟩ st2 hj ⟨rfl,h2,k1,k2,k3,k4,mo2,hs2⟩
      dsimp only at h2 k1 k2 k3 k4 mo2 hs2 ⊢
      subst h2
      simp only [beq_iff_eq]
      repeat' first
       | with_reducible refine if_p (fun _ => ?_) (fun _ => ?_)
       | with_reducible refine elem_p hb ?_ (fun _ _ => ?_)
       | with_reducible refine elem_p ha ?_ (fun _ _ => ?_)
       | with_reducible refine lt_p hc ?_ ?_ (fun _ => ?_)
       | with_reducible refine gal_p hc ha ?_ ?_ ?_ (fun _ _ => ?_)
       | with_reducible refine gal_p hc hb ?_ ?_ ?_ (fun _ _ => ?_)
       | with_reducible refine set_p ?_
       | with_reducible refine wpS_pure ?_
       | dsimp only
       | omega
       | with_reducible refine And.intro ?_ ?_
       | exact ⟨_,rfl⟩
       | rfl
       | with_reducible assumption
       | with_reducible exact ma.ext
       | with_reducible exact mb.ext
       | with_reducible apply Mg.app
       | with_reducible apply Mg.push
       | with_reducible apply Mg.rev
    · rintro ⟨res2,na2,nb2,out2,ac2,bc2⟩ st2 ⟨rfl,h2,k1,k2,k3,k4,mo2,hs2⟩
      dsimp only at h2 k1 k2 k3 k4 mo2 hs2 ⊢
      subst h2
      exact ⟨rfl,k1,k2,k3,k4,mo2,by omega⟩
    obtain ⟨res1,na1,nb1,out1,ac1,bc1⟩:=t
    obtain ⟨rfl,hq⟩:=hq
    cases res1 with
    | some r => exact wpS_pure ⟨⟨_,rfl⟩,r,rfl,hq⟩
    | none =>
      dsimp only at hq ⊢
      obtain ⟨l1,l2,l3,l4,mo1,hs1⟩:=hq
      refine wpS_bind (wpS_lift (wpAny_rule ⟨rfl,?_⟩))
      refine wpS_bind (wpS_mono (wpS_inv (fun j (t : Option (Array Keyed)×Nat×Nat×Array Keyed×Nat×Nat×Nat) st => (∃ g',st = St κ it p pend g')∧t.1 = none∧1≤t.2.1∧t.2.1≤a.size∧2≤t.2.2.1∧t.2.2.1≤b.size∧Mg N it t.2.2.2.1∧t.2.1 + t.2.2.1≤na1 + nb1)
        (Q:=fun t st => (∃ g',st = St κ it p pend g')∧match t.1 with
          | some r => Mg N it r
          | none => 1≤t.2.1∧t.2.1≤a.size∧2≤t.2.2.1∧t.2.2.1≤b.size∧Mg N it t.2.2.2.1∧t.2.1 + t.2.2.1≤na1 + nb1) ?_ ?_ ?_) fun t st' hq => ?_)
      · exact ⟨⟨_,rfl⟩,rfl,l1,l2,l3,l4,mo1,Nat.le_refl _⟩
      · rintro x2 j ⟨res2,na2,nb2,out2,mg2,ac2,bc2⟩ st2 hj ⟨⟨g2,rfl⟩,h2,k1,k2,k3,k4,mo2,hs2⟩
        dsimp only at h2 k1 k2 k3 k4 mo2 hs2 ⊢
        subst h2
        simp only [beq_iff_eq]
        repeat' first
         | with_reducible refine if_p (fun _ => ?_) (fun _ => ?_)
         | with_reducible refine elem_p hb ?_ (fun _ _ => ?_)
         | with_reducible refine elem_p ha ?_ (fun _ _ => ?_)
         | with_reducible refine lt_p hc ?_ ?_ (fun _ => ?_)
         | with_reducible refine gal_p hc ha ?_ ?_ ?_ (fun _ _ => ?_)
         | with_reducible refine gal_p hc hb ?_ ?_ ?_ (fun _ _ => ?_)
         | with_reducible refine set_p ?_
         | with_reducible refine wpS_pure ?_
         | dsimp only
         | omega
         | with_reducible refine And.intro ?_ ?_
         | exact ⟨_,rfl⟩
         | rfl
         | with_reducible assumption
         | with_reducible exact ma.ext
         | with_reducible exact mb.ext
         | with_reducible apply Mg.app
         | with_reducible apply Mg.push
         | with_reducible apply Mg.rev
      · rintro ⟨res2,na2,nb2,out2,mg2,ac2,bc2⟩ st2 ⟨hg2,h2,k1,k2,k3,k4,mo2,hs2⟩
        dsimp only at h2 k1 k2 k3 k4 mo2 hs2 ⊢
        subst h2
        exact ⟨hg2,k1,k2,k3,k4,mo2,hs2⟩
      obtain ⟨res2,na2,nb2,out2,mg2,ac2,bc2⟩:=t
      obtain ⟨⟨g2,rfl⟩,hq⟩:=hq
      cases res2 with
      | some r => exact wpS_pure ⟨⟨_,rfl⟩,r,rfl,hq⟩
      | none =>
        dsimp only at hq ⊢
        obtain ⟨k1,k2,k3,k4,mo2,hs2⟩:=hq
        refine wpS_bind (wpS_modify ?_)
        exact wpS_pure ⟨⟨_,rfl⟩,rfl,k1,k2,k3,k4,mo2,by show na2 + nb2 + (i + 1)≤a.size + b.size; omega⟩
  · rintro ⟨res,na,nb,out,mg⟩ st ⟨_,h1,n1,n2,n3,n4,mo,hs⟩
    dsimp only at h1 n1 n2 n3 n4 mo hs
    omega
  obtain ⟨⟨g',rfl⟩,r,h1,h2⟩:=hq
  rw [h1]
  exact wpS_pure (q r g' h2)
end
end Tim
namespace Tim
open PySem PyProof.Rows
section
variable {prog : Program} {w : World} {A : Around} {E : Value→Shared→Prop} {s : Shared} {N : Nat} {lt : Nat→Nat→Bool} {κ : SortKind} {it : Nat→Keyed} {p : Array Nat} {pend : Array (Nat×Nat×Nat)} {g : Nat}
theorem mergeLo_any (hc : Cm prog w A s κ it N lt) {a b : Array Nat} (ha : En N a) (hb : En N b) (a1 : 1≤a.size) (b1 : 1≤b.size) {Q : Array Keyed→SortSt→Prop} (q : ∀ r g',Mg N it r→Q r (St κ it p pend g')) : wpS (model prog w) A E s (mergeLo' (a.map it) (b.map it)) Q (St κ it p pend g) := by
  have ma:=Mg.of (it:=it) ha
  have mb:=Mg.of (it:=it) hb
  refine wpS_bind (wpS_lift (wpAny_rule ⟨rfl,?_⟩))
  dsimp only
  refine wpS_bind (elem_any hb (by omega) fun y hy => ?_)
  simp only [Array.size_map]
  by_cases z1 : (1 == b.size) = true
  · rw [if_pos z1]
    exact wpS_pure (q _ _ (((Mg.one hy).app ma.ext).app mb.ext))
  rw [if_neg z1]
  have z1' : 1≠b.size := by simpa using z1
  by_cases z2 : (0 + 1 == a.size) = true
  · rw [if_pos z2]
    exact wpS_pure (q _ _ (((Mg.one hy).app mb.ext).app ma.ext))
  rw [if_neg z2]
  have z2' : 0 + 1≠a.size := by simpa using z2
  refine wpS_bind (wpS_get ?_)
  dsimp only
  refine wpS_bind (wpS_mono (wpS_inv (fun i (t : Option (Array Keyed)×Array Keyed×Nat×Nat×Nat) st => (∃ g',st = St κ it p pend g')∧t.1 = none∧t.2.2.1 + 1 < a.size∧t.2.2.2.1 < b.size∧Mg N it t.2.1∧i + 1≤t.2.2.1 + t.2.2.2.1)
    (Q:=fun t st => (∃ g',st = St κ it p pend g')∧∃ r,t.1 = some r∧Mg N it r) ?_ ?_ ?_) fun t st' hq => ?_)
  · exact ⟨⟨_,rfl⟩,rfl,by show 0 + 1 < a.size; omega,by show 1 < b.size; omega,Mg.one hy,by show 0 + 1≤0 + 1; omega⟩
  · rintro x i ⟨res,out,ia,ib,mg⟩ st hi ⟨⟨g0,rfl⟩,h1,n1,n2,mo,hs⟩
    dsimp only at h1 n1 n2 mo hs ⊢
    subst h1
    refine wpS_bind (wpS_mono (wpS_inv (fun j (t : Option (Array Keyed)×Array Keyed×Nat×Nat×Nat×Nat) st => st = St κ it p pend g0∧t.1 = none∧t.2.2.1 + 1 < a.size∧t.2.2.2.1 < b.size∧Mg N it t.2.1∧ia + ib + j≤t.2.2.1 + t.2.2.2.1)
      (Q:=fun t st => st = St κ it p pend g0∧match t.1 with
        | some r => Mg N it r
        | none => t.2.2.1 + 1 < a.size∧t.2.2.2.1 < b.size∧Mg N it t.2.1∧ia + ib < t.2.2.1 + t.2.2.2.1) ?_ ?_ ?_) fun t st' hq => ?_)
    · exact ⟨rfl,rfl,n1,n2,mo,Nat.le_refl _⟩
    · rintro x2 j ⟨res2,out2,ia2,ib2,ac2,bc2⟩ st2 hj ⟨rfl,h2,k1,k2,mo2,hs2⟩
      dsimp only at h2 k1 k2 mo2 hs2 ⊢
      subst h2
      simp only [beq_iff_eq]
      repeat' first
       | with_reducible refine if_p (fun _ => ?_) (fun _ => ?_)
       | with_reducible refine elem_p hb ?_ (fun _ _ => ?_)
       | with_reducible refine elem_p ha ?_ (fun _ _ => ?_)
       | with_reducible refine lt_p hc ?_ ?_ (fun _ => ?_)
       | with_reducible refine gal_p hc ha ?_ ?_ ?_ (fun _ _ => ?_)
       | with_reducible refine gal_p hc hb ?_ ?_ ?_ (fun _ _ => ?_)
       | with_reducible refine set_p ?_
       | with_reducible refine wpS_pure ?_
       | dsimp only
       | omega
       | with_reducible refine And.intro ?_ ?_
       | exact ⟨_,rfl⟩
       | rfl
       | with_reducible assumption
       | with_reducible exact ma.ext
       | with_reducible exact mb.ext
       | with_reducible apply Mg.app
       | with_reducible apply Mg.push
    · rintro ⟨res2,out2,ia2,ib2,ac2,bc2⟩ st2 ⟨rfl,h2,k1,k2,mo2,hs2⟩
      dsimp only at h2 k1 k2 mo2 hs2 ⊢
      subst h2
      exact ⟨rfl,k1,k2,mo2,by omega⟩
    obtain ⟨res1,out1,ia1,ib1,ac1,bc1⟩:=t
    obtain ⟨rfl,hq⟩:=hq
    cases res1 with
    | some r => exact wpS_pure ⟨⟨_,rfl⟩,r,rfl,hq⟩
    | none =>
      dsimp only at hq ⊢
      obtain ⟨l1,l2,mo1,hs1⟩:=hq
      refine wpS_bind (wpS_lift (wpAny_rule ⟨rfl,?_⟩))
      refine wpS_bind (wpS_mono (wpS_inv (fun j (t : Option (Array Keyed)×Array Keyed×Nat×Nat×Nat×Nat×Nat) st => (∃ g',st = St κ it p pend g')∧t.1 = none∧t.2.2.1 + 1 < a.size∧t.2.2.2.1 < b.size∧Mg N it t.2.1∧ia1 + ib1≤t.2.2.1 + t.2.2.2.1)
        (Q:=fun t st => (∃ g',st = St κ it p pend g')∧match t.1 with
          | some r => Mg N it r
          | none => t.2.2.1 + 1 < a.size∧t.2.2.2.1 < b.size∧Mg N it t.2.1∧ia1 + ib1≤t.2.2.1 + t.2.2.2.1) ?_ ?_ ?_) fun t st' hq => ?_)
      · exact ⟨⟨_,rfl⟩,rfl,l1,l2,mo1,Nat.le_refl _⟩
      · rintro x2 j ⟨res2,out2,ia2,ib2,mg2,ac2,bc2⟩ st2 hj ⟨⟨g2,rfl⟩,h2,k1,k2,mo2,hs2⟩
        dsimp only at h2 k1 k2 mo2 hs2 ⊢
        subst h2
        simp only [beq_iff_eq]
        repeat' first
         | with_reducible refine if_p (fun _ => ?_) (fun _ => ?_)
         | with_reducible refine elem_p hb ?_ (fun _ _ => ?_)
         | with_reducible refine elem_p ha ?_ (fun _ _ => ?_)
         | with_reducible refine lt_p hc ?_ ?_ (fun _ => ?_)
         | with_reducible refine gal_p hc ha ?_ ?_ ?_ (fun _ _ => ?_)
         | with_reducible refine gal_p hc hb ?_ ?_ ?_ (fun _ _ => ?_)
         | with_reducible refine set_p ?_
         | with_reducible refine wpS_pure ?_
         | dsimp only
         | omega
         | with_reducible refine And.intro ?_ ?_
         | exact ⟨_,rfl⟩
         | rfl
         | with_reducible assumption
         | with_reducible exact ma.ext
         | with_reducible exact mb.ext
         | with_reducible apply Mg.app
         | with_reducible apply Mg.push
      · rintro ⟨res2,out2,ia2,ib2,mg2,ac2,bc2⟩ st2 ⟨hg2,h2,k1,k2,mo2,hs2⟩
        dsimp only at h2 k1 k2 mo2 hs2 ⊢
        subst h2
        exact ⟨hg2,k1,k2,mo2,hs2⟩
      obtain ⟨res2,out2,ia2,ib2,mg2,ac2,bc2⟩:=t
      obtain ⟨⟨g2,rfl⟩,hq⟩:=hq
      cases res2 with
      | some r => exact wpS_pure ⟨⟨_,rfl⟩,r,rfl,hq⟩
      | none =>
        dsimp only at hq ⊢
        obtain ⟨k1,k2,mo2,hs2⟩:=hq
        refine wpS_bind (wpS_modify ?_)
        exact wpS_pure ⟨⟨_,rfl⟩,rfl,k1,k2,mo2,by show i + 1 + 1≤ia2 + ib2; omega⟩
  · rintro ⟨res,out,ia,ib,mg⟩ st ⟨_,h1,n1,n2,mo,hs⟩
    dsimp only at h1 n1 n2 mo hs
    omega
  obtain ⟨⟨g',rfl⟩,r,h1,h2⟩:=hq
  rw [h1]
  exact wpS_pure (q r g' h2)
end
end Tim
namespace Tim
open PySem PyProof.Rows
section
variable {N : Nat} {lt : Nat→Nat→Bool} {p : Array Nat}
theorem En.perm {a b : Array Nat} (h : En N a) (k : b.Perm a) : En N b:=en_mem.mpr fun x hx => en_mem.mp h x (by
  have:=k.mem_iff (a:=x)
  exact this.mp hx)
theorem turn_en (h : En N p) (i j : Nat) : En N (turn p i j)∧(turn p i j).size = p.size:=⟨h.perm (mirror_perm _ _ _ _),mirror_size _ _ _ _⟩
theorem asc_some (h : En N p) {lo nrem n : Nat} (hz : lo + nrem≤p.size) (h1 : 1≤n) {f : Nat} (hf : n + f≤nrem) : ∃ m,iter (ascS N lt p lo) f n = some m∧1≤m∧m≤nrem := by
  obtain ⟨m,h2,h3⟩:=iter_inv (step:=ascS N lt p lo) (fun f n => 1≤n∧n + f≤nrem) (fun n => 1≤n∧n≤nrem) (fun f n ⟨k1,k2⟩ => by
    obtain ⟨x,hx⟩:=at_some (lt:=lt) h (i:=lo + n) (j:=lo + n - 1) (by omega) (by omega)
    unfold ascS
    rw [hx]
    cases x with
    | true => exact ⟨true,n,rfl,by simp; omega⟩
    | false => exact ⟨false,n + 1,rfl,by simp; omega⟩) (fun n ⟨k1,k2⟩ => ⟨k1,by omega⟩) f n ⟨h1,hf⟩
  exact ⟨m,h2,h3⟩
theorem fall_some (h : En N p) {lo nrem n : Nat} (hz : lo + nrem≤p.size) (hn : n + 1≤nrem) : ∃ m p',fallT N lt p lo nrem n = some (m,p')∧1≤m∧m≤nrem∧En N p'∧p'.size = p.size := by
  obtain ⟨t,h2,h3,h4,h5,h6⟩:=iter_inv (step:=descS N lt lo) (fun f (t : Array Nat×Nat×Nat) => En N t.1∧t.1.size = p.size∧1≤t.2.1∧t.2.1 + f≤nrem) (fun t => En N t.1∧t.1.size = p.size∧1≤t.2.1∧t.2.1≤nrem) (fun f t ⟨k1,k2,k3,k4⟩ => by
    obtain ⟨q,n,c⟩:=t
    dsimp only at k1 k2 k3 k4
    obtain ⟨x,hx⟩:=at_some (lt:=lt) k1 (i:=lo + n) (j:=lo + n - 1) (by omega) (by omega)
    obtain ⟨y,hy⟩:=at_some (lt:=lt) k1 (i:=lo + n - 1) (j:=lo + n) (by omega) (by omega)
    unfold descS
    dsimp only
    rw [hx]
    cases x with
    | true =>
      refine ⟨false,_,rfl,?_⟩
      rw [if_neg (by decide)]
      dsimp only
      split
      · obtain ⟨z1,z2⟩:=turn_en k1 (lo + n - (c + 1)) (lo + n)
        exact ⟨z1,by rw [z2]; exact k2,by omega,by omega⟩
      · exact ⟨k1,k2,by omega,by omega⟩
    | false =>
      dsimp only
      rw [hy]
      cases y with
      | true => exact ⟨true,_,rfl,by rw [if_pos rfl]; exact ⟨k1,k2,k3,by show n≤nrem; omega⟩⟩
      | false => exact ⟨false,_,rfl,by rw [if_neg (by decide)]; exact ⟨k1,k2,by show 1≤n + 1; omega,by show n + 1 + f≤nrem; omega⟩⟩) (fun t ⟨k1,k2,k3,k4⟩ => ⟨k1,k2,k3,by omega⟩) (nrem - (n + 1)) (p,n + 1,0) ⟨h,rfl,by show 1≤n + 1; omega,by show n + 1 + (nrem - (n + 1))≤nrem; omega⟩
  obtain ⟨q,m,c⟩:=t
  dsimp only at h3 h4 h5 h6
  unfold fallT
  rw [h2]
  dsimp only
  have k : En N (if c > 0 then turn q (lo + m - (c + 1)) (lo + m) else q)∧(if c > 0 then turn q (lo + m - (c + 1)) (lo + m) else q).size = p.size := by
    split
    · obtain ⟨z1,z2⟩:=turn_en h3 (lo + m - (c + 1)) (lo + m)
      exact ⟨z1,by rw [z2]; exact h4⟩
    · exact ⟨h3,h4⟩
  generalize (if c > 0 then turn q (lo + m - (c + 1)) (lo + m) else q) = q2 at k
  obtain ⟨z1,z2⟩:=turn_en k.1 lo (lo + m)
  obtain ⟨m2,y1,y2,y3⟩:=asc_some (lt:=lt) z1 (lo:=lo) (nrem:=nrem) (n:=m) (f:=nrem - m) (by rw [z2,k.2]; exact hz) h5 (by omega)
  exact ⟨m2,_,by rw [y1]; rfl,y2,y3,z1,by rw [z2]; exact k.2⟩
theorem count_some (h : En N p) {lo nrem : Nat} (hz : lo + nrem≤p.size) (h1 : 1≤nrem) : ∃ m p',countT N lt p lo nrem = some (m,p')∧1≤m∧m≤nrem∧En N p'∧p'.size = p.size := by
  obtain ⟨n,h2,h3,h4⟩:=asc_some (lt:=lt) h (lo:=lo) (nrem:=nrem) (n:=1) (f:=nrem - 1) hz (Nat.le_refl _) (by omega)
  unfold countT
  rw [h2]
  dsimp only
  by_cases c1 : (n == nrem) = true
  · rw [if_pos c1]
    exact ⟨n,p,rfl,h3,h4,h,rfl⟩
  rw [if_neg c1]
  have c1' : n≠nrem := by simpa using c1
  by_cases c2 : n > 1
  · rw [if_pos c2]
    obtain ⟨x,hx⟩:=at_some (lt:=lt) h (i:=lo) (j:=lo + n - 1) (by omega) (by omega)
    rw [hx]
    cases x with
    | true => exact ⟨n,p,rfl,h3,h4,h,rfl⟩
    | false =>
      obtain ⟨z1,z2⟩:=turn_en h lo (lo + n)
      obtain ⟨m,p',y1,y2,y3,y4,y5⟩:=fall_some (lt:=lt) z1 (lo:=lo) (nrem:=nrem) (n:=n) (by rw [z2]; exact hz) (by omega)
      exact ⟨m,p',y1,y2,y3,y4,by rw [y5,z2]⟩
  · rw [if_neg c2]
    exact fall_some h hz (by omega)
theorem bin_some : ∀ {f k : Nat} {p : Array Nat} {lo : Nat},En N p→lo + k + f≤p.size→∃ p',binT N lt lo f k p = some p'∧En N p'∧p'.size = p.size
  | 0,k,p,lo,h,_ => ⟨p,rfl,h,rfl⟩
  | f + 1,k,p,lo,h,hz => by
    obtain ⟨t,h2,_⟩:=iter_inv (step:=placeS N lt p lo k) (fun _ (t : Nat×Nat) => t.2≤k) (fun _ => True) (fun f t k1 => by
      unfold placeS
      by_cases c : t.1 ≥ t.2
      · exact ⟨true,t,if_pos c,trivial⟩
      · rw [if_neg c]
        obtain ⟨x,hx⟩:=at_some (lt:=lt) h (i:=lo + k) (j:=lo + (t.1 + t.2) / 2) (by omega) (by omega)
        rw [hx]
        cases x with
        | true => exact ⟨false,_,rfl,by rw [if_neg (by decide)]; show (t.1 + t.2) / 2≤k; omega⟩
        | false => exact ⟨false,_,rfl,by rw [if_neg (by decide)]; exact k1⟩) (fun _ _ => trivial) k (0,k) (Nat.le_refl _)
    obtain ⟨l,r⟩:=t
    rw [binT,h2]
    dsimp only
    obtain ⟨p',y1,y2,y3⟩ := bin_some (f:=f) (k:=k + 1) (p := bubble p (lo + k) (lo + k - (lo + l))) (lo:=lo) (h.perm (bubble_perm _ _ _)) (by rw [bubble_size]; omega)
    exact ⟨p',y1,y2,by rw [y3,bubble_size]⟩
theorem put_en (h : En N p) {at_ : Nat} {m : Array Nat} (hm : En N m) : En N (putT p at_ m)∧(putT p at_ m).size = p.size := by
  unfold putT
  have : ∀ (l : List (Nat×Nat)) (p : Array Nat),En N p→(∀ x∈l,x.1 < N)→En N (l.foldl (fun a x => a.setIfInBounds (at_ + x.2) x.1) p)∧(l.foldl (fun a x => a.setIfInBounds (at_ + x.2) x.1) p).size = p.size := by
    intro l
    induction l with
    | nil => intro p h _; exact ⟨h,rfl⟩
    | cons y l ih =>
      intro p h k
      have h' : En N (p.setIfInBounds (at_ + y.2) y.1):=fun i x hx => by
        rw [Array.getElem?_setIfInBounds] at hx
        split at hx
        · split at hx
          · cases hx; exact k y (.head _)
          · cases hx
        · exact h i x hx
      obtain ⟨z1,z2⟩:=ih (p.setIfInBounds (at_ + y.2) y.1) h' fun x hx => k x (.tail _ hx)
      exact ⟨z1,by rw [List.foldl_cons,z2,Array.size_setIfInBounds]⟩
  refine this _ p h fun x hx => ?_
  obtain ⟨i,hi,hx2⟩:=List.mem_iff_getElem.mp hx
  have hm2:=List.mem_zipIdx hx
  have : x.1∈m.toList := by
    have:=List.fst_mem_of_mem_zipIdx hx
    exact this
  exact en_mem.mp hm x.1 (Array.mem_toList_iff.mp this)
end
end Tim
namespace Tim
open PySem PyProof.Rows
section
variable {prog : Program} {w : World} {A : Around} {E : Value→Shared→Prop} {s : Shared} {N : Nat} {lt : Nat→Nat→Bool} {κ : SortKind} {it : Nat→Keyed} {p : Array Nat} {pend : Array (Nat×Nat×Nat)} {g : Nat}
theorem mergeAt_any (hc : Cm prog w A s κ it N lt) (hp : En N p) {sa na pw sb nb pw2 : Nat} (h0 : pend[0]? = some (sa,na,pw)) (h1 : pend[1]? = some (sb,nb,pw2)) (hs : sa + na = sb) (hz : sb + nb≤p.size) (n1 : 1≤na) (n2 : 1≤nb) {Q : Bool→SortSt→Prop}
    (q : ∀ p' g',En N p'→p'.size = p.size→Q true (St κ it p' ((pend.setIfInBounds 0 (sa,na + nb,pw)).eraseIdxIfInBounds 1) g')) : wpS (model prog w) A E s (mergeAt' 0) Q (St κ it p pend g) := by
  refine wpS_bind (wpS_get ?_)
  have e0 : (pendingOf (St κ it p pend g))[0]? = some (sa,na,pw):=h0
  have e1 : (pendingOf (St κ it p pend g))[0 + 1]? = some (sb,nb,pw2):=h1
  rw [e0,e1]
  dsimp only
  refine wpS_bind (wpS_set ?_)
  refine wpS_bind (elem_any hp (by omega) fun y hy => ?_)
  refine wpS_bind (gallop_any (p:=p) (pend:=(pend.setIfInBounds 0 (sa,na + nb,pw)).eraseIdxIfInBounds 1) (g:=g) hc hp hy (by omega) (by omega) fun k hk => ?_)
  dsimp only
  by_cases c1 : (na - k == 0) = true
  · exact wpS_pos c1 (wpS_pure (q _ _ hp rfl))
  refine wpS_neg c1 ?_
  have c1' : na - k≠0 := by simpa using c1
  refine wpS_bind (elem_any hp (by omega) fun z hz' => ?_)
  refine wpS_bind (gallop_any (p:=p) (pend:=(pend.setIfInBounds 0 (sa,na + nb,pw)).eraseIdxIfInBounds 1) (g:=g) hc hp hz' (by omega) (by omega) fun nb2 hk2 => ?_)
  dsimp only
  by_cases c2 : (nb2 == 0) = true
  · exact wpS_pos c2 (wpS_pure (q _ _ hp rfl))
  refine wpS_neg c2 ?_
  have c2' : nb2≠0 := by simpa using c2
  have sx : (p.extract (sa + k) sb).size = sb - (sa + k) := by simp; omega
  have sy : (p.extract sb (sb + nb2)).size = nb2 := by simp; omega
  split
  · rw [← Array.map_extract,← Array.map_extract]
    refine wpS_bind (mergeLo_any (p:=p) (pend:=(pend.setIfInBounds 0 (sa,na + nb,pw)).eraseIdxIfInBounds 1) hc hp.ext hp.ext (by rw [sx]; omega) (by rw [sy]; omega) fun r g' hr => ?_)
    obtain ⟨m,hm,rfl⟩:=hr
    refine wpS_bind (wpS_modify ?_)
    refine wpS_bind (wpS_get ?_)
    refine wpS_pure ?_
    obtain ⟨z1,z2⟩:=put_en hp (at_:=sa + k) hm
    have q':=q _ g' z1 z2
    have e3:=put_map (it:=it) p (sa + k) m
    unfold St at q'
    rw [← e3] at q'
    exact q'
  · rw [← Array.map_extract,← Array.map_extract]
    refine wpS_bind (mergeHi_any (p:=p) (pend:=(pend.setIfInBounds 0 (sa,na + nb,pw)).eraseIdxIfInBounds 1) hc hp.ext hp.ext (by rw [sx]; omega) (by rw [sy]; omega) fun r g' hr => ?_)
    obtain ⟨m,hm,rfl⟩:=hr
    refine wpS_bind (wpS_modify ?_)
    refine wpS_bind (wpS_get ?_)
    refine wpS_pure ?_
    obtain ⟨z1,z2⟩:=put_en hp (at_:=sa + k) hm
    have q':=q _ g' z1 z2
    have e3:=put_map (it:=it) p (sa + k) m
    unfold St at q'
    rw [← e3] at q'
    exact q'
end
end Tim
namespace Tim
open PySem PyProof.Rows
theorem minRun_half {n : Nat} (h1 : 64≤n) (h2 : n < 128) : minRun' n n 0 = n / 2 + n % 2 := by
  obtain ⟨m,rfl⟩ : ∃ m,n = m + 2:=⟨n - 2,by omega⟩
  rw [minRun'_succ,if_neg (by omega),minRun'_succ,if_pos (by omega),Nat.zero_max]
section
variable {prog : Program} {w : World} {A : Around} {E : Value→Shared→Prop} {s : Shared} {N : Nat} {lt : Nat→Nat→Bool} {κ : SortKind} {it : Nat→Keyed} {p : Array Nat} {pend : Array (Nat×Nat×Nat)} {g : Nat}
def Pd (size lo : Nat) (pend : Array (Nat×Nat×Nat)) : Prop:=(lo = 0∧pend = #[])∨(∃ n1 : Nat,lo = n1∧pend = #[(0,n1,0)]∧size / 2 + size % 2≤n1∧n1≤size)∨(lo = size∧∃ n1 n2 x y : Nat,pend = #[(0,n1,x),(n1,n2,y)]∧n1 + n2 = size∧1≤n1∧1≤n2)
theorem sort_any (hc : Cm prog w A s κ it N lt) (hp : En N p) (h1 : 64≤p.size) (h2 : p.size < 128) {Q : SortSt→Prop} (q : ∀ p' pend g,En N p'→p'.size = p.size→Q (St κ it p' pend g)) : wpS (model prog w) A E s sortRuns' (fun _ st => Q st) (St κ it p #[] 7) := by
  refine wpS_bind (wpS_get ?_)
  dsimp only
  simp only [Array.size_map]
  generalize hz : p.size = size at h1 h2 q ⊢
  have hmr:=minRun_half h1 h2
  have hit : iter (fun _ : Unit => some (true,())) (size - 0) () = some () := by
    cases size with
    | zero => omega
    | succ f => rfl
  refine wpS_bind (wpS_mono (wpS_inv (fun j (t : Option Unit×Nat) st => t.1 = none∧∃ p' pend g,st = St κ it p' pend g∧En N p'∧p'.size = size∧Pd size t.2 pend)
    (Q:=fun t st => t.1 = none∧∃ p' pend g,st = St κ it p' pend g∧En N p'∧p'.size = size∧Pd size t.2 pend) ?_ ?_ ?_) fun t st' hq => ?_)
  · exact ⟨rfl,p,#[],7,rfl,hp,hz,.inl ⟨rfl,rfl⟩⟩
  · rintro x j ⟨res,lo⟩ st hj ⟨r1,p2,pend2,g2,rfl,hp2,hz2,pd⟩
    dsimp only at r1 pd ⊢
    subst r1
    by_cases hge : lo ≥ size
    · exact wpS_pos hge (wpS_pure ⟨rfl,p2,pend2,g2,rfl,hp2,hz2,pd⟩)
    refine wpS_neg hge ?_
    obtain ⟨m,p3,hm,m1,m2,hp3,hz3⟩:=count_some (lt:=lt) hp2 (lo:=lo) (nrem:=size - lo) (by omega) (by omega)
    refine wpS_bind (count_ok hc hm ?_)
    dsimp only
    by_cases hlt : m < minRun' size size 0
    · refine wpS_pos hlt ?_
      refine wpS_bind (wpS_lift (wpAny_rule ⟨rfl,?_⟩))
      have hmr' : min (size - lo) (minRun' size size 0) = min (size - lo) (size / 2 + size % 2) := by rw [hmr]
      obtain ⟨p4,hp4,k1,k2⟩ := bin_some (lt:=lt) (f:=min (size - lo) (minRun' size size 0) - max m 1) (k:=max m 1) (lo:=lo) hp3 (by omega)
      refine wpS_bind (bin_ok hc hp4 ?_)
      refine wpS_neg (by decide) ?_
      have k2 : p4.size = size := by omega
      refine wpS_bind (wpS_get ?_)
      rcases pd with ⟨a1,a2⟩ | ⟨n1,a1,a2,a3,a4⟩ | ⟨a1,_⟩
      · subst a1 a2
        exact wpS_bind (wpS_modify (wpS_pure ⟨rfl,p4,#[(0,(min (size - 0) (minRun' size size 0)),0)],g2,rfl,k1,k2,.inr (.inl ⟨(min (size - 0) (minRun' size size 0)),by show 0 + (min (size - 0) (minRun' size size 0)) = (min (size - 0) (minRun' size size 0)); omega,rfl,by omega,by omega⟩)⟩))
      · subst a1 a2
        refine wpS_bind (wpS_iterR (T:=Unit) (fun _ => some (true,())) (fun _ => (none,())) (fun _ => St κ it p4 #[(0,lo,0)] g2) (t:=()) (t':=()) hit (fun x t b t' hs2 R2 hR2 => ?_) ?_)
        · cases hs2
          refine wpS_bind (wpS_get ?_)
          have hn : (if (pendingOf (St κ it p4 #[(0,lo,0)] g2)).size > 1 then (pendingOf (St κ it p4 #[(0,lo,0)] g2))[(pendingOf (St κ it p4 #[(0,lo,0)] g2)).size - 2]? else none) = none:=if_neg (by show ¬ 1 > 1; decide)
          rw [hn]
          exact wpS_pure hR2
        · exact wpS_bind (wpS_modify (wpS_bind (wpS_modify (wpS_pure ⟨rfl,p4,#[(0,lo,_),(lo,(min (size - lo) (minRun' size size 0)),0)],g2,rfl,k1,k2,.inr (.inr ⟨by show lo + (min (size - lo) (minRun' size size 0)) = size; omega,lo,(min (size - lo) (minRun' size size 0)),_,_,rfl,by omega,by omega,by omega⟩)⟩))))
      · omega
    · refine wpS_neg hlt ?_
      have k1:=hp3
      have k2 : p3.size = size := by omega
      rw [hmr] at hlt
      refine wpS_bind (wpS_get ?_)
      rcases pd with ⟨a1,a2⟩ | ⟨n1,a1,a2,a3,a4⟩ | ⟨a1,_⟩
      · subst a1 a2
        exact wpS_bind (wpS_modify (wpS_pure ⟨rfl,p3,#[(0,m,0)],g2,rfl,k1,k2,.inr (.inl ⟨m,by show 0 + (m) = m; omega,rfl,by omega,by omega⟩)⟩))
      · subst a1 a2
        refine wpS_bind (wpS_iterR (T:=Unit) (fun _ => some (true,())) (fun _ => (none,())) (fun _ => St κ it p3 #[(0,lo,0)] g2) (t:=()) (t':=()) hit (fun x t b t' hs2 R2 hR2 => ?_) ?_)
        · cases hs2
          refine wpS_bind (wpS_get ?_)
          have hn : (if (pendingOf (St κ it p3 #[(0,lo,0)] g2)).size > 1 then (pendingOf (St κ it p3 #[(0,lo,0)] g2))[(pendingOf (St κ it p3 #[(0,lo,0)] g2)).size - 2]? else none) = none:=if_neg (by show ¬ 1 > 1; decide)
          rw [hn]
          exact wpS_pure hR2
        · exact wpS_bind (wpS_modify (wpS_bind (wpS_modify (wpS_pure ⟨rfl,p3,#[(0,lo,_),(lo,m,0)],g2,rfl,k1,k2,.inr (.inr ⟨by show lo + (m) = size; omega,lo,m,_,_,rfl,by omega,by omega,by omega⟩)⟩))))
      · omega
  · exact fun b st h => h
  obtain ⟨res,lo⟩:=t
  obtain ⟨r1,p1,pend1,g1,rfl,hp1,hz1,pd⟩:=hq
  dsimp only at r1 pd ⊢
  subst r1
  dsimp only
  refine wpS_bind (wpS_mono (wpS_inv (fun j (t : Option Unit×Unit) st => t.1 = none∧∃ p' pend g,st = St κ it p' pend g∧En N p'∧p'.size = size∧(pend.size≤1∨∃ n1 n2 x y : Nat,pend = #[(0,n1,x),(n1,n2,y)]∧n1 + n2 = size∧1≤n1∧1≤n2))
    (Q:=fun t st => t.1 = none∧∃ p' pend g,st = St κ it p' pend g∧En N p'∧p'.size = size) ?_ ?_ ?_) fun t st' hq => ?_)
  · refine ⟨rfl,p1,pend1,g1,rfl,hp1,hz1,?_⟩
    rcases pd with ⟨_,a2⟩ | ⟨n1,_,a2,_⟩ | ⟨_,a2⟩
    · exact .inl (by rw [a2]; decide)
    · exact .inl (by rw [a2]; exact Nat.le_refl 1)
    · exact .inr a2
  · rintro x j ⟨res,u⟩ st hj ⟨r1,p5,pend5,g5,rfl,hp5,hz5,c5⟩
    dsimp only at r1 ⊢
    subst r1
    refine wpS_bind (wpS_get ?_)
    dsimp only
    by_cases hle : pend5.size≤1
    · exact wpS_pos hle (wpS_pure ⟨rfl,p5,pend5,g5,rfl,hp5,hz5⟩)
    refine wpS_neg hle ?_
    rcases c5 with c5 | ⟨n1,n2,y1,y2,rfl,e1,e2,e3⟩
    · exact absurd c5 hle
    refine wpS_bind (mergeAt_any (p:=p5) (pend:=#[(0,n1,y1),(n1,n2,y2)]) (sa:=0) (na:=n1) (pw:=y1) (sb:=n1) (nb:=n2) (pw2:=y2) hc hp5 rfl rfl (by omega) (by omega) e2 e3 fun p6 g6 hp6 hz6 => ?_)
    exact wpS_pure ⟨rfl,p6,_,g6,rfl,hp6,by omega,.inl (by simp [Array.eraseIdxIfInBounds])⟩
  · rintro b st ⟨r1,p5,pend5,g5,h5,hp5,hz5,_⟩
    exact ⟨r1,p5,pend5,g5,h5,hp5,hz5⟩
  obtain ⟨r1,p5,pend5,g5,rfl,hp5,hz5⟩:=hq
  rw [r1]
  exact wpS_pure (q p5 pend5 g5 hp5 hz5)
end
end Tim
namespace TH
open PySem PySem.W PyProof.Rows PySem.SeqAt
section
variable {prog : Program} {w : World} {A : Around} {E : Value→Shared→Prop} {s : Shared}
theorem sort_runA {κ : SortKind} {t : Tr} {ws : List Value} (hκ : TrKind κ) (e : Vs s.heap t ws) (h2 : 64≤ws.length) (h64 : ws.length < 128) (hu : A.units + t.deep≤cLine) :
    wpAny (model prog w) A ((sortRuns').run (SortSt.mk' κ (ws.toArray.zip ws.toArray) #[] 7 none)) (fun r s' => s' = s∧failedOf r.2 = none∧∃ ix : List Nat,ix.length = ws.length∧(∀ i∈ix,i < ws.length) ∧
      (arrOf r.2).map (·.2) = (ix.map fun i => ws.getD i Value.none).toArray) E s := by
  have key : ∀ i,i < ws.length→∃ (a : Addr) (its : List Value),ws.getD i Value.none = .ref a∧s.heap.IsTuple a its.toArray∧Vs s.heap (t.bs.getD i .nil) its∧(t.bs.getD i .nil).deep < t.deep:=fun i hi => by
    obtain ⟨a,its,c,q1,q2,q3,q4,q5⟩:=e.at hi
    have : t.bs.getD i .nil = c := by rw [List.getD_eq_getElem?_getD,q4]; rfl
    rw [this]
    exact ⟨a,its,q1,q2,q3,q5⟩
  have hz : ws.toArray.zip ws.toArray = (List.range ws.length).toArray.map fun i => (ws.getD i Value.none,ws.getD i Value.none) := by
    apply Array.ext_getElem?
    intro i
    by_cases hi : i < ws.length
    · simp [hi]
    · simp [hi]
  have hc : Tim.Cm prog w A s κ (fun i => (ws.getD i Value.none,ws.getD i Value.none)) ws.length (fun i j => Tr.lt (t.bs.getD i .nil) (t.bs.getD j .nil)):=fun i j E Q hi hj q => by
    obtain ⟨a,its,q1,q2,q3,q4⟩:=key i hi
    obtain ⟨a',its',r1,r2,r3,r4⟩:=key j hj
    show wpAny _ _ (keyLt' κ (ws.getD i Value.none) (ws.getD j Value.none)) _ _ _
    rw [q1,r1]
    exact ask_any hκ q2 q3 r2 r3 (by omega) q
  rw [hz]
  have hp : Tim.En ws.length (List.range ws.length).toArray:=fun i x hx => by
    rw [List.getElem?_toArray] at hx
    exact List.mem_range.mp (List.mem_of_getElem? hx)
  refine wpAny_mono (Tim.sort_any (p:=(List.range ws.length).toArray) hc hp (by simpa using h2) (by simpa using h64) (Q:=fun st => failedOf st = none∧∃ ix : List Nat,ix.length = ws.length∧(∀ i∈ix,i < ws.length)∧(arrOf st).map (·.2) = (ix.map fun i => ws.getD i Value.none).toArray) fun p pend g hp2 hz2 => ⟨rfl,p.toList,by simpa using hz2,fun i hi => ?_,?_⟩) (fun r s' z => z) fun _ _ z => z
  · exact Tim.en_mem.mp hp2 i (by simpa using hi)
  · show (p.map _).map _ = _
    rw [Array.map_map]
    apply Array.toList_inj.mp
    rw [Array.toList_map]
    rfl
theorem list_sortA {a : Addr} {us : List Value} {t : Tr} {n : Nat} {P : PySem.Fin→Shared→Prop} (ho : s.heap.get? a = some (seqObj "list" us.toArray n)) (e : Vs s.heap t us) (h2 : 64≤us.length) (h64 : us.length < 128) (hu : A.units + t.deep≤cLine)
    (h : ∀ ix : List Nat,ix.length = us.length→(∀ i∈ix,i < us.length)→P (.done (.ret .none)) { s with heap:=sortedHeap s.heap a us (ix.map fun i => us.getD i Value.none).toArray }) :
    wpAny (model prog w) A (Builtin.«list.sort» ⟨[.ref a],[]⟩) P E s := by
  rw [sort_plain_rev,list_sort_rev]
  have ha : a < s.heap.objs.size:=Heap.lt_size ho
  refine wpAny_bind (listItems_at ho rfl ?_)
  refine wpAny_bind (listUpdate_at ho rfl ?_ (by rw [List.size_toArray,sizeLine_eq]; omega) (Nat.zero_le _))
  obtain ⟨e1,ho1⟩ : ∃ e1,(s.heap.update a (Obj.mapSeq fun _ => #[])).get? a = some (seqObj "list" #[] e1):=⟨_,get?_update_seq ho (fun _ => #[])⟩
  refine wpAny_bind (seqEpoch_at ho1 rfl ?_)
  refine wpAny_bind (wpAny_newTuple ?_ (by show us.length≤_; rw [sizeLine_eq]; omega))
  refine wpAny_bind (wpAny_newList ?_ (Nat.zero_le _))
  refine wpAny_holding ?_
  have ho6 : (((s.heap.update a (Obj.mapSeq fun _ => #[])).push (seqObj "tuple" us.toArray 0)).push (seqObj "list" #[] 0)).get? a = some (seqObj "list" #[] e1) := by
    rw [Heap.get?_push_ne _ _ _ (by rw [size_push',Heap.size_update]; exact Nat.ne_of_lt (Nat.lt_succ_of_lt ha)),Heap.get?_push_ne _ _ _ (by rw [Heap.size_update]; exact Nat.ne_of_lt ha)]
    exact ho1
  have keep : ∀ c o,s.heap.get? c = some o→o.cls = .type "tuple" → (((s.heap.update a (Obj.mapSeq fun _ => #[])).push (seqObj "tuple" us.toArray 0)).push (seqObj "list" #[] 0)).get? c = some o:=fun c o hc hcl => by
    have hne : c≠a:=fun z => by
      rw [z,ho] at hc
      cases hc
      exact absurd (show Value.type "list" = Value.type "tuple" from hcl) (by decide)
    refine Heap.get?_push_of_some _ (Heap.get?_push_of_some _ ?_)
    rw [Heap.get?_update_ne _ _ _ _ hne]
    exact hc
  show wpAny (model prog w) A _ P E { s with heap:=((s.heap.update a (Obj.mapSeq fun _ => #[])).push (seqObj "tuple" us.toArray 0)).push (seqObj "list" #[] 0) }
  have e6:=e.keeps keep
  dsimp only
  rw [if_neg (by decide : ¬ false = true)]
  have hz : ¬ us.toArray.size < 2 := by simp; omega
  rw [if_neg hz,if_neg hz]
  refine wpAny_bind (kind_tr (s:={ s with heap:=((s.heap.update a (Obj.mapSeq fun _ => #[])).push (seqObj "tuple" us.toArray 0)).push (seqObj "list" #[] 0) }) e6 fun κ hκ => ?_)
  rw [if_neg (by decide : ¬ false = true)]
  refine wpAny_bind (wpAny_mono (sort_runA (s:={ s with heap:=((s.heap.update a (Obj.mapSeq fun _ => #[])).push (seqObj "tuple" us.toArray 0)).push (seqObj "list" #[] 0) }) hκ e6 h2 h64 hu) ?_ fun _ _ z => z)
  rintro ⟨⟨⟩,st'⟩ s' ⟨rfl,hf,ix,hil,hix,hout⟩
  dsimp only
  refine wpAny_bind (seqEpoch_at ho6 rfl ?_)
  rw [if_neg (by decide : ¬ false = true)]
  have hfin : (arrOf st').map (·.2) = (ix.map fun i => us.getD i Value.none).toArray:=hout
  refine wpAny_bind (listUpdate_at ho6 rfl ?_ (Nat.zero_le _) (by
    refine Nat.le_trans (Nat.le_of_eq (congrArg Array.size hfin)) ?_
    rw [List.size_toArray,List.length_map,hil,sizeLine_eq]; omega))
  rw [show failedOf st' = none from hf]
  simp only [bne_self_eq_false,Bool.false_eq_true,if_false]
  have fin:=h ix hil hix
  rw [← hfin] at fin
  exact wpAny_pure fin
end
section
variable {G : Value→Tr→Prop} {prog : Program} {w : World} {A : Around} {E : Value→Shared→Prop} {s : Shared} {S : Addr} {o : Obj} {ev : Array (Int×Value)} {et : ES} {ep : Nat} {t : SetTable}
theorem sorted_setA {Q : Value→Shared→Prop} (hA : A.handled = none) (W : Walked w o ev ep t) (ho : s.heap.get? S = some o) (R : Mems G s.heap ev et) (h1 : 64≤et.size) (h64 : et.size < 128) (hu : A.units + 20 < cLine)
    (h : ∀ (h' : Heap) (D tk e1 : Nat) (us : List Value) (bs : List Tr),s.heap.objs.size≤D→(∀ b u,s.heap.get? b = some u→h'.get? b = some u)→h'.get? D = some (seqObj "list" us.toArray e1)→Paired G us bs→us.length < 128 →
      Q (.ref D) { s with heap:=h',toks:=tk }) : wpAny (model prog w) A (call (.builtin "sorted") [.ref S]) Q E s := by
  have hsz:=R.size
  refine Calls.call_function_entry kind_sorted plain_sorted entry_sorted (args_sorted1 _) ?_
  unfold Builtin.«sorted»
  refine wpAny_bind (m:=checkCount "sorted" 1 1 _) (wpAny_pure ?_)
  refine wpAny_bind (gather (A:=A.in1) (src_set W) hA ho (size_small (by omega)) fun h1 tk acc z1 k1 hacc => ?_)
  have hal : acc.toList = (ordr w S ep ev).toList.map (·.2) := by
    apply List.ext_getElem?
    intro j
    rw [List.getElem?_map]
    by_cases hj : j < acc.size
    · have e1 : acc[j]? = some acc[j]:=Array.getElem?_eq_getElem hj
      obtain ⟨z,e2⟩:=hacc.2 j _ e1
      rw [Array.getElem?_toList,e1,Array.getElem?_toList,e2]
      rfl
    · have hj2 : ¬ j < (ordr w S ep ev).size := by rw [ordr_size,← hacc.1]; exact hj
      rw [List.getElem?_eq_none (by simpa using hj),List.getElem?_eq_none (by simpa using hj2)]
      rfl
  obtain ⟨m,pm,rm⟩:=Paired.perm (ordr_perm w S ep ev) R
  have hvs:=mems_vs rm
  rw [← hal] at hvs
  have hd : (Tr.of (m.map (·.2))).deep≤8:=(Tr.deep_of 8 _).mpr fun c hc => by have:=mems_deep rm c hc; omega
  have hl1 : acc.toList.length = et.size := by rw [Array.length_toList,hacc.1,hsz]
  have hlen : acc.toList.length < 128 := by omega
  refine wpAny_bind (wpAny_newList ?_ (size_small (by omega)))
  have g1 : (h1.push (seqObj "list" acc.toList.toArray 0)).get? h1.objs.size = some (seqObj "list" acc.toList.toArray 0):=Heap.get?_push_size _ rfl
  have k2 : ∀ b u,s.heap.get? b = some u→(h1.push (seqObj "list" acc.toList.toArray 0)).get? b = some u:=fun b u e => Heap.get?_push_of_some _ (k1 b u e)
  refine wpAny_bind (wpAny_holding (wpAny_call_entry slot_list_sort ⟨_,g1,rfl⟩ entry_list_sort (list_sortA (s:={ s with heap:=h1.push (seqObj "list" acc.toList.toArray 0),toks:=tk }) g1 (hvs.keeps fun b u e _ => k2 b u e) (by omega) hlen
    (by rw [show A.in1.in1.units = A.units + 2 from rfl]; omega) fun ix a1 a2 => ⟨_,rfl,?_⟩) (args_list_sort _)))
  obtain ⟨e1,he1⟩:=sortedHeap_at (vs:=acc.toList) (out:=(ix.map fun i => acc.toList.getD i Value.none).toArray) g1
  have hg:=mems_g rm
  rw [← hal] at hg
  refine wpAny_pure ⟨_,rfl,h _ h1.objs.size tk e1 (ix.map fun i => acc.toList.getD i Value.none) _ ?_ (fun b u e => ?_) he1 (Paired.pickD hg Value.none Tr.nil ix a2) (by rw [List.length_map,a1]; exact hlen)⟩
  · exact Nat.le_of_lt z1
  · have lb : b < h1.objs.size:=Heap.lt_size (k1 b u e)
    rw [sortedHeap_old (Nat.ne_of_lt lb) (by rw [Heap.size_push]; exact Nat.lt_succ_of_lt lb)]
    exact k2 b u e
end
end TH
set_option maxHeartbeats 1000000
namespace TH
open PySem
def lk : List (Nat×Nat)→Nat→Option Nat
  | [],_ => none
  | (a,k) :: r,j => bif Nat.beq a j then some k else lk r j
def spot (mask : Nat) (tk : List (Nat×Nat)) (j : Nat) : Bool:=Nat.ble j mask && (lk tk j).isNone
def freeL (mask : Nat) (tk : List (Nat×Nat)) : Nat→Nat→Nat→Option Nat
  | 0,_,_ => none
  | fuel + 1,i,perturb =>
    match (List.range (SetTable.runEnd mask i + 1 - i)).find? fun k => spot mask tk (i + k) with
    | some k => some (i + k)
    | none => let (i,perturb):=SetTable.leap mask i perturb; freeL mask tk fuel i perturb
def layL (mask : Nat) : List (Nat×Nat)→Nat→List Int→Option (List (Nat×Nat))
  | tk,_,[] => some tk
  | tk,k,h :: r => match freeL mask tk (SetTable.turns mask) (SetTable.bits h % (mask + 1)) (SetTable.bits h) with
    | none => none
    | some 0 => layL mask ((0,k) :: tk) (k + 1) r
    | some (j + 1) => layL mask ((j + 1,k) :: tk) (k + 1) r
def RelT (mask : Nat) (owner : Array (Option Nat)) (tk : List (Nat×Nat)) : Prop:=owner.size = mask + 1∧∀ j,j≤mask→owner[j]? = some (lk tk j)
theorem spot_eq {mask : Nat} {owner : Array (Option Nat)} {tk : List (Nat×Nat)} (h : RelT mask owner tk) (j : Nat) : (owner.getD j (some 0)).isNone = spot mask tk j := by
  unfold spot
  by_cases hj : j≤mask
  · have:=h.2 j hj
    rw [Array.getD_eq_getD_getElem?,this,Nat.ble_eq.mpr hj]
    rfl
  · rw [Array.getD_eq_getD_getElem?,Array.getElem?_eq_none (by have:=h.1; omega)]
    have : Nat.ble j mask = false := by
      cases hb : Nat.ble j mask
      · rfl
      · exact absurd (Nat.ble_eq.mp hb) hj
    rw [this]
    rfl
theorem free_eq {mask : Nat} {owner : Array (Option Nat)} {tk : List (Nat×Nat)} (h : RelT mask owner tk) : ∀ fuel i p,SetTable.layClean.free mask owner fuel i p = freeL mask tk fuel i p
  | 0,_,_ => rfl
  | fuel + 1,i,p => by
    unfold SetTable.layClean.free freeL
    have : (fun k => (owner.getD (i + k) (some 0)).isNone) = fun k => spot mask tk (i + k):=funext fun k => spot_eq h _
    rw [this]
    split
    · rename_i k e; rw [e]
    · rename_i e
      rw [e]
      exact free_eq h fuel _ _
theorem rel_set {mask : Nat} {owner : Array (Option Nat)} {tk : List (Nat×Nat)} (h : RelT mask owner tk) (j k : Nat) : RelT mask (owner.setIfInBounds j (some k)) ((j,k) :: tk) := by
  refine ⟨by rw [Array.size_setIfInBounds]; exact h.1,fun i hi => ?_⟩
  have:=h.2 i hi
  rw [Array.getElem?_setIfInBounds,lk]
  by_cases e : j = i
  · subst e
    have hb : Nat.beq j j = true:=Nat.beq_refl j
    rw [if_pos rfl,if_pos (by have:=h.1; omega),hb]
    rfl
  · have hb : Nat.beq j i = false := by
      cases hb : Nat.beq j i
      · rfl
      · exact absurd (Nat.eq_of_beq_eq_true hb) e
    rw [if_neg e,hb]
    exact this
theorem fold_none (mask : Nat) : ∀ l : List Int,(l.foldl (init:=none) fun (acc : Option (Array (Option Nat)×Nat)) h => do
    let (owner,k) ← acc
    let j ← SetTable.layClean.free mask owner (SetTable.turns mask) (SetTable.bits h % (mask + 1)) (SetTable.bits h)
    pure (owner.setIfInBounds j (some k),k + 1)) = none
  | [] => rfl
  | h :: r => fold_none mask r
theorem fold_eq {mask : Nat} : ∀ (l : List Int) {owner : Array (Option Nat)} {tk : List (Nat×Nat)} {k : Nat},RelT mask owner tk →
    match layL mask tk k l with
    | none => (l.foldl (init:=some (owner,k)) fun acc h => do
        let (owner,k) ← acc
        let j ← SetTable.layClean.free mask owner (SetTable.turns mask) (SetTable.bits h % (mask + 1)) (SetTable.bits h)
        pure (owner.setIfInBounds j (some k),k + 1)) = none
    | some tk' => ∃ o' k',(l.foldl (init:=some (owner,k)) fun acc h => do
        let (owner,k) ← acc
        let j ← SetTable.layClean.free mask owner (SetTable.turns mask) (SetTable.bits h % (mask + 1)) (SetTable.bits h)
        pure (owner.setIfInBounds j (some k),k + 1)) = some (o',k')∧RelT mask o' tk'
  | [],owner,tk,k,h => ⟨owner,k,rfl,h⟩
  | x :: r,owner,tk,k,h => by
    rw [layL]
    have e : ((some (owner,k)).bind fun (q : Array (Option Nat)×Nat) => (SetTable.layClean.free mask q.1 (SetTable.turns mask) (SetTable.bits x % (mask + 1)) (SetTable.bits x)).bind fun j => some (q.1.setIfInBounds j (some q.2),q.2 + 1)) = (freeL mask tk (SetTable.turns mask) (SetTable.bits x % (mask + 1)) (SetTable.bits x)).bind fun j => some (owner.setIfInBounds j (some k),k + 1) := by
      rw [← free_eq h]
      rfl
    have key : ∀ j,freeL mask tk (SetTable.turns mask) (SetTable.bits x % (mask + 1)) (SetTable.bits x) = some j→∀ R : Option (Array (Option Nat)×Nat)→Prop,R ((r.foldl (init:=some (owner.setIfInBounds j (some k),k + 1)) fun acc h => do
        let (owner,k) ← acc
        let j ← SetTable.layClean.free mask owner (SetTable.turns mask) (SetTable.bits h % (mask + 1)) (SetTable.bits h)
        pure (owner.setIfInBounds j (some k),k + 1)))→R (((x :: r).foldl (init:=some (owner,k)) fun acc h => do
        let (owner,k) ← acc
        let j ← SetTable.layClean.free mask owner (SetTable.turns mask) (SetTable.bits h % (mask + 1)) (SetTable.bits h)
        pure (owner.setIfInBounds j (some k),k + 1))):=fun j hj R hR => by
      rw [hj] at e
      rw [List.foldl_cons]
      have e' : (do
        let (owner,k) ← some (owner,k)
        let j ← SetTable.layClean.free mask owner (SetTable.turns mask) (SetTable.bits x % (mask + 1)) (SetTable.bits x)
        pure (owner.setIfInBounds j (some k),k + 1)) = some (owner.setIfInBounds j (some k),k + 1):=e
      rw [e']
      exact hR
    cases hj : freeL mask tk (SetTable.turns mask) (SetTable.bits x % (mask + 1)) (SetTable.bits x) with
    | none =>
      dsimp only
      rw [hj] at e
      rw [List.foldl_cons]
      have e' : (do
        let (owner,k) ← some (owner,k)
        let j ← SetTable.layClean.free mask owner (SetTable.turns mask) (SetTable.bits x % (mask + 1)) (SetTable.bits x)
        pure (owner.setIfInBounds j (some k),k + 1)) = none:=e
      rw [e']
      exact fold_none mask r
    | some j =>
      have ih:=fold_eq r (k:=k + 1) (rel_set h j k)
      cases j with
      | zero =>
        dsimp only
        split
        · rename_i e2; rw [e2] at ih; exact key 0 hj (fun z => z = none) ih
        · rename_i tk' e2; rw [e2] at ih; exact key 0 hj (fun z => ∃ o' k',z = some (o',k')∧RelT mask o' tk') ih
      | succ j =>
        dsimp only
        split
        · rename_i e2; rw [e2] at ih; exact key (j + 1) hj (fun z => z = none) ih
        · rename_i tk' e2; rw [e2] at ih; exact key (j + 1) hj (fun z => ∃ o' k',z = some (o',k')∧RelT mask o' tk') ih
theorem fm_congr {α β : Type} {f g : α→Option β} : ∀ l : List α,(∀ x∈l,f x = g x)→l.filterMap f = l.filterMap g
  | [],_ => rfl
  | a :: r,h => by rw [List.filterMap_cons,List.filterMap_cons,h a List.mem_cons_self,fm_congr r fun x hx => h x (List.mem_cons_of_mem _ hx)]
def liveL (mask : Nat) (tk : List (Nat×Nat)) : List (Nat×Nat):=(List.range (mask + 1)).filterMap fun j => (lk tk j).map (j,·)
def laidL (mask finger moves : Nat) (led plain : Bool) (hashes : Array Int) : Option (SetTable×Array Nat):=match layL mask [] 0 hashes.toList with
  | none => none
  | some tk => some ({ mask,place:=((liveL mask tk).map (·.1)).toArray,dummies:=#[],finger,led,moves,plain },((liveL mask tk).map (·.2)).toArray)
theorem laid_eq (mask finger moves : Nat) (led plain : Bool) (hashes : Array Int) : SetTable.laid mask finger moves led plain hashes = laidL mask finger moves led plain hashes := by
  have h0 : RelT mask (Array.replicate (mask + 1) none) []:=⟨by simp,fun j hj => by rw [Array.getElem?_replicate,if_pos (by omega)]; rfl⟩
  have:=fold_eq hashes.toList (k:=0) h0
  unfold SetTable.laid SetTable.layClean laidL
  rw [← Array.foldl_toList]
  cases hl : layL mask [] 0 hashes.toList with
  | none =>
    rw [hl] at this
    dsimp only at this
    rw [this]
    rfl
  | some tk =>
    rw [hl] at this
    dsimp only at this
    obtain ⟨o',k',e1,e2⟩:=this
    rw [e1]
    have live : ((List.range (mask + 1)).filterMap fun j => (o'.getD j none).map (j,·)) = liveL mask tk := by
      refine fm_congr _ fun j hj => ?_
      have hj:=List.mem_range.mp hj
      rw [Array.getD_eq_getD_getElem?,e2.2 j (by omega)]
      rfl
    show some (_,_) = _
    dsimp only
    rw [live]
def addQ (st : ES×SetTable) (x : Tr) : Option (ES×SetTable) :=
  if (st.2.fits st.1.size && decide (st.1.size≤1000) && st.2.plain) = false then none else
  match srch st.1 st.2 x (hashT x) with
  | none => none
  | some none => some st
  | some (some slot) =>
    if (st.2.put slot).1.tooFull = false then some (SetTable.insertAt st.1 (st.2.put slot).2 (hashT x,x),(st.2.put slot).1) else
    if ((st.2.put slot).1.fits (SetTable.insertAt st.1 (st.2.put slot).2 (hashT x,x)).size && decide (SetTable.sizeAbove (SetTable.grown (st.1.size + 1))≤100000)) = false then none else
    match laidL (SetTable.sizeAbove (SetTable.grown (st.1.size + 1)) - 1) (st.2.put slot).1.finger ((st.2.put slot).1.movedTo (SetTable.sizeAbove (SetTable.grown (st.1.size + 1)) - 1)) (st.2.put slot).1.led (st.2.put slot).1.plain ((SetTable.insertAt st.1 (st.2.put slot).2 (hashT x,x)).map (·.1)) with
    | none => none
    | some (t',order) =>
      if (order.filterMap ((SetTable.insertAt st.1 (st.2.put slot).2 (hashT x,x))[·]?)).size = (SetTable.insertAt st.1 (st.2.put slot).2 (hashT x,x)).size then
        some (order.filterMap ((SetTable.insertAt st.1 (st.2.put slot).2 (hashT x,x))[·]?),t') else none
theorem add_eq (st : ES×SetTable) (x : Tr) : addP st x = addQ st x := by
  unfold addP addQ SetTable.relaid
  simp only [laid_eq]
  all_goals rfl
end TH
namespace TH
open PySem
structure LS where
  es : List (Int×Tr)
  pl : List Nat
  mask : Nat
  moves : Nat
  deriving DecidableEq
def LS.st (led : Bool) (q : LS) : ES×SetTable:=(q.es.toArray,{ mask:=q.mask,place:=q.pl.toArray,dummies:=#[],finger:=0,led,moves:=q.moves,plain:=true })
def belowL (l : List Nat) (j : Nat) : Nat→Nat→Nat→Nat
  | 0,lo,_ => lo
  | fuel + 1,lo,hi => if lo < hi then (if l.getD ((lo + hi) / 2) j < j then belowL l j fuel ((lo + hi) / 2 + 1) hi else belowL l j fuel lo ((lo + hi) / 2)) else lo
theorem belowL_eq (l : List Nat) (j : Nat) : ∀ fuel lo hi,SetTable.below.go l.toArray j fuel lo hi = belowL l j fuel lo hi
  | 0,_,_ => rfl
  | fuel + 1,lo,hi => by
    unfold SetTable.below.go belowL
    have e : l.toArray.getD ((lo + hi) / 2) j = l.getD ((lo + hi) / 2) j := by rw [Array.getD_eq_getD_getElem?,List.getElem?_toArray,List.getD_eq_getElem?_getD]
    dsimp only
    rw [e,belowL_eq l j fuel,belowL_eq l j fuel]
def bel (l : List Nat) (j : Nat) : Nat := belowL l j l.length 0 l.length
theorem bel_eq (l : List Nat) (j : Nat) : SetTable.below l.toArray j = bel l j := by
  unfold SetTable.below bel
  rw [List.size_toArray]
  exact belowL_eq l j _ _ _
def slotL (pl : List Nat) (j : Nat) : Option Nat:=if pl[bel pl j]? = some j then some (bel pl j) else none
def ins {α : Type} : List α→Nat→α→List α
  | l,0,x => x :: l
  | [],_ + 1,x => [x]
  | a :: l,p + 1,x => a :: ins l p x
theorem ins_eq {α : Type} (x : α) : ∀ (l : List α) (p : Nat),ins l p x = l.take p ++ x :: l.drop p
  | l,0 => by cases l <;> rfl
  | [],p + 1 => rfl
  | a :: l,p + 1 => by rw [ins,ins_eq x l p]; rfl
theorem insertAt_eq {α : Type} (l : List α) (p : Nat) (x : α) : SetTable.insertAt l.toArray p x = (ins l p x).toArray := by
  rw [ins_eq]
  apply Array.toList_inj.mp
  unfold SetTable.insertAt
  simp [List.extract_eq_drop_take]
  exact List.take_of_length_le (by simp)
def advL (mask : Nat) (p : SetTable.Probe) : SetTable.Probe :=
  if p.more > 0 then { p with j:=p.j + 1,more:=p.more - 1 } else
  { p with j:=(SetTable.leap mask p.i p.perturb).1,more:=SetTable.runEnd mask (SetTable.leap mask p.i p.perturb).1 - (SetTable.leap mask p.i p.perturb).1,i:=(SetTable.leap mask p.i p.perturb).1,perturb:=(SetTable.leap mask p.i p.perturb).2 }
def probeL (q : LS) (h : Int) (x : Tr) : Nat→SetTable.Probe→Option (Option Nat)
  | 0,_ => none
  | fuel + 1,p => match slotL q.pl p.j with
    | none => some (some p.j)
    | some i => match q.es[i]? with
      | none => none
      | some (h',y) => if h' = h then (if y = x then some none else none) else probeL q h x fuel (advL q.mask p)
def readP (et : ES) (x : Tr) : Option SetTable.Met→Option (Option Nat)
  | some (.empty j none) => some (some j)
  | some (.candidate _ i _) => match et[i]? with
    | some (_,y) => if y = x then some none else none
    | none => none
  | _ => none
theorem slot_of (led : Bool) (q : LS) (j : Nat) : (q.st led).2.slot j = match slotL q.pl j with | some i => .live i | none => .empty := by
  unfold SetTable.slot slotL LS.st
  dsimp only
  rw [bel_eq,List.getElem?_toArray]
  have hd : SetTable.has #[] j = false := by
    unfold SetTable.has
    simp
  by_cases h : q.pl[bel q.pl j]? = some j
  · rw [if_pos (by rw [h]; exact beq_self_eq_true _),if_pos h]
  · rw [if_neg (by simpa using h),if_neg h,if_neg (by rw [hd]; decide)]
theorem adv_dummy {mask : Nat} {p : SetTable.Probe} (h : p.dummy = none) : (advL mask p).dummy = none := by
  unfold advL
  split <;> exact h
theorem probe_of (led : Bool) (q : LS) (h : Int) (x : Tr) {r : Option Nat} : ∀ (fuel : Nat) (p : SetTable.Probe),p.dummy = none→probeL q h x fuel p = some r→readP (q.st led).1 x (SetTable.probe.go (q.st led).2 (hAt (q.st led).1) h fuel p) = some r
  | 0,_,_,e => by cases e
  | fuel + 1,p,hd,e => by
    unfold SetTable.probe.go
    unfold probeL at e
    rw [slot_of]
    cases hs : slotL q.pl p.j with
    | none =>
      rw [hs] at e
      dsimp only at e ⊢
      rw [hd]
      exact e
    | some i =>
      rw [hs] at e
      dsimp only at e ⊢
      have ge : (q.st led).1[i]? = q.es[i]? := by show q.es.toArray[i]? = _; rw [List.getElem?_toArray]
      split at e
      · cases e
      · rename_i h' y hi
        have hh : hAt (q.st led).1 i = h' := by unfold hAt; rw [ge,hi]; rfl
        rw [hh]
        by_cases c : h' = h
        · rw [if_pos c] at e
          rw [if_pos (by rw [c]; exact beq_self_eq_true _)]
          show (match (q.st led).1[i]? with | some (_,y) => if y = x then some none else none | none => none) = _
          rw [ge,hi]
          exact e
        · rw [if_neg c] at e
          rw [if_neg (by simpa using c)]
          exact probe_of led q h x fuel _ (adv_dummy hd) e
def okL (q : LS) : Bool:=decide (q.pl.length = q.es.length) && decide (q.pl.length≤q.mask) && decide (q.es.length≤1000)
def startL (mask : Nat) (h : Int) : SetTable.Probe:={ j:=SetTable.bits h % (mask + 1),more:=SetTable.runEnd mask (SetTable.bits h % (mask + 1)) - SetTable.bits h % (mask + 1),i:=SetTable.bits h % (mask + 1),perturb:=SetTable.bits h,dummy:=none }
def growL (es' : List (Int×Tr)) (mask moves mask' : Nat) : Option LS:=match layL mask' [] 0 (es'.map (·.1)) with
  | none => none
  | some tk => if ((liveL mask' tk).filterMap fun jk => es'[jk.2]?).length = es'.length then some ⟨(liveL mask' tk).filterMap fun jk => es'[jk.2]?,(liveL mask' tk).map (·.1),mask',if mask == 7 && mask' == 7 then moves else moves + 1⟩ else none
def addL (q : LS) (x : Tr) : Option LS :=
  if (okL q && decide (q.mask % 2≠0)) = false then none else
  match probeL q (hashT x) x (10 * SetTable.turns q.mask) (startL q.mask (hashT x)) with
  | none => none
  | some none => some q
  | some (some j) =>
    if (q.pl.length + 1) * 5 < q.mask * 3 then some ⟨ins q.es (bel q.pl j) (hashT x,x),ins q.pl (bel q.pl j) j,q.mask,q.moves⟩ else
    if (decide (q.pl.length + 1≤q.mask) && decide (SetTable.sizeAbove (SetTable.grown (q.es.length + 1))≤100000)) = false then none else
    growL (ins q.es (bel q.pl j) (hashT x,x)) q.mask q.moves (SetTable.sizeAbove (SetTable.grown (q.es.length + 1)) - 1)
theorem ins_len {α : Type} (x : α) : ∀ (l : List α) (p : Nat),(ins l p x).length = l.length + 1
  | l,0 => by cases l <;> rfl
  | [],p + 1 => rfl
  | a :: l,p + 1 => by rw [ins,List.length_cons,ins_len x l p]; rfl
theorem put_of (led : Bool) (q : LS) (j : Nat) : (q.st led).2.put j = ((LS.st led ⟨q.es,ins q.pl (bel q.pl j) j,q.mask,q.moves⟩).2,bel q.pl j) := by
  unfold SetTable.put LS.st
  dsimp only
  have hd : SetTable.has #[] j = false := by
    unfold SetTable.has
    simp
  rw [bel_eq,insertAt_eq,hd]
  rfl
theorem add_of (led : Bool) {q q' : LS} {x : Tr} (e : addL q x = some q') : addP (q.st led) x = some (q'.st led) := by
  unfold addL at e
  by_cases h0 : (okL q && decide (q.mask % 2≠0)) = false
  · rw [if_pos h0] at e; cases e
  rw [if_neg h0] at e
  simp only [Bool.not_eq_false,Bool.and_eq_true,decide_eq_true_eq,okL] at h0
  obtain ⟨⟨⟨o1,o2⟩,o3⟩,o4⟩:=h0
  have fit : ∀ pl : List Nat,(LS.st led ⟨q.es,pl,q.mask,q.moves⟩).2.fill = pl.length:=fun pl => by unfold SetTable.fill LS.st; simp
  rw [add_eq]
  unfold addQ
  have g0 : ¬ ((q.st led).2.fits (q.st led).1.size && decide ((q.st led).1.size≤1000) && (q.st led).2.plain) = false := by
    have f1 : (q.st led).1.size = q.es.length:=List.size_toArray
    have f2 : (q.st led).2.place.size = q.pl.length:=List.size_toArray
    have f3 : (q.st led).2.fill = q.pl.length:=fit q.pl
    unfold SetTable.fits
    rw [f1,f2,f3]
    have f4 : (q.st led).2.mask = q.mask:=rfl
    have f5 : (q.st led).2.plain = true:=rfl
    rw [f4,f5]
    simp [o1,o3]
    omega
  rw [if_neg g0]
  have hs : ∀ r,probeL q (hashT x) x (10 * SetTable.turns q.mask) (startL q.mask (hashT x)) = some r→srch (q.st led).1 (q.st led).2 x (hashT x) = some r:=fun r hr => by
    unfold srch
    have : (q.st led).2.gaveWay = false := by
      unfold SetTable.gaveWay
      show (q.mask % 2 == 0) = false
      simpa using o4
    rw [this,if_neg (by decide)]
    exact probe_of led q (hashT x) x _ (startL q.mask (hashT x)) rfl hr
  cases hp : probeL q (hashT x) x (10 * SetTable.turns q.mask) (startL q.mask (hashT x)) with
  | none => rw [hp] at e; cases e
  | some r =>
    rw [hp] at e
    rw [hs r hp]
    cases r with
    | none => cases e; rfl
    | some j =>
      dsimp only at e ⊢
      rw [put_of]
      dsimp only
      have es1 : SetTable.insertAt (q.st led).1 (bel q.pl j) (hashT x,x) = (ins q.es (bel q.pl j) (hashT x,x)).toArray:=insertAt_eq _ _ _
      have tf : (LS.st led ⟨q.es,ins q.pl (bel q.pl j) j,q.mask,q.moves⟩).2.tooFull = decide ((q.pl.length + 1) * 5 ≥ q.mask * 3) := by
        unfold SetTable.tooFull
        rw [fit,ins_len]
        rfl
      rw [es1,tf]
      by_cases c : (q.pl.length + 1) * 5 < q.mask * 3
      · rw [if_pos c] at e
        cases e
        rw [if_pos (by simp; omega)]
        rfl
      rw [if_neg c] at e
      rw [if_neg (by simp; omega)]
      have sz : (q.st led).1.size = q.es.length:=List.size_toArray
      rw [sz]
      split at e
      · cases e
      rename_i c2
      simp only [Bool.not_eq_false,Bool.and_eq_true,decide_eq_true_eq] at c2
      have g1 : ¬ ((LS.st led ⟨q.es,ins q.pl (bel q.pl j) j,q.mask,q.moves⟩).2.fits (ins q.es (bel q.pl j) (hashT x,x)).toArray.size && decide (SetTable.sizeAbove (SetTable.grown (q.es.length + 1))≤100000)) = false := by
        unfold SetTable.fits
        rw [fit,ins_len]
        have f2 : (LS.st led ⟨q.es,ins q.pl (bel q.pl j) j,q.mask,q.moves⟩).2.place.size = q.pl.length + 1:=(List.size_toArray).trans (ins_len _ _ _)
        rw [f2,List.size_toArray,ins_len]
        have f4 : (LS.st led ⟨q.es,ins q.pl (bel q.pl j) j,q.mask,q.moves⟩).2.mask = q.mask:=rfl
        rw [f4]
        simp [o1,c2.1,c2.2]
        omega
      rw [if_neg g1]
      generalize hm : SetTable.sizeAbove (SetTable.grown (q.es.length + 1)) - 1 = mask' at e ⊢
      generalize he : ins q.es (bel q.pl j) (hashT x,x) = es' at e ⊢
      unfold growL at e
      unfold laidL
      have hm2 : (es'.toArray.map (·.1)).toList = es'.map (·.1) := by simp
      rw [hm2]
      split at e
      · cases e
      · rename_i tk htk
        dsimp only
        have ho : ∀ l : List (Nat×Nat),((l.map (·.2)).toArray.filterMap (es'.toArray[·]?)) = (l.filterMap fun jk => es'[jk.2]?).toArray:=fun l => by
          apply Array.toList_inj.mp
          rw [Array.toList_filterMap]
          simp only [List.filterMap_map]
          exact fm_congr _ fun jk _ => by simp
        rw [ho]
        split at e
        · rename_i hl
          cases e
          rw [if_pos (by simpa using hl)]
          rfl
        · cases e
def runL (q : LS) : List Tr→Option LS
  | [] => some q
  | x :: r => match addL q x with
    | none => none
    | some q' => runL q' r
theorem runL_of (led : Bool) : ∀ {l : List Tr} {q q' : LS},runL q l = some q'→runP (q.st led) l = some (q'.st led)
  | [],q,q',e => by cases e; rfl
  | x :: r,q,q',e => by
    unfold runL at e
    split at e
    · cases e
    · rename_i q2 e2
      rw [runP,add_of led e2]
      exact runL_of led e
def slL (pl : List Nat) : Nat→Nat
  | 0 => 0
  | i + 1 => pl.getD i 0 + 1
def walkL (q : LS) : Bool:=(List.range (q.es.length + 1)).all fun i => decide (bel q.pl (slL q.pl i) = i)
theorem walk_of (led : Bool) {q : LS} (h : walkL q = true) : walkOk (q.st led).2 (q.st led).1.size = true := by
  unfold walkL at h
  unfold walkOk
  have sz : (q.st led).1.size = q.es.length:=List.size_toArray
  rw [sz]
  rw [List.all_eq_true] at h ⊢
  intro i hi
  have:=h i hi
  have e : SetTable.below (q.st led).2.place (slotOf (q.st led).2 i) = bel q.pl (slL q.pl i) := by
    have e1 : slotOf (q.st led).2 i = slL q.pl i := by
      cases i with
      | zero => rfl
      | succ i =>
        show q.pl.toArray.getD i 0 + 1 = q.pl.getD i 0 + 1
        rw [Array.getD_eq_getD_getElem?,List.getElem?_toArray,List.getD_eq_getElem?_getD]
    rw [e1]
    exact bel_eq _ _
  rw [e]
  exact this
def bigL (l : List Tr) : Bool:=match runL ⟨[],[],7,0⟩ l with
  | some q => decide (q.pl.length = q.es.length) && decide (q.pl.length≤q.mask) && walkL q && decide (64≤q.es.length) && decide (q.es.length < 128)
  | none => false
theorem bigL_of {l : List Tr} (h : bigL l = true) (led : Bool) : ∃ st,runP (fresh0 led) l = some st∧st.2.fits st.1.size = true∧st.2.plain = true∧st.2.led = led∧walkOk st.2 st.1.size = true∧64≤st.1.size∧st.1.size < 128 := by
  unfold bigL at h
  split at h
  · rename_i q e
    simp only [Bool.and_eq_true,decide_eq_true_eq] at h
    obtain ⟨⟨⟨⟨h1,h2⟩,h3⟩,h4⟩,h5⟩:=h
    have sz : (q.st led).1.size = q.es.length:=List.size_toArray
    refine ⟨q.st led,runL_of led e,?_,rfl,rfl,walk_of led h3,by omega,by omega⟩
    unfold SetTable.fits SetTable.fill
    have f2 : (q.st led).2.place.size = q.pl.length:=List.size_toArray
    have f3 : (q.st led).2.dummies.size = 0:=rfl
    have f4 : (q.st led).2.mask = q.mask:=rfl
    rw [sz,f2,f3,f4]
    simp [h1]
    omega
  · cases h
end TH
namespace L2
open PySem PySem.Spec PyProof.Rows
section
variable {X : Cx}
structure SetOkA (w : World) (st : TH.ES×SetTable) : Prop where
  fit : st.2.fits st.1.size = true
  plain : st.2.plain = true
  led : st.2.led = !w.params.followText "set-order"
  walk : TH.walkOk st.2 st.1.size = true
  lo : 64≤st.1.size
  hi : st.1.size < 128
def rSortA (w : World) : List V→Hp→VK→Prop:=fun xs H Q => ∃ S st,xs = [.ref S]∧SetV H S st∧((SetOk w st∧∀ (l : Addr) (zs : List V),H l = none→zs.length < 64→Ts H (Tr.of (Tr.srt (TH.memsOf st)).reverse) zs→Q (.ref l) (upd H l (.lst zs))) ∨
  (SetOkA w st∧∀ (l : Addr) (zs : List V),H l = none→Q (.ref l) (upd H l (.lst zs))))
theorem call_sortA (hc : X.calm = true) (hu : X.A.units + 64 < cLine) : CallR X (.builtin "sorted") (rSortA X.w) := by
  intro pins s σ H xs us Q I r h
  obtain ⟨S,st,rfl,hS,⟨ok,q⟩ | ⟨ok,q⟩⟩:=h
  · exact call_sortS hc hu _ _ _ _ _ _ _ I r ⟨S,st,rfl,hS,ok,q⟩
  obtain ⟨u,rfl,r1⟩:=r.one
  cases r1
  obtain ⟨ev,ep,h1,h2⟩:=hS
  obtain ⟨⟨o,g1,g2,g3⟩,_,_⟩:=(show ObjOk X.prog X.w H s.heap S (setO S ev ep st.2) from I.hok S _ h1)
  have R:=mems_raw I h2
  have hz : ev.size = st.1.size:=TH.Mems.size R
  have W : TH.Walked X.w o ev ep st.2:=⟨g2,g3,by rw [hz]; exact ok.fit,ok.plain,ok.led,by rw [hz]; exact ok.walk⟩
  refine TH.sorted_setA (I.ok.hd hc) W g1 R ok.lo ok.hi (by omega) fun h' D tk e1 us bs hD k1 gD hp hl => ?_
  obtain ⟨zs,r1,r2⟩:=g_ts hp
  have hz : zs.length < 128 := by rw [r1.length]; exact hl
  exact ⟨.ref D,upd H D (.lst zs),I.laid (t':=tk) k1 hD ⟨Nat.le_of_lt (Nat.lt_of_lt_of_le hz (by rw [sizeLine_eq]; decide)),us,e1,r1,gD⟩,rfl,q D zs (I.hok.fresh hD)⟩
end
def bigD (t : Tr) : Bool:=decide (t.deep≤8) && TH.bigL t.bs
def sortOr (t : Tr) : Option L:=if t.bs.length < 200 then (setD t).map .d else if bigD t then some .no else (setD t).map .d
theorem sortOr_of {t : Tr} {l : L} (h : sortOr t = some l) : (setD t).map L.d = some l∨(bigD t = true∧l = .no) := by
  unfold sortOr at h
  split at h
  · exact .inl h
  · split at h
    · rename_i hb
      cases h
      exact .inr ⟨hb,rfl⟩
    · exact .inl h
def sSortSet (i : Nat) (f : Dv→Option PyData) : DF:=fun δ => (f δ).bind fun y => match y with
  | .list ds => (trsOf ds).bind fun t => (sortOr t).map fun l => .nx (δ.set i l)
  | _ => none
section
variable {X : Cx} {e : Expr} {f : Dv→Option PyData} {pos p p2 pos2 pos3 : Pos}
theorem ds_sortSet {i : Nat} {x : Str} {pos' : Pos} (hc : X.calm = true) (hu : X.A.units + 64 < cLine) (hg : Gl X "sorted") (hm : X.mg "sorted" = none) (hg2 : Gl X "set") (hm2 : X.mg "set" = none) (ha : DE X e f) (hN : X.N.Nodup) (hi : X.N[i]? = some x) (hx : Loc X.env.scope x)
    (hs1 : starEach [e] X.env = (false,eval e X.env) :: starEach [] X.env := by rfl) (hs2 : starEach [.Call (.Name "set" p2) [e] [] pos2] X.env = (false,eval (.Call (.Name "set" p2) [e] [] pos2) X.env) :: starEach [] X.env := by rfl)
    (hq1 : (backTo pos2 (starEach [] X.env)).any (·.1) = false := by rfl) (hq2 : (backTo pos (starEach [] X.env)).any (·.1) = false := by rfl)
    (hs : swapsWith (.Call (.Name "sorted" p) [.Call (.Name "set" p2) [e] [] pos2] [] pos) (some (.Name x pos')) pos3.line X.env = pure false := by rfl) (hf : X.fn x = true∨X.env.scope.names.lookup x = some .local := by first | exact .inl rfl | exact .inr rfl | assumption) :
    DS X (.Assign [.Name x pos'] (.Call (.Name "sorted" p) [.Call (.Name "set" p2) [e] [] pos2] [] pos) pos3) (sSortSet i f) := by
  obtain ⟨ta,pa,ka⟩:=ha
  refine ⟨_,ps_set hN hi hx (pe_callB (call_sortA hc hu) hg hm PyProof.Rows.boot_sorted (pa_cons (pe_callTy (call_setT hc hu) hg2 hm2 PyProof.Rows.boot_set (pa_cons pa pa_nil hs1) (by decide) (by decide) hs1 hq1) pa_nil hs2) (by decide) (by decide) hs2 hq2) hs hf,fun δ r hz G0 H0 G H σ D R0 q => ?_⟩
  obtain ⟨y,h1,h2⟩:=Option.bind_eq_some_iff.mp hz
  refine ka δ y h1 G0 H0 G H σ [] _ R0 fun u G1 H1 R1 => ?_
  split at h2
  · rename_i ds
    obtain ⟨t,h3,h4⟩:=Option.bind_eq_some_iff.mp h2
    obtain ⟨l,h5,rfl⟩:=Option.map_eq_some_iff.mp h4
    have hds:=row_of h3
    have du:=R1.tmp (_,u) (.head _)
    obtain ⟨bb,a,ys,rfl,n1,n2⟩:=seq_at du (show seqOf (.list ds) = some ds from rfl)
    have n1' : H1 a = some (.lst ys) := by
      have:=R1.ins _ _ n1
      cases bb
      · simpa using this
      · exact absurd n1 (by
          have du':=du
          intro n1
          rw [Du] at du'
          obtain ⟨a',ys',e1,e2,_⟩:=du'
          cases e1
          rw [e2] at n1
          cases n1)
    rw [hds] at n2
    have ht:=(du_row n2).same R1.ins
    rcases sortOr_of h5 with h5 | ⟨hb,rfl⟩
    · obtain ⟨z,h6,rfl⟩:=Option.map_eq_some_iff.mp h5
      unfold setD at h6
      split at h6
      · rename_i hh
        cases h6
        have both : ∀ led,okRun led t.bs (runZ t.bs) = true:=fun led => by cases led; exact hh.2.2; exact hh.2.1
        obtain ⟨st,r1,r2,r3,r4,r5,r6,r7⟩:=okRun_of (both (!X.w.params.followText "set-order"))
        refine ⟨a,ys,t,st,rfl,SqL.of n1',ht,hh.1,r1,fun S H' e1 hS => ⟨S,st,rfl,hS,.inl ⟨⟨r3,r4,r5,r6,r7⟩,fun l zs hl hz ht' => ?_⟩⟩⟩
        rw [r2] at ht'
        have R2:=(R1.drop.on e1).tups
        exact q _ _ _ (R2.newL (row_du ht') hl).setD
      · cases h6
    · simp only [bigD,Bool.and_eq_true,decide_eq_true_eq] at hb
      obtain ⟨st,r1,r3,r4,r5,r6,r7,r8⟩:=TH.bigL_of hb.2 (!X.w.params.followText "set-order")
      exact ⟨a,ys,t,st,rfl,SqL.of n1',ht,hb.1,r1,fun S H' e1 hS => ⟨S,st,rfl,hS,.inr ⟨⟨r3,r4,r5,r6,r7,r8⟩,fun l zs hl => q _ _ _ (((R1.drop.on e1).newObj hl).setNo i (some (.ref l)))⟩⟩⟩
  · cases h2
end
def tG (H : Hp) : Hp:=fun b => match H b with
  | some (.tup xs) => some (.tup xs)
  | _ => none
theorem tG_un {H : Hp} {b : Addr} {o : HO} (h : tG H b = some o) : H b = some o∧∃ xs,o = .tup xs := by
  unfold tG at h
  split at h
  · rename_i xs e; cases h; exact ⟨e,_,rfl⟩
  · cases h
theorem tG_t {H : Hp} {b : Addr} {xs : List V} (h : H b = some (.tup xs)) : tG H b = some (.tup xs) := by unfold tG; rw [h]
theorem ts_tG {G H : Hp} (e : Same G H) {t : Tr} {xs : List V} (h : Ts G t xs) : DuA (tG H) (rowD t) xs := by
  have:=row_du (G:=tG H) (h.same e)
  refine this.same fun b o q => ?_
  unfold tups at q
  split at q
  · rename_i us z; cases q; exact tG_t z
  · exact q
def isTrD (d : PyData) : Bool:=match d with
  | .tuple ds => (trsOf ds).isSome
  | _ => false
theorem duA_tG {G H : Hp} (e : Same G H) : ∀ {ds : List PyData} {vs : List V},ds.all isTrD = true→DuA G ds vs→DuA (tG H) ds vs
  | [],vs,_,h => by rw [DuA] at h ⊢; exact h
  | d :: ds,vs,ha,h => by
    rw [List.all_cons,Bool.and_eq_true] at ha
    rw [DuA] at h ⊢
    obtain ⟨x,r,rfl,h1,h2⟩:=h
    refine ⟨x,r,rfl,?_,duA_tG e ha.2 h2⟩
    have h3:=ha.1
    unfold isTrD at h3
    split at h3
    · rename_i us
      obtain ⟨t,ht⟩:=Option.isSome_iff_exists.mp h3
      have hu:=row_of ht
      subst hu
      rw [Du] at h1 ⊢
      obtain ⟨a,ys,rfl,g1,g2⟩:=h1
      exact ⟨a,ys,rfl,tG_t (e _ _ g1),ts_tG e (du_row g2)⟩
    · cases h3
def deepOk (y : PyData) : Bool:=match y with
  | .tuple [.list (.list e :: _),.list _] => decide (e.length < 1000)
  | _ => false
def fMid (i : Nat) (m : List PyData→Option PyData) (fs : Dv→Option (List PyData)) (fa : Dv→Option Bool) : DF:=fun δ => (fs δ).bind fun ds => if ds.all isTrD = true∧i < δ.length then (m ds).bind fun y => (fa ((frzAll δ).set i (.d y))).bind fun c => if c = true then none else if deepOk y = true then some (.nx (δ.set i .no)) else none else none
def Grow00 (X : Cx) (i : Nat) (st : Stmt) : Prop:=∃ t,PS X st t∧∀ (σ : St) (H : Hp) (D : Ends) (a l1 l2 : Addr) (v2 : V) (xs1 xs2 : List V),σ[i]? = some (some (.ref a))→H a = some (.tup [.ref l1,v2])→H l1 = some (.lst (.ref l2 :: xs1))→H l2 = some (.lst xs2)→xs2.length < sizeLine →
  (∀ H',(∀ b o,b≠l2→H b = some o→H' b = some o)→(∃ ys,H' l2 = some (.lst ys))→D.nx σ H')→t D σ H
def Clear1 (X : Cx) (i : Nat) (st : Stmt) : Prop:=∃ t,PS X st t∧∀ (σ : St) (H : Hp) (D : Ends) (a lc : Addr) (v1 : V) (xs : List V),σ[i]? = some (some (.ref a))→H a = some (.tup [v1,.ref lc])→H lc = some (.lst xs) →
  (∀ H',(∀ b o,b≠lc→H b = some o→H' b = some o)→D.nx σ H')→t D σ H
section
variable {X : Cx} {e c : Expr} {es : List Expr} {fs : Dv→Option (List PyData)} {fa : Dv→Option Bool} {sts rest : List Stmt} {F1 Fr : DF} {pos pos2 p pos' np : Pos} {s4 s5 : Stmt}
theorem dss_mid {k i : Nat} {fA : Addr} {fd : FuncData} {ps : List Str} {m : List PyData→Option PyData} {x y : Str} {st : Stmt} (T : Fn X.K X.mg x st ps fA fd) (F : FnOk X.prog X.w X.K X.mg X.base CX0 k fA fd ps (spD m)) (hr : Room k X.A) (hg : Gl X x) (ha : DA X (e :: es) fs)
    (hN : X.N.Nodup) (hi : X.N[i]? = some y) (hx : Loc X.env.scope y) (hc : DT X c fa) (h1 : DSs X sts F1) (h4 : Grow00 X i s4) (h5 : Clear1 X i s5) (hrest : DSs X rest Fr)
    (hdb : (x == ("__debug__" : Str)) = false := by decide) (he : starEach (e :: es) X.env = (false,eval e X.env) :: starEach es X.env := by rfl) (hpl : (backTo pos (starEach es X.env)).any (·.1) = false := by rfl)
    (hs : swapsWith (.Call (.Name x p) (e :: es) [] pos) (some (.Name y np)) pos'.line X.env = pure false := by rfl) (hf : X.fn y = true∨X.env.scope.names.lookup y = some .local := by first | exact .inl rfl | exact .inr rfl | assumption) :
    DSs X (.Assign [.Name y np] (.Call (.Name x p) (e :: es) [] pos) pos' :: .If c sts [] pos2 :: s4 :: s5 :: rest) (seqD (fMid i m fs fa) Fr) := by
  obtain ⟨ta,pa,ka⟩:=ha
  obtain ⟨tc,pc,kc⟩:=hc
  obtain ⟨t1,q1,_⟩:=h1
  obtain ⟨t4,p4,k4⟩:=h4
  obtain ⟨t5,p5,k5⟩:=h5
  obtain ⟨tr,pr,kr⟩:=hrest
  refine ⟨_,pss_cons (ps_set hN hi hx (pe_fn T F hr hg pa hdb he hpl) hs hf) (pss_cons (ps_if pc q1 pss_nil) (pss_cons p4 (pss_cons p5 pr))),fun δ r hz G0 H0 G H σ D R q => ?_⟩
  obtain ⟨ds,y0,e1,e2,e3,e4,e5,e6⟩ : ∃ ds y0,fs δ = some ds∧(ds.all isTrD = true∧i < δ.length)∧m ds = some y0∧fa ((frzAll δ).set i (.d y0)) = some false∧deepOk y0 = true∧Fr (δ.set i .no) = some r := by
    unfold seqD at hz
    split at hz
    · rename_i δ' hm
      obtain ⟨ds,g1,hm⟩:=Option.bind_eq_some_iff.mp hm
      split at hm
      · rename_i g2
        obtain ⟨y0,g3,hm⟩:=Option.bind_eq_some_iff.mp hm
        obtain ⟨b,g4,hm⟩:=Option.bind_eq_some_iff.mp hm
        split at hm
        · cases hm
        · rename_i g5
          split at hm
          · rename_i g6
            cases hm
            cases b with
            | true => exact absurd rfl g5
            | false => exact ⟨ds,y0,g1,g2,g3,g4,g6,hz⟩
          · cases hm
      · cases hm
    · rename_i hne
      exfalso
      cases hq : fMid i m fs fa δ with
      | none => rw [hq] at hz; cases hz
      | some o =>
        obtain ⟨ds,g1,hm⟩:=Option.bind_eq_some_iff.mp hq
        split at hm
        · obtain ⟨y0,g3,hm⟩:=Option.bind_eq_some_iff.mp hm
          obtain ⟨b,g4,hm⟩:=Option.bind_eq_some_iff.mp hm
          split at hm
          · cases hm
          · split at hm
            · cases hm
              exact hne _ hq
            · cases hm
        · cases hm
  refine ka δ ds e1 G0 H0 G H σ [] _ R fun vs G1 H1 R1 hv => ?_
  obtain ⟨d,R2⟩:=R1.args hv
  refine ⟨ds,y0,tG H1,e3,by rw [List.append_nil]; exact duA_tG R2.ins e2.1 d,fun b o h => (tG_un h).1,fun v G' H2 j1 j2 j3 j4 j5 => ?_⟩
  have R3:=((R2.on j4).frzAll.put (j5.same j3)).setD (i:=i)
  refine kc _ _ e4 H2 H2 H2 H2 _ [] _ R3 fun G3 H3 R4 => ?_
  rw [if_neg (by decide)]
  have s23 : Same H2 H3:=R4.keep
  have hv5 : (σ.set i (some v))[i]? = some (some v) := by
    have : i < σ.length := by
      have h1:=R2.len
      have h2:=e2.2
      omega
    rw [List.getElem?_set_self this]
  unfold deepOk at e5
  split at e5
  case h_2 => cases e5
  rename_i e0 r1 r2
  have hl:=of_decide_eq_true e5
  rw [Du] at j5
  obtain ⟨a,xs,rfl,ga,j5⟩:=j5
  rw [DuA] at j5
  obtain ⟨w1,ws,rfl,j6,j7⟩:=j5
  rw [DuA] at j7
  obtain ⟨w2,ws',rfl,j7,j8⟩:=j7
  rw [DuA] at j8
  subst j8
  rw [Du] at j6 j7
  obtain ⟨l1,us,rfl,g1,j6⟩:=j6
  obtain ⟨lc,uc,rfl,gc,_⟩:=j7
  rw [DuA] at j6
  obtain ⟨w3,us',rfl,j6,_⟩:=j6
  rw [Du] at j6
  obtain ⟨l2,u2,rfl,g2,j6⟩:=j6
  have new : ∀ {l : Addr} {zs : List V},G' l = some (.lst zs)→H1 l = none:=fun {l zs} h => by
    rcases j2 _ _ h with z | z | ⟨_,z⟩
    · obtain ⟨_,_,z⟩:=tG_un z; cases z
    · exact z
    · cases z
  have n2:=new g2
  have nc:=new gc
  refine k4 _ H3 _ a l1 l2 (.ref lc) us' u2 hv5 (s23 _ _ (j3 _ _ ga)) (s23 _ _ (j3 _ _ g1)) (s23 _ _ (j3 _ _ g2)) (by rw [j6.len,sizeLine_eq]; omega) fun H4 b4 ⟨ys,l4⟩ => ?_
  have ha2 : a≠l2:=fun z => by rw [z,g2] at ga; cases ga
  obtain ⟨zs,hlc⟩ : ∃ zs,H4 lc = some (.lst zs) := by
    by_cases z : lc = l2
    · exact ⟨ys,by rw [z]; exact l4⟩
    · exact ⟨uc,b4 _ _ z (s23 _ _ (j3 _ _ gc))⟩
  refine k5 _ H4 _ a lc (.ref l1) zs hv5 (b4 _ _ ha2 (s23 _ _ (j3 _ _ ga))) hlc fun H5 b5 => ?_
  have s15 : Same H1 H5:=fun b o h => b5 _ _ (fun z => by rw [z,nc] at h; cases h) (b4 _ _ (fun z => by rw [z,n2] at h; cases h) (s23 _ _ (j4 _ _ h)))
  exact kr _ _ e6 G0 H0 G1 H5 _ D ((R2.on s15).setNo i (some (.ref a))) q
end
end L2
set_option maxHeartbeats 4000000
namespace Opn
open PySem PySem.W PyProof.Rows PySem.Calls
noncomputable def q0 : Pos:=⟨0,0,0,0⟩
noncomputable def o11 : Obj:={ cls:=.type "tuple",data:=.seq #[] }
noncomputable def o12 : Obj:={ cls:=.none,data:=.fields #[] }
noncomputable def o13 : Obj:={ cls:=.type "code",data:=.fields #[.str (Str.ofString "<module>") 182,.str (Str.ofString "<module>") 183,.str (Str.ofString "/claim/cut.py") 184,.int 1 0,.int 0 0,.int 0 0,.int 0 0,.int 0 0,.ref 11,.bool false,.int 181 0,.ref 12,.none,.none,.none,.none,.int 185 0,.int 1 0,.str (Str.ofString "/claim/cut.py") 186] }
noncomputable def o14 : Obj:={ cls:=.type "frame",slots:=#[some (.ref 13),some (.ref 3),some (.ref 3),none,some (.str (Str.ofString "__main__") 164),none,some (.ref 0)] }
noncomputable def objsB (P : Params) : List Obj:=(boot_heap P).objs.toList ++ [o11,o12,o13,o14]
noncomputable def nN (P : Params) (o : Params→Obj) (l r : BT) : BT:=.node (o P) l r
noncomputable def lN (P : Params) (o : Params→Obj) : BT:=.node (o P) .nil .nil
noncomputable def treeB (P : Params) : BT :=
  nN P boot_o_0 (nN P boot_o_1 (nN P boot_o_3 (lN P boot_o_7) (.node o11 .nil .nil)) (nN P boot_o_5 (lN P boot_o_9) (.node o13 .nil .nil)))
    (nN P boot_o_2 (nN P boot_o_4 (lN P boot_o_8) (.node o12 .nil .nil)) (nN P boot_o_6 (lN P boot_o_10) (.node o14 .nil .nil)))
noncomputable def lifeB : Life:=Life.mk [] [] [] 0 [] [] false #[] [] 0 false false false 0 [2000,10,10] false 0 true [] [] 0 false
noncomputable def sA (w : World) (os : OsState) : Shared:=⟨⟨⟨objsB w.params⟩,lifeB⟩,#[],boot_drawn,187,os⟩
noncomputable def sB (w : World) (os : OsState) : SharedT:=⟨treeB w.params,15,lifeB,#[],boot_drawn,187,os⟩
noncomputable def envB (p : Program) : Env:={ scope:=p.main.scope,locals:=mainNs,globals:=mainNs,cells:=[],code:=.ref 13,frame:=some 14 }
noncomputable def cB (p : Program) : Code:=.body (behindTheImports p) (envB p)
noncomputable abbrev annB : Option Value:=some (.ref 6)
noncomputable abbrev bB : List Frame:=[topFrame q0]
noncomputable def runB (p : Program) (M : Nat) (w : World) (os : OsState) : Option (Flow×SharedT×Code×Pos) :=
  PySem.W.Fast.tw10110043849684766642 PySem.W.Fast.tw14364793385576792824 p w 11 annB 1 M (sB w os) (piecesOf (behindTheImports p) (envB p) (cB p) q0 bB)
noncomputable def endB (p : Program) (M : Nat) (w : World) (os : OsState) : SharedT:=match runB p M w os with | some (_,s,_) => s | none => sB w os
theorem runB_eq {p : Program} {M : Nat} {w : World} {os : OsState} {r : Option (Flow×SharedT×Code×Pos)} (h : runB p M w os = r) :
    segRunT treeTable p w 11 annB 1 M (sB w os) (piecesOf (behindTheImports p) (envB p) (cB p) q0 bB) = r := by
  have e : segRunT treeTable = PySem.W.Fast.tw10110043849684766642 PySem.W.Fast.tw14364793385576792824:=congr PySem.W.Fast.te10110043849684766642 PySem.W.Fast.te14364793385576792824
  rw [e]; exact h
theorem run_of {p : Program} {M M0 : Nat} {posE : Pos} {w : World} {os : OsState}
    (pre : topGo treeTable p w 11 annB 12 ⟨boot_heap w.params,#[],boot_drawn,boot_toks,os⟩ (topStub p) = some (sA w os,⟨denote treeTable (cB p),cB p,q0,bB⟩))
    (blk : segRun treeTable p w 11 annB 1 1 (sA w os) (blockOf (behindTheImports p) (envB p) (cB p) q0 bB) = some (.next,(sB w os).abs,cB p,q0))
    (seg : runB p M w os = some (.next,endB p M w os,cB p,posE))
    (fin : ∀ s,topRun treeTable p w 11 annB 2 s (restOf [] (envB p) (cB p) posE bB) = some s) (hM : M0 = 12 + (1 + (M + 2))) :
    topRun treeTable p w 11 annB M0 ⟨boot_heap w.params,#[],boot_drawn,boot_toks,os⟩ (topStub p) = some (endB p M w os).abs := by
  subst hM
  refine go_top pre (piece_block blk ?_)
  have h:=piece_app (rest:=[]) (segRun_of (runB_eq seg)) (fin _)
  rw [List.append_nil] at h
  exact h
theorem left_of {p q : Program} {loose : List Str} {Xt : Shared→Bool} {α : Type} {Yf : Shared→α} {Ya : World→α} {N M : Nat} {S : World→OsState→Shared}
    (open_ : ∀ w : World,(fencedOpening treeTable p w N).map (fun s => (s.heap,s.gens,s.drawn,s.toks)) = some (boot_heap w.params,#[],boot_drawn,boot_toks))
    (size : ∀ w : World,((boot_heap w.params).isNs mainGlobals && (#[] : Array GenState).size == 0,(boot_heap w.params).objs.size,(boot_heap w.params).nsMap mainGlobals "__annotations__") = (true,11,annB))
    (run : ∀ w os,topRun treeTable p w 11 annB M ⟨boot_heap w.params,#[],boot_drawn,boot_toks,os⟩ (topStub p) = some (S w os)) (le : Nat.ble M N = true)
    (ok : ∀ w os,(staticsOk (importedModules p.main.body) (boot_heap w.params) (S w os).heap && namesBound p (S w os).heap && gensDone (S w os) && laidKept (boot_heap w.params) (S w os).heap) = true)
    (seen : ∀ w os,openSeen q loose (importedModules p.main.body) Xt true (S w os) = openGood q loose)
    (hY : ∀ w os,Yf (S w os) = Ya w) : LeftO p q loose Xt Yf Ya N:=fun w => by
  obtain ⟨⟨h,gs,d,k,os⟩,e,e'⟩:=Option.map_eq_some_iff.mp (open_ w)
  obtain ⟨rfl,rfl,rfl,rfl⟩ : h = boot_heap w.params∧gs = #[]∧d = boot_drawn∧k = boot_toks := by simpa using e'
  obtain ⟨z1,z2,z3⟩ : _∧_∧_ := by simpa only [Prod.mk.injEq] using size w
  have l1:=ok w os
  have r:=topRun_mono (N - M) _ _ _ _ (run w os)
  rw [show M + (N - M) = N by have:=Nat.le_of_ble_eq_true le; omega] at r
  have t : topFrom treeTable p w N ⟨boot_heap w.params,#[],boot_drawn,boot_toks,os⟩ = some (S w os) := by
    unfold topFrom
    dsimp only
    rw [z1,z2,z3,r]
    show (match staticsOk (importedModules p.main.body) (boot_heap w.params) (S w os).heap && namesBound p (S w os).heap && gensDone (S w os) && laidKept (boot_heap w.params) (S w os).heap with | true => _ | false => _) = _
    rw [l1]
  unfold openEnds
  rw [e]
  show (topFrom treeTable p w N _).map _ = _
  rw [t]
  exact congrArg some (Prod.ext (seen w os) (hY w os))
theorem sizeB (w : World) : ((boot_heap w.params).isNs mainGlobals && (#[] : Array GenState).size == 0,(boot_heap w.params).objs.size,(boot_heap w.params).nsMap mainGlobals "__annotations__") = (true,11,annB) := by kernel_rfl
end Opn
namespace Q50
open PySem L2
def top (i : Nat) : Stmt:=PySem.Challenge.pw_stepgrove_k50_parting_changes.main.body.getD i (.Pass ⟨0,0,0,0⟩)
abbrev s_is_tree : Stmt:=top 4
abbrev s_refuse_no_tree : Stmt:=top 5
abbrev s_parents_within : Stmt:=top 6
abbrev s_parting_change : Stmt:=top 8
abbrev s__law_cell : Stmt:=top 10
abbrev s__law_kept : Stmt:=top 11
abbrev s__law_longer : Stmt:=top 12
abbrev s__law_trees : Stmt:=top 13
abbrev s__law_is : Stmt:=top 14
abbrev s__law_numbered : Stmt:=top 15
abbrev s__law_due : Stmt:=top 16
abbrev s__law_whole : Stmt:=top 17
abbrev s_law : Stmt:=top 18
theorem nnt {n : String} : clsV (.ty n)≠.none:=fun z => nomatch z
def DU (H : Hp) (d : PyData) (v : V) : Prop:=∃ N : Nat,∀ l,N≤l→Dt l H d v
def DUs (H : Hp) (ds : List PyData) (xs : List V) : Prop:=∃ N : Nat,∀ l,N≤l→DtAll l H ds xs
theorem DU.int {H : Hp} {i : Int} : DU H (.int i) (.int i):=⟨0,fun _ _ => .int⟩
theorem DU.bool {H : Hp} {i : Bool} : DU H (.bool i) (.bl i):=⟨0,fun _ _ => .bool⟩
theorem DU.non {H : Hp} : DU H .none .non:=⟨0,fun _ _ => .non⟩
theorem DU.str {H : Hp} {x : Str} : DU H (.str x) (.str x):=⟨0,fun _ _ => .str⟩
theorem DUs.nil {H : Hp} : DUs H [] []:=⟨0,fun _ _ => .nil⟩
theorem DUs.cons {H : Hp} {d : PyData} {ds : List PyData} {x : V} {xs : List V} (h : DU H d x) (k : DUs H ds xs) : DUs H (d :: ds) (x :: xs) :=
  let ⟨N,a⟩:=h; let ⟨M,b⟩:=k; ⟨max N M,fun l hl => .cons (a l (by omega)) (b l (by omega))⟩
theorem DU.lst {H : Hp} {a : Addr} {ds : List PyData} {xs : List V} (h : H a = some (.lst xs)) (k : DUs H ds xs) : DU H (.list ds) (.ref a) :=
  let ⟨N,b⟩:=k; ⟨max N (a + 1),fun l hl => .lst (Nat.ne_of_lt (show a < l from Nat.lt_of_lt_of_le (Nat.lt_succ_self a) (Nat.le_trans (Nat.le_max_right _ _) hl))) h (b l (by omega))⟩
theorem DU.tup {H : Hp} {a : Addr} {ds : List PyData} {xs : List V} (h : H a = some (.tup xs)) (k : DUs H ds xs) : DU H (.tuple ds) (.ref a) :=
  let ⟨N,b⟩:=k; ⟨max N (a + 1),fun l hl => .tup (Nat.ne_of_lt (show a < l from Nat.lt_of_lt_of_le (Nat.lt_succ_self a) (Nat.le_trans (Nat.le_max_right _ _) hl))) h (b l (by omega))⟩
theorem never_ok {P : Program} {w : World} {K : PySem.W.Frag} {mg : Str→Option Value} {base : Heap} {CX : CXT} {k : Nat} {f : Addr} {fd : FuncData} {ps : List Str} {sp : Sp} (h : ∀ vs H Q E,¬ sp vs H Q E) : FnOk P w K mg base CX k f fd ps sp :=
  ⟨fun _ _ _ _ z => (h _ _ _ _ z).elim,fun _ _ _ _ _ _ _ _ _ _ _ _ _ z => (h _ _ _ _ z).elim⟩
theorem sm_row {n : Nat} (ih : ∀ {d : PyData} {t : Tr},Sm n d→trOf d = some t→t.deep < n) : ∀ {ds : List PyData} {t : Tr},trsOf ds = some t→(∀ e∈ds,Sm n e)→t.deep≤n
  | [],t,h,_ => by rw [trsOf] at h; cases h; exact Nat.zero_le _
  | d :: ds,t,h,k => by
    rw [trsOf] at h
    cases k1 : trOf d with
    | none => rw [k1] at h; simp at h
    | some b =>
      cases k2 : trsOf ds with
      | none => rw [k1,k2] at h; simp at h
      | some r =>
        rw [k1,k2] at h
        cases h
        have:=ih (k d List.mem_cons_self) k1
        have:=sm_row ih k2 fun e he => k e (List.mem_cons_of_mem _ he)
        rw [Tr.deep]
        omega
theorem sm_deep : ∀ {n : Nat} {d : PyData} {t : Tr},Sm n d→trOf d = some t→t.deep < n
  | 0,d,t,h,k => by cases d <;> first | exact h.elim | (simp [trOf] at k)
  | n + 1,d,t,h,k => by
    cases d with
    | tuple ds =>
      obtain ⟨m,e,_,hall⟩:=h.un (.inl rfl)
      cases e
      rw [trOf] at k
      exact Nat.lt_succ_of_le (sm_row (fun a b => sm_deep a b) k hall)
    | none => simp [trOf] at k
    | bool _ => simp [trOf] at k
    | int _ => simp [trOf] at k
    | str _ => simp [trOf] at k
    | list _ => simp [trOf] at k
    | dict _ => simp [trOf] at k
def spTold1 (n : Nat) (g : PyData→Bool) : Sp:=fun vs H Q _ => ∃ l d v m,vs = [v]∧n = m + 1∧m≤50∧Sm m d∧Dt l H d v∧∀ H',Same H H'→Q (.bl (g d)) H'
theorem fallD_tup {d : PyData} (h : isTupD d = false) : fallD d = false:=fallD_no (by cases d <;> first | (simp [trOf]; done) | (simp [isTupD] at h))
section
variable {P : Program} {w : World} {K : PySem.W.Frag} {mg : Str→Option Value} {base : Heap} {f : Addr} {fd : FuncData}
theorem sc_is_tree : FnScope ["thing", "k", "bough"] ["thing"] (defScope s_is_tree):=⟨rfl,rfl,rfl,by decide +kernel,rfl,by decide +kernel,by decide +kernel⟩
theorem ok_is_treeD (T_is_tree : Fn K mg "is_tree" s_is_tree ["thing"] f fd) (z_isinstance : mg "isinstance" = none) (z_tuple : mg "tuple" = none) (z_enumerate : mg "enumerate" = none) :
    ∀ n,FnOk P w K mg base CX0 n f fd ["thing"] (spTold1 n fallD)
  | 0 => never_ok fun _ _ _ _ ⟨_,_,_,_,_,h,_⟩ => absurd h (Nat.succ_ne_zero _).symm
  | n + 1 => by
    have sc:=sc_is_tree
    have G_is_tree:=ok_is_treeD T_is_tree z_isinstance z_tuple z_enumerate n
    refine T_is_tree.F.ok (k:=n) sc (fun vs H Q E h => ?_) (fun cdv A outer s H vs Q E hr h => ?_)
    · obtain ⟨l,d,v,m,rfl,_⟩:=h
      rfl
    obtain ⟨l,d,v,m,rfl,hm,hm5,hs,hd,q⟩:=h
    have hm : n = m := by omega
    subst hm
    refine ⟨_,(pss_cons (ps_if (pt_not (pt_val (pe_callB call_isi rfl z_isinstance PyProof.Rows.boot_isinstance (pa_cons (pv 0) (pa_cons (pe_bltn (v:=.ty "tuple") rfl z_tuple PyProof.Rows.boot_tuple rfl) pa_nil)))))
    (pss_one (ps_ret pe_bl))
    pss_nil)
  (pss_cons (ps_for PassesOwn.never rfl (pi_enum rfl z_enumerate (pa_cons (pv 0) pa_nil)) (pg_tup rfl (pgs_cons (pg_name (i:=1) sc.nd rfl (Or.inl rfl)) (pgs_cons (pg_name (i:=2) sc.nd rfl (Or.inl rfl)) pgs_nil)))
    (pss_cons (ps_if (PW.pt (pw_and (pt_cmpR op_gt (pv 1) pe_int (nomark _)) (pw_and1 (pt_cmpR (op_eqD (by have:=hr.units; exact this)) (pv 2) (pe_ix ix_tup (pv 0) (pe_op op_sub (pv 1) pe_int) (fun _ _ => rfl)) (nomark _)))))
      (pss_one ps_continue)
      pss_nil)
    (pss_one (ps_if (PW.pt (pw_or (pt_not (pt_val (pe_fn T_is_tree G_is_tree hr rfl (pa_cons (pv 2) pa_nil)))) (pw_or1 (PW.pt (pw_and (pt_cmpR op_gt (pv 1) pe_int (nomark _)) (pw_and1 (pt_cmpR (op_gtTr (by have:=hr.units; exact this)) (pv 2) (pe_ix ix_tup (pv 0) (pe_op op_sub (pv 1) pe_int) (fun _ _ => rfl)) (nomark _))))))))
      (pss_one (ps_ret pe_bl))
      pss_nil))))
  (pss_one (ps_ret pe_bl)))),?_⟩
    refine ⟨_,rfl,_,_,_,_,rfl,nnt,hd.ty,kit_tupD K d hd.nodict,_,rfl,?_⟩
    by_cases hT : isTupD d = false
    · rw [hT]
      have:=q H (.refl H)
      rw [fallD_tup hT] at this
      exact iteT this
    have hT : isTupD d = true := by simpa using hT
    rw [hT]
    refine iteF ?_
    obtain ⟨ds,rfl⟩ : ∃ ds,d = .tuple ds := by cases d <;> first | exact ⟨_,rfl⟩ | exact absurd hT (by simp [isTupD])
    obtain ⟨m,rfl,hw,hall⟩:=hs.un (.inl rfl)
    rw [Dt] at hd
    obtain ⟨a,xs,rfl,na,ha,ht⟩:=hd
    have hlen:=ht.len
    refine ⟨_,rfl,a,rfl,⟨_,SqT.of ha⟩,for_enum (xs:=xs) (fun i σ H' => ∃ r1 r2,σ = [some (.ref a),r1,r2]∧Same H H'∧(∀ j c,j < i→ds[j]? = some c→fallD c = true)∧∀ (j : Nat) (d e : PyData) (b c : Tr),j + 1 < i→ds[j]? = some d→ds[j + 1]? = some e→trOf d = some b→trOf e = some c→Tr.lt b c = false) ?_ ?_ ?_ ?_⟩
    · exact ⟨_,_,rfl,Same.refl _,fun j c h => absurd h (Nat.not_lt_zero _),fun j d e b c h => absurd h (Nat.not_lt_zero _)⟩
    · rintro i σ H' _ ⟨r1,r2,rfl,e,_⟩
      exact SqT.of (e _ _ ha)
    · rintro i x σ H0 hx ⟨r1,r2,rfl,e0,hf,hl⟩ p hp
      obtain ⟨c,hc,tc⟩:=ht.get hx
      have hcm : c∈ds:=List.mem_of_getElem? hc
      have hcs:=hall c hcm
      have s1:=same_new hp (.tup [.int (i : Nat),x])
      have e1:=e0.trans s1
      refine ⟨p,_,rfl,SqT.of upd_same,rfl,_,_,rfl,_,_,rfl,rfl,?_⟩
      have at1:=e1.tup (SqT.of (K:=K) ha)
      have tc1:=tc.same e1
      have next : ∀ (H' : Hp),Same (upd H0 p (.tup [.int (i : Nat),x])) H'→fallD c = true→(∀ (d : PyData) (b t : Tr),0 < i→ds[i - 1]? = some d→trOf d = some b→trOf c = some t→Tr.lt b t = false) →
          ∃ r1 r2,[some (V.ref a),some (V.int (i : Nat)),some x] = [some (.ref a),r1,r2]∧Same H H'∧(∀ j c,j < i + 1→ds[j]? = some c→fallD c = true)∧∀ (j : Nat) (d e : PyData) (b c : Tr),j + 1 < i + 1→ds[j]? = some d→ds[j + 1]? = some e→trOf d = some b→trOf e = some c→Tr.lt b c = false:=fun H' e' h1 h2 => by
        refine ⟨_,_,rfl,e1.trans e',fun j d hj hjd => ?_,fun j d e b t hj hd he hb ht => ?_⟩
        · by_cases z : j = i
          · subst z; rw [hc] at hjd; cases hjd; exact h1
          · exact hf j d (by omega) hjd
        · by_cases z : j + 1 = i
          · subst z
            rw [hc] at he; cases he
            exact h2 d b t (by omega) (by simpa using hd) hb ht
          · exact hl j d e b t (by omega) hd he hb ht
      have fin : ∀ (H' : Hp),Same (upd H0 p (.tup [.int (i : Nat),x])) H'→(fallD c = false∨∃ d b t,0 < i∧ds[i - 1]? = some d∧trOf d = some b∧trOf c = some t∧Tr.lt b t = true)→Q (.bl false) H':=fun H' e' h => by
        have hfalse : fallD (.tuple ds) = false := by
          refine Bool.eq_false_iff.mpr fun z => ?_
          obtain ⟨z1,z2⟩:=fallD_row.mp z
          rcases h with h | ⟨d,b,t,hi,hd,hb,ht,h⟩
          · rw [z1 i c hc] at h; cases h
          · rw [z2 (i - 1) d c b t hd (by rw [show i - 1 + 1 = i by omega]; exact hc) hb ht] at h; cases h
        have:=q H' (e1.trans e')
        rw [hfalse] at this
        exact this
      have ahead : 0 < i→∃ y d b,atI xs ((i : Int) - 1) = some y∧ds[i - 1]? = some d∧trOf d = some b∧b.fall = true∧Dt l H d y∧Sm m d:=fun hi => by
        have hi2 : i - 1 < xs.length := by
          have:=(List.getElem?_eq_some_iff.mp hx).1
          omega
        obtain ⟨d,hd,td⟩:=ht.get (i:=i - 1) (v:=xs[i - 1]) (by simp [hi2])
        obtain ⟨b,hb,hbf⟩:=fallD_true (hf (i - 1) d (by omega) hd)
        refine ⟨xs[i - 1],d,b,?_,hd,hb,hbf,td,hall d (List.mem_of_getElem? hd)⟩
        have:=atI_nat (xs:=xs) (j:=i - 1) (v:=xs[i - 1]) (by simp [hi2])
        rwa [show (((i - 1 : Nat)) : Int) = (i : Int) - 1 by omega] at this
      refine ⟨_,rfl,_,_,rfl,rfl,_,rfl,ite2 (fun hk => ?_) (fun hk => ?_)⟩
      · have hi : 0 < i := by have:=of_decide_eq_true hk; omega
        obtain ⟨y,d,b,hat,hd,hb,hbf,td,hsd⟩:=ahead hi
        refine ⟨_,rfl,_,rfl,_,rfl,_,_,rfl,rfl,_,_,_,_,rfl,rfl,at1,hat,c,d,tc1.br,(td.same e1).br,hcs.ok.shaped (by omega),hsd.ok.shaped (by omega),_,rfl,ite2 (fun hcb => ?_) (fun hcb => ?_)⟩
        · have ecb : trOf c = some b:=eqv_tr hcb hb
          refine next _ (Same.refl _) ?_ fun d' b' t' _ hd' hb' ht' => ?_
          · rw [fallD_of ecb]; exact hbf
          · rw [hd] at hd'; cases hd'
            rw [hb] at hb'; cases hb'
            rw [ecb] at ht'; cases ht'
            exact Tr.lt_irrefl _
        · refine ⟨_,rfl,l,c,_,m,rfl,rfl,by omega,hcs,tc1,fun H2 e2 => ⟨_,rfl,ite2 (fun hcf => ?_) (fun hcf => ?_)⟩⟩
          · exact fin H2 e2 (.inl (by simpa using hcf))
          · have hcf' : fallD c = true := by simpa using hcf
            obtain ⟨t,htc,_⟩:=fallD_true hcf'
            refine ⟨_,rfl,_,_,rfl,rfl,_,rfl,ite2 (fun _ => ?_) (fun hk' => absurd hk hk')⟩
            have hdt:=sm_deep hcs htc
            refine ⟨_,rfl,_,rfl,_,rfl,_,_,rfl,rfl,_,_,_,_,rfl,rfl,e2.tup at1,hat,t,b,dt_tv (tc1.same e2) htc,dt_tv ((td.same e1).same e2) hb,by omega,_,rfl,ite2 (fun hlt => ?_) (fun hlt => ?_)⟩
            · exact fin H2 e2 (.inr ⟨d,b,t,hi,hd,hb,htc,hlt⟩)
            · refine next H2 e2 hcf' fun d' b' t' _ hd' hb' ht' => ?_
              rw [hd] at hd'; cases hd'
              rw [hb] at hb'; cases hb'
              rw [htc] at ht'; cases ht'
              simpa using hlt
      · have hi : ¬ 0 < i:=fun z => hk (decide_eq_true (by omega))
        refine iteF ?_
        refine ⟨_,rfl,l,c,_,m,rfl,rfl,by omega,hcs,tc1,fun H2 e2 => ⟨_,rfl,ite2 (fun hcf => ?_) (fun hcf => ?_)⟩⟩
        · exact fin H2 e2 (.inl (by simpa using hcf))
        · have hcf' : fallD c = true := by simpa using hcf
          refine ⟨_,rfl,_,_,rfl,rfl,_,rfl,ite2 (fun hk' => absurd hk' hk) (fun _ => iteF ?_)⟩
          exact next H2 e2 hcf' fun d' b' t' h _ => absurd h hi
    · rintro σ H' ⟨r1,r2,rfl,e,hf,hl⟩
      have htrue : fallD (.tuple ds) = true:=fallD_row.mpr ⟨fun j c hc => hf j c (by
          have:=(List.getElem?_eq_some_iff.mp hc).1
          omega) hc,fun j d e b c hd he hb hc => hl j d e b c (by
          have:=(List.getElem?_eq_some_iff.mp he).1
          omega) hd he hb hc⟩
      have:=q H' e
      rw [htrue] at this
      exact this
end
section
variable {P : Program} {w : World} {K : PySem.W.Frag} {mg : Str→Option Value} {base : Heap} {f : Addr} {fd : FuncData}
theorem sy_parents_within : FnScope ["tree", "parents", "bough", "number"] ["tree"] (defScope s_parents_within):=⟨rfl,rfl,rfl,by decide +kernel,rfl,by decide +kernel,by decide +kernel⟩
def F_parents_within (m_parents_within : List PyData→Option PyData) : DF :=
  (seqD (sOwn 1 fNil)
  (seqD (sFor (iSeq (nm 0)) (setN 2)
    (seqD (sSet 3 (op2 dAdd (fLenOwn 1) (fC (.int 1))))
    (seqD (sApp 1 (fC (.int 0)))
    (sExt 1 (compD (set1 1) bYes (op2 dAdd (nm 2) (nm 1)) [none,none,some 3] (iSeq (fCall m_parents_within (fCons (nm 2) fNil))))))))
  (sRetO 1)))
def m_parents_within : Nat→List PyData→Option PyData
  | 0 => fun _ => none
  | n + 1 => retD ["tree"] ["tree", "parents", "bough", "number"] (F_parents_within (m_parents_within n))
theorem od_parents_within {k : Nat} (T_parents_within : Fn K mg "parents_within" s_parents_within ["tree"] f fd) (z_len : mg "len" = none) : ∀ n,
    FnOk P w K mg base CX0 (k + n + 1) f fd ["tree"] (spD (m_parents_within n))
  | 0 => never_okD fun _ _ _ _ ⟨_,_,_,h,_⟩ => by cases h
  | n + 1 => by
    have sc:=sy_parents_within
    have G_parents_within:=od_parents_within (k:=k) T_parents_within z_len n
    refine okD (k:=k + n + 1) (F:=F_parents_within (m_parents_within n)) T_parents_within sc fun cdv A outer s H E hr => ?_
    exact (dss_cons (ds_own (i:=1) sc.nd rfl (Or.inl rfl) da_nil)
  (dss_cons (ds_for PassesOwn.never rfl (di_seq (de_var (pv 0))) (dg_name (pg_name (i:=2) sc.nd rfl (Or.inl rfl)))
    (dss_cons (ds_set (i:=3) sc.nd rfl (Or.inr rfl) (de_op do_add (de_lenOwn (pv 1) rfl z_len) de_int))
    (dss_cons (ds_append (pv 1) de_int (fun ho ha => ps_expr (pe_bm PySem.F.plainAttrs_list PySem.F.slot_list_append PySem.F.type_list_append mt_append ho ha)))
    (dss_one (ds_extend (pv 1) (de_comp [".0", "parent", "number"] 1 [none,none,some 3] (di_seq (de_call T_parents_within G_parents_within hr rfl (da_cons (de_var (pv 2)) da_nil))) (fun _ _ _ _ _ => dif_nil) (fun _ _ _ _ _ => (de_op do_add (de_var (pv 2)) (de_var (pv 1))))) (fun ho ha => ps_expr (pe_bm PySem.F.plainAttrs_list PySem.F.slot_list_extend PySem.F.type_list_extend mt_extend ho ha)))))))
  (dss_one (ds_retO (pv 1)))))
theorem sy_refuse_no_tree : FnScope ["thing"] ["thing"] (defScope s_refuse_no_tree):=⟨rfl,rfl,rfl,by decide +kernel,rfl,by decide +kernel,by decide +kernel⟩
def J_refuse_no_tree (m_is_tree : List PyData→Option PyData) (C_NoTree : Addr) : DFX :=
  (xIf (bNot (bVal (fCall m_is_tree (fCons (nm 0) fNil))))
    (xRaise C_NoTree (fC (.str (Str.ofString "a tree is told by the tuple of its boughs in falling order"))))
    (fun δ => some (.inl (.nx δ))))
def m_refuse_no_tree (m_is_tree : List PyData→Option PyData) (C_NoTree : Addr) : List PyData→Option Xr:=retX ["thing"] ["thing"] (J_refuse_no_tree m_is_tree C_NoTree)
theorem ob_refuse_no_tree {k : Nat} {m_is_tree : List PyData→Option PyData} {C_NoTree : Addr}
    {f_is_tree : Addr} {fd_is_tree : FuncData} (T_is_tree : Fn K mg "is_tree" s_is_tree ["thing"] f_is_tree fd_is_tree) (G_is_tree : FnOk P w K mg base CX0 k f_is_tree fd_is_tree ["thing"] (spD m_is_tree)) (X_NoTree : Exc K mg "NoTree" C_NoTree) (cdv : Value) (A : Around) (outer : List Env) (s : Shared) (H : Hp) (E : XK) (hr : Room k (A.deeper (PyProof.Rows.envOfC "refuse_no_tree" (defScope s_refuse_no_tree) s.heap.objs.size f cdv))) :
    DXs (cxOf (CXW P w) P w K mg base ["thing"] "refuse_no_tree" (defScope s_refuse_no_tree) f cdv A outer s H E) E (defBody s_refuse_no_tree) (J_refuse_no_tree m_is_tree C_NoTree) := by
  have sc:=sy_refuse_no_tree
  exact (dxs_one (dx_if (dt_not (dt_val (de_call T_is_tree G_is_tree hr rfl (da_cons (de_var (pv 0)) da_nil))))
    (dxs_one (by exact dx_raise X_NoTree letsX de_str))
    dxs_nil))
theorem ox_refuse_no_tree {k : Nat} {m_is_tree : List PyData→Option PyData} {C_NoTree : Addr} (F : Fn K mg "refuse_no_tree" s_refuse_no_tree ["thing"] f fd)
    {f_is_tree : Addr} {fd_is_tree : FuncData} (T_is_tree : Fn K mg "is_tree" s_is_tree ["thing"] f_is_tree fd_is_tree) (G_is_tree : FnOk P w K mg base CX0 k f_is_tree fd_is_tree ["thing"] (spD m_is_tree)) (X_NoTree : Exc K mg "NoTree" C_NoTree) :
    FnOk P w K mg base (CXW P w) (k + 1) f fd ["thing"] (spX (m_refuse_no_tree m_is_tree C_NoTree)):=okX F sy_refuse_no_tree (ob_refuse_no_tree T_is_tree G_is_tree X_NoTree)
theorem sy_parting_change : FnScope ["tree", "parents", "change", "knot", "powers"] ["tree"] (defScope s_parting_change):=⟨rfl,rfl,rfl,by decide +kernel,rfl,by decide +kernel,by decide +kernel⟩
def F_parting_change (m_parents_within : List PyData→Option PyData) (m_refuse_no_tree : List PyData→Option Xr) : DF :=
  (seqD (sExpr (fCall (good m_refuse_no_tree) (fCons (nm 0) fNil)))
  (seqD (sSet 1 (fCall m_parents_within (fCons (nm 0) fNil)))
  (seqD (sOwn 2 fNil)
  (seqD (sFor (iCall rng1 (fCons (op2 dAdd (fCall dLen (fCons (nm 1) fNil)) (fC (.int 1))) fNil)) (setN 3)
    (seqD (sSet 4 (op2 dAdd (fLst (fCons (fC (.int 0)) fNil)) (compD (set1 1) bYes (fIf (bCmp (dEq false) (nm 1) (nm 2)) (fC (.int 1)) (fC (.int 0))) [none,none,some 3] (iSeq (nm 1)))))
    (sApp 2 (fLst (fCons (fTup (fCons (fCall dTupleOf (fCons (nm 4) fNil)) (fCons (fTup (fCons (fC (.int 1)) (fCons (fC (.int 1)) fNil))) fNil))) fNil)))))
  (sFrz 2 (sRet (fTup (fCons (nm 2) (fCons (op2 dMul (fLst (fCons (fTup (fCons (fC (.int 0)) (fCons (fC (.int 1)) fNil))) fNil)) (fCall dLen (fCons (nm 2) fNil))) fNil)))))))))
def m_parting_change (m_parents_within : List PyData→Option PyData) (m_refuse_no_tree : List PyData→Option Xr) : List PyData→Option PyData:=retD ["tree"] ["tree", "parents", "change", "knot", "powers"] (F_parting_change m_parents_within m_refuse_no_tree)
theorem ob_parting_change {k : Nat} {m_parents_within : List PyData→Option PyData} {m_refuse_no_tree : List PyData→Option Xr}
    {f_parents_within : Addr} {fd_parents_within : FuncData} (T_parents_within : Fn K mg "parents_within" s_parents_within ["tree"] f_parents_within fd_parents_within) (G_parents_within : FnOk P w K mg base CX0 k f_parents_within fd_parents_within ["tree"] (spD m_parents_within))
    {f_refuse_no_tree : Addr} {fd_refuse_no_tree : FuncData} (T_refuse_no_tree : Fn K mg "refuse_no_tree" s_refuse_no_tree ["thing"] f_refuse_no_tree fd_refuse_no_tree) (G_refuse_no_tree : FnOk P w K mg base (CXW P w) k f_refuse_no_tree fd_refuse_no_tree ["thing"] (spX m_refuse_no_tree)) (z_len : mg "len" = none) (z_range : mg "range" = none) (z_tuple : mg "tuple" = none) (cdv : Value) (A : Around) (outer : List Env) (s : Shared) (H : Hp) (E : XK) (hr : Room k (A.deeper (PyProof.Rows.envOfC "parting_change" (defScope s_parting_change) s.heap.objs.size f cdv))) :
    DSs (cxOf CX0 P w K mg base ["tree", "parents", "change", "knot", "powers"] "parting_change" (defScope s_parting_change) f cdv A outer s H E).nox (defBody s_parting_change) (F_parting_change m_parents_within m_refuse_no_tree) := by
  have sc:=sy_parting_change
  exact (dss_cons (ds_expr (de_call T_refuse_no_tree (spX_D G_refuse_no_tree) hr rfl (da_cons (de_var (pv 0)) da_nil)))
  (dss_cons (ds_set (i:=1) sc.nd rfl (Or.inl rfl) (de_call T_parents_within G_parents_within hr rfl (da_cons (de_var (pv 0)) da_nil)))
  (dss_cons (ds_own (i:=2) sc.nd rfl (Or.inl rfl) da_nil)
  (dss_cons (ds_for PassesOwn.never rfl (di_range1 rfl z_range (da_cons (de_op do_add (de_callB dc_len rfl z_len PySem.boot_len (da_cons (de_var (pv 1)) da_nil)) de_int) da_nil)) (dg_name (pg_name (i:=3) sc.nd rfl (Or.inr rfl)))
    (dss_cons (ds_set (i:=4) sc.nd rfl (Or.inl rfl) (de_op do_add (de_lst (da_cons de_int da_nil)) (de_comp [".0", "parent", "knot"] 1 [none,none,some 3] (di_seq (de_var (pv 1))) (fun _ _ _ _ _ => dif_nil) (fun _ _ _ _ _ => (de_if (dt_cmp (do_eq (by have:=hr.units; exact this)) (de_var (pv 1)) (de_var (pv 2)) (nomark _)) de_int de_int)))))
    (dss_one (ds_append (pv 2) (de_lst (da_cons (de_tup (da_cons (de_callTy dc_tuple rfl z_tuple PyProof.Rows.boot_tuple (da_cons (de_var (pv 4)) da_nil)) (da_cons (de_tup (da_cons de_int (da_cons de_int da_nil))) da_nil))) da_nil)) (fun ho ha => ps_expr (pe_bm PySem.F.plainAttrs_list PySem.F.slot_list_append PySem.F.type_list_append mt_append ho ha))))))
  (dss_one (ds_frz 2 (ds_ret (de_tup (da_cons (de_var (pv 2)) (da_cons (de_op do_mul (de_lst (da_cons (de_tup (da_cons de_int (da_cons de_int da_nil))) da_nil)) (de_callB dc_len rfl z_len PySem.boot_len (da_cons (de_var (pv 2)) da_nil))) da_nil))))))))))
theorem od_parting_change {k : Nat} {m_parents_within : List PyData→Option PyData} {m_refuse_no_tree : List PyData→Option Xr} (F : Fn K mg "parting_change" s_parting_change ["tree"] f fd)
    {f_parents_within : Addr} {fd_parents_within : FuncData} (T_parents_within : Fn K mg "parents_within" s_parents_within ["tree"] f_parents_within fd_parents_within) (G_parents_within : FnOk P w K mg base CX0 k f_parents_within fd_parents_within ["tree"] (spD m_parents_within))
    {f_refuse_no_tree : Addr} {fd_refuse_no_tree : FuncData} (T_refuse_no_tree : Fn K mg "refuse_no_tree" s_refuse_no_tree ["thing"] f_refuse_no_tree fd_refuse_no_tree) (G_refuse_no_tree : FnOk P w K mg base (CXW P w) k f_refuse_no_tree fd_refuse_no_tree ["thing"] (spX m_refuse_no_tree)) (z_len : mg "len" = none) (z_range : mg "range" = none) (z_tuple : mg "tuple" = none) :
    FnOk P w K mg base CX0 (k + 1) f fd ["tree"] (spD (m_parting_change m_parents_within m_refuse_no_tree)):=okD F sy_parting_change (ob_parting_change T_parents_within G_parents_within T_refuse_no_tree G_refuse_no_tree z_len z_range z_tuple)
theorem sy__law_is : FnScope ["_law_found"] ["_law_found"] (defScope s__law_is):=⟨rfl,rfl,rfl,by decide +kernel,rfl,by decide +kernel,by decide +kernel⟩
def F__law_is : DF :=
  (seqD (sIf (bOr (bNot (bVal (fIsi isTupD (nm 0)))) (bCmp (dEq true) (fCall dLen (fCons (nm 0) fNil)) (fC (.int 2))))
    (sRet (fC (.bool false)))
    sNext)
  (sRet (op2 (dEq false) (fCall dLen (fCons (compD (set1 1) (bOr (bNot (bVal (fIsi isIntD (nm 1)))) (bVal (fIsi isBoolD (nm 1)))) (nm 1) [none,none] (iSeq (nm 0))) fNil)) (fC (.int 0)))))
def m__law_is : List PyData→Option PyData:=retD ["_law_found"] ["_law_found"] (F__law_is)
theorem ob__law_is {k : Nat} (z_bool : mg "bool" = none) (z_int : mg "int" = none) (z_isinstance : mg "isinstance" = none) (z_len : mg "len" = none) (z_tuple : mg "tuple" = none) (cdv : Value) (A : Around) (outer : List Env) (s : Shared) (H : Hp) (E : XK) (hr : Room k (A.deeper (PyProof.Rows.envOfC "_law_is" (defScope s__law_is) s.heap.objs.size f cdv))) :
    DSs (cxOf CX0 P w K mg base ["_law_found"] "_law_is" (defScope s__law_is) f cdv A outer s H E).nox (defBody s__law_is) (F__law_is) := by
  have sc:=sy__law_is
  exact (dss_cons (ds_if (DW.dt (dw_or (dt_not (dt_val (de_isi (kit_tupD _) rfl z_isinstance rfl z_tuple PyProof.Rows.boot_tuple (de_var (pv 0))))) (dw_one (dt_cmp (do_ne (by have:=hr.units; exact this)) (de_callB dc_len rfl z_len PySem.boot_len (da_cons (de_var (pv 0)) da_nil)) de_int (nomark _)))))
    (dss_one (ds_ret de_bl))
    dss_nil)
  (dss_one (ds_ret (de_cmp (do_eq (by have:=hr.units; exact this)) (de_callB dc_len rfl z_len PySem.boot_len (da_cons (de_comp [".0", "_law_one"] 1 [none,none] (di_seq (de_var (pv 0))) (fun _ _ _ _ _ => (dif_one (DW.dt (dw_or (dt_not (dt_val (de_isi (kit_intD _) rfl z_isinstance rfl z_int PyProof.Rows.boot_int (de_var (pv 1))))) (dw_one (dt_val (de_isi (kit_boolD _) rfl z_isinstance rfl z_bool PyProof.Rows.boot_bool (de_var (pv 1))))))))) (fun _ _ _ _ _ => (de_var (pv 1)))) da_nil)) de_int (nomark _)))))
theorem od__law_is {k : Nat} (F : Fn K mg "_law_is" s__law_is ["_law_found"] f fd) (z_bool : mg "bool" = none) (z_int : mg "int" = none) (z_isinstance : mg "isinstance" = none) (z_len : mg "len" = none) (z_tuple : mg "tuple" = none) :
    FnOk P w K mg base CX0 (k + 1) f fd ["_law_found"] (spD (m__law_is)):=okD F sy__law_is (ob__law_is z_bool z_int z_isinstance z_len z_tuple)
theorem sy__law_whole : FnScope ["_law_told", "_law_some", "_law_powers", "_law_worth"] ["_law_told"] (defScope s__law_whole):=⟨rfl,rfl,rfl,by decide +kernel,rfl,by decide +kernel,by decide +kernel⟩
def F__law_whole (m__law_is : List PyData→Option PyData) : DF :=
  (seqD (sFor (iSeq (op2 dIx (nm 0) (fC (.int 0)))) (setN 1)
    (sFor (iSeq (nm 1)) (set2 2 3)
      (sIf (bOr (bNot (bVal (fCall m__law_is (fCons (nm 3) fNil)))) (bCmp (iCmp fun i j => decide (j < i)) (fCall dLen (fCons (compD (set1 1) (bVal (fIsi isBoolD (nm 1))) (nm 1) [none,none] (iSeq (nm 2))) fNil)) (fC (.int 0))))
        (sRet (fC (.bool false)))
        sNext)))
  (sRet (fC (.bool true))))
def m__law_whole (m__law_is : List PyData→Option PyData) : List PyData→Option PyData:=retD ["_law_told"] ["_law_told", "_law_some", "_law_powers", "_law_worth"] (F__law_whole m__law_is)
theorem ob__law_whole {k : Nat} {m__law_is : List PyData→Option PyData}
    {f__law_is : Addr} {fd__law_is : FuncData} (T__law_is : Fn K mg "_law_is" s__law_is ["_law_found"] f__law_is fd__law_is) (G__law_is : FnOk P w K mg base CX0 k f__law_is fd__law_is ["_law_found"] (spD m__law_is)) (z_bool : mg "bool" = none) (z_isinstance : mg "isinstance" = none) (z_len : mg "len" = none) (cdv : Value) (A : Around) (outer : List Env) (s : Shared) (H : Hp) (E : XK) (hr : Room k (A.deeper (PyProof.Rows.envOfC "_law_whole" (defScope s__law_whole) s.heap.objs.size f cdv))) :
    DSs (cxOf CX0 P w K mg base ["_law_told", "_law_some", "_law_powers", "_law_worth"] "_law_whole" (defScope s__law_whole) f cdv A outer s H E).nox (defBody s__law_whole) (F__law_whole m__law_is) := by
  have sc:=sy__law_whole
  exact (dss_cons (ds_for PassesOwn.never rfl (di_seq (de_ix (de_var (pv 0)) de_int (fun _ _ => rfl))) (dg_name (pg_name (i:=1) sc.nd rfl (Or.inl rfl)))
    (dss_one (ds_for PassesOwn.never rfl (di_seq (de_var (pv 1))) (dg_two (pg_tup rfl (pgs_cons (pg_name (i:=2) sc.nd rfl (Or.inl rfl)) (pgs_cons (pg_name (i:=3) sc.nd rfl (Or.inl rfl)) pgs_nil))))
      (dss_one (ds_if (DW.dt (dw_or (dt_not (dt_val (de_call T__law_is G__law_is hr rfl (da_cons (de_var (pv 3)) da_nil)))) (dw_one (dt_cmp do_gt (de_callB dc_len rfl z_len PySem.boot_len (da_cons (de_comp [".0", "_law_one"] 1 [none,none] (di_seq (de_var (pv 2))) (fun _ _ _ _ _ => (dif_one (dt_val (de_isi (kit_boolD _) rfl z_isinstance rfl z_bool PyProof.Rows.boot_bool (de_var (pv 1)))))) (fun _ _ _ _ _ => (de_var (pv 1)))) da_nil)) de_int (nomark _)))))
        (dss_one (ds_ret de_bl))
        dss_nil)))))
  (dss_one (ds_ret de_bl)))
theorem od__law_whole {k : Nat} {m__law_is : List PyData→Option PyData} (F : Fn K mg "_law_whole" s__law_whole ["_law_told"] f fd)
    {f__law_is : Addr} {fd__law_is : FuncData} (T__law_is : Fn K mg "_law_is" s__law_is ["_law_found"] f__law_is fd__law_is) (G__law_is : FnOk P w K mg base CX0 k f__law_is fd__law_is ["_law_found"] (spD m__law_is)) (z_bool : mg "bool" = none) (z_isinstance : mg "isinstance" = none) (z_len : mg "len" = none) :
    FnOk P w K mg base CX0 (k + 1) f fd ["_law_told"] (spD (m__law_whole m__law_is)):=okD F sy__law_whole (ob__law_whole T__law_is G__law_is z_bool z_isinstance z_len)
theorem sy__law_cell : FnScope ["_law_script", "_law_k", "_law_cell_here", "_law_number"] ["_law_script", "_law_k"] (defScope s__law_cell):=⟨rfl,rfl,rfl,by decide +kernel,rfl,by decide +kernel,by decide +kernel⟩
def F__law_cell : DF :=
  (seqD (sSet 2 (fC (.int 0)))
  (seqD (sIf (bCmp (iCmp fun i j => decide (i < j)) (nm 1) (fCall dLen (fCons (nm 0) fNil)))
    (sSet 2 (op2 dIx (nm 0) (nm 1)))
    sNext)
  (seqD (sIf (bCmp (iCmp fun i j => decide (j≤i)) (nm 2) (op2 iPow (fC (.int 10)) (fC (.int 18))))
    (sRet (op2 iMod (op2 iSub (nm 2) (op2 iPow (fC (.int 10)) (fC (.int 18)))) (op2 iPow (fC (.int 10)) (fC (.int 60)))))
    sNext)
  (seqD (sSet 3 (op2 iMod (op2 dAdd (op2 dAdd (op2 dMul (nm 2) (fC (.int 48271))) (op2 dMul (nm 1) (fC (.int 69621)))) (fC (.int 11))) (fC (.int 2147483629))))
  (seqD (sSet 3 (op2 iMod (op2 dMul (nm 3) (nm 3)) (fC (.int 2147483587))))
  (sRet (op2 dAdd (op2 dMul (nm 3) (fC (.int 2147483563))) (op2 iMod (op2 dMul (nm 3) (nm 3)) (fC (.int 2147483563))))))))))
def m__law_cell : List PyData→Option PyData:=retD ["_law_script", "_law_k"] ["_law_script", "_law_k", "_law_cell_here", "_law_number"] (F__law_cell)
theorem ob__law_cell {k : Nat} (z_len : mg "len" = none) (cdv : Value) (A : Around) (outer : List Env) (s : Shared) (H : Hp) (E : XK) (hr : Room k (A.deeper (PyProof.Rows.envOfC "_law_cell" (defScope s__law_cell) s.heap.objs.size f cdv))) :
    DSs (cxOf CX0 P w K mg base ["_law_script", "_law_k", "_law_cell_here", "_law_number"] "_law_cell" (defScope s__law_cell) f cdv A outer s H E).nox (defBody s__law_cell) (F__law_cell) := by
  have sc:=sy__law_cell
  exact (dss_cons (ds_set (i:=2) sc.nd rfl (Or.inl rfl) de_int)
  (dss_cons (ds_if (dt_cmp do_lt (de_var (pv 1)) (de_callB dc_len rfl z_len PySem.boot_len (da_cons (de_var (pv 0)) da_nil)) (nomark _))
    (dss_one (ds_set (i:=2) sc.nd rfl (Or.inl rfl) (de_ix (de_var (pv 0)) (de_var (pv 1)) (fun _ _ => rfl))))
    dss_nil)
  (dss_cons (ds_if (dt_cmp do_ge (de_var (pv 2)) (de_op do_iPow de_int de_int) (nomark _))
    (dss_one (ds_ret (de_op do_iMod (de_op do_iSub (de_var (pv 2)) (de_op do_iPow de_int de_int)) (de_op do_iPow de_int de_int))))
    dss_nil)
  (dss_cons (ds_set (i:=3) sc.nd rfl (Or.inl rfl) (de_op do_iMod (de_op do_add (de_op do_add (de_op do_mul (de_var (pv 2)) de_int) (de_op do_mul (de_var (pv 1)) de_int)) de_int) de_int))
  (dss_cons (ds_set (i:=3) sc.nd rfl (Or.inl rfl) (de_op do_iMod (de_op do_mul (de_var (pv 3)) (de_var (pv 3))) de_int))
  (dss_one (ds_ret (de_op do_add (de_op do_mul (de_var (pv 3)) de_int) (de_op do_iMod (de_op do_mul (de_var (pv 3)) (de_var (pv 3))) de_int)))))))))
theorem od__law_cell {k : Nat} (F : Fn K mg "_law_cell" s__law_cell ["_law_script", "_law_k"] f fd) (z_len : mg "len" = none) :
    FnOk P w K mg base CX0 (k + 1) f fd ["_law_script", "_law_k"] (spD (m__law_cell)):=okD F sy__law_cell (ob__law_cell z_len)
theorem sy__law_kept : FnScope ["_law_tree"] ["_law_tree"] (defScope s__law_kept):=⟨rfl,rfl,rfl,by decide +kernel,rfl,by decide +kernel,by decide +kernel⟩
def F__law_kept (m__law_kept : List PyData→Option PyData) : DF :=
  (sRet (fCall dTupleOf (fCons (fRev (fCall (dSortT false) (fCons (compD (set1 1) bYes (fCall m__law_kept (fCons (nm 1) fNil)) [none,none] (iSeq (nm 0))) fNil)) (fNeg (fC (.int 1)))) fNil)))
def m__law_kept : Nat→List PyData→Option PyData
  | 0 => fun _ => none
  | n + 1 => retD ["_law_tree"] ["_law_tree"] (F__law_kept (m__law_kept n))
theorem od__law_kept {k : Nat} (T__law_kept : Fn K mg "_law_kept" s__law_kept ["_law_tree"] f fd) (z_sorted : mg "sorted" = none) (z_tuple : mg "tuple" = none) : ∀ n,
    FnOk P w K mg base CX0 (k + n + 1) f fd ["_law_tree"] (spD (m__law_kept n))
  | 0 => never_okD fun _ _ _ _ ⟨_,_,_,h,_⟩ => by cases h
  | n + 1 => by
    have sc:=sy__law_kept
    have G__law_kept:=od__law_kept (k:=k) T__law_kept z_sorted z_tuple n
    refine okD (k:=k + n + 1) (F:=F__law_kept (m__law_kept n)) T__law_kept sc fun cdv A outer s H E hr => ?_
    exact (dss_one (ds_ret (de_callTy dc_tuple rfl z_tuple PyProof.Rows.boot_tuple (da_cons (de_rev (de_callB (dc_sort (by have:=hr.units; exact this)) rfl z_sorted PyProof.Rows.boot_sorted (da_cons (de_comp [".0", "_law_bough"] 1 [none,none] (di_seq (de_var (pv 0))) (fun _ _ _ _ _ => dif_nil) (fun _ _ _ _ _ => (de_call T__law_kept G__law_kept hr rfl (da_cons (de_var (pv 1)) da_nil)))) da_nil)) (de_neg de_int)) da_nil))))
theorem sy__law_longer : FnScope ["_law_tree", "_law_found", "_law_k"] ["_law_tree"] (defScope s__law_longer):=⟨rfl,rfl,rfl,by decide +kernel,rfl,by decide +kernel,by decide +kernel⟩
def F__law_longer (m__law_kept : List PyData→Option PyData) (m__law_longer : List PyData→Option PyData) : DF :=
  (seqD (sSet 1 (fLst (fCons (fCall m__law_kept (fCons (op2 dAdd (nm 0) (fTup (fCons (fTup fNil) fNil))) fNil)) fNil)))
  (seqD (sFor (iCall rng1 (fCons (fCall dLen (fCons (nm 0) fNil)) fNil)) (setN 2)
    (sSet 1 (op2 dAdd (nm 1) (compD (set1 1) bYes (fCall m__law_kept (fCons (op2 dAdd (op2 dAdd (fCut (nm 2) oNone (oSome (nm 3))) (fTup (fCons (nm 1) fNil))) (fCut (nm 2) (oSome (op2 dAdd (nm 3) (fC (.int 1)))) oNone)) fNil)) [none,none,some 0,some 2] (iSeq (fCall m__law_longer (fCons (op2 dIx (nm 0) (nm 2)) fNil)))))))
  (sRet (nm 1))))
def m__law_longer (m__law_kept : List PyData→Option PyData) : Nat→List PyData→Option PyData
  | 0 => fun _ => none
  | n + 1 => retD ["_law_tree"] ["_law_tree", "_law_found", "_law_k"] (F__law_longer m__law_kept (m__law_longer m__law_kept n))
theorem od__law_longer {k : Nat} {m__law_kept : List PyData→Option PyData} (T__law_longer : Fn K mg "_law_longer" s__law_longer ["_law_tree"] f fd)
    {f__law_kept : Addr} {fd__law_kept : FuncData} (T__law_kept : Fn K mg "_law_kept" s__law_kept ["_law_tree"] f__law_kept fd__law_kept) (G__law_kept : FnOk P w K mg base CX0 k f__law_kept fd__law_kept ["_law_tree"] (spD m__law_kept)) (z_len : mg "len" = none) (z_range : mg "range" = none) : ∀ n,
    FnOk P w K mg base CX0 (k + n + 1) f fd ["_law_tree"] (spD (m__law_longer m__law_kept n))
  | 0 => never_okD fun _ _ _ _ ⟨_,_,_,h,_⟩ => by cases h
  | n + 1 => by
    have sc:=sy__law_longer
    have G__law_longer:=od__law_longer (k:=k) (m__law_kept:=m__law_kept) T__law_longer T__law_kept G__law_kept z_len z_range n
    have G__law_kept:=G__law_kept.mono (show k≤k + n + 1 by omega)
    refine okD (k:=k + n + 1) (F:=F__law_longer m__law_kept (m__law_longer m__law_kept n)) T__law_longer sc fun cdv A outer s H E hr => ?_
    exact (dss_cons (ds_set (i:=1) sc.nd rfl (Or.inl rfl) (de_lst (da_cons (de_call T__law_kept G__law_kept hr rfl (da_cons (de_op do_add (de_var (pv 0)) (de_tup (da_cons (de_tup da_nil) da_nil))) da_nil)) da_nil)))
  (dss_cons (ds_for PassesOwn.never rfl (di_range1 rfl z_range (da_cons (de_callB dc_len rfl z_len PySem.boot_len (da_cons (de_var (pv 0)) da_nil)) da_nil)) (dg_name (pg_name (i:=2) sc.nd rfl (Or.inr rfl)))
    (dss_one (ds_set (i:=1) sc.nd rfl (Or.inl rfl) (de_op do_add (de_var (pv 1)) (de_comp [".0", "_law_more", "_law_tree", "_law_k"] 1 [none,none,some 0,some 2] (di_seq (de_call T__law_longer G__law_longer hr rfl (da_cons (de_ix (de_var (pv 0)) (de_var (pv 2)) (fun _ _ => rfl)) da_nil))) (fun _ _ _ _ _ => dif_nil) (fun _ _ _ _ _ => (de_call T__law_kept G__law_kept hr rfl (da_cons (de_op do_add (de_op do_add (de_slice (de_var (pv 2)) do_none (do_some (de_var (pv 3)))) (de_tup (da_cons (de_var (pv 1)) da_nil))) (de_slice (de_var (pv 2)) (do_some (de_op do_add (de_var (pv 3)) de_int)) do_none)) da_nil))))))))
  (dss_one (ds_ret (de_var (pv 1))))))
theorem sy__law_trees : FnScope ["_law_most", "_law_found", "_law_row", "_law_many", "_law_wider", "_law_tree"] ["_law_most"] (defScope s__law_trees):=⟨rfl,rfl,rfl,by decide +kernel,rfl,by decide +kernel,by decide +kernel⟩
def F__law_trees (m__law_longer : List PyData→Option PyData) : DF :=
  (seqD (sSet 1 (fLst fNil))
  (seqD (sSet 2 (fLst (fCons (fTup fNil) fNil)))
  (seqD (sFor (iCall rng1 (fCons (nm 0) fNil)) (setN 3)
    (seqD (sSet 1 (op2 dAdd (nm 1) (nm 2)))
    (seqD (sSet 4 (fLst fNil))
    (seqD (sFor (iSeq (nm 2)) (setN 5)
      (sSet 4 (op2 dAdd (nm 4) (fCall m__law_longer (fCons (nm 5) fNil)))))
    (sSortSet 2 (nm 4))))))
  (sRet (nm 1)))))
def m__law_trees (m__law_longer : List PyData→Option PyData) : List PyData→Option PyData:=retD ["_law_most"] ["_law_most", "_law_found", "_law_row", "_law_many", "_law_wider", "_law_tree"] (F__law_trees m__law_longer)
theorem ob__law_trees {k : Nat} {m__law_longer : List PyData→Option PyData}
    {f__law_longer : Addr} {fd__law_longer : FuncData} (T__law_longer : Fn K mg "_law_longer" s__law_longer ["_law_tree"] f__law_longer fd__law_longer) (G__law_longer : FnOk P w K mg base CX0 k f__law_longer fd__law_longer ["_law_tree"] (spD m__law_longer)) (z_range : mg "range" = none) (z_set : mg "set" = none) (z_sorted : mg "sorted" = none) (cdv : Value) (A : Around) (outer : List Env) (s : Shared) (H : Hp) (E : XK) (hr : Room k (A.deeper (PyProof.Rows.envOfC "_law_trees" (defScope s__law_trees) s.heap.objs.size f cdv))) :
    DSs (cxOf CX0 P w K mg base ["_law_most", "_law_found", "_law_row", "_law_many", "_law_wider", "_law_tree"] "_law_trees" (defScope s__law_trees) f cdv A outer s H E).nox (defBody s__law_trees) (F__law_trees m__law_longer) := by
  have sc:=sy__law_trees
  exact (dss_cons (ds_set (i:=1) sc.nd rfl (Or.inl rfl) (de_lst da_nil))
  (dss_cons (ds_set (i:=2) sc.nd rfl (Or.inl rfl) (de_lst (da_cons (de_tup da_nil) da_nil)))
  (dss_cons (ds_for PassesOwn.never rfl (di_range1 rfl z_range (da_cons (de_var (pv 0)) da_nil)) (dg_name (pg_name (i:=3) sc.nd rfl (Or.inl rfl)))
    (dss_cons (ds_set (i:=1) sc.nd rfl (Or.inl rfl) (de_op do_add (de_var (pv 1)) (de_var (pv 2))))
    (dss_cons (ds_set (i:=4) sc.nd rfl (Or.inl rfl) (de_lst da_nil))
    (dss_cons (ds_for PassesOwn.never rfl (di_seq (de_var (pv 2))) (dg_name (pg_name (i:=5) sc.nd rfl (Or.inl rfl)))
      (dss_one (ds_set (i:=4) sc.nd rfl (Or.inl rfl) (de_op do_add (de_var (pv 4)) (de_call T__law_longer G__law_longer hr rfl (da_cons (de_var (pv 5)) da_nil))))))
    (dss_one (ds_sortSet (i:=2) rfl (by have:=hr.units; exact this) rfl z_sorted rfl z_set (de_var (pv 4)) sc.nd rfl (Or.inl rfl)))))))
  (dss_one (ds_ret (de_var (pv 1)))))))
theorem od__law_trees {k : Nat} {m__law_longer : List PyData→Option PyData} (F : Fn K mg "_law_trees" s__law_trees ["_law_most"] f fd)
    {f__law_longer : Addr} {fd__law_longer : FuncData} (T__law_longer : Fn K mg "_law_longer" s__law_longer ["_law_tree"] f__law_longer fd__law_longer) (G__law_longer : FnOk P w K mg base CX0 k f__law_longer fd__law_longer ["_law_tree"] (spD m__law_longer)) (z_range : mg "range" = none) (z_set : mg "set" = none) (z_sorted : mg "sorted" = none) :
    FnOk P w K mg base CX0 (k + 1) f fd ["_law_most"] (spD (m__law_trees m__law_longer)):=okD F sy__law_trees (ob__law_trees T__law_longer G__law_longer z_range z_set z_sorted)
end
def But (d : Addr) (H H' : Hp) : Prop:=∀ a o,a≠d→H a = some o→H' a = some o
theorem But.trans {d : Addr} {H H1 H2 : Hp} (e : But d H H1) (e' : But d H1 H2) : But d H H2:=fun a o n h => e' a o n (e a o n h)
theorem But.none {d : Addr} {H H' : Hp} (e : But d H H') {o : HO} (hd : H' d = some o) {p : Addr} (h : H' p = none) : H p = none := by
  cases z : H p with
  | none => rfl
  | some u =>
    by_cases n : p = d
    · subst n; rw [hd] at h; cases h
    · rw [e _ _ n z] at h; cases h
def kn (bs : List Tr) : Nat:=(bs.map Tr.knots).sum
def aheads : Nat→List Tr→List Nat
  | _,[] => []
  | a,b :: bs => a :: aheads (a + b.knots) bs
def rst : Tr→Nat→List (List Nat)
  | .nil,_ => []
  | .cons b r,a => (aheads (a + 1) b.bs :: rst b (a + 1)) ++ rst r (a + b.knots)
abbrev rowsOf (t : Tr) (p : Nat) : List (List Nat):=aheads (p + 1) t.bs :: rst t (p + 1)
theorem kn_snoc (bs : List Tr) (b : Tr) : kn (bs ++ [b]) = kn bs + b.knots := by unfold kn; simp
theorem aheads_snoc : ∀ (bs : List Tr) (b : Tr) (a : Nat),aheads a (bs ++ [b]) = aheads a bs ++ [a + kn bs]
  | [],b,a => by simp [aheads,kn]
  | c :: bs,b,a => by
    rw [List.cons_append,aheads,aheads,aheads_snoc bs b,List.cons_append]
    congr 3
    unfold kn
    rw [List.map_cons,List.sum_cons]
    omega
theorem rst_snoc : ∀ (bs : List Tr) (b : Tr) (a : Nat),rst (Tr.of (bs ++ [b])) a = rst (Tr.of bs) a ++ rowsOf b (a + kn bs)
  | [],b,a => by simp [Tr.of,rst,kn]
  | c :: bs,b,a => by
    have e : a + kn (c :: bs) = a + c.knots + kn bs := by
      unfold kn
      rw [List.map_cons,List.sum_cons]
      omega
    rw [List.cons_append,Tr.of,Tr.of,rst,rst,rst_snoc bs b,List.append_assoc,e]
theorem knots_of : ∀ bs : List Tr,(Tr.of bs).knots = 1 + kn bs
  | [] => rfl
  | c :: bs => by
    rw [Tr.of,Tr.knots,knots_of bs]
    unfold kn
    rw [List.map_cons,List.sum_cons]
    omega
theorem knots_bs (t : Tr) : t.knots = 1 + kn t.bs := by rw [← knots_of,Tr.of_bs]
theorem rst_len : ∀ (t : Tr) (a : Nat),(rst t a).length + 1 = t.knots
  | .nil,a => rfl
  | .cons b r,a => by
    have h1:=rst_len b (a + 1)
    have h2:=rst_len r (a + b.knots)
    rw [rst,Tr.knots,List.length_append,List.length_cons]
    omega
def nV (row : List Nat) : List V:=row.map fun n => V.int (n : Nat)
def spNum (n : Nat) : Sp:=fun vs H Q _ => ∃ v t p d kvs,vs = [v,.int ((p : Nat) : Int),.ref d]∧Tv H t v∧t.deep < n∧H d = some (.dK kvs)∧(∀ j : Nat,p≤j→valV kvs (.inl ((j : Nat) : Int)) = none)∧kvs.length + t.knots≤100∧t.knots≤100 ∧
  ∀ H' kvs',But d H H'→H' d = some (.dK kvs')→kvs'.length = kvs.length + t.knots→(∀ j : Nat,j < p→valV kvs' (.inl ((j : Nat) : Int)) = valV kvs (.inl ((j : Nat) : Int)))→(∀ j : Nat,p + t.knots≤j→valV kvs' (.inl ((j : Nat) : Int)) = none) →
    (∀ j row,(rowsOf t p)[j]? = some row→∃ l,valV kvs' (.inl ((p + j : Nat) : Int)) = some (.ref l)∧H' l = some (.lst (nV row))∧H l = none)→Q (.int ((p + t.knots : Nat) : Int)) H'
section
variable {P : Program} {w : World} {K : PySem.W.Frag} {mg : Str→Option Value} {base : Heap} {f : Addr} {fd : FuncData}
theorem sc__law_numbered : FnScope ["_law_tree", "_law_place", "_law_rows", "_law_ahead", "_law_bough"] ["_law_tree", "_law_place", "_law_rows"] (defScope s__law_numbered):=⟨rfl,rfl,rfl,by decide +kernel,rfl,by decide +kernel,by decide +kernel⟩
theorem dget {H : Hp} {d : Addr} {kvs : List (Key×V)} {p : Nat} {v : V} (h : H d = some (.dK kvs)) (e : valV kvs (.inl ((p : Nat) : Int)) = some v) : DGet H d (.int ((p : Nat) : Int)) (some v) := by
  have:=DGet.k (k:=.inl ((p : Nat) : Int)) h
  rw [e] at this
  exact this
theorem knots_mem : ∀ {t b : Tr},b∈t.bs→b.knots≤t.knots
  | .nil,b,h => by cases h
  | .cons c r,b,h => by
    rw [Tr.bs] at h
    rw [Tr.knots]
    rcases List.mem_cons.mp h with rfl | h
    · exact Nat.le_add_right _ _
    · exact Nat.le_trans (knots_mem h) (Nat.le_add_left _ _)
theorem kn_take {t : Tr} {i : Nat} {b : Tr} (h : t.bs[i]? = some b) : kn (t.bs.take (i + 1)) = kn (t.bs.take i) + b.knots := by rw [List.take_add_one,h]; exact kn_snoc _ _
theorem kn_le : ∀ (bs : List Tr) (i : Nat),kn (bs.take i)≤kn bs
  | [],i => by rw [List.take_nil]; exact Nat.le_refl _
  | c :: bs,0 => Nat.zero_le _
  | c :: bs,i + 1 => by
    have:=kn_le bs i
    unfold kn at this ⊢
    rw [List.take_succ_cons,List.map_cons,List.sum_cons,List.map_cons,List.sum_cons]
    omega
theorem ok__law_numbered (T__law_numbered : Fn K mg "_law_numbered" s__law_numbered ["_law_tree", "_law_place", "_law_rows"] f fd) : ∀ n,FnOk P w K mg base CX0 (n + 1) f fd ["_law_tree", "_law_place", "_law_rows"] (spNum n)
  | 0 => never_ok fun _ _ _ _ ⟨_,_,_,_,_,_,_,h,_⟩ => absurd h (Nat.not_lt_zero _)
  | n + 1 => by
    have sc:=sc__law_numbered
    have G__law_numbered:=ok__law_numbered T__law_numbered n
    refine T__law_numbered.F.ok (k:=n + 1) sc (fun vs H Q E h => ?_) (fun cdv A outer s H vs Q E hr h => ?_)
    · obtain ⟨v,t,p,d,kvs,rfl,_⟩:=h
      rfl
    obtain ⟨v,t,p,d,kvs,rfl,tv,hdp,hd,hno,hlen,hkn,q⟩:=h
    refine ⟨_,(pss_cons (ps_dput (by have:=hr.units; exact Nat.lt_of_le_of_lt (Nat.add_le_add_left (show 1≤64 by decide) _) this) (pv 2) (pv 1) (pe_lst pa_nil) rfl)
  (pss_cons (ps_set (i:=3) sc.nd rfl (Or.inl rfl) (pe_op op_add (pv 1) pe_int))
  (pss_cons (ps_for PassesOwn.never rfl (pi_tup (pv 0)) (pg_name (i:=4) sc.nd rfl (Or.inl rfl))
    (pss_cons (ps_expr (pe_bm PySem.F.plainAttrs_list PySem.F.slot_list_append PySem.F.type_list_append mt_append (pe_dget (by have:=hr.units; exact Nat.lt_of_le_of_lt (Nat.add_le_add_left (show 1≤64 by decide) _) this) (pv 2) (pv 1) (fun _ _ => rfl)) (pa_cons (pv 3) pa_nil)))
    (pss_one (ps_set (i:=3) sc.nd rfl (Or.inl rfl) (pe_fn T__law_numbered G__law_numbered hr rfl (pa_cons (pv 4) (pa_cons (pv 3) (pa_cons (pv 2) pa_nil))))))))
  (pss_one (ps_ret (pv 3)))))),?_⟩
    obtain ⟨a,ys,rfl,ha,hts⟩:=tv
    have hyl:=hts.len
    refine ⟨by show 0≤sizeLine; decide,fun L0 hL0 => ⟨_,rfl,_,rfl,d,_,rfl,DPut.k (k:=.inl ((p : Nat) : Int)) (show (upd H L0 (.lst [])) d = some (.dK kvs) from same_new hL0 _ _ _ hd) (by rw [sizeLine_eq]; omega),?_⟩⟩
    have hdL : L0≠d:=fun z => by rw [z,hd] at hL0; cases hL0
    have b1 : But d H (upd (upd H L0 (.lst [])) d (.dK (putK kvs (.inl ((p : Nat) : Int)) (.ref L0)))):=fun a o n h => by rw [upd_ne n]; exact same_new hL0 _ _ _ h
    have l1 : upd (upd H L0 (.lst [])) d (.dK (putK kvs (.inl ((p : Nat) : Int)) (.ref L0))) L0 = some (.lst (nV (aheads (p + 1) (t.bs.take 0)))) := by rw [upd_ne hdL,upd_same,List.take_zero]; rfl
    have d1 : upd (upd H L0 (.lst [])) d (.dK (putK kvs (.inl ((p : Nat) : Int)) (.ref L0))) d = some (.dK (putK kvs (.inl ((p : Nat) : Int)) (.ref L0))):=upd_same
    have k1 : (putK kvs (.inl ((p : Nat) : Int)) (.ref L0)).length = kvs.length + 1 + kn (t.bs.take 0) := by rw [putK_new _ (hno p (Nat.le_refl _))]; simp [kn]
    have v1 : ∀ j : Nat,valV (putK kvs (.inl ((p : Nat) : Int)) (.ref L0)) (.inl ((j : Nat) : Int)) = if j = p then some (.ref L0) else valV kvs (.inl ((j : Nat) : Int)):=fun j => by
      rw [valV_put]
      by_cases z : j = p
      · subst z; rw [if_pos rfl,if_pos rfl]
      · rw [if_neg z,if_neg]
        intro y
        injection y with y
        omega
    generalize putK kvs (.inl ((p : Nat) : Int)) (.ref L0) = kv1 at b1 l1 d1 k1 v1
    generalize upd (upd H L0 (.lst [])) d (.dK kv1) = H1 at b1 l1 d1
    refine ⟨_,rfl,_,_,rfl,rfl,?_⟩
    refine ⟨_,rfl,a,rfl,⟨_,SqT.of (b1 _ _ (fun z => by rw [z,hd] at ha; cases ha) ha)⟩,for_tup (xs:=ys) (fun i σ H' => ∃ (r4 : Option V) (kv : List (Key×V)),σ = [some (.ref a),some (.int ((p : Nat) : Int)),some (.ref d),some (.int ((p + 1 + kn (t.bs.take i) : Nat) : Int)),r4]∧But d H H'∧H' d = some (.dK kv)∧kv.length = kvs.length + 1 + kn (t.bs.take i)∧(∀ j : Nat,j < p→valV kv (.inl ((j : Nat) : Int)) = valV kvs (.inl ((j : Nat) : Int)))∧valV kv (.inl ((p : Nat) : Int)) = some (.ref L0)∧H' L0 = some (.lst (nV (aheads (p + 1) (t.bs.take i))))∧(∀ j : Nat,p + 1 + kn (t.bs.take i)≤j→valV kv (.inl ((j : Nat) : Int)) = none)∧∀ j row,(rst (Tr.of (t.bs.take i)) (p + 1))[j]? = some row→∃ l,valV kv (.inl ((p + 1 + j : Nat) : Int)) = some (.ref l)∧H' l = some (.lst (nV row))∧H l = none∧l≠L0) ?_ ?_ ?_ ?_⟩
    · refine ⟨none,kv1,?_,b1,d1,k1,fun j hj => ?_,?_,l1,fun j hj => ?_,fun j row h => ?_⟩
      · show [_,_,_,some (V.int ((p : Int) + 1)),_] = _
        rw [show ((p : Int) + 1) = ((p + 1 + kn (t.bs.take 0) : Nat) : Int) by simp [kn]]
      · rw [v1,if_neg (by omega)]
      · rw [v1,if_pos rfl]
      · rw [v1,if_neg (by omega)]; exact hno j (by omega)
      · rw [List.take_zero] at h
        simp [Tr.of,rst] at h
    · rintro i σ H' _ ⟨r4,kv,rfl,e,_⟩
      exact SqT.of (e _ _ (fun z => by rw [z,hd] at ha; cases ha) ha)
    · rintro i x σ H2 hx ⟨r4,kv,rfl,e2,d2,k2,lo2,p2,l2,hi2,en2⟩
      obtain ⟨b,hb,tb⟩:=hts.get hx
      have hbm : b∈t.bs:=List.mem_of_getElem? hb
      have hbd:=Tr.deep_mem hbm
      have hbk:=knots_mem hbm
      have kt:=kn_take hb
      have kle:=kn_le t.bs (i + 1)
      have ktt:=knots_bs t
      have hd2 : L0≠d:=hdL
      refine ⟨_,rfl,_,rfl,d,.ref L0,rfl,dget d2 p2,.inl ⟨rfl,_,SqL.of l2⟩,_,rfl,L0,_,_,rfl,rfl,l2,?_,?_⟩
      · have : (nV (aheads (p + 1) (t.bs.take i))).length = (t.bs.take i).length := by
          unfold nV
          rw [List.length_map]
          generalize t.bs.take i = bs
          generalize p + 1 = q
          induction bs generalizing q with
          | nil => rfl
          | cons c bs ih => rw [aheads,List.length_cons,List.length_cons,ih]
        rw [this,sizeLine_eq]
        have h3 : (t.bs.take i).length≤kn (t.bs.take i) := by
          generalize t.bs.take i = bs
          induction bs with
          | nil => exact Nat.zero_le _
          | cons c bs ih =>
            have:=Tr.knots_pos c
            unfold kn at ih ⊢
            rw [List.length_cons,List.map_cons,List.sum_cons]
            omega
        omega
      have l3 : upd H2 L0 (.lst (nV (aheads (p + 1) (t.bs.take i)) ++ [V.int ((p + 1 + kn (t.bs.take i) : Nat) : Int)])) L0 = some (.lst (nV (aheads (p + 1) (t.bs.take (i + 1))))) := by
        rw [upd_same,List.take_add_one,hb]
        show some (HO.lst _) = some (HO.lst (nV (aheads (p + 1) (t.bs.take i ++ [b]))))
        rw [aheads_snoc]
        unfold nV
        rw [List.map_append]
        rfl
      have ot : ∀ c,c≠L0→upd H2 L0 (.lst (nV (aheads (p + 1) (t.bs.take i)) ++ [V.int ((p + 1 + kn (t.bs.take i) : Nat) : Int)])) c = H2 c:=fun c n => upd_ne n
      generalize upd H2 L0 (.lst (nV (aheads (p + 1) (t.bs.take i)) ++ [V.int ((p + 1 + kn (t.bs.take i) : Nat) : Int)])) = H3 at l3 ot
      have e3 : But d H H3:=fun c o n h => by
        rw [ot c (fun z => by rw [z,hL0] at h; cases h)]
        exact e2 _ _ n h
      have d3 : H3 d = some (.dK kv) := by rw [ot d (Ne.symm hd2)]; exact d2
      refine ⟨_,rfl,_,rfl,_,rfl,x,b,p + 1 + kn (t.bs.take i),d,kv,rfl,tb.tups fun c xs h => e3 _ _ (fun z => by rw [z,hd] at h; cases h) h,by omega,d3,hi2,by omega,by omega,fun H4 kv4 e4 d4 k4 lo4 hi4 en4 => ?_⟩
      have hne : H3 L0≠none := by rw [l3]; simp
      refine ⟨some x,kv4,?_,e3.trans e4,d4,by omega,fun j hj => ?_,?_,e4 _ _ hd2 l3,fun j hj => hi4 j (by omega),fun j row h => ?_⟩
      · show [_,_,_,some (V.int ((p + 1 + kn (t.bs.take i) + b.knots : Nat) : Int)),_] = _
        rw [show p + 1 + kn (t.bs.take i) + b.knots = p + 1 + kn (t.bs.take (i + 1)) by omega]
      · rw [lo4 j (by omega)]; exact lo2 j hj
      · rw [lo4 p (by omega)]; exact p2
      · rw [List.take_add_one,hb] at h
        have h : (rst (Tr.of (t.bs.take i ++ [b])) (p + 1))[j]? = some row:=h
        rw [rst_snoc] at h
        have rl:=rst_len (Tr.of (t.bs.take i)) (p + 1)
        rw [knots_of] at rl
        by_cases z : j < (rst (Tr.of (t.bs.take i)) (p + 1)).length
        · rw [List.getElem?_append_left z] at h
          obtain ⟨l,g1,g2,g3,g4⟩:=en2 j row h
          have g5 : l≠d:=fun y => by rw [y,hd] at g3; cases g3
          exact ⟨l,by rw [lo4 (p + 1 + j) (by omega)]; exact g1,e4 _ _ g5 (by rw [ot l g4]; exact g2),g3,g4⟩
        · rw [List.getElem?_append_right (by omega)] at h
          obtain ⟨l,g1,g2,g3⟩:=en4 _ row h
          refine ⟨l,?_,g2,e3.none d3 g3,fun y => hne (by rw [← y]; exact g3)⟩
          rw [← g1]
          congr 3
          omega
    · rintro σ H2 ⟨r4,kv,rfl,e2,d2,k2,lo2,p2,l2,hi2,en2⟩
      rw [hyl,List.take_length] at k2 l2 hi2 en2
      have ktt:=knots_bs t
      refine ⟨_,rfl,?_⟩
      show Q (V.int ((p + 1 + kn (t.bs.take ys.length) : Nat) : Int)) H2
      rw [hyl,List.take_length,show p + 1 + kn t.bs = p + t.knots by omega]
      refine q H2 kv e2 d2 (by omega) lo2 (fun j hj => hi2 j (by omega)) fun j row h => ?_
      cases j with
      | zero =>
        cases h
        exact ⟨L0,p2,l2,hL0⟩
      | succ j =>
        rw [List.getElem?_cons_succ] at h
        rw [Tr.of_bs] at en2
        obtain ⟨l,g1,g2,g3,_⟩:=en2 j row h
        refine ⟨l,?_,g2,g3⟩
        rw [← g1]
        congr 3
        omega
end
section
variable {X : Cx} {scope : Scope} {cl : List (Str×Addr)} {N : List Str} {C : Addr} {s₀ : Shared} {H₀ : Hp} {fp : List Addr}
theorem op_in_seqC : OpR (cxComp X scope cl N C s₀ H₀ fp) (compareOp .In) (rIn X.K false):=op_in_seq
end
def nG (H H' : Hp) : Hp:=fun b => match H' b with
  | some (.tup xs) => some (.tup xs)
  | some o => if H b = none then some o else none
  | none => none
theorem nG_t {H H' : Hp} {a : Addr} {xs : List V} (h : H' a = some (.tup xs)) : nG H H' a = some (.tup xs) := by unfold nG; rw [h]
theorem nG_l {H H' : Hp} {a : Addr} {xs : List V} (h : H' a = some (.lst xs)) (h0 : H a = none) : nG H H' a = some (.lst xs) := by
  unfold nG
  rw [h]
  exact if_pos h0
theorem nG_un {H H' : Hp} {b : Addr} {o : HO} (h : nG H H' b = some o) : H' b = some o∧((∃ xs,o = .tup xs)∨H b = none) := by
  unfold nG at h
  split at h
  · rename_i xs e
    cases h
    exact ⟨e,.inl ⟨_,rfl⟩⟩
  · rename_i o' _ e
    split at h
    · rename_i z
      cases h
      exact ⟨e,.inr z⟩
    · cases h
  · cases h
theorem nG_mk {H H' : Hp} {b : Addr} {o : HO} (h : H' b = some o) (k : (∃ xs,o = .tup xs)∨H b = none) : nG H H' b = some o := by
  rcases k with ⟨xs,rfl⟩ | k
  · exact nG_t h
  · unfold nG
    rw [h]
    cases o with
    | tup xs => rfl
    | _ => exact if_pos k
theorem nG_to {H3 H4 H' H'' : Hp} {D : Addr} {xs ys : List V} (h1 : H3 D = some (.lst xs)) (h2 : H' D = some (.lst ys)) (h3 : ∀ b o,b≠D→H' b = some o→H'' b = some o) (h4 : ∀ b,H3 b = none→H4 b = none) : Same (nG H3 H') (nG H4 H''):=fun b o h => by
  obtain ⟨g1,g2⟩:=nG_un h
  have hb : b≠D:=fun z => by
    subst z
    rcases g2 with ⟨us,rfl⟩ | g2
    · rw [h2] at g1; cases g1
    · rw [h1] at g2; cases g2
  exact nG_mk (h3 b o hb g1) (g2.imp id (h4 b))
def pw (n : Nat) (row : List Nat) : List Int:=(List.range n).map fun q => if decide (q∈row) then 1 else 0
abbrev oneD : PyData:=.tuple [.int 1,.int 1]
def entD (n : Nat) (row : List Nat) : PyData:=.list [.tuple [.tuple ((pw n row).map .int),oneD]]
def dueD (t : Tr) : PyData:=.tuple [.list ((rowsOf t 0).map (entD t.knots)),.list (List.replicate t.knots (.tuple [.int 0,.int 1]))]
theorem in_nV (q : Nat) : ∀ row : List Nat,inV (.int ((q : Nat) : Int)) (nV row) = decide (q∈row)
  | [] => by simp [inV,nV]
  | r :: row => by
    have:=in_nV q row
    unfold inV nV at this ⊢
    rw [List.map_cons,List.any_cons,this]
    have e : eqV (.int ((r : Nat) : Int)) (.int ((q : Nat) : Int)) = decide (q = r) := by
      show (((r : Nat) : Int) == ((q : Nat) : Int)) = _
      by_cases z : q = r
      · subst z; simp
      · rw [decide_eq_false z]; exact beq_eq_false_iff_ne.mpr fun y => z (by omega)
    rw [e]
    by_cases z : q = r
    · subst z; simp
    · simp [z]
theorem flat_nV (row : List Nat) : (nV row).all flatV = true := by unfold nV; simp [flatV]
theorem du_ints {G : Hp} : ∀ ns : List Int,DuA G (ns.map .int) (ns.map V.int)
  | [] => by rw [List.map_nil,DuA]; rfl
  | n :: ns => by rw [List.map_cons,DuA]; exact ⟨_,_,rfl,by rw [Du],du_ints ns⟩
theorem du_rep {G : Hp} {d : PyData} {v : V} (h : Du G d v) : ∀ n,DuA G (List.replicate n d) (List.replicate n v)
  | 0 => by rw [List.replicate_zero,DuA]; rfl
  | n + 1 => by rw [List.replicate_succ,DuA]; exact ⟨_,_,rfl,h,du_rep h n⟩
def spDue : Sp:=fun vs H Q _ => ∃ v t,vs = [v]∧Tv H t v∧t.deep < 8∧t.knots≤50∧∀ H' v',Same H H'→Du (nG H H') (dueD t) v'→Q v' H'
section
variable {P : Program} {w : World} {K : PySem.W.Frag} {mg : Str→Option Value} {base : Heap} {f g1 : Addr} {fd gd1 : FuncData}
theorem sc__law_due : FnScope ["_law_tree", "_law_rows", "_law_many", "_law_change", "_law_place"] ["_law_tree"] (defScope s__law_due):=⟨rfl,rfl,rfl,by decide +kernel,rfl,by decide +kernel,by decide +kernel⟩
theorem ok__law_due (F : Fn K mg "_law_due" s__law_due ["_law_tree"] f fd) (T__law_numbered : Fn K mg "_law_numbered" s__law_numbered ["_law_tree", "_law_place", "_law_rows"] g1 gd1) (G__law_numbered : FnOk P w K mg base CX0 9 g1 gd1 ["_law_tree", "_law_place", "_law_rows"] (spNum 8)) (z_range : mg "range" = none) (z_tuple : mg "tuple" = none) (z_int : mg "int" = none) : FnOk P w K mg base CX0 10 f fd ["_law_tree"] spDue := by
  have sc:=sc__law_due
  refine F.F.ok (k:=9) sc (fun vs H Q E h => ?_) (fun cdv A outer s H vs Q E hr h => ?_)
  · obtain ⟨v,t,rfl,_⟩:=h
    rfl
  obtain ⟨v,t,rfl,tv,hdp,hkn,q⟩:=h
  refine ⟨_,(pss_cons (ps_set (i:=1) sc.nd rfl (Or.inr rfl) pe_dnewK)
  (pss_cons (ps_set (i:=2) sc.nd rfl (Or.inl rfl) (pe_fn T__law_numbered G__law_numbered hr rfl (pa_cons (pv 0) (pa_cons pe_int (pa_cons (pv 1) pa_nil)))))
  (pss_cons (ps_set (i:=3) sc.nd rfl (Or.inl rfl) (pe_lst pa_nil))
  (pss_cons (ps_for PassesOwn.never rfl (pi_range1 rfl z_range (pa_cons (pv 2) pa_nil)) (pg_name (i:=4) sc.nd rfl (Or.inr rfl))
    (pss_one (ps_expr (pe_bm PySem.F.plainAttrs_list PySem.F.slot_list_append PySem.F.type_list_append mt_append (pv 3) (pa_cons (pe_lst (pa_cons (pe_tup (pa_cons (pe_callTy call_tuple_of rfl z_tuple PyProof.Rows.boot_tuple (pa_cons (pe_compr [".0", "_law_other", "_law_rows", "_law_place"] 1 [none,none,some 1,some 4] (pi_range1 rfl z_range (pa_cons (pv 2) pa_nil)) (fun _ _ _ _ _ => pif_nil) (fun _ _ _ _ _ => (pe_callTy call_int1 rfl z_int PyProof.Rows.boot_int (pa_cons (pe_cmpR op_in_seqC (pv 1) (pe_dget (by have:=hr.units; exact Nat.lt_of_le_of_lt (Nat.add_le_add_left (show 1≤64 by decide) _) this) (pv 2) (pv 3) (fun _ _ => rfl)) rfl) pa_nil)))) pa_nil)) (pa_cons (pe_tup (pa_cons pe_int (pa_cons pe_int pa_nil))) pa_nil))) pa_nil)) pa_nil)))))
  (pss_one (ps_ret (pe_tup (pa_cons (pv 3) (pa_cons (pe_op op_rep (pe_lst (pa_cons (pe_tup (pa_cons pe_int (pa_cons pe_int pa_nil))) pa_nil)) (pv 2)) pa_nil))))))))),?_⟩
  refine fun d hd => ⟨_,rfl,_,rfl,v,t,0,d,[],rfl,tv.same (same_new hd _),hdp,upd_same,fun j _ => rfl,by simp; omega,by omega,fun H2 kv e2 d2 k2 _ hi2 en2 => ?_⟩
  have eH : Same H H2:=fun b o h => e2 _ _ (fun z => by rw [z,hd] at h; cases h) (same_new hd _ _ _ h)
  rw [show 0 + t.knots = t.knots from Nat.zero_add _]
  generalize hn : t.knots = n at *
  have hrl : (rowsOf t 0).length = n := by have:=rst_len t (0 + 1); rw [List.length_cons]; omega
  refine ⟨by show 0≤sizeLine; decide,fun D hD => ?_⟩
  have e3:=same_new hD (.lst [])
  have h3 : upd H2 D (.lst []) D = some (.lst []):=upd_same
  have hH3 : ∀ b,upd H2 D (.lst []) b = none→H b = none:=fun b h => by
    cases z : H b with
    | none => rfl
    | some o => rw [e3 _ _ (eH _ _ z)] at h; cases h
  have hHD : H D = none := by
    cases z : H D with
    | none => rfl
    | some o => rw [eH _ _ z] at hD; cases hD
  have hne3 : ∀ b,b≠D→upd H2 D (.lst []) b = H2 b:=fun b n => upd_ne n
  generalize upd H2 D (.lst []) = H3 at e3 h3 hH3 hne3
  refine ⟨_,rfl,((n : Nat) : Int),rfl,by omega,by omega,for_range (n:=((n : Nat) : Int).toNat) (fun i σ H' => ∃ (r4 : Option V) (cs : List V),σ = [some v,some (.ref d),some (.int ((n : Nat) : Int)),some (.ref D),r4]∧Same H2 H'∧H' D = some (.lst cs)∧DuA (nG H3 H') (((rowsOf t 0).take i).map (entD n)) cs) ?_ ?_ ?_⟩
  · exact ⟨none,[],rfl,e3,h3,by rw [List.take_zero,List.map_nil,DuA]⟩
  · rintro i σ H4 hi ⟨r4,cs,rfl,e4,hD4,du4⟩
    have hin : i < n := by omega
    have hrow:=List.getElem?_eq_getElem (l:=rowsOf t 0) (i:=i) (by omega)
    generalize (rowsOf t 0)[i] = row at hrow
    obtain ⟨l,v1,l1,_⟩:=en2 i row hrow
    rw [Nat.zero_add] at v1
    have hcs : cs.length = i := by rw [du4.len,List.length_map,List.length_take]; omega
    refine ⟨.ref D,rfl,.inl ⟨rfl,_,SqL.of hD4⟩,_,rfl,((n : Nat) : Int),rfl,by omega,by omega,fun C hC => comp_by (n:=((n : Nat) : Int).toNat) (fun j us H' => Same H4 H'∧us = ((pw n row).take j).map V.int) ?_ ?_ ?_⟩
    · exact ⟨same_new hC _,by rw [List.take_zero]; rfl⟩
    · rintro j us H5 hj ⟨e5,rfl⟩ hC5
      have hjn : j < n := by omega
      refine ⟨hj,Nat.lt_of_le_of_lt (show (((pw n row).take j).map V.int).length≤1000 by rw [List.length_map,List.length_take]; omega) (by rw [sizeLine_eq]; decide),fun x H' y => ?_⟩
      obtain ⟨rfl,rfl⟩:=y
      unfold tNoIf
      refine iteT ⟨_,rfl,_,rfl,_,rfl,d,.ref l,rfl,?_,l,nV row,rfl,.inl (SqL.of (e5 _ _ (e4 _ _ l1))),rfl,flat_nV row,.inr ⟨_,rfl,hC5,cw_next hj ⟨fun c o z => ?_,?_⟩⟩⟩
      · show DGet _ d (.int (0 + ((i : Nat) : Int))) _
        rw [Int.zero_add]
        exact dget (e5 _ _ (e4 _ _ d2)) v1
      · rw [upd_ne (ne_of_none z hC)]
        exact e5 _ _ z
      · show _ ++ [V.int (if inV (.int (0 + ((j : Nat) : Int))) (nV row) = true then 1 else 0)] = _
        rw [Int.zero_add,in_nV]
        have : (pw n row)[j]? = some (if decide (j∈row) then 1 else 0) := by
          unfold pw
          rw [List.getElem?_map,List.getElem?_range hjn]
          rfl
        rw [List.take_add_one,this,List.map_append]
        rfl
    · rintro us H5 ⟨e5,rfl⟩ hC5
      have hpl : (pw n row).length = n := by unfold pw; rw [List.length_map,List.length_range]
      rw [List.take_of_length_le (by omega)] at hC5
      refine ⟨Nat.le_refl _,C,_,rfl,.inl ⟨SqL.of hC5,fun T hT => ⟨by show 2≤sizeLine; decide,fun O hO => ⟨by show 2≤sizeLine; decide,fun U hU => ⟨by show 1≤sizeLine; decide,fun M hM => ?_⟩⟩⟩⟩⟩
      have s1:=same_new hT (.tup ((pw n row).map V.int))
      have t1 : upd H5 T (.tup ((pw n row).map V.int)) T = some (.tup ((pw n row).map V.int)):=upd_same
      generalize upd H5 T (.tup ((pw n row).map V.int)) = H6 at *
      have s2:=same_new hO (.tup [V.int 1,V.int 1])
      have t2 : upd H6 O (.tup [V.int 1,V.int 1]) O = some (.tup [V.int 1,V.int 1]):=upd_same
      generalize upd H6 O (.tup [V.int 1,V.int 1]) = H7 at *
      have s3:=same_new hU (.tup [V.ref T,V.ref O])
      have t3 : upd H7 U (.tup [V.ref T,V.ref O]) U = some (.tup [V.ref T,V.ref O]):=upd_same
      generalize upd H7 U (.tup [V.ref T,V.ref O]) = H8 at *
      have s4:=same_new hM (.lst [V.ref U])
      have t4 : upd H8 M (.lst [V.ref U]) M = some (.lst [V.ref U]):=upd_same
      have eM : Same H4 H8:=e5.trans (s1.trans (s2.trans s3))
      have hM3 : H3 M = none := by
        cases z : H3 M with
        | none => rfl
        | some o =>
          by_cases y : M = D
          · rw [y,eM _ _ hD4] at hM; cases hM
          · rw [hne3 M y] at z
            rw [eM _ _ (e4 _ _ z)] at hM
            cases hM
      generalize upd H8 M (.lst [V.ref U]) = H9 at *
      have e9 : Same H4 H9:=eM.trans s4
      have hD9:=e9 _ _ hD4
      refine ⟨D,cs,_,rfl,rfl,hD9,by rw [hcs,sizeLine_eq]; omega,?_⟩
      have t9 : Same (nG H3 H9) (nG H3 (upd H9 D (.lst (cs ++ [V.ref M])))):=nG_to h3 hD9 (fun b o n h => by rw [upd_ne n]; exact h) fun b h => h
      refine ⟨some (.int (0 + ((i : Nat) : Int))),cs ++ [V.ref M],rfl,fun b o h => ?_,upd_same,?_⟩
      · rw [upd_ne (fun z => by rw [z,hD] at h; cases h)]
        exact e9 _ _ (e4 _ _ h)
      · have hsame : Same (nG H3 H4) (nG H3 H9):=nG_to h3 hD4 (fun b o _ h => e9 _ _ h) fun b h => h
        rw [List.take_add_one,hrow,List.map_append]
        refine DuA.same t9 ((du4.same hsame).app ?_)
        show DuA _ [entD n row] [V.ref M]
        rw [DuA]
        refine ⟨_,_,rfl,?_,by rw [DuA]⟩
        unfold entD
        rw [Du]
        refine ⟨M,[V.ref U],rfl,nG_l t4 hM3,?_⟩
        rw [DuA]
        refine ⟨_,_,rfl,?_,by rw [DuA]⟩
        rw [Du]
        refine ⟨U,[V.ref T,V.ref O],rfl,nG_t (s4 _ _ t3),?_⟩
        rw [DuA]
        refine ⟨_,_,rfl,?_,?_⟩
        · rw [Du]
          exact ⟨T,_,rfl,nG_t (s4 _ _ (s3 _ _ (s2 _ _ t1))),du_ints _⟩
        · rw [DuA]
          refine ⟨_,_,rfl,?_,by rw [DuA]⟩
          rw [Du]
          exact ⟨O,_,rfl,nG_t (s4 _ _ (s3 _ _ t2)),du_ints [1,1]⟩
  · rintro σ H4 ⟨r4,cs,rfl,e4,hD4,du4⟩
    rw [show ((n : Nat) : Int).toNat = n from rfl,List.take_of_length_le (by omega)] at du4
    refine ⟨_,rfl,by show 2≤sizeLine; decide,fun p hp => ⟨by show 1≤sizeLine; decide,fun p2 hp2 => ⟨_,rfl,p2,((n : Nat) : Int),[V.ref p],rfl,rfl,upd_same,by omega,by omega,?_,fun r hr => ⟨by show 2≤sizeLine; decide,fun z hz => ?_⟩⟩⟩⟩
    · show 1 * ((n : Nat) : Int).toNat≤_
      rw [sizeLine_eq,Nat.one_mul]
      show n≤_
      omega
    have s1:=same_new hp (.tup [V.int 0,V.int 1])
    have t1 : upd H4 p (.tup [V.int 0,V.int 1]) p = some (.tup [V.int 0,V.int 1]):=upd_same
    generalize upd H4 p (.tup [V.int 0,V.int 1]) = H5 at *
    have s2:=same_new hp2 (.lst [V.ref p])
    generalize upd H5 p2 (.lst [V.ref p]) = H6 at *
    have s3:=same_new hr (.lst (List.replicate ((n : Nat) : Int).toNat [V.ref p]).flatten)
    have t3 : upd H6 r (.lst (List.replicate ((n : Nat) : Int).toNat [V.ref p]).flatten) r = some (.lst (List.replicate n (V.ref p))) := by
      rw [upd_same,List.flatten_replicate_singleton]
      rfl
    generalize upd H6 r (.lst (List.replicate ((n : Nat) : Int).toNat [V.ref p]).flatten) = H7 at *
    have s4:=same_new hz (.tup [V.ref D,V.ref r])
    have t4 : upd H7 z (.tup [V.ref D,V.ref r]) z = some (.tup [V.ref D,V.ref r]):=upd_same
    generalize upd H7 z (.tup [V.ref D,V.ref r]) = H8 at *
    have e48 : Same H4 H8:=s1.trans (s2.trans (s3.trans s4))
    have hHr : H r = none := by
      cases y : H r with
      | none => rfl
      | some o => rw [s2 _ _ (s1 _ _ (e4 _ _ (eH _ _ y)))] at hr; cases hr
    refine q H8 _ (eH.trans (e4.trans e48)) ?_
    unfold dueD
    rw [hn,Du]
    refine ⟨z,_,rfl,nG_t t4,?_⟩
    rw [DuA]
    refine ⟨_,_,rfl,?_,?_⟩
    · rw [Du]
      exact ⟨D,cs,rfl,nG_l (e48 _ _ hD4) hHD,du4.same (nG_to h3 hD4 (fun b o _ h => e48 _ _ h) hH3)⟩
    · rw [DuA]
      refine ⟨_,_,rfl,?_,by rw [DuA]⟩
      rw [Du]
      refine ⟨r,_,rfl,nG_l (s4 _ _ t3) hHr,du_rep ?_ n⟩
      rw [Du]
      exact ⟨p,_,rfl,nG_t (s4 _ _ (s3 _ _ (s2 _ _ t1))),du_ints [0,1]⟩
end
abbrev tD (t : Tr) : PyData:=.tuple (L2.rowD t)
def mDue (ds : List PyData) : Option PyData:=match ds with
  | [.tuple us] => (trsOf us).bind fun t => if t.deep < 8∧t.knots≤50 then some (dueD t) else none
  | _ => none
theorem trs_row : ∀ t : Tr,trsOf (L2.rowD t) = some t
  | .nil => by rw [L2.rowD,trsOf]
  | .cons b r => by rw [L2.rowD,trsOf,trOf,trs_row b,trs_row r]; rfl
theorem mDue_is {t : Tr} (h : t.deep < 8) (k : t.knots≤50) : mDue [tD t] = some (dueD t) := by
  unfold mDue
  show (trsOf (L2.rowD t)).bind _ = _
  rw [trs_row]
  exact if_pos ⟨h,k⟩
theorem toDue {P : Program} {w : World} {K : PySem.W.Frag} {mg : Str→Option Value} {base : Heap} {f : Addr} {fd : FuncData} {k : Nat} {ps : List Str} (F : FnOk P w K mg base CX0 k f fd ps spDue) : FnOk P w K mg base CX0 k f fd ps (spD mDue) :=
  spD_imp F fun ds x hm G H vs Q E d e kk => by
    unfold mDue at hm
    split at hm
    · rename_i us
      obtain ⟨t,ht,hm⟩:=Option.bind_eq_some_iff.mp hm
      split at hm
      · rename_i hc
        cases hm
        have hu:=row_of ht
        subst hu
        obtain ⟨v,rfl,d1⟩:=d.un1
        rw [Du] at d1
        obtain ⟨a,ys,rfl,h1,h2⟩:=d1
        refine ⟨.ref a,t,rfl,⟨a,ys,rfl,e _ _ h1,(du_row h2).same e⟩,hc.1,hc.2,fun H' v' e' dv => ?_⟩
        let G' : Hp:=fun b => match nG H H' b with
          | some o => some o
          | none => G b
        have hG' : ∀ b o,G' b = some o→nG H H' b = some o∨G b = some o:=fun b o h => by
          show nG H H' b = some o∨_
          have h : (match nG H H' b with | some o => some o | none => G b) = some o:=h
          cases z : nG H H' b with
          | none => rw [z] at h; exact .inr h
          | some u => rw [z] at h; exact .inl h
        refine kk v' G' H' (fun b o h => ?_) (fun b o h => ?_) (fun b o h => ?_) e' (dv.same fun b o h => ?_)
        · show (match nG H H' b with | some o => some o | none => G b) = some o
          cases z : nG H H' b with
          | none => exact h
          | some u =>
            have h1:=(nG_un z).1
            rw [e' _ _ (e _ _ h)] at h1
            cases h1
            rfl
        · rcases hG' b o h with h | h
          · rcases (nG_un h).2 with ⟨xs,rfl⟩ | h
            · exact .inr (.inr ⟨_,rfl⟩)
            · exact .inr (.inl h)
          · exact .inl h
        · rcases hG' b o h with h | h
          · exact (nG_un h).1
          · exact e' _ _ (e _ _ h)
        · show (match nG H H' b with | some o => some o | none => G b) = some o
          rw [h]
      · cases hm
    · cases hm
section
variable {P : Program} {w : World} {K : PySem.W.Frag} {mg : Str→Option Value} {base : Heap} {f : Addr} {fd : FuncData}
theorem sy_law : FnScope ["_law_script", "_law_trees_here", "_law_cell_here", "_law_k", "_law_due_here", "_law_found"] ["_law_script"] (defScope s_law):=⟨rfl,rfl,rfl,by decide +kernel,rfl,by decide +kernel,by decide +kernel⟩
def F_law (m__law_cell : List PyData→Option PyData) (m__law_due : List PyData→Option PyData) (m__law_trees : List PyData→Option PyData) (m__law_whole : List PyData→Option PyData) (m_parting_change : List PyData→Option PyData) : DF :=
  (seqD (sSet 1 (fCall m__law_trees (fCons (fC (.int 7)) fNil)))
  (seqD (sSet 2 (fCall m__law_cell (fCons (nm 0) (fCons (fC (.int 0)) fNil))))
  (seqD (sFor (iSeq (fLst (fCons (op2 iMod (nm 2) (fCall dLen (fCons (nm 1) fNil))) (fCons (op2 iMod (op2 dAdd (nm 2) (fC (.int 1))) (fCall dLen (fCons (nm 1) fNil))) (fCons (op2 iMod (op2 iDiv (nm 2) (fC (.int 85))) (fC (.int 4))) fNil))))) (setN 3)
    (seqD (sSet 4 (fCall m__law_due (fCons (op2 dIx (nm 1) (nm 3)) fNil)))
    (seqD (fMid 5 m_parting_change (fCons (op2 dIx (nm 1) (nm 3)) fNil) (bOr (bNot (bVal (fIsi isTupD (nm 5)))) (bOr (bCmp (dEq true) (nm 5) (nm 4)) (bNot (bVal (fCall m__law_whole (fCons (nm 5) fNil)))))))
    (sIf (bCmp (dEq true) (fCall m_parting_change (fCons (op2 dIx (nm 1) (nm 3)) fNil)) (nm 4))
      (sRet (fC (.bool false)))
      sNext))))
  (sRet (fC (.bool true))))))
def m_law (m__law_cell : List PyData→Option PyData) (m__law_due : List PyData→Option PyData) (m__law_trees : List PyData→Option PyData) (m__law_whole : List PyData→Option PyData) (m_parting_change : List PyData→Option PyData) : List PyData→Option PyData:=retD ["_law_script"] ["_law_script", "_law_trees_here", "_law_cell_here", "_law_k", "_law_due_here", "_law_found"] (F_law m__law_cell m__law_due m__law_trees m__law_whole m_parting_change)
theorem ob_law {k : Nat} {m__law_cell : List PyData→Option PyData} {m__law_due : List PyData→Option PyData} {m__law_trees : List PyData→Option PyData} {m__law_whole : List PyData→Option PyData} {m_parting_change : List PyData→Option PyData}
    {f__law_cell : Addr} {fd__law_cell : FuncData} (T__law_cell : Fn K mg "_law_cell" s__law_cell ["_law_script", "_law_k"] f__law_cell fd__law_cell) (G__law_cell : FnOk P w K mg base CX0 k f__law_cell fd__law_cell ["_law_script", "_law_k"] (spD m__law_cell))
    {f__law_due : Addr} {fd__law_due : FuncData} (T__law_due : Fn K mg "_law_due" s__law_due ["_law_tree"] f__law_due fd__law_due) (G__law_due : FnOk P w K mg base CX0 k f__law_due fd__law_due ["_law_tree"] (spD m__law_due))
    {f__law_trees : Addr} {fd__law_trees : FuncData} (T__law_trees : Fn K mg "_law_trees" s__law_trees ["_law_most"] f__law_trees fd__law_trees) (G__law_trees : FnOk P w K mg base CX0 k f__law_trees fd__law_trees ["_law_most"] (spD m__law_trees))
    {f__law_whole : Addr} {fd__law_whole : FuncData} (T__law_whole : Fn K mg "_law_whole" s__law_whole ["_law_told"] f__law_whole fd__law_whole) (G__law_whole : FnOk P w K mg base CX0 k f__law_whole fd__law_whole ["_law_told"] (spD m__law_whole))
    {f_parting_change : Addr} {fd_parting_change : FuncData} (T_parting_change : Fn K mg "parting_change" s_parting_change ["tree"] f_parting_change fd_parting_change) (G_parting_change : FnOk P w K mg base CX0 k f_parting_change fd_parting_change ["tree"] (spD m_parting_change)) (z_isinstance : mg "isinstance" = none) (z_len : mg "len" = none) (z_tuple : mg "tuple" = none) (cdv : Value) (A : Around) (outer : List Env) (s : Shared) (H : Hp) (E : XK) (hr : Room k (A.deeper (PyProof.Rows.envOfC "law" (defScope s_law) s.heap.objs.size f cdv))) :
    DSs (cxOf CX0 P w K mg base ["_law_script", "_law_trees_here", "_law_cell_here", "_law_k", "_law_due_here", "_law_found"] "law" (defScope s_law) f cdv A outer s H E).nox (defBody s_law) (F_law m__law_cell m__law_due m__law_trees m__law_whole m_parting_change) := by
  have sc:=sy_law
  exact (dss_cons (ds_set (i:=1) sc.nd rfl (Or.inl rfl) (de_call T__law_trees G__law_trees hr rfl (da_cons de_int da_nil)))
  (dss_cons (ds_set (i:=2) sc.nd rfl (Or.inl rfl) (de_call T__law_cell G__law_cell hr rfl (da_cons (de_var (pv 0)) (da_cons de_int da_nil))))
  (dss_cons (ds_for PassesOwn.never rfl (di_seq (de_lst (da_cons (de_op do_iMod (de_var (pv 2)) (de_callB dc_len rfl z_len PySem.boot_len (da_cons (de_var (pv 1)) da_nil))) (da_cons (de_op do_iMod (de_op do_add (de_var (pv 2)) de_int) (de_callB dc_len rfl z_len PySem.boot_len (da_cons (de_var (pv 1)) da_nil))) (da_cons (de_op do_iMod (de_op do_iDiv (de_var (pv 2)) de_int) de_int) da_nil))))) (dg_name (pg_name (i:=3) sc.nd rfl (Or.inl rfl)))
    (dss_cons (ds_set (i:=4) sc.nd rfl (Or.inl rfl) (de_call T__law_due G__law_due hr rfl (da_cons (de_ix (de_var (pv 1)) (de_var (pv 3)) (fun _ _ => rfl)) da_nil)))
    (dss_mid (i:=5) T_parting_change G_parting_change hr rfl (da_cons (de_ix (de_var (pv 1)) (de_var (pv 3)) (fun _ _ => rfl)) da_nil) sc.nd rfl (Or.inl rfl) (DW.dt (dw_or (dt_not (dt_val (de_isi (kit_tupD _) rfl z_isinstance rfl z_tuple PyProof.Rows.boot_tuple (de_var (pv 5))))) (dw_or (dt_cmp (do_ne (by have:=hr.units; exact this)) (de_var (pv 5)) (de_var (pv 4)) (nomark _)) (dw_one (dt_not (dt_val (de_call T__law_whole G__law_whole hr rfl (da_cons (de_var (pv 5)) da_nil))))))))
      (dss_one (ds_ret de_bl)) (by
        refine ⟨_,(ps_expr (pe_bm PySem.F.plainAttrs_list PySem.F.slot_list_append PySem.F.type_list_append mt_append (pe_ix ix_list (pe_ix ix_tup (pv 5) pe_int (fun _ _ => rfl)) pe_int (fun _ _ => rfl)) (pa_cons (pe_tup (pa_cons (pe_tup (pa_cons pe_int pa_nil)) (pa_cons (pe_tup (pa_cons pe_int (pa_cons pe_int pa_nil))) pa_nil))) pa_nil))),fun σ H D a l1 l2 v2 xs1 xs2 hσ ha h1 h2 hl kk => ?_⟩
        refine ⟨_,hσ,a,_,0,_,rfl,rfl,SqT.of ha,rfl,l1,_,0,.ref l2,rfl,rfl,SqL.of h1,atI_nat (j:=0) rfl,.inl ⟨rfl,_,SqL.of h2⟩,by show 1≤sizeLine; decide,fun p hp => ⟨by show 2≤sizeLine; decide,fun q hq => ⟨by show 2≤sizeLine; decide,fun r hr => ⟨l2,xs2,_,rfl,rfl,same_new hr _ _ _ (same_new hq _ _ _ (same_new hp _ _ _ h2)),hl,kk _ (fun b o n h => ?_) ⟨_,upd_same⟩⟩⟩⟩⟩
        rw [upd_ne n]
        exact same_new hr _ _ _ (same_new hq _ _ _ (same_new hp _ _ _ h)))
      (by
        refine ⟨_,(ps_expr (pe_bm0 PySem.F.plainAttrs_list PySem.F.slot_list_clear PySem.F.type_list_clear mt_clear (pe_ix ix_tup (pv 5) pe_int (fun _ _ => rfl)))),fun σ H D a lc v1 xs hσ ha h1 kk => ?_⟩
        refine ⟨_,hσ,a,_,1,_,rfl,rfl,SqT.of ha,rfl,.inl ⟨rfl,_,SqL.of h1⟩,lc,xs,rfl,rfl,h1,kk _ fun b o n h => ?_⟩
        rw [upd_ne n]
        exact h)
    (dss_one (ds_if (dt_cmp (do_ne (by have:=hr.units; exact this)) (de_call T_parting_change G_parting_change hr rfl (da_cons (de_ix (de_var (pv 1)) (de_var (pv 3)) (fun _ _ => rfl)) da_nil)) (de_var (pv 4)) (nomark _))
      (dss_one (ds_ret de_bl))
      dss_nil)))))
  (dss_one (ds_ret de_bl)))))
theorem od_law {k : Nat} {m__law_cell : List PyData→Option PyData} {m__law_due : List PyData→Option PyData} {m__law_trees : List PyData→Option PyData} {m__law_whole : List PyData→Option PyData} {m_parting_change : List PyData→Option PyData} (F : Fn K mg "law" s_law ["_law_script"] f fd)
    {f__law_cell : Addr} {fd__law_cell : FuncData} (T__law_cell : Fn K mg "_law_cell" s__law_cell ["_law_script", "_law_k"] f__law_cell fd__law_cell) (G__law_cell : FnOk P w K mg base CX0 k f__law_cell fd__law_cell ["_law_script", "_law_k"] (spD m__law_cell))
    {f__law_due : Addr} {fd__law_due : FuncData} (T__law_due : Fn K mg "_law_due" s__law_due ["_law_tree"] f__law_due fd__law_due) (G__law_due : FnOk P w K mg base CX0 k f__law_due fd__law_due ["_law_tree"] (spD m__law_due))
    {f__law_trees : Addr} {fd__law_trees : FuncData} (T__law_trees : Fn K mg "_law_trees" s__law_trees ["_law_most"] f__law_trees fd__law_trees) (G__law_trees : FnOk P w K mg base CX0 k f__law_trees fd__law_trees ["_law_most"] (spD m__law_trees))
    {f__law_whole : Addr} {fd__law_whole : FuncData} (T__law_whole : Fn K mg "_law_whole" s__law_whole ["_law_told"] f__law_whole fd__law_whole) (G__law_whole : FnOk P w K mg base CX0 k f__law_whole fd__law_whole ["_law_told"] (spD m__law_whole))
    {f_parting_change : Addr} {fd_parting_change : FuncData} (T_parting_change : Fn K mg "parting_change" s_parting_change ["tree"] f_parting_change fd_parting_change) (G_parting_change : FnOk P w K mg base CX0 k f_parting_change fd_parting_change ["tree"] (spD m_parting_change)) (z_isinstance : mg "isinstance" = none) (z_len : mg "len" = none) (z_tuple : mg "tuple" = none) :
    FnOk P w K mg base CX0 (k + 1) f fd ["_law_script"] (spD (m_law m__law_cell m__law_due m__law_trees m__law_whole m_parting_change)):=okD F sy_law (ob_law T__law_cell G__law_cell T__law_due G__law_due T__law_trees G__law_trees T__law_whole G__law_whole T_parting_change G_parting_change z_isinstance z_len z_tuple)
end
abbrev mKept : List PyData→Option PyData:=m__law_kept 9
abbrev mLonger : List PyData→Option PyData:=m__law_longer mKept 9
abbrev mTrees : List PyData→Option PyData:=m__law_trees mLonger
def tzTo : Nat→List Tr
  | 0 => []
  | n + 1 => tzTo n ++ TH.tz n
abbrev treesD (n : Nat) : PyData:=.list (L2.rowD (Tr.of (tzTo n)))
def grownL (n : Nat) : List Tr:=(TH.tz n).flatMap fun t => match mLonger [.tuple (L2.rowD t)] with
  | some (.list ds) => ((trsOf ds).getD .nil).bs
  | _ => []
theorem grown_no : sortOr (Tr.of (grownL 6)) = some .no := by kernel_rfl
abbrev wideB : DF:=sSet 4 (op2 dAdd (nm 4) (fCall mLonger (fCons (nm 5) fNil)))
abbrev turnB : DF:=(seqD (sSet 1 (op2 dAdd (nm 1) (nm 2)))
    (seqD (sSet 4 (fLst fNil))
    (seqD (sFor (iSeq (nm 2)) (setN 5) wideB)
    (sSortSet 2 (nm 4)))))
def goD (set : PyData→Dv→Option Dv) (F : DF) : List PyData→Dv→Option Dv
  | [],δ => some δ
  | x :: xs,δ => match (set x δ).bind F with
    | some (.nx δ') => goD set F xs δ'
    | _ => none
theorem goD_for {set : PyData→Dv→Option Dv} {F : DF} {ys : List PyData} {δ1 : Dv} : ∀ {xs : List PyData} {δ : Dv},goD set F xs δ = some δ1→forD set F (xs ++ ys) δ = forD set F ys δ1
  | [],δ,h => by cases h; rfl
  | x :: xs,δ,h => by
    rw [goD] at h
    rw [List.cons_append,forD]
    split at h
    · rename_i δ' e
      rw [e]
      exact goD_for h
    · cases h
def proj (n : Nat) (o : Option Dv) : Option (List L):=o.bind fun δ => if δ.length = 6 then some (δ.take n) else none
theorem proj_un {n : Nat} {o : Option Dv} {ls : List L} (h : proj n o = some ls) : ∃ δ,o = some δ∧δ.length = 6∧δ.take n = ls := by
  obtain ⟨δ,h1,h2⟩:=Option.bind_eq_some_iff.mp h
  split at h2
  · rename_i z
    cases h2
    exact ⟨δ,h1,z,rfl⟩
  · cases h2
theorem grown_is (a b c d e : L) : proj 5 (goD (setN 5) wideB (L2.rowD (Tr.of (TH.tz 6))) [a,b,c,d,.d (.list []),e]) = some [a,b,c,d,.d (.list (L2.rowD (Tr.of (grownL 6))))] := by kernel_rfl
theorem six_is : proj 3 (goD (setN 3) turnB (rngD 0 6) [.d (.int 7),.d (.list []),.d (.list [.tuple []]),.no,.no,.no]) = some [.d (.int 7),.d (treesD 6),.d (.list (L2.rowD (Tr.of (TH.tz 6))))] := by kernel_rfl
theorem trs_row' : ∀ t : Tr,trsOf (L2.rowD t) = some t
  | .nil => by rw [L2.rowD,trsOf]
  | .cons b r => by rw [L2.rowD,trsOf,trOf,trs_row' b,trs_row' r]; rfl
theorem six_un {δ : Dv} {a b c : L} (h : δ.length = 6) (k : δ.take 3 = [a,b,c]) : ∃ d e f,δ = [a,b,c,d,e,f] := by
  match δ,h with
  | [x,y,z,d,e,f],_ => cases k; exact ⟨d,e,f,rfl⟩
theorem five_un {δ : Dv} {a b c d e : L} (h : δ.length = 6) (k : δ.take 5 = [a,b,c,d,e]) : ∃ f,δ = [a,b,c,d,e,f] := by
  match δ,h with
  | [x,y,z,u,v,f],_ => cases k; exact ⟨f,rfl⟩
theorem sFor_eq {fs : Dv→Option (List PyData)} {set : PyData→Dv→Option Dv} {F : DF} {δ : Dv} {xs : List PyData} (h : fs δ = some xs) : sFor fs set F δ = forD set F xs δ := by
  show (fs δ).bind _ = _
  rw [h]
  rfl
theorem rng67 : iCall rng1 (fCons (nm 0) fNil) [.d (.int 7),.d (.list []),.d (.list [.tuple []]),.no,.no,.no] = some (rngD 0 6 ++ [.int 6]) := by kernel_rfl
theorem forD_one {set : PyData→Dv→Option Dv} {F : DF} {x : PyData} {δ δ1 δ2 : Dv} (h : set x δ = some δ1) (k : F δ1 = some (.nx δ2)) : forD set F [x] δ = some (.nx δ2) := by
  rw [forD,h,Option.bind_some,k]
  rfl
theorem trees_by {T6 T7 : PyData} {r : List PyData} {W : Tr} {l3 l4 l5 : L} (h6 : goD (setN 3) turnB (rngD 0 6) [.d (.int 7),.d (.list []),.d (.list [.tuple []]),.no,.no,.no] = some [.d (.int 7),.d T6,.d (.list r),l3,l4,l5]) (hadd : dAdd T6 (.list r) = some T7)
    (hg : ∀ a b c d e : L,∃ m5,goD (setN 5) wideB r [a,b,c,d,.d (.list []),e] = some [a,b,c,d,.d (.list (L2.rowD W)),m5]) (hn : sortOr W = some .no) : mTrees [.int 7] = some T7 := by
  obtain ⟨m5,g1⟩:=hg (.d (.int 7)) (.d T7) (.d (.list r)) (.d (.int 6)) l5
  have ht : turnB [.d (.int 7),.d T6,.d (.list r),.d (.int 6),l4,l5] = some (.nx [.d (.int 7),.d T7,.no,.d (.int 6),.d (.list (L2.rowD W)),m5]) := by
    refine seqD_nx (δ':=[.d (.int 7),.d T7,.d (.list r),.d (.int 6),l4,l5]) (sSet_is (op2_is (x:=T6) (y:=.list r) rfl rfl hadd)) (seqD_nx (δ':=[.d (.int 7),.d T7,.d (.list r),.d (.int 6),.d (.list []),l5]) rfl (seqD_nx (δ':=[.d (.int 7),.d T7,.d (.list r),.d (.int 6),.d (.list (L2.rowD W)),m5]) ?_ ?_))
    · rw [sFor_eq (xs:=r) rfl]
      have:=goD_for (ys:=[]) g1
      rw [List.append_nil] at this
      rw [this]
      rfl
    · show ((trsOf (L2.rowD W)).bind fun t => (sortOr t).map fun l => Ou.nx (List.set _ 2 l)) = _
      rw [trs_row',Option.bind_some,hn]
      rfl
  refine retD_rt rfl ?_
  unfold F__law_trees
  refine seqD_nx (δ':=[.d (.int 7),.d (.list []),.no,.no,.no,.no]) rfl (seqD_nx (δ':=[.d (.int 7),.d (.list []),.d (.list [.tuple []]),.no,.no,.no]) rfl (seqD_nx (δ':=[.d (.int 7),.d T7,.no,.d (.int 6),.d (.list (L2.rowD W)),m5]) ?_ rfl))
  rw [sFor_eq rng67,goD_for h6]
  exact forD_one rfl ht
theorem add67 : dAdd (treesD 6) (.list (L2.rowD (Tr.of (TH.tz 6)))) = some (treesD 7) := by kernel_rfl
theorem trees_7 : mTrees [.int 7] = some (treesD 7) := by
  obtain ⟨δ6,h1,h2,h3⟩:=proj_un six_is
  obtain ⟨l3,l4,l5,rfl⟩:=six_un h2 h3
  refine trees_by h1 add67 (fun a b c d e => ?_) grown_no
  obtain ⟨δ7,g1,g2,g3⟩:=proj_un (grown_is a b c d e)
  obtain ⟨m5,rfl⟩:=five_un g2 g3
  exact ⟨m5,g1⟩
theorem div_is {i j : Int} (h : 0 < j) (h2 : j.natAbs < 2 ^ 64) : iDiv (.int i) (.int j) = some (.int (i / j)) := by
  refine (if_pos ⟨by omega,fit_of (Nat.lt_of_lt_of_le h2 (Nat.pow_le_pow_right (by decide) (by decide)))⟩).trans ?_
  rw [Int.fdiv_eq_ediv_of_nonneg _ (by omega)]
theorem row_map : ∀ ts : List Tr,L2.rowD (Tr.of ts) = ts.map fun t => .tuple (L2.rowD t)
  | [] => rfl
  | t :: ts => by rw [List.map_cons,← row_map ts]; rfl
theorem cell_is (ns : List Int) (k : Nat) : ∃ c,m__law_cell [scrD ns,.int (k : Nat)] = some (.int c) := by
  suffices hh : ∃ c,F__law_cell [.d (scrD ns),.d (.int (k : Nat)),.no,.no] = some (.rt (.int c)) by
    obtain ⟨c,h⟩:=hh; exact ⟨c,retD_rt rfl h⟩
  unfold F__law_cell
  have e1 : ∃ c0,(sIf (bCmp (iCmp fun i j => decide (i < j)) (nm 1) (fCall dLen (fCons (nm 0) fNil))) (sSet 2 (op2 dIx (nm 0) (nm 1))) sNext) [.d (scrD ns),.d (.int (k : Nat)),.d (.int 0),.no] = some (.nx [.d (scrD ns),.d (.int (k : Nat)),.d (.int c0),.no]) := by
    have t : bCmp (iCmp fun i j => decide (i < j)) (nm 1) (fCall dLen (fCons (nm 0) fNil)) [.d (scrD ns),.d (.int (k : Nat)),.d (.int 0),.no] = some (decide ((k : Int) < ((ns.map PyData.int).length : Nat))) := bCmp_is (x:=.int (k : Nat)) (y:=.int ((ns.map PyData.int).length : Nat)) rfl rfl rfl
    rw [List.length_map] at t
    by_cases z : k < ns.length
    · rw [decide_eq_true (show (k : Int) < (ns.length : Nat) by omega)] at t
      exact ⟨ns[k],sIf_t t (sSet_is (op2_is (x:=scrD ns) (y:=.int (k : Nat)) rfl rfl (atI_nat (by rw [List.getElem?_map,List.getElem?_eq_getElem z]; rfl))))⟩
    · rw [decide_eq_false (show ¬ (k : Int) < (ns.length : Nat) by omega)] at t
      exact ⟨0,sIf_f t rfl⟩
  obtain ⟨c0,e1⟩:=e1
  have p18 : op2 iPow (fC (.int 10)) (fC (.int 18)) [.d (scrD ns),.d (.int (k : Nat)),.d (.int c0),.no] = some (.int ((10 : Int) ^ 18)):=op2_is (x:=.int 10) (y:=.int 18) rfl rfl (pow_is (n:=18) (by decide) (by decide))
  have p60 : op2 iPow (fC (.int 10)) (fC (.int 60)) [.d (scrD ns),.d (.int (k : Nat)),.d (.int c0),.no] = some (.int ((10 : Int) ^ 60)):=op2_is (x:=.int 10) (y:=.int 60) rfl rfl (pow_is (n:=60) (by decide) (by decide))
  have t2 : bCmp (iCmp fun i j => decide (j≤i)) (nm 2) (op2 iPow (fC (.int 10)) (fC (.int 18))) [.d (scrD ns),.d (.int (k : Nat)),.d (.int c0),.no] = some (decide ((10 : Int) ^ 18≤c0)) := bCmp_is (x:=.int c0) (y:=.int ((10 : Int) ^ 18)) rfl p18 rfl
  by_cases z : (10 : Int) ^ 18≤c0
  · rw [decide_eq_true z] at t2
    exact ⟨_,seqD_nx rfl (seqD_nx e1 (seqD_rt (sIf_t t2 (sRet_is (op2_is (x:=.int (c0 - (10 : Int) ^ 18)) (op2_is (x:=.int c0) rfl p18 rfl) p60 (mod_is (Int.pow_pos (by decide))))))))⟩
  · rw [decide_eq_false z] at t2
    have hn : ∀ (a : Int) (m : Int),0 < m→m < 2 ^ 60→(a % m).natAbs < 2 ^ 64:=fun a m h0 h1 => by
      have:=Int.emod_nonneg a (by omega : m≠0)
      have:=Int.emod_lt_of_pos a h0
      omega
    generalize hv : (c0 * 48271 + (k : Int) * 69621 + 11) % 2147483629 = v
    have v1 : v.natAbs < 2 ^ 64 := by rw [← hv]; exact hn _ _ (by decide) (by decide)
    generalize hu : v * v % 2147483587 = u
    have u1 : u.natAbs < 2 ^ 64 := by rw [← hu]; exact hn _ _ (by decide) (by decide)
    refine ⟨_,seqD_nx rfl (seqD_nx e1 (seqD_nx (sIf_f t2 rfl) (seqD_nx (sSet_is (y:=.int v) ?_) (seqD_nx (sSet_is (y:=.int u) ?_) (sRet_is (op2_is (x:=.int (u * 2147483563)) (y:=.int (u * u % 2147483563)) (op2_is (x:=.int u) (y:=.int 2147483563) rfl rfl (mul_r (by decide))) (op2_is (x:=.int (u * u)) (y:=.int 2147483563) (op2_is (x:=.int u) (y:=.int u) rfl rfl (mul_r u1)) rfl (mod_is (by decide))) rfl))))))⟩
    · refine op2_is (x:=.int (c0 * 48271 + (k : Int) * 69621 + 11)) (y:=.int 2147483629) (op2_is (x:=.int (c0 * 48271 + (k : Int) * 69621)) (y:=.int 11) (op2_is (x:=.int (c0 * 48271)) (y:=.int ((k : Int) * 69621)) (op2_is (x:=.int c0) (y:=.int 48271) rfl rfl (mul_r (by decide))) (op2_is (x:=.int (k : Nat)) (y:=.int 69621) rfl rfl (mul_r (by decide))) rfl) rfl rfl) rfl ((mod_is (by decide)).trans ?_)
      rw [hv]
    · refine op2_is (x:=.int (v * v)) (y:=.int 2147483587) (op2_is (x:=.int v) (y:=.int v) rfl rfl (mul_r v1)) rfl ((mod_is (by decide)).trans ?_)
      rw [hu]
mutual
theorem du_DU {H : Hp} : ∀ {d : PyData} {v : V},d.canLay0 = true→Du H d v→DU H d v
  | .none,_,_,h => by rw [Du] at h; subst h; exact .non
  | .bool _,_,_,h => by rw [Du] at h; subst h; exact .bool
  | .int _,_,_,h => by rw [Du] at h; subst h; exact .int
  | .str _,_,_,h => by rw [Du] at h; subst h; exact .str
  | .tuple _,_,c,h => by
    rw [Du] at h
    obtain ⟨a,xs,rfl,h1,h2⟩:=h
    exact .tup h1 (duA_DUs (by simpa only [PyData.canLay0] using c) h2)
  | .list _,_,c,h => by
    rw [Du] at h
    obtain ⟨a,xs,rfl,h1,h2⟩:=h
    exact .lst h1 (duA_DUs (by simpa only [PyData.canLay0] using c) h2)
  | .dict _,_,c,h => by simp [PyData.canLay0] at c
theorem duA_DUs {H : Hp} : ∀ {ds : List PyData} {xs : List V},PyData.canLayAll0 ds = true→DuA H ds xs→DUs H ds xs
  | [],_,_,h => by rw [h.nil_eq]; exact .nil
  | _ :: _,_,c,h => by
    obtain ⟨x,r,rfl,h1,h2⟩:=h.un
    simp only [PyData.canLayAll0,Bool.and_eq_true] at c
    exact .cons (du_DU c.1 h1) (duA_DUs c.2 h2)
end
def smB : Nat→PyData→Bool
  | _,.none => true
  | _,.bool _ => true
  | _,.int _ => true
  | _,.str x => PyData.strOk x
  | n + 1,.tuple ds => decide (ds.length≤60) && ds.all (smB n)
  | n + 1,.list ds => decide (ds.length≤60) && ds.all (smB n)
  | _,_ => false
theorem smB_is : ∀ {n : Nat} {d : PyData},smB n d = true→Sm n d
  | n,.none,_ => leaf.sm trivial
  | n,.bool _,_ => leaf.sm trivial
  | n,.int _,_ => leaf.sm trivial
  | n,.str x,h => leaf.sm (by unfold smB at h; exact h)
  | 0,.tuple _,h => by cases h
  | 0,.list _,h => by cases h
  | n,.dict _,h => by cases n <;> cases h
  | n + 1,.tuple ds,h => by
    rw [smB,Bool.and_eq_true] at h
    exact .tup (of_decide_eq_true h.1) fun e he => smB_is (List.all_eq_true.mp h.2 e he)
  | n + 1,.list ds,h => by
    rw [smB,Bool.and_eq_true] at h
    exact .lst (of_decide_eq_true h.1) fun e he => smB_is (List.all_eq_true.mp h.2 e he)
def mIt : List PyData→Option PyData
  | [d] => if d.canLay0 = true∧smB 12 d = true then some (.bool (fallD d)) else none
  | _ => none
theorem toIt {P : Program} {w : World} {K : PySem.W.Frag} {mg : Str→Option Value} {base : Heap} {f : Addr} {fd : FuncData} {k : Nat} {ps : List Str} (F : FnOk P w K mg base CX0 k f fd ps (spTold1 13 fallD)) : FnOk P w K mg base CX0 k f fd ps (spD mIt) :=
  spD_imp F fun ds x hm G H vs Q E d e kk => by
    unfold mIt at hm
    split at hm
    · rename_i d0
      split at hm
      · rename_i hc
        cases hm
        obtain ⟨v,rfl,d1⟩:=d.un1
        obtain ⟨N,b⟩:=du_DU hc.1 (d1.same e)
        exact ⟨N,d0,v,12,rfl,rfl,by decide,smB_is hc.2,b N (Nat.le_refl _),fun H' e' => kk _ G H' (.refl _) Nw.refl (e.trans e') e' (by rw [Du])⟩
      · cases hm
    · cases hm
theorem it_is {d : PyData} {b : Bool} (h : (d.canLay0 && smB 12 d && (fallD d == b)) = true) : mIt [d] = some (.bool b) := by
  rw [Bool.and_eq_true,Bool.and_eq_true] at h
  refine (if_pos h.1).trans ?_
  rw [eq_of_beq h.2]
abbrev mRtr (C : Addr) : List PyData→Option Xr:=m_refuse_no_tree mIt C
theorem rtr_ok {d : PyData} (h : mIt [d] = some (.bool true)) (C : Addr) : mRtr C [d] = some (.inl .none) := by
  refine retX_nx (δ:=[.d d]) rfl ?_
  unfold J_refuse_no_tree
  exact xIf_f (bNot_is (bVal_is (fCall_is (xs:=[d]) rfl h))) rfl
abbrev mPar : List PyData→Option PyData:=m_parents_within 9
abbrev mPc (C : Addr) : List PyData→Option PyData:=m_parting_change mPar (mRtr C)
abbrev mWh : List PyData→Option PyData:=m__law_whole m__law_is
abbrev pcF : DF:=(seqD (sSet 1 (fCall mPar (fCons (nm 0) fNil)))
  (seqD (sOwn 2 fNil)
  (seqD (sFor (iCall rng1 (fCons (op2 dAdd (fCall dLen (fCons (nm 1) fNil)) (fC (.int 1))) fNil)) (setN 3)
    (seqD (sSet 4 (op2 dAdd (fLst (fCons (fC (.int 0)) fNil)) (compD (set1 1) bYes (fIf (bCmp (dEq false) (nm 1) (nm 2)) (fC (.int 1)) (fC (.int 0))) [none,none,some 3] (iSeq (nm 1)))))
    (sApp 2 (fLst (fCons (fTup (fCons (fCall dTupleOf (fCons (nm 4) fNil)) (fCons (fTup (fCons (fC (.int 1)) (fCons (fC (.int 1)) fNil))) fNil))) fNil)))))
  (sFrz 2 (sRet (fTup (fCons (nm 2) (fCons (op2 dMul (fLst (fCons (fTup (fCons (fC (.int 0)) (fCons (fC (.int 1)) fNil))) fNil)) (fCall dLen (fCons (nm 2) fNil))) fNil))))))))
theorem pc_all : (tzTo 7).map (fun u => pcF [.d (tD u),.no,.no,.no,.no]) = (tzTo 7).map fun u => some (.rt (dueD u)) := by kernel_rfl
theorem wh_all : (tzTo 7).map (fun u => mWh [dueD u]) = (tzTo 7).map fun _ => some (.bool true) := by kernel_rfl
theorem due_all : ((tzTo 7).all fun u => SeqAt.shaped (dueD u) && PyData.eqv (dueD u) (dueD u) && deepOk (dueD u) && decide (u.deep < 8) && decide (u.knots≤50)) = true := by decide +kernel
theorem it7_all : ((tzTo 7).all fun u => (tD u).canLay0 && smB 12 (tD u) && (fallD (tD u) == true)) = true := by decide +kernel
theorem due_of {u : Tr} (h : u∈tzTo 7) : dEq true (dueD u) (dueD u) = some (.bool false)∧deepOk (dueD u) = true∧u.deep < 8∧u.knots≤50 := by
  have:=List.all_eq_true.mp due_all u h
  simp only [Bool.and_eq_true] at this
  obtain ⟨⟨⟨⟨h1,h2⟩,h3⟩,h4⟩,h5⟩:=this
  refine ⟨(if_pos ⟨h1,h1⟩).trans ?_,h3,of_decide_eq_true h4,of_decide_eq_true h5⟩
  rw [h2]; rfl
theorem pc_is {u : Tr} (h : u∈tzTo 7) (C : Addr) : mPc C [tD u] = some (dueD u) := by
  refine retD_rt rfl ?_
  unfold F_parting_change
  refine seqD_nx (δ':=[.d (tD u),.no,.no,.no,.no]) ?_ (List.map_inj_left.mp pc_all u h)
  show (fCall (good (mRtr C)) (fCons (nm 0) fNil) [.d (tD u),.no,.no,.no,.no]).map _ = _
  rw [fCall_is (xs:=[tD u]) rfl (good_is (rtr_ok (it_is (List.all_eq_true.mp it7_all u h)) C))]
  rfl
theorem row7_len : (L2.rowD (Tr.of (tzTo 7))).length = 85 := by rw [row_map,List.length_map]; decide +kernel
theorem row7_at {i : Nat} (h : i < 85) : ∃ u,u∈tzTo 7∧(L2.rowD (Tr.of (tzTo 7)))[i]? = some (tD u) := by
  have hl : (tzTo 7).length = 85 := by decide +kernel
  refine ⟨(tzTo 7)[i]'(by omega),List.getElem_mem _,?_⟩
  rw [row_map,List.getElem?_map,List.getElem?_eq_getElem (by omega)]
  rfl
theorem mid_is {i : Nat} {m : List PyData→Option PyData} {fs : Dv→Option (List PyData)} {fa : Dv→Option Bool} {δ : Dv} {ds : List PyData} {y : PyData} (h1 : fs δ = some ds) (h2 : ds.all isTrD = true) (h3 : i < δ.length) (h4 : m ds = some y) (h5 : fa ((frzAll δ).set i (.d y)) = some false) (h6 : deepOk y = true) : fMid i m fs fa δ = some (.nx (δ.set i .no)) := by
  show (fs δ).bind _ = _
  rw [h1]
  show (if _ then (m ds).bind _ else none) = _
  rw [if_pos ⟨h2,h3⟩,h4]
  show (fa _).bind _ = _
  rw [h5]
  show (if false = true then none else (if deepOk y = true then _ else none)) = _
  rw [if_pos h6]
  rfl
abbrev mLaw (C : Addr) : List PyData→Option PyData:=m_law m__law_cell mDue mTrees mWh (mPc C)
theorem law_is (C : Addr) (ns : List Int) : mLaw C [scrD ns] = some (.bool true) := by
  obtain ⟨c,hc⟩:=cell_is ns 0
  have hc : m__law_cell [scrD ns,.int 0] = some (.int c):=hc
  refine retD_rt rfl ?_
  unfold F_law
  refine seqD_nx (δ':=[.d (scrD ns),.d (treesD 7),.no,.no,.no,.no]) (sSet_is (fCall_is (xs:=[.int 7]) rfl trees_7)) ?_
  refine seqD_nx (δ':=[.d (scrD ns),.d (treesD 7),.d (.int c),.no,.no,.no]) (sSet_is (fCall_is (xs:=[scrD ns,.int 0]) rfl hc)) ?_
  have hl : fCall dLen (fCons (nm 1) fNil) [.d (scrD ns),.d (treesD 7),.d (.int c),.no,.no,.no] = some (.int 85) := by
    show some (PyData.int ((L2.rowD (Tr.of (tzTo 7))).length : Nat)) = _
    rw [row7_len]
    rfl
  have hx : iSeq (fLst (fCons (op2 iMod (nm 2) (fCall dLen (fCons (nm 1) fNil))) (fCons (op2 iMod (op2 dAdd (nm 2) (fC (.int 1))) (fCall dLen (fCons (nm 1) fNil))) (fCons (op2 iMod (op2 iDiv (nm 2) (fC (.int 85))) (fC (.int 4))) fNil)))) [.d (scrD ns),.d (treesD 7),.d (.int c),.no,.no,.no] = some [.int (c % 85),.int ((c + 1) % 85),.int (c / 85 % 4)] :=
    iSeq_is (fLst_is (fCons_is (op2_is (x:=.int c) (y:=.int 85) rfl hl (mod_is (by decide))) (fCons_is (op2_is (x:=.int (c + 1)) (y:=.int 85) (op2_is (x:=.int c) (y:=.int 1) rfl rfl rfl) hl (mod_is (by decide))) (fCons_is (op2_is (x:=.int (c / 85)) (y:=.int 4) (op2_is (x:=.int c) (y:=.int 85) rfl rfl (div_is (by decide) (by decide))) rfl (mod_is (by decide))) rfl))) (by show (3 : Nat)≤dMax; decide)) rfl
  refine seqD_for (fun i δ => ∃ l3 l4 l5 : L,δ = [.d (scrD ns),.d (treesD 7),.d (.int c),l3,l4,l5]) hx ⟨_,_,_,rfl⟩ ?_ ?_
  · rintro i x δ hi ⟨l3,l4,l5,rfl⟩
    obtain ⟨j,hj,rfl⟩ : ∃ j : Nat,j < 85∧x = .int (j : Nat) := by
      have hil:=(List.getElem?_eq_some_iff.mp hi).1
      have : i = 0∨i = 1∨i = 2 := by simp at hil; omega
      rcases this with rfl | rfl | rfl
      · cases hi; exact ⟨(c % 85).toNat,by omega,by congr 1; omega⟩
      · cases hi; exact ⟨((c + 1) % 85).toNat,by omega,by congr 1; omega⟩
      · cases hi; exact ⟨(c / 85 % 4).toNat,by omega,by congr 1; omega⟩
    obtain ⟨u,hu,eu⟩:=row7_at hj
    obtain ⟨d1,d2,d3,d4⟩:=due_of hu
    have hix : ∀ (l4 l5 : L),fCons (op2 dIx (nm 1) (nm 3)) fNil [.d (scrD ns),.d (treesD 7),.d (.int c),.d (.int (j : Nat)),l4,l5] = some [tD u]:=fun _ _ => fCons_is (op2_is (x:=treesD 7) (y:=.int (j : Nat)) rfl rfl (atI_nat eu)) rfl
    refine ⟨[.d (scrD ns),.d (treesD 7),.d (.int c),.d (.int (j : Nat)),l4,l5],rfl,?_⟩
    refine ex_nx (δ':=[.d (scrD ns),.d (treesD 7),.d (.int c),.d (.int (j : Nat)),.d (dueD u),l5]) (sSet_is (fCall_is (xs:=[tD u]) (hix _ _) (mDue_is d3 d4))) ?_
    refine ex_nx (δ':=[.d (scrD ns),.d (treesD 7),.d (.int c),.d (.int (j : Nat)),.d (dueD u),.no]) (mid_is (y:=dueD u) (hix _ _) ?_ (by show 5 < 6; decide) (pc_is hu C) ?_ d2) ?_
    · show (isTrD (tD u) && true) = true
      unfold isTrD
      show ((trsOf (L2.rowD u)).isSome && true) = true
      rw [trs_row]; rfl
    · refine bOr_f rfl (bOr_f (bCmp_is (x:=dueD u) (y:=dueD u) rfl rfl d1) ?_)
      exact bNot_is (bVal_is (fCall_is (xs:=[dueD u]) rfl (List.map_inj_left.mp wh_all u hu)))
    · exact ⟨_,sIf_f (bCmp_is (fCall_is (xs:=[tD u]) (hix _ _) (pc_is hu C)) rfl d1) rfl,_,_,_,rfl⟩
  · rintro δ ⟨l3,l4,l5,rfl⟩
    rfl
def spLaw (K : PySem.W.Frag) : Sp:=fun vs H Q _ => ∃ (a : Addr) (ns : List Int),vs = [.ref a]∧SqL K H a (ns.map V.int)∧ns.length≤63∧∀ H',Q (.bl true) H'
theorem ok_law {P : Program} {w : World} {K : PySem.W.Frag} {mg : Str→Option Value} {base : Heap} {f : Addr} {fd : FuncData} {k : Nat} {C : Addr} (hK : noLst K = true) (F : FnOk P w K mg base CX0 k f fd ["_law_script"] (spD (mLaw C))) : FnOk P w K mg base CX0 k f fd ["_law_script"] (spLaw K) :=
  F.imp fun vs H Q E z => by
    obtain ⟨a,ns,rfl,hS,_,q⟩:=z
    refine ⟨[scrD ns],.bool true,H,law_is C ns,.cons (du_scr (rdK_of hK hS)) .nil,.refl _,fun v G' H' _ _ _ _ dv => ?_⟩
    rw [Du] at dv
    subst dv
    exact q H'
section
open PySem.W PyProof.Rows PySem.Calls
abbrev pwX : Program:=PySem.Challenge.pw_stepgrove_k50_parting_changes
abbrev rwX : OpenLaw:=PySem.Challenge.rw_stepgrove_k50_parting_changes
noncomputable abbrev dE (P : Params) (x : String) (t : Nat) (v : Value) : DictEntry:=⟨PyData.keyHash P (Str.ofString x),.str (Str.ofString x) t,v⟩
noncomputable abbrev sV (x : String) (t : Nat) : Value:=.str (Str.ofString x) t
noncomputable abbrev fO (n : String) (i : Nat) (m : String) (t c : Nat) : Obj:=⟨.type "function",none,.func (fnOf n n (defArgs (top i)) (defBody (top i)) (defScope (top i)) .none .none .none (.str (Str.ofString m) t) none (.ref c) .none),#[]⟩
noncomputable abbrev cO (n : String) (t l a k r : Nat) (b : Bool) (r2 : Nat) (v1 v2 v3 v4 : Value) (t2 : Nat) : Obj:=⟨.type "code",none,.fields #[sV n t,sV n (t + 1),sV "/claim/cut.py" (t + 2),.int l 0,.int a 0,.int 0 0,.int 0 0,.int k 0,.ref r,.bool b,.int 181 0,.ref r2,v1,v2,v3,v4,.int t2 0,.int l 0,sV "/claim/cut.py" (t2 + 1)],#[]⟩
noncomputable def kH : Params→Frag:=fun P =>
  (nat_lit 2,⟨.none,none,(.dict #[] 0),#[]⟩) ::
  (nat_lit 3,⟨(.type "dict"),none,(.dict #[dE P "__name__" 165 (sV "law_stepgrove_k50_parting_changes" 255),dE P "__doc__" 166 .none,dE P "__package__" 167 .none,dE P "__loader__" 168 (.builtin "__main__.__loader__#opaque"),dE P "__spec__" 169 .none,dE P "__annotations__" 170 (.ref 6),dE P "__builtins__" 171 (.ref 4),dE P "__file__" 173 (sV "/claim/cut.py" 172),dE P "__cached__" 174 .none,dE P "GroveError" 206 (.ref 24),dE P "NoTree" 222 (.ref 37),dE P "is_tree" 233 (.ref 46),dE P "refuse_no_tree" 240 (.ref 53),dE P "parents_within" 246 (.ref 58),dE P "parting_change" 254 (.ref 63),dE P "_law_cell" 266 (.ref 70),dE P "_law_kept" 272 (.ref 75),dE P "_law_longer" 278 (.ref 80),dE P "_law_trees" 290 (.ref 87),dE P "_law_is" 296 (.ref 92),dE P "_law_numbered" 307 (.ref 99),dE P "_law_due" 313 (.ref 104),dE P "_law_whole" 319 (.ref 109),dE P "law" 331 (.ref 116)] 24),#[]⟩) ::
  (nat_lit 6,⟨(.type "dict"),none,(.dict #[] 0),#[]⟩) ::
  (nat_lit 15,⟨(.type "tuple"),none,(.seq #[(.type "ValueError")] 0),#[]⟩) ::
  (nat_lit 22,⟨(.type "tuple"),none,(.seq #[] 0),#[]⟩) ::
  (nat_lit 23,⟨(.type "dict"),none,(.dict #[dE P "__module__" 196 (sV "stepgrove.errors" 187),dE P "__firstlineno__" 200 (.int 2 199),dE P "__static_attributes__" 201 (.ref 22),dE P "__weakref__" 203 (.ref 25),dE P "__doc__" 204 .none] 3),#[]⟩) ::
  (nat_lit 24,⟨(.type "type"),none,(.cls ⟨Str.ofString "GroveError",[(.type "ValueError")],[(.ref 24),(.type "ValueError"),(.type "Exception"),(.type "BaseException"),(.type "object")],23,Str.ofString "GroveError",true,[],[(.ref 37)],false,none,false⟩),#[some (.ref 15),none,some (sV "GroveError" 189),some (sV "GroveError" 197),some (.builtin "ValueError.__new__"),some (.bool true)]⟩) ::
  (nat_lit 25,⟨(.type "getset_descriptor"),none,(.fields #[(sV "__weakref__" 202),(.ref 24),(.builtin "ExceptionGroup.__weakref__"),.none]),#[]⟩) ::
  (nat_lit 28,⟨(.type "tuple"),none,(.seq #[(.ref 24)] 0),#[]⟩) ::
  (nat_lit 35,⟨(.type "tuple"),none,(.seq #[] 0),#[]⟩) ::
  (nat_lit 36,⟨(.type "dict"),none,(.dict #[dE P "__module__" 214 (sV "stepgrove.errors" 187),dE P "__firstlineno__" 218 (.int 4 217),dE P "__static_attributes__" 219 (.ref 35),dE P "__doc__" 220 .none] 2),#[]⟩) ::
  (nat_lit 37,⟨(.type "type"),none,(.cls ⟨Str.ofString "NoTree",[(.ref 24)],[(.ref 37),(.ref 24),(.type "ValueError"),(.type "Exception"),(.type "BaseException"),(.type "object")],36,Str.ofString "NoTree",true,[],[],false,none,false⟩),#[some (.ref 28),none,some (sV "NoTree" 207),some (sV "NoTree" 215),some (.builtin "ValueError.__new__"),some (.bool true)]⟩) ::
  (nat_lit 45,cO "is_tree" 225 7 1 3 40 true 41 .none (.ref 42) (.ref 43) (.ref 44) 231) ::
  (nat_lit 46,fO "is_tree" 4 "stepgrove.trees" 223 45) ::
  (nat_lit 52,cO "refuse_no_tree" 234 16 1 3 47 true 48 .none (.ref 49) (.ref 50) (.ref 51) 238) ::
  (nat_lit 53,fO "refuse_no_tree" 5 "stepgrove.trees" 223 52) ::
  (nat_lit 57,cO "parents_within" 241 19 1 3 54 true 55 .none .none .none (.ref 56) 244) ::
  (nat_lit 58,fO "parents_within" 6 "stepgrove.trees" 223 57) ::
  (nat_lit 62,cO "parting_change" 249 27 1 3 59 true 60 .none .none .none (.ref 61) 252) ::
  (nat_lit 63,fO "parting_change" 8 "stepgrove.orders" 247 62) ::
  (nat_lit 69,cO "_law_cell" 257 36 2 3 64 true 65 .none (.ref 66) (.ref 67) (.ref 68) 264) ::
  (nat_lit 70,fO "_law_cell" 10 "law_stepgrove_k50_parting_changes" 255 69) ::
  (nat_lit 74,cO "_law_kept" 267 45 1 3 71 true 72 .none .none .none (.ref 73) 270) ::
  (nat_lit 75,fO "_law_kept" 11 "law_stepgrove_k50_parting_changes" 255 74) ::
  (nat_lit 79,cO "_law_longer" 273 47 1 3 76 true 77 .none .none .none (.ref 78) 276) ::
  (nat_lit 80,fO "_law_longer" 12 "law_stepgrove_k50_parting_changes" 255 79) ::
  (nat_lit 86,cO "_law_trees" 279 52 1 3 81 true 82 .none (.ref 83) (.ref 84) (.ref 85) 288) ::
  (nat_lit 87,fO "_law_trees" 13 "law_stepgrove_k50_parting_changes" 255 86) ::
  (nat_lit 91,cO "_law_is" 291 62 1 3 88 true 89 .none .none .none (.ref 90) 294) ::
  (nat_lit 92,fO "_law_is" 14 "law_stepgrove_k50_parting_changes" 255 91) ::
  (nat_lit 98,cO "_law_numbered" 297 66 3 3 93 true 94 .none (.ref 95) (.ref 96) (.ref 97) 305) ::
  (nat_lit 99,fO "_law_numbered" 15 "law_stepgrove_k50_parting_changes" 255 98) ::
  (nat_lit 103,cO "_law_due" 308 73 1 3 100 true 101 .none .none .none (.ref 102) 311) ::
  (nat_lit 104,fO "_law_due" 16 "law_stepgrove_k50_parting_changes" 255 103) ::
  (nat_lit 108,cO "_law_whole" 314 80 1 3 105 true 106 .none .none .none (.ref 107) 317) ::
  (nat_lit 109,fO "_law_whole" 17 "law_stepgrove_k50_parting_changes" 255 108) ::
  (nat_lit 115,cO "law" 320 86 1 3 110 true 111 .none (.ref 112) (.ref 113) (.ref 114) 329) ::
  (nat_lit 116,fO "law" 18 "law_stepgrove_k50_parting_changes" 255 115) :: []
abbrev qX : Program:=view pwX [1,2,4,5,6,8,10,11,12,13,14,15,16,17,18]
noncomputable abbrev hX : Hook:=kHook kH [nat_lit 2,nat_lit 3,nat_lit 6,nat_lit 15,nat_lit 22,nat_lit 23,nat_lit 24,nat_lit 25,nat_lit 28,nat_lit 35,nat_lit 36,nat_lit 37,nat_lit 45,nat_lit 46,nat_lit 52,nat_lit 53,nat_lit 57,nat_lit 58,nat_lit 62,nat_lit 63,nat_lit 69,nat_lit 70,nat_lit 74,nat_lit 75,nat_lit 79,nat_lit 80,nat_lit 86,nat_lit 87,nat_lit 91,nat_lit 92,nat_lit 98,nat_lit 99,nat_lit 103,nat_lit 104,nat_lit 108,nat_lit 109,nat_lit 115,nat_lit 116] (fun _ => by kernel_rfl)
noncomputable def dX : DefRec:=⟨Str.ofString "law",defArgs (top 18),defBody (top 18),defScope (top 18),⟨86,0,98,15⟩⟩
theorem saidX : rwX.wellSaid = true:=(congrFun PySem.W.Fast.te9446332074065402090 _).trans (by kernel_rfl)
theorem preX (w : World) (os : OsState) : topGo treeTable pwX w 11 Opn.annB 12 ⟨boot_heap w.params,#[],boot_drawn,boot_toks,os⟩ (topStub pwX) = some (Opn.sA w os,⟨denote treeTable (Opn.cB pwX),Opn.cB pwX,Opn.q0,Opn.bB⟩) := by kernel_rfl
theorem blkX (w : World) (os : OsState) : segRun treeTable pwX w 11 Opn.annB 1 1 (Opn.sA w os) (blockOf (behindTheImports pwX) (Opn.envB pwX) (Opn.cB pwX) Opn.q0 Opn.bB) = some (.next,(Opn.sB w os).abs,Opn.cB pwX,Opn.q0) := by kernel_rfl
theorem finX (w : World) (s : Shared) : topRun treeTable pwX w 11 Opn.annB 2 s (restOf [] (Opn.envB pwX) (Opn.cB pwX) ⟨86,0,98,15⟩ Opn.bB) = some s := by kernel_rfl
theorem segX (w : World) (os : OsState) : Opn.runB pwX 811 w os = some (.next,Opn.endB pwX 811 w os,Opn.cB pwX,⟨86,0,98,15⟩) := by kernel_rfl
noncomputable abbrev sX (w : World) (os : OsState) : Shared:=(Opn.endB pwX 811 w os).abs
theorem okX (w : World) (os : OsState) : (staticsOk (importedModules pwX.main.body) (boot_heap w.params) (sX w os).heap && namesBound pwX (sX w os).heap && gensDone (sX w os) && laidKept (boot_heap w.params) (sX w os).heap) = true := by kernel_rfl
theorem hookX (w : World) (os : OsState) : hX.obs (sX w os) = hX.val w := by kernel_rfl
noncomputable abbrev xtX : Shared→Bool:=fun s => xlAt qX [] s && recOk (RowW.records rwX.row.toRowW) s
theorem seenX (w : World) (os : OsState) : openSeen qX [] (importedModules pwX.main.body) xtX true (sX w os) = openGood qX [] := by kernel_rfl
theorem bootX (w : World) : (fencedOpening treeTable pwX w 1746).map (fun s => (s.heap,s.gens,s.drawn,s.toks)) = some (boot_heap w.params,#[],boot_drawn,boot_toks) := boot_open (p:=pwX) (N:=1746) (by kernel_rfl) (by kernel_rfl) (fun _ => by kernel_rfl) w
theorem leftX : LeftO pwX qX [] xtX hX.obs hX.val 1746:=Opn.left_of (M:=826) (S:=sX) bootX Opn.sizeB (fun w os => Opn.run_of (preX w os) (blkX w os) (segX w os) (finX w) (by kernel_rfl)) (by kernel_rfl) okX seenX hookX
theorem defX : defOf qX rwX.row.name = some (dX,[]) := by kernel_rfl
theorem theX : pwX.theDef rwX.row.name = some (dX.params,dX.body,dX.scope) := by kernel_rfl
theorem kwX : kwWritten? dX.params.kwonlyargs dX.params.kw_defaults = some [] := by kernel_rfl
theorem chnX : (chainsOk qX && opensWell rwX.row.prog && (frees rwX.row.toRowW && rwX.row.within.isEmpty)) = true := by kernel_rfl
theorem bareX : pwX.bare:=⟨rfl,rfl,rfl,rfl,rfl,by decide +kernel⟩
theorem openX (hw : rwX.row.toRowW.promised) (hc : WalkO qX [] (XL qX []) hX.says rwX.row.toRowW dX [] (fun f vs => PySem.call f vs)) : rwX.Holds :=
  holds_law saidX fun said => holds_open (r:=rwX.row) (q:=qX) (loose:=[]) (Xt:=xtX) (XP:=XL qX []) (Yf:=hX.obs) (Ya:=hX.val) (YP:=hX.says) (d:=dX) (kwd:=[]) (N:=1746) leftX hX.of hX.keeps (fun s e => xl_of s (Bool.and_eq_true_iff.mp e).1) XL.keeps defX theX kwX (fun s e => recFacts_of (Bool.and_eq_true_iff.mp e).2) rfl said chnX bareX hw hc
end
section
open PySem.W
theorem fnX {w : World} {mg : Str→Option Value} {h : Heap} (X : (kH w.params).In h) (G : h.Ns mainGlobals mg) (n : String) (i : Nat) (m : String) (t c f : Nat) (ps : List Str)
    (ha : nsIn (kH w.params) mainGlobals (Str.ofString n) = some (some (.ref f)) := by kernel_rfl) (hl : (kH w.params).lookup f = some (fO n i m t c) := by kernel_rfl) (hc : codeIn (kH w.params) (.ref c) (Str.ofString n) = true := by kernel_rfl) (hk : keepIn (kH w.params) (.ref f) = true := by kernel_rfl)
    (hb : ∀ (kV doc pm : Value) (an : Option Addr) (cdv ct : Value) (us : List Value),us.length = ps.length→bindArgs (fnOf (Str.ofString n) (Str.ofString n) (defArgs (top i)) (defBody (top i)) (defScope (top i)) .none kV doc pm an cdv ct) ⟨us,[]⟩ = pure (ps.zip us) := by first | (exact fun _ _ _ _ _ _ us hl => match us,hl with | [_],_ => rfl) | (exact fun _ _ _ _ _ _ us hl => match us,hl with | [_,_],_ => rfl) | (exact fun _ _ _ _ _ _ us hl => match us,hl with | [_,_,_],_ => rfl) | (exact fun _ _ _ _ _ _ us hl => match us,hl with | [_,_,_,_],_ => rfl) | (exact fun _ _ _ _ _ _ us hl => match us,hl with | [_,_,_,_,_],_ => rfl) | (exact fun _ _ _ _ _ _ us hl => match us,hl with | [],_ => rfl)) :
    Fn (kH w.params) mg (Str.ofString n) (top i) ps f (fnOf (Str.ofString n) (Str.ofString n) (defArgs (top i)) (defBody (top i)) (defScope (top i)) .none .none .none (.str (Str.ofString m) t) none (.ref c) .none) :=
  ⟨fun_mk hl hc hk,(fun_mk (st:=top i) hl hc hk).binds hb,mg_of X G ha⟩
set_option maxHeartbeats 4000000 in
theorem allX (w : World) (mg : Str→Option Value) (fa : Addr) (h : Heap) (X : (kH w.params).In h) (G : h.Ns mainGlobals mg) (hfa : mg "law" = some (.ref fa)) :
    ∃ fd : FuncData,(∀ (s : Shared) (v : Value),BindsTo s fd ⟨[v],[]⟩ [("_law_script",v)])∧∀ base : Heap,(kH w.params).In base→base.Ns mainGlobals mg→FnOk rwX.prog w (kH w.params) mg base CX0 24 fa fd ["_law_script"] (spLaw (kH w.params)) := by
  have e:=hfa.symm.trans (mg_of X G (v:=.ref 116) (by kernel_rfl))
  cases e
  have T_is_tree:=fnX X G "is_tree" 4 "stepgrove.trees" 223 45 46 ["thing"]
  have T_refuse_no_tree:=fnX X G "refuse_no_tree" 5 "stepgrove.trees" 223 52 53 ["thing"]
  have T_parents_within:=fnX X G "parents_within" 6 "stepgrove.trees" 223 57 58 ["tree"]
  have T_parting_change:=fnX X G "parting_change" 8 "stepgrove.orders" 247 62 63 ["tree"]
  have T__law_cell:=fnX X G "_law_cell" 10 "law_stepgrove_k50_parting_changes" 255 69 70 ["_law_script", "_law_k"]
  have T__law_kept:=fnX X G "_law_kept" 11 "law_stepgrove_k50_parting_changes" 255 74 75 ["_law_tree"]
  have T__law_longer:=fnX X G "_law_longer" 12 "law_stepgrove_k50_parting_changes" 255 79 80 ["_law_tree"]
  have T__law_trees:=fnX X G "_law_trees" 13 "law_stepgrove_k50_parting_changes" 255 86 87 ["_law_most"]
  have T__law_is:=fnX X G "_law_is" 14 "law_stepgrove_k50_parting_changes" 255 91 92 ["_law_found"]
  have T__law_numbered:=fnX X G "_law_numbered" 15 "law_stepgrove_k50_parting_changes" 255 98 99 ["_law_tree", "_law_place", "_law_rows"]
  have T__law_due:=fnX X G "_law_due" 16 "law_stepgrove_k50_parting_changes" 255 103 104 ["_law_tree"]
  have T__law_whole:=fnX X G "_law_whole" 17 "law_stepgrove_k50_parting_changes" 255 108 109 ["_law_told"]
  have T_law:=fnX X G "law" 18 "law_stepgrove_k50_parting_changes" 255 115 116 ["_law_script"]
  have z_len : mg "len" = none:=mg_none_of X G (by kernel_rfl)
  have z_range : mg "range" = none:=mg_none_of X G (by kernel_rfl)
  have z_isinstance : mg "isinstance" = none:=mg_none_of X G (by kernel_rfl)
  have z_int : mg "int" = none:=mg_none_of X G (by kernel_rfl)
  have z_bool : mg "bool" = none:=mg_none_of X G (by kernel_rfl)
  have z_tuple : mg "tuple" = none:=mg_none_of X G (by kernel_rfl)
  have z_enumerate : mg "enumerate" = none:=mg_none_of X G (by kernel_rfl)
  have z_sorted : mg "sorted" = none:=mg_none_of X G (by kernel_rfl)
  have z_set : mg "set" = none:=mg_none_of X G (by kernel_rfl)
  have a_GroveError : PySem.W.nsIn (kH w.params) mainGlobals "GroveError" = some (some (.ref 24)) := by kernel_rfl
  have a_NoTree : PySem.W.nsIn (kH w.params) mainGlobals "NoTree" = some (some (.ref 37)) := by kernel_rfl
  have m_GroveError:=PySem.W.mg_of X G a_GroveError
  have m_NoTree:=PySem.W.mg_of X G a_NoTree
  have X_NoTree : Exc (kH w.params) mg "NoTree" 37:=⟨m_NoTree,by kernel_rfl⟩
  have be_NoTree : Beneath (kH w.params) 37 24 true:=⟨by kernel_rfl,by kernel_rfl,by kernel_rfl,by kernel_rfl⟩
  have xk_NoTree : ExcK (kH w.params) 37:=⟨by kernel_rfl,by kernel_rfl,by kernel_rfl,by kernel_rfl,by kernel_rfl,by kernel_rfl,by kernel_rfl,by kernel_rfl⟩
  have tV_NoTree : PySem.W.kitOne (kH w.params) (.ref 37) (.type "ValueError") = some true := by kernel_rfl
  have t_NoTree_GroveError : PySem.W.kitOne (kH w.params) (.ref 37) (.ref 24) = some true := by kernel_rfl
  have t_NoTree_NoTree : PySem.W.kitOne (kH w.params) (.ref 37) (.ref 37) = some true := by kernel_rfl
  have hK : noLst (kH w.params) = true := by kernel_rfl
  refine ⟨fnOf (Str.ofString "law") (Str.ofString "law") (defArgs (top 18)) (defBody (top 18)) (defScope (top 18)) .none .none .none (.str (Str.ofString "law_stepgrove_k50_parting_changes") 255) none (.ref 115) .none,fun s v => .of_eq rfl,fun base _ _ => ?_⟩
  have G_is_tree:=toIt (ok_is_treeD (P:=rwX.prog) (w:=w) (base := base) T_is_tree z_isinstance z_tuple z_enumerate 13)
  have G_refuse_no_tree:=ox_refuse_no_tree (P:=rwX.prog) (w:=w) (base := base) (k:=13) T_refuse_no_tree T_is_tree (G_is_tree.mono) X_NoTree
  have G_parents_within:=od_parents_within (P:=rwX.prog) (w:=w) (base := base) (k:=0) T_parents_within z_len 9
  have G_parting_change:=od_parting_change (P:=rwX.prog) (w:=w) (base := base) (k:=14) T_parting_change T_parents_within (G_parents_within.mono) T_refuse_no_tree (G_refuse_no_tree.mono) z_len z_range z_tuple
  have G__law_cell:=od__law_cell (P:=rwX.prog) (w:=w) (base := base) (k:=0) T__law_cell z_len
  have G__law_kept:=od__law_kept (P:=rwX.prog) (w:=w) (base := base) (k:=0) T__law_kept z_sorted z_tuple 9
  have G__law_longer:=od__law_longer (P:=rwX.prog) (w:=w) (base := base) (k:=10) T__law_longer T__law_kept (G__law_kept.mono) z_len z_range 9
  have G__law_trees:=od__law_trees (P:=rwX.prog) (w:=w) (base := base) (k:=20) T__law_trees T__law_longer (G__law_longer.mono) z_range z_set z_sorted
  have G__law_is:=od__law_is (P:=rwX.prog) (w:=w) (base := base) (k:=0) T__law_is z_bool z_int z_isinstance z_len z_tuple
  have G__law_whole:=od__law_whole (P:=rwX.prog) (w:=w) (base := base) (k:=1) T__law_whole T__law_is (G__law_is.mono) z_bool z_isinstance z_len
  have g_num:=ok__law_numbered (P:=rwX.prog) (w:=w) (base := base) T__law_numbered 8
  have G__law_due:=toDue (ok__law_due T__law_due T__law_numbered g_num z_range z_tuple z_int)
  have G_law:=od_law (P:=rwX.prog) (w:=w) (base := base) (k:=23) T_law T__law_cell (G__law_cell.mono) T__law_due (G__law_due.mono) T__law_trees (G__law_trees.mono) T__law_whole (G__law_whole.mono) T_parting_change (G_parting_change.mono) z_isinstance z_len z_tuple
  exact ok_law hK G_law
theorem walkX : WalkO qX [] (XL qX []) hX.says rwX.row.toRowW dX [] (fun f vs => PySem.call f vs) :=
  L2.walk_of (l:=rwX) (n:=63) (k:=24) (x := "_law_script") (CX:=fun _ => CX0) (K:=kH) (sp:=fun w => spLaw (kH w.params)) rfl (by decide) rfl ⟨rfl,by decide,by decide⟩ (fun w h Y => kIn_of Y) allX (fun _ _ a ns hl _ hS => ⟨a,ns,rfl,hS,hl,fun _ => rfl⟩) fun _ _ _ _ _ z => z
end
end Q50
open PySem PySem.W PyProof.Rows
set_option maxRecDepth 100000 in
theorem PySem.Challenge.cw_stepgrove_k50_parting_changes_holds : PySem.Challenge.rw_stepgrove_k50_parting_changes.Holds := by
  refine Q50.openX ?hw Q50.walkX
  w_witness2
#print axioms PySem.Challenge.cw_stepgrove_k50_parting_changes_holds
