import PyProof.Rows.All
import Wide.All
import OpenK.AllK
import Wide.FinOn
import Lean
import PyProof.EqAt
import PyProof.EqKinds
import PyProof.TupleCall
import PySem.Challenge.RW_stepgrove_k78_trees_as_texts
set_option Elab.async false
set_option linter.all false
set_option maxRecDepth 100000
namespace L2
open PySem PySem.Spec PyProof.Rows
abbrev Key:=Sum Int Str
def keyIs : Key→Value→Bool
  | .inl k,v => Value.isInt k v
  | .inr x,v => Value.isStrOf x v
def keyH (w : World) : Key→Int
  | .inl k => hashInt k
  | .inr x => hashStr w x
theorem keyIs_shape : ∀ {k : Key} {v : Value},keyIs k v = true→(∃ i t,k = Sum.inl i∧v = Value.int i t)∨(∃ x t,k = Sum.inr x∧v = Value.str x t)
  | .inl i,v,h => by
    obtain ⟨t,e⟩:=Value.isInt_shape (k:=i) (v:=v) h
    exact .inl ⟨i,t,rfl,e⟩
  | .inr x,v,h => by
    obtain ⟨t,e⟩:=Value.isStrOf_shape (x:=x) (v:=v) h
    exact .inr ⟨x,t,rfl,e⟩
theorem key_ll (a b : Int) : decide ((Sum.inl a : Key) = Sum.inl b) = (a == b) := by
  by_cases e : a = b
  · subst e; simp
  · have h : ¬ (Sum.inl a : Key) = Sum.inl b:=fun q => e (Sum.inl.inj q)
    rw [decide_eq_false h]
    exact (beq_eq_false_iff_ne.mpr e).symm
theorem key_rr (a b : Str) : decide ((Sum.inr a : Key) = Sum.inr b) = decide (a = b) := by
  by_cases e : a = b
  · subst e; simp
  · have h : ¬ (Sum.inr a : Key) = Sum.inr b:=fun q => e (Sum.inr.inj q)
    rw [decide_eq_false h,decide_eq_false e]
theorem key_lr (a : Int) (b : Str) : decide ((Sum.inl a : Key) = Sum.inr b) = false:=decide_eq_false (fun q => nomatch q)
theorem key_rl (a : Str) (b : Int) : decide ((Sum.inr a : Key) = Sum.inl b) = false:=decide_eq_false (fun q => nomatch q)
def mixKind (prog : Program) (w : World) : PySem.KeyKind prog w Key where
  is:=keyIs
  hash:=keyH w
  inj:=fun v a b ha hb => by
    rcases keyIs_shape ha with ⟨i,t,rfl,rfl⟩ | ⟨x,t,rfl,rfl⟩
    · rcases keyIs_shape hb with ⟨j,u,rfl,e⟩ | ⟨y,u,rfl,e⟩
      · injection e with e1 _; rw [e1]
      · exact nomatch e
    · rcases keyIs_shape hb with ⟨j,u,rfl,e⟩ | ⟨y,u,rfl,e⟩
      · exact nomatch e
      · injection e with e1 _; rw [e1]
  byValue:=fun k v h => by
    rcases keyIs_shape h with ⟨i,t,rfl,rfl⟩ | ⟨x,t,rfl,rfl⟩ <;> rfl
  pyHash:=fun hv h => by
    rcases keyIs_shape hv with ⟨i,t,rfl,rfl⟩ | ⟨x,t,rfl,rfl⟩
    · exact wpAny_pyHash_int h
    · exact wpAny_pyHash_str h
  eqBool:=fun hu hv h => by
    rcases keyIs_shape hu with ⟨i,t,rfl,rfl⟩ | ⟨x,t,rfl,rfl⟩
    · rcases keyIs_shape hv with ⟨j,u,rfl,rfl⟩ | ⟨y,u,rfl,rfl⟩
      · rw [key_ll] at h; exact wpAny_eqBool_int h
      · rw [key_lr] at h; exact SeqAt.EqAt.int_str i t y u _ _ _ _ h
    · rcases keyIs_shape hv with ⟨j,u,rfl,rfl⟩ | ⟨y,u,rfl,rfl⟩
      · rw [key_rl] at h; exact SeqAt.EqAt.str_int x t j u _ _ _ _ h
      · rw [key_rr] at h; exact wpAny_eqBool_str h
  «strs»:=fun k x t v h => by
    rcases keyIs_shape h with ⟨i,u,rfl,e⟩ | ⟨y,u,rfl,e⟩
    · exact nomatch e
    · injection e with e1 _
      subst e1
      cases v <;> rfl
inductive V where
  | non | bl (b : Bool) | int (i : Int) | str (x : Str) | byt (b : Array UInt8) | flt (b : UInt64) | ref (a : Addr) | ty (n : String)
  deriving DecidableEq
def RelV : V→Value→Prop
  | .non,u => u = Value.none
  | .bl b,u => u = Value.bool b
  | .int i,u => ∃ t,u = Value.int i t
  | .str x,u => ∃ t,u = Value.str x t
  | .byt b,u => ∃ t,u = Value.bytes b t
  | .flt b,u => ∃ t,u = Value.float b t
  | .ref a,u => u = Value.ref a
  | .ty n,u => u = Value.type n
abbrev Vals : List V→List Value→Prop:=Paired RelV
theorem Vals.length {xs : List V} {us : List Value} (r : Vals xs us) : xs.length = us.length:=Paired.length r
theorem Vals.get : ∀ {xs : List V} {us : List Value} {i : Nat} {x : V},Vals xs us→xs[i]? = some x→∃ u,us[i]? = some u∧RelV x u
  | _,_,_,_,.nil,e => by simp at e
  | _,_,0,_,.cons r _,e => by simp at e; subst e; exact ⟨_,rfl,r⟩
  | _,_,i + 1,x,.cons _ t,e => by
    obtain ⟨u,h1,h2⟩:=Vals.get (i:=i) (x:=x) t (by simpa using e)
    exact ⟨u,by simpa using h1,h2⟩
theorem Vals.append : ∀ {xs ys : List V} {us ws : List Value},Vals xs us→Vals ys ws→Vals (xs ++ ys) (us ++ ws)
  | _,_,_,_,.nil,s => s
  | _,_,_,_,.cons r t,s => .cons r (Vals.append t s)
theorem Vals.take : ∀ {xs : List V} {us : List Value} (n : Nat),Vals xs us→Vals (xs.take n) (us.take n)
  | _,_,0,_ => .nil
  | _,_,_ + 1,.nil => .nil
  | _,_,n + 1,.cons r t => .cons r (Vals.take n t)
theorem Vals.drop : ∀ {xs : List V} {us : List Value} (n : Nat),Vals xs us→Vals (xs.drop n) (us.drop n)
  | _,_,0,r => r
  | _,_,_ + 1,.nil => .nil
  | _,_,n + 1,.cons _ t => Vals.drop n t
def RelO : Option V→Option Value→Prop
  | some v,some u => RelV v u
  | none,none => True
  | _,_ => False
def KV {κ : Type} : List (κ×V)→List (κ×Value)→Prop:=Paired fun (p : κ×V) (q : κ×Value) => p.1 = q.1∧RelV p.2 q.2
def kV : Key→V
  | .inl i => .int i
  | .inr x => .str x
inductive HO where
  | lst (xs : List V)
  | tup (xs : List V)
  | dK (kvs : List (Key×V)) | dT (kvs : List (List Key×V))
  | set (S : Int→Bool) (n : Nat)
  | ins (C dx : Addr) (fs : List (Str×V))
  | own (x : Addr)
  | xd (fs : List (Str×V))
  | met (f x : Addr)
  | rng (lo hi : Int)
  | frz (o : Obj) (u : HO)
  | tbl (ps : Array Value)
  | ext (φ : Heap→Prop)
abbrev Hp:=Addr→Option HO
def upd (H : Hp) (a : Addr) (o : HO) : Hp:=fun b => if b = a then some o else H b
theorem upd_same {H : Hp} {a : Addr} {o : HO} : upd H a o a = some o := by unfold upd; rw [if_pos rfl]
theorem upd_ne {H : Hp} {a b : Addr} {o : HO} (h : b≠a) : upd H a o b = H b := by unfold upd; rw [if_neg h]
theorem ne_of {H : Hp} {a b : Addr} {o u : HO} (h : H a = some o) (h' : H b = some u) (d : o≠u) : a≠b := by
  intro e; subst e; rw [h] at h'; exact d (Option.some.inj h')
theorem ne_of_none {H : Hp} {a b : Addr} {o : HO} (h : H a = some o) (h' : H b = none) : a≠b := by
  intro e; subst e; rw [h] at h'; cases h'
section
variable (P : Program) (w : World)
def ObjOk (H : Hp) (h : Heap) (a : Addr) : HO→Prop
  | .lst xs => xs.length≤sizeLine∧∃ (its : List Value) (n : Nat),Vals xs its∧h.get? a = some { cls:=.type "list",data:=.seq its.toArray n }
  | .tup xs => xs.length≤sizeLine∧∃ its : List Value,Vals xs its∧IsTup h a its.toArray
  | .dK kvs => kvs.length≤sizeLine∧(a == sysModules) = false∧∃ vs,KV kvs vs∧h.DictOf (mixKind P w) a vs
  | .dT kvs => kvs.length≤sizeLine∧(a == sysModules) = false∧∃ xs : List (List Key×Addr×Value),
      Paired (fun (p : List Key×V) (q : List Key×Addr×Value) => p.1 = q.1∧H q.2.1 = some (.tup (p.1.map kV))∧RelV p.2 q.2.2) kvs xs ∧
      ∃ o es ep,h.get? a = some o∧o.ExactDict∧o.data = .dict es ep∧es.toList = xs.map (entryOfKey (tupleKind (mixKind P w)))∧(xs.map (·.1)).Nodup
  | .set S n => h.SetOf (intKind P w) a S n
  | .ins C dx fs => H dx = some (.own a)∧fs.length≤1000∧dx≠a∧h.get? a = some (PySem.W.instObj C dx) ∧
      ∃ mA,h.Ns1 dx mA∧(∀ f,RelO (fs.lookup f) (mA f))∧PySem.Within mA (fs.map (·.1))
  | .own _ => ∃ o,h.get? a = some o
  | .xd fs => ∃ mA,h.Ns1 a mA∧∀ f,RelO (fs.lookup f) (mA f)
  | .rng lo hi => ∃ t u v,h.get? a = some { cls:=.type "range",data:=.fields #[.int lo t,.int hi u,.int 1 v] }
  | .frz o u => h.get? a = some o∧ObjOk H h a u
  | .tbl ps => h.get? a = some { cls:=.none,data:=.fields ps }
  | .met f x => h.get? a = some (PySem.W.methodObj (.ref f) (.ref x))
  | .ext φ => φ h∧(∃ o,h.get? a = some o)∧∀ h1 h2 : Heap,φ h1→(∀ o,h1.get? a = some o→h2.get? a = some o)→φ h2
def HOk (H : Hp) (h : Heap) : Prop:=∀ a o,H a = some o→ObjOk P w H h a o
end
section
variable {P : Program} {w : World} {H H' : Hp} {h h' : Heap} {a : Addr} {o : HO}
theorem ObjOk.lt (x : ObjOk P w H h a o) : a < h.objs.size := by
  cases o with
  | lst xs => obtain ⟨_,_,_,_,e⟩:=x; exact Heap.lt_size e
  | tup xs => obtain ⟨_,_,_,p⟩:=x; exact p.lt
  | dK kvs => obtain ⟨_,_,_,_,o,_,_,e,_⟩:=x; exact Heap.lt_size e
  | dT kvs => obtain ⟨_,_,_,_,o,_,_,e,_⟩:=x; exact Heap.lt_size e
  | set S n => obtain ⟨o,_,_,_,e,_⟩:=x; exact Heap.lt_size e
  | ins C dx fs => obtain ⟨_,_,_,e,_⟩:=x; exact Heap.lt_size e
  | own y => obtain ⟨_,e⟩:=x; exact Heap.lt_size e
  | xd fs => obtain ⟨_,⟨_,_,_,e,_⟩,_⟩:=x; exact Heap.lt_size e
  | rng lo hi => obtain ⟨_,_,_,e⟩:=x; exact Heap.lt_size e
  | frz ob u => obtain ⟨e,_⟩:=x; exact Heap.lt_size e
  | tbl ps => exact Heap.lt_size (show h.get? a = some _ from x)
  | met f y => exact Heap.lt_size (show h.get? a = some _ from x)
  | ext φ => obtain ⟨_,⟨_,e⟩,_⟩:=x; exact Heap.lt_size e
theorem Paired.mapP {α β : Type} {F G : α→β→Prop} : ∀ {l₁ : List α} {l₂ : List β},Paired F l₁ l₂→(∀ a b,F a b→G a b)→Paired G l₁ l₂
  | _,_,.nil,_ => .nil
  | _,_,.cons r t,f => .cons (f _ _ r) (Paired.mapP t f)
theorem ObjOk.stay (x : ObjOk P w H h a o) (k : ∀ b u,(b = a∨H b = some (.own a))→h.get? b = some u→h'.get? b = some u)
    (ho : ∀ b,H b = some (.own a)→H' b = some (.own a)) (ht : ∀ b xs,H b = some (.tup xs)→H' b = some (.tup xs)) : ObjOk P w H' h' a o := by
  induction o with
  | lst xs => obtain ⟨z,its,n,r,e⟩:=x; exact ⟨z,its,n,r,k _ _ (.inl rfl) e⟩
  | tup xs => obtain ⟨z,its,r,ob,e,c⟩:=x; exact ⟨z,its,r,ob,k _ _ (.inl rfl) e,c⟩
  | dK kvs => obtain ⟨z,y,vs,r,ob,es,ep,e,c⟩:=x; exact ⟨z,y,vs,r,ob,es,ep,k _ _ (.inl rfl) e,c⟩
  | dT kvs =>
    obtain ⟨z,y,xs,r,ob,es,ep,e,c⟩:=x
    exact ⟨z,y,xs,Paired.mapP r fun p q z => ⟨z.1,ht _ _ z.2.1,z.2.2⟩,ob,es,ep,k _ _ (.inl rfl) e,c⟩
  | set S n => obtain ⟨ob,es,ep,t,e,c⟩:=x; exact ⟨ob,es,ep,t,k _ _ (.inl rfl) e,c⟩
  | ins C dx fs =>
    obtain ⟨d,z,ne,e,mA,⟨od,es,ep,e2,c⟩,r⟩:=x
    exact ⟨ho _ d,z,ne,k _ _ (.inl rfl) e,mA,⟨od,es,ep,k _ _ (.inr d) e2,c⟩,r⟩
  | own y => obtain ⟨ob,e⟩:=x; exact ⟨ob,k _ _ (.inl rfl) e⟩
  | xd fs => obtain ⟨mA,⟨od,es,ep,e,c⟩,r⟩:=x; exact ⟨mA,⟨od,es,ep,k _ _ (.inl rfl) e,c⟩,r⟩
  | rng lo hi => obtain ⟨t,u,v,e⟩:=x; exact ⟨t,u,v,k _ _ (.inl rfl) e⟩
  | frz ob u ih => obtain ⟨e,q⟩:=x; exact ⟨k _ _ (.inl rfl) e,ih q⟩
  | tbl ps =>
    have e : h.get? a = some { cls:=.none,data:=.fields ps }:=x
    show h'.get? a = some { cls:=.none,data:=.fields ps }
    exact k a _ (.inl rfl) e
  | met f y =>
    have e : h.get? a = some (PySem.W.methodObj (.ref f) (.ref y)):=x
    show h'.get? a = some (PySem.W.methodObj (.ref f) (.ref y))
    exact k a _ (.inl rfl) e
  | ext φ => obtain ⟨p,⟨o,e⟩,st⟩:=x; exact ⟨st _ _ p fun o q => k _ _ (.inl rfl) q,⟨o,k _ _ (.inl rfl) e⟩,st⟩
theorem HOk.lt (x : HOk P w H h) (e : H a = some o) : a < h.objs.size:=(x a o e).lt
theorem HOk.fresh (x : HOk P w H h) (e : h.objs.size≤a) : H a = none := by
  cases q : H a with
  | none => rfl
  | some u => exact absurd (Nat.lt_of_lt_of_le (x.lt q) e) (Nat.lt_irrefl _)
theorem HOk.kept (x : HOk P w H h) (k : ∀ b u,h.get? b = some u→h'.get? b = some u) : HOk P w H h':=fun a o e =>
  (x a o e).stay (fun b u _ q => k b u q) (fun _ q => q) fun _ _ q => q
theorem HOk.laid (x : HOk P w H h) (k : ∀ b u,h.get? b = some u→h'.get? b = some u) (hp : h.objs.size≤a) (new : ObjOk P w (upd H a o) h' a o) : HOk P w (upd H a o) h':=fun b u e => by
  have hn:=x.fresh hp
  by_cases hb : b = a
  · subst hb; rw [upd_same] at e; cases e; exact new
  · rw [upd_ne hb] at e
    exact (x b u e).stay (fun c v _ q => k c v q) (fun c q => by rw [upd_ne (ne_of_none q hn)]; exact q) fun c xs q => by rw [upd_ne (ne_of_none q hn)]; exact q
end
def Rd (H : Hp) (a : Addr) (u : HO) : Prop:=H a = some u∨∃ o,H a = some (.frz o u)
theorem Rd.ok {P : Program} {w : World} {H : Hp} {h : Heap} {a : Addr} {u : HO} (r : Rd H a u) (x : HOk P w H h) : ObjOk P w H h a u := by
  rcases r with r | ⟨o,r⟩
  · exact x a u r
  · obtain ⟨_,q⟩:=x a _ r
    exact q
def Mut : Option HO→Prop
  | some (.lst _) => True
  | some (.dK _) => True
  | some (.dT _) => True
  | some (.set _ _) => True
  | some (.ins _ _ _) => True
  | some (.ext _) => True
  | _ => False
section
variable {P : Program} {w : World} {H : Hp} {h h' : Heap} {x e : Addr} {o' : HO}
theorem HOk.write (ok : HOk P w H h) (mu : Mut (H x)) (he : e = x∨H e = some (.own x)) (k : ∀ b u,b≠e→h.get? b = some u→h'.get? b = some u) (heo : ∃ u,h'.get? e = some u)
    (new : ObjOk P w (upd H x o') h' x o') : HOk P w (upd H x o') h':=fun b u q => by
  have nown : ∀ c y,H c = some (.own y)→c≠x:=fun c y r z => by subst z; rw [r] at mu; exact mu
  have ntup : ∀ c xs,H c = some (.tup xs)→c≠x:=fun c xs r z => by subst z; rw [r] at mu; exact mu
  by_cases hb : b = x
  · subst hb; rw [upd_same] at q; cases q; exact new
  · rw [upd_ne hb] at q
    by_cases hbe : b = e
    · have q' : H b = some (.own x) := by
        rcases he with z | z
        · exact absurd (hbe.trans z) hb
        · rw [hbe]; exact z
      rw [q] at q'; cases q'
      obtain ⟨v,hv⟩:=heo
      exact ⟨v,by rw [hbe]; exact hv⟩
    · refine (ok b u q).stay (fun c v hc r => k c v ?_ r) (fun c r => by rw [upd_ne (nown c b r)]; exact r) fun c xs r => by rw [upd_ne (ntup c xs r)]; exact r
      rcases hc with rfl | hc
      · exact hbe
      · rintro rfl
        rcases he with z | z
        · exact nown c b hc z
        · rw [hc] at z; cases z; exact hb rfl
end
structure Un (fs ex : List Addr) (H H' : Hp) (h h' : Heap) : Prop where
  keep : ∀ b o,h.get? b = some o→H b = none→b ∉ fs→b ∉ ex→h'.get? b = some o
  slot : ∀ b o,h.get? b = some o→H b = none→b∈fs→b ∉ ex→∃ sl,h'.get? b = some { o with slots:=sl }
  free : ∀ b o,h.get? b = some o→H b = none→b ∉ ex→H' b = none
  there : ∀ b o,h.get? b = some o→b ∉ ex→∃ o',h'.get? b = some o'
  tups : ∀ b xs,H b = some (.tup xs)→H' b = some (.tup xs)
  frzs : ∀ b o u,H b = some (.frz o u)→H' b = some (.frz o u)
  tbls : ∀ b ps,H b = some (.tbl ps)→∃ more,H' b = some (.tbl (ps ++ more))
  tupo : ∀ b xs o,H b = some (.tup xs)→h.get? b = some o→b ∉ ex→h'.get? b = some o
section
variable {fs ex : List Addr} {H H1 : Hp} {h h1 h' : Heap} {a x e : Addr} {o : HO}
theorem Un.any (u : Un fs ex H H1 h h1) {b : Addr} {ob : Obj} (q : h.get? b = some ob) (n : H b = none) (hx : b ∉ ex) : ∃ sl,h1.get? b = some { ob with slots:=sl } := by
  by_cases hb : b∈fs
  · exact u.slot b ob q n hb hx
  · exact ⟨ob.slots,u.keep b ob q n hb hx⟩
theorem Un.kept (k : ∀ b u,h.get? b = some u→h'.get? b = some u) : Un fs ex H H h h' :=
  ⟨fun b ob q _ _ _ => k b ob q,fun b ob q _ _ _ => ⟨ob.slots,k b ob q⟩,fun _ _ _ n _ => n,fun b ob q _ => ⟨ob,k b ob q⟩,fun _ _ q => q,fun _ _ _ q => q,fun _ ps q => ⟨#[],by rw [q]; simp⟩,fun _ _ ob _ e _ => k _ ob e⟩
theorem Un.refl : Un fs ex H H h h:=Un.kept fun _ _ q => q
theorem Un.laid (k : ∀ b u,h.get? b = some u→h'.get? b = some u) (hp : h.objs.size≤a) (hn : H a = none) : Un fs ex H (upd H a o) h h' where
  keep:=fun b u q _ _ _ => k b u q
  slot:=fun b u q _ _ _ => ⟨u.slots,k b u q⟩
  free:=fun b u q n _ => by rw [upd_ne (Nat.ne_of_lt (Nat.lt_of_lt_of_le (Heap.lt_size q) hp))]; exact n
  there:=fun b u q _ => ⟨u,k b u q⟩
  tups:=fun b xs q => by rw [upd_ne (ne_of_none q hn)]; exact q
  frzs:=fun b u xs q => by rw [upd_ne (ne_of_none q hn)]; exact q
  tbls:=fun b ps q => ⟨#[],by rw [upd_ne (ne_of_none q hn),q]; simp⟩
  tupo:=fun b _ u _ e _ => k b u e
theorem Un.write (mu : Mut (H x)) (he : e = x∨H e = some (.own x)) (k : ∀ b u,b≠e→h.get? b = some u→h'.get? b = some u) (heo : ∃ u,h'.get? e = some u) : Un fs ex H (upd H x o) h h' := by
  have hx : ∀ b,H b = none→b≠x:=fun b n z => by subst z; rw [n] at mu; exact mu
  have hb : ∀ b,H b = none→b≠e:=fun b n z => by
    subst z
    rcases he with r | r
    · exact hx b n r
    · rw [n] at r; cases r
  have hm : ∀ b u,H b = some u→¬ Mut (some u)→b≠x:=fun b u q nm z => by subst z; rw [q] at mu; exact nm mu
  refine ⟨fun b u q n _ _ => k b u (hb b n) q,fun b u q n _ _ => ⟨u.slots,k b u (hb b n) q⟩,fun b u q n _ => by rw [upd_ne (hx b n)]; exact n,fun b u q _ => ?_,
    fun b xs q => by rw [upd_ne (hm b _ q fun z => z)]; exact q,fun b u xs q => by rw [upd_ne (hm b _ q fun z => z)]; exact q,fun b ps q => ⟨#[],by rw [upd_ne (hm b _ q fun z => z),q]; simp⟩,fun b xs u q e _ => k b u (fun z => by
      rcases he with r | r
      · exact hm b _ q (fun z => z) (z.trans r)
      · rw [← z,q] at r; cases r) e⟩
  by_cases hbe : b = e
  · subst hbe; exact heo
  · exact ⟨u,k b u hbe q⟩
end
def trk (h : Heap) (H : Hp) : List Addr:=(List.range h.objs.size).filter fun a => (H a).isSome
def hidT (h : Heap) (H : Hp) : Heap:=PySem.W.hideAll h (trk h H)
theorem hidT_size (h : Heap) (H : Hp) : (hidT h H).objs.size = h.objs.size:=PySem.W.hideAll_size _ _
theorem hidT_get {h : Heap} {H : Hp} {b : Addr} {o : Obj} (e : h.get? b = some o) (n : H b = none) : (hidT h H).get? b = some o :=
  PySem.W.hideAll_get _ e fun hm => by
    have q : (H b).isSome = true:=(List.mem_filter.mp hm).2
    rw [n] at q; simp at q
theorem of_hidT {h : Heap} {H : Hp} {b : Addr} {o : Obj} (e : (hidT h H).get? b = some o) : h.get? b = some o∧H b = none := by
  have e' : h.get? b = some o:=PySem.W.of_hideAll (trk h H) e
  refine ⟨e',?_⟩
  cases q : H b with
  | none => rfl
  | some x =>
    have hm : b∈trk h H:=List.mem_filter.mpr ⟨List.mem_range.mpr (Heap.lt_size e'),by simp [q]⟩
    have z : (hidT h H).get? b = none:=PySem.W.hideAll_none (trk h H) hm
    rw [z] at e; cases e
structure Mod (K : PySem.W.Frag) (mg : Str→Option Value) (base : Heap) : Prop where
  kin : K.In base
  glob : base.Ns mainGlobals mg
  blt : ∃ mb,base.Ns builtinsNs mb∧∀ x : Str,x ≠ "__name__" → mb x = bootBuiltins x
  nolimit : base.NoLimit
def tbT (d : Nat) : List (List V):=[[],[.ref (d + 1)],[.int 1,.int 1],[.ref (d + 3)],[.ref (d + 2),.ref (d + 4)],[],[.int 1,.int 2],[.ref (d + 7)],[.ref (d + 6),.ref (d + 8)],[.int 0,.int 1],[.int 1,.int 1],[.ref (d + 10),.ref (d + 11)],[.ref (d + 9),.ref (d + 12)],[],[.int 1,.int 1],[.ref (d + 15)],[.ref (d + 14),.ref (d + 16)],[.int 1,.int 2],[.int 1,.int 2],[.ref (d + 18),.ref (d + 19)],[.ref (d + 17),.ref (d + 20)],[],[.int 1,.int 3],[.ref (d + 23)],[.int 0,.int 1],[.int 2,.int 3],[.ref (d + 25),.ref (d + 26)],[.ref (d + 22),.ref (d + 24),.ref (d + 27)],[.int 1,.int 4],[.int 0,.int 1],[.int 3,.int 4],[.ref (d + 29),.ref (d + 30),.ref (d + 31)],[.ref (d + 28),.ref (d + 32)],[],[.int 1,.int 2],[.ref (d + 35)],[.int 0,.int 1],[.int 1,.int 2],[.ref (d + 37),.ref (d + 38)],[.int 0,.int 1],[.int 0,.int 1],[.int 1,.int 1],[.ref (d + 40),.ref (d + 41),.ref (d + 42)],[.ref (d + 34),.ref (d + 36),.ref (d + 39),.ref (d + 43)],[.int 1,.int 6],[.int 1,.int 3],[.int 1,.int 3],[.int 1,.int 6],[.ref (d + 45),.ref (d + 46),.ref (d + 47),.ref (d + 48)],[.ref (d + 44),.ref (d + 49)]]
def tbK (d : Nat) : List (Key×V):=[(.inr "plain",.ref (d + 5)),(.inr "middle",.ref (d + 13)),(.inr "heel",.ref (d + 21)),(.inr "third",.ref (d + 33)),(.inr "fourth",.ref (d + 50))]
def KTb (mg : Str→Option Value) (H : Hp) : Prop:=∀ d : Addr,mg "NAMED_TABLES" = some (.ref d)→(∃ o,H d = some (.frz o (.dK (tbK d))))∧∀ j xs,(tbT d)[j]? = some xs→H (d + 1 + j) = some (.tup xs)
theorem KTb.un {mg : Str→Option Value} {fs ex : List Addr} {H H' : Hp} {h h' : Heap} (k : KTb mg H) (u : Un fs ex H H' h h') : KTb mg H':=fun d e => by
  obtain ⟨⟨o,h1⟩,h2⟩:=k d e
  exact ⟨⟨o,u.frzs _ _ _ h1⟩,fun j xs q => u.tups _ _ (h2 j xs q)⟩
structure Cx where
  prog : Program
  w : World
  K : PySem.W.Frag
  mg : Str→Option Value
  base : Heap
  A : Around
  N : List Str
  s₀ : Shared
  H₀ : Hp
  env : Env
  outer : List Env
  stack : List Env
  ex : List Addr
  fn : Str→Bool
  calm : Bool
  pn : List (Addr×Obj)
  xe : Value→Shared→Prop
def frs (l : List Env) : List Addr:=l.filterMap (·.frame)
abbrev Cx.fs (X : Cx) : List Addr:=frs X.outer
def Vis (sc : Scope) (x : Str) : Prop:=sc.names.lookup x = some .local∨sc.names.lookup x = some .cell∨sc.names.lookup x = some .free
def Loc (sc : Scope) (x : Str) : Prop:=sc.names.lookup x = some .local∨sc.names.lookup x = some .cell
def Look (env : Env) (h : Heap) (m : Str→Option Value) (x : Str) (u : Value) : Prop :=
  (env.kindOf x = some .local∧m x = some u)∨((env.kindOf x = some .cell∨env.kindOf x = some .free)∧∃ c,env.cells.lookup x = some c∧h.IsCell c (some u))
structure Cx.Ok (X : Cx) : Prop where
  mod : Mod X.K X.mg X.base
  kind : X.env.scope.kind = .function
  glob : X.env.globals = mainGlobals
  blt : X.env.builtins = builtinsNs
  above : X.s₀.heap.objs.size≤X.env.locals
  inj : ∀ x y c,X.env.cells.lookup x = some c→X.env.cells.lookup y = some c→x = y
  has : ∀ x,(X.env.kindOf x = some .cell∨X.env.kindOf x = some .free)→∃ c,X.env.cells.lookup x = some c
  cab : ∀ x c,X.fn x = true→X.env.cells.lookup x = some c→X.s₀.heap.objs.size≤c
  hd : X.calm = true→X.A.handled = none
  frames : X.A.frames = some X.stack
  stk : X.stack = X.outer∨(X.stack = X.env :: X.outer∧X.env.frame = some X.env.locals)
  exf : ∀ b∈X.ex,b≠X.env.locals∧∀ x c,X.env.cells.lookup x = some c→c≠b
  bs : ∀ b o,X.base.get? b = some o→X.s₀.heap.get? b = some o∧X.H₀ b = none
  bsz : X.base.objs.size≤X.s₀.heap.objs.size
  noex : ∀ b o,X.base.get? b = some o→b ∉ X.ex
  exfs : ∀ b∈X.ex,b ∉ X.fs
  funs : X.s₀.heap.FunFrames X.base X.outer
  frf : ∀ b∈X.fs,X.H₀ b = none
  kt : KTb X.mg X.H₀
structure Inv (X : Cx) (pins : List (Addr×Obj)) (σ : List (Option V)) (H : Hp) (s : Shared) : Prop where
  ok : X.Ok
  os : s.os = X.s₀.os
  bare : AllBare s.gens
  base : Un X.fs X.ex X.H₀ H X.s₀.heap s.heap
  loc : ∃ m,s.heap.Ns X.env.locals m∧∀ (i : Nat) (x : Str) (v : V),X.N[i]? = some x→σ[i]? = some (some v)→Vis X.env.scope x→∃ u,RelV v u∧Look X.env s.heap m x u
  cell : ∀ x c,X.env.cells.lookup x = some c→∃ v,s.heap.IsCell c v
  free : H X.env.locals = none
  freeC : ∀ x c,X.env.cells.lookup x = some c→H c = none
  pin : ∀ p∈X.pn ++ pins,s.heap.get? p.1 = some p.2∧H p.1 = none∧p.1≠X.env.locals∧p.1 ∉ X.fs∧∀ v,p.2.data≠.cell v
  hok : HOk X.prog X.w H s.heap
  len : σ.length = X.N.length
theorem Inv.kt {X : Cx} {pins : List (Addr×Obj)} {σ : List (Option V)} {H : Hp} {s : Shared} (I : Inv X pins σ H s) : KTb X.mg H:=I.ok.kt.un I.base
section
variable {X : Cx} {pins : List (Addr×Obj)} {σ : List (Option V)} {H H' : Hp} {s : Shared} {h' : Heap}
theorem Cx.Ok.nofr (ok : X.Ok) {b : Addr} {o : Obj} (e : X.base.get? b = some o) : b ∉ X.fs:=fun hb => by
  have:=(ok.funs.mem hb).1
  rw [e] at this; cases this
theorem Inv.bs (I : Inv X pins σ H s) : ∀ b o,X.base.get? b = some o→s.heap.get? b = some o∧H b = none:=fun b o e =>
  ⟨I.base.keep b o (I.ok.bs b o e).1 (I.ok.bs b o e).2 (I.ok.nofr e) (I.ok.noex b o e),I.base.free b o (I.ok.bs b o e).1 (I.ok.bs b o e).2 (I.ok.noex b o e)⟩
theorem Inv.bk (I : Inv X pins σ H s) : ∀ b o,X.base.get? b = some o→s.heap.get? b = some o:=fun b o e => (I.bs b o e).1
theorem Inv.mod (I : Inv X pins σ H s) : Mod X.K X.mg X.base:=I.ok.mod
theorem Inv.kIn (I : Inv X pins σ H s) : X.K.In s.heap:=I.ok.mod.kin.keeps I.bk
theorem Inv.lt (I : Inv X pins σ H s) : X.env.locals < s.heap.objs.size:=let ⟨_,hn,_⟩:=I.loc; hn.lt
theorem Inv.sz (I : Inv X pins σ H s) : X.s₀.heap.objs.size≤s.heap.objs.size:=Nat.le_trans I.ok.above (Nat.le_of_lt I.lt)
theorem Inv.nofs (I : Inv X pins σ H s) {a : Addr} (h : s.heap.objs.size≤a) : a ∉ X.fs:=fun hb => by
  obtain ⟨_,o,ho,_⟩:=I.ok.funs.mem hb
  exact absurd (Nat.lt_of_lt_of_le (Heap.lt_size ho) (Nat.le_trans I.sz h)) (Nat.lt_irrefl _)
theorem Inv.cne (I : Inv X pins σ H s) : ∀ x c,X.env.cells.lookup x = some c→c≠X.env.locals:=fun x c e z => by
  obtain ⟨v,o,ho,hd⟩:=I.cell x c e
  obtain ⟨m,⟨o',es,ep,ho',hd',_⟩,_⟩:=I.loc
  rw [z,ho'] at ho; cases ho; rw [hd'] at hd; cases hd
theorem Inv.funs (I : Inv X pins σ H s) : s.heap.FunFrames X.base X.outer := by
  have all : ∀ (l : List Env),(∀ b∈frs l,b∈X.fs)→X.s₀.heap.FunFrames X.base l→s.heap.FunFrames X.base l := by
    intro l
    induction l with
    | nil => intro _ _; trivial
    | cons env r ih =>
      intro hs hl
      obtain ⟨hk,⟨L,o,hf,hn,ho,hd⟩,hr⟩:=hl
      have hL : L∈X.fs:=hs L (by unfold frs; rw [List.filterMap_cons,hf]; exact List.mem_cons_self)
      obtain ⟨sl,e⟩:=I.base.slot L o ho (I.ok.frf L hL) hL fun z => I.ok.exfs L z hL
      exact ⟨hk,⟨L,_,hf,hn,e,hd⟩,ih (fun b hb => hs b (by unfold frs; rw [List.filterMap_cons,hf]; exact List.mem_cons_of_mem _ hb)) hr⟩
  exact all X.outer (fun _ hb => hb) I.ok.funs
theorem Inv.stack (I : Inv X pins σ H s) : s.heap.FunFrames X.base X.stack := by
  rcases I.ok.stk with e | ⟨e,hf⟩
  · rw [e]; exact I.funs
  · rw [e]
    obtain ⟨m,hn,_⟩:=I.loc
    refine .cons (by rw [I.ok.kind]; decide) hf hn ?_ I.funs
    exact Heap.get?_none_of_le (Nat.le_trans I.ok.bsz I.ok.above)
theorem Inv.stkSub (I : Inv X pins σ H s) : ∀ b∈frs X.stack,b∈X.env.locals :: X.fs:=fun b hb => by
  rcases I.ok.stk with e | ⟨e,hf⟩
  · rw [e] at hb; exact List.mem_cons_of_mem _ hb
  · rw [e] at hb
    unfold frs at hb
    rw [List.filterMap_cons,hf] at hb
    exact hb
theorem Inv.stkFree (I : Inv X pins σ H s) : ∀ b∈frs X.stack,H b = none:=fun b hb => by
  rcases List.mem_cons.mp (I.stkSub b hb) with e | hb
  · rw [e]; exact I.free
  · obtain ⟨_,o,ho,_⟩:=I.ok.funs.mem hb
    exact I.base.free b o ho (I.ok.frf b hb) fun z => I.ok.exfs b z hb
theorem Inv.step {g' : Array GenState} {t' : Nat} {d' : Drawn} {ch : List Addr} (I : Inv X pins σ H s)
    (hch : ∀ b∈ch,(b∈X.ex∨X.s₀.heap.objs.size≤b)∧b≠X.env.locals∧(∀ x c,X.env.cells.lookup x = some c→c≠b)∧∀ p∈X.pn ++ pins,p.1≠b)
    (keep : ∀ b o,b≠X.env.locals→b ∉ X.fs→b ∉ ch→s.heap.get? b = some o→H b = none→h'.get? b = some o)
    (slot : ∀ b o,b≠X.env.locals→b∈X.fs→b ∉ ch→s.heap.get? b = some o→H b = none→∃ sl,h'.get? b = some { o with slots:=sl }) (free : ∀ b o,b ∉ ch→s.heap.get? b = some o→H b = none→H' b = none)
    (there : ∀ b o,b ∉ ch→s.heap.get? b = some o→∃ o',h'.get? b = some o')
    (tups : ∀ b xs,H b = some (.tup xs)→H' b = some (.tup xs)) (frzs : ∀ b o u,H b = some (.frz o u)→H' b = some (.frz o u)) (tbls : ∀ b ps,H b = some (.tbl ps)→∃ more,H' b = some (.tbl (ps ++ more)))
    (tupo : ∀ b xs o,b ∉ ch→H b = some (.tup xs)→s.heap.get? b = some o→h'.get? b = some o)
    (ns : ∀ m,s.heap.Ns X.env.locals m→h'.Ns X.env.locals m) (hok : HOk X.prog X.w H' h') (hg : AllBare g') :
    Inv X pins σ H' { s with heap:=h',gens:=g',drawn:=d',toks:=t' } := by
  have neL : ∀ b o,X.s₀.heap.get? b = some o→b≠X.env.locals:=fun b o e => Nat.ne_of_lt (Nat.lt_of_lt_of_le (Heap.lt_size e) I.ok.above)
  have neC : ∀ b o,X.s₀.heap.get? b = some o→b ∉ X.ex→b ∉ ch:=fun b o e hx hb => by
    rcases (hch b hb).1 with z | z
    · exact hx z
    · exact absurd (Nat.lt_of_lt_of_le (Heap.lt_size e) z) (Nat.lt_irrefl _)
  have cellK : ∀ x c,X.env.cells.lookup x = some c→∀ v,s.heap.IsCell c v→h'.IsCell c v:=fun x c e v ⟨o,ho,hd⟩ => by
    have nch : c ∉ ch:=fun z => (hch c z).2.2.1 x c e rfl
    by_cases hc : c∈X.fs
    · obtain ⟨sl,q⟩:=slot c o (I.cne x c e) hc nch ho (I.freeC x c e)
      exact ⟨_,q,hd⟩
    · exact ⟨o,keep c o (I.cne x c e) hc nch ho (I.freeC x c e),hd⟩
  refine ⟨I.ok,I.os,hg,⟨fun b o e n hb hx => ?_,fun b o e n hb hx => ?_,fun b o e n hx => ?_,fun b o e hx => ?_,fun b xs e => tups b xs (I.base.tups b xs e),fun b o xs e => frzs b o xs (I.base.frzs b o xs e),fun b ps e => ?_,fun b xs o q e hx => tupo b xs o (neC b o e hx) (I.base.tups b xs q) (I.base.tupo b xs o q e hx)⟩,?_,fun x c e => ?_,?_,fun x c e => ?_,fun p hp => ?_,hok,I.len⟩
  · exact keep b o (neL b o e) hb (neC b o e hx) (I.base.keep b o e n hb hx) (I.base.free b o e n hx)
  · obtain ⟨sl,e1⟩:=I.base.slot b o e n hb hx
    obtain ⟨sl',e2⟩:=slot b _ (neL b o e) hb (neC b o e hx) e1 (I.base.free b o e n hx)
    exact ⟨sl',e2⟩
  · obtain ⟨o',e1⟩:=I.base.there b o e hx
    exact free b o' (neC b o e hx) e1 (I.base.free b o e n hx)
  · obtain ⟨o',e1⟩:=I.base.there b o e hx
    exact there b o' (neC b o e hx) e1
  · obtain ⟨m1,e1⟩:=I.base.tbls b ps e
    obtain ⟨m2,e2⟩:=tbls b _ e1
    exact ⟨m1 ++ m2,by rw [e2,Array.append_assoc]⟩
  · obtain ⟨m,hn,hl⟩:=I.loc
    refine ⟨m,ns m hn,fun i x v e1 e2 e3 => ?_⟩
    obtain ⟨u,r,l⟩:=hl i x v e1 e2 e3
    refine ⟨u,r,?_⟩
    rcases l with l | ⟨k,c,e,z⟩
    · exact .inl l
    · exact .inr ⟨k,c,e,cellK x c e _ z⟩
  · obtain ⟨v,z⟩:=I.cell x c e
    exact ⟨v,cellK x c e v z⟩
  · obtain ⟨m,⟨o,_,_,ho,_⟩,_⟩:=I.loc
    exact free _ o (fun z => (hch _ z).2.1 rfl) ho I.free
  · obtain ⟨v,o,ho,hd⟩:=I.cell x c e
    exact free c o (fun z => (hch c z).2.2.1 x c e rfl) ho (I.freeC x c e)
  · obtain ⟨e,n,ne,nf,d⟩:=I.pin p hp
    have nch : p.1 ∉ ch:=fun z => (hch p.1 z).2.2.2 p hp rfl
    exact ⟨keep p.1 p.2 ne nf nch e n,free p.1 p.2 nch e n,ne,nf,d⟩
theorem Inv.un {t' : Nat} (I : Inv X pins σ H s) (u : Un X.fs [] H H' s.heap h') (hok : HOk X.prog X.w H' h') : Inv X pins σ H' { s with heap:=h',toks:=t' } := by
  obtain ⟨m,⟨o,es,ep,ho,r⟩,_⟩:=id I.loc
  obtain ⟨sl,hL⟩:=u.any ho I.free (by simp)
  exact I.step (g':=s.gens) (d':=s.drawn) (ch:=[]) (fun _ z => nomatch z) (fun b o _ hb _ e n => u.keep b o e n hb (by simp)) (fun b o _ hb _ e n => u.slot b o e n hb (by simp)) (fun b o _ e n => u.free b o e n (by simp)) (fun b o _ e => u.there b o e (by simp)) u.tups u.frzs u.tbls (fun b xs o _ q e => u.tupo b xs o q e (by simp)) (fun m' hm => by
    obtain ⟨o',es',ep',ho',r'⟩:=hm
    rw [ho] at ho'; cases ho'
    exact ⟨_,es',ep',hL,r'⟩) hok I.bare
theorem Inv.call {g' : Array GenState} {t' : Nat} {d' : Drawn} {ch : List Addr} (I : Inv X pins σ H s) (u : Un (frs X.stack) ch H H' s.heap h') (hok : HOk X.prog X.w H' h') (hg : AllBare g')
    (hch : ∀ b∈ch,(b∈X.ex∨X.s₀.heap.objs.size≤b)∧b≠X.env.locals∧(∀ x c,X.env.cells.lookup x = some c→c≠b)∧∀ p∈X.pn ++ pins,p.1≠b) :
    Inv X pins σ H' { s with heap:=h',gens:=g',drawn:=d',toks:=t' } := by
  obtain ⟨m,⟨o,es,ep,ho,r⟩,_⟩:=id I.loc
  obtain ⟨sl,hL⟩:=u.any ho I.free fun z => (hch _ z).2.1 rfl
  exact I.step (ch:=ch) hch (fun b o hL hb hc e n => u.keep b o e n (fun z => (List.mem_cons.mp (I.stkSub b z)).elim hL hb) hc) (fun b o _ _ hc e n => u.any e n hc) (fun b o hc e n => u.free b o e n hc) (fun b o hc e => u.there b o e hc) u.tups u.frzs u.tbls (fun b xs o hc q e => u.tupo b xs o q e hc) (fun m' hm => by
    obtain ⟨o',es',ep',ho',r'⟩:=hm
    rw [ho] at ho'; cases ho'
    exact ⟨_,es',ep',hL,r'⟩) hok hg
theorem Inv.turned {t' : Nat} {it : Addr} (I : Inv X pins σ H s) (k : ∀ b o,b≠it→s.heap.get? b = some o→h'.get? b = some o) (hn : H it = none) (hL : it≠X.env.locals)
    (h1 : it∈X.ex∨X.s₀.heap.objs.size≤it) (h2 : ∀ x c,X.env.cells.lookup x = some c→c≠it) (h3 : ∀ p∈X.pn ++ pins,p.1≠it) : Inv X pins σ H { s with heap:=h',toks:=t' } := by
  have nit : ∀ b u,H b = some u→b≠it:=fun b u e z => by rw [z,hn] at e; cases e
  refine I.step (g':=s.gens) (d':=s.drawn) (ch:=[it]) (fun b hb => ?_) (fun b o _ _ hc e _ => k b o (fun z => hc (by simp [z])) e) (fun b o _ _ hc e _ => ⟨o.slots,k b o (fun z => hc (by simp [z])) e⟩) (fun _ _ _ _ n => n)
    (fun b o hc e => ⟨o,k b o (fun z => hc (by simp [z])) e⟩) (fun _ _ e => e) (fun _ _ _ e => e) (fun b ps e => ⟨#[],by rw [e]; simp⟩) (fun b xs o hc _ e => k b o (fun z => hc (by simp [z])) e) (fun m hm => ?_) (fun b u e => ?_) I.bare
  · have e : b = it := by simpa using hb
    subst e
    exact ⟨h1,hL,h2,h3⟩
  · obtain ⟨o,es,ep,ho,r⟩:=hm
    exact ⟨o,es,ep,k _ o (Ne.symm hL) ho,r⟩
  · refine (I.hok b u e).stay (fun c v hc q => k c v ?_ q) (fun _ q => q) fun _ _ q => q
    rcases hc with z | z
    · rw [z]; exact nit b u e
    · exact nit c _ z
theorem Inv.tok (I : Inv X pins σ H s) (t : Nat) : Inv X pins σ H { s with toks:=t }:=I.un (h':=s.heap) (t':=t) Un.refl I.hok
theorem Inv.kept {t' : Nat} (I : Inv X pins σ H s) (k : ∀ b u,s.heap.get? b = some u→h'.get? b = some u) : Inv X pins σ H { s with heap:=h',toks:=t' }:=I.un (Un.kept k) (I.hok.kept k)
theorem Inv.laid {a : Addr} {o : HO} {t' : Nat} (I : Inv X pins σ H s) (k : ∀ b u,s.heap.get? b = some u→h'.get? b = some u) (hp : s.heap.objs.size≤a) (new : ObjOk X.prog X.w (upd H a o) h' a o) :
    Inv X pins σ (upd H a o) { s with heap:=h',toks:=t' }:=I.un (Un.laid k hp (I.hok.fresh hp)) (I.hok.laid k hp new)
theorem Inv.write {x e : Addr} {o : HO} {t' : Nat} (I : Inv X pins σ H s) (mu : Mut (H x)) (he : e = x∨H e = some (.own x)) (k : ∀ b u,b≠e→s.heap.get? b = some u→h'.get? b = some u) (heo : ∃ u,h'.get? e = some u)
    (new : ObjOk X.prog X.w (upd H x o) h' x o) : Inv X pins σ (upd H x o) { s with heap:=h',toks:=t' }:=I.un (Un.write mu he k heo) (I.hok.write mu he k heo new)
theorem Inv.pins_of {pins' : List (Addr×Obj)} (I : Inv X pins σ H s) (h : ∀ p∈pins',s.heap.get? p.1 = some p.2∧H p.1 = none∧p.1≠X.env.locals∧p.1 ∉ X.fs∧∀ v,p.2.data≠.cell v) : Inv X pins' σ H s :=
  ⟨I.ok,I.os,I.bare,I.base,I.loc,I.cell,I.free,I.freeC,fun p hp => (List.mem_append.mp hp).elim (fun z => I.pin p (List.mem_append_left _ z)) (h p),I.hok,I.len⟩
theorem nodup_ix {N : List Str} (hN : N.Nodup) {i j : Nat} {x : Str} (a : N[i]? = some x) (b : N[j]? = some x) : i = j := by
  obtain ⟨h1,e1⟩:=List.getElem?_eq_some_iff.mp a
  obtain ⟨h2,e2⟩:=List.getElem?_eq_some_iff.mp b
  exact (List.getElem_inj hN).mp (e1.trans e2.symm)
theorem store_ok2 {M : Model} {A : Around} {E : Value→Shared→Prop} {i : Nat} {x : Str} {v : V} {u : Value} {Q : Unit→Shared→Prop} (I : Inv X pins σ H s) (hN : X.N.Nodup) (hi : X.N[i]? = some x) (hx : Loc X.env.scope x) (r : RelV v u)
    (h : ∀ s',Inv X pins (σ.set i (some v)) H s'→(∃ a,Heap.SameBut a s.heap s'.heap∧(a = X.env.locals∨X.env.cells.lookup x = some a))→Q () s') (hf : X.fn x = true∨X.env.scope.names.lookup x = some .local := by first | exact .inl rfl | exact .inr rfl | assumption) : wpAny M A (storeName X.env x u) Q E s := by
  obtain ⟨m,hn,hl⟩:=id I.loc
  have hcls : (X.env.scope.kind == .class || (X.env.scope.kind == .module && X.env.locals != X.env.globals)) = false := by rw [I.ok.kind]; rfl
  have hiσ : i < σ.length := by rw [I.len]; exact (List.getElem?_eq_some_iff.mp hi).1
  have cne:=I.cne
  have tracked : ∀ {a : Addr} {h' : Heap},(∃ o,s.heap.get? a = some o∧H a = none)→Heap.SameBut a s.heap h'→HOk X.prog X.w H h':=fun {a h'} ha hs b ob e => by
    obtain ⟨_,_,hfree⟩:=ha
    refine (I.hok b ob e).stay (fun c w' hc q => (hs.2 c ?_).trans q) (fun _ q => q) fun _ _ q => q
    rintro rfl
    rcases hc with rfl | hc
    · rw [hfree] at e; cases e
    · rw [hfree] at hc; cases hc
  rcases hx with hk | hk
  · refine wpAny_storeName_local hk hn (fun h' hn' hs => ?_) hcls
    obtain ⟨oL,_,_,hoL,_⟩:=id hn
    refine h _ ⟨I.ok,I.os,I.bare,⟨fun b o e n hb hx => ?_,fun b o e n hb hx => ?_,I.base.free,fun b o e hx => ?_,I.base.tups,I.base.frzs,I.base.tbls,fun b xs o q e hx => (hs.2 b (Nat.ne_of_lt (Nat.lt_of_lt_of_le (Heap.lt_size e) I.ok.above))).trans (I.base.tupo b xs o q e hx)⟩,⟨_,hn',fun j y v' e1 e2 e3 => ?_⟩,fun y c e => ?_,I.free,I.freeC,fun p hp => ?_,tracked ⟨oL,hoL,I.free⟩ hs,by simpa using I.len⟩ ⟨_,hs,.inl rfl⟩
    · exact (hs.2 b (Nat.ne_of_lt (Nat.lt_of_lt_of_le (Heap.lt_size e) I.ok.above))).trans (I.base.keep b o e n hb hx)
    · obtain ⟨sl,e1⟩:=I.base.slot b o e n hb hx
      exact ⟨sl,(hs.2 b (Nat.ne_of_lt (Nat.lt_of_lt_of_le (Heap.lt_size e) I.ok.above))).trans e1⟩
    · obtain ⟨o',e1⟩:=I.base.there b o e hx
      exact ⟨o',(hs.2 b (Nat.ne_of_lt (Nat.lt_of_lt_of_le (Heap.lt_size e) I.ok.above))).trans e1⟩
    · by_cases hj : j = i
      · subst hj
        rw [hi] at e1; cases e1
        rw [List.getElem?_set_self hiσ] at e2
        cases e2
        exact ⟨u,r,.inl ⟨hk,by simp⟩⟩
      · rw [List.getElem?_set_ne (Ne.symm hj)] at e2
        obtain ⟨u',r',q⟩:=hl j y v' e1 e2 e3
        refine ⟨u',r',?_⟩
        rcases q with ⟨k,e⟩ | ⟨k,c,e,z⟩
        · refine .inl ⟨k,?_⟩
          have : y≠x:=fun e => hj (nodup_ix hN e1 (e ▸ hi))
          simp [this,e]
        · exact .inr ⟨k,c,e,z.sameBut hs (cne y c e)⟩
    · obtain ⟨w',z⟩:=I.cell y c e
      exact ⟨w',z.sameBut hs (cne y c e)⟩
    · obtain ⟨e,n,ne,nf,d⟩:=I.pin p hp
      exact ⟨(hs.2 p.1 ne).trans e,n,ne,nf,d⟩
  · have hfn : X.fn x = true := by
      rcases hf with z | z
      · exact z
      · rw [z] at hk; cases hk
    obtain ⟨c,hc⟩:=I.ok.has x (.inl hk)
    obtain ⟨w',z⟩:=I.cell x c hc
    refine wpAny_storeName_cell I.ok.kind hk hc z (fun h' hc' hs => ?_)
    obtain ⟨oc,hoc,hocd⟩:=id z
    refine h { s with heap:=h' } ⟨I.ok,I.os,I.bare,⟨fun b o e n hb hx => ?_,fun b o e n hb hx => ?_,I.base.free,fun b o e hx => ?_,I.base.tups,I.base.frzs,I.base.tbls,fun b xs o q e hx => (hs.2 b (Nat.ne_of_lt (Nat.lt_of_lt_of_le (Heap.lt_size e) (I.ok.cab x c hfn hc)))).trans (I.base.tupo b xs o q e hx)⟩,⟨m,hn.sameBut hs (Ne.symm (cne x c hc)),fun j y v' e1 e2 e3 => ?_⟩,fun y c' e => ?_,I.free,I.freeC,fun p hp => ?_,tracked ⟨oc,hoc,I.freeC x c hc⟩ hs,by simpa using I.len⟩ ⟨c,hs,.inr hc⟩
    · exact (hs.2 b (Nat.ne_of_lt (Nat.lt_of_lt_of_le (Heap.lt_size e) (I.ok.cab x c hfn hc)))).trans (I.base.keep b o e n hb hx)
    · obtain ⟨sl,e1⟩:=I.base.slot b o e n hb hx
      exact ⟨sl,(hs.2 b (Nat.ne_of_lt (Nat.lt_of_lt_of_le (Heap.lt_size e) (I.ok.cab x c hfn hc)))).trans e1⟩
    · obtain ⟨o',e1⟩:=I.base.there b o e hx
      exact ⟨o',(hs.2 b (Nat.ne_of_lt (Nat.lt_of_lt_of_le (Heap.lt_size e) (I.ok.cab x c hfn hc)))).trans e1⟩
    · by_cases hj : j = i
      · subst hj
        rw [hi] at e1; cases e1
        rw [List.getElem?_set_self hiσ] at e2
        cases e2
        exact ⟨u,r,.inr ⟨.inl hk,c,hc,hc'⟩⟩
      · rw [List.getElem?_set_ne (Ne.symm hj)] at e2
        obtain ⟨u',r',q⟩:=hl j y v' e1 e2 e3
        refine ⟨u',r',?_⟩
        rcases q with q | ⟨k,c',e,z'⟩
        · exact .inl q
        · refine .inr ⟨k,c',e,z'.sameBut hs ?_⟩
          rintro rfl
          exact hj (nodup_ix hN e1 (I.ok.inj _ _ _ e hc ▸ hi))
    · by_cases hcc : c' = c
      · subst hcc; exact ⟨_,hc'⟩
      · obtain ⟨w2,z2⟩:=I.cell y c' e
        exact ⟨w2,z2.sameBut hs hcc⟩
    · obtain ⟨e,n,ne,nf,d⟩:=I.pin p hp
      refine ⟨(hs.2 p.1 ?_).trans e,n,ne,nf,d⟩
      intro q
      rw [q,hoc] at e
      have q' : oc = p.2:=Option.some.inj e
      exact d w' (by rw [← q']; exact hocd)
theorem store_ok {M : Model} {A : Around} {E : Value→Shared→Prop} {i : Nat} {x : Str} {v : V} {u : Value} {Q : Unit→Shared→Prop} (I : Inv X pins σ H s) (hN : X.N.Nodup) (hi : X.N[i]? = some x) (hx : Loc X.env.scope x) (r : RelV v u)
    (h : ∀ s',Inv X pins (σ.set i (some v)) H s'→Q () s') (hf : X.fn x = true∨X.env.scope.names.lookup x = some .local := by first | exact .inl rfl | exact .inr rfl | assumption) : wpAny M A (storeName X.env x u) Q E s :=
  store_ok2 I hN hi hx r (fun s' I' _ => h s' I') hf
theorem Inv.call' {s' : Shared} {ch : List Addr} (I : Inv X pins σ H s) (ho : s'.os = s.os) (u : Un (frs X.stack) ch H H' s.heap s'.heap) (hok : HOk X.prog X.w H' s'.heap) (hg : AllBare s'.gens)
    (hch : ∀ b∈ch,(b∈X.ex∨X.s₀.heap.objs.size≤b)∧b≠X.env.locals∧(∀ x c,X.env.cells.lookup x = some c→c≠b)∧∀ p∈X.pn ++ pins,p.1≠b) : Inv X pins σ H' s' := by
  obtain ⟨h',g',d',t',o'⟩:=s'
  have e : o' = s.os:=ho
  subst e
  exact I.call (g':=g') (t':=t') (d':=d') u hok hg hch
end
abbrev XK:=Value→Option Addr→Hp→Prop
abbrev St:=List (Option V)
abbrev VK:=V→Hp→Prop
abbrev TE:=St→Hp→VK→Prop
abbrev TT:=St→Hp→(Bool→Hp→Prop)→Prop
abbrev TA:=St→Hp→(List V→Hp→Prop)→Prop
structure Ends where
  nx : St→Hp→Prop
  rt : VK
  bk : St→Hp→Prop:=fun _ _ => False
  ct : St→Hp→Prop:=fun _ _ => False
abbrev TS:=Ends→St→Hp→Prop
def EP (X : Cx) (pins : List (Addr×Obj)) (σ : St) (Q : VK) (u : Value) (s' : Shared) : Prop:=∃ v H',Inv X pins σ H' s'∧RelV v u∧Q v H'
def TP (X : Cx) (pins : List (Addr×Obj)) (σ : St) (Q : Bool→Hp→Prop) (b : Bool) (s' : Shared) : Prop:=∃ H',Inv X pins σ H' s'∧Q b H'
def AP (X : Cx) (pins : List (Addr×Obj)) (σ : St) (Q : List V→Hp→Prop) (us : List Value) (s' : Shared) : Prop:=∃ vs H',Inv X pins σ H' s'∧Vals vs us∧Q vs H'
def SP (X : Cx) (pins : List (Addr×Obj)) (D : Ends) (f : Flow) (s' : Shared) : Prop :=
  match f with
  | .next => ∃ σ' H',Inv X pins σ' H' s'∧D.nx σ' H'
  | .brk => ∃ σ' H',Inv X pins σ' H' s'∧D.bk σ' H'
  | .cont => ∃ σ' H',Inv X pins σ' H' s'∧D.ct σ' H'
  | .ret u => ∃ v σ' H',Inv X pins σ' H' s'∧RelV v u∧D.rt v H'
def PE (X : Cx) (e : Expr) (t : TE) : Prop :=
  ∀ (pins : List (Addr×Obj)) (s : Shared) (σ : St) (H : Hp) (Q : VK),Inv X pins σ H s→t σ H Q→wpAny (model X.prog X.w) X.A (eval e X.env) (EP X pins σ Q) X.xe s
def PT (X : Cx) (e : Expr) (t : TT) : Prop :=
  ∀ (pins : List (Addr×Obj)) (s : Shared) (σ : St) (H : Hp) (Q : Bool→Hp→Prop),Inv X pins σ H s→t σ H Q→wpAny (model X.prog X.w) X.A (isTrue e X.env (eval e X.env)) (TP X pins σ Q) X.xe s
def PW (X : Cx) (e : Expr) (t : TT) : Prop :=
  ∀ (whole : Sem Value) (pins : List (Addr×Obj)) (s : Shared) (σ : St) (H : Hp) (Q : Bool→Hp→Prop),Inv X pins σ H s→t σ H Q→wpAny (model X.prog X.w) X.A (isTrue e X.env whole) (TP X pins σ Q) X.xe s
theorem PW.pt {X : Cx} {e : Expr} {t : TT} (h : PW X e t) : PT X e t:=h _
def PA (X : Cx) (es : List Expr) (t : TA) : Prop :=
  ∀ (pos : Pos) (pins : List (Addr×Obj)) (s : Shared) (σ : St) (H : Hp) (Q : List V→Hp→Prop),Inv X pins σ H s→t σ H Q→wpAny (model X.prog X.w) X.A (spliced (backTo pos (starEach es X.env))) (AP X pins σ Q) X.xe s
def PS (X : Cx) (st : Stmt) (t : TS) : Prop :=
  ∀ (pins : List (Addr×Obj)) (s : Shared) (σ : St) (H : Hp) (D : Ends),Inv X pins σ H s→t D σ H→wpAny (model X.prog X.w) X.A (exec st X.env) (SP X pins D) X.xe s
def PSs (X : Cx) (st : List Stmt) (t : TS) : Prop :=
  ∀ (pins : List (Addr×Obj)) (s : Shared) (σ : St) (H : Hp) (D : Ends),Inv X pins σ H s→t D σ H→wpAny (model X.prog X.w) X.A (execs st X.env) (SP X pins D) X.xe s
theorem thn {α : Type} {t : Sem α} {Q Q' : α→Shared→Prop} {M : Model} {A : Around} {E : Value→Shared→Prop} {s : Shared} (h : wpAny M A t Q E s) (hQ : ∀ a s,Q a s→Q' a s) : wpAny M A t Q' E s:=wpAny_mono h hQ fun _ _ x => x
section
variable {X : Cx}
def tVar (i : Nat) : TE:=fun σ H Q => ∃ v,σ[i]? = some (some v)∧Q v H
def tC (v : V) : TE:=fun _ H Q => Q v H
theorem pe_var {i : Nat} {x : Str} {pos : Pos} (hN : X.N[i]? = some x) (hv : Vis X.env.scope x) (hd : (x == ("__debug__" : Str)) = false := by decide) (hcd : (x == ("__classdict__" : Str)) = false := by decide) : PE X (.Name x pos) (tVar i) := by
  intro pins s σ H Q I h
  obtain ⟨v,e,h⟩:=h
  obtain ⟨m,hn,hl⟩:=I.loc
  obtain ⟨u,r,l⟩:=hl i x v hN e hv
  have fin : EP X pins σ Q u s:=⟨v,H,I,r,h⟩
  rcases l with ⟨hk,hm⟩ | ⟨hk,c,hc,hcell⟩
  · exact wpAny_Name (wpAny_loadName_local I.ok.kind hk hn hm fin) hd
  · rcases hk with hk | hk
    · exact wpAny_Name (wpAny_loadName_cell I.ok.kind hk hc hcell fin) hd
    · exact wpAny_Name (wpAny_loadName_free I.ok.kind hk hc hcell fin hcd) hd
theorem pe_int {i j pos} : PE X (.Constant (.int i) j pos) (tC (.int i)):=fun _ _ _ H _ I h => wpAny_Constant_int ⟨.int i,H,I.tok _,⟨_,rfl⟩,h⟩
theorem pe_bl {b j pos} : PE X (.Constant (.bool b) j pos) (tC (.bl b)):=fun _ _ _ H _ I h => Constant_bool ⟨.bl b,H,I,rfl,h⟩
theorem pe_non {j pos} : PE X (.Constant .none j pos) (tC .non):=fun _ _ _ H _ I h => Constant_none ⟨.non,H,I,rfl,h⟩
theorem pe_str {x j pos} : PE X (.Constant (.str x) j pos) (tC (.str x)):=fun _ _ _ H _ I h => Calls.Constant_str ⟨.str x,H,I.tok _,⟨_,rfl⟩,h⟩
def Gl (X : Cx) (x : Str) : Prop:=X.env.kindOf x = some .globalImplicit
theorem ld_glob {E : Value→Shared→Prop} {pins : List (Addr×Obj)} {s : Shared} {σ : St} {H : Hp} {x : Str} {u : Value} {pos : Pos} {Q : Value→Shared→Prop} (I : Inv X pins σ H s) (hg : Gl X x) (hm : X.mg x = some u) (h : Q u s)
    (hd : (x == ("__debug__" : Str)) = false := by decide) : wpAny (model X.prog X.w) X.A (eval (.Name x pos) X.env) Q E s :=
  Calls.Name_function_global I.ok.kind hg (Calls.loadGlobal_global (by rw [I.ok.glob]; exact I.mod.glob.keeps I.bk) hm h) hd
theorem ld_blt {E : Value→Shared→Prop} {pins : List (Addr×Obj)} {s : Shared} {σ : St} {H : Hp} {x : Str} {u : Value} {pos : Pos} {Q : Value→Shared→Prop} (I : Inv X pins σ H s) (hg : Gl X x) (hm : X.mg x = none) (hv : bootBuiltins x = some u) (h : Q u s)
    (hn : x ≠ "__name__" := by decide) (hd : (x == ("__debug__" : Str)) = false := by decide) : wpAny (model X.prog X.w) X.A (eval (.Name x pos) X.env) Q E s := by
  obtain ⟨mb,h1,h2⟩:=I.mod.blt
  exact Calls.Name_function_global I.ok.kind hg (Calls.loadGlobal_builtin (by rw [I.ok.glob]; exact I.mod.glob.keeps I.bk) hm (by rw [I.ok.blt]; exact h1.keeps I.bk) ((h2 x hn).trans hv) h) hd
theorem pe_glob {x : Str} {v : V} {u : Value} {pos : Pos} (hg : Gl X x) (hm : X.mg x = some u) (r : RelV v u) (hd : (x == ("__debug__" : Str)) = false := by decide) : PE X (.Name x pos) (tC v) :=
  fun _ _ _ H _ I h => ld_glob I hg hm ⟨v,H,I,r,h⟩ hd
theorem pe_bltn {x : Str} {v : V} {u : Value} {pos : Pos} (hg : Gl X x) (hm : X.mg x = none) (hv : bootBuiltins x = some u) (r : RelV v u) (hn : x ≠ "__name__" := by decide) (hd : (x == ("__debug__" : Str)) = false := by decide) : PE X (.Name x pos) (tC v) :=
  fun _ _ _ H _ I h => ld_blt I hg hm hv ⟨v,H,I,r,h⟩ hn hd
variable {a b : Expr} {ta tb : TE} {pos : Pos}
def tB (t : TE) : TT:=fun σ H Q => t σ H fun x H1 => ∃ c,x = .bl c∧Q c H1
theorem pt_val {e : Expr} {t : TE} (h : PE X e t) (he : ∀ whole,isTrue e X.env whole = (do let v ← whole; standAt e.pos; holding [v] (truthy v)) := by intro _; rfl) : PT X e (tB t) := by
  intro pins s σ H Q I hw
  refine isTrue_plain (thn (h pins s σ H _ I hw) fun v s1 ⟨x,H1,I1,r1,q1⟩ => ?_) (he _)
  obtain ⟨d,rfl,q⟩:=q1
  cases r1
  exact wpAny_truthy_bool ⟨H1,I1,q⟩
variable {tA tB' : TT} {rest : List Expr}
def tAnd (t u : TT) : TT:=fun σ H Q => t σ H fun c H1 => if c = true then u σ H1 Q else Q false H1
def tOr (t u : TT) : TT:=fun σ H Q => t σ H fun c H1 => if c = true then Q true H1 else u σ H1 Q
def tNot (t : TT) : TT:=fun σ H Q => t σ H fun c H1 => Q (!c) H1
theorem pw_and1 (ha : PT X a tA) : PW X (.BoolOp .And [a] pos) tA := by
  intro wh pins s σ H Q I h
  refine isTrue_and (thn (ha pins s σ H Q I h) fun c s1 e => ?_)
  cases c with
  | true => exact isTrue_and_nil e
  | false => exact e
theorem pw_or1 (ha : PT X a tA) : PW X (.BoolOp .Or [a] pos) tA := by
  intro wh pins s σ H Q I h
  refine isTrue_or (thn (ha pins s σ H Q I h) fun c s1 e => ?_)
  cases c with
  | false => exact isTrue_or_nil e
  | true => exact e
theorem pw_and (ha : PT X a tA) (hb : PW X (.BoolOp .And (b :: rest) pos) tB') : PW X (.BoolOp .And (a :: b :: rest) pos) (tAnd tA tB') := by
  intro wh pins s σ H Q I h
  refine isTrue_and (thn (ha pins s σ H _ I h) fun c s1 ⟨H1,I1,q1⟩ => ?_)
  cases c with
  | true => exact hb wh pins s1 σ H1 Q I1 q1
  | false => exact ⟨H1,I1,q1⟩
theorem pw_or (ha : PT X a tA) (hb : PW X (.BoolOp .Or (b :: rest) pos) tB') : PW X (.BoolOp .Or (a :: b :: rest) pos) (tOr tA tB') := by
  intro wh pins s σ H Q I h
  refine isTrue_or (thn (ha pins s σ H _ I h) fun c s1 ⟨H1,I1,q1⟩ => ?_)
  cases c with
  | true => exact ⟨H1,I1,q1⟩
  | false => exact hb wh pins s1 σ H1 Q I1 q1
theorem pt_not (ha : PT X a tA) : PT X (.UnaryOp .Not a pos) (tNot tA) := by
  intro pins s σ H Q I h
  exact isTrue_not (ha pins s σ H (fun c H1 => Q (!c) H1) I h)
def tAndV (ta tb : TE) : TE:=fun σ H Q => ta σ H fun x H1 => ∃ c,x = .bl c∧if c = true then tb σ H1 Q else Q (.bl false) H1
theorem pe_one {op} {t : TE} (h : PE X a t) : PE X (.BoolOp op [a] pos) t:=fun pins s σ H Q I hw => BoolOp_one (h pins s σ H Q I hw)
theorem pe_and (ha : PE X a ta) (hb : PE X (.BoolOp .And (b :: rest) pos) tb) : PE X (.BoolOp .And (a :: b :: rest) pos) (tAndV ta tb) := by
  intro pins s σ H Q I h
  refine BoolOp_and (thn (ha pins s σ H _ I h) fun v s1 ⟨x,H1,I1,r1,q1⟩ => ?_)
  obtain ⟨c,rfl,q1⟩:=q1
  cases r1
  refine wpAny_truthy_bool ?_
  cases c with
  | true => exact hb pins s1 σ H1 Q I1 q1
  | false => exact ⟨.bl false,H1,I1,rfl,q1⟩
end
def SqL (K : PySem.W.Frag) (H : Hp) (a : Addr) (xs : List V) : Prop :=
  Rd H a (.lst xs) ∨
    ∃ (o : Obj) (its : Array Value) (n : Nat),K.lookup a = some o∧o.cls = .type "list" ∧ o.dict = none∧o.data = .seq its n∧its.size≤sizeLine∧Vals xs its.toList
def SqT (K : PySem.W.Frag) (H : Hp) (a : Addr) (xs : List V) : Prop :=
  Rd H a (.tup xs) ∨
    ∃ (o : Obj) (its : Array Value) (n : Nat),K.lookup a = some o∧o.cls = .type "tuple" ∧ o.data = .seq its n∧its.size≤sizeLine∧Vals xs its.toList
def absV : Value→Option V
  | .none => some .non
  | .bool b => some (.bl b)
  | .int i _ => some (.int i)
  | .str x _ => some (.str x)
  | .bytes b _ => some (.byt b)
  | .float b _ => some (.flt b)
  | .ref a => some (.ref a)
  | .type n => some (.ty n)
  | _ => none
theorem RelV.abs {x : V} {u : Value} (r : RelV x u) : absV u = some x := by
  cases x with
  | non => cases r; rfl
  | bl _ => cases r; rfl
  | int _ => obtain ⟨t,rfl⟩:=r; rfl
  | str _ => obtain ⟨t,rfl⟩:=r; rfl
  | byt _ => obtain ⟨t,rfl⟩:=r; rfl
  | flt _ => obtain ⟨t,rfl⟩:=r; rfl
  | ref _ => cases r; rfl
  | ty _ => cases r; rfl
theorem RelV.inj {x y : V} {u : Value} (r : RelV x u) (q : RelV y u) : x = y:=Option.some.inj (r.abs.symm.trans q.abs)
theorem Vals.inj : ∀ {xs ys : List V} {us : List Value},Vals xs us→Vals ys us→xs = ys
  | _,_,_,.nil,.nil => rfl
  | _,_,_,.cons r t,.cons r' t' => by rw [r.inj r',Vals.inj t t']
section
variable {X : Cx} {pins : List (Addr×Obj)} {σ : St} {H : Hp} {s : Shared} {a : Addr} {xs ys : List V}
theorem SqL.of {K : PySem.W.Frag} (h : H a = some (.lst xs)) : SqL K H a xs:=.inl (.inl h)
theorem SqT.of {K : PySem.W.Frag} (h : H a = some (.tup xs)) : SqT K H a xs:=.inl (.inl h)
theorem Inv.list (I : Inv X pins σ H s) (h : SqL X.K H a xs) : ∃ its : List Value,Vals xs its∧PlainL s.heap a its.toArray∧xs.length≤sizeLine := by
  rcases h with h | ⟨o,its,n,hk,hc,hd,hs,hz,r⟩
  · obtain ⟨z,its,n,r,e⟩:=h.ok I.hok
    exact ⟨its,r,⟨_,n,e,rfl,rfl,rfl⟩,z⟩
  · refine ⟨its.toList,r,⟨o,n,I.kIn a o hk,hc,hd,by simpa using hs⟩,?_⟩
    have e:=r.length
    simp only [Array.length_toList] at e
    lia
theorem Inv.tuple (I : Inv X pins σ H s) (h : SqT X.K H a xs) : ∃ its : List Value,Vals xs its∧IsTup s.heap a its.toArray∧xs.length≤sizeLine := by
  rcases h with h | ⟨o,its,n,hk,hc,hs,hz,r⟩
  · obtain ⟨z,its,r,p⟩:=h.ok I.hok
    exact ⟨its,r,p,z⟩
  · refine ⟨its.toList,r,⟨o,I.kIn a o hk,hc,n,by simpa using hs⟩,?_⟩
    have e:=r.length
    simp only [Array.length_toList] at e
    lia
theorem Inv.list_inj (I : Inv X pins σ H s) (h : SqL X.K H a xs) (h' : SqL X.K H a ys) : xs = ys := by
  obtain ⟨its,r,⟨o,n,e,_,_,d⟩,_⟩:=I.list h
  obtain ⟨its',r',⟨o',n',e',_,_,d'⟩,_⟩:=I.list h'
  rw [e] at e'; cases e'
  rw [d] at d'
  injection d' with d1 _
  have : its = its' := by simpa using congrArg Array.toList d1
  subst this
  exact r.inj r'
theorem Inv.tuple_inj (I : Inv X pins σ H s) (h : SqT X.K H a xs) (h' : SqT X.K H a ys) : xs = ys := by
  obtain ⟨its,r,⟨o,e,_,n,d⟩,_⟩:=I.tuple h
  obtain ⟨its',r',⟨o',e',_,n',d'⟩,_⟩:=I.tuple h'
  rw [e] at e'; cases e'
  rw [d] at d'
  injection d' with d1 _
  have : its = its' := by simpa using congrArg Array.toList d1
  subst this
  exact r.inj r'
end
abbrev Cx.wish (X : Cx) (E : Value→Shared→Prop) : Cx:={ X with xe:=E }
abbrev Cx.nox (X : Cx) : Cx:=X.wish fun _ _ => False
theorem Cx.Ok.wish {X : Cx} (ok : X.Ok) (E : Value→Shared→Prop) : (X.wish E).Ok :=
  ⟨ok.mod,ok.kind,ok.glob,ok.blt,ok.above,ok.inj,ok.has,ok.cab,ok.hd,ok.frames,ok.stk,ok.exf,ok.bs,ok.bsz,ok.noex,ok.exfs,ok.funs,ok.frf,ok.kt⟩
theorem Cx.Ok.unwish {X : Cx} {E : Value→Shared→Prop} (ok : (X.wish E).Ok) : X.Ok :=
  ⟨ok.mod,ok.kind,ok.glob,ok.blt,ok.above,ok.inj,ok.has,ok.cab,ok.hd,ok.frames,ok.stk,ok.exf,ok.bs,ok.bsz,ok.noex,ok.exfs,ok.funs,ok.frf,ok.kt⟩
section
variable {X : Cx} {pins : List (Addr×Obj)} {σ : St} {H : Hp} {s : Shared} {E : Value→Shared→Prop}
theorem Inv.wish (I : Inv X pins σ H s) (E : Value→Shared→Prop) : Inv (X.wish E) pins σ H s:=⟨I.ok.wish E,I.os,I.bare,I.base,I.loc,I.cell,I.free,I.freeC,I.pin,I.hok,I.len⟩
theorem Inv.unwish (I : Inv (X.wish E) pins σ H s) : Inv X pins σ H s:=⟨I.ok.unwish,I.os,I.bare,I.base,I.loc,I.cell,I.free,I.freeC,I.pin,I.hok,I.len⟩
theorem SP.unwish {D : Ends} {f : Flow} {s' : Shared} (h : SP (X.wish E) pins D f s') : SP X pins D f s' := by
  cases f with
  | next => obtain ⟨σ',H',I,q⟩:=h; exact ⟨σ',H',I.unwish,q⟩
  | brk => obtain ⟨σ',H',I,q⟩:=h; exact ⟨σ',H',I.unwish,q⟩
  | cont => obtain ⟨σ',H',I,q⟩:=h; exact ⟨σ',H',I.unwish,q⟩
  | ret u => obtain ⟨v,σ',H',I,r,q⟩:=h; exact ⟨v,σ',H',I.unwish,r,q⟩
theorem PSs.nox {st : List Stmt} {t : TS} (h : PSs X.nox st t) : PSs X st t:=fun pins s σ H D I hw =>
  wpAny_mono (h pins s σ H D (I.wish _) hw) (fun _ _ q => q.unwish) fun _ _ z => False.elim z
end
section
variable {X : Cx} {st : Stmt} {rest : List Stmt} {t u : TS} {e : Expr} {te : TE} {pos : Pos}
def tNext : TS:=fun D σ H => D.nx σ H
def tSeq (t u : TS) : TS:=fun D σ H => t { D with nx:=u D } σ H
theorem pss_nil : PSs X [] tNext:=fun _ _ σ H _ I h => wpAny_execs_nil ⟨σ,H,I,h⟩
theorem pss_cons (h1 : PS X st t) (h2 : PSs X rest u) : PSs X (st :: rest) (tSeq t u) := by
  intro pins s σ H D I h
  refine wpAny_execs_cons (thn (h1 pins s σ H { D with nx:=u D } I h) fun f s1 q => ?_)
  cases f with
  | next =>
    obtain ⟨σ',H',I',q⟩:=q
    exact h2 pins s1 σ' H' D I' q
  | ret v => exact q
  | brk => exact q
  | cont => exact q
theorem pss_one (h1 : PS X st t) : PSs X [st] t := by
  intro pins s σ H D I h
  refine wpAny_execs_cons (thn (h1 pins s σ H D I h) fun f s1 q => ?_)
  cases f with
  | next => exact wpAny_execs_nil q
  | ret v => exact q
  | brk => exact q
  | cont => exact q
def tCont : TS:=fun D σ H => D.ct σ H
theorem ps_continue : PS X (.Continue pos) tCont:=fun _ _ σ H _ I h => wpAny_Continue ⟨σ,H,I,h⟩
theorem Inv.quiet {pins : List (Addr×Obj)} {σ : St} {H : Hp} {s : Shared} (I : Inv X pins σ H s) : interactive X.env = false := by simp [interactive,I.ok.kind]
def tDrop (te : TE) : TS:=fun D σ H => te σ H fun _ H1 => D.nx σ H1
theorem ps_expr (he : PE X e te) (hs : swapsWith e none pos.line X.env = pure false := by rfl) : PS X (.Expr e pos) (tDrop te) := by
  intro pins s σ H D I h
  exact wpAny_Expr_any (thn (he pins s σ H _ I h) fun v s1 ⟨x,H1,I1,r1,q1⟩ => ⟨σ,H1,I1,q1⟩) I.quiet hs
def tRet (te : TE) : TS:=fun D σ H => te σ H D.rt
theorem ps_ret (he : PE X e te) : PS X (.Return (some e) pos) (tRet te) := by
  intro pins s σ H D I h
  exact wpAny_Return_some (thn (he pins s σ H _ I h) fun v s1 ⟨x,H1,I1,r1,q1⟩ => ⟨x,σ,H1,I1,r1,q1⟩)
def tIfS (c : TT) (t u : TS) : TS:=fun D σ H => c σ H fun b H1 => if b = true then t D σ H1 else u D σ H1
theorem ps_if {c : Expr} {a b : List Stmt} {tc : TT} (hc : PT X c tc) (ha : PSs X a t) (hb : PSs X b u) : PS X (.If c a b pos) (tIfS tc t u) := by
  intro pins s σ H D I h
  refine wpAny_If (thn (hc pins s σ H _ I h) fun d s1 ⟨H1,I1,q1⟩ => ?_)
  cases d with
  | true => exact ha pins s1 σ H1 D I1 q1
  | false => exact hb pins s1 σ H1 D I1 q1
def tNever : TS:=fun _ _ _ => False
theorem ps_never : PS X st tNever:=fun _ _ _ _ _ _ h => h.elim
end
abbrev TG:=V→St→Hp→(St→Hp→Prop)→Prop
abbrev TGs:=List V→St→Hp→(St→Hp→Prop)→Prop
def PG (X : Cx) (target : Expr) (t : TG) : Prop :=
  ∀ (pins : List (Addr×Obj)) (s : Shared) (σ : St) (H : Hp) (v : V) (u : Value) (Q : St→Hp→Prop),Inv X pins σ H s→RelV v u→t v σ H Q →
    wpAny (model X.prog X.w) X.A (assign target X.env u) (fun _ s' => ∃ σ' H',Inv X pins σ' H' s'∧Q σ' H') X.xe s
def PGs (X : Cx) (ts : List Expr) (t : TGs) : Prop :=
  ∀ (pins : List (Addr×Obj)) (s : Shared) (σ : St) (H : Hp) (vs : List V) (us : List Value) (Q : St→Hp→Prop),Inv X pins σ H s→Vals vs us→t vs σ H Q →
    wpAny (model X.prog X.w) X.A (assignInOrder ((assignEach ts X.env).map (·.2)) us) (fun _ s' => ∃ σ' H',Inv X pins σ' H' s'∧Q σ' H') X.xe s
section
variable {X : Cx} {pos : Pos}
def gName (i : Nat) : TG:=fun v σ H Q => Q (σ.set i (some v)) H
theorem pg_name {i : Nat} {x : Str} (hN : X.N.Nodup) (hi : X.N[i]? = some x) (hx : Loc X.env.scope x) (hf : X.fn x = true∨X.env.scope.names.lookup x = some .local := by first | exact .inl rfl | exact .inr rfl | assumption) : PG X (.Name x pos) (gName i) := by
  intro pins s σ H v u Q I r h
  exact wpAny_assign_Name (store_ok I hN hi hx r (fun s' I' => ⟨_,H,I',h⟩) hf)
def gNil : TGs:=fun vs σ H Q => vs = []∧Q σ H
def gCons (t : TG) (u : TGs) : TGs:=fun vs σ H Q => ∃ v r,vs = v :: r∧t v σ H fun σ' H' => u r σ' H' Q
theorem pgs_nil : PGs X [] gNil := by
  intro pins s σ H vs us Q I r h
  obtain ⟨e,h⟩:=h
  subst e
  cases r
  exact assignInOrder_nil ⟨σ,H,I,h⟩
theorem pgs_cons {e : Expr} {es : List Expr} {t : TG} {u : TGs} (h1 : PG X e t) (h2 : PGs X es u)
    (hs : (assignEach (e :: es) X.env).map (·.2) = assign e X.env :: (assignEach es X.env).map (·.2) := by rfl) : PGs X (e :: es) (gCons t u) := by
  intro pins s σ H vs us Q I r h
  obtain ⟨v,vr,e1,h⟩:=h
  subst e1
  cases r with
  | cons r rr =>
    rw [hs]
    refine assignInOrder_cons (thn (h1 pins s σ H _ _ _ I r h) fun _ s1 ⟨σ1,H1,I1,q1⟩ => ?_)
    exact h2 pins s1 σ1 H1 _ _ Q I1 rr q1
def gTup (K : PySem.W.Frag) (n : Nat) (t : TGs) : TG:=fun v σ H Q => ∃ a xs,v = .ref a∧SqT K H a xs∧xs.length = n∧t xs σ H Q
theorem pg_tup {es : List Expr} {k : Nat} {t : TGs} {n : Nat} (hc : X.calm = true) (h : PGs X es t)
    (hn : (assignEach es X.env).length = n := by rfl) (hst : (assignEach es X.env).findIdx? (·.1) = none := by rfl) : PG X (.Tuple es k pos) (gTup X.K n t) := by
  intro pins s σ H v u Q I r hw
  obtain ⟨a,xs,e1,hq,hl,hw⟩:=hw
  subst e1
  cases r
  obtain ⟨its,rv,ht,hz⟩:=I.tuple hq
  refine assign_Tuple_tuple (I.ok.hd hc) ht (by simp [hn,← hl,rv.length]) hst fun h' hx => ?_
  have I1 : Inv X pins σ H { s with heap:=h' }:=I.kept (t':=s.toks) fun b o e => hx b o (Nat.ne_of_lt (Heap.lt_size e)) e
  exact h pins _ σ H xs _ Q I1 (by simpa using rv) hw
def tAsg (te : TE) (g : TG) : TS:=fun D σ H => te σ H fun x H1 => g x σ H1 D.nx
theorem ps_set {i : Nat} {x : Str} {e : Expr} {te : TE} {pos' : Pos} (hN : X.N.Nodup) (hi : X.N[i]? = some x) (hx : Loc X.env.scope x) (he : PE X e te) (hs : swapsWith e (some (.Name x pos')) pos.line X.env = pure false := by rfl) (hf : X.fn x = true∨X.env.scope.names.lookup x = some .local := by first | exact .inl rfl | exact .inr rfl | assumption) :
    PS X (.Assign [.Name x pos'] e pos) (tAsg te (gName i)) := by
  intro pins s σ H D I h
  refine wpAny_Assign_Name (thn (he pins s σ H _ I h) fun v s1 ⟨y,H1,I1,r1,q1⟩ => ?_) hs
  exact store_ok I1 hN hi hx r1 (fun s2 I2 => ⟨_,H1,I2,q1⟩) hf
end
structure It where
  go : Nat→Hp→Prop
  yld : Nat→Hp→V→Hp→Prop
  stop : Nat→Hp→Prop
def FpOk (X : Cx) (pins : List (Addr×Obj)) (H : Hp) (b : Addr) : Prop :=
  H b = none∧b≠X.env.locals∧b ∉ X.fs∧(b∈X.ex∨X.s₀.heap.objs.size≤b)∧(∀ x c,X.env.cells.lookup x = some c→c≠b)∧∀ p∈X.pn ++ pins,p.1≠b
theorem Inv.fpOk {X : Cx} {pins : List (Addr×Obj)} {σ : St} {H H' : Hp} {s : Shared} {b : Addr} (I : Inv X pins σ H s) (hb : s.heap.objs.size≤b) (hn : H' b = none) : FpOk X pins H' b := by
  refine ⟨hn,Nat.ne_of_gt (Nat.lt_of_lt_of_le I.lt hb),I.nofs hb,.inr (Nat.le_trans I.sz hb),fun x c e z => ?_,fun p hp z => ?_⟩
  · obtain ⟨v,q⟩:=I.cell x c e
    exact absurd (Nat.lt_of_lt_of_le q.lt (by rw [z]; exact hb)) (Nat.lt_irrefl _)
  · exact absurd (Nat.lt_of_lt_of_le (Heap.lt_size (I.pin p hp).1) (by rw [z]; exact hb)) (Nat.lt_irrefl _)
structure Turn (P : Program) (w : World) (K : PySem.W.Frag) (tg : Expr) (J : It) (fp : List Addr) (it : Addr) (tn : Nat→Heap→Prop) : Prop where
  mem : it∈fp
  obj : ∀ i h,tn i h→∀ b∈fp,∃ o,h.get? b = some o∧∀ v,o.data≠.cell v
  keep : ∀ i h h',tn i h→(∀ b∈fp,∀ o,h.get? b = some o→h'.get? b = some o)→tn i h'
  item : ∀ (X : Cx),X.prog = P→X.w = w→X.K = K→X.calm = true→∀ (i : Nat) (pins : List (Addr×Obj)) (s : Shared) (σ : St) (H : Hp) (E : Value→Shared→Prop),Inv X pins σ H s→(∀ b∈fp,FpOk X pins H b)→tn i s.heap→J.go i H →
    wpAny (model P w) X.A (pyNext (.ref it)) (fun r s1 => ∃ u,r = some u ∧
      wpAny (model P w) X.A (letOwnedTupleGo tg (.ref it) u) (fun _ s2 => ∃ x H',Inv X pins σ H' s2∧RelV x u∧J.yld i H x H'∧tn (i + 1) s2.heap∧∀ b∈fp,H' b = none) E s1) E s
  done : ∀ (X : Cx),X.prog = P→X.w = w→X.K = K→X.calm = true→∀ (i : Nat) (pins : List (Addr×Obj)) (s : Shared) (σ : St) (H : Hp) (E : Value→Shared→Prop),Inv X pins σ H s→(∀ b∈fp,FpOk X pins H b)→tn i s.heap→J.stop i H →
    wpAny (model P w) X.A (pyNext (.ref it)) (fun r s1 => r = none∧Inv X pins σ H s1) E s
  self : ∀ (A : Around) (i : Nat) (s : Shared) (Q : Value→Shared→Prop) (E : Value→Shared→Prop),tn i s.heap→Q (.ref it) s→wpAny (model P w) A (pyIter (.ref it)) Q E s
abbrev TI:=St→Hp→(It→Hp→Prop)→Prop
def PIE (X : Cx) (pins : List (Addr×Obj)) (σ : St) (tg : Expr) (R : It→Hp→Prop) (itv : Value) (s2 : Shared) : Prop :=
  ∃ (it : Addr) (fp : List Addr) (tn : Nat→Heap→Prop) (J : It) (H' : Hp),itv = .ref it∧Inv X pins σ H' s2∧Turn X.prog X.w X.K tg J fp it tn∧tn 0 s2.heap∧(∀ b∈fp,FpOk X pins H' b)∧R J H'
def PI (X : Cx) (tg iter : Expr) (wi : TI) : Prop :=
  ∀ (pins : List (Addr×Obj)) (s : Shared) (σ : St) (H : Hp) (R : It→Hp→Prop),Inv X pins σ H s→wi σ H R →
    wpAny (model X.prog X.w) X.A (eval iter X.env) (fun v s1 => wpAny (model X.prog X.w) X.A (pyIter v) (PIE X pins σ tg R) X.xe s1) X.xe s
theorem go_of {M : Model} {A : Around} {E : Value→Shared→Prop} {s : Shared} {tg : Expr} {it : Addr} {u : Value} {o : Obj} {n : String} {vs : Array Value} {Q : Unit→Shared→Prop} (ho : s.heap.get? it = some o) (hc : o.cls = .type n) (hd : o.data = .fields vs)
    (hn : ["enumerate", "zip", "dict_itemiterator", "dict_reverseitemiterator", "odict_iterator", "itertools.zip_longest", "itertools.pairwise"].contains n = false) (hQ : Q () s) : wpAny M A (letOwnedTupleGo tg (.ref it) u) Q E s := by
  unfold letOwnedTupleGo
  cases tg <;> first
    | exact wpAny_pure hQ
    | (cases u <;> first
        | exact wpAny_pure hQ
        | (refine wpAny_bind (wpAny_load ho ?_)
           rw [hc,hd]
           show wpAny M A (if (["enumerate", "zip", "dict_itemiterator", "dict_reverseitemiterator", "odict_iterator", "itertools.zip_longest", "itertools.pairwise"].contains n && vs[0]? == some (rawInt _)) = true then _ else _) Q E s
           rw [if_neg (by intro h; rw [hn,Bool.false_and] at h; cases h)]
           exact wpAny_pure hQ))
def Itl (K : PySem.W.Frag) (a : Addr) : It :=
  ⟨fun i H => ∃ xs x,SqL K H a xs∧xs[i]? = some x,fun i H x H' => H' = H∧∀ xs,SqL K H a xs→xs[i]? = some x,fun i H => ∃ xs,SqL K H a xs∧xs.length≤i⟩
def Itt (K : PySem.W.Frag) (a : Addr) : It :=
  ⟨fun i H => ∃ xs x,SqT K H a xs∧xs[i]? = some x,fun i H x H' => H' = H∧∀ xs,SqT K H a xs→xs[i]? = some x,fun i H => ∃ xs,SqT K H a xs∧xs.length≤i⟩
def Itr (lo : Int) (n : Nat) : It:=⟨fun i _ => i < n,fun i H x H' => H' = H∧x = .int (lo + i),fun i _ => n≤i⟩
theorem turn_list {P : Program} {w : World} {K : PySem.W.Frag} {tg : Expr} (a it : Addr) : Turn P w K tg (Itl K a) [it] it (fun i h => h.IsListIter it a i) where
  mem := by simp
  obj:=fun i h st b hb => by
    have e : b = it := by simpa using hb
    subst e
    obtain ⟨o,e,c,d⟩:=st
    exact ⟨o,e,fun v z => by rw [d] at z; cases z⟩
  keep:=fun i h h' st k => st.at fun o e => k it (by simp) o e
  item := by
    intro X hP hw hK hc i pins s σ H E I hf st hg
    subst hP hw hK
    obtain ⟨xs,x,hq,hx⟩:=hg
    obtain ⟨its,rv,p,hz⟩:=I.list hq
    obtain ⟨u,hu,ru⟩:=rv.get hx
    obtain ⟨f0,f1,f2,f3,f4,f5⟩:=hf it (by simp)
    refine wpAny_pyNext_list_item st p.isList (x:=u) (by simpa using hu) fun h' st' sb => ?_
    have I1 : Inv X pins σ H { s with heap:=h' }:=I.turned (t':=s.toks) (fun b o hb e => (sb.2 b hb).trans e) f0 f1 f3 f4 f5
    obtain ⟨o,e,c,d⟩:=id st'
    exact ⟨u,rfl,go_of (s:={ s with heap:=h' }) e c d (by decide) ⟨x,H,I1,ru,⟨rfl,fun ys hy => by rw [I.list_inj hy hq]; exact hx⟩,st',fun b hb => (hf b hb).1⟩⟩
  done := by
    intro X hP hw hK hc i pins s σ H E I hf st hg
    subst hP hw hK
    obtain ⟨xs,hq,hx⟩:=hg
    obtain ⟨its,rv,p,hz⟩:=I.list hq
    obtain ⟨f0,f1,f2,f3,f4,f5⟩:=hf it (by simp)
    have hl:=rv.length
    exact wpAny_pyNext_list_end (I.ok.hd hc) st p.isList (by simp; lia) fun h' eb => ⟨rfl,I.turned (t':=s.toks) (fun b o hb e => eb b o hb e) f0 f1 f3 f4 f5⟩
  self:=fun _ _ _ _ _ st h => wpAny_pyIter_listiter st h
theorem turn_tuple {P : Program} {w : World} {K : PySem.W.Frag} {tg : Expr} (a it : Addr) : Turn P w K tg (Itt K a) [it] it (fun i h => h.IsTupleIter it a i) where
  mem := by simp
  obj:=fun i h st b hb => by
    have e : b = it := by simpa using hb
    subst e
    obtain ⟨o,e,c,d⟩:=st
    exact ⟨o,e,fun v z => by rw [d] at z; cases z⟩
  keep:=fun i h h' st k => st.at fun o e => k it (by simp) o e
  item := by
    intro X hP hw hK hc i pins s σ H E I hf st hg
    subst hP hw hK
    obtain ⟨xs,x,hq,hx⟩:=hg
    obtain ⟨its,rv,p,hz⟩:=I.tuple hq
    obtain ⟨u,hu,ru⟩:=rv.get hx
    obtain ⟨f0,f1,f2,f3,f4,f5⟩:=hf it (by simp)
    refine wpAny_pyNext_tuple_item st (show s.heap.IsTuple a its.toArray from p) (x:=u) (by simpa using hu) fun h' st' sb => ?_
    have I1 : Inv X pins σ H { s with heap:=h' }:=I.turned (t':=s.toks) (fun b o hb e => (sb.2 b hb).trans e) f0 f1 f3 f4 f5
    obtain ⟨o,e,c,d⟩:=id st'
    exact ⟨u,rfl,go_of (s:={ s with heap:=h' }) e c d (by decide) ⟨x,H,I1,ru,⟨rfl,fun ys hy => by rw [I.tuple_inj hy hq]; exact hx⟩,st',fun b hb => (hf b hb).1⟩⟩
  done := by
    intro X hP hw hK hc i pins s σ H E I hf st hg
    subst hP hw hK
    obtain ⟨xs,hq,hx⟩:=hg
    obtain ⟨its,rv,p,hz⟩:=I.tuple hq
    obtain ⟨f0,f1,f2,f3,f4,f5⟩:=hf it (by simp)
    have hl:=rv.length
    exact wpAny_pyNext_tuple_end (I.ok.hd hc) st (show s.heap.IsTuple a its.toArray from p) (by simp; lia) fun h' eb => ⟨rfl,I.turned (t':=s.toks) (fun b o hb e => eb b o hb e) f0 f1 f3 f4 f5⟩
  self:=fun _ _ _ _ _ st h => wpAny_pyIter_tupleiter st h
theorem turn_range {P : Program} {w : World} {K : PySem.W.Frag} {tg : Expr} (it : Addr) (lo : Int) (n : Nat) : Turn P w K tg (Itr lo n) [it] it (fun i h => IsRangeIter h it (lo + (i : Nat) * 1) ((n : Int) - (i : Nat)) 1) where
  mem := by simp
  obj:=fun i h st b hb => by
    have e : b = it := by simpa using hb
    subst e
    exact ⟨_,st,fun v z => by
      have z' : Data.fields _ = Data.cell v:=z
      cases z'⟩
  keep:=fun i h h' st k => k it (by simp) _ st
  item := by
    intro X hP hw hK hc i pins s σ H E I hf st hg
    subst hP hw hK
    obtain ⟨f0,f1,f2,f3,f4,f5⟩:=hf it (by simp)
    have W:=Walks.range (prog:=X.prog) (w:=X.w) (I.ok.hd hc) it lo 1 n
    refine W.item i s _ _ hg st fun v h' tk hv st' kk => ?_
    obtain ⟨t,rfl⟩:=hv
    have I1 : Inv X pins σ H { s with heap:=h',toks:=tk }:=I.turned (fun b o hb e => kk b o (by simpa using hb) e) f0 f1 f3 f4 f5
    refine ⟨_,rfl,go_of (s:={ s with heap:=h',toks:=tk }) (n := "range_iterator") st' rfl rfl (by decide) ⟨.int (lo + i),H,I1,⟨t,?_⟩,⟨rfl,rfl⟩,st',fun b hb => (hf b hb).1⟩⟩
    rw [Int.mul_one]
  done := by
    intro X hP hw hK hc i pins s σ H E I hf st hg
    subst hP hw hK
    obtain ⟨f0,f1,f2,f3,f4,f5⟩:=hf it (by simp)
    exact wpAny_pyNext_range_end (I.ok.hd hc) st (by have : n≤i:=hg; lia) fun h' eb => ⟨rfl,I.turned (t':=s.toks) (fun b o hb e => eb b o hb e) f0 f1 f3 f4 f5⟩
  self:=fun _ _ _ _ _ st h => wpAny_pyIter_rangeiter st h
section
variable {X : Cx} {tg : Expr}
def iList (K : PySem.W.Frag) (tl : TE) : TI:=fun σ H R => tl σ H fun x H1 => ∃ a,x = .ref a∧(∃ xs,SqL K H1 a xs)∧R (Itl K a) H1
def iTup (K : PySem.W.Frag) (tl : TE) : TI:=fun σ H R => tl σ H fun x H1 => ∃ a,x = .ref a∧(∃ xs,SqT K H1 a xs)∧R (Itt K a) H1
theorem pi_list {l : Expr} {tl : TE} (hl : PE X l tl) : PI X tg l (iList X.K tl) := by
  intro pins s σ H R I h
  refine thn (hl pins s σ H _ I h) fun v s1 ⟨x,H1,I1,r1,q1⟩ => ?_
  obtain ⟨a,e,⟨xs,hq⟩,q⟩:=q1
  subst e
  cases r1
  obtain ⟨its,rv,p,hz⟩:=I1.list hq
  refine wpAny_pyIter_list p.isList ?_
  refine ⟨s1.heap.objs.size,[s1.heap.objs.size],_,_,H1,rfl,I1.kept (t':=s1.toks) fun b o e => Heap.get?_push_of_some _ e,turn_list a _,⟨_,Heap.get?_push_size _ rfl,rfl,rfl⟩,fun b hb => ?_,q⟩
  have e : b = s1.heap.objs.size := by simpa using hb
  subst e
  exact I1.fpOk (Nat.le_refl _) (I1.hok.fresh (Nat.le_refl _))
theorem pi_tup {l : Expr} {tl : TE} (hl : PE X l tl) : PI X tg l (iTup X.K tl) := by
  intro pins s σ H R I h
  refine thn (hl pins s σ H _ I h) fun v s1 ⟨x,H1,I1,r1,q1⟩ => ?_
  obtain ⟨a,e,⟨xs,hq⟩,q⟩:=q1
  subst e
  cases r1
  obtain ⟨its,rv,p,hz⟩:=I1.tuple hq
  refine wpAny_pyIter_tuple (show s1.heap.IsTuple a its.toArray from p) ?_
  refine ⟨s1.heap.objs.size,[s1.heap.objs.size],_,_,H1,rfl,I1.kept (t':=s1.toks) fun b o e => Heap.get?_push_of_some _ e,turn_tuple a _,⟨_,Heap.get?_push_size _ rfl,rfl,rfl⟩,fun b hb => ?_,q⟩
  have e : b = s1.heap.objs.size := by simpa using hb
  subst e
  exact I1.fpOk (Nat.le_refl _) (I1.hok.fresh (Nat.le_refl _))
theorem range_it {pins : List (Addr×Obj)} {σ : St} {H : Hp} {s : Shared} {R : It→Hp→Prop} {E : Value→Shared→Prop} {lo hi : Int} {t u v : Tok} {tk : Nat} (I : Inv X pins σ H s) (h1 : -(2 ^ 62)≤lo) (h2 : lo < 2 ^ 62) (h3 : -(2 ^ 62)≤hi) (h4 : hi < 2 ^ 62)
    (q : R (Itr lo (hi - lo).toNat) H) : wpAny (model X.prog X.w) X.A (pyIter (.ref s.heap.objs.size)) (PIE X pins σ tg R) E { s with heap:=s.heap.push { cls:=.type "range",data:=.fields #[.int lo t,.int hi u,.int 1 v] },toks:=tk } := by
  refine wpAny_pyIter_range (IsRange.new ..) (small_one h1 h2 h3 h4) ?_
  have I1 : Inv X pins σ H { s with heap:=s.heap.push { cls:=.type "range",data:=.fields #[.int lo t,.int hi u,.int 1 v] },toks:=tk }:=I.kept fun b o e => Heap.get?_push_of_some _ e
  refine ⟨(s.heap.push { cls:=.type "range",data:=.fields #[.int lo t,.int hi u,.int 1 v] }).objs.size,[(s.heap.push { cls:=.type "range",data:=.fields #[.int lo t,.int hi u,.int 1 v] }).objs.size],_,_,H,rfl,
    I1.kept (t':=tk) fun b o e => Heap.get?_push_of_some _ e,turn_range _ lo (hi - lo).toNat,?_,fun b hb => ?_,q⟩
  · have e1 : lo + ((0 : Nat) : Int) * 1 = lo := by simp
    have e2 : (((hi - lo).toNat : Nat) : Int) - ((0 : Nat) : Int) = Builtin.Range.rangeSize lo hi 1 := by rw [rangeSize_one]; split <;> lia
    show IsRangeIter _ _ (lo + ((0 : Nat) : Int) * 1) ((((hi - lo).toNat : Nat) : Int) - ((0 : Nat) : Int)) 1
    rw [e1,e2]
    exact Heap.get?_push_size _ rfl
  · have e : b = (s.heap.push { cls:=.type "range",data:=.fields #[.int lo t,.int hi u,.int 1 v] }).objs.size := by simpa using hb
    subst e
    exact I1.fpOk (Nat.le_refl _) (I1.hok.fresh (Nat.le_refl _))
def iRng1 (ta : TA) : TI:=fun σ H R => ta σ H fun vs H1 => ∃ j : Int,vs = [.int j]∧-(2 ^ 62)≤j∧j < 2 ^ 62∧R (Itr 0 j.toNat) H1
def iRng2 (ta : TA) : TI:=fun σ H R => ta σ H fun vs H1 => ∃ i j : Int,vs = [.int i,.int j]∧(-(2 ^ 62)≤i∧i < 2 ^ 62∧-(2 ^ 62)≤j∧j < 2 ^ 62)∧R (Itr i (j - i).toNat) H1
theorem pi_range1 {a : Expr} {ta : TA} {p pos : Pos} (hg : Gl X "range") (hm : X.mg "range" = none) (ha : PA X [a] ta) (hs : starEach [a] X.env = [(false,eval a X.env)] := by rfl) : PI X tg (.Call (.Name "range" p) [a] [] pos) (iRng1 ta) := by
  intro pins s σ H R I h
  refine Call_ (ld_blt I hg hm boot_range (PyProof.Rows.callWith_type1 (thn (ha pos pins s σ H _ I h) fun us s1 ⟨vs,H1,I1,r1,q1⟩ => ?_) hs rfl))
  obtain ⟨j,e,q1,q2,q⟩:=q1
  subst e
  cases r1 with
  | cons r rr =>
    cases rr
    obtain ⟨t,rfl⟩:=r
    exact call_range_1 (range_it I1 (by lia) (by lia) q1 q2 (by simpa using q))
theorem pi_range2 {a b : Expr} {ta : TA} {p pos : Pos} (hg : Gl X "range") (hm : X.mg "range" = none) (ha : PA X [a,b] ta) (hs : starEach [a,b] X.env = [(false,eval a X.env),(false,eval b X.env)] := by rfl) (hs2 : starEach [b] X.env = [(false,eval b X.env)] := by rfl) :
    PI X tg (.Call (.Name "range" p) [a,b] [] pos) (iRng2 ta) := by
  intro pins s σ H R I h
  refine Call_ (ld_blt I hg hm boot_range (PyProof.Rows.callWith_type1 (thn (ha pos pins s σ H _ I h) fun us s1 ⟨vs,H1,I1,r1,q1⟩ => ?_) (by rw [hs,hs2]) (by rw [hs2]; rfl)))
  obtain ⟨i,j,e,⟨q1,q2,q3,q4⟩,q⟩:=q1
  subst e
  cases r1 with
  | cons r rr =>
    cases rr with
    | cons r' rr =>
      cases rr
      obtain ⟨t,rfl⟩:=r
      obtain ⟨t',rfl⟩:=r'
      exact call_range_2 (range_it I1 q1 q2 q3 q4 q)
def tFor (wi : TI) (g : TG) (tb : TS) : TS:=fun D σ H => wi σ H fun J H1 => ∃ W : Nat→Nat→St→Hp→Prop,(∃ m,W 0 m σ H1)∧∀ i m σ H,W i m σ H →
  (J.stop i H∧D.nx σ H)∨(J.go i H∧∃ N : St→Hp→Prop,(∀ σ' H',N σ' H'→∃ m',m' < m∧W (i + 1) m' σ' H')∧∀ x H',J.yld i H x H'→g x σ H' fun σ2 H2 => tb { D with nx:=N,ct:=N,bk:=D.nx } σ2 H2)
def pinsAt (fp : List Addr) (h : Heap) : List (Addr×Obj):=fp.filterMap fun b => (h.get? b).map fun o => (b,o)
theorem mem_pinsAt {fp : List Addr} {h : Heap} {b : Addr} {o : Obj} (hb : b∈fp) (e : h.get? b = some o) : (b,o)∈pinsAt fp h:=List.mem_filterMap.mpr ⟨b,hb,by rw [e]; rfl⟩
theorem of_pinsAt {fp : List Addr} {h : Heap} {p : Addr×Obj} (hp : p∈pinsAt fp h) : p.1∈fp∧h.get? p.1 = some p.2 := by
  obtain ⟨b,hb,e⟩:=List.mem_filterMap.mp hp
  cases q : h.get? b with
  | none => rw [q] at e; cases e
  | some o =>
    rw [q] at e
    have e' : (b,o) = p:=Option.some.inj e
    subst e'
    exact ⟨hb,q⟩
theorem Inv.pinned {pins : List (Addr×Obj)} {σ : St} {H : Hp} {s : Shared} {fp : List Addr} (I : Inv X pins σ H s) (hf : ∀ b∈fp,FpOk X pins H b) (ho : ∀ b∈fp,∃ o,s.heap.get? b = some o∧∀ v,o.data≠.cell v) : Inv X (pins ++ pinsAt fp s.heap) σ H s :=
  I.pins_of fun p hp => (List.mem_append.mp hp).elim (fun z => I.pin p (List.mem_append_right _ z)) fun z => by
    obtain ⟨hb,e⟩:=of_pinsAt z
    obtain ⟨f0,f1,f2,_⟩:=hf p.1 hb
    obtain ⟨o,e',d⟩:=ho p.1 hb
    rw [e] at e'; cases e'
    exact ⟨e,f0,f1,f2,d⟩
theorem Inv.unpinned {pins pl : List (Addr×Obj)} {σ : St} {H : Hp} {s : Shared} (I : Inv X (pins ++ pl) σ H s) : Inv X pins σ H s:=I.pins_of fun p hp => I.pin p (List.mem_append_right _ (List.mem_append_left _ hp))
theorem ps_for {iter : Expr} {body : List Stmt} {wi : TI} {g : TG} {tb : TS} {pos : Pos} (hp : PassesOwn (model X.prog X.w) X.A X.env X.xe) (hc : X.calm = true) (hi : PI X tg iter wi) (hg : PG X tg g) (hb : PSs X body tb)
    (hs : ∀ x,foldedSetIterable iter X.env x = pure x := by intro _; rfl) : PS X (.For tg iter body [] pos) (tFor wi g tb) := by
  intro pins s σ H D I h
  refine wpAny_For (thn (hi pins s σ H _ I h) fun v s1 h1 => thn h1 fun itv s2 h2 => ?_) hs
  obtain ⟨it,fp,tn,J,H2,e,I2,T,st2,f2,W,⟨m0,w0⟩,turn⟩:=h2
  subst e
  have stat : ∀ {H' : Hp},(∀ b∈fp,H' b = none)→∀ b∈fp,FpOk X pins H' b:=fun hn b hb => ⟨hn b hb,(f2 b hb).2⟩
  refine codeAny_forLoop_any (fun n s' => ∃ i σ' H',Inv X pins σ' H' s'∧tn i s'.heap∧(∀ b∈fp,H' b = none)∧W i n σ' H') ?_ m0 ⟨0,σ,H2,I2,st2,fun b hb => (f2 b hb).1,w0⟩
  rintro n s3 ⟨i,σ3,H3,I3,st3,fr3,w3⟩
  rcases turn i n σ3 H3 w3 with ⟨stop,qn⟩ | ⟨go,N,hN,step⟩
  · refine wpAny_passesOwn hp (thn (T.done X rfl rfl rfl hc i pins s3 σ3 H3 X.xe I3 (stat fr3) st3 stop) fun r s4 ⟨hr,I4⟩ => ?_)
    subst hr
    exact wpAny_execs_nil ⟨σ3,H3,I4,qn⟩
  · refine wpAny_passesOwn hp (thn (T.item X rfl rfl rfl hc i pins s3 σ3 H3 X.xe I3 (stat fr3) st3 go) fun r s4 ⟨u,hr,h4⟩ => ?_)
    subst hr
    refine wpAny_passesOwn hp (thn h4 fun _ s5 ⟨x,H5,I5,r5,y5,st5,fr5⟩ => ?_)
    have I5':=I5.pinned (stat fr5) (T.obj _ _ st5)
    refine wpAny_passesOwn hp (thn (hg _ s5 σ3 H5 x u _ I5' r5 (step x H5 y5)) fun _ s6 ⟨σ6,H6,I6,q6⟩ => ?_)
    refine wpAny_passesOwn hp (thn (hb _ s6 σ6 H6 _ I6 q6) fun f s7 q7 => ?_)
    have again : ∀ {σ7 : St} {H7 : Hp},Inv X (pins ++ pinsAt fp s5.heap) σ7 H7 s7→N σ7 H7→∃ m,m < n∧∃ i σ' H',Inv X pins σ' H' s7∧tn i s7.heap∧(∀ b∈fp,H' b = none)∧W i m σ' H':=fun {σ7 H7} I7 n7 => by
      obtain ⟨m',hm,w7⟩:=hN σ7 H7 n7
      refine ⟨m',hm,i + 1,σ7,H7,I7.unpinned,T.keep _ _ _ st5 fun b hb o e => (I7.pin (b,o) (List.mem_append_right _ (List.mem_append_right _ (mem_pinsAt hb e)))).1,fun b hb => ?_,w7⟩
      obtain ⟨o,e,d⟩:=T.obj _ _ st5 b hb
      exact (I7.pin (b,o) (List.mem_append_right _ (List.mem_append_right _ (mem_pinsAt hb e)))).2.1
    cases f with
    | next => obtain ⟨σ7,H7,I7,n7⟩:=q7; exact again I7 n7
    | cont => obtain ⟨σ7,H7,I7,n7⟩:=q7; exact again I7 n7
    | brk => obtain ⟨σ7,H7,I7,q7⟩:=q7; exact ⟨σ7,H7,I7.unpinned,q7⟩
    | ret v => obtain ⟨x7,σ7,H7,I7,r7,q7⟩:=q7; exact ⟨x7,σ7,H7,I7.unpinned,r7,q7⟩
end
abbrev R2:=V→V→Hp→VK→Prop
def OpR (X : Cx) (f : Value→Value→Sem Value) (r : R2) : Prop :=
  ∀ (pins : List (Addr×Obj)) (s : Shared) (σ : St) (H : Hp) (x y : V) (v u : Value) (Q : VK),Inv X pins σ H s→RelV x v→RelV y u→r x y H Q →
    wpAny (model X.prog X.w) X.A (f v u) (EP X pins σ Q) X.xe s
def UnR (X : Cx) (f : Value→Sem Value) (r : V→Hp→VK→Prop) : Prop :=
  ∀ (pins : List (Addr×Obj)) (s : Shared) (σ : St) (H : Hp) (x : V) (v : Value) (Q : VK),Inv X pins σ H s→RelV x v→r x H Q →
    wpAny (model X.prog X.w) X.A (f v) (EP X pins σ Q) X.xe s
def CallR (X : Cx) (f : Value) (r : List V→Hp→VK→Prop) : Prop :=
  ∀ (pins : List (Addr×Obj)) (s : Shared) (σ : St) (H : Hp) (xs : List V) (us : List Value) (Q : VK),Inv X pins σ H s→Vals xs us→r xs H Q →
    wpAny (model X.prog X.w) X.A (call f us) (EP X pins σ Q) X.xe s
def tOp (r : R2) (ta tb : TE) : TE:=fun σ H Q => ta σ H fun x H1 => tb σ H1 fun y H2 => r x y H2 Q
def tUn (r : V→Hp→VK→Prop) (ta : TE) : TE:=fun σ H Q => ta σ H fun x H1 => r x H1 Q
def rI (C : Int→Int→Prop) (g : Int→Int→V) : R2:=fun x y H Q => ∃ i j,x = .int i∧y = .int j∧C i j∧Q (g i j) H
def rI0 (g : Int→Int→V) : R2:=fun x y H Q => ∃ i j,x = .int i∧y = .int j∧Q (g i j) H
def rU (g : Int→V) : V→Hp→VK→Prop:=fun x H Q => ∃ i,x = .int i∧Q (g i) H
section
variable {X : Cx} {a b : Expr} {ta tb : TE} {pos : Pos}
theorem binT (ha : PE X a ta) (hb : PE X b tb) {pins : List (Addr×Obj)} {s : Shared} {σ : St} {H : Hp} {R : V→V→Hp→Prop} (I : Inv X pins σ H s)
    (h : ta σ H fun x H1 => tb σ H1 fun y H2 => R x y H2) {Q : Value→Shared→Prop} {f : Value→Value→Sem Value}
    (hf : ∀ v u s2 x y H2,Inv X pins σ H2 s2→RelV x v→RelV y u→R x y H2→wpAny (model X.prog X.w) X.A (f v u) Q X.xe s2) :
    wpAny (model X.prog X.w) X.A (eval a X.env) (fun v s₁ => wpAny (model X.prog X.w) X.A (eval b X.env) (fun u s₂ => wpAny (model X.prog X.w) X.A (f v u) Q X.xe s₂) X.xe s₁) X.xe s := by
  refine thn (ha pins s σ H _ I h) fun v s1 ⟨x,H1,I1,r1,q1⟩ => ?_
  refine thn (hb pins s1 σ H1 _ I1 q1) fun u s2 ⟨y,H2,I2,r2,q2⟩ => ?_
  exact hf v u s2 x y H2 I2 r1 r2 q2
theorem pe_op {op : Operator} {r : R2} (ho : OpR X (binaryOp op) r) (ha : PE X a ta) (hb : PE X b tb) : PE X (.BinOp a op b pos) (tOp r ta tb) := by
  intro pins s σ H Q I h
  exact wpAny_BinOp (binT ha hb I h fun v u s2 x y H2 I2 rx ry q => ho pins s2 σ H2 x y v u Q I2 rx ry q)
theorem pe_un {op : UnaryOp} {r : V→Hp→VK→Prop} (ho : UnR X (unaryOp op) r) (ha : PE X a ta) : PE X (.UnaryOp op a pos) (tUn r ta) := by
  intro pins s σ H Q I h
  exact UnaryOp_ (thn (ha pins s σ H _ I h) fun v s1 ⟨x,H1,I1,r1,q1⟩ => ho pins s1 σ H1 x v Q I1 r1 q1)
theorem opI {f : Value→Value→Sem Value} {C : Int→Int→Prop} {g : Int→Int→Int}
    (rule : ∀ (i j : Int) (t u : Tok) (s : Shared) (Q : Value→Shared→Prop) (E : Value→Shared→Prop),C i j→Q (.int (g i j) s.toks) { s with toks:=s.toks + 1 }→wpAny (model X.prog X.w) X.A (f (.int i t) (.int j u)) Q E s) :
    OpR X f (rI C fun i j => .int (g i j)) := by
  intro pins s σ H x y v u Q I rx ry h
  obtain ⟨i,j,rfl,rfl,hc,q⟩:=h
  obtain ⟨t,rfl⟩:=rx
  obtain ⟨t',rfl⟩:=ry
  exact rule i j t t' s _ _ hc ⟨.int (g i j),H,I.tok _,⟨_,rfl⟩,q⟩
theorem opI0 {f : Value→Value→Sem Value} {g : Int→Int→Int}
    (rule : ∀ (i j : Int) (t u : Tok) (s : Shared) (Q : Value→Shared→Prop) (E : Value→Shared→Prop),Q (.int (g i j) s.toks) { s with toks:=s.toks + 1 }→wpAny (model X.prog X.w) X.A (f (.int i t) (.int j u)) Q E s) :
    OpR X f (rI0 fun i j => .int (g i j)) := by
  intro pins s σ H x y v u Q I rx ry h
  obtain ⟨i,j,rfl,rfl,q⟩:=h
  obtain ⟨t,rfl⟩:=rx
  obtain ⟨t',rfl⟩:=ry
  exact rule i j t t' s _ _ ⟨.int (g i j),H,I.tok _,⟨_,rfl⟩,q⟩
theorem opB0 {f : Value→Value→Sem Value} {g : Int→Int→Bool}
    (rule : ∀ (i j : Int) (t u : Tok) (s : Shared) (Q : Value→Shared→Prop) (E : Value→Shared→Prop),Q (.bool (g i j)) s→wpAny (model X.prog X.w) X.A (f (.int i t) (.int j u)) Q E s) :
    OpR X f (rI0 fun i j => .bl (g i j)) := by
  intro pins s σ H x y v u Q I rx ry h
  obtain ⟨i,j,rfl,rfl,q⟩:=h
  obtain ⟨t,rfl⟩:=rx
  obtain ⟨t',rfl⟩:=ry
  exact rule i j t t' s _ _ ⟨.bl (g i j),H,I,rfl,q⟩
def CPow (i j : Int) : Prop:=0≤j∧j≤1000000∧i.natAbs < 2 ^ 64
def CMul (i j : Int) : Prop:=(-(2 ^ 64) < i∧i < 2 ^ 64)∨(-(2 ^ 64) < j∧j < 2 ^ 64)
theorem CMul.ok {i j : Int} (h : CMul i j) : IntMulOk i j := by
  rcases h with ⟨h1,h2⟩ | ⟨h1,h2⟩
  · exact .of_left (intBits_le_64 h1 h2)
  · exact .of_right (intBits_le_64 h1 h2)
theorem op_add : OpR X (binaryOp .Add) (rI0 fun i j => .int (i + j)):=opI0 fun _ _ _ _ _ _ _ q => add_int q
theorem op_sub : OpR X (binaryOp .Sub) (rI0 fun i j => .int (i - j)):=opI0 fun _ _ _ _ _ _ _ q => sub_int q
theorem op_modN : OpR X (binaryOp .Mod) (rI (fun _ j => j≠0) fun i j => .int (i.fmod j)):=opI fun _ _ _ _ _ _ _ hc q => mod_int' hc q
theorem op_pow : OpR X (binaryOp .Pow) (rI CPow fun i j => .int (i ^ j.toNat)):=opI fun _ _ _ _ _ _ _ hc q => pow_int_small hc.1 hc.2.1 hc.2.2 q
theorem unI {f : Value→Sem Value} {g : Int→Int}
    (rule : ∀ (i : Int) (t : Tok) (s : Shared) (Q : Value→Shared→Prop) (E : Value→Shared→Prop),Q (.int (g i) s.toks) { s with toks:=s.toks + 1 }→wpAny (model X.prog X.w) X.A (f (.int i t)) Q E s) :
    UnR X f (rU fun i => .int (g i)) := by
  intro pins s σ H x v Q I rx h
  obtain ⟨i,rfl,q⟩:=h
  obtain ⟨t,rfl⟩:=rx
  exact rule i t s _ _ ⟨.int (g i),H,I.tok _,⟨_,rfl⟩,q⟩
theorem un_neg : UnR X (unaryOp .USub) (rU fun i => .int (-i)):=unI fun _ _ _ _ _ q => neg_int q
end
section
variable {X : Cx} {a b c : Expr} {ta tb : TE} {pos : Pos}
theorem fin_bl {pins : List (Addr×Obj)} {σ : St} {H : Hp} {s : Shared} {Q : VK} {k k' : Bool} (I : Inv X pins σ H s) (q : Q (.bl k) H) (e : k = k') : EP X pins σ Q (.bool k') s := by
  subst e
  exact ⟨.bl k,H,I,rfl,q⟩
theorem op_lt : OpR X (compareOp .Lt) (rI0 fun i j => .bl (decide (i < j))):=opB0 fun _ _ _ _ _ _ _ q => lt_int q
theorem op_le : OpR X (compareOp .LtE) (rI0 fun i j => .bl (decide (i≤j))):=opB0 fun _ _ _ _ _ _ _ q => le_int q
theorem op_gt : OpR X (compareOp .Gt) (rI0 fun i j => .bl (decide (j < i))):=opB0 fun _ _ _ _ _ _ _ q => gt_int q
theorem op_ge : OpR X (compareOp .GtE) (rI0 fun i j => .bl (decide (j≤i))):=opB0 fun _ _ _ _ _ _ _ q => ge_int q
theorem op_isN : OpR X (compareOp .Is) (fun x y H Q => y = .non∧Q (.bl (decide (x = .non))) H) := by
  intro pins s σ H x y v u Q I rx ry h
  obtain ⟨rfl,q⟩:=h
  cases ry
  refine is_none_gen (fin_bl I q ?_)
  cases x <;> first
    | (cases rx; rfl)
    | (obtain ⟨t,rfl⟩:=rx; rfl)
theorem OpR.or {f : Value→Value→Sem Value} {r r' : R2} (h : OpR X f r) (h' : OpR X f r') : OpR X f (fun x y H Q => r x y H Q∨r' x y H Q) := by
  intro pins s σ H x y v u Q I rx ry q
  rcases q with q | q
  · exact h pins s σ H x y v u Q I rx ry q
  · exact h' pins s σ H x y v u Q I rx ry q
theorem nomark (b : Expr) {op : CmpOp} (h : op≠.In := by decide) (h2 : op≠.NotIn := by decide) : behindInMarks op b = false := by
  have e1 : (op == CmpOp.In) = false := by cases op <;> first | rfl | exact absurd rfl h
  have e2 : (op == CmpOp.NotIn) = false := by cases op <;> first | rfl | exact absurd rfl h2
  cases b <;> simp [behindInMarks,e1,e2]
theorem pe_cmpR {op : CmpOp} {r : R2} (ho : OpR X (compareOp op) r) (ha : PE X a ta) (hb : PE X b tb) (hm : behindInMarks op b = false) : PE X (.Compare a [op] [b] pos) (tOp r ta tb) := by
  intro pins s σ H Q I h
  exact wpAny_Compare1 (binT ha hb I h fun v u s2 x y H2 I2 rx ry q => ho pins s2 σ H2 x y v u Q I2 rx ry q) hm
def tTest (t : TE) : TT:=fun σ H Q => t σ H fun x H' => ∃ k,x = .bl k∧Q k H'
theorem pt_cmpR {op : CmpOp} {r : R2} (ho : OpR X (compareOp op) r) (ha : PE X a ta) (hb : PE X b tb) (hm : behindInMarks op b = false) : PT X (.Compare a [op] [b] pos) (tTest (tOp r ta tb)) := by
  intro pins s σ H Q I h
  refine wpAny_isTrue_Compare1 (thn (ha pins s σ H _ I h) fun v s1 ⟨x,H1,I1,r1,q1⟩ => thn (hb pins s1 σ H1 _ I1 q1) fun u s2 ⟨y,H2,I2,r2,q2⟩ =>
    thn (ho pins s2 σ H2 x y v u _ I2 r1 r2 q2) fun c s3 ⟨z,H3,I3,r3,k,e,q3⟩ => ?_) hm
  subst e
  cases r3
  exact wpAny_truthy_bool ⟨H3,I3,q3⟩
theorem line63 : (sizeLine : Nat) < 2 ^ 63 := by rw [sizeLine_eq]; decide
theorem op_add_str : OpR X (binaryOp .Add) (fun x y H Q => ∃ i j,x = .str i∧y = .str j∧i.length + j.length≤sizeLine∧Q (.str (i ++ j)) H) := by
  intro pins s σ H x y v u Q I rx ry h
  obtain ⟨i,j,rfl,rfl,hz,q⟩:=h
  obtain ⟨t,rfl⟩:=rx
  obtain ⟨t',rfl⟩:=ry
  exact add_str (fun t' tk => ⟨.str (i ++ j),H,I.tok _,⟨_,rfl⟩,q⟩) hz
theorem vals1 {x : V} {us : List Value} (r : Vals [x] us) : ∃ u,us = [u]∧RelV x u := by
  cases r with
  | cons r1 r2 => cases r2; exact ⟨_,rfl,r1⟩
theorem vals2 {x y : V} {us : List Value} (r : Vals [x,y] us) : ∃ u w',us = [u,w']∧RelV x u∧RelV y w' := by
  cases r with
  | cons r1 r2 =>
    cases r2 with
    | cons r3 r4 => cases r4; exact ⟨_,_,rfl,r1,r3⟩
theorem call_abs : CallR X (.builtin "abs") (fun xs H Q => ∃ i,xs = [.int i]∧Q (.int (if i < 0 then -i else i)) H) := by
  intro pins s σ H xs us Q I r h
  obtain ⟨i,rfl,q⟩:=h
  obtain ⟨u,rfl,t,rfl⟩:=vals1 r
  exact call_abs_int fun u tk => ⟨.int (if i < 0 then -i else i),H,I.tok _,⟨_,rfl⟩,q⟩
theorem call_max2 (hc : X.calm = true) : CallR X (.builtin "max") (fun xs H Q => ∃ i j,xs = [.int i,.int j]∧Q (.int (if j > i then j else i)) H) := by
  intro pins s σ H xs us Q I r h
  obtain ⟨i,j,rfl,q⟩:=h
  obtain ⟨u,w',rfl,⟨t,rfl⟩,⟨t',rfl⟩⟩:=vals2 r
  refine max_two_ints (I.ok.hd hc) fun h' tk k => ⟨_,H,I.kept k,?_,q⟩
  by_cases hj : j > i
  · rw [if_pos hj,if_pos hj]; exact ⟨_,rfl⟩
  · rw [if_neg hj,if_neg hj]; exact ⟨_,rfl⟩
theorem call_min2 (hc : X.calm = true) : CallR X (.builtin "min") (fun xs H Q => ∃ i j,xs = [.int i,.int j]∧Q (.int (if j < i then j else i)) H) := by
  intro pins s σ H xs us Q I r h
  obtain ⟨i,j,rfl,q⟩:=h
  obtain ⟨u,w',rfl,⟨t,rfl⟩,⟨t',rfl⟩⟩:=vals2 r
  refine min_two_ints (I.ok.hd hc) fun h' tk k => ⟨_,H,I.kept k,?_,q⟩
  by_cases hj : j < i
  · rw [if_pos hj,if_pos hj]; exact ⟨_,rfl⟩
  · rw [if_neg hj,if_neg hj]; exact ⟨_,rfl⟩
theorem call_int1 : CallR X (.type "int") (fun xs H Q => (∃ i,xs = [.int i]∧Q (.int i) H)∨∃ k,xs = [.bl k]∧Q (.int (if k then 1 else 0)) H) := by
  intro pins s σ H xs us Q I r h
  rcases h with ⟨i,rfl,q⟩ | ⟨k,rfl,q⟩
  · obtain ⟨u,rfl,t,rfl⟩:=vals1 r
    exact call_int_int ⟨.int i,H,I,⟨_,rfl⟩,q⟩
  · obtain ⟨u,rfl,r1⟩:=vals1 r
    cases r1
    exact call_int_bool ⟨.int (if k then 1 else 0),H,I.tok _,⟨_,rfl⟩,q⟩
end
structure ObjM (h : Heap) (x dx C : Addr) (mA : Str→Option Value) : Prop where
  obj : h.get? x = some (PySem.W.instObj C dx)
  ns : h.Ns1 dx mA
  ne : dx≠x
theorem lookIn_ns {h : Heap} {dx : Addr} {mA : Str→Option Value} (n : h.Ns1 dx mA) : ∃ od,h.get? dx = some od∧∀ name,PySem.W.lookIn name od = some (mA name) := by
  obtain ⟨o,es,ep,ho,hd,hk,_,hm⟩:=n
  refine ⟨o,ho,fun name => ?_⟩
  have e:=hm name
  unfold nsFind findBy at e
  rw [← Array.find?_toList] at e
  unfold PySem.W.lookIn
  rw [hd]
  dsimp only
  split
  · rename_i y q
    rw [q] at e
    exact congrArg some e
  · rename_i q
    rw [q] at e
    have a : es.toList.any (·.refKey) = false := by
      rw [List.any_eq_false]
      intro y hy
      obtain ⟨z,t,hkey⟩:=hk y (Array.mem_toList_iff.mp hy)
      simp [DictEntry.refKey,hkey]
    have a' : ¬ es.toList.any (·.refKey) = true := by rw [a]; exact Bool.false_ne_true
    rw [if_neg a']
    exact congrArg some e
theorem ObjM.look {h : Heap} {x dx C : Addr} {mA : Str→Option Value} (I : ObjM h x dx C mA) : ∃ od,PySem.W.InstAt h x (PySem.W.instObj C dx) C (some od)∧∀ name,PySem.W.lookIn name od = some (mA name) :=
  let ⟨od,ho,hl⟩:=lookIn_ns I.ns
  ⟨od,⟨I.obj,rfl,rfl,ho⟩,hl⟩
section
variable {P : Program} {w : World} {H : Hp} {h : Heap} {a C dx : Addr} {fs : List (Str×V)}
theorem ins_get (hok : HOk P w H h) (e : H a = some (.ins C dx fs)) : ∃ mA,ObjM h a dx C mA∧(∀ f,RelO (fs.lookup f) (mA f))∧PySem.Within mA (fs.map (·.1))∧fs.length≤1000∧H dx = some (.own a) := by
  obtain ⟨d,z,ne,ob,mA,n,r,q⟩:=(show ObjOk P w H h a (.ins C dx fs) from hok a _ e)
  exact ⟨mA,⟨ob,n,ne⟩,r,q,z,d⟩
end
structure Cls (K : PySem.W.Frag) (C : Addr) : Prop where
  pg : PySem.W.plainGet K C Str.empty = true
  hd : PySem.W.hasDictIn K C = true
  po : PySem.W.plainOver K C = true
  sa : PySem.W.findIn K (.ref C) "__setattr__" = some (some (.builtin "object.__setattr__"))
theorem Cls.get {K : PySem.W.Frag} {C : Addr} (c : Cls K C) (f : Str) : PySem.W.plainGet K C f = true:=c.pg
section
variable {X : Cx} {pins : List (Addr×Obj)} {σ : St} {H : Hp} {s : Shared} {A : Around} {E : Value→Shared→Prop} {Q : Value→Shared→Prop} {c : Value} {b : Bool}
inductive TyOf (K : PySem.W.Frag) (H : Hp) : V→Value→Prop where
  | non : TyOf K H .non (.type "NoneType")
  | bl (x : Bool) : TyOf K H (.bl x) (.type "bool")
  | int (i : Int) : TyOf K H (.int i) (.type "int")
  | str (x : Str) : TyOf K H (.str x) (.type "str")
  | flt (x : UInt64) : TyOf K H (.flt x) (.type "float")
  | lst {a : Addr} {xs : List V} (e : H a = some (.lst xs)) : TyOf K H (.ref a) (.type "list")
  | frz {a : Addr} {o : Obj} {xs : List V} (e : H a = some (.frz o (.lst xs))) : TyOf K H (.ref a) (.type "list")
  | tup {a : Addr} {xs : List V} (e : H a = some (.tup xs)) : TyOf K H (.ref a) (.type "tuple")
  | dK {a : Addr} {kvs : List (Key×V)} (e : H a = some (.dK kvs)) : TyOf K H (.ref a) (.type "dict")
  | dT {a : Addr} {kvs : List (List Key×V)} (e : H a = some (.dT kvs)) : TyOf K H (.ref a) (.type "dict")
  | ins {a C dx : Addr} {fs : List (Str×V)} (e : H a = some (.ins C dx fs)) (cl : Cls K C) (ha : PySem.W.findIn K (.ref C) "__class__" = some (some (.builtin "object.__class__")))
      (hn : PySem.W.specialIn K (.builtin "object.__class__") "__get__" = some (some (.builtin "getset_descriptor.__get__"))) (htk : PySem.W.takesIn K (.builtin "object.__class__") = some true)
      (hm : PySem.W.mroIn K C (.type "object") = some true) : TyOf K H (.ref a) (.ref C)
theorem isinst_ok {x : V} {u t : Value} (I : Inv X pins σ H s) (rx : RelV x u) (ty : TyOf X.K H x t) (e : PySem.W.kitOne X.K t c = some b) (h : ∀ tk,Q (.bool b) { s with toks:=tk }) :
    wpAny (model X.prog X.w) A (call (.builtin "isinstance") [u,c]) Q E s := by
  cases ty with
  | non => cases (show u = Value.none from rx); exact PySem.W.kia_one PySem.W.kitx_none I.kIn True.intro e (fun z => nomatch z) h
  | bl y => cases (show u = Value.bool y from rx); exact PySem.W.kia_one PySem.W.kitx_bool I.kIn True.intro e (fun z => nomatch z) h
  | int i => obtain ⟨t,q⟩:=(show ∃ t,u = Value.int i t from rx); cases q; exact PySem.W.kia_one PySem.W.kitx_int I.kIn True.intro e (fun z => nomatch z) h
  | str y => obtain ⟨t,q⟩:=(show ∃ t,u = Value.str y t from rx); cases q; exact PySem.W.kia_one PySem.W.kitx_str I.kIn True.intro e (fun z => nomatch z) h
  | flt y => obtain ⟨t,q⟩:=(show ∃ t,u = Value.float y t from rx); cases q; exact PySem.W.kia_one PySem.W.kitx_float I.kIn True.intro e (fun z => nomatch z) h
  | @lst a xs ea =>
    cases (show u = Value.ref a from rx)
    obtain ⟨_,_,n,_,h1⟩:=(show ObjOk X.prog X.w H s.heap a (.lst xs) from I.hok a _ ea)
    exact PySem.W.kia_one PySem.W.kitx_list I.kIn ⟨_,h1,rfl⟩ e (fun z => nomatch z) h
  | @frz a ob xs ea =>
    cases (show u = Value.ref a from rx)
    obtain ⟨_,_,_,n,_,h1⟩:=(show ObjOk X.prog X.w H s.heap a (.frz ob (.lst xs)) from I.hok a _ ea)
    exact PySem.W.kia_one PySem.W.kitx_list I.kIn ⟨_,h1,rfl⟩ e (fun z => nomatch z) h
  | @tup a xs ea =>
    cases (show u = Value.ref a from rx)
    obtain ⟨_,_,_,p⟩:=(show ObjOk X.prog X.w H s.heap a (.tup xs) from I.hok a _ ea)
    obtain ⟨o,h1,h2,_⟩:=p
    exact PySem.W.kia_one PySem.W.kitx_tuple I.kIn ⟨o,h1,h2⟩ e (fun z => nomatch z) h
  | @dK a kvs ea =>
    cases (show u = Value.ref a from rx)
    obtain ⟨_,_,vs,_,p⟩:=(show ObjOk X.prog X.w H s.heap a (.dK kvs) from I.hok a _ ea)
    obtain ⟨o,es,ep,h1,h2,_⟩:=p
    exact PySem.W.kia_one PySem.W.kitx_dict I.kIn ⟨o,h1,h2.1⟩ e (fun z => nomatch z) h
  | @dT a kvs ea =>
    cases (show u = Value.ref a from rx)
    obtain ⟨_,_,xs,_,o,es,ep,h1,h2,_⟩:=(show ObjOk X.prog X.w H s.heap a (.dT kvs) from I.hok a _ ea)
    exact PySem.W.kia_one PySem.W.kitx_dict I.kIn ⟨o,h1,h2.1⟩ e (fun z => nomatch z) h
  | @ins a C dx fs ea cl ha hn htk hm =>
    cases (show u = Value.ref a from rx)
    obtain ⟨mA,O,_⟩:=ins_get I.hok ea
    obtain ⟨od,J,_⟩:=O.look
    exact PySem.W.kia_one (PySem.W.kitx_own (cl.get _) cl.hd ha hn htk hm) I.kIn J e (fun z => nomatch z) h
end
structure Room (k : Nat) (A : Around) : Prop where
  hd : A.handled = none
  dp : A.depth + 3 * k + 5 < recursionLimit
  un : A.units + 16 * k + 200 < cLine
theorem Room.mono {j k : Nat} {A : Around} (r : Room k A) (h : j≤k := by decide) : Room j A:=⟨r.hd,by have:=r.dp; lia,by have:=r.un; lia⟩
theorem Room.deeper {k : Nat} {A : Around} (r : Room (k + 1) A) (env : Env) : Room k (A.deeper env) :=
  ⟨r.hd,by have:=r.dp; show A.depth + 1 + 3 * k + 5 < _; lia,by have:=r.un; show A.units + 3 + 16 * k + 200 < _; lia⟩
theorem Room.depth {k : Nat} {A : Around} (r : Room k A) : A.depth < recursionLimit := by have:=r.dp; lia
theorem Room.units {k : Nat} {A : Around} (r : Room k A) : A.units + 64 < cLine := by have:=r.un; lia
def tNil : TA:=fun _ H Q => Q [] H
def tCons (ta : TE) (tr : TA) : TA:=fun σ H Q => ta σ H fun x H1 => tr σ H1 fun xs H2 => Q (x :: xs) H2
section
variable {X : Cx} {e : Expr} {es : List Expr} {te : TE} {t : TA} {pos : Pos}
theorem pa_nil : PA X [] tNil:=fun _ _ _ _ H Q I h => Calls.spliced_nil ⟨[],H,I,.nil,h⟩
theorem pa_cons (ha : PE X e te) (hr : PA X es t) (hs : starEach (e :: es) X.env = (false,eval e X.env) :: starEach es X.env := by rfl) : PA X (e :: es) (tCons te t) := by
  intro pos pins s σ H Q I h
  rw [hs]
  show wpAny _ _ (spliced ((false,eval e X.env) :: backTo pos (starEach es X.env))) _ _ s
  refine Calls.spliced_cons (thn (ha pins s σ H _ I h) fun u s1 ⟨x,H1,I1,r1,q1⟩ => ?_)
  exact thn (hr pos pins s1 σ H1 _ I1 q1) fun us s2 ⟨xs,H2,I2,r2,q2⟩ => ⟨x :: xs,H2,I2,.cons r1 r2,q2⟩
def tTup (t : TA) : TE:=fun σ H Q => t σ H fun xs H1 => xs.length≤sizeLine∧∀ p,H1 p = none→Q (.ref p) (upd H1 p (.tup xs))
def tLst (t : TA) : TE:=fun σ H Q => t σ H fun xs H1 => xs.length≤sizeLine∧∀ p,H1 p = none→Q (.ref p) (upd H1 p (.lst xs))
theorem pe_tup {x1} (h : PA X es t) : PE X (.Tuple es x1 pos) (tTup t) := by
  intro pins s σ H Q I hq
  refine wpAny_Tuple_spliced (thn (h pos pins s σ H _ I hq) fun us s1 ⟨xs,H1,I1,r,z,q⟩ => ⟨by rw [← r.length]; exact z,?_⟩)
  have hf : H1 s1.heap.objs.size = none:=I1.hok.fresh (Nat.le_refl _)
  refine ⟨.ref s1.heap.objs.size,upd H1 s1.heap.objs.size (.tup xs),I1.laid (t':=s1.toks) (fun b u e => Heap.get?_push_of_some _ e) (Nat.le_refl _) ?_,rfl,q _ hf⟩
  exact ⟨z,us,r,⟨_,Heap.get?_push_size _ rfl,rfl,_,rfl⟩⟩
theorem pe_lst (h : PA X es t) : PE X (.List es pos) (tLst t) := by
  intro pins s σ H Q I hq
  refine wpAny_List_spliced (thn (h pos pins s σ H _ I hq) fun us s1 ⟨xs,H1,I1,r,z,q⟩ => ⟨by rw [← r.length]; exact z,?_⟩)
  have hf : H1 s1.heap.objs.size = none:=I1.hok.fresh (Nat.le_refl _)
  refine ⟨.ref s1.heap.objs.size,upd H1 s1.heap.objs.size (.lst xs),I1.laid (t':=s1.toks) (fun b u e => Heap.get?_push_of_some _ e) (Nat.le_refl _) ?_,rfl,q _ hf⟩
  exact ⟨z,us,0,r,Heap.get?_push_size _ rfl⟩
end
abbrev Sp:=List V→Hp→VK→XK→Prop
abbrev CXT:=List Env→Hp→Shared→XK→Value→Shared→Prop
structure Env0 (P : Program) (w : World) (K : PySem.W.Frag) (mg : Str→Option Value) (base : Heap) (A : Around) (outer : List Env) (s : Shared) (H : Hp) : Prop where
  frames : A.frames = some outer
  mod : Mod K mg base
  bs : ∀ b o,base.get? b = some o→s.heap.get? b = some o∧H b = none
  bsz : base.objs.size≤s.heap.objs.size
  funs : s.heap.FunFrames base outer
  frf : ∀ b∈frs outer,H b = none
  hok : HOk P w H s.heap
  bare : AllBare s.gens
  kt : KTb mg H
def CE (outer : List Env) (P : Program) (w : World) (H : Hp) (s : Shared) (Q : VK) (u : Value) (s' : Shared) : Prop :=
  ∃ v H',s'.os = s.os∧AllBare s'.gens∧Un (frs outer) [] H H' s.heap s'.heap∧HOk P w H' s'.heap∧RelV v u∧Q v H'
def CR (CX : CXT) (outer : List Env) (P : Program) (w : World) (H : Hp) (s : Shared) (Q : VK) (E : XK) (r : Result) (s' : Shared) : Prop :=
  match r with
  | .ok (.ret u) => CE outer P w H s Q u s'
  | .ok _ => False
  | .error e => CX outer H s E e s'
structure FnOk (P : Program) (w : World) (K : PySem.W.Frag) (mg : Str→Option Value) (base : Heap) (CX : CXT) (k : Nat) (f : Addr) (fd : FuncData) (ps : List Str) (sp : Sp) : Prop where
  len : ∀ vs H Q E,sp vs H Q E→vs.length = ps.length
  run : ∀ (A : Around) (outer : List Env) (s : Shared) (H : Hp) (args : Args) (us : List Value) (vs : List V) (Q : VK) (E : XK),Room k A→Env0 P w K mg base A outer s H→BindsTo s fd args (ps.zip us)→Vals vs us→sp vs H Q E →
    codeAny (model P w) A (.call (.ref f) args) (CR CX outer P w H s Q E) s
theorem FnOk.mono {P : Program} {w : World} {K : PySem.W.Frag} {mg : Str→Option Value} {base : Heap} {CX : CXT} {j k : Nat} {f : Addr} {fd : FuncData} {ps : List Str} {sp : Sp} (F : FnOk P w K mg base CX j f fd ps sp) (h : j≤k := by decide) :
    FnOk P w K mg base CX k f fd ps sp:=⟨F.len,fun A outer s H args us vs Q E hr => F.run A outer s H args us vs Q E (hr.mono h)⟩
theorem FnOk.imp {P : Program} {w : World} {K : PySem.W.Frag} {mg : Str→Option Value} {base : Heap} {CX : CXT} {k : Nat} {f : Addr} {fd : FuncData} {ps : List Str} {sp sp' : Sp} (F : FnOk P w K mg base CX k f fd ps sp)
    (h : ∀ vs H Q E,sp' vs H Q E→sp vs H Q E) : FnOk P w K mg base CX k f fd ps sp' :=
  ⟨fun vs H Q E q => F.len vs H Q E (h _ _ _ _ q),fun A outer s H args us vs Q E hr he hb hv hs => F.run A outer s H args us vs Q E hr he hb hv (h _ _ _ _ hs)⟩
section
variable {X : Cx} {pins : List (Addr×Obj)} {σ : St} {H : Hp} {s s' : Shared}
theorem Inv.env0 (I : Inv X pins σ H s) : Env0 X.prog X.w X.K X.mg X.base X.A X.stack s H :=
  ⟨I.ok.frames,I.ok.mod,I.bs,Nat.le_trans I.ok.bsz I.sz,I.stack,I.stkFree,I.hok,I.bare,I.kt⟩
theorem Inv.after {Q : VK} {u : Value} (I : Inv X pins σ H s) (h : CE X.stack X.prog X.w H s Q u s') : EP X pins σ Q u s' := by
  obtain ⟨v,H',os,bare,un,hok,r,q⟩:=h
  obtain ⟨hh,g,d,t,os'⟩:=s'
  obtain rfl : os' = s.os:=os
  exact ⟨v,H',I.call (h':=hh) (g':=g) (d':=d) (t':=t) (ch:=[]) un hok bare (fun b z => absurd z (by simp)),r,q⟩
end
def tCall (sp : Sp) (dvs : List V) (E : XK) (t : TA) : TE:=fun σ H Q => t σ H fun vs H1 => sp (vs ++ dvs) H1 Q E
def Binds (K : PySem.W.Frag) (fd : FuncData) (ps : List Str) (ds : List Value) : Prop :=
  ∀ (s : Shared) (us : List Value),K.In s.heap→(us ++ ds).length = ps.length→BindsTo s fd ⟨us,[]⟩ (ps.zip (us ++ ds))
theorem Binds.all {K : PySem.W.Frag} {fd : FuncData} {ps : List Str} (h : ∀ us : List Value,us.length = ps.length→bindArgs fd ⟨us,[]⟩ = pure (ps.zip us)) : Binds K fd ps []:=fun s us _ hl => by
  rw [List.append_nil] at hl ⊢
  exact .of_eq (h us hl)
def Passes (CX : CXT) (X : Cx) (E : XK) : Prop:=∀ (pins : List (Addr×Obj)) (σ : St) (H : Hp) (s : Shared) (e : Value) (s' : Shared),Inv X pins σ H s→CX X.stack H s E e s'→X.xe e s'
section
variable {X : Cx} {CX : CXT} {k : Nat} {f : Addr} {fd : FuncData} {ps : List Str} {sp : Sp} {dvs : List V} {ds : List Value} {E : XK} {x : Str} {p pos : Pos} {e : Expr} {es : List Expr}  {t : TA}
theorem run_fn {pins : List (Addr×Obj)} {σ : St} {H : Hp} {s : Shared} {Q : VK} {us : List Value} {vs : List V} (F : FnOk X.prog X.w X.K X.mg X.base CX k f fd ps sp) (hr : Room k X.A) (hb : Binds X.K fd ps ds) (hd : Vals dvs ds) (hx : Passes CX X E)
    (I : Inv X pins σ H s) (r : Vals vs us) (h : sp (vs ++ dvs) H Q E) : wpAny (model X.prog X.w) X.A (call (.ref f) us) (EP X pins σ Q) X.xe s := by
  have r2 : Vals (vs ++ dvs) (us ++ ds):=r.append hd
  have hl : (us ++ ds).length = ps.length := by rw [← r2.length]; exact F.len _ _ _ _ h
  refine wpAny_call (codeAny_mono (F.run X.A X.stack s H ⟨us,[]⟩ (us ++ ds) (vs ++ dvs) Q E hr I.env0 (hb s us I.kIn hl) r2 h) fun r s' hq => ?_)
  cases r with
  | error e => exact hx pins σ H s e s' I hq
  | ok fl =>
    cases fl with
    | ret u => exact I.after hq
    | next => exact False.elim hq
    | brk => exact False.elim hq
    | cont => exact False.elim hq
theorem pe_call (F : FnOk X.prog X.w X.K X.mg X.base CX k f fd ps sp) (hr : Room k X.A) (hg : Gl X x) (hm : X.mg x = some (.ref f)) (hk : PySem.W.keepIn X.K (.ref f) = true) (hb : Binds X.K fd ps ds) (hd : Vals dvs ds) (hx : Passes CX X E)
    (ha : PA X (e :: es) t) (hdb : (x == ("__debug__" : Str)) = false := by decide) (he : starEach (e :: es) X.env = (false,eval e X.env) :: starEach es X.env := by rfl) (hpl : (backTo pos (starEach es X.env)).any (·.1) = false := by rfl) :
    PE X (.Call (.Name x p) (e :: es) [] pos) (tCall sp dvs E t) := by
  intro pins s σ H Q I h
  refine wpAny_Call_Name_kw (ld_glob I hg hm ?_ hdb)
  refine PySem.W.callWith_K (h₀:=X.base) I.ok.mod.kin hk (thn (ha pos pins s σ H _ I h) fun us s1 ⟨vs,H1,I1,r,q⟩ => ⟨I1.kIn,?_⟩) he hpl
  exact run_fn F hr hb hd hx I1 r q
end
structure FnScope (N P : List Str) (sc : Scope) : Prop where
  kind : sc.kind = .function
  co : sc.isCoroutine = false
  gen : sc.isGenerator = false
  nd : N.Nodup
  pre : N.take P.length = P
  par : ∀ x∈P,sc.names.lookup x = some .local∨sc.names.lookup x = some .cell
  nofree : ∀ y∈sc.names,y.2≠.free
theorem bindL_out {kindOf : Str→Option NameKind} {x : Str} : ∀ {binds : List (Str×Value)} {m : Str→Option Value},(∀ v,(x,v) ∉ binds)→bindL kindOf binds m x = m x
  | [],_,_ => rfl
  | (n,v) :: r,m,h => by
    unfold bindL
    rw [bindL_out fun w hw => h w (List.mem_cons_of_mem _ hw)]
    split
    · have : x≠n := by rintro rfl; exact h v List.mem_cons_self
      simp [this]
    · rfl
theorem bindC_out {kindOf : Str→Option NameKind} {x : Str} : ∀ {binds : List (Str×Value)} {m : Str→Option Value},(∀ v,(x,v) ∉ binds)→bindC kindOf binds m x = m x
  | [],_,_ => rfl
  | (n,v) :: r,m,h => by
    unfold bindC
    rw [bindC_out fun w hw => h w (List.mem_cons_of_mem _ hw)]
    split
    · rfl
    · have : x≠n := by rintro rfl; exact h v List.mem_cons_self
      simp [this]
theorem bindL_get {kindOf : Str→Option NameKind} {x : Str} {v : Value} : ∀ {P : List Str} {vs : List Value} {i : Nat} {m : Str→Option Value},P.Nodup→P[i]? = some x→vs[i]? = some v→kindOf x = some .local →
    bindL kindOf (P.zip vs) m x = some v
  | [],_,_,_,_,h,_,_ => by simp at h
  | _ :: _,[],_,_,_,_,h,_ => by simp at h
  | p :: P,w :: vs,0,m,nd,h1,h2,hk => by
    simp at h1 h2; subst h1; subst h2
    show bindL kindOf ((p,w) :: P.zip vs) m p = _
    unfold bindL
    rw [bindL_out fun v hv => (List.nodup_cons.mp nd).1 (List.of_mem_zip hv).1,if_pos hk]
    simp
  | p :: P,w :: vs,i + 1,m,nd,h1,h2,hk => by
    show bindL kindOf ((p,w) :: P.zip vs) m x = _
    unfold bindL
    exact bindL_get (i:=i) (List.nodup_cons.mp nd).2 (by simpa using h1) (by simpa using h2) hk
theorem bindC_get {kindOf : Str→Option NameKind} {x : Str} {v : Value} : ∀ {P : List Str} {vs : List Value} {i : Nat} {m : Str→Option Value},P.Nodup→P[i]? = some x→vs[i]? = some v→kindOf x≠some .local →
    bindC kindOf (P.zip vs) m x = some v
  | [],_,_,_,_,h,_,_ => by simp at h
  | _ :: _,[],_,_,_,_,h,_ => by simp at h
  | p :: P,w :: vs,0,m,nd,h1,h2,hk => by
    simp at h1 h2; subst h1; subst h2
    show bindC kindOf ((p,w) :: P.zip vs) m p = _
    unfold bindC
    rw [bindC_out fun v hv => (List.nodup_cons.mp nd).1 (List.of_mem_zip hv).1,if_neg hk]
    simp
  | p :: P,w :: vs,i + 1,m,nd,h1,h2,hk => by
    show bindC kindOf ((p,w) :: P.zip vs) m x = _
    unfold bindC
    exact bindC_get (i:=i) (List.nodup_cons.mp nd).2 (by simpa using h1) (by simpa using h2) hk
def start (N : List Str) (vs : List V) : St:=vs.map some ++ List.replicate (N.length - vs.length) none
def cxOf (CX : CXT) (P : Program) (w : World) (K : PySem.W.Frag) (mg : Str→Option Value) (base : Heap) (N : List Str) (qual : Str) (scope : Scope) (f : Addr) (cd : Value) (A : Around) (outer : List Env) (s : Shared) (H : Hp) (E : XK) : Cx where
  prog:=P
  w:=w
  K:=K
  mg:=mg
  base := base
  A:=A.deeper (envOfC qual scope s.heap.objs.size f cd)
  N:=N
  s₀:=s
  H₀:=H
  env:=envOfC qual scope s.heap.objs.size f cd
  outer:=outer
  stack:=envOfC qual scope s.heap.objs.size f cd :: outer
  ex:=[]
  calm:=true
  fn:=fun _ => true
  pn:=[]
  xe:=fun e s' => wpAny (model P w) (A.deeper (envOfC qual scope s.heap.objs.size f cd)) (leaving (envOfC qual scope s.heap.objs.size f cd) e) (fun _ s'' => CX outer H s E e s'') (fun e' s'' => CX outer H s E e' s'') s'
theorem cell_has {sc : Scope} {n : Nat} {x : Str} (h : sc.names.lookup x = some .cell) : ∃ c,(cellsFrom n sc.names []).lookup x = some c := by
  have q:=PySem.W.cellsFrom_some sc.names n [] (.inl h)
  exact Option.isSome_iff_exists.mp q
theorem inv_start {CX : CXT} {P : Program} {w : World} {K : PySem.W.Frag} {mg : Str→Option Value} {base : Heap} {N ps : List Str} {qual : Str} {scope : Scope} {f : Addr} {cd : Value} {A : Around} {outer : List Env} {s s1 : Shared} {H : Hp} {E : XK} {us : List Value} {vs : List V}
    (S : FnScope N ps scope) (hd : A.handled = none) (e0 : Env0 P w K mg base A outer s H) (hl : vs.length = ps.length) (r : Vals vs us)
    (x : InCallC s s.heap.objs.size (bindL (envOfC qual scope s.heap.objs.size f cd).kindOf (ps.zip us) fun _ => none) (cellsFrom (s.heap.objs.size + 1) scope.names []) (bindC (envOfC qual scope s.heap.objs.size f cd).kindOf (ps.zip us) fun _ => none) s1) :
    Inv (cxOf CX P w K mg base N qual scope f cd A outer s H E) [] (start N vs) H s1 := by
  have hpl : ps.length≤N.length := by have:=congrArg List.length S.pre; rw [List.length_take] at this; lia
  obtain ⟨h1,tk,rfl,hk⟩:=x.done
  have noA : ∀ b : Addr,b ∉ (cxOf CX P w K mg base N qual scope f cd A outer s H E).ex:=fun b z => absurd (show b∈([] : List Addr) from z) (by simp)
  refine ⟨⟨e0.mod,S.kind,rfl,rfl,Nat.le_refl _,fun y z c h1 h2 => ?_,fun y hy => ?_,fun y c _ h => ?_,fun _ => hd,Around.frames_deeper e0.frames,.inr ⟨rfl,rfl⟩,fun b z => absurd z (noA b),e0.bs,e0.bsz,fun b _ _ => noA b,fun b z => absurd z (noA b),e0.funs,e0.frf,e0.kt⟩,
    rfl,e0.bare,Un.kept hk,⟨_,x.toInCall.ns,fun i y v h1 h2 h3 => ?_⟩,fun y c h => ⟨_,x.cell y c h⟩,e0.hok.fresh (Nat.le_refl _),fun y c h => ?_,fun p hp => absurd (show p∈([] : List (Addr×Obj)) from hp) (by simp),e0.hok.kept hk,?_⟩
  · exact name_of_addr x.apart (PySem.mem_of_lookup h1) (PySem.mem_of_lookup h2)
  · have hy : scope.names.lookup y = some .cell∨scope.names.lookup y = some .free:=hy
    rcases hy with hy | hy
    · exact cell_has hy
    · exact absurd rfl (S.nofree _ (PySem.mem_of_lookup hy))
  · exact Nat.le_of_lt (x.above y c (PySem.mem_of_lookup h))
  · have hi : i < vs.length := by
      unfold start at h2
      by_cases hi : i < vs.length
      · exact hi
      · rw [List.getElem?_append_right (by simpa using hi)] at h2
        rw [List.getElem?_replicate] at h2
        split at h2 <;> cases h2
    have ha : vs[i]? = some v := by
      unfold start at h2
      rw [List.getElem?_append_left (by simpa using hi),List.getElem?_map] at h2
      cases e : vs[i]? with
      | none => rw [e] at h2; cases h2
      | some a => rw [e] at h2; cases h2; rfl
    obtain ⟨u,hu,rv⟩:=r.get ha
    have hp : ps[i]? = some y := by
      rw [← S.pre,List.getElem?_take_of_lt (by lia)]; exact h1
    have ndP : ps.Nodup := by rw [← S.pre]; exact S.nd.sublist (List.take_sublist _ _)
    refine ⟨u,rv,?_⟩
    rcases S.par y (List.mem_of_getElem? hp) with k | k
    · exact .inl ⟨k,bindL_get ndP hp hu k⟩
    · obtain ⟨c,e⟩:=cell_has (n:=s.heap.objs.size + 1) k
      refine .inr ⟨.inl k,c,e,?_⟩
      have q:=x.cell y c e
      rw [bindC_get ndP hp hu (by show scope.names.lookup y≠_; rw [k]; decide)] at q
      exact q
  · exact e0.hok.fresh (Nat.le_of_lt (x.above y c (PySem.mem_of_lookup h)))
  · unfold start
    show _ = N.length
    rw [List.length_append,List.length_map,List.length_replicate]
    lia
theorem fn_of {CX : CXT} {P : Program} {w : World} {K : PySem.W.Frag} {mg : Str→Option Value} {base : Heap} {k : Nat} {f : Addr} {name qual : Str} {params : Arguments} {body : List Stmt} {scope : Scope} {dV kV doc pm cdv ct oc : Value} {an od : Option Addr}
    {osl : Array (Option Value)} {N ps : List Str} {sp : Sp} (lk : K.lookup f = some ⟨oc,od,.func (PySem.W.fnOf name qual params body scope dV kV doc pm an cdv ct),osl⟩) (hcd : PySem.W.codeIn K cdv qual = true) (S : FnScope N ps scope)
    (len : ∀ vs H Q E,sp vs H Q E→vs.length = ps.length)
    (hbody : ∀ (A : Around) (outer : List Env) (s : Shared) (H : Hp) (vs : List V) (Q : VK) (E : XK),Room k (A.deeper (envOfC qual scope s.heap.objs.size f cdv))→sp vs H Q E →
      ∃ t,PSs (cxOf CX P w K mg base N qual scope f cdv A outer s H E) body t∧t { nx:=fun _ H' => Q .non H',rt:=Q } (start N vs) H) :
    FnOk P w K mg base CX (k + 1) f (PySem.W.fnOf name qual params body scope dV kV doc pm an cdv ct) ps sp := by
  refine ⟨len,fun A outer s H args us vs Q E hr e0 hb r hsp => ?_⟩
  have hl:=len _ _ _ _ hsp
  have KX : K.In s.heap:=e0.mod.kin.keeps fun b o e => (e0.bs b o e).1
  have lim : s.heap.NoLimit:=e0.mod.nolimit.keeps fun b o e => (e0.bs b o e).1
  have hkind : ∀ y∈ps.zip us,scope.names.lookup y.1 = some .local∨(scope.names.lookup y.1 = some .cell∧((cellsFrom (s.heap.objs.size + 1) scope.names []).lookup y.1).isSome = true):=fun ⟨n,v⟩ hy => by
    rcases S.par n (List.of_mem_zip hy).1 with q | q
    · exact .inl q
    · exact .inr ⟨q,PySem.W.cellsFrom_some _ _ _ (.inl q)⟩
  refine codeAny_call_function hr.depth (KX _ _ lk) rfl S.co S.gen rfl (PySem.W.codeRec_of KX hcd) (hb _ _ _ _ ?_)
  refine wpAny_newFunctionEnv_cells S.kind hkind fun env he s1 x => ?_
  subst he
  refine ⟨lim.keeps x.toInCall.keep,codeAny_func ?_⟩
  obtain ⟨t,ht,hq⟩:=hbody A outer s H vs Q E (hr.deeper _) hsp
  have I : Inv (cxOf CX P w K mg base N qual scope f cdv A outer s H E) [] (start N vs) H s1:=inv_start S hr.hd e0 hl r x
  refine wpAny_mono (ht [] s1 (start N vs) H _ I hq) (fun fl s' hs => ?_) fun e s' hs => hs
  have fin : ∀ {σ' : St} {H' : Hp} {v : V} {u : Value},Inv (cxOf CX P w K mg base N qual scope f cdv A outer s H E) [] σ' H' s'→RelV v u→Q v H'→CE outer P w H s Q u s' :=
    fun {σ' H' v u} J rv q => ⟨v,H',J.os,J.bare,J.base,J.hok,rv,q⟩
  cases fl with
  | ret u =>
    obtain ⟨v,σ',H',J,rv,q⟩:=hs
    exact fin J rv q
  | next =>
    obtain ⟨σ',H',J,q⟩:=hs
    exact fin (v:=V.non) (u:=Value.none) J rfl q
  | brk =>
    obtain ⟨_,_,_,q⟩:=hs
    exact False.elim q
  | cont =>
    obtain ⟨_,_,_,q⟩:=hs
    exact False.elim q
section
variable {X : Cx} {x : Str} {p pos : Pos} {e : Expr} {es : List Expr} {t : TA} {id T : String} {r : List V→Hp→VK→Prop}
def tCB (r : List V→Hp→VK→Prop) (t : TA) : TE:=fun σ H Q => t σ H fun vs H1 => r vs H1 Q
theorem pe_callB (hc : CallR X (.builtin id) r) (hg : Gl X x) (hm : X.mg x = none) (hv : bootBuiltins x = some (.builtin id)) (ha : PA X (e :: es) t) (hn : x ≠ "__name__" := by decide) (hdb : (x == ("__debug__" : Str)) = false := by decide)
    (he : starEach (e :: es) X.env = (false,eval e X.env) :: starEach es X.env := by rfl) (hpl : (backTo pos (starEach es X.env)).any (·.1) = false := by rfl) : PE X (.Call (.Name x p) (e :: es) [] pos) (tCB r t) := by
  intro pins s σ H Q I h
  refine wpAny_Call_Name_kw (ld_blt I hg hm hv ?_ hn hdb)
  exact PyProof.Rows.callWith_builtin1 (thn (ha pos pins s σ H _ I h) fun us s1 ⟨vs,H1,I1,r1,q1⟩ => hc pins s1 σ H1 vs us Q I1 r1 q1) he hpl
theorem pe_callTy (hc : CallR X (.type T) r) (hg : Gl X x) (hm : X.mg x = none) (hv : bootBuiltins x = some (.type T)) (ha : PA X (e :: es) t) (hn : x ≠ "__name__" := by decide) (hdb : (x == ("__debug__" : Str)) = false := by decide)
    (he : starEach (e :: es) X.env = (false,eval e X.env) :: starEach es X.env := by rfl) (hpl : (backTo pos (starEach es X.env)).any (·.1) = false := by rfl) : PE X (.Call (.Name x p) (e :: es) [] pos) (tCB r t) := by
  intro pins s σ H Q I h
  refine wpAny_Call_Name_kw (ld_blt I hg hm hv ?_ hn hdb)
  exact PyProof.Rows.callWith_type1 (thn (ha pos pins s σ H _ I h) fun us s1 ⟨vs,H1,I1,r1,q1⟩ => hc pins s1 σ H1 vs us Q I1 r1 q1) he hpl
end
end L2
namespace HT
open PySem PyProof.Rows
section
variable {prog : Program} {w : World} {A : Around} {E : Value→Shared→Prop} {s : Shared}
theorem cat_tup {t b : Addr} {vs ws : List Value} {Q : Value→Shared→Prop} (ht : IsTup s.heap t vs.toArray) (hb : IsTup s.heap b ws.toArray) (hv : vs≠[])
    (h1 : ws = []→Q (.ref t) s) (h2 : ws≠[]→Q (.ref s.heap.objs.size) { s with heap:=s.heap.push { cls:=.type "tuple",data:=.seq (vs ++ ws).toArray } })
    (hsz : vs.length + ws.length≤sizeLine) : wpAny (model prog w) A (binaryOp .Add (.ref t) (.ref b)) Q E s := by
  obtain ⟨⟨cls,dd,data,sl⟩,ho,hc,n,hd⟩:=id ht
  obtain ⟨⟨cls2,dd2,data2,sl2⟩,ho2,hc2,n2,hd2⟩:=id hb
  simp only at hc hd hc2 hd2
  subst hc hd hc2 hd2
  have e : vs.toArray ++ ws.toArray = (vs ++ ws).toArray := by simp
  by_cases hw : ws = []
  · exact concat_meets ⟨_,ho,rfl⟩ ⟨_,ho2,rfl⟩ noFill_tuple_add seq_tuple_add PySem.F.slot_tuple_add PySem.F.entry_tuple_add (PySem.F.args_tuple_add_2 _ _)
      (tuple_addW1 t b vs.toArray ws.toArray n n2 dd dd2 sl sl2 (by simpa using hv) (by simp [hw])) ⟨ho,ho2,h1 hw⟩
  · refine concat_meets ⟨_,ho,rfl⟩ ⟨_,ho2,rfl⟩ noFill_tuple_add seq_tuple_add PySem.F.slot_tuple_add PySem.F.entry_tuple_add (PySem.F.args_tuple_add_2 _ _)
      (tuple_addW2 t b vs.toArray ws.toArray n n2 dd dd2 sl sl2 (by simpa using hv) (by simpa using hw) (by rw [List.size_toArray,List.size_toArray]; exact hsz)) ⟨ho,ho2,?_⟩
    rw [e]
    exact h2 hw
def sIx (n d : Nat) : Option Int→Nat
  | none => d
  | some v => if v < 0 then (v + (n : Int)).toNat else min v.toNat n
theorem sIx_le (n d : Nat) (hd : d≤n) (o : Option Int) : sIx n d o≤n := by
  cases o with
  | none => exact hd
  | some v =>
    show (if v < 0 then (v + (n : Int)).toNat else min v.toNat n)≤n
    by_cases hv : v < 0
    · rw [if_pos hv]; lia
    · rw [if_neg hv]; exact Nat.min_le_right _ _
theorem clip_eq (v : Int) (n d : Nat) : (if v < 0 then max (v + (n : Int)) 0 else min v (n : Int)) = ((sIx n d (some v) : Nat) : Int) := by
  show (if v < 0 then max (v + (n : Int)) 0 else min v (n : Int)) = (((if v < 0 then (v + (n : Int)).toNat else min v.toNat n) : Nat) : Int)
  by_cases hv : v < 0
  · simp only [if_pos hv]; lia
  · simp only [if_neg hv]; lia
theorem adjust_gen (lo hi : Option Int) (n : Nat) : Builtin.Slice.sliceAdjust lo hi 1 (n : Int) = (((sIx n 0 lo : Nat) : Int),((sIx n n hi : Nat) : Int)) := by
  have h1 : ¬ ((1 : Int) < 0) := by lia
  unfold Builtin.Slice.sliceAdjust
  simp only [h1,if_false]
  refine Prod.ext ?_ ?_
  · cases lo with
    | none => rfl
    | some v => exact clip_eq v n 0
  · cases hi with
    | none => rfl
    | some v => exact clip_eq v n n
theorem places_gen (i j : Nat) : Builtin.Slice.slicePlaces (i : Int) (j : Int) 1 = j - i := by
  unfold Builtin.Slice.slicePlaces
  have h1 : (1 : Int) > 0 := by lia
  simp only [h1,if_true,Int.ediv_one]
  split <;> lia
theorem slicePart_ {v : Value} {o : Option Int} {Q : Option Int→Shared→Prop} (p : IsPart v o) (h : Q o s) : wpAny (model prog w) A (Builtin.Slice.slicePartIndex v) Q E s := by
  cases p with
  | none => exact slicePart_none h
  | int i t => exact slicePart_int h
theorem sliceApplied_gen {sl : Addr} {vl vu : Value} {lo hi : Option Int} {n : Nat} {Q : Int×Int×Nat→Shared→Prop} (hs : s.heap.IsSliceOf sl vl vu .none) (pl : IsPart vl lo) (pu : IsPart vu hi)
    (h : Q (((sIx n 0 lo : Nat) : Int),1,sIx n n hi - sIx n 0 lo) s) : wpAny (model prog w) A (Builtin.Slice.sliceApplied (.ref sl) (pure (n : Int))) Q E s := by
  obtain ⟨os,hos,hcs,hds⟩:=id hs
  unfold Builtin.Slice.sliceApplied Builtin.Slice.sliceFields
  refine wpAny_bind (wpAny_bind (wpAny_field hos hds (x:=vl) rfl (wpAny_bind (wpAny_field hos hds (x:=vu) rfl (wpAny_bind (wpAny_field hos hds (x:=.none) rfl (wpAny_pure ?_)))))))
  refine wpAny_bind (slicePart_none ?_)
  show wpAny _ _ (if ((1 : Int) == 0) = true then _ else _) _ _ s
  rw [if_neg (by decide)]
  refine wpAny_bind (slicePart_ pl (wpAny_bind (slicePart_ pu (wpAny_bind (wpAny_pure ?_)))))
  show wpAny _ _ (match Builtin.Slice.sliceAdjust lo hi 1 (n : Int) with | (lo,hi) => pure (lo,(1 : Int),Builtin.Slice.slicePlaces lo hi 1)) _ _ s
  rw [adjust_gen lo hi n]
  show wpAny _ _ (pure (((sIx n 0 lo : Nat) : Int),(1 : Int),Builtin.Slice.slicePlaces ((sIx n 0 lo : Nat) : Int) ((sIx n n hi : Nat) : Int) 1)) _ _ s
  rw [places_gen]
  exact wpAny_pure h
theorem pick_gen (xs : Array Value) (i k : Nat) : ((List.range k).filterMap fun (m : Nat) => xs[((i : Int) + (m : Int) * 1).toNat]?).toArray = ((xs.toList.drop i).take k).toArray := by
  have e : (fun (m : Nat) => xs[((i : Int) + (m : Int) * 1).toNat]?) = fun m => xs[i + m]? := by
    funext m
    have : ((i : Int) + (m : Int) * 1).toNat = i + m := by lia
    rw [this]
  rw [e]
  have:=pick_run xs i k
  rw [List.filterMap_map] at this
  have e2 : ((fun x => xs[x]?) ∘ fun x => i + x) = fun m => xs[i + m]?:=rfl
  rw [e2] at this
  rw [this]
theorem getItem_tuple_cut {t sl : Addr} {items : Array Value} {vl vu : Value} {lo hi : Option Int} {Q : Value→Shared→Prop} (ht : IsTup s.heap t items) (hs : s.heap.IsSliceOf sl vl vu .none) (pl : IsPart vl lo) (pu : IsPart vu hi)
    (hw : ¬ (sIx items.size 0 lo = 0∧sIx items.size items.size hi = items.size))
    (h : Q (.ref s.heap.objs.size) { s with heap:=s.heap.push { cls:=.type "tuple",data:=.seq ((items.toList.drop (sIx items.size 0 lo)).take (sIx items.size items.size hi - sIx items.size 0 lo)).toArray } })
    (hsz : items.size≤sizeLine) : wpAny (model prog w) A (getItem (.ref t) (.ref sl)) Q E s := by
  have htake : sizeOk (.seq ((items.toList.drop (sIx items.size 0 lo)).take (sIx items.size items.size hi - sIx items.size 0 lo)).toArray) := by
    show ((items.toList.drop (sIx items.size 0 lo)).take (sIx items.size items.size hi - sIx items.size 0 lo)).toArray.size≤sizeLine
    rw [List.size_toArray,List.length_take,List.length_drop,Array.length_toList]
    lia
  have hj : sIx items.size items.size hi≤items.size:=sIx_le _ _ (Nat.le_refl _) hi
  obtain ⟨os,hos,hcs,hds⟩:=id hs
  have hTs : s.TypeIs (.ref sl) "slice" := ⟨os,hos,hcs⟩
  unfold getItem
  try with_reducible refine wpAny_holding ?_
  first | refine wpAny_bind (wpAny_pure ?_) | skip
  refine wpAny_bind (wpAny_sequenceKey ht.typeIs (by decide) ?_)
  refine wpAny_bind (wpAny_callSpecial?_slot (name:=Str.ofString "__getitem__") ht.typeIs PyProof.Rows.slot_tuple_getitem
    (wpAny_call_entry PyProof.Rows.slot_tuple_getitem ht.typeIs entry_tuple_getitem ?_ (args_tuple_getitem _ _)))
  show wpAny _ _ (Builtin.Tuple.tupleItemsOf (.ref t) >>= _) _ _ s
  refine wpAny_bind (tupleItemsOf_ ht ?_)
  refine wpAny_bind (wpAny_typeOf hTs ?_)
  rw [if_pos (by decide)]
  refine wpAny_bind (sliceApplied_gen hs pl pu ?_)
  have hno : ¬ ((((sIx items.size 0 lo : Nat) : Int) == 0 && (1 : Int) == 1 && (sIx items.size items.size hi - sIx items.size 0 lo) == items.size) = true) := by
    intro q
    rw [Bool.and_eq_true,Bool.and_eq_true] at q
    have q1 : ((sIx items.size 0 lo : Nat) : Int) = 0:=eq_of_beq q.1.1
    have q2 : sIx items.size items.size hi - sIx items.size 0 lo = items.size:=eq_of_beq q.2
    exact hw ⟨by lia,by lia⟩
  show wpAny _ _ (if (((sIx items.size 0 lo : Nat) : Int) == 0 && (1 : Int) == 1 && (sIx items.size items.size hi - sIx items.size 0 lo) == items.size) = true then _ else _) _ _ s
  rw [if_neg hno,pick_gen]
  first
    | exact wpAny_bind (m:=Builtin.Tuple.tupleExact _) (wpAny_newObj_type (wpAny_pure ⟨_,rfl,wpAny_pure h⟩) htake)
    | exact wpAny_bind (m:=Builtin.Tuple.tupleExact _) (wpAny_newObj_type (wpAny_bind (wpAny_pure (wpAny_pure ⟨_,rfl,wpAny_pure h⟩))) htake)
    | exact wpAny_bind (wpAny_bind (m:=Builtin.Tuple.tupleExact _) (wpAny_newObj_type (wpAny_pure (wpAny_pure ⟨_,rfl,wpAny_pure h⟩)) htake))
    | exact wpAny_bind (wpAny_bind (m:=Builtin.Tuple.tupleExact _) (wpAny_newObj_type (wpAny_pure ⟨_,rfl,wpAny_pure h⟩) htake))
end
end HT
namespace L2
open PySem PySem.Spec PyProof.Rows
abbrev TO:=St→Hp→(Option Int→Hp→Prop)→Prop
def PO (X : Cx) (e : Option Expr) (t : TO) : Prop :=
  ∀ (pins : List (Addr×Obj)) (s : Shared) (σ : St) (H : Hp) (Q : Option Int→Hp→Prop),Inv X pins σ H s→t σ H Q →
    wpAny (model X.prog X.w) X.A (evalPart e X.env) (fun u s' => ∃ o H',Inv X pins σ H' s'∧IsPart u o∧Q o H') X.xe s
def tNoPart : TO:=fun _ H Q => Q none H
def tPart (t : TE) : TO:=fun σ H Q => t σ H fun x H1 => ∃ i,x = .int i∧Q (some i) H1
section
variable {X : Cx} {e : Expr} {te : TE} {lo hi : Option Expr} {tl th : TO} {pos p2 : Pos}
theorem po_none : PO X none tNoPart := by
  intro pins s σ H Q I h
  rw [evalPart_none]
  exact wpAny_pure ⟨none,H,I,.none,h⟩
theorem po_some (h : PE X e te) : PO X (some e) (tPart te) := by
  intro pins s σ H Q I hw
  rw [evalPart_some]
  refine thn (h pins s σ H _ I hw) fun u s1 ⟨x,H1,I1,r1,q1⟩ => ?_
  obtain ⟨i,rfl,q⟩:=q1
  obtain ⟨t,rfl⟩:=r1
  exact ⟨some i,H1,I1,.int i t,q⟩
def SlR (X : Cx) (r : V→Option Int→Option Int→Hp→VK→Prop) : Prop :=
  ∀ (pins : List (Addr×Obj)) (s : Shared) (σ : St) (H : Hp) (x : V) (v vl vu : Value) (lo hi : Option Int) (sl : Addr) (Q : VK),Inv X pins σ H s→RelV x v→s.heap.IsSliceOf sl vl vu .none→IsPart vl lo→IsPart vu hi→r x lo hi H Q →
    ∃ T id,typeLookup (.type T) "__getitem__" = pure (some (.builtin id))∧s.TypeIs v T∧wpAny (model X.prog X.w) X.A (getItem v (.ref sl)) (EP X pins σ Q) X.xe s
theorem SlR.or {r r' : V→Option Int→Option Int→Hp→VK→Prop} (h : SlR X r) (h' : SlR X r') : SlR X (fun x lo hi H Q => r x lo hi H Q∨r' x lo hi H Q) := by
  intro pins s σ H x v vl vu lo hi sl Q I rx hs pl pu q
  rcases q with q | q
  · exact h pins s σ H x v vl vu lo hi sl Q I rx hs pl pu q
  · exact h' pins s σ H x v vl vu lo hi sl Q I rx hs pl pu q
def tSl (r : V→Option Int→Option Int→Hp→VK→Prop) (te : TE) (tl th : TO) : TE:=fun σ H Q => te σ H fun x H1 => tl σ H1 fun l H2 => th σ H2 fun u H3 => r x l u H3 Q
theorem pe_slice {r : V→Option Int→Option Int→Hp→VK→Prop} (hr : SlR X r) (he : PE X e te) (hl : PO X lo tl) (hu : PO X hi th) : PE X (.Subscript e (.Slice lo hi none p2) pos) (tSl r te tl th) := by
  intro pins s σ H Q I h
  refine Subscript_ (thn (he pins s σ H _ I h) fun v s1 ⟨x,H1,I1,r1,q1⟩ => ?_)
  refine wpAny_Slice (thn (hl pins s1 σ H1 _ I1 q1) fun vl s2 ⟨l,H2,I2,pl,q2⟩ => thn (hu pins s2 σ H2 _ I2 q2) fun vu s3 ⟨u,H3,I3,pu,q3⟩ => ?_)
  rw [evalPart_none]
  refine wpAny_pure ?_
  have I4 : Inv X pins σ H3 { s3 with heap:=s3.heap.push { cls:=.type "slice",data:=.fields #[vl,vu,.none] } }:=I3.kept (t':=s3.toks) fun b ob q => Heap.get?_push_of_some _ q
  obtain ⟨T,id,hT,ht,hg⟩:=hr pins { s3 with heap:=s3.heap.push { cls:=.type "slice",data:=.fields #[vl,vu,.none] } } σ H3 x v vl vu l u s3.heap.objs.size Q I4 r1 (Heap.IsSliceOf.new ..) pl pu q3
  show wpAny (model X.prog X.w) X.A (subscriptTail e (.Slice lo hi none p2) v (.ref s3.heap.objs.size)) (EP X pins σ Q) X.xe { s3 with heap:=s3.heap.push { cls:=.type "slice",data:=.fields #[vl,vu,.none] } }
  exact tail_any (ops:=[.ref s3.heap.objs.size,v]) ht hT hg (by with_unfolding_all rfl)
def cutV (xs : List V) (lo hi : Option Int) : List V:=(xs.drop (HT.sIx xs.length 0 lo)).take (HT.sIx xs.length xs.length hi - HT.sIx xs.length 0 lo)
theorem cutV_length (xs : List V) (lo hi : Option Int) : (cutV xs lo hi).length≤xs.length := by
  unfold cutV
  rw [List.length_take,List.length_drop]
  lia
def rSlT (K : PySem.W.Frag) : V→Option Int→Option Int→Hp→VK→Prop:=fun x lo hi H Q => ∃ a xs,x = .ref a∧SqT K H a xs ∧
  ¬ (HT.sIx xs.length 0 lo = 0∧HT.sIx xs.length xs.length hi = xs.length)∧∀ p,H p = none→Q (.ref p) (upd H p (.tup (cutV xs lo hi)))
theorem sl_tup : SlR X (rSlT X.K) := by
  intro pins s σ H x v vl vu lo hi sl Q I rx hs pl pu h
  obtain ⟨a,xs,rfl,hx,hw,q⟩:=h
  cases rx
  obtain ⟨its,r,ht,hz⟩:=I.tuple hx
  have hlen : its.toArray.size = xs.length := by rw [List.size_toArray]; exact r.length.symm
  refine ⟨"tuple",_,PyProof.Rows.slot_tuple_getitem.lookup,ht.typeIs,?_⟩
  refine HT.getItem_tuple_cut ht hs pl pu (by rw [hlen]; exact hw) ?_ (by rw [hlen]; exact hz)
  rw [hlen]
  refine ⟨.ref s.heap.objs.size,_,I.laid (t':=s.toks) (o:=.tup (cutV xs lo hi)) (fun b ob q => Heap.get?_push_of_some _ q) (Nat.le_refl _) ?_,rfl,q _ (I.hok.fresh (Nat.le_refl _))⟩
  exact ⟨Nat.le_trans (cutV_length xs lo hi) hz,_,(r.drop (HT.sIx xs.length 0 lo)).take (HT.sIx xs.length xs.length hi - HT.sIx xs.length 0 lo),IsTup.new _ _⟩
theorem Vals.nil_iff {xs : List V} {us : List Value} (r : Vals xs us) : us = [] ↔ xs = [] := by
  cases r with
  | nil => simp
  | cons _ _ => simp
end
def ixN (n : Nat) (i : Int) : Option Nat:=if 0≤i then (if i < n then some i.toNat else none) else if -(n : Int)≤i then some (i + n).toNat else none
def atI {α : Type} (xs : List α) (i : Int) : Option α:=(ixN xs.length i).bind fun j => xs[j]?
theorem ixN_seq {n : Nat} {i : Int} {j : Nat} (h : ixN n i = some j) : seqIndex? i n = some j∧j < n∧-(n : Int)≤i∧i < n := by
  unfold ixN at h
  by_cases h0 : 0≤i
  · rw [if_pos h0] at h
    by_cases h1 : i < n
    · rw [if_pos h1] at h
      have e : i.toNat = j:=Option.some.inj h
      exact ⟨by rw [seqIndex_of h0 h1,e],by lia,by lia,h1⟩
    · rw [if_neg h1] at h; cases h
  · rw [if_neg h0] at h
    by_cases h1 : -(n : Int)≤i
    · rw [if_pos h1] at h
      have e : (i + n).toNat = j:=Option.some.inj h
      exact ⟨by rw [seqIndex_neg (by lia) h1,e],by lia,h1,by lia⟩
    · rw [if_neg h1] at h; cases h
theorem atI_get {α : Type} {xs : List α} {i : Int} {v : α} (h : atI xs i = some v) : ∃ j,seqIndex? i xs.length = some j∧xs[j]? = some v∧j < xs.length∧-(xs.length : Int)≤i∧i < xs.length := by
  unfold atI at h
  cases e : ixN xs.length i with
  | none => rw [e] at h; cases h
  | some j =>
    rw [e] at h
    obtain ⟨h1,h2,h3,h4⟩:=ixN_seq e
    exact ⟨j,h1,h,h2,h3,h4⟩
theorem atI_nat {α : Type} {xs : List α} {j : Nat} {v : α} (h : xs[j]? = some v) : atI xs (j : Int) = some v := by
  have hj : j < xs.length:=(List.getElem?_eq_some_iff.mp h).1
  have e : ixN xs.length (j : Int) = some j := by
    unfold ixN
    rw [if_pos (by lia),if_pos (by lia)]; simp
  unfold atI; rw [e]; exact h
theorem atI_last {α : Type} (xs : List α) (v : α) : atI (xs ++ [v]) (-1) = some v := by
  have hl : (xs ++ [v]).length = xs.length + 1 := by simp
  have e : ixN (xs ++ [v]).length (-1) = some xs.length := by
    unfold ixN
    rw [hl,if_neg (by decide),if_pos (by lia)]
    congr 1
    lia
  unfold atI
  rw [e]
  show (xs ++ [v])[xs.length]? = some v
  simp
def PlainIx (b : Expr) : Prop:=∀ o i,subscripted b false o i = operate [o,i] (getItem o i)
def IxR (X : Cx) (r : R2) : Prop :=
  ∀ (value slice : Expr) (pins : List (Addr×Obj)) (s : Shared) (σ : St) (H : Hp) (x y : V) (v u : Value) (Q : VK),Inv X pins σ H s→RelV x v→RelV y u→r x y H Q →
    subscripted slice false v u = operate [v,u] (getItem v u)→wpAny (model X.prog X.w) X.A (subscriptTail value slice v u) (EP X pins σ Q) X.xe s
def MtR (X : Cx) (id : String) (r : V→List V→Hp→VK→Prop) : Prop :=
  ∀ (pins : List (Addr×Obj)) (s : Shared) (σ : St) (H : Hp) (x : V) (xs : List V) (v : Value) (us : List Value) (Q : VK),Inv X pins σ H s→RelV x v→Vals xs us→r x xs H Q →
    wpAny (model X.prog X.w) X.A (call (.builtin id) (v :: us)) (EP X pins σ Q) X.xe s
section
variable {X : Cx} {a b : Expr} {ta tb : TE} {pos : Pos}
theorem IxR.or {r r' : R2} (h : IxR X r) (h' : IxR X r') : IxR X (fun x y H Q => r x y H Q∨r' x y H Q) := by
  intro value slice pins s σ H x y v u Q I rx ry q hs
  rcases q with q | q
  · exact h value slice pins s σ H x y v u Q I rx ry q hs
  · exact h' value slice pins s σ H x y v u Q I rx ry q hs
theorem pe_ix {r : R2} (hr : IxR X r) (ha : PE X a ta) (hb : PE X b tb) (hs : PlainIx b) : PE X (.Subscript a b pos) (tOp r ta tb) := by
  intro pins s σ H Q I h
  exact Subscript_ (binT ha hb I h fun v u s2 x y H2 I2 rx ry q => hr a b pins s2 σ H2 x y v u Q I2 rx ry q (hs _ _))
def rIxL (K : PySem.W.Frag) : R2:=fun x y H Q => ∃ p xs i v,x = .ref p∧y = .int i∧SqL K H p xs∧atI xs i = some v∧Q v H
def rIxT (K : PySem.W.Frag) : R2:=fun x y H Q => ∃ p xs i v,x = .ref p∧y = .int i∧SqT K H p xs∧atI xs i = some v∧Q v H
def rIxS : R2:=fun x y H Q => ∃ z i c,x = .str z∧y = .int i∧z.length≤sizeLine∧atI z.cps.toList i = some c∧Q (.str ⟨#[c]⟩) H
theorem ix_list : IxR X (rIxL X.K) := by
  intro value slice pins s σ H x y v u Q I rx ry h hs
  obtain ⟨p,xs,i,z,rfl,rfl,hq,he,q⟩:=h
  cases rx
  obtain ⟨t,rfl⟩:=ry
  obtain ⟨its,r,pl,hz⟩:=I.list hq
  obtain ⟨j,h1,h2,h3,h4,h5⟩:=atI_get he
  obtain ⟨w,ew,rw'⟩:=r.get h2
  have hl:=r.length
  have hn:=line63
  have fin : EP X pins σ Q w s:=⟨z,H,I,rw',q⟩
  by_cases h0 : 0≤i
  · have hj : i.toNat = j := by
      rw [seqIndex_of h0 h5] at h1
      exact Option.some.inj h1
    exact item_listR pl.isList h0 (by lia) (by rw [hj]; simpa using ew) fin hs
  · have hj : (i + (its.toArray.size : Int)).toNat = j := by
      rw [seqIndex_neg (by lia) h4] at h1
      rw [List.size_toArray,← hl]
      exact Option.some.inj h1
    exact subscriptTail_builtinR (x:=w) pl.isList.typeIs slot_list_getitem.lookup
      (wpAny_getItem_list_neg (Q:=fun r s' => r = w∧EP X pins σ Q r s') pl.isList (by lia) (by rw [List.size_toArray] <;> lia) (by lia) (by rw [hj]; simpa using ew) ⟨rfl,fin⟩) hs
theorem ix_tup : IxR X (rIxT X.K) := by
  intro value slice pins s σ H x y v u Q I rx ry h hs
  obtain ⟨p,xs,i,z,rfl,rfl,hq,he,q⟩:=h
  cases rx
  obtain ⟨t,rfl⟩:=ry
  obtain ⟨its,r,pl,hz⟩:=I.tuple hq
  obtain ⟨j,h1,h2,h3,h4,h5⟩:=atI_get he
  obtain ⟨w,ew,rw'⟩:=r.get h2
  have hl:=r.length
  have hn:=line63
  have fin : EP X pins σ Q w s:=⟨z,H,I,rw',q⟩
  exact subscriptTail_builtinR (x:=w) pl.typeIs slot_tuple_getitem.lookup
    (getItem_tuple (j:=j) (Q:=fun r s' => r = w∧EP X pins σ Q r s') pl (by lia) (by lia) (by rw [List.size_toArray,← hl]; exact h1) (by simpa using ew) ⟨rfl,fin⟩) hs
theorem ix_str : IxR X rIxS := by
  intro value slice pins s σ H x y v u Q I rx ry h hs
  obtain ⟨z,i,c,rfl,rfl,hz,he,q⟩:=h
  obtain ⟨t,rfl⟩:=rx
  obtain ⟨t',rfl⟩:=ry
  obtain ⟨j,h1,h2,h3,h4,h5⟩:=atI_get he
  have hl : z.cps.toList.length = z.length := by simp [Str.length]
  rw [hl] at h1 h4 h5
  have hn:=line63
  exact tail_any (typeIs_str s z t) slot_str_getitem.lookup (getItem_str (c:=c) (by
    have e1 : decide (i < -(2 ^ 63 : Int)) = false:=decide_eq_false (by lia)
    have e2 : decide (i ≥ 2 ^ 63) = false:=decide_eq_false (by lia)
    rw [e1,e2,Bool.or_false]) (by rw [h1]; simpa using h2) ⟨.str ⟨#[c]⟩,H,I.tok _,⟨_,rfl⟩,q⟩) hs
def rIx (K : PySem.W.Frag) : R2:=fun x y H Q => rIxL K x y H Q∨rIxT K x y H Q∨rIxS x y H Q
theorem ix_seq : IxR X (rIx X.K):=ix_list.or (ix_tup.or ix_str)
theorem slice_bounds (lo hi : Option Int) (n : Nat) : (sliceBounds lo hi none n).1 = ((HT.sIx n 0 lo : Nat) : Int)∧(sliceBounds lo hi none n).2.1 = ((HT.sIx n n hi : Nat) : Int)∧(sliceBounds lo hi none n).2.2 = 1 := by
  refine ⟨?_,?_,rfl⟩
  · cases lo with
    | none => simp [sliceBounds,HT.sIx]
    | some i =>
      simp only [sliceBounds,HT.sIx,Option.getD_none,show (1 : Int) > 0 by decide,if_true]
      by_cases h : i < 0
      · simp only [h,if_true] <;> lia
      · simp only [h,if_false] <;> lia
  · cases hi with
    | none => simp [sliceBounds,HT.sIx]
    | some i =>
      simp only [sliceBounds,HT.sIx,Option.getD_none,show (1 : Int) > 0 by decide,if_true]
      by_cases h : i < 0
      · simp only [h,if_true] <;> lia
      · simp only [h,if_false] <;> lia
theorem slicePick_cut (its : List Value) (lo hi : Option Int) : slicePick its.toArray lo hi none = ((its.drop (HT.sIx its.length 0 lo)).take (HT.sIx its.length its.length hi - HT.sIx its.length 0 lo)).toArray := by
  obtain ⟨h1,h2,h3⟩:=slice_bounds lo hi its.toArray.size
  unfold slicePick
  rw [h1,h2,h3]
  simp only [sliceRange_one,pick_run,List.size_toArray] <;> rfl
def rSlL (K : PySem.W.Frag) : V→Option Int→Option Int→Hp→VK→Prop:=fun x lo hi H Q => ∃ a xs,x = .ref a∧SqL K H a xs∧∀ p,H p = none→Q (.ref p) (upd H p (.lst (cutV xs lo hi)))
theorem sl_list : SlR X (rSlL X.K) := by
  intro pins s σ H x v vl vu lo hi sl Q I rx hs pl pu h
  obtain ⟨a,xs,rfl,hx,q⟩:=h
  cases rx
  obtain ⟨its,r,ht,hz⟩:=I.list hx
  have hlen:=r.length
  refine ⟨"list",_,slot_list_getitem.lookup,ht.isList.typeIs,?_⟩
  refine wpAny_getItem_list_slice ht.isList hs pl pu .none (by simp) ?_ (by rw [List.size_toArray] <;> lia)
  rw [slicePick_cut,← hlen]
  refine ⟨.ref s.heap.objs.size,_,I.laid (t':=s.toks) (o:=.lst (cutV xs lo hi)) (fun b ob q => Heap.get?_push_of_some _ q) (Nat.le_refl _) ?_,rfl,q _ (I.hok.fresh (Nat.le_refl _))⟩
  exact ⟨Nat.le_trans (cutV_length xs lo hi) hz,_,0,(r.drop (HT.sIx xs.length 0 lo)).take (HT.sIx xs.length xs.length hi - HT.sIx xs.length 0 lo),Heap.get?_push_size _ rfl⟩
theorem op_notIn_str : OpR X (compareOp .NotIn) (fun x y H Q => ∃ i j,x = .str i∧y = .str j∧Q (.bl (!(!(Builtin.Str.occurrences j i 0 j.length 1).isEmpty))) H) := by
  intro pins s σ H x y v u Q I rx ry h
  obtain ⟨i,j,rfl,rfl,q⟩:=h
  obtain ⟨t,rfl⟩:=rx
  obtain ⟨t',rfl⟩:=ry
  exact notIn_str ⟨.bl _,H,I,rfl,q⟩
theorem call_len_seq : CallR X (.builtin "len") (fun xs H Q => ∃ p ys,xs = [.ref p]∧(SqL X.K H p ys∨SqT X.K H p ys)∧Q (.int ys.length) H) := by
  intro pins s σ H xs us Q I r h
  obtain ⟨p,ys,rfl,hq,q⟩:=h
  obtain ⟨u,rfl,rx⟩:=vals1 r
  cases rx
  have hn:=line63
  rcases hq with hq | hq
  · obtain ⟨its,r',pl,hz⟩:=I.list hq
    have hlen:=r'.length
    exact Calls.call_len_list pl.isList (by simp only [List.size_toArray] <;> lia) ⟨.int ys.length,H,I.tok _,⟨s.toks + 1,by rw [List.size_toArray,hlen]⟩,q⟩
  · obtain ⟨its,r',pl,hz⟩:=I.tuple hq
    have hlen:=r'.length
    exact len_tuple pl (by simp only [List.size_toArray] <;> lia) ⟨.int ys.length,H,I.tok _,⟨s.toks + 1,by rw [List.size_toArray,hlen]⟩,q⟩
theorem call_len_str : CallR X (.builtin "len") (fun xs H Q => ∃ z,xs = [.str z]∧z.length≤sizeLine∧Q (.int z.length) H) := by
  intro pins s σ H xs us Q I r h
  obtain ⟨z,rfl,hz,q⟩:=h
  obtain ⟨u,rfl,t,rfl⟩:=vals1 r
  have hn:=line63
  exact len_str (by lia) ⟨.int z.length,H,I.tok _,⟨_,rfl⟩,q⟩
theorem call_tuple_of : CallR X (.type "tuple") (fun xs H Q => ∃ p ys,xs = [.ref p]∧((SqL X.K H p ys∧∀ l,H l = none→Q (.ref l) (upd H l (.tup ys)))∨(SqT X.K H p ys∧Q (.ref p) H))) := by
  intro pins s σ H xs us Q I r h
  obtain ⟨p,ys,rfl,h⟩:=h
  obtain ⟨u,rfl,rx⟩:=vals1 r
  cases rx
  rcases h with ⟨hq,q⟩ | ⟨hq,q⟩
  · obtain ⟨its,r',pl,hz⟩:=I.list hq
    have hlen:=r'.length
    refine call_tuple_list pl.isList (fun h' kp => ?_) (by simp only [List.size_toArray] <;> lia)
    have I1 : Inv X pins σ H { s with heap:=h' }:=I.kept (t':=s.toks) kp
    have I2 : Inv X pins σ (upd H h'.objs.size (.tup ys)) { s with heap:=h'.push { cls:=.type "tuple",data:=.seq its.toArray } } :=
      I1.laid (t':=s.toks) (fun b o e => Heap.get?_push_of_some _ e) (Nat.le_refl _) (show ObjOk X.prog X.w _ _ _ (.tup ys) from ⟨hz,its,r',IsTup.new _ _⟩)
    exact ⟨.ref h'.objs.size,_,I2,rfl,q _ (I1.hok.fresh (Nat.le_refl _))⟩
  · obtain ⟨its,r',pl,hz⟩:=I.tuple hq
    exact call_tuple_same pl ⟨.ref p,H,I,rfl,q⟩
def tyV (K : PySem.W.Frag) (T : String) (x : V) (H : Hp) : Prop:=match x with
  | .str _ => T = "str"
  | .int _ => T = "int"
  | .ref p => (T = "list" ∧ ∃ xs,SqL K H p xs)∨(T = "tuple" ∧ ∃ o,K.lookup p = some o∧o.cls = .type "tuple" ∧ o.dict = none) ∨
      (T = "dict" ∧ ((∃ kvs,H p = some (.dK kvs))∨∃ kvs,H p = some (.dT kvs)))∨(T = "set" ∧ ∃ S n,H p = some (.set S n))
  | _ => False
theorem tyV_is {pins : List (Addr×Obj)} {σ : St} {H : Hp} {s : Shared} {T : String} {x : V} {v : Value} (I : Inv X pins σ H s) (r : RelV x v) (ty : tyV X.K T x H) :
    s.TypeIs v T∧∀ a,v = .ref a→∃ ob,s.heap.get? a = some ob∧ob.dict = none := by
  cases x with
  | str z =>
    obtain ⟨t,rfl⟩:=r
    cases (show T = "str" from ty)
    exact ⟨typeIs_str s z t,fun _ e => nomatch e⟩
  | int i =>
    obtain ⟨t,rfl⟩:=r
    cases (show T = "int" from ty)
    exact ⟨typeIs_int s i t,fun _ e => nomatch e⟩
  | ref p =>
    cases r
    rcases ty with ⟨rfl,xs,hq⟩ | ⟨rfl,o,hk,hc,hd⟩ | ⟨rfl,hk⟩ | ⟨rfl,S,n,hk⟩
    · obtain ⟨its,_,pl,_⟩:=I.list hq
      refine ⟨pl.isList.typeIs,fun a e => ?_⟩
      cases e
      obtain ⟨o,n,e,c,hd,_⟩:=pl
      exact ⟨o,e,hd⟩
    · refine ⟨⟨o,I.kIn p o hk,hc⟩,fun a e => ?_⟩
      cases e
      exact ⟨o,I.kIn _ o hk,hd⟩
    · have z : ∃ o,s.heap.get? p = some o∧o.ExactDict := by
        rcases hk with ⟨kvs,hk⟩ | ⟨kvs,hk⟩
        · obtain ⟨_,_,_,_,o,_,_,e,ex,_⟩:=I.hok p _ hk
          exact ⟨o,e,ex⟩
        · obtain ⟨_,_,_,_,o,_,_,e,ex,_⟩:=I.hok p _ hk
          exact ⟨o,e,ex⟩
      obtain ⟨o,e,ex⟩:=z
      refine ⟨⟨o,e,ex.1⟩,fun a e2 => ?_⟩
      cases e2
      exact ⟨o,e,ex.2.1⟩
    · obtain ⟨o,_,_,_,e,ex,_⟩:=I.hok p _ hk
      refine ⟨⟨o,e,ex.1⟩,fun a e2 => ?_⟩
      cases e2
      exact ⟨o,e,ex.2.1⟩
  | _ => exact False.elim ty
def tBM (K : PySem.W.Frag) (T : String) (r : V→List V→Hp→VK→Prop) (to : TE) (t : TA) : TE:=fun σ H Q => to σ H fun x H1 => tyV K T x H1∧t σ H1 fun xs H2 => r x xs H2 Q
variable {o e : Expr} {es : List Expr} {to : TE} {t : TA} {name : Str} {apos cpos : Pos} {T id : String} {r : V→List V→Hp→VK→Prop}
theorem pe_bm (pa : PlainAttrs T) (slot : Slot T name id) (hty : typeOf (.builtin id) = pure (.type "method_descriptor")) (hm : MtR X id r) (ho : PE X o to) (ha : PA X (e :: es) t)
    (hbase : attributeBase o name X.env (eval o X.env) = eval o X.env := by rfl)
    (hfew : ((backTo cpos (starEach (e :: es) X.env)).all (fun x => !x.1) && (backToKw cpos (keywordEach [] X.env)).all (fun x => x.1.isSome)
      && decide ((e :: es).length + ([] : List Keyword).length + (if ([] : List Keyword).isEmpty then 0 else 1) < 30)) = true := by rfl)
    (hline : (apos.endLine == cpos.line) = true := by rfl) (hs : starEach (e :: es) X.env = (false,eval e X.env) :: starEach es X.env := by rfl) (hplain : (backTo cpos (starEach es X.env)).any (·.1) = false := by rfl) :
    PE X (.Call (.Attribute o name apos) (e :: es) [] cpos) (tBM X.K T r to t) := by
  intro pins s σ H Q I h
  refine wpAny_Call_method_late hbase hfew hline rfl (thn (ho pins s σ H _ I h) fun v s1 ⟨x,H1,I1,r1,ty,q1⟩ => ?_)
  obtain ⟨h1,h2⟩:=tyV_is I1 r1 ty
  refine ⟨T,id,pa,slot,hty,h1,h2,?_⟩
  have hA:=ha cpos pins s1 σ H1 _ I1 q1
  rw [hs] at hA ⊢
  refine Calls.callWith_builtin (by show (false || (backTo cpos (starEach es X.env)).any (·.1)) = false; rw [hplain] <;> rfl) (Calls.evalArgs_plain ?_)
  exact thn hA fun us s2 ⟨vs,H2,I2,r2,q2⟩ => hm pins s2 σ H2 x vs v us Q I2 r1 r2 q2
end
def MtM (X : Cx) (id : String) (r : V→List V→Hp→VK→Prop) : Prop :=
  ∀ (pins : List (Addr×Obj)) (s : Shared) (σ : St) (H : Hp) (x : V) (xs : List V) (v : Value) (us : List Value) (Q : VK),Inv X pins σ H s→RelV x v→Vals xs us→r x xs H Q →
    wpAny (model X.prog X.w) X.A (call (.builtin id) (v :: us)) (EP X pins σ Q) X.xe s
theorem Vals.one : ∀ {x : V} {us : List Value},Vals [x] us→∃ u,us = [u]∧RelV x u
  | _,_,.cons r .nil => ⟨_,rfl,r⟩
theorem Vals.two : ∀ {x y : V} {us : List Value},Vals [x,y] us→∃ u v,us = [u,v]∧RelV x u∧RelV y v
  | _,_,_,.cons r (.cons q .nil) => ⟨_,_,rfl,r,q⟩
theorem Vals.reverse {xs : List V} {us : List Value} (h : Vals xs us) : Vals xs.reverse us.reverse := by
  induction h with
  | nil => exact .nil
  | cons r t ih => rw [List.reverse_cons,List.reverse_cons]; exact Vals.append ih (.cons r .nil)
theorem Vals.rep {xs : List V} {us : List Value} (h : Vals xs us) : ∀ k : Nat,Vals (List.replicate k xs).flatten (List.replicate k us).flatten
  | 0 => .nil
  | k + 1 => by
    rw [List.replicate_succ,List.replicate_succ,List.flatten_cons,List.flatten_cons]
    exact Vals.append h (Vals.rep h k)
theorem foldl_rep (its : List Value) : ∀ (k : Nat) (acc : List Value),
    List.foldl (fun x1 x2 => x1 ++ x2) acc.toArray (List.replicate k its.toArray) = (acc ++ (List.replicate k its).flatten).toArray
  | 0,acc => by simp
  | k + 1,acc => by
    have e : acc.toArray ++ its.toArray = (acc ++ its).toArray := by simp
    have e2 : (acc ++ its) ++ (List.replicate k its).flatten = acc ++ (List.replicate (k + 1) its).flatten := by
      rw [List.replicate_succ,List.flatten_cons,List.append_assoc]
    rw [← e2,← foldl_rep its k (acc ++ its),← e,List.replicate_succ,List.foldl_cons]
section
variable {X : Cx} {pins : List (Addr×Obj)} {σ : St} {H : Hp} {s : Shared} {l : Addr} {xs ys : List V}
theorem Inv.lset {its its' : List Value} {n : Nat} {f : Array Value→Array Value} {t' : Nat} (I : Inv X pins σ H s) (hH : H l = some (.lst xs))
    (e : s.heap.get? l = some { cls:=.type "list",data:=.seq its.toArray n }) (hf : f its.toArray = its'.toArray) (hv : Vals ys its') (hz : ys.length≤sizeLine) :
    Inv X pins σ (upd H l (.lst ys)) { s with heap:=s.heap.update l (Obj.mapSeq f),toks:=t' } := by
  have q:=PySem.IsL.update e f
  rw [hf] at q
  refine I.write (x:=l) (e:=l) (by rw [hH]; exact trivial) (.inl rfl) (fun b' u hb hu => (Heap.get?_update_other s.heap (Obj.mapSeq f) (Ne.symm hb)).trans hu) ⟨_,q⟩ ?_
  exact ⟨hz,its',_,hv,q⟩
theorem Inv.lnew {its : List Value} {t' : Nat} (I : Inv X pins σ H s) (hv : Vals ys its) (hz : ys.length≤sizeLine) :
    Inv X pins σ (upd H s.heap.objs.size (.lst ys)) { s with heap:=s.heap.push { cls:=.type "list",data:=.seq its.toArray },toks:=t' } :=
  I.laid (fun _ _ q => Heap.get?_push_of_some _ q) (Nat.le_refl _) ⟨hz,its,0,hv,Heap.get?_push_size _ rfl⟩
theorem Inv.fresh (I : Inv X pins σ H s) : H s.heap.objs.size = none:=I.hok.fresh (Nat.le_refl _)
theorem Inv.lstM (I : Inv X pins σ H s) (hH : H l = some (.lst xs)) : xs.length≤sizeLine∧∃ (its : List Value) (n : Nat),Vals xs its∧xs.length = its.length∧s.heap.get? l = some { cls:=.type "list",data:=.seq its.toArray n } := by
  obtain ⟨z,its,n,r,e⟩:=I.hok l _ hH
  exact ⟨z,its,n,r,r.length,e⟩
theorem notLongL {n : Nat} (h : n≤sizeLine) : Builtin.List.listTooLong n = false := by
  unfold Builtin.List.listTooLong
  exact decide_eq_false (by lia)
end
section
variable {X : Cx}
def rAppend : V→List V→Hp→VK→Prop:=fun x vs H Q => ∃ l xs y,x = .ref l∧vs = [y]∧H l = some (.lst xs)∧xs.length < sizeLine∧Q .non (upd H l (.lst (xs ++ [y])))
theorem mt_append : MtM X "list.append" rAppend := by
  intro pins s σ H x vs v us Q I rx rv h
  obtain ⟨l,xs,y,rfl,rfl,hH,hz,q⟩:=h
  cases rx
  obtain ⟨u,rfl,ru⟩:=rv.one
  obtain ⟨z,its,n,r,hl,e⟩:=I.lstM hH
  refine call_meets F.slot_list_append ⟨_,e,rfl⟩ F.entry_list_append (F.args_list_append_2 _ _) (PySem.list_append l its.toArray n u (by rw [List.size_toArray]; lia)) ⟨e,?_⟩
  refine ⟨.non,_,I.lset (its':=its ++ [u]) hH e (by simp) (r.append (.cons ru .nil)) ?_,rfl,q⟩
  rw [List.length_append,List.length_singleton]
  lia
def rExtend : V→List V→Hp→VK→Prop:=fun x vs H Q => ∃ l b xs zs,x = .ref l∧vs = [.ref b]∧H l = some (.lst xs)∧H b = some (.lst zs)∧xs.length + zs.length≤sizeLine∧Q .non (upd H l (.lst (xs ++ zs)))
theorem mt_extend : MtM X "list.extend" rExtend := by
  intro pins s σ H x vs v us Q I rx rv h
  obtain ⟨l,b,xs,zs,rfl,rfl,hH,hB,hz,q⟩:=h
  cases rx
  obtain ⟨u,rfl,ru⟩:=rv.one
  cases ru
  obtain ⟨z,its,n,r,hl,e⟩:=I.lstM hH
  obtain ⟨z2,its2,n2,r2,hl2,e2⟩:=I.lstM hB
  have hsz : its.toArray.size + its2.toArray.size≤sizeLine := by rw [List.size_toArray,List.size_toArray]; lia
  have hlong : ¬ (!its.toArray.isEmpty && Builtin.List.listTooLong (its.toArray.size + its2.toArray.size)) = true := by
    rw [notLongL hsz,Bool.and_false]
    exact Bool.false_ne_true
  refine call_meets F.slot_list_extend ⟨_,e,rfl⟩ F.entry_list_extend (F.args_list_extend_2 _ _)
    (AutoSeq1.list_extend_list_list_0 l its.toArray n b its2.toArray n2 hlong (by rw [List.size_toArray]; lia) (by lia)) ⟨e,e2,?_⟩
  refine ⟨.non,_,I.lset (its':=its ++ its2) hH e (by simp) (r.append r2) ?_,rfl,q⟩
  rw [List.length_append]
  lia
def rCat : R2:=fun x y H Q => ∃ l b xs zs,x = .ref l∧y = .ref b∧H l = some (.lst xs)∧H b = some (.lst zs)∧xs.length + zs.length≤sizeLine∧∀ p,H p = none→Q (.ref p) (upd H p (.lst (xs ++ zs)))
theorem op_cat : OpR X (binaryOp .Add) rCat := by
  intro pins s σ H x y v u Q I rx ry h
  obtain ⟨l,b,xs,zs,rfl,rfl,hH,hB,hz,q⟩:=h
  cases rx
  cases ry
  obtain ⟨z,its,n,r,hl,e⟩:=I.lstM hH
  obtain ⟨z2,its2,n2,r2,hl2,e2⟩:=I.lstM hB
  refine PySem.P.add_list e e2 ?_ (by rw [List.size_toArray,List.size_toArray]; lia)
  have ea : its.toArray ++ its2.toArray = (its ++ its2).toArray := by simp
  rw [ea]
  exact ⟨.ref _,_,I.lnew (t':=s.toks) (r.append r2) (by rw [List.length_append]; lia),rfl,q _ I.fresh⟩
def rRep : R2:=fun x y H Q => ∃ l k xs,x = .ref l∧y = .int k∧H l = some (.lst xs)∧-(2 ^ 63)≤k∧k < 2 ^ 63∧xs.length * k.toNat≤sizeLine ∧
  ∀ p,H p = none→Q (.ref p) (upd H p (.lst (List.replicate k.toNat xs).flatten))
theorem len_rep {α : Type} (xs : List α) (k : Nat) : (List.replicate k xs).flatten.length = k * xs.length := by
  induction k with
  | zero => simp
  | succ k ih => rw [List.replicate_succ,List.flatten_cons,List.length_append,ih,Nat.succ_mul,Nat.add_comm]
theorem op_rep : OpR X (binaryOp .Mult) rRep := by
  intro pins s σ H x y v u Q I rx ry h
  obtain ⟨l,k,xs,rfl,rfl,hH,h1,h2,hz,q⟩:=h
  cases rx
  obtain ⟨t,rfl⟩:=ry
  obtain ⟨z,its,n,r,hl,e⟩:=I.lstM hH
  have hlen : its.toArray.size * k.toNat≤sizeLine := by rw [List.size_toArray,← hl]; exact hz
  have hcap : ¬ its.toArray.size * k.toNat > (2 ^ 63 - 1) / 8 := by
    have : (sizeLine : Nat)≤(2 ^ 63 - 1) / 8 := by decide
    lia
  have hfit : ¬ (!Builtin.List.listFitsIndex k) = true := by
    rw [fitsIndex_both h1 h2]
    exact Bool.false_ne_true
  have hlong : ¬ Builtin.List.listTooLong (its.toArray.size * k.toNat) = true := by
    rw [notLongL hlen]
    exact Bool.false_ne_true
  have hnew : List.foldl (fun x1 x2 => x1 ++ x2) #[] (List.replicate (if its.toArray.isEmpty = true then 0 else k.toNat) its.toArray) = (List.replicate k.toNat its).flatten.toArray := by
    have f0 : ∀ m : Nat,List.foldl (fun x1 x2 => x1 ++ x2) #[] (List.replicate m its.toArray) = (List.replicate m its).flatten.toArray:=fun m => by
      have:=foldl_rep its m []
      rw [List.nil_append] at this
      exact this
    rw [f0]
    cases its with
    | nil => simp
    | cons a r' => rw [if_neg (by simp)]
  refine wpAny_binaryOp_repeat_ref (T := "list") (U := "int") (by decide) ⟨_,e,rfl⟩ (fun s' => typeIs_int s' k t) noFill_list_mul F.fills_int_mul F.slot_int_rmul repeat_list F.slot_int_index.lookup
    (call_meets F.slot_int_rmul (typeIs_int s k t) F.entry_int_rmul (F.args_int_rmul_2 _ _) (int___rmul___int_list k t l its.toArray n)
      ⟨e,rfl,⟨_,e,rfl⟩,call_meets F.slot_list_mul ⟨_,e,rfl⟩ F.entry_list_mul (F.args_list_mul_2 _ _) (AutoListH.list___mul___list_int_3 l its.toArray n k t hfit hcap hlong) ⟨e,?_⟩⟩)
  rw [hnew]
  exact ⟨.ref _,_,I.lnew (t':=s.toks) (r.rep k.toNat) (by rw [len_rep,Nat.mul_comm]; exact hz),rfl,q _ I.fresh⟩
end
end L2
namespace Att
open PySem PySem.W PySem.Calls PyProof.Rows
theorem ints_of_wellAll {P : Params} {h : Heap} : ∀ (ns : List Int) (vs : List Value),WellAll P h vs (ns.map WData.int)→IntsAre vs ns := by
  intro ns
  induction ns with
  | nil =>
    intro vs w
    rw [List.map_nil] at w
    cases w
    exact .nil
  | cons n ns ih =>
    intro vs w
    rw [List.map_cons] at w
    cases w with
    | cons a b =>
      cases a
      exact .cons _ _ (ih _ b)
theorem script_of {l : OpenLaw} {n : Nat} (hn : l.most = some n) {P : Params} {h : Heap} {args : List WData} {vals : List Value}
    (hpre : l.row.toRowW.claim.pre args = true) (hwl : WellAll P h vals args) :
    ∃ a vs ns,vals = [Value.ref a]∧args = [WData.list (ns.map WData.int)]∧h.get? a = some { cls:=.type "list",data:=.seq vs.toArray }∧IntsAre vs ns∧ns.length≤n := by
  have hsh : WShape.hasAll [] args [.list .int] = true:=(pre_splitW hpre).1
  have hc : l.pre.holds [] { args:=args } = true:=(pre_splitW hpre).2
  obtain ⟨d,r,rfl,h1,h2⟩:=hasAllW_cons hsh
  obtain rfl:=hasAllW_nil h2
  obtain ⟨xs,rfl,h3⟩:=hasW_list h1
  obtain ⟨ns,rfl⟩:=items_int h3
  have hlen : ns.length≤n := by
    unfold OpenLaw.pre at hc
    have h4 : (WTm.not (.lt (.lit (.int (n : Int))) (.len (.arg 0)))).holds [] { args:=[.list (ns.map .int)] } = true := by
      have h4:=(holds_andW hc).1
      rw [hn] at h4
      exact h4
    have h5:=condW_of h4 (w_not (w_lt w_lit (w_len_list (w_arg rfl))))
    rw [List.length_map] at h5
    refine Nat.le_of_not_lt fun q => ?_
    have q' : (n : Int) < ((ns.length : Nat) : Int) := by lia
    first
      | (rw [decide_eq_true q'] at h5; exact absurd h5 (by decide))
      | (simp at h5; lia)
  cases hwl with
  | cons w1 w2 =>
    cases w2
    cases w1 with
    | list ho hall => exact ⟨_,_,ns,rfl,rfl,ho,ints_of_wellAll ns _ hall,hlen⟩
theorem post_true (l : OpenLaw) (args : List WData) : l.row.toRowW.claim.post args (.bool true) args = true :=
  postW_of (r:=l.row.toRowW) (X:=(true == true))
    (show WShape.has [] (.bool true) .bool = true by first | rfl | decide | simp [WShape.has,WShape.arms,WShape.armsAll])
    (show (WTm.eq .res (.lit (.bool true))).value [] { args:=args,res:=some (.bool true),after:=args } = some (.bool (true == true)) from w_eq_bool (w_res rfl) w_lit) rfl
theorem attach_call {l : OpenLaw} {n : Nat} {q : Program} {loose : List Str} {XP : (Str→Option Value)→Heap→Prop} {YP : World→Heap→Prop} {d : DefRec}
    (hn : l.most = some n) (hdf : d.params.defaults = [])
    (call : ∀ (w : World) (s₀ s₁ : Shared) (mg mb : Str→Option Value) (fa : Addr) (o : Obj) (pm cd doc : Value) (a : Addr) (vs : List Value) (ns : List Int),
      Ground q loose [] XP w s₀ mg mb s₁.heap→YP w s₁.heap →
      s₁.heap.get? fa = some o→o.data = .func (docDef d.name d.params d.body d.scope pm cd doc)→s₁.heap.CodeRec cd d.name→mg d.name = some (.ref fa) →
      s₁.heap.get? a = some { cls:=.type "list",data:=.seq vs.toArray }→IntsAre vs ns→ns.length≤n→s₁.gens = #[] →
      codeAny (model l.prog w) callerA (.call (.ref fa) ⟨[.ref a],[]⟩) (fun r s' => r = .ok (.ret (.bool true))∧OldK s₁.heap s'.heap∧s'.os = s₁.os∧AllBare s'.gens) s₁) :
    WalkO q loose XP YP l.row.toRowW d [] (fun f vs => PySem.call f vs) := by
  intro w s₀ s₁ mg mb G Y fa o pm cd doc dV kV ho hd hcd hD hmg hg args vals as hpre hlay hrd hwl hlo
  obtain rfl : dV = .none:=Dflts.none hD hdf
  obtain rfl : kV = .none:=Dflts.noKw hD
  obtain ⟨a,vs,ns,rfl,rfl,hobj,hints,hlen⟩:=script_of hn hpre hwl
  refine enter_call (codeAny_mono (call w s₀ s₁ mg mb fa o pm cd doc a vs ns G Y ho (fd_plain hd) hcd hmg hobj hints hlen hg) fun r s' hq => ?_)
  obtain ⟨rfl,h2,h3,h4⟩:=hq
  exact ⟨.inl ⟨.bool true,.bool true,[],rfl,fun _ => rfl,.bool true,post_true l _,fun _ => ⟨List.Pairwise.nil,fun _ hm => (nomatch hm)⟩⟩,h2,h3,h4⟩
end Att
namespace L2
open PySem PySem.Spec PyProof.Rows
theorem vals_ints : ∀ {vs : List Value} {ns : List Int},IntsAre vs ns→Vals (ns.map V.int) vs
  | _,_,.nil => .nil
  | _,_,.cons n t h => .cons ⟨t,rfl⟩ (vals_ints h)
def Only (H : Hp) : Prop:=∀ b,H b = none∨∃ o xs,H b = some (.frz o (.lst xs))
theorem law_call {P : Program} {w : World} {K : PySem.W.Frag} {mg mb : Str→Option Value} {CX : CXT} {k : Nat} {fa a : Addr} {fd : FuncData} {x : Str} {sp : Sp} {s₁ : Shared} {vs : List Value} {ns : List Int}
    (KX : K.In s₁.heap) (hns : s₁.heap.Ns mainGlobals mg) (hb : s₁.heap.Ns builtinsNs mb) (hbb : ∀ x : Str,x ≠ "__name__" → mb x = bootBuiltins x) (hlim : s₁.heap.NoLimit) (hg : s₁.gens = #[])
    (ha : s₁.heap.get? a = some { cls:=.type "list",data:=.seq vs.toArray }) (hi : IntsAre vs ns) (hl : ns.length≤sizeLine) (hr : Room k callerA) (hkt : ∀ H,KTb mg H)
    (F : ∀ base : Heap,K.In base→base.Ns mainGlobals mg→FnOk P w K mg base CX k fa fd [x] sp) (hbind : ∀ (s : Shared) (u : Value),BindsTo s fd ⟨[u],[]⟩ [(x,u)])
    (hsp : ∀ H : Hp,Only H→SqL K H a (ns.map V.int)→sp [.ref a] H (fun v _ => v = .bl true) fun _ _ _ => False)
    (hCX : ∀ H e s',CX [] H s₁ (fun _ _ _ => False) e s'→False) :
    codeAny (model P w) callerA (.call (.ref fa) ⟨[.ref a],[]⟩) (fun r s' => r = .ok (.ret (.bool true))∧OldK s₁.heap s'.heap∧s'.os = s₁.os∧AllBare s'.gens) s₁ := by
  have rv:=vals_ints hi
  have lenV:=hi.length
  have core : ∀ H : Hp,Only H→SqL K H a (ns.map V.int)→HOk P w H s₁.heap→(∀ b,H b≠none→b = a)→(H a≠none→K.lookup a = none) →
      codeAny (model P w) callerA (.call (.ref fa) ⟨[.ref a],[]⟩) (fun r s' => r = .ok (.ret (.bool true))∧OldK s₁.heap s'.heap∧s'.os = s₁.os∧AllBare s'.gens) s₁ := by
    intro H hO hS hok hA hK
    have base_of : ∀ {b : Addr} {o : Obj},s₁.heap.get? b = some o→H b = none→(hidT s₁.heap H).get? b = some o:=fun e n => hidT_get e n
    have noA : ∀ {b : Addr} {o : Obj} {es : Array DictEntry} {ep : Nat},s₁.heap.get? b = some o→o.data = .dict es ep→H b = none:=fun {b o es ep} e d => by
      cases q : H b with
      | none => rfl
      | some u =>
        have e' : b = a:=hA b (by rw [q]; simp)
        subst e'
        rw [ha] at e; cases e
        have d' : Data.seq vs.toArray _ = Data.dict es ep:=d
        cases d'
    have nsK : ∀ {b : Addr} {m : Str→Option Value},s₁.heap.Ns b m→(hidT s₁.heap H).Ns b m:=fun {b m} ⟨o,es,ep,e,d,r⟩ => ⟨o,es,ep,base_of e (noA e d),d,r⟩
    have hKb : K.In (hidT s₁.heap H):=fun b o e => base_of (KX b o e) (by
      cases q : H b with
      | none => rfl
      | some u =>
        have e' : b = a:=hA b (by rw [q]; simp)
        subst e'
        rw [hK (by rw [q]; simp)] at e; cases e)
    have hM : Mod K mg (hidT s₁.heap H):=⟨hKb,nsK hns,⟨mb,nsK hb,hbb⟩,let ⟨mc,h1,h2⟩:=hlim; ⟨mc,nsK h1,h2⟩⟩
    have e0 : Env0 P w K mg (hidT s₁.heap H) callerA [] s₁ H:=⟨rfl,hM,fun b o e => of_hidT e,Nat.le_of_eq (hidT_size _ _),trivial,fun b hb => absurd (show b∈([] : List Addr) from hb) (by simp),hok,.of_eq hg,hkt H⟩
    refine codeAny_mono ((F _ hKb (nsK hns)).run callerA [] s₁ H ⟨[.ref a],[]⟩ [.ref a] [.ref a] _ _ hr e0 (hbind s₁ (.ref a)) (.cons rfl .nil) (hsp H hO hS)) fun r s' h => ?_
    cases r with
    | error e => exact (hCX H e s' h).elim
    | ok fl =>
      cases fl with
      | next => exact False.elim h
      | brk => exact False.elim h
      | cont => exact False.elim h
      | ret u =>
        obtain ⟨v,H',os,bare,un,hok',r',q⟩:=h
        have q' : v = .bl true:=q
        subst q'
        obtain rfl : u = Value.bool true:=r'
        refine ⟨rfl,OldK.of_keep fun b o e => ?_,os,bare⟩
        cases q : H b with
        | none => exact un.keep b o e q (by intro z; exact absurd (show b∈([] : List Addr) from z) (by simp)) (by simp)
        | some u =>
          rcases hO b with z | ⟨ob,xs,z⟩
          · rw [q] at z; cases z
          · have z2:=un.frzs b ob _ z
            obtain ⟨e1,_⟩:=hok b _ z
            obtain ⟨e2,_⟩:=hok' b _ z2
            rw [e] at e1; cases e1
            exact e2
  cases hk : K.lookup a with
  | some o =>
    have e:=KX a o hk
    rw [ha] at e
    cases e
    refine core (fun _ => none) (fun _ => .inl rfl) (.inr ⟨_,vs.toArray,_,hk,rfl,rfl,rfl,by rw [List.size_toArray,lenV]; exact hl,by simpa using rv⟩) (fun b u z => by have z' : (none : Option HO) = some u:=z; cases z') (fun b z => absurd rfl z) fun z => absurd rfl z
  | none =>
    refine core (fun b => if b = a then some (.frz { cls:=.type "list",data:=.seq vs.toArray } (.lst (ns.map V.int))) else none) (fun b => ?_) (.inl (.inr ⟨{ cls:=.type "list",data:=.seq vs.toArray },if_pos rfl⟩)) (fun b u z => ?_) (fun b z => ?_) fun _ => hk
    · by_cases hb : b = a
      · exact .inr ⟨_,_,if_pos hb⟩
      · exact .inl (if_neg hb)
    · by_cases hb : b = a
      · have z':=(if_pos hb).symm.trans z
        cases z'
        subst hb
        exact ⟨ha,by rw [List.length_map]; exact hl,vs,_,rv,ha⟩
      · have z':=(if_neg hb).symm.trans z
        cases z'
    · by_cases hb : b = a
      · exact hb
      · exact absurd (if_neg hb) z
theorem walk_of {l : PySem.W.OpenLaw} {n k : Nat} {q : Program} {loose : List Str} {XP : (Str→Option Value)→Heap→Prop} {YP : World→Heap→Prop} {d : DefRec} {K : Params→PySem.W.Frag} {CX : World→CXT} {sp : World→Sp} {x : Str}
    (hn : l.most = some n) (hn2 : n≤sizeLine) (hdf : d.params.defaults = []) (hr : Room k callerA) (hkt : ∀ (w : World) (mg : Str→Option Value) (h : Heap),(K w.params).In h→h.Ns mainGlobals mg→∀ H,KTb mg H)
    (hY : ∀ (w : World) (h : Heap),YP w h→(K w.params).In h)
    (F : ∀ (w : World) (mg : Str→Option Value) (fa : Addr) (h : Heap),(K w.params).In h→h.Ns mainGlobals mg→mg d.name = some (.ref fa) →
      ∃ fd : FuncData,(∀ (s : Shared) (u : Value),BindsTo s fd ⟨[u],[]⟩ [(x,u)]) ∧
        ∀ base : Heap,(K w.params).In base→base.Ns mainGlobals mg→FnOk l.prog w (K w.params) mg base (CX w) k fa fd [x] (sp w))
    (hsp : ∀ (w : World) (H : Hp) (a : Addr) (ns : List Int),ns.length≤n→Only H→SqL (K w.params) H a (ns.map V.int)→sp w [.ref a] H (fun v _ => v = .bl true) fun _ _ _ => False)
    (hCX : ∀ (w : World) (H : Hp) (s : Shared) (e : Value) (s' : Shared),CX w [] H s (fun _ _ _ => False) e s'→False) :
    PySem.W.WalkO q loose XP YP l.row.toRowW d [] (fun f vs => PySem.call f vs) := by
  refine Att.attach_call hn hdf fun w s₀ s₁ mg mb fa o pm cd doc a vs ns G Y ho hd hcd hmg hobj hints hlen hg => ?_
  have KX:=hY w _ Y
  obtain ⟨fd,hb,hF⟩:=F w mg fa _ KX G.T.g hmg
  exact law_call (hkt:=hkt w mg _ KX G.T.g) KX G.T.g G.T.b G.T.builtins G.T.nolimit hg hobj hints (Nat.le_trans hlen hn2) hr hF hb (fun H hO hS => hsp w H a ns hlen hO hS) fun H e s' => hCX w H s₁ e s'
def defArgs (s : Stmt) : Arguments:=match s with
  | .FunctionDef _ a _ _ _ _ _ _ _ _ => a
  | _ => { posonlyargs:=[],args:=[],vararg:=none,kwonlyargs:=[],kw_defaults:=[],kwarg:=none,defaults:=[] }
def defBody (s : Stmt) : List Stmt:=match s with
  | .FunctionDef _ _ b _ _ _ _ _ _ _ => b
  | _ => []
def defScope (s : Stmt) : Scope:=match s with
  | .FunctionDef _ _ _ _ _ _ sc _ _ _ => sc
  | _ => { kind:=.function,names:=[],isGenerator:=false,isCoroutine:=false }
abbrev CX0 : CXT:=fun _ _ _ _ _ _ => False
abbrev E0 : XK:=fun _ _ _ => False
theorem pass0 {X : Cx} : Passes CX0 X E0:=fun _ _ _ _ _ _ _ h => h.elim
structure Fun (K : PySem.W.Frag) (x qual : Str) (st : Stmt) (f : Addr) (fd : FuncData) : Prop where
  ex : ∃ (oc : Value) (od : Option Addr) (kV doc pm : Value) (an : Option Addr) (cdv ct : Value) (osl : Array (Option Value)),
    fd = PySem.W.fnOf x qual (defArgs st) (defBody st) (defScope st) .none kV doc pm an cdv ct∧K.lookup f = some ⟨oc,od,.func fd,osl⟩∧PySem.W.codeIn K cdv qual = true
  kp : PySem.W.keepIn K (.ref f) = true
section
variable {P : Program} {w : World} {K : PySem.W.Frag} {mg : Str→Option Value} {base : Heap}
theorem Fun.ok {x qual : Str} {st : Stmt} {f : Addr} {fd : FuncData} {N ps : List Str} {k : Nat} {sp : Sp} (F : Fun K x qual st f fd) (S : FnScope N ps (defScope st)) (len : ∀ vs H Q E,sp vs H Q E→vs.length = ps.length)
    (hbody : ∀ (cdv : Value) (A : Around) (outer : List Env) (s : Shared) (H : Hp) (vs : List V) (Q : VK) (E : XK),Room k (A.deeper (envOfC qual (defScope st) s.heap.objs.size f cdv))→sp vs H Q E →
      ∃ t,PSs (cxOf CX0 P w K mg base N qual (defScope st) f cdv A outer s H E).nox (defBody st) t∧t { nx:=fun _ H' => Q .non H',rt:=Q } (start N vs) H) : FnOk P w K mg base CX0 (k + 1) f fd ps sp := by
  obtain ⟨oc,od,kV,doc,pm,an,cdv,ct,osl,rfl,lk,hcd⟩:=F.ex
  refine fn_of lk hcd S len fun A outer s H vs Q E hr hsp => ?_
  obtain ⟨t,h,q⟩:=hbody cdv A outer s H vs Q E hr hsp
  exact ⟨t,h.nox,q⟩
theorem Fun.binds {x qual : Str} {st : Stmt} {f : Addr} {fd : FuncData} {ps : List Str} (F : Fun K x qual st f fd)
    (h : ∀ (kV doc pm : Value) (an : Option Addr) (cdv ct : Value) (us : List Value),us.length = ps.length→bindArgs (PySem.W.fnOf x qual (defArgs st) (defBody st) (defScope st) .none kV doc pm an cdv ct) ⟨us,[]⟩ = pure (ps.zip us)) : Binds K fd ps [] := by
  obtain ⟨oc,od,kV,doc,pm,an,cdv,ct,osl,rfl,lk,hcd⟩:=F.ex
  exact .all (h kV doc pm an cdv ct)
theorem fun_mk {x qual : Str} {st : Stmt} {f : Addr} {oc : Value} {od an : Option Addr} {osl : Array (Option Value)} {kV doc pm cdv ct : Value} (l : K.lookup f = some ⟨oc,od,.func (PySem.W.fnOf x qual (defArgs st) (defBody st) (defScope st) .none kV doc pm an cdv ct),osl⟩)
    (c : PySem.W.codeIn K cdv qual = true) (k : PySem.W.keepIn K (.ref f) = true) : Fun K x qual st f (PySem.W.fnOf x qual (defArgs st) (defBody st) (defScope st) .none kV doc pm an cdv ct):=⟨⟨oc,od,kV,doc,pm,an,cdv,ct,osl,rfl,l,c⟩,k⟩
end
theorem small1000 {n : Nat} (h : n≤1000) : n < sizeLine:=Nat.lt_of_le_of_lt h (by decide)
section
variable {X : Cx}
theorem pv (i : Nat) {x : Str} {pos : Pos} (hN : X.N[i]? = some x := by rfl) (hv : Vis X.env.scope x := by first | exact Or.inl rfl | exact Or.inr (Or.inl rfl) | exact Or.inr (Or.inr rfl)) (hd : (x == ("__debug__" : Str)) = false := by decide)
    (hcd : (x == ("__classdict__" : Str)) = false := by decide) : PE X (.Name x pos) (tVar i):=pe_var hN hv hd hcd
end
theorem iteT {A B : Prop} (h : A) : if true = true then A else B := by
  rw [if_pos rfl]
  exact h
def Same (H H' : Hp) : Prop:=∀ b o,H b = some o→H' b = some o
theorem Same.refl (H : Hp) : Same H H:=fun _ _ h => h
theorem Same.trans {H H1 H2 : Hp} (a : Same H H1) (b : Same H1 H2) : Same H H2:=fun c o h => b c o (a c o h)
theorem Same.seq {K : PySem.W.Frag} {H H' : Hp} {a : Addr} {xs : List V} (e : Same H H') (h : SqL K H a xs) : SqL K H' a xs := by
  rcases h with (h | ⟨o,h⟩) | h
  · exact .inl (.inl (e _ _ h))
  · exact .inl (.inr ⟨o,e _ _ h⟩)
  · exact .inr h
section
variable {X : Cx}
def CMulW (i j : Int) : Prop:=∃ m : Nat,m≤1000000∧i.natAbs < 2 ^ m∧j.natAbs < 2 ^ m
theorem CMulW.ok {i j : Int} (h : CMulW i j) : IntMulOk i j := by
  obtain ⟨m,hm,h1,h2⟩:=h
  exact IntMulOk.of_le (intBits_le_iff.mpr h1) (intBits_le_iff.mpr h2) (by lia)
theorem op_mulW : OpR X (binaryOp .Mult) (rI (fun i j => CMul i j∨CMulW i j) fun i j => .int (i * j)) :=
  opI fun _ _ _ _ _ _ _ hc q => mul_int q (hc.elim (fun z => z.ok) fun z => z.ok)
def CDivW (_i j : Int) : Prop:=j≠0∧∃ m : Nat,m≤9000∧j.natAbs < 2 ^ m
theorem op_fdivW : OpR X (binaryOp .FloorDiv) (rI CDivW fun i j => .int (i.fdiv j)):=opI fun i j _ _ _ _ _ hc q => by
  obtain ⟨h0,m,hm,h1⟩:=hc
  refine floordiv_int h0 q (.inl (PyProof.noPylong_of_log2 ?_))
  have hne : j.natAbs≠0 := by lia
  have : j.natAbs.log2 < m:=(Nat.log2_lt hne).mpr h1
  lia
mutual
def Br (K : PySem.W.Frag) (H : Hp) : PyData→V→Prop
  | .none,v => v = .non
  | .bool b,v => v = .bl b
  | .int i,v => v = .int i
  | .str x,v => v = .str x
  | .tuple ds,v => ∃ a xs,v = .ref a∧SqT K H a xs∧BrAll K H ds xs
  | .list ds,v => ∃ a xs,v = .ref a∧SqL K H a xs∧BrAll K H ds xs
  | .dict _,_ => False
def BrAll (K : PySem.W.Frag) (H : Hp) : List PyData→List V→Prop
  | [],xs => xs = []
  | d :: ds,xs => ∃ x r,xs = x :: r∧Br K H d x∧BrAll K H ds r
end
mutual
theorem Br.reads {pins : List (Addr×Obj)} {σ : St} {H : Hp} {s : Shared} (I : Inv X pins σ H s) : ∀ {d : PyData} {v : V} {u : Value},Br X.K H d v→RelV v u→∃ as,Reads s.heap u d as
  | .none,_,u,h,r => by rw [Br] at h; subst h; cases r; exact ⟨_,.none⟩
  | .bool b,_,u,h,r => by rw [Br] at h; subst h; cases r; exact ⟨_,.bool b⟩
  | .int i,_,u,h,r => by rw [Br] at h; subst h; obtain ⟨t,rfl⟩:=r; exact ⟨_,.int i t⟩
  | .str x,_,u,h,r => by rw [Br] at h; subst h; obtain ⟨t,rfl⟩:=r; exact ⟨_,.str x t⟩
  | .tuple ds,_,u,h,r => by
    rw [Br] at h
    obtain ⟨a,xs,e1,h1,h2⟩:=h
    subst e1
    cases r
    obtain ⟨its,rv,⟨o,e,c,n,hd⟩,_⟩:=I.tuple h1
    obtain ⟨as,ra⟩:=BrAll.reads I h2 rv
    exact ⟨_,.tuple e c hd (by simpa using ra)⟩
  | .list ds,_,u,h,r => by
    rw [Br] at h
    obtain ⟨a,xs,e1,h1,h2⟩:=h
    subst e1
    cases r
    obtain ⟨its,rv,⟨o,n,e,c,_,hd⟩,_⟩:=I.list h1
    obtain ⟨as,ra⟩:=BrAll.reads I h2 rv
    exact ⟨_,.list e c hd (by simpa using ra)⟩
  | .dict _,_,_,h,_ => by rw [Br] at h; exact h.elim
theorem BrAll.reads {pins : List (Addr×Obj)} {σ : St} {H : Hp} {s : Shared} (I : Inv X pins σ H s) : ∀ {ds : List PyData} {xs : List V} {us : List Value},BrAll X.K H ds xs→Vals xs us→∃ as,ReadsAll s.heap us ds as
  | [],_,us,h,r => by rw [BrAll] at h; subst h; cases r; exact ⟨_,.nil⟩
  | _ :: _,_,us,h,r => by
    rw [BrAll] at h
    obtain ⟨x,q,e1,h1,h2⟩:=h
    subst e1
    cases r with
    | cons r1 r2 =>
      obtain ⟨as,ra⟩:=Br.reads I h1 r1
      obtain ⟨bs,rb⟩:=BrAll.reads I h2 r2
      exact ⟨_,.cons ra rb⟩
end
def rEqD (K : PySem.W.Frag) (neg : Bool) : R2:=fun x y H Q => ∃ d e,Br K H d x∧Br K H e y∧SeqAt.shaped d = true∧SeqAt.shaped e = true∧Q (.bl (if neg then !PyData.eqv d e else PyData.eqv d e)) H
theorem op_eqD (hu : X.A.units + 64 < cLine) : OpR X (compareOp .Eq) (rEqD X.K false) := by
  intro pins s σ H x y v u Q I rx ry h
  obtain ⟨d,e,h1,h2,s1,s2,q⟩:=h
  obtain ⟨as,ra⟩:=Br.reads I h1 rx
  obtain ⟨bs,rb⟩:=Br.reads I h2 ry
  exact eq_dataH ra rb s1 s2 hu ⟨.bl _,H,I,rfl,q⟩
theorem op_neD (hu : X.A.units + 64 < cLine) : OpR X (compareOp .NotEq) (rEqD X.K true) := by
  intro pins s σ H x y v u Q I rx ry h
  obtain ⟨d,e,h1,h2,s1,s2,q⟩:=h
  obtain ⟨as,ra⟩:=Br.reads I h1 rx
  obtain ⟨bs,rb⟩:=Br.reads I h2 ry
  exact ne_dataH ra rb s1 s2 hu ⟨.bl _,H,I,rfl,q⟩
end
end L2
set_option maxHeartbeats 4000000
namespace L2
open PySem PySem.Spec PyProof.Rows
def PIf (X : Cx) (ifs : List Expr) (t : TT) : Prop :=
  ∀ (pins : List (Addr×Obj)) (s : Shared) (σ : St) (H : Hp) (Q : Bool→Hp→Prop),Inv X pins σ H s→t σ H Q →
    wpAny (model X.prog X.w) X.A (forIn ifs true fun c r => if r = true then do let ok ← isTrue c X.env (eval c X.env); pure (ForInStep.yield ok) else pure (ForInStep.yield r)) (TP X pins σ Q) X.xe s
def tNoIf : TT:=fun _ H Q => Q true H
theorem pif_nil {X : Cx} : PIf X [] tNoIf:=fun _ _ σ H _ I h => wpAny_tests_nil ⟨H,I,h⟩
theorem pif_one {X : Cx} {c : Expr} {t : TT} (h : PT X c t) : PIf X [c] t := by
  intro pins s σ H Q I hw
  simp only [List.forIn_cons,List.forIn_nil,if_true]
  refine wpAny_bind (wpAny_bind (thn (h pins s σ H Q I hw) fun b s1 q => ?_))
  exact wpAny_pure (wpAny_pure q)
def frOk (N XN : List Str) (sc xsc : Scope) : List (Option Nat)→Nat→Bool
  | [],_ => true
  | none :: r,i => frOk N XN sc xsc r (i + 1)
  | some j :: r,i => (match N[i]?,XN[j]? with
      | some n,some m => n == m && sc.names.lookup n == some .free && xsc.names.lookup n == some .cell
      | _,_ => false) && frOk N XN sc xsc r (i + 1)
theorem frOk_get {N XN : List Str} {sc xsc : Scope} : ∀ {fr : List (Option Nat)} {k : Nat},frOk N XN sc xsc fr k = true→∀ {i j : Nat},fr[i]? = some (some j) →
    ∃ n,N[k + i]? = some n∧XN[j]? = some n∧sc.names.lookup n = some .free∧xsc.names.lookup n = some .cell
  | [],_,_,i,j,e => by simp at e
  | none :: r,k,h,0,j,e => by simp at e
  | none :: r,k,h,i + 1,j,e => by
    have q:=frOk_get (fr:=r) (k:=k + 1) h (i:=i) (j:=j) (by simpa using e)
    have z : k + (i + 1) = k + 1 + i := by lia
    rw [z]; exact q
  | some j' :: r,k,h,0,j,e => by
    have e' : j' = j := by simpa using e
    subst e'
    rw [frOk,Bool.and_eq_true] at h
    have h1:=h.1
    split at h1
    · rename_i n m hn hm
      simp only [Bool.and_eq_true,beq_iff_eq] at h1
      obtain ⟨⟨rfl,h2⟩,h3⟩:=h1
      exact ⟨n,by simpa using hn,hm,h2,h3⟩
    · cases h1
  | some j' :: r,k,h,i + 1,j,e => by
    rw [frOk,Bool.and_eq_true] at h
    have q:=frOk_get (fr:=r) (k:=k + 1) h.2 (i:=i) (j:=j) (by simpa using e)
    have z : k + (i + 1) = k + 1 + i := by lia
    rw [z]; exact q
def carry (fr : List (Option Nat)) (σ : St) : St:=fr.map fun o => match o with
  | some j => (σ[j]?).join
  | none => none
theorem carry_get {fr : List (Option Nat)} {σ : St} {i : Nat} {v : V} (h : (carry fr σ)[i]? = some (some v)) : ∃ j,fr[i]? = some (some j)∧σ[j]? = some (some v) := by
  unfold carry at h
  rw [List.getElem?_map] at h
  cases e : fr[i]? with
  | none => rw [e] at h; cases h
  | some o =>
    rw [e] at h
    cases o with
    | none => simp at h
    | some j =>
      refine ⟨j,rfl,?_⟩
      simp only [Option.map_some,Option.some.injEq] at h
      cases q : σ[j]? with
      | none => rw [q] at h; cases h
      | some w => rw [q] at h; simp at h; rw [h]
theorem closure_of {env : Env} : ∀ (names : List (Str×NameKind)) (cs : List (Str×Addr)),(∀ x∈names,x.2 = NameKind.free→∃ c,env.cells.lookup x.1 = some c)→(∀ x c,cs.lookup x = some c→env.cells.lookup x = some c) →
    ∃ cl,(forIn names cs (fun (x : Str×NameKind) (r : List (Str×Addr)) => do if (x.2 == NameKind.free) = true then do let a ← cellOf env x.1; pure (ForInStep.yield ((x.1,a) :: r)) else pure (ForInStep.yield r)) : Sem (List (Str×Addr))) = pure cl ∧
      (∀ x c,cl.lookup x = some c→env.cells.lookup x = some c)∧(∀ x,(∃ c,cs.lookup x = some c)→∃ c,cl.lookup x = some c)∧∀ x∈names,x.2 = NameKind.free→∃ c,cl.lookup x.1 = some c
  | [],cs,_,h2 => ⟨cs,rfl,h2,fun _ q => q,fun _ z => (by cases z)⟩
  | (n,k) :: r,cs,h1,h2 => by
    rw [List.forIn_cons]
    by_cases hk : (k == NameKind.free) = true
    · obtain ⟨c,hc⟩:=h1 (n,k) List.mem_cons_self (by simpa using hk)
      have h2' : ∀ x c',((n,c) :: cs).lookup x = some c'→env.cells.lookup x = some c':=fun x c' e => by
        rw [List.lookup_cons] at e
        cases hx : x == n with
        | true => rw [hx] at e; have := beq_iff_eq.mp hx; subst this; simp at e; rw [← e]; exact hc
        | false => rw [hx] at e; exact h2 x c' e
      obtain ⟨cl,q1,q2,q3,q4⟩:=closure_of r ((n,c) :: cs) (fun x hx => h1 x (List.mem_cons_of_mem _ hx)) h2'
      have hn : ∃ c',cl.lookup n = some c':=q3 n ⟨c,by rw [List.lookup_cons,beq_self_eq_true]⟩
      refine ⟨cl,?_,q2,fun x hx => ?_,fun x hx hf => ?_⟩
      · simp only [hk,if_true]
        unfold cellOf
        rw [hc]
        exact q1
      · refine q3 x ?_
        rw [List.lookup_cons]
        cases hxn : x == n with
        | true => exact ⟨c,rfl⟩
        | false => exact hx
      · rcases List.mem_cons.mp hx with e | hx
        · subst e; exact hn
        · exact q4 x hx hf
    · obtain ⟨cl,q1,q2,q3,q4⟩:=closure_of r cs (fun x hx => h1 x (List.mem_cons_of_mem _ hx)) h2
      refine ⟨cl,?_,q2,q3,fun x hx hf => ?_⟩
      · simp only [hk]
        exact q1
      · rcases List.mem_cons.mp hx with e | hx
        · subst e; exact absurd (by simpa using hf) hk
        · exact q4 x hx hf
def cxComp (X : Cx) (scope : Scope) (cl : List (Str×Addr)) (N : List Str) (C : Addr) (s₀ : Shared) (H₀ : Hp) (fp : List Addr) : Cx where
  prog:=X.prog
  w:=X.w
  K:=X.K
  mg:=X.mg
  base:=X.base
  A:=X.A
  N:=N
  s₀:=s₀
  H₀:=H₀
  env:=compEnvC scope cl C X.env
  outer:=X.stack
  stack:=X.stack
  ex:=fp
  fn:=fun _ => false
  calm:=X.calm
  pn:=[]
  xe:=fun _ _ => False
def tComp (wi : TI) (fr : List (Option Nat)) (ix : Nat) (tif : TT) (te : TE) : TE:=fun σ H Q => wi σ H fun J H1 => ∀ D,H1 D = none→∃ W : Nat→Nat→List V→Hp→Prop,(∃ m,W 0 m [] (upd H1 D (.lst []))) ∧
  ∀ i m ys H,W i m ys H→H D = some (.lst ys)∧((J.stop i H∧Q (.ref D) H)∨(J.go i H∧ys.length < sizeLine∧∀ x H',J.yld i H x H' →
    tif ((carry fr σ).set ix (some x)) H' fun b H2 => if b = true then te ((carry fr σ).set ix (some x)) H2 fun y H3 => H3 D = some (.lst ys)∧∃ m',m' < m∧W (i + 1) m' (ys ++ [y]) (upd H3 D (.lst (ys ++ [y])))
      else ∃ m',m' < m∧W (i + 1) m' ys H2))
structure CompScope (scope : Scope) (N : List Str) (x : Str) (ix : Nat) : Prop where
  kind : scope.kind = .function
  cell : ∀ y∈scope.names,y.2≠.cell
  names : ∀ y∈scope.names,y.2 = .local→scope.names.lookup y.1 = some .local
  free : ∀ y∈scope.names,y.2 = .free→scope.names.lookup y.1 = some .free
  loc : scope.names.lookup x = some .local
  nd : N.Nodup
  at_ : N[ix]? = some x
theorem lookup_mem {names : List (Str×NameKind)} {n : Str} {k : NameKind} : names.lookup n = some k→(n,k)∈names := by
  induction names with
  | nil => intro h; cases h
  | cons y r ih =>
    intro h
    obtain ⟨m,j⟩:=y
    rw [List.lookup_cons] at h
    cases e : n == m with
    | true => rw [e] at h; have := beq_iff_eq.mp e; subst this; simp at h; subst h; exact List.mem_cons_self
    | false => rw [e] at h; exact List.mem_cons_of_mem _ (ih h)
theorem relabel_kind {scope : Scope} {env : Env} (hc : ∀ y∈scope.names,y.2≠.cell) {n : Str} (h : (relabel scope env).names.lookup n = some .cell∨(relabel scope env).names.lookup n = some .free) : ∃ k,(n,k)∈scope.names∧k = NameKind.free := by
  have key : ∀ k',(relabel scope env).names.lookup n = some k'→(k' = .cell∨k' = .free)→∃ k,(n,k)∈scope.names∧k = NameKind.free:=fun k' h hk => by
    have hm:=lookup_mem h
    unfold relabel at hm
    obtain ⟨⟨m,k⟩,hy,e⟩:=List.mem_map.mp hm
    dsimp only at e
    by_cases hcond : (k == NameKind.free && env.scope.kind == .function && env.kindOf m == some .cell) = true
    · rw [if_pos hcond] at e
      injection e with e1 e2
      subst e1
      refine ⟨k,hy,?_⟩
      simp only [Bool.and_eq_true,beq_iff_eq] at hcond
      exact hcond.1.1
    · rw [if_neg hcond] at e
      injection e with e1 e2
      subst e1 e2
      rcases hk with rfl | rfl
      · exact absurd rfl (hc _ hy)
      · exact ⟨_,hy,rfl⟩
  rcases h with h | h
  · exact key _ h (.inl rfl)
  · exact key _ h (.inr rfl)
section
variable {X : Cx} {elt iter : Expr} {x : Str} {px pos : Pos} {ifs : List Expr} {scope : Scope} {wi : TI} {fr : List (Option Nat)} {ix : Nat} {tif : TT} {te : TE} {N : List Str}
theorem codeAny_compLoop_testsT {prog : Program} {w : World} {A : Around} {R : Result→Shared→Prop} {s : Shared} {elt target iter : Expr} {ifs : List Expr} {scope : Scope} {pos : Pos} {it acc : Value} {env : Env} (I : Nat→Shared→Prop)
    (turn : ∀ n s,I n s→wpAny (model prog w) A (pyNext it) (fun r s₁ => match r with
      | none => R (.ok .next) s₁
      | some v => wpAny (model prog w) A (letOwnedTupleGo target it v >>= fun _ => assign target env v) (fun _ s₂ =>
          wpAny (model prog w) A (forIn ifs true fun c r => if r = true then do let ok ← isTrue c env (eval c env); pure (ForInStep.yield ok) else pure (ForInStep.yield r)) (fun ok s₃ =>
            if ok = true then wpAny (model prog w) A (eval elt env) (fun x s₄ =>
              wpAny (model prog w) A (call (.builtin "list.append") [acc,x]) (fun _ s₅ => ∃ m,m < n∧I m s₅) (notedBy (model prog w) A env fun e s' => R (.error e) s') s₄) (notedBy (model prog w) A env fun e s' => R (.error e) s') s₃
            else ∃ m,m < n∧I m s₃) (notedBy (model prog w) A env fun e s' => R (.error e) s') s₂) (notedBy (model prog w) A env fun e s' => R (.error e) s') s₁) (notedBy (model prog w) A env fun e s' => R (.error e) s') s)
    (n : Nat) (h : I n s) :
    codeAny (model prog w) A (.compLoop (.ListComp elt [⟨target,iter,ifs,0⟩] scope pos) 0 it acc env) R s := by
  refine codeAny_loop rfl I (fun n s hI => ?_) n h
  show wpAny _ A ((compTurn (.ListComp elt [⟨target,iter,ifs,0⟩] scope pos) 0 it acc env).onRaise (fun x => do noteFrame x env; theTreesLotGoes x)) _ _ s
  refine wpAny_noted ?_
  rw [compTurn_list]
  refine wpAny_bind (wpAny_standAt (wpAny_bind (wpAny_mono (turn n s hI) (fun r s₁ h₁ => ?_) fun _ _ h' => h')))
  cases r with
  | none => exact wpAny_pure h₁
  | some v =>
    show wpAny (model prog w) A (letOwnedTupleGo target it v >>= fun _ => assign target env v >>= _) _ _ s₁
    rw [← bind_assoc]
    refine wpAny_bind (wpAny_mono h₁ (fun _ s₂ h₂ => wpAny_bind (wpAny_mono h₂ (fun ok s₃ h₃ => ?_) fun _ _ h' => h')) fun _ _ h' => h')
    cases ok with
    | false => exact wpAny_pure ⟨rfl,h₃⟩
    | true =>
      exact wpAny_bind (wpAny_bind (wpAny_mono h₃ (fun x s₄ h₄ => wpAny_bind (wpAny_mono h₄ (fun _ s₅ h₅ => wpAny_pure (wpAny_pure ⟨rfl,h₅⟩)) fun _ _ h' => h')) fun _ _ h' => h'))
theorem comp_blockG {pins : List (Addr×Obj)} {σ : St} {H2 : Hp} {s2 : Shared} {Q : VK} {it : Addr} {fp : List Addr} {tn : Nat→Heap→Prop} {J : It} {cl : List (Str×Addr)} {E : Value→Shared→Prop} {RR : Value→Addr→Result→Shared→Prop}
    (S : CompScope scope N x ix) (hcalm : X.calm = true) {tgE : Expr} {g : TG} (Rv : St→Prop) (r0 : Rv (carry fr σ)) (hpg : ∀ C,PG (cxComp X scope cl N C s2 H2 fp) tgE g) (hfr : frOk N X.N scope X.env.scope fr 0 = true) (hlen : fr.length = N.length)
    (hif : ∀ cl C s₀ H₀ fp,PIf (cxComp X scope cl N C s₀ H₀ fp) ifs tif) (he : ∀ cl C s₀ H₀ fp,PE (cxComp X scope cl N C s₀ H₀ fp) elt te)
    (I2 : Inv X pins σ H2 s2) (T : Turn X.prog X.w X.K tgE J fp it tn) (st2 : tn 0 s2.heap) (f2 : ∀ b∈fp,FpOk X pins H2 b)
    (c1 : ∀ x c,cl.lookup x = some c→X.env.cells.lookup x = some c) (c2 : ∀ x∈scope.names,x.2 = NameKind.free→∃ c,cl.lookup x.1 = some c)
    (W : ∀ D,H2 D = none→∃ W : Nat→Nat→List V→Hp→Prop,(∃ m,W 0 m [] (upd H2 D (.lst []))) ∧
      ∀ i m ys H,W i m ys H→H D = some (.lst ys)∧((J.stop i H∧Q (.ref D) H)∨(J.go i H∧ys.length < sizeLine∧∀ x H',J.yld i H x H'→∀ σ',Rv σ'→g x σ' H' fun σ6 H6 => Rv σ6 ∧
        tif σ6 H6 fun b H2 => if b = true then te σ6 H2 fun y H3 => H3 D = some (.lst ys)∧∃ m',m' < m∧W (i + 1) m' (ys ++ [y]) (upd H3 D (.lst (ys ++ [y])))
          else ∃ m',m' < m∧W (i + 1) m' ys H2)))
    (fin : ∀ (D C : Addr) (s' : Shared) (H' : Hp) m,s'.heap.Ns C m→Q (.ref D) H'→(∀ h',Heap.SameBut C s'.heap h'→Inv X pins σ H' { s' with heap:=h' })→C≠D→(∀ b o,s2.heap.get? b = some o→b≠C)→H' C = none→s2.heap.objs.size≤C→RR (.ref D) C (.ok .next) s') :
    wpAny (model X.prog X.w) X.A (newList []) (fun acc s₃ => wpAny (model X.prog X.w) X.A (newFunctionEnv scope X.env.globals cl [] X.env.qual none .none (some X.env)) (fun cenv s₄ =>
      codeAny (model X.prog X.w) X.A (.compStart (.ListComp elt [⟨tgE,iter,ifs,0⟩] scope pos) 0 (.ref it) acc { cenv with scope:=relabel scope X.env }) (RR acc cenv.locals) s₄) E s₃) E s2 := by
  refine wpAny_newObj_type (wpAny_newFunctionEnv S.cell (by intro y hy; simp at hy) (fun h₁ hns₁ hsb₁ => ?_) S.kind)
  dsimp only at hns₁ hsb₁ ⊢
  generalize hHp : s2.heap.push { cls:=.type "list",dict:=none,data:=.seq ([] : List Value).toArray } = Hq at hns₁ hsb₁ ⊢
  have hC : Hq.objs.size = s2.heap.objs.size + 1 := by rw [← hHp,Heap.size_push]
  have hDC : s2.heap.objs.size≠Hq.objs.size := by rw [hC]; exact Nat.ne_of_lt (Nat.lt_succ_self _)
  have below : ∀ b,b < s2.heap.objs.size→b≠Hq.objs.size∧b≠s2.heap.objs.size:=fun b hb => ⟨by rw [hC]; exact Nat.ne_of_lt (Nat.lt_succ_of_lt hb),Nat.ne_of_lt hb⟩
  have old : ∀ b o,s2.heap.get? b = some o→h₁.get? b = some o:=fun b o e => hsb₁.extBut b o (below b (Heap.lt_size e)).1 (Heap.get?_push_of_some _ (hHp ▸ Heap.get?_push_of_some _ e))
  have hacc : h₁.get? s2.heap.objs.size = some { cls:=.type "list",data:=.seq ([] : List Value).toArray }:=hsb₁.extBut _ _ hDC (Heap.get?_push_of_some _ (hHp ▸ Heap.get?_push_size _ rfl))
  have hD2 : H2 s2.heap.objs.size = none:=I2.hok.fresh (Nat.le_refl _)
  have hC2 : H2 Hq.objs.size = none:=I2.hok.fresh (by rw [hC]; exact Nat.le_succ _)
  have fpo : ∀ b∈fp,b < s2.heap.objs.size:=fun b hb => by
    obtain ⟨o,e,_⟩:=T.obj _ _ st2 b hb
    exact Heap.lt_size e
  obtain ⟨W,⟨m0,w0⟩,turn⟩:=W s2.heap.objs.size hD2
  have ok : (cxComp X scope cl N Hq.objs.size s2 H2 fp).Ok := by
    refine ⟨I2.ok.mod,S.kind,I2.ok.glob,I2.ok.blt,by show s2.heap.objs.size≤Hq.objs.size; rw [hC]; exact Nat.le_succ _,?_,?_,?_,fun _ => I2.ok.hd hcalm,I2.ok.frames,.inl rfl,?_,I2.bs,Nat.le_trans I2.ok.bsz I2.sz,?_,?_,I2.stack,I2.stkFree,I2.kt⟩
    · exact fun a b c h1 h2 => I2.ok.inj a b c (c1 _ _ h1) (c1 _ _ h2)
    · intro y hy
      obtain ⟨k,hm,rfl⟩:=relabel_kind S.cell hy
      exact c2 _ hm rfl
    · intro y c hf
      cases hf
    · intro b hb
      refine ⟨(below b (fpo b hb)).1,fun y c e => ?_⟩
      obtain ⟨_,_,_,_,f5,_⟩:=f2 b hb
      exact f5 y c (c1 _ _ e)
    · intro b o e hb
      obtain ⟨_,_,_,f4,_,_⟩:=f2 b hb
      rcases f4 with z | z
      · exact I2.ok.noex b o e z
      · exact absurd (Nat.lt_of_lt_of_le (Heap.lt_size e) (Nat.le_trans I2.ok.bsz z)) (Nat.lt_irrefl _)
    · intro b hb hs
      obtain ⟨_,f1,f3,_⟩:=f2 b hb
      rcases List.mem_cons.mp (I2.stkSub b hs) with z | z
      · exact f1 z
      · exact f3 z
  have I4 : Inv (cxComp X scope cl N Hq.objs.size s2 H2 fp) [] (carry fr σ) (upd H2 s2.heap.objs.size (.lst [])) { s2 with heap:=h₁,toks:=s2.toks + ([] : List (Str×Value)).length } := by
    refine ⟨ok,rfl,I2.bare,Un.laid old (Nat.le_refl _) hD2,⟨_,hns₁,fun i y v h1 h2 h3 => ?_⟩,fun y c e => ?_,?_,fun y c e => ?_,fun p hp => (by cases hp),I2.hok.laid old (Nat.le_refl _) ⟨Nat.zero_le _,[],0,.nil,hacc⟩,?_⟩
    · obtain ⟨j,e1,e2⟩:=carry_get h2
      obtain ⟨n,n1,n2,n3,n4⟩:=frOk_get hfr e1
      rw [Nat.zero_add] at n1
      have : y = n := by
        have h1' : N[i]? = some y:=h1
        rw [h1'] at n1; exact Option.some.inj n1
      subst this
      obtain ⟨m,hn,hl⟩:=I2.loc
      obtain ⟨u,ru,lk⟩:=hl j y v n2 e2 (.inr (.inl n4))
      refine ⟨u,ru,?_⟩
      obtain ⟨c,hc⟩:=c2 _ (lookup_mem n3) rfl
      rcases lk with ⟨k1,_⟩ | ⟨_,c',hc',hcell⟩
      · have k1' : X.env.scope.names.lookup y = some .local:=k1
        rw [n4] at k1'; cases k1'
      · have:=c1 _ _ hc
        rw [hc'] at this; cases this
        refine .inr ⟨?_,c,hc,hcell.keeps old⟩
        rcases h3 with z | z | z
        · obtain ⟨k,hm⟩ : ∃ k,(y,k)∈scope.names∧k = NameKind.local := by
            have hm:=lookup_mem z
            have hm' : (y,NameKind.local)∈(relabel scope X.env).names:=hm
            unfold relabel at hm'
            obtain ⟨⟨m',k⟩,hy,e⟩:=List.mem_map.mp hm'
            dsimp only at e
            by_cases hcond : (k == NameKind.free && X.env.scope.kind == .function && X.env.kindOf m' == some .cell) = true
            · rw [if_pos hcond] at e; injection e with _ e2'; cases e2'
            · rw [if_neg hcond] at e; injection e with e1' e2'; subst e1' e2'; exact ⟨_,hy,rfl⟩
          obtain ⟨hm,rfl⟩:=hm
          have:=S.names _ hm rfl
          rw [n3] at this; cases this
        · exact .inl z
        · exact .inr z
    · obtain ⟨v,z⟩:=I2.cell y c (c1 _ _ e)
      exact ⟨v,z.keeps old⟩
    · show upd H2 s2.heap.objs.size _ Hq.objs.size = none
      rw [upd_ne (Ne.symm hDC)]; exact hC2
    · obtain ⟨v,o,ho,_⟩:=I2.cell y c (c1 _ _ e)
      rw [upd_ne (below c (Heap.lt_size ho)).2]
      exact I2.freeC y c (c1 _ _ e)
    · show (carry fr σ).length = N.length
      unfold carry
      rw [List.length_map]; exact hlen
  have fpX : ∀ (p : List (Addr×Obj)) (H' : Hp),(∀ q∈p,q.1∈fp→False)→(∀ b∈fp,H' b = none)→∀ b∈fp,FpOk (cxComp X scope cl N Hq.objs.size s2 H2 fp) p H' b:=fun p H' hp hn b hb => by
    obtain ⟨_,f1,f3,f4,f5,_⟩:=f2 b hb
    refine ⟨hn b hb,(below b (fpo b hb)).1,fun hs => ok.exfs b hb hs,.inl hb,fun y c e => f5 y c (c1 _ _ e),fun q hq e => ?_⟩
    exact hp q hq (e ▸ hb)
  have hxv : (relabel scope X.env).names.lookup x = some .local:=lookup_relabel_local S.loc
  have loop : ∀ s₃ : Shared,s₃ = { s2 with heap:=h₁,toks:=s2.toks + ([] : List (Str×Value)).length } →
      codeAny (model X.prog X.w) X.A (.compLoop (.ListComp elt [⟨tgE,iter,ifs,0⟩] scope pos) 0 (.ref it) (.ref s2.heap.objs.size) (compEnvC scope cl Hq.objs.size X.env)) (RR (.ref s2.heap.objs.size) Hq.objs.size) s₃ := by
    rintro s₃ rfl
    refine codeAny_compLoop_testsT (fun n s' => ∃ i ys σ' H',Inv (cxComp X scope cl N Hq.objs.size s2 H2 fp) [] σ' H' s'∧Rv σ'∧tn i s'.heap∧(∀ b∈fp,H' b = none)∧W i n ys H') ?_ m0
      ⟨0,[],carry fr σ,_,I4,r0,T.keep _ _ _ st2 fun b _ o e => old b o e,fun b hb => by rw [upd_ne (below b (fpo b hb)).2]; exact (f2 b hb).1,w0⟩
    rintro n s3 ⟨i,ys,σ3,H3,I3,hσ,st3,fr3,w3⟩
    obtain ⟨hD3,way⟩:=turn i n ys H3 w3
    rcases way with ⟨stop,qn⟩ | ⟨go,hsz,step⟩
    · refine wpAny_mono (T.done (cxComp X scope cl N Hq.objs.size s2 H2 fp) rfl rfl rfl hcalm i [] s3 σ3 H3 (fun _ _ => False) I3 (fpX [] H3 (fun _ z => by cases z) fr3) st3 stop) (fun r s4 ⟨hr,I5⟩ => ?_) fun _ _ z => z.elim
      subst hr
      obtain ⟨m,hn,_⟩:=id I5.loc
      refine fin _ _ s4 H3 m hn qn (fun h' hs' => ?_) (Ne.symm hDC) (fun b o e => (below b (Heap.lt_size e)).1) I5.free (by rw [hC]; exact Nat.le_succ _)
      have nC : ∀ b u,H3 b = some u→b≠Hq.objs.size:=fun b u e z => by
        have:=I5.free
        rw [show (cxComp X scope cl N Hq.objs.size s2 H2 fp).env.locals = Hq.objs.size from rfl,← z,e] at this
        cases this
      have keepU : Un (frs X.stack) fp H2 H3 s2.heap h' := by
        have u:=I5.base
        refine ⟨fun b o e n hb hx => ?_,fun b o e n hb hx => ?_,fun b o e n hx => u.free b o e n hx,fun b o e hx => ?_,u.tups,u.frzs,u.tbls,fun b xs o q e hx => (hs'.2 b (below b (Heap.lt_size e)).1).trans (u.tupo b xs o q e hx)⟩
        · exact (hs'.2 b (below b (Heap.lt_size e)).1).trans (u.keep b o e n hb hx)
        · obtain ⟨sl,e1⟩:=u.slot b o e n hb hx
          exact ⟨sl,(hs'.2 b (below b (Heap.lt_size e)).1).trans e1⟩
        · obtain ⟨o',e1⟩:=u.there b o e hx
          exact ⟨o',(hs'.2 b (below b (Heap.lt_size e)).1).trans e1⟩
      have hok' : HOk X.prog X.w H3 h':=fun b u e => (I5.hok b u e).stay (fun c v hc q => (hs'.2 c (by
        rcases hc with rfl | hc
        · exact nC _ _ e
        · exact nC _ _ hc)).trans q) (fun _ q => q) fun _ _ q => q
      refine I2.call' (s':={ s4 with heap:=h' }) (ch:=fp) I5.os keepU hok' I5.bare fun b hb => ?_
      obtain ⟨_,f1,_,f4,f5,f6⟩:=f2 b hb
      exact ⟨f4,f1,f5,f6⟩
    · refine wpAny_mono (T.item (cxComp X scope cl N Hq.objs.size s2 H2 fp) rfl rfl rfl hcalm i [] s3 σ3 H3 (fun _ _ => False) I3 (fpX [] H3 (fun _ z => by cases z) fr3) st3 go) (fun r s4 ⟨u,hr,h4⟩ => ?_) fun _ _ z => z.elim
      subst hr
      show wpAny (model X.prog X.w) X.A (letOwnedTupleGo tgE (.ref it) u >>= fun _ => assign tgE (compEnvC scope cl Hq.objs.size X.env) u) _ _ s4
      refine wpAny_bind (wpAny_mono h4 (fun _ s5 ⟨xv,H5,I5,r5,y5,st5,fr5⟩ => ?_) fun _ _ z => z.elim)
      have I5':=I5.pinned (fpX [] H5 (fun _ z => by cases z) fr5) (T.obj _ _ st5)
      refine wpAny_mono (hpg _ _ s5 σ3 H5 xv u _ I5' r5 (step xv H5 y5 σ3 hσ)) (fun _ s6 ⟨σ6,H6,I6,rv6,step5⟩ => ?_) fun _ _ z => z.elim
      refine wpAny_mono (hif _ _ _ _ _ _ s6 _ H6 _ I6 step5) (fun b s7 ⟨H7,I7,q7⟩ => ?_) fun _ _ z => z.elim
      have again : ∀ {s8 : Shared} {H8 : Hp} {k : Nat} {zs : List V},Inv (cxComp X scope cl N Hq.objs.size s2 H2 fp) ([] ++ pinsAt fp s5.heap) σ6 H8 s8→W (i + 1) k zs H8→k < n →
          ∃ m,m < n∧∃ i ys σ' H',Inv (cxComp X scope cl N Hq.objs.size s2 H2 fp) [] σ' H' s8∧Rv σ'∧tn i s8.heap∧(∀ b∈fp,H' b = none)∧W i m ys H':=fun {s8 H8 k zs} I8 w8 hk => by
        refine ⟨k,hk,i + 1,zs,_,H8,I8.unpinned,rv6,T.keep _ _ _ st5 fun b hb o e => (I8.pin (b,o) (List.mem_append_right _ (List.mem_append_right _ (mem_pinsAt hb e)))).1,fun b hb => ?_,w8⟩
        obtain ⟨o,e,d⟩:=T.obj _ _ st5 b hb
        exact (I8.pin (b,o) (List.mem_append_right _ (List.mem_append_right _ (mem_pinsAt hb e)))).2.1
      cases b with
      | false =>
        rw [if_neg Bool.false_ne_true] at q7 ⊢
        obtain ⟨k,hk,w7⟩:=q7
        exact again I7 w7 hk
      | true =>
        rw [if_pos rfl] at q7 ⊢
        refine wpAny_mono (he _ _ _ _ _ _ s7 _ H7 _ I7 q7) (fun yv s8 ⟨y,H8,I8,r8,hD8,k,hk,w8⟩ => ?_) fun _ _ z => z.elim
        refine wpAny_mono (mt_append (X:=cxComp X scope cl N Hq.objs.size s2 H2 fp) _ s8 _ H8 (.ref s2.heap.objs.size) [y] (.ref s2.heap.objs.size) [yv] (fun _ H9 => H9 = upd H8 s2.heap.objs.size (.lst (ys ++ [y]))) I8 rfl (.cons r8 .nil) ⟨_,ys,y,rfl,rfl,hD8,hsz,rfl⟩) (fun _ s9 ⟨_,H9,I9,_,e9⟩ => ?_) fun _ _ z => z.elim
        subst e9
        exact again I9 w8 hk
  exact codeAny_compStart_list (loop _ rfl) (T.self X.A 0 _ _ _ (T.keep _ _ _ st2 fun b _ o e => old b o e) (loop _ rfl))
theorem comp_block {pins : List (Addr×Obj)} {σ : St} {H2 : Hp} {s2 : Shared} {Q : VK} {it : Addr} {fp : List Addr} {tn : Nat→Heap→Prop} {J : It} {cl : List (Str×Addr)} {E : Value→Shared→Prop} {RR : Value→Addr→Result→Shared→Prop}
    (S : CompScope scope N x ix) (hcalm : X.calm = true) (hfr : frOk N X.N scope X.env.scope fr 0 = true) (hlen : fr.length = N.length)
    (hif : ∀ cl C s₀ H₀ fp,PIf (cxComp X scope cl N C s₀ H₀ fp) ifs tif) (he : ∀ cl C s₀ H₀ fp,PE (cxComp X scope cl N C s₀ H₀ fp) elt te)
    (I2 : Inv X pins σ H2 s2) (T : Turn X.prog X.w X.K (.Name x px) J fp it tn) (st2 : tn 0 s2.heap) (f2 : ∀ b∈fp,FpOk X pins H2 b)
    (c1 : ∀ x c,cl.lookup x = some c→X.env.cells.lookup x = some c) (c2 : ∀ x∈scope.names,x.2 = NameKind.free→∃ c,cl.lookup x.1 = some c)
    (W : ∀ D,H2 D = none→∃ W : Nat→Nat→List V→Hp→Prop,(∃ m,W 0 m [] (upd H2 D (.lst []))) ∧
      ∀ i m ys H,W i m ys H→H D = some (.lst ys)∧((J.stop i H∧Q (.ref D) H)∨(J.go i H∧ys.length < sizeLine∧∀ x H',J.yld i H x H' →
        tif ((carry fr σ).set ix (some x)) H' fun b H2 => if b = true then te ((carry fr σ).set ix (some x)) H2 fun y H3 => H3 D = some (.lst ys)∧∃ m',m' < m∧W (i + 1) m' (ys ++ [y]) (upd H3 D (.lst (ys ++ [y])))
          else ∃ m',m' < m∧W (i + 1) m' ys H2)))
    (fin : ∀ (D C : Addr) (s' : Shared) (H' : Hp) m,s'.heap.Ns C m→Q (.ref D) H'→(∀ h',Heap.SameBut C s'.heap h'→Inv X pins σ H' { s' with heap:=h' })→C≠D→(∀ b o,s2.heap.get? b = some o→b≠C)→H' C = none→s2.heap.objs.size≤C→RR (.ref D) C (.ok .next) s') :
    wpAny (model X.prog X.w) X.A (newList []) (fun acc s₃ => wpAny (model X.prog X.w) X.A (newFunctionEnv scope X.env.globals cl [] X.env.qual none .none (some X.env)) (fun cenv s₄ =>
      codeAny (model X.prog X.w) X.A (.compStart (.ListComp elt [⟨.Name x px,iter,ifs,0⟩] scope pos) 0 (.ref it) acc { cenv with scope:=relabel scope X.env }) (RR acc cenv.locals) s₄) E s₃) E s2 := by
  have hxv : (relabel scope X.env).names.lookup x = some .local:=lookup_relabel_local S.loc
  refine comp_blockG S hcalm (fun σ' => ∀ v,σ'.set ix v = (carry fr σ).set ix v) (fun _ => rfl) (fun C => pg_name (X:=cxComp X scope cl N C s2 H2 fp) S.nd S.at_ (.inl hxv) (.inr hxv)) hfr hlen hif he I2 T st2 f2 c1 c2 (fun D hD => ?_) fin
  obtain ⟨W,w0,st⟩:=W D hD
  refine ⟨W,w0,fun i m ys H w => ?_⟩
  obtain ⟨h1,h2 | ⟨h2,h3,h4⟩⟩:=st i m ys H w
  · exact ⟨h1,.inl h2⟩
  · refine ⟨h1,.inr ⟨h2,h3,fun x H' hy σ' hr => ?_⟩⟩
    have:=h4 x H' hy
    rw [← hr] at this
    exact ⟨fun v => by rw [List.set_set,hr],this⟩
theorem pe_comp (S : CompScope scope N x ix) (hcalm : X.calm = true) (hfr : frOk N X.N scope X.env.scope fr 0 = true) (hlen : fr.length = N.length) (hfree : ∀ y∈scope.names,y.2 = .free→X.env.scope.names.lookup y.1 = some .cell∨X.env.scope.names.lookup y.1 = some .free)
    (hi : PI X (.Name x px) iter wi) (hif : ∀ cl C s₀ H₀ fp,PIf (cxComp X scope cl N C s₀ H₀ fp) ifs tif) (he : ∀ cl C s₀ H₀ fp,PE (cxComp X scope cl N C s₀ H₀ fp) elt te)
    (hs : ∀ x,foldedSetIterable iter X.env x = pure x := by intro _; rfl) : PE X (.ListComp elt [⟨.Name x px,iter,ifs,0⟩] scope pos) (tComp wi fr ix tif te) := by
  intro pins s σ H Q I hw
  obtain ⟨cl,hclos,c1,_,c2⟩:=closure_of (env:=X.env) scope.names [] (fun y hy hf => I.ok.has y.1 (hfree y hy hf)) (fun y c z => by cases z)
  have hclos' : closureFor scope X.env = pure cl := by
    have e : closureFor scope X.env = ((forIn scope.names [] (fun (x : Str×NameKind) (r : List (Str×Addr)) => do if (x.2 == NameKind.free) = true then do let a ← cellOf X.env x.1; pure (ForInStep.yield ((x.1,a) :: r)) else pure (ForInStep.yield r)) : Sem (List (Str×Addr))) >>= fun cs => pure cs):=rfl
    rw [e,hclos]
    rfl
  rw [eval_ListComp]
  refine wpAny_comprehension_free (use:=none) rfl hs hclos' S.kind S.names (thn (hi pins s σ H _ I hw) fun v s1 h1 => thn h1 fun itv s2 h2 => ?_)
  obtain ⟨it,fp,tn,J,H2,e,I2,T,st2,f2,W⟩:=h2
  subst e
  refine comp_block (RR:=fun acc C => compPost (model X.prog X.w) X.A X.xe none (EP X pins σ Q) acc C) S hcalm hfr hlen hif he I2 T st2 f2 c1 c2 W ?_
  intro D C s' H' m hn q hI _ _ _ _
  exact ⟨m,hn,fun h' hs' => ⟨.ref D,H',hI h' hs',rfl,q⟩⟩
theorem ps_setComp {i : Nat} {y : Str} {py spos : Pos} (hN : X.N.Nodup) (hy : X.N[i]? = some y) (hly : X.env.scope.names.lookup y = some .local) (S : CompScope scope N x ix) (hcalm : X.calm = true) (hfr : frOk N X.N scope X.env.scope fr 0 = true) (hlen : fr.length = N.length)
    (hfree : ∀ y∈scope.names,y.2 = .free→X.env.scope.names.lookup y.1 = some .cell∨X.env.scope.names.lookup y.1 = some .free)
    (hi : PI X (.Name x px) iter wi) (hif : ∀ cl C s₀ H₀ fp,PIf (cxComp X scope cl N C s₀ H₀ fp) ifs tif) (he : ∀ cl C s₀ H₀ fp,PE (cxComp X scope cl N C s₀ H₀ fp) elt te)
    (hsw : swapsWith (.ListComp elt [⟨.Name x px,iter,ifs,0⟩] scope pos) (some (.Name y py)) spos.line X.env = pure true := by rfl)
    (hs : ∀ x,foldedSetIterable iter X.env x = pure x := by intro _; rfl) :
    PS X (.Assign [.Name y py] (.ListComp elt [⟨.Name x px,iter,ifs,0⟩] scope pos) spos) (tAsg (tComp wi fr ix tif te) (gName i)) := by
  intro pins s σ H D I hw
  obtain ⟨cl,hclos,c1,_,c2⟩:=closure_of (env:=X.env) scope.names [] (fun y hy hf => I.ok.has y.1 (hfree y hy hf)) (fun y c z => by cases z)
  have hclos' : closureFor scope X.env = pure cl := by
    have e : closureFor scope X.env = ((forIn scope.names [] (fun (x : Str×NameKind) (r : List (Str×Addr)) => do if (x.2 == NameKind.free) = true then do let a ← cellOf X.env x.1; pure (ForInStep.yield ((x.1,a) :: r)) else pure (ForInStep.yield r)) : Sem (List (Str×Addr))) >>= fun cs => pure cs):=rfl
    rw [e,hclos]
    rfl
  rw [exec_Assign_Name_used _ _ _ _ hsw]
  refine wpAny_bind (wpAny_standAt (wpAny_bind ?_))
  show wpAny _ X.A (do let _ ← comprehension (.ListComp elt [⟨.Name x px,iter,ifs,0⟩] scope pos) scope X.env _ (newList []) false (eval iter X.env) (some (assign (.Name y py) X.env))) _ _ s
  refine wpAny_bind (wpAny_mono (wpAny_comprehension_free (use:=some (assign (.Name y py) X.env)) (Q:=fun _ s' => SP X pins D .next s') rfl hs hclos' S.kind S.names
    (thn (hi pins s σ H _ I hw) fun v s1 h1 => thn h1 fun itv s2 h2 => ?_)) (fun _ s' hq => wpAny_pure (wpAny_pure hq)) fun _ _ e => e)
  obtain ⟨it,fp,tn,J,H2,e,I2,T,st2,f2,W⟩:=h2
  subst e
  refine comp_block (Q:=fun x H1 => gName i x σ H1 D.nx) (RR:=fun acc C => compPost (model X.prog X.w) X.A X.xe (some (assign (.Name y py) X.env)) (fun _ s' => SP X pins D .next s') acc C) S hcalm hfr hlen hif he I2 T st2 f2 c1 c2 W ?_
  intro D' C s' H' m hn q hI hCD hold hfreeC hsz
  have I5 : Inv X pins σ H' s':=hI s'.heap (Heap.SameBut.refl ..)
  refine wpAny_assign_Name (store_ok2 I5 hN hy (.inl hly) (v:=.ref D') rfl (fun s'' I6 ⟨a,hsb,ha⟩ => ?_) (.inr hly))
  have hL : C≠X.env.locals:=fun z => by
    obtain ⟨_,⟨o,_,_,e,_⟩,_⟩:=I2.loc
    exact hold _ _ e z.symm
  have hcl : ∀ z c,X.env.cells.lookup z = some c→c≠C:=fun z c e => by
    obtain ⟨_,o,ho,_⟩:=I2.cell z c e
    exact hold _ _ ho
  have hCa : C≠a := by
    rcases ha with z | z
    · rw [z]; exact hL
    · exact Ne.symm (hcl _ _ z)
  refine ⟨m,hn.sameBut hsb hCa,fun h' hs' => ⟨_,H',I6.turned (t':=s''.toks) (it:=C) (fun b o hb e => (hs'.2 b hb).trans e) hfreeC hL (.inr (Nat.le_trans I2.sz hsz)) hcl fun p hp => ?_,q⟩⟩
  obtain ⟨e,_⟩:=I2.pin p hp
  exact hold _ _ e
end
end L2
namespace L2
open PySem PySem.Spec PyProof.Rows
structure Fn (K : PySem.W.Frag) (mg : Str→Option Value) (x : Str) (st : Stmt) (ps : List Str) (f : Addr) (fd : FuncData) : Prop where
  F : Fun K x x st f fd
  b : Binds K fd ps []
  m : mg x = some (.ref f)
section
variable {X : Cx} {k : Nat} {f : Addr} {fd : FuncData} {ps : List Str} {sp : Sp} {x : Str} {st : Stmt} {p pos : Pos} {e : Expr} {es : List Expr} {t : TA}
theorem pe_fn (T : Fn X.K X.mg x st ps f fd) (G : FnOk X.prog X.w X.K X.mg X.base CX0 k f fd ps sp) (hr : Room k X.A) (hg : Gl X x) (ha : PA X (e :: es) t)
    (hdb : (x == ("__debug__" : Str)) = false := by decide) (he : starEach (e :: es) X.env = (false,eval e X.env) :: starEach es X.env := by rfl) (hpl : (backTo pos (starEach es X.env)).any (·.1) = false := by rfl) :
    PE X (.Call (.Name x p) (e :: es) [] pos) (tCall sp [] E0 t):=pe_call G hr hg T.m T.F.kp T.b .nil pass0 ha hdb he hpl
end
theorem sz2 : 2≤sizeLine := by decide
theorem same_new {H : Hp} {p : Addr} (h : H p = none) (o : HO) : Same H (upd H p o):=fun b u q => by rw [upd_ne (ne_of_none q h)]; exact q
theorem ObjOk.get {P : Program} {w : World} {H : Hp} {h : Heap} {a : Addr} {o : HO} (x : ObjOk P w H h a o) : ∃ u,h.get? a = some u := by
  cases o with
  | lst xs => obtain ⟨_,_,_,_,e⟩:=x; exact ⟨_,e⟩
  | tup xs => obtain ⟨_,_,_,o,e,_⟩:=x; exact ⟨o,e⟩
  | dK kvs => obtain ⟨_,_,_,_,o,_,_,e,_⟩:=x; exact ⟨o,e⟩
  | dT kvs => obtain ⟨_,_,_,_,o,_,_,e,_⟩:=x; exact ⟨o,e⟩
  | set S n => obtain ⟨o,_,_,_,e,_⟩:=x; exact ⟨o,e⟩
  | ins C dx fs => obtain ⟨_,_,_,e,_⟩:=x; exact ⟨_,e⟩
  | own y => obtain ⟨o,e⟩:=x; exact ⟨o,e⟩
  | xd fs => obtain ⟨_,⟨o,_,_,e,_⟩,_⟩:=x; exact ⟨o,e⟩
  | rng lo hi => obtain ⟨_,_,_,e⟩:=x; exact ⟨_,e⟩
  | frz ob u => obtain ⟨e,_⟩:=x; exact ⟨_,e⟩
  | tbl ps => exact ⟨_,(show h.get? a = some _ from x)⟩
  | met f y => exact ⟨_,(show h.get? a = some _ from x)⟩
  | ext φ => obtain ⟨_,⟨o,e⟩,_⟩:=x; exact ⟨o,e⟩
structure FlyB (P : Program) (w : World) (outer : List Env) (H : Hp) (s : Shared) (ea : Addr) (cls a0 : Value) (H' : Hp) (s' : Shared) (B : Heap) : Prop where
  os : s'.os = s.os
  bare : AllBare s'.gens
  fly : Heap.FlyingW B outer ea cls a0 s'.heap
  keep : ∀ b o,s.heap.get? b = some o→H b = none→b ∉ frs outer→B.get? b = some o
  there : ∀ b o,s.heap.get? b = some o→b ∉ frs outer→∃ o',B.get? b = some o'
  slot : ∀ b o,s.heap.get? b = some o→b∈frs outer→∃ sl,s'.heap.get? b = some { o with slots:=sl }
  free : ∀ b o,s.heap.get? b = some o→H b = none→H' b = none
  tups : ∀ b xs,H b = some (.tup xs)→H' b = some (.tup xs)
  frzs : ∀ b o u,H b = some (.frz o u)→H' b = some (.frz o u)
  tbls : ∀ b ps,H b = some (.tbl ps)→∃ more,H' b = some (.tbl (ps ++ more))
  tupo : ∀ b xs o,H b = some (.tup xs)→s.heap.get? b = some o→B.get? b = some o
  hok : HOk P w H' B
  new : s.heap.get? ea = none
def CXW (P : Program) (w : World) : CXT:=fun outer H s E e s' => ∃ ea cls a0 H' B,e = .ref ea∧FlyB P w outer H s ea cls a0 H' s' B∧E cls none H'
theorem frs_data {base h : Heap} {l : List Env} (F : h.FunFrames base l) {b : Addr} (hb : b∈frs l) : ∃ o,h.get? b = some o∧∀ vs,o.data≠.fields vs:=(F.mem hb).2
section
variable {P : Program} {w : World} {K : PySem.W.Frag} {mg : Str→Option Value} {base : Heap} {N : List Str} {qual : Str} {scope : Scope} {f : Addr} {cd : Value} {A : Around} {outer : List Env} {s : Shared} {H : Hp} {E : XK}
theorem xe_made {pins : List (Addr×Obj)} {σ : St} {H1 : Hp} {s1 : Shared} {h' : Heap} {ea : Addr} {cls : Value} {args : List Value} (I : Inv (cxOf (CXW P w) P w K mg base N qual scope f cd A outer s H E) pins σ H1 s1)
    (hx : Heap.MadeExcOf s1.heap h' ea cls args) (hE : E cls none H1) : (cxOf (CXW P w) P w K mg base N qual scope f cd A outer s H E).xe (.ref ea) { s1 with heap:=h' } := by
  show wpAny (model P w) (A.deeper (envOfC qual scope s.heap.objs.size f cd)) (leaving (envOfC qual scope s.heap.objs.size f cd) (.ref ea)) _ _ _
  have FF:=I.stack
  have hfr : (A.deeper (envOfC qual scope s.heap.objs.size f cd)).frames = some (envOfC qual scope s.heap.objs.size f cd :: outer):=I.ok.frames
  have hin : ∀ env∈(envOfC qual scope s.heap.objs.size f cd :: outer),∀ b,env.frame = some b→b∈(envOfC qual scope s.heap.objs.size f cd :: outer).filterMap (·.frame):=fun env he b hb => List.mem_filterMap.mpr ⟨env,he,hb⟩
  have notL : ∀ b o,s.heap.get? b = some o→b≠s.heap.objs.size:=fun b o e => Nat.ne_of_lt (Heap.lt_size e)
  have out : ∀ b,b≠s.heap.objs.size→b ∉ frs outer→b ∉ (envOfC qual scope s.heap.objs.size f cd :: outer).filterMap (·.frame):=fun b h1 h2 hm => by
    rcases List.mem_cons.mp (I.stkSub b hm) with z | z
    · exact h1 z
    · exact h2 z
  have outT : ∀ b u,H1 b = some u→b ∉ (envOfC qual scope s.heap.objs.size f cd :: outer).filterMap (·.frame):=fun b u e hm => by
    have:=I.stkFree b hm
    rw [e] at this; cases this
  refine wpAny_leaves_madeW (base:=PySem.W.hideAll s1.heap ((envOfC qual scope s.heap.objs.size f cd :: outer).filterMap (·.frame))) hfr rfl (fun b o q => PySem.W.of_hideAll _ q) (PySem.W.funFrames_hide FF hin) hx fun h2 t fl _ _ up => ?_
  have hokB : HOk P w H1 (PySem.W.hideAll s1.heap ((envOfC qual scope s.heap.objs.size f cd :: outer).filterMap (·.frame))):=fun b u e =>
    (I.hok b u e).stay (fun c v hc q => PySem.W.hideAll_get _ q (by
      rcases hc with rfl | hc
      · exact outT _ _ e
      · exact outT _ _ hc)) (fun _ q => q) fun _ _ q => q
  refine ⟨ea,cls,.ref t,H1,_,rfl,⟨I.os,I.bare,fl,fun b o e n hb => ?_,fun b o e hb => ?_,fun b o e hb => ?_,fun b o e n => I.base.free b o e n (by simp [cxOf]),I.base.tups,I.base.frzs,I.base.tbls,fun b xs o q e => PySem.W.hideAll_get _ (I.base.tupo b xs o q e (by simp [cxOf])) (outT b _ (I.base.tups b xs q)),hokB,?_⟩,hE⟩
  · exact PySem.W.hideAll_get _ (I.base.keep b o e n hb (by simp [cxOf])) (out b (notL b o e) hb)
  · obtain ⟨o',e1⟩:=I.base.there b o e (by simp [cxOf])
    exact ⟨o',PySem.W.hideAll_get _ e1 (out b (notL b o e) hb)⟩
  · obtain ⟨sl,e1⟩:=I.base.slot b o e (I.ok.frf b hb) hb (by simp [cxOf])
    obtain ⟨o',e2,hd⟩:=frs_data I.funs hb
    rw [e1] at e2
    cases e2
    obtain ⟨sl',e3⟩:=up b _ (hx.keeps _ _ e1) hd
    exact ⟨sl',e3⟩
  · cases q : s.heap.get? ea with
    | none => rfl
    | some o =>
      obtain ⟨o',e1⟩:=I.base.there ea o q (by simp [cxOf])
      have:=hx.new
      rw [e1] at this; cases this
theorem passW {E' : XK} (hE : ∀ c a H',E' c a H'→E c a H') : Passes (CXW P w) (cxOf (CXW P w) P w K mg base N qual scope f cd A outer s H E) E' := by
  intro pins σ H1 s1 e s2 I ⟨ea,cls,a0,H2,B,ee,F,hq⟩
  subst ee
  show wpAny (model P w) (A.deeper (envOfC qual scope s.heap.objs.size f cd)) (leaving (envOfC qual scope s.heap.objs.size f cd) (.ref ea)) _ _ _
  have notL : ∀ b o,s.heap.get? b = some o→b≠s.heap.objs.size:=fun b o e => Nat.ne_of_lt (Heap.lt_size e)
  have out : ∀ b,b≠s.heap.objs.size→b ∉ frs outer→b ∉ frs (cxOf (CXW P w) P w K mg base N qual scope f cd A outer s H E).stack:=fun b h1 h2 hm => by
    rcases List.mem_cons.mp (I.stkSub b hm) with z | z
    · exact h1 z
    · exact h2 z
  refine wpAny_leaves_onW I.ok.frames rfl F.fly fun h3 fl up => ?_
  refine ⟨ea,cls,a0,H2,B,rfl,⟨F.os.trans I.os,F.bare,fl,fun b o e n hb => ?_,fun b o e hb => ?_,fun b o e hb => ?_,fun b o e n => ?_,fun b xs q => F.tups b xs (I.base.tups b xs q),fun b o u q => F.frzs b o u (I.base.frzs b o u q),fun b ps q => ?_,fun b xs o q e => F.tupo b xs o (I.base.tups b xs q) (I.base.tupo b xs o q e (by simp [cxOf])),F.hok,?_⟩,hE _ _ _ hq⟩
  · exact F.keep b o (I.base.keep b o e n hb (by simp [cxOf])) (I.base.free b o e n (by simp [cxOf])) (out b (notL b o e) hb)
  · obtain ⟨o',e1⟩:=I.base.there b o e (by simp [cxOf])
    exact F.there b o' e1 (out b (notL b o e) hb)
  · obtain ⟨sl,e1⟩:=I.base.slot b o e (I.ok.frf b hb) hb (by simp [cxOf])
    have hb' : b∈frs (cxOf (CXW P w) P w K mg base N qual scope f cd A outer s H E).stack := by
      show b∈frs (envOfC qual scope s.heap.objs.size f cd :: outer)
      unfold frs
      rw [List.filterMap_cons]
      exact List.mem_cons_of_mem _ hb
    obtain ⟨sl2,e2⟩:=F.slot b _ e1 hb'
    obtain ⟨o',e3,hd⟩:=frs_data I.funs hb
    rw [e1] at e3
    cases e3
    obtain ⟨sl3,e4⟩:=up b _ e2 hd
    exact ⟨sl3,e4⟩
  · obtain ⟨o',e1⟩:=I.base.there b o e (by simp [cxOf])
    exact F.free b o' e1 (I.base.free b o e n (by simp [cxOf]))
  · obtain ⟨m1,e1⟩:=I.base.tbls b ps q
    obtain ⟨m2,e2⟩:=F.tbls b _ e1
    exact ⟨m1 ++ m2,by rw [e2,Array.append_assoc]⟩
  · cases q : s.heap.get? ea with
    | none => rfl
    | some o =>
      obtain ⟨o',e1⟩:=I.base.there ea o q (by simp [cxOf])
      have:=F.new
      rw [e1] at this; cases this
theorem Fun.okW {x : Str} {st : Stmt} {fd : FuncData} {ps : List Str} {k : Nat} {sp : Sp} (F : Fun K x x st f fd) (S : FnScope N ps (defScope st)) (len : ∀ vs H Q E,sp vs H Q E→vs.length = ps.length)
    (hbody : ∀ (cdv : Value) (A : Around) (outer : List Env) (s : Shared) (H : Hp) (vs : List V) (Q : VK) (E : XK),Room k (A.deeper (envOfC x (defScope st) s.heap.objs.size f cdv))→sp vs H Q E →
      ∃ t,PSs (cxOf (CXW P w) P w K mg base N x (defScope st) f cdv A outer s H E) (defBody st) t∧t { nx:=fun _ H' => Q .non H',rt:=Q } (start N vs) H) : FnOk P w K mg base (CXW P w) (k + 1) f fd ps sp := by
  obtain ⟨oc,od,kV,doc,pm,an,cdv,ct,osl,rfl,lk,hcd⟩:=F.ex
  exact fn_of lk hcd S len fun A outer s H vs Q E hr hsp => hbody cdv A outer s H vs Q E hr hsp
end
structure Exc (K : PySem.W.Frag) (mg : Str→Option Value) (x : Str) (C : Addr) : Prop where
  m : mg x = some (.ref C)
  q : PySem.W.excIn K C [.type "ValueError",.type "Exception",.type "BaseException",.type "object"] "ValueError.__new__" = true
theorem exc_obj {K : PySem.W.Frag} {h : Heap} {C : Addr} {bB : List Value} {nid : String} (kin : K.In h) (hq : PySem.W.excIn K C bB nid = true) :
    ∃ tl N nm qn bs hd sn sub ab col dd k0 k1 k2 k3 k5 mN,h.get? C = some (excClassObj nm qn C N bs tl hd sn sub ab col dd k0 k1 k2 k3 k5 nid)∧h.Ns N mN∧mN "__init__" = none∧OwnTail h bB tl := by
  unfold PySem.W.excIn at hq
  split at hq
  · rename_i dd cd sl lk
    split at hq
    · rename_i C1 tl k0 k1 k2 k3 n1 k5 e1 e2
      simp only [Bool.and_eq_true,beq_iff_eq,Bool.not_eq_true'] at hq
      obtain ⟨⟨⟨⟨⟨y1,y2⟩,y3⟩,y4⟩,y5⟩,y6⟩:=hq
      subst y1 y2
      obtain ⟨nm,bs,mro,N,qn,hd,sn,sub,ab,col,del⟩:=cd
      dsimp only at e1 y3 y5 y6
      subst e1 y3
      have e3 : sl = #[k0,k1,k2,k3,some (.builtin n1),k5] := by
        cases sl with
        | mk l => simp only at e2; rw [e2]
      subst e3
      exact ⟨tl,N,nm,qn,bs,hd,sn,sub,ab,col,dd,k0,k1,k2,k3,k5,_,kin _ _ lk,.of_isNs (PySem.W.isNs_of_in kin y5),PySem.W.nsMap_none_of_in kin y5 y6,PySem.W.tail_of_in kin y4⟩
    · cases hq
  · cases hq
section
variable {X : Cx} {x : Str} {C : Addr} {np cpos pos : Pos} {e : Expr} {te : TE} {E : XK}
def Lets (X : Cx) (E : XK) : Prop:=∀ (pins : List (Addr×Obj)) (σ : St) (H : Hp) (s : Shared) (h' : Heap) (ea : Addr) (cls : Value) (args : List Value),Inv X pins σ H s→Heap.MadeExcOf s.heap h' ea cls args→E cls none H→X.xe (.ref ea) { s with heap:=h' }
def tRaise (C : Addr) (E : XK) (te : TE) : TS:=fun _ σ H => te σ H fun _ H1 => E (.ref C) none H1
theorem ps_raise (T : Exc X.K X.mg x C) (hL : Lets X E) (hcalm : X.calm = true) (hg : Gl X x) (he : PE X e te) (hd : (x == ("__debug__" : Str)) = false := by decide)
    (hst : starEach [e] X.env = [(false,eval e X.env)] := by rfl) : PS X (.Raise (some (.Call (.Name x np) [e] [] cpos)) none pos) (tRaise C E te) := by
  intro pins s σ H D I h
  obtain ⟨tl,N,nm,qn,bs,hdct,sn,sub,ab,col,dd,k0,k1,k2,k3,k5,mN,hC,hN,hni,TL⟩:=exc_obj I.ok.mod.kin T.q
  refine wpAny_Raise_call_subT (C:=C) (nm:=nm) (q:=qn) (N:=N) (bs := bs) (bm:=tl) (hdct:=hdct) (sn:=sn) (sub:=sub) (ab:=ab) (col:=col) (dd:=dd) (k0:=k0) (k1:=k1) (k2:=k2) (k3:=k3) (k5:=k5)
    PySem.F.excBase_ValueError (mN:=mN) (TL.hasType (by decide)) (I.ok.hd hcalm) (by rw [hst]; rfl) hni (ld_glob I hg T.m ⟨rfl,?_⟩ hd)
  rw [hst]
  refine Calls.evalArgs_plain (Calls.spliced_cons (thn (he pins s σ H _ I h) fun u s1 ⟨v,H1,I1,r1,q1⟩ => Calls.spliced_nil ?_))
  exact ⟨rfl,by show 1≤sizeLine; decide,I1.bk _ _ hC,hN.keeps I1.bk,TL.keeps I1.bk,fun h' ea hm => hL pins σ H1 s1 h' ea _ _ I1 hm q1⟩
end
def FlyAt (X : Cx) (pins : List (Addr×Obj)) (σ : St) (E : XK) (e : Value) (s' : Shared) : Prop:=∃ H0 s0,Inv X pins σ H0 s0∧CXW X.prog X.w X.stack H0 s0 E e s'
abbrev TX:=St→Hp→VK→XK→Prop
def PEX (X : Cx) (e : Expr) (t : TX) : Prop :=
  ∀ (pins : List (Addr×Obj)) (s : Shared) (σ : St) (H : Hp) (Q : VK) (E : XK),Inv X pins σ H s→t σ H Q E→wpAny (model X.prog X.w) X.A (eval e X.env) (EP X pins σ Q) (FlyAt X pins σ E) s
section
variable {X : Cx} {k : Nat} {f : Addr} {fd : FuncData} {ps : List Str} {sp : Sp} {x : Str} {st : Stmt} {p pos : Pos} {e : Expr} {es : List Expr} {t : TA}
def tCallX (sp : Sp) (t : TA) : TX:=fun σ H Q E => t σ H fun vs H1 => sp (vs ++ []) H1 Q E
theorem run_fnX {pins : List (Addr×Obj)} {σ : St} {H : Hp} {s : Shared} {Q : VK} {E : XK} {us : List Value} {vs : List V} (F : FnOk X.prog X.w X.K X.mg X.base (CXW X.prog X.w) k f fd ps sp) (hr : Room k X.A) (hb : Binds X.K fd ps [])
    (I : Inv X pins σ H s) (r : Vals vs us) (h : sp (vs ++ []) H Q E) : wpAny (model X.prog X.w) X.A (call (.ref f) us) (EP X pins σ Q) (FlyAt X pins σ E) s := by
  rw [List.append_nil] at h
  have hl : (us ++ []).length = ps.length := by rw [List.append_nil,← r.length]; exact F.len _ _ _ _ h
  have hb':=hb s us I.kIn hl
  rw [List.append_nil] at hb'
  refine wpAny_call (codeAny_mono (F.run X.A X.stack s H ⟨us,[]⟩ us vs Q E hr I.env0 hb' r h) fun r s' hq => ?_)
  cases r with
  | error e => exact ⟨H,s,I,hq⟩
  | ok fl =>
    cases fl with
    | ret u => exact I.after hq
    | next => exact False.elim hq
    | brk => exact False.elim hq
    | cont => exact False.elim hq
theorem pex_fn (T : Fn X.K X.mg x st ps f fd) (G : FnOk X.prog X.w X.K X.mg X.base (CXW X.prog X.w) k f fd ps sp) (hr : Room k X.A) (hg : Gl X x) (ha : PA X.nox (e :: es) t)
    (hdb : (x == ("__debug__" : Str)) = false := by decide) (he : starEach (e :: es) X.env = (false,eval e X.env) :: starEach es X.env := by rfl) (hpl : (backTo pos (starEach es X.env)).any (·.1) = false := by rfl) :
    PEX X (.Call (.Name x p) (e :: es) [] pos) (tCallX sp t) := by
  intro pins s σ H Q E I h
  refine wpAny_Call_Name_kw (ld_glob I hg T.m ?_ hdb)
  refine PySem.W.callWith_K (h₀:=X.base) I.ok.mod.kin T.F.kp (wpAny_mono (ha pos pins s σ H _ (I.wish _) h) (fun us s1 ⟨vs,H1,I1,r,q⟩ => ⟨I1.kIn,?_⟩) fun _ _ z => z.elim) he hpl
  exact run_fnX G hr T.b I1.unwish r q
end
theorem land {X : Cx} {pins : List (Addr×Obj)} {σ : St} {H0 H' : Hp} {s0 s' : Shared} {ea : Addr} {cls a0 : Value} {B : Heap} (I : Inv X pins σ H0 s0) (F : FlyB X.prog X.w X.stack H0 s0 ea cls a0 H' s' B)
    {h' : Heap} {tk : Nat} (st : B.StaysIn h') (up : s'.heap.UpToSlots h') : Inv X pins σ H' { s' with heap:=h',toks:=tk } := by
  have fdat : ∀ b o,s0.heap.get? b = some o→b∈frs X.stack→∃ sl,h'.get? b = some { o with slots:=sl }:=fun b o e hb => by
    obtain ⟨sl,e1⟩:=F.slot b o e hb
    obtain ⟨o',e2,hd⟩:=frs_data I.stack hb
    rw [e] at e2; cases e2
    obtain ⟨sl',e3⟩:=up b _ e1 hd
    exact ⟨sl',e3⟩
  refine I.call' (s':={ s' with heap:=h',toks:=tk }) (ch:=[]) F.os ⟨fun b o e n hb _ => st b o (F.keep b o e n hb),fun b o e n hb _ => fdat b o e hb,fun b o e n _ => F.free b o e n,fun b o e _ => ?_,F.tups,F.frzs,F.tbls,fun b xs o q e _ => st b o (F.tupo b xs o q e)⟩ (F.hok.kept st) F.bare fun b z => absurd z (by simp)
  by_cases hb : b∈frs X.stack
  · obtain ⟨sl,e1⟩:=fdat b o e hb
    exact ⟨_,e1⟩
  · obtain ⟨o',e1⟩:=F.there b o e hb
    exact ⟨o',st _ _ e1⟩
def excO (ea : Addr) (cls : Value) : HO:=.ext fun h => ∃ o vs,h.get? ea = some o∧o.cls = cls∧o.data = .fields vs
theorem track {X : Cx} {pins : List (Addr×Obj)} {σ : St} {H0 H' : Hp} {s0 s' s6 : Shared} {ea : Addr} {cls a0 : Value} {B : Heap} (I : Inv X pins σ H0 s0) (F : FlyB X.prog X.w X.stack H0 s0 ea cls a0 H' s' B)
    (I6 : Inv X pins σ H' s6) (ho : ∃ o vs,s6.heap.get? ea = some o∧o.cls = cls∧o.data = .fields vs) : H' ea = none∧Inv X pins σ (upd H' ea (excO ea cls)) s6 := by
  have hn : H' ea = none := by
    cases q : H' ea with
    | none => rfl
    | some u =>
      obtain ⟨o,e⟩:=(F.hok ea u q).get
      rw [F.fly.2.1] at e; cases e
  have ne : ∀ b o,s0.heap.get? b = some o→b≠ea:=fun b o e z => by rw [z,F.new] at e; cases e
  have up : ∀ b,b≠ea→upd H' ea (excO ea cls) b = H' b:=fun b z => upd_ne z
  have neT : ∀ b u,H' b = some u→b≠ea:=fun b u e z => by rw [z,hn] at e; cases e
  refine ⟨hn,I6.ok,I6.os,I6.bare,⟨I6.base.keep,I6.base.slot,fun b o e n hx => ?_,I6.base.there,fun b xs e => ?_,fun b o u e => ?_,fun b ps e => ?_,I6.base.tupo⟩,I6.loc,I6.cell,?_,fun y c e => ?_,fun p hp => ?_,fun b u e => ?_,I6.len⟩
  · obtain ⟨o',e1⟩:=I.base.there b o e hx
    rw [up b (ne b o' e1)]; exact I6.base.free b o e n hx
  · have:=I6.base.tups b xs e
    rw [up b (neT _ _ this)]; exact this
  · have:=I6.base.frzs b o u e
    rw [up b (neT _ _ this)]; exact this
  · obtain ⟨m,e1⟩:=I6.base.tbls b ps e
    exact ⟨m,by rw [up b (neT _ _ e1)]; exact e1⟩
  · obtain ⟨m,⟨o,_,_,e,_⟩,_⟩:=I.loc
    rw [up _ (ne _ o e)]; exact I6.free
  · obtain ⟨v,o,e1,_⟩:=I.cell y c e
    rw [up _ (ne _ o e1)]; exact I6.freeC y c e
  · obtain ⟨e1,e2,e3⟩:=I6.pin p hp
    have e0:=(I.pin p hp).1
    exact ⟨e1,by rw [up _ (ne _ _ e0)]; exact e2,e3⟩
  · by_cases hb : b = ea
    · subst hb
      rw [upd_same] at e
      cases e
      obtain ⟨o,vs,e1,e2,e3⟩:=ho
      exact ⟨⟨o,vs,e1,e2,e3⟩,⟨o,e1⟩,fun h1 h2 ⟨o1,vs1,q1,q2⟩ k => ⟨o1,vs1,k _ q1,q2⟩⟩
    · rw [up b hb] at e
      exact (I6.hok b u e).stay (fun c v _ q => q) (fun c q => by rw [up c (neT _ _ q)]; exact q) fun c xs q => by rw [up c (neT _ _ q)]; exact q
structure Beneath (K : PySem.W.Frag) (C G : Addr) (b : Bool) : Prop where
  cl : (PySem.W.clsIn K G).isSome = true
  ty : PySem.W.typeIn K (.ref G) = some (.type "type")
  ex : PySem.W.subIn K (.ref G) (.type "BaseException") = some true
  sub : PySem.W.subIn K (.ref C) (.ref G) = some b
theorem excMatch {M : Model} {A : Around} {E : Value→Shared→Prop} {s : Shared} {K : PySem.W.Frag} {e C G : Addr} {oe : Obj} {b : Bool} {Q : Bool→Shared→Prop} (X : K.In s.heap) (he : s.heap.get? e = some oe) (hc : oe.cls = .ref C) (B : Beneath K C G b)
    (h : Q b s) : wpAny M A (excMatches (.ref e) (.ref G)) Q E s := by
  have l1 : PySem.W.Looks M s.heap (isInstance (.ref G) (.type "tuple")) false:=(PySem.W.looks_typeIn X B.ty).andThen (PySem.W.Looks.of_pure tc_notTuple)
  have l2 : PySem.W.Looks M s.heap (isType (.ref G)) true := by
    have z:=B.cl
    unfold PySem.W.clsIn at z
    split at z
    · rename_i c' d' cd' sl' ho
      intro A' Q' E' s' k q
      unfold isType loadHead
      exact wpAny_bind (wpAny_loadPart (k _ _ (X _ _ ho)) (wpAny_pure q))
    · cases z
  have l3 : PySem.W.Looks M s.heap (isSubtype (.ref G) (.type "BaseException")) true:=PySem.W.looks_subIn X B.ex
  have l4 : PySem.W.Looks M s.heap (typeOf (.ref e)) (.ref C):=hc ▸ (PySem.W.Looks.ld he).andThen .now
  have l5 : PySem.W.Looks M s.heap (isSubtype (.ref C) (.ref G)) b:=PySem.W.looks_subIn X B.sub
  obtain ⟨hp,g,d,tk,os⟩:=s
  unfold excMatches isExcClass
  refine wpAny_bind (l1.at ?_)
  simp only [Bool.false_eq_true,if_false]
  refine wpAny_bind (wpAny_pure ?_)
  simp only [List.forIn_cons,List.forIn_nil]
  refine wpAny_bind (wpAny_bind (wpAny_bind (wpAny_bind (l2.at ?_))))
  simp only [if_true]
  refine l3.at ?_
  simp only [Bool.not_true,Bool.false_eq_true,if_false]
  refine wpAny_pure (wpAny_pure (wpAny_bind (l4.at (wpAny_bind (wpAny_bind (wpAny_bind (l5.at ?_)))))))
  cases b with
  | true =>
    simp only [if_true]
    exact wpAny_pure (wpAny_pure (wpAny_pure h))
  | false =>
    simp only [Bool.false_eq_true,if_false]
    exact wpAny_pure (wpAny_pure (wpAny_pure h))
def Cx.held (X : Cx) (ea : Addr) : Cx:={ X with A:=X.A.mark (some (.ref ea)),calm:=false,xe:=fun _ _ => False }
theorem Inv.held {X : Cx} {pins : List (Addr×Obj)} {σ : St} {H : Hp} {s : Shared} (I : Inv X pins σ H s) (ea : Addr) : Inv (X.held ea) pins σ H s :=
  ⟨⟨I.ok.mod,I.ok.kind,I.ok.glob,I.ok.blt,I.ok.above,I.ok.inj,I.ok.has,I.ok.cab,fun z => (by cases z),I.ok.frames,I.ok.stk,I.ok.exf,I.ok.bs,I.ok.bsz,I.ok.noex,I.ok.exfs,I.ok.funs,I.ok.frf,I.ok.kt⟩,I.os,I.bare,I.base,I.loc,I.cell,I.free,I.freeC,I.pin,I.hok,I.len⟩
theorem Inv.unheld {X : Cx} {pins : List (Addr×Obj)} {σ : St} {H : Hp} {s : Shared} {ea : Addr} (ok : X.Ok) (I : Inv (X.held ea) pins σ H s) : Inv X pins σ H s :=
  ⟨ok,I.os,I.bare,I.base,I.loc,I.cell,I.free,I.freeC,I.pin,I.hok,I.len⟩
theorem goes {X : Cx} {pins : List (Addr×Obj)} {σ : St} {H : Hp} {s : Shared} {M : Model} {A : Around} {E : Value→Shared→Prop} {i : Nat} {n : Str} {pos : Pos} {Q : Unit→Shared→Prop} (I : Inv X pins σ H s) (hN : X.N.Nodup) (hi : X.N[i]? = some n)
    (hl : X.env.scope.names.lookup n = some .local) (h : ∀ s',Inv X pins (σ.set i none) H s'→Q () s') : wpAny M A (do bindName X.env n .none; unbindBehindTheSuite X.env n pos) Q E s := by
  obtain ⟨m,hn,hlk⟩:=id I.loc
  have hcls : (X.env.scope.kind == .class || (X.env.scope.kind == .module && X.env.locals != X.env.globals)) = false := by rw [I.ok.kind]; rfl
  refine wpAny_nameGoes_keeps hl hn hcls fun h' v hn' hs => h _ ?_
  have hiS : i < σ.length := by rw [I.len]; exact (List.getElem?_eq_some_iff.mp hi).1
  obtain ⟨oL,_,_,hoL,_⟩:=id hn
  have tr : HOk X.prog X.w H h':=fun b ob e => (I.hok b ob e).stay (fun c w' hc q => (hs.2 c (by
    rintro rfl
    rcases hc with hc | hc
    · rw [← hc,I.free] at e; cases e
    · rw [I.free] at hc; cases hc)).trans q) (fun _ q => q) fun _ _ q => q
  refine ⟨I.ok,I.os,I.bare,⟨fun b o e n hb hx => ?_,fun b o e n hb hx => ?_,I.base.free,fun b o e hx => ?_,I.base.tups,I.base.frzs,I.base.tbls,fun b xs o q e hx => (hs.2 b (Nat.ne_of_lt (Nat.lt_of_lt_of_le (Heap.lt_size e) I.ok.above))).trans (I.base.tupo b xs o q e hx)⟩,⟨_,hn',fun j y v' e1 e2 e3 => ?_⟩,fun y c e => ?_,I.free,I.freeC,fun p hp => ?_,tr,by simpa using I.len⟩
  · exact (hs.2 b (Nat.ne_of_lt (Nat.lt_of_lt_of_le (Heap.lt_size e) I.ok.above))).trans (I.base.keep b o e n hb hx)
  · obtain ⟨sl,e1⟩:=I.base.slot b o e n hb hx
    exact ⟨sl,(hs.2 b (Nat.ne_of_lt (Nat.lt_of_lt_of_le (Heap.lt_size e) I.ok.above))).trans e1⟩
  · obtain ⟨o',e1⟩:=I.base.there b o e hx
    exact ⟨o',(hs.2 b (Nat.ne_of_lt (Nat.lt_of_lt_of_le (Heap.lt_size e) I.ok.above))).trans e1⟩
  · by_cases hj : j = i
    · subst hj
      rw [List.getElem?_set_self hiS] at e2
      cases e2
    · rw [List.getElem?_set_ne (Ne.symm hj)] at e2
      obtain ⟨u',r',q⟩:=hlk j y v' e1 e2 e3
      refine ⟨u',r',?_⟩
      rcases q with ⟨k,e⟩ | ⟨k,c,e,z⟩
      · refine .inl ⟨k,?_⟩
        have : y≠n:=fun e => hj (nodup_ix hN e1 (e ▸ hi))
        simp [this,e]
      · exact .inr ⟨k,c,e,z.sameBut hs (I.cne y c e)⟩
  · obtain ⟨w',z⟩:=I.cell y c e
    exact ⟨w',z.sameBut hs (I.cne y c e)⟩
  · obtain ⟨e,n',ne,nf,d⟩:=I.pin p hp
    exact ⟨(hs.2 p.1 ne).trans e,n',ne,nf,d⟩
section
variable {X : Cx} {e : Expr} {t : TX} {x y z n : Str} {G : Addr} {py pz pn np spos tpos hpos pos : Pos} {i j k : Nat}
def tTryAs (K : PySem.W.Frag) (G : Addr) (t : TX) (i j k : Nat) : TS:=fun D σ H => t σ H (fun v H1 => D.nx (σ.set i (some v)) H1) fun cls _ H' => ∃ C,cls = .ref C∧Beneath K C G true ∧
  ∀ ea,H' ea = none→D.nx (((σ.set k (some (.ref ea))).set j (some (.ref ea))).set k none) (upd H' ea (excO ea cls))
theorem caught {pins : List (Addr×Obj)} {σ : St} {D : Ends} {ev : Value} {s1 : Shared} (hN : X.N.Nodup) (hcalm : X.calm = true) (hj : X.N[j]? = some z) (hk : X.N[k]? = some n) (hlz : X.env.scope.names.lookup z = some .local) (hln : X.env.scope.names.lookup n = some .local)
    (hg : Gl X x) (hm : X.mg x = some (.ref G)) (hkj : k≠j) (hstk : ∃ rest,X.stack = X.env :: rest) (hfr : X.env.frame = some X.env.locals)
    (hf : FlyAt X pins σ (fun cls _ H' => ∃ C,cls = .ref C∧Beneath X.K C G true∧∀ ea,H' ea = none→D.nx (((σ.set k (some (.ref ea))).set j (some (.ref ea))).set k none) (upd H' ea (excO ea cls))) ev s1)
    (hd : (x == ("__debug__" : Str)) = false) (hsw : swapsWith (.Name n pn) (some (.Name z pz)) tpos.line X.env = pure false) (hdn : (n == ("__debug__" : Str)) = false) (hcn : (n == ("__classdict__" : Str)) = false) :
    wpAny (model X.prog X.w) X.A (noteFrame ev X.env) (fun _ s₂ => wpAny (model X.prog X.w) X.A (setFlight ev none) (fun _ s₃ => wpAny (model X.prog X.w) X.A (handleBy ev X.env [.ExceptHandler (some (.Name x np)) (some n) [.Assign [.Name z pz] (.Name n pn) tpos] hpos]) (SP X pins D) X.xe s₃) X.xe s₂) X.xe s1 := by
  obtain ⟨H0,s0,I,ea,cls,a0,H',B,ee,F,C,hc,hB,q⟩:=hf
  subst ee hc
  obtain ⟨rest,hrest⟩:=hstk
  have F1:=F.fly
  rw [hrest] at F1
  have hfrm : X.A.frames = some (X.env :: rest) := by rw [← hrest]; exact I.ok.frames
  refine wpAny_looks_onW hfrm hfr F1 fun h4 held4 up4 => ?_
  refine wpAny_landsW held4 fun h5 fl5 up5 => ?_
  have up05:=up4.trans up5
  have I5 : Inv X pins σ H' { s1 with heap:=h5,toks:=s1.toks }:=land I F fl5.1 up05
  obtain ⟨ob,hob,hobc⟩:=fl5.there
  have hcls : (X.env.scope.kind == .class || (X.env.scope.kind == .module && X.env.locals != X.env.globals)) = false := by rw [I.ok.kind]; rfl
  refine wpAny_handleBy_cons (codeAny_handlers_test (ld_glob (I5.held ea) hg hm ?_ hd)) (by intro q; cases q)
  refine excMatch (K:=X.K) I5.kIn hob hobc hB (codeAny_handlers_suite_as ?_)
  refine lands_againW fl5 fun h6 fl6 up6 => ?_
  have I6 : Inv X pins σ H' { s1 with heap:=h6,toks:=s1.toks }:=land I F fl6.1 (up05.trans up6)
  obtain ⟨oe,ws,e1,e2,e3,_⟩:=fl6.first
  obtain ⟨hfree,I7⟩:=track I F I6 ⟨oe,ws,e1,e2,e3⟩
  refine store_ok (X:=X.held ea) (I7.held ea) hN hk (.inl hln) (v:=.ref ea) rfl (fun s8 I8 => ?_) (.inr hln)
  have hbody : PSs (X.held ea) [.Assign [.Name z pz] (.Name n pn) tpos] (tAsg (tVar k) (gName j)):=pss_one (ps_set (X:=X.held ea) hN hj (.inl hlz) (pe_var hk (.inl hln) hdn hcn) hsw (.inr hlz))
  have hkl : k < (σ.set k (some (V.ref ea))).length := by
    rw [List.length_set]
    have:=(List.getElem?_eq_some_iff.mp hk).1
    rw [I.len]; exact this
  refine wpAny_mono (hbody pins s8 _ _ { nx:=fun σ' H2 => σ' = (σ.set k (some (.ref ea))).set j (some (.ref ea))∧H2 = upd H' ea (excO ea (.ref C)),rt:=fun _ _ => False } I8 ⟨.ref ea,?_,rfl,rfl⟩) (fun fl s9 h9 => ?_) fun _ _ z => z.elim
  · rw [List.getElem?_set_self (by rw [List.length_set] at hkl; exact hkl)]
  · cases fl with
    | next =>
      obtain ⟨σ9,H9,I9,e9,eH⟩:=h9
      subst e9 eH
      exact goes (I9.unheld I.ok) hN hk hln fun s' I' => ⟨_,_,I',q ea hfree⟩
    | brk => obtain ⟨_,_,_,z⟩:=h9; exact z.elim
    | cont => obtain ⟨_,_,_,z⟩:=h9; exact z.elim
    | ret v => obtain ⟨_,_,_,_,_,z⟩:=h9; exact z.elim
theorem ps_tryAs (he : PEX X e t) (hN : X.N.Nodup) (hcalm : X.calm = true) (hi : X.N[i]? = some y) (hj : X.N[j]? = some z) (hk : X.N[k]? = some n) (hly : X.env.scope.names.lookup y = some .local) (hlz : X.env.scope.names.lookup z = some .local) (hln : X.env.scope.names.lookup n = some .local)
    (hg : Gl X x) (hm : X.mg x = some (.ref G)) (hkj : k≠j) (hstk : ∃ rest,X.stack = X.env :: rest) (hfr : X.env.frame = some X.env.locals)
    (hd : (x == ("__debug__" : Str)) = false := by decide) (hsw : swapsWith (.Name n pn) (some (.Name z pz)) tpos.line X.env = pure false := by rfl) (hdn : (n == ("__debug__" : Str)) = false := by decide) (hcn : (n == ("__classdict__" : Str)) = false := by decide)
    (hsy : swapsWith e (some (.Name y py)) spos.line X.env = pure false := by rfl) :
    PS X (.Try [.Assign [.Name y py] e spos] [.ExceptHandler (some (.Name x np)) (some n) [.Assign [.Name z pz] (.Name n pn) tpos] hpos] [] [] pos) (tTryAs X.K G t i j k) := by
  intro pins s σ H D I h
  refine wpAny_Try_except (wpAny_execs_cons (wpAny_Assign_Name (wpAny_mono (he pins s σ H _ _ I h) (fun v s1 ⟨w,H1,I1,r1,q1⟩ => ?_) fun ev s1 hf => ?_) hsy))
  · exact store_ok I1 hN hi (.inl hly) r1 (fun s2 I2 => wpAny_execs_nil (wpAny_execs_nil ⟨_,H1,I2,q1⟩)) (.inr hly)
  · exact caught hN hcalm hj hk hlz hln hg hm hkj hstk hfr hf hd hsw hdn hcn
end
open PySem PySem.Spec PyProof.Rows PySem.Builtin.ObjectAttr PySem.Builtin.Getset_descriptor
structure ExcK (K : PySem.W.Frag) (C : Addr) : Prop where
  cl : (PySem.W.clsIn K C).isSome = true
  ga : PySem.W.findIn K (.ref C) "__getattribute__" = some (some (.builtin "BaseException.__getattribute__"))
  gh : PySem.W.findIn K (.ref C) "__getattr__" = some none
  at_ : PySem.W.findIn K (.ref C) "__class__" = some (some (.builtin "object.__class__"))
  gt : PySem.W.specialIn K (.builtin "object.__class__") "__get__" = some (some (.builtin "getset_descriptor.__get__"))
  tk : PySem.W.takesIn K (.builtin "object.__class__") = some true
  ob : PySem.W.mroIn K C (.type "object") = some true
  be : PySem.W.mroIn K C (.type "BaseException") = some true
def excAt (x C : Addr) (h : Heap) : Prop:=∃ o vs,h.get? x = some o∧o.cls = .ref C∧o.data = .fields vs
theorem excAt.ty {x C : Addr} {h : Heap} (p : excAt x C h) (M : Model) : PySem.W.Looks M h (typeOf (.ref x)) (.ref C) := by
  obtain ⟨o,_,e,c,_⟩:=p
  exact c ▸ (PySem.W.Looks.ld e).andThen .now
theorem clsLooks {K : PySem.W.Frag} {C : Addr} {h : Heap} (X : K.In h) (z : (PySem.W.clsIn K C).isSome = true) (M : Model) : PySem.W.Looks M h (isType (.ref C)) true := by
  unfold PySem.W.clsIn at z
  split at z
  · rename_i c' d' cd' sl' ho
    intro A' Q' E' s' k q
    exact wpAny_bind (wpAny_loadPart (k _ _ (X _ _ ho)) (wpAny_pure q))
  · cases z
section
variable {prog : Program} {w : World} {A : Around} {E : Value→Shared→Prop} {K : PySem.W.Frag} {x C : Addr} {h : Heap} {g : Array GenState} {d : Drawn} {t : Nat} {os : OsState}
theorem exc_find (X : K.In h) (F : ExcK K C) (M : Model) : PySem.W.Looks M h (find (.ref x) (.ref C) "__class__") (.bind (.builtin "getset_descriptor.__get__") (.builtin "object.__class__")) := by
  have a1:=PySem.W.looks_findIn (M:=M) X F.at_
  have a2 : PySem.W.Looks M h (getOf (some (.builtin "object.__class__"))) (some (.builtin "getset_descriptor.__get__")):=PySem.W.looks_specialIn X F.gt
  have a3:=PySem.W.looks_takesIn (M:=M) X F.tk
  exact a1.andThen (a2.andThen ((show PySem.W.Looks M h (dataDescriptor? (some (.builtin "object.__class__")) (some (.builtin "getset_descriptor.__get__"))) (some (.builtin "getset_descriptor.__get__",.builtin "object.__class__")) from a3.andThen .now).andThen (PySem.W.Looks.tag .now)))
theorem exc_get {tp : Value} {R : Result→Shared→Prop} (X : K.In h) (F : ExcK K C) (p : excAt x C h) (hR : R (.ok (.ret (.ref C))) ⟨h,g,d,t,os⟩) :
    codeAny (model prog w) A (.call (.builtin "getset_descriptor.__get__") ⟨[.builtin "object.__class__",.ref x,tp],[]⟩) R ⟨h,g,d,t,os⟩ := by
  have b0:=p.ty (model prog w)
  have b1:=PySem.W.looks_mroIn (M:=model prog w) X F.ob
  refine codeAny_call_builtin PySem.W.KF.slot_gs.plain PySem.W.KF.entry_gs ?_
  refine PySem.W.KF.slot_gs.check _ _ _ _ _ _ _ _ PySem.W.KF.type_class (PySem.W.KF.args_gs _ _ _) ?_
  unfold Builtin.«getset_descriptor.__get__» descrGet
  rw [PySem.W.dga_obj]; refine wpAny_bind (wpAny_pure ?_)
  unfold descrGetter descrCheckInstance descrNameAndClass isInstance
  simp only [PySem.W.KF.owner_class]
  repeat lk
  refine ⟨Code.quiet_builtin _ (by decide +kernel),codeAny_builtin PySem.W.KF.entry_class ?_⟩
  unfold Builtin.«object.__class__» shownTypeOf
  repeat lk
  exact hR
theorem exc_entry {tk : Tok} {Q : Fin→Shared→Prop} (X : K.In h) (F : ExcK K C) (p : excAt x C h) (hQ : Q (.done (.ret (.ref C))) ⟨h,g,d,t,os⟩) :
    wpAny (model prog w) A (Builtin.«object.__getattribute__» ⟨[.ref x,.str "__class__" tk],[]⟩) Q E ⟨h,g,d,t,os⟩ := by
  have b0:=p.ty (model prog w)
  have b1:=exc_find (x:=x) X F (model prog w)
  unfold Builtin.«object.__getattribute__»
  repeat lk
  refine wpAny_run (exc_get X F p ?_)
  exact wpAny_pure (wpAny_pure hQ)
theorem exc_check {nameV : Value} {Q : Unit→Shared→Prop} (X : K.In h) (F : ExcK K C) (p : excAt x C h) (hQ : Q () ⟨h,g,d,t,os⟩) :
    wpAny (model prog w) A (checkBuiltinCall "BaseException.__getattribute__" ⟨[.ref x,nameV],[]⟩) Q E ⟨h,g,d,t,os⟩ := by
  have c1 : builtinKind "BaseException.__getattribute__" = some .slot := by decide +kernel
  have c2 : splitId "BaseException.__getattribute__" = some ("BaseException", "__getattribute__") := by decide +kernel
  have c3:=PySem.F.args_bexc_ga (.ref x) nameV
  have b0:=p.ty (model prog w)
  have b1:=PySem.W.looks_mroIn (M:=model prog w) X F.be
  simp only [checkBuiltinCall,c1,c2]
  refine wpAny_bind ?_
  unfold isInstance
  repeat lk
  exact hQ
theorem exc_class {Q : Option Value→Shared→Prop} (X : K.In h) (F : ExcK K C) (p : excAt x C h) (hQ : Q (some (.ref C)) ⟨h,g,d,t + 1,os⟩) :
    wpAny (model prog w) A (getAttr? (.ref x) "__class__") Q E ⟨h,g,d,t,os⟩ := by
  have b0:=p.ty (model prog w)
  have b1:=PySem.W.looks_findIn (M:=model prog w) X F.ga
  have b2:=PySem.W.looks_findIn (M:=model prog w) X F.gh
  unfold getAttr? getAttrBy? getAttrBy
  refine wpAny_bind (wpAny_mkText (wpAny_bind (wpAny_attempt (wpAny_holding (wpAny_bind (b0.at (wpAny_bind (b1.at ?_))))))))
  have c2 : (Value.builtin "BaseException.__getattribute__" == Value.builtin "object.__getattribute__") = false := by decide +kernel
  have c1 : ¬ ((onTheHeap (Value.ref C) && Value.builtin "BaseException.__getattribute__" == Value.builtin "object.__getattribute__") = true) := by rw [c2,Bool.and_false]; exact Bool.false_ne_true
  show wpAny _ _ (if (onTheHeap (Value.ref C) && Value.builtin "BaseException.__getattribute__" == Value.builtin "object.__getattribute__") = true then _ else _) _ _ _
  rw [if_neg c1]
  unfold getAttrByItsOwn
  refine wpAny_bind (show wpAny _ _ (typeLookup (Value.ref C) "__getattr__") _ _ _ from b2.at ?_)
  refine wpAny_bind (wpAny_attempt (wpAny_holding ?_))
  show wpAny _ _ (boundAndCalled _ _ _) _ _ _
  unfold boundAndCalled
  have f3:=(PySem.F.excAttr_ValueError).ga.bind (.ref x)
  refine wpAny_bind (wpAny_of_eq f3 ?_)
  refine wpAny_call (codeAny_call_builtin (PySem.F.excAttr_ValueError).ga.plain PySem.F.entry_bexc_ga (exc_check X F p (exc_entry X F p ?_)))
  exact wpAny_pure (wpAny_pure hQ)
end
theorem kitx_exc {K : PySem.W.Frag} {x C : Addr} (F : ExcK K C) : PySem.W.KitX K (.ref x) (.ref C) (excAt x C) where
  ty:=fun M h _ p => p.ty M
  it:=fun M h X _ => clsLooks X F.cl M
  ne:=fun h tp dd its n sl X htp => by
    have z:=F.cl
    refine Bool.eq_false_iff.mpr fun q => ?_
    have e : C = tp:=Value.ref.inj (beq_iff_eq.mp q)
    subst e
    unfold PySem.W.clsIn at z
    split at z
    · rename_i c' d' cd' sl' ho
      have y:=(X _ _ ho).symm.trans htp
      cases y
    · cases z
  ca:=fun {prog w A E Q s} X p k => by
    obtain ⟨h,g,d,t,os⟩:=s
    exact exc_class X F p k
def clsV : V→Value
  | .ref C => .ref C
  | .ty n => .type n
  | _ => .none
theorem clsV_of {c : V} {u : Value} (r : RelV c u) (h : clsV c≠.none) : u = clsV c := by
  cases c with
  | ref C => exact r
  | ty n => exact r
  | _ => exact absurd rfl h
section
variable {X : Cx}
def rIsi (K : PySem.W.Frag) : List V→Hp→VK→Prop:=fun xs H Q => ∃ x c t b,xs = [x,c]∧clsV c≠.none∧TyOf K H x t∧PySem.W.kitOne K t (clsV c) = some b∧Q (.bl b) H
theorem call_isi : CallR X (.builtin "isinstance") (rIsi X.K) := by
  intro pins s σ H xs us Q I r h
  obtain ⟨x,c,t,b,rfl,hc,ty,e,q⟩:=h
  obtain ⟨u,v,rfl,r1,r2⟩:=r.two
  rw [clsV_of r2 hc]
  exact isinst_ok I r1 ty e fun tk => ⟨.bl b,H,I.tok tk,rfl,q⟩
def rIsiE (K : PySem.W.Frag) : List V→Hp→VK→Prop:=fun xs H Q => ∃ ea C c b,xs = [.ref ea,c]∧clsV c≠.none∧H ea = some (excO ea (.ref C))∧ExcK K C∧PySem.W.kitOne K (.ref C) (clsV c) = some b∧Q (.bl b) H
theorem call_isiE : CallR X (.builtin "isinstance") (rIsiE X.K) := by
  intro pins s σ H xs us Q I r h
  obtain ⟨ea,C,c,b,rfl,hc,he,F,e,q⟩:=h
  obtain ⟨u,v,rfl,r1,r2⟩:=r.two
  rw [clsV_of r2 hc]
  cases (show u = Value.ref ea from r1)
  obtain ⟨p,_,_⟩:=(show ObjOk X.prog X.w H s.heap ea (excO ea (.ref C)) from I.hok ea _ he)
  exact PySem.W.kia_one (kitx_exc F) I.kIn p e (fun z => nomatch z) fun tk => ⟨.bl b,H,I.tok tk,rfl,q⟩
end
theorem kit_tt (K : PySem.W.Frag) : PySem.W.kitOne K (.type "tuple") (.type "tuple") = some true:=rfl
theorem kit_lt (K : PySem.W.Frag) : PySem.W.kitOne K (.type "list") (.type "tuple") = some false := by kernel_rfl
theorem kit_it (K : PySem.W.Frag) : PySem.W.kitOne K (.type "int") (.type "tuple") = some false := by kernel_rfl
theorem kit_bt (K : PySem.W.Frag) : PySem.W.kitOne K (.type "bool") (.type "tuple") = some false := by kernel_rfl
theorem kit_nt (K : PySem.W.Frag) : PySem.W.kitOne K (.type "NoneType") (.type "tuple") = some false := by kernel_rfl
theorem kit_st (K : PySem.W.Frag) : PySem.W.kitOne K (.type "str") (.type "tuple") = some false := by kernel_rfl
def freeOk (xsc : Scope) (names : List (Str×NameKind)) : Bool:=names.all fun y => y.2 != .free || xsc.names.lookup y.1 == some .cell || xsc.names.lookup y.1 == some .free
theorem freeOk_of {xsc : Scope} {names : List (Str×NameKind)} (h : freeOk xsc names = true) : ∀ y∈names,y.2 = .free→xsc.names.lookup y.1 = some .cell∨xsc.names.lookup y.1 = some .free:=fun y hy hf => by
  have q:=List.all_eq_true.mp h y hy
  rw [hf] at q
  simp only [bne_self_eq_false,Bool.false_or,Bool.or_eq_true,beq_iff_eq] at q
  exact q
def compScopeOk (scope : Scope) (N : List Str) (x : Str) (ix : Nat) : Bool :=
  scope.kind == .function && (scope.names.all fun y => y.2 != .cell && (y.2 != .local || scope.names.lookup y.1 == some .local) && (y.2 != .free || scope.names.lookup y.1 == some .free)) && scope.names.lookup x == some .local && decide N.Nodup && N[ix]? == some x
theorem compScope_of {scope : Scope} {N : List Str} {x : Str} {ix : Nat} (h : compScopeOk scope N x ix = true) : CompScope scope N x ix := by
  unfold compScopeOk at h
  simp only [Bool.and_eq_true,beq_iff_eq,decide_eq_true_eq,List.all_eq_true,bne_iff_ne,Bool.or_eq_true] at h
  obtain ⟨⟨⟨⟨h1,h2⟩,h3⟩,h4⟩,h5⟩:=h
  exact ⟨h1,fun y hy => (h2 y hy).1.1,fun y hy hl => (h2 y hy).1.2.resolve_left fun z => z hl,fun y hy hl => (h2 y hy).2.resolve_left fun z => z hl,h3,h4,h5⟩
section
variable {X : Cx} {elt iter : Expr} {x : Str} {px pos : Pos} {ifs : List Expr} {scope : Scope} {wi : TI} {tif : TT} {te : TE}
theorem pe_compr (N : List Str) (ix : Nat) (fr : List (Option Nat)) (hi : PI X (.Name x px) iter wi) (hif : ∀ cl C s₀ H₀ fp,PIf (cxComp X scope cl N C s₀ H₀ fp) ifs tif) (he : ∀ cl C s₀ H₀ fp,PE (cxComp X scope cl N C s₀ H₀ fp) elt te)
    (h1 : compScopeOk scope N x ix = true := by decide +kernel) (h2 : X.calm = true := by rfl) (h3 : frOk N X.N scope X.env.scope fr 0 = true := by rfl) (h4 : fr.length = N.length := by rfl) (h5 : freeOk X.env.scope scope.names = true := by rfl)
    (hs : ∀ x,foldedSetIterable iter X.env x = pure x := by intro _; rfl) : PE X (.ListComp elt [⟨.Name x px,iter,ifs,0⟩] scope pos) (tComp wi fr ix tif te) :=
  pe_comp (compScope_of h1) h2 h3 h4 (freeOk_of h5) hi hif he hs
theorem ps_setCompr {i : Nat} {y : Str} {py spos : Pos} (N : List Str) (ix : Nat) (fr : List (Option Nat)) (hN : X.N.Nodup) (hy : X.N[i]? = some y) (hly : X.env.scope.names.lookup y = some .local)
    (hi : PI X (.Name x px) iter wi) (hif : ∀ cl C s₀ H₀ fp,PIf (cxComp X scope cl N C s₀ H₀ fp) ifs tif) (he : ∀ cl C s₀ H₀ fp,PE (cxComp X scope cl N C s₀ H₀ fp) elt te)
    (h1 : compScopeOk scope N x ix = true := by decide +kernel) (h2 : X.calm = true := by rfl) (h3 : frOk N X.N scope X.env.scope fr 0 = true := by rfl) (h4 : fr.length = N.length := by rfl) (h5 : freeOk X.env.scope scope.names = true := by rfl)
    (hsw : swapsWith (.ListComp elt [⟨.Name x px,iter,ifs,0⟩] scope pos) (some (.Name y py)) spos.line X.env = pure true := by rfl)
    (hs : ∀ x,foldedSetIterable iter X.env x = pure x := by intro _; rfl) : PS X (.Assign [.Name y py] (.ListComp elt [⟨.Name x px,iter,ifs,0⟩] scope pos) spos) (tAsg (tComp wi fr ix tif te) (gName i)) :=
  ps_setComp hN hy hly (compScope_of h1) h2 h3 h4 (freeOk_of h5) hi hif he hsw hs
end
section
variable {X : Cx} {k : Nat} {f : Addr} {fd : FuncData} {ps : List Str} {sp : Sp} {x : Str} {st : Stmt} {p pos : Pos} {e : Expr} {es : List Expr} {t : TA} {E : XK}
theorem pe_fnW (T : Fn X.K X.mg x st ps f fd) (G : FnOk X.prog X.w X.K X.mg X.base (CXW X.prog X.w) k f fd ps sp) (hr : Room k X.A) (hg : Gl X x) (hP : Passes (CXW X.prog X.w) X E) (ha : PA X (e :: es) t)
    (hdb : (x == ("__debug__" : Str)) = false := by decide) (he : starEach (e :: es) X.env = (false,eval e X.env) :: starEach es X.env := by rfl) (hpl : (backTo pos (starEach es X.env)).any (·.1) = false := by rfl) :
    PE X (.Call (.Name x p) (e :: es) [] pos) (tCall sp [] E t):=pe_call G hr hg T.m T.F.kp T.b .nil hP ha hdb he hpl
end
end L2
inductive Tr where
  | nil
  | cons (b r : Tr)
  deriving DecidableEq
namespace Tr
def bs : Tr→List Tr
  | .nil => []
  | .cons b r => b :: r.bs
def of : List Tr→Tr
  | [] => .nil
  | b :: r => .cons b (of r)
theorem of_bs : ∀ t : Tr,of t.bs = t
  | .nil => rfl
  | .cons b r => by rw [bs,of,of_bs r]
theorem bs_of : ∀ l : List Tr,(of l).bs = l
  | [] => rfl
  | b :: r => by rw [of,bs,bs_of r]
theorem bs_inj {t u : Tr} (h : t.bs = u.bs) : t = u := by rw [← of_bs t,h,of_bs]
def len : Tr→Nat
  | .nil => 0
  | .cons _ r => r.len + 1
theorem len_bs : ∀ t : Tr,t.bs.length = t.len
  | .nil => rfl
  | .cons _ r => by rw [bs,List.length_cons,len_bs r,len]
def knots : Tr→Nat
  | .nil => 1
  | .cons b r => b.knots + r.knots
def deep : Tr→Nat
  | .nil => 0
  | .cons b r => max (b.deep + 1) r.deep
def lt : Tr→Tr→Bool
  | .nil,.nil => false
  | .nil,.cons _ _ => true
  | .cons _ _,.nil => false
  | .cons b r,.cons c q => if b = c then lt r q else lt b c
theorem lt_irrefl : ∀ t : Tr,lt t t = false
  | .nil => rfl
  | .cons b r => by rw [lt,if_pos rfl]; exact lt_irrefl r
theorem lt_trans : ∀ a b c : Tr,lt a b = true→lt b c = true→lt a c = true
  | .nil,.nil,_,h,_ => by cases h
  | .nil,.cons _ _,.nil,_,h => by cases h
  | .nil,.cons _ _,.cons _ _,_,_ => rfl
  | .cons _ _,.nil,_,h,_ => by cases h
  | .cons _ _,.cons _ _,.nil,_,h => by cases h
  | .cons a r,.cons b s,.cons c t,h1,h2 => by
    rw [lt] at h1 h2 ⊢
    by_cases e1 : a = b
    · subst e1
      rw [if_pos rfl] at h1
      by_cases e2 : a = c
      · subst e2
        rw [if_pos rfl] at h2 ⊢
        exact lt_trans r s t h1 h2
      · rw [if_neg e2] at h2 ⊢; exact h2
    · rw [if_neg e1] at h1
      by_cases e2 : b = c
      · subst e2
        rw [if_neg e1]; exact h1
      · rw [if_neg e2] at h2
        have h3:=lt_trans a b c h1 h2
        by_cases e3 : a = c
        · subst e3
          rw [lt_irrefl] at h3; cases h3
        · rw [if_neg e3]; exact h3
theorem lt_total : ∀ a b : Tr,lt a b = false→lt b a = false→a = b
  | .nil,.nil,_,_ => rfl
  | .nil,.cons _ _,h,_ => by cases h
  | .cons _ _,.nil,_,h => by cases h
  | .cons a r,.cons b s,h1,h2 => by
    rw [lt] at h1 h2
    by_cases e : a = b
    · subst e
      rw [if_pos rfl] at h1 h2
      rw [lt_total r s h1 h2]
    · rw [if_neg e] at h1
      rw [if_neg (Ne.symm e)] at h2
      exact absurd (lt_total a b h1 h2) e
theorem lt_negTrans (a b c : Tr) (h : lt a c = true) : lt a b = true∨lt b c = true := by
  cases h1 : lt a b with
  | true => exact .inl rfl
  | false =>
    right
    cases h2 : lt b a with
    | true => exact lt_trans b a c h2 h
    | false => rw [← lt_total a b h1 h2]; exact h
theorem lt_asymm {a b : Tr} (h : lt a b = true) : lt b a = false := by
  cases h2 : lt b a with
  | false => rfl
  | true => have:=lt_trans a b a h h2; rw [lt_irrefl] at this; cases this
def fall : Tr→Bool
  | .nil => true
  | .cons b r => b.fall && r.fall && (match r with
    | .nil => true
    | .cons c _ => !lt b c)
def ins (x : Tr) : List Tr→List Tr
  | [] => [x]
  | y :: r => if lt x y = true then y :: ins x r else x :: y :: r
def srt : List Tr→List Tr
  | [] => []
  | x :: r => ins x (srt r)
end Tr
namespace TH
open PySem PyProof.Rows PySem.SeqAt
def Vs (h : Heap) : Tr→List Value→Prop
  | .nil,us => us = []
  | .cons b r,us => ∃ (a : Addr) (its rest : List Value),us = .ref a :: rest∧h.IsTuple a its.toArray∧Vs h b its∧Vs h r rest
theorem Vs.length {h : Heap} : ∀ {t : Tr} {us : List Value},Vs h t us→us.length = t.len
  | .nil,us,e => by rw [Vs] at e; rw [e]; rfl
  | .cons b r,us,e => by
    rw [Vs] at e
    obtain ⟨a,its,rest,rfl,_,_,q⟩:=e
    rw [List.length_cons,Tr.len,Vs.length q]
theorem tuple_same {h : Heap} {a : Addr} {x y : Array Value} (h1 : h.IsTuple a x) (h2 : h.IsTuple a y) : x = y := by
  obtain ⟨o,e,_,n,d⟩:=h1
  obtain ⟨o',e',_,n',d'⟩:=h2
  rw [e] at e'; cases e'
  rw [d] at d'; cases d'; rfl
theorem Vs.inj {h : Heap} : ∀ {t u : Tr} {us : List Value},Vs h t us→Vs h u us→t = u
  | .nil,.nil,_,_,_ => rfl
  | .nil,.cons _ _,us,e,f => by
    rw [Vs] at e
    rw [Vs] at f
    obtain ⟨_,_,_,f,_⟩:=f
    rw [e] at f; cases f
  | .cons _ _,.nil,us,e,f => by
    rw [Vs] at e
    rw [Vs] at f
    obtain ⟨_,_,_,e,_⟩:=e
    rw [f] at e; cases e
  | .cons b r,.cons c q,us,e,f => by
    rw [Vs] at e f
    obtain ⟨a,its,rest,rfl,h1,h2,h3⟩:=e
    obtain ⟨a',its',rest',e',k1,k2,k3⟩:=f
    cases e'
    have:=tuple_same h1 k1
    have e2 : its = its' := by simpa using this
    subst e2
    rw [Vs.inj h2 k2,Vs.inj h3 k3]
theorem eqRow {s : Shared} : ∀ (t u : Tr) (A : Around) (us vs : List Value),Vs s.heap t us→Vs s.heap u vs→A.units + t.deep≤cLine →
    ∀ j (h1 : j < us.length) (h2 : j < vs.length),EqAt A s us[j] vs[j] (decide (t.bs[j]? = u.bs[j]?))
  | .nil,u,A,us,vs,e,f,_,j,h1,h2 => by
    rw [Vs] at e; subst e; exact absurd h1 (Nat.not_lt_zero _)
  | .cons b r,.nil,A,us,vs,e,f,_,j,h1,h2 => by
    rw [Vs] at f; subst f; exact absurd h2 (Nat.not_lt_zero _)
  | .cons b r,.cons c q,A,us,vs,e,f,hu,j,h1,h2 => by
    rw [Vs] at e f
    obtain ⟨a,its,rest,rfl,k1,k2,k3⟩:=e
    obtain ⟨a',its',rest',rfl,l1,l2,l3⟩:=f
    have hd : (Tr.cons b r).deep = max (b.deep + 1) r.deep:=rfl
    cases j with
    | zero =>
      show EqAt A s (.ref a) (.ref a') (decide (some b = some c))
      by_cases ea : a = a'
      · subst ea
        have:=tuple_same k1 l1
        have e2 : its = its' := by simpa using this
        subst e2
        rw [Vs.inj k2 l2,decide_eq_true rfl]
        exact EqAt.same _
      · refine EqAt.of_refs ea ?_
        have key:=RcAt.tuples (s:=s) (A:=A) (e:=fun j => decide (b.bs[j]? = c.bs[j]?)) k1 l1 (by lia) fun j x1 x2 => by
          have:=eqRow b c A.in1 its its' k2 l2 (by rw [show A.in1.units = A.units + 1 from rfl]; lia) j (by simpa using x1) (by simpa using x2)
          simpa using this
        have ev : ((List.range (min its.toArray.size its'.toArray.size)).all (fun j => decide (b.bs[j]? = c.bs[j]?)) && its.toArray.size == its'.toArray.size) = decide (some b = some c) := by
          have z1 : its.toArray.size = b.bs.length := by rw [Tr.len_bs,← Vs.length k2]; simp
          have z2 : its'.toArray.size = c.bs.length := by rw [Tr.len_bs,← Vs.length l2]; simp
          rw [z1,z2]
          by_cases hbc : b = c
          · subst hbc; simp
          · rw [decide_eq_false (fun z => hbc (Option.some.inj z))]
            cases hl : b.bs.length == c.bs.length with
            | false => rw [Bool.and_false]
            | true =>
              rw [Bool.and_true]
              have hl' : b.bs.length = c.bs.length := by simpa using hl
              refine Bool.eq_false_iff.mpr fun z => hbc (Tr.bs_inj (List.ext_getElem? fun i => ?_))
              by_cases hi : i < b.bs.length
              · have:=List.all_eq_true.mp z i (List.mem_range.mpr (by lia))
                simpa using this
              · rw [List.getElem?_eq_none (by lia),List.getElem?_eq_none (by lia)]
        rw [ev] at key
        exact key
    | succ j =>
      exact eqRow r q A rest rest' k3 l3 (by lia) j (by simpa using h1) (by simpa using h2)
theorem eqAt {s : Shared} {t u : Tr} {A : Around} {a b : Addr} {its its' : List Value} (h1 : s.heap.IsTuple a its.toArray) (k1 : Vs s.heap t its) (h2 : s.heap.IsTuple b its'.toArray) (k2 : Vs s.heap u its') (hu : A.units + t.deep < cLine) :
    EqAt A s (.ref a) (.ref b) (decide (t = u)) := by
  have:=eqRow (.cons t .nil) (.cons u .nil) A [.ref a] [.ref b] ⟨a,its,[],rfl,h1,k1,by rw [Vs]⟩ ⟨b,its',[],rfl,h2,k2,by rw [Vs]⟩ (by show A.units + max (t.deep + 1) 0≤cLine; lia) 0 (by simp) (by simp)
  simpa [Tr.bs] using this
section
open PySem.AutoSeq1 (wpAny_loadPart')
open PySem.MeetsSeq PySem.MeetsSeq2 PySem.MeetsSeq3
theorem tuple_lt (n0 : Nat) (ih : ∀ (t u : Tr) (A : Around) (s : Shared) (a b : Addr) (its its' : List Value),t.deep < n0→s.heap.IsTuple a its.toArray→Vs s.heap t its→s.heap.IsTuple b its'.toArray→Vs s.heap u its'→A.units + t.deep < cLine →
      ∀ (prog : Program) (w : World) (E : Value→Shared→Prop) (Q : Value→Shared→Prop),Q (.bool (Tr.lt t u)) s→wpAny (model prog w) A (richCompare .Lt (.ref a) (.ref b)) Q E s)
    (l b : Addr) (items items2 : Array Value) (n n2 : Nat) (dd dd2 : Option Addr) (sl sl2 : Array (Option Value)) (t u : Tr) (ht : t.deep≤n0) :
    Meets (Builtin.«tuple.__lt__» ⟨[.ref l,.ref b],[]⟩)
      (fun A R s => s.heap.get? l = some { cls:=.type "tuple",dict:=dd,data:=.seq items n,slots:=sl }∧s.heap.get? b = some { cls:=.type "tuple",dict:=dd2,data:=.seq items2 n2,slots:=sl2 } ∧
        Vs s.heap t items.toList∧Vs s.heap u items2.toList∧A.units + t.deep < cLine∧R (.ok (.ret (.bool (Tr.lt t u)))) s) :=
  .of_wp fun prog w A R s h => by
    obtain ⟨hp,g,d,tk,os⟩:=s; obtain ⟨hl,hb,hi,hj,hun,h⟩:=h
    have f2:=AutoSeq1.sub_tuple_tuple
    have z1 : items.size = t.len := by rw [← Vs.length hi]; simp
    have z2 : items2.size = u.len := by rw [← Vs.length hj]; simp
    wp_walk using wpAny_loadPart' hl,wpAny_loadPart' hb,wpAny_forIn_list _ (fun rest b s' => b.1 = none∧s' = ⟨hp,g,d,tk,os⟩∧∃ (vs ws : List Value) (t' u' : Tr),rest = vs.zip ws ∧
      Vs hp t' vs∧Vs hp u' ws∧t'.deep≤t.deep∧t'.len + items2.size = u'.len + items.size∧R (.ok (.ret (.bool (Tr.lt t' u')))) ⟨hp,g,d,tk,os⟩) _
    case turn =>
      rintro ⟨y,x⟩ rest b s' ⟨hb',rfl,vs,ws,t',u',hz,hvi,hwi,hdp,hlen,hR⟩
      cases t' with
      | nil => rw [Vs] at hvi; subst hvi; rw [List.zip_nil_left] at hz; cases hz
      | cons bt rt =>
        cases u' with
        | nil => rw [Vs] at hwi; subst hwi; rw [List.zip_nil_right] at hz; cases hz
        | cons bu ru =>
          rw [Vs] at hvi hwi
          obtain ⟨a1,i1,v1,rfl,p1,p2,p3⟩:=hvi
          obtain ⟨a2,i2,v2,rfl,q1,q2,q3⟩:=hwi
          rw [List.zip_cons_cons] at hz
          injection hz with hyx hrest
          injection hyx with hy hx
          subst hy hx
          have hdd : (Tr.cons bt rt).deep = max (bt.deep + 1) rt.deep:=rfl
          rw [Tr.lt] at hR
          simp only [Tr.len] at hlen
          have he:=eqAt (s:=⟨hp,g,d,tk,os⟩) (A:=A.in1) p1 p2 q1 q2 (by rw [show A.in1.units = A.units + 1 from rfl]; lia)
          refine wpAny_bind (he prog w _ _ ?_)
          cases hc : decide (bt = bu) with
          | true =>
            rw [if_pos (of_decide_eq_true hc)] at hR
            wp_walk
            exact ⟨rfl,rfl,_,_,_,_,hrest,p3,q3,by lia,by lia,hR⟩
          | false =>
            rw [if_neg (of_decide_eq_false hc)] at hR
            have hri:=ih bt bu A.in1 ⟨hp,g,d,tk,os⟩ a1 a2 i1 i2 (by lia) p1 p2 q1 q2 (by rw [show A.in1.units = A.units + 1 from rfl]; lia) prog w
            wp_walk using hri
            exact ⟨_,rfl,by simpa using hR⟩
    case fin =>
      rintro ⟨b1,b2⟩ s' ⟨hb',rfl,vs,ws,t',u',hz,hvi,hwi,hdp,hlen,hR⟩
      simp only at hb'
      subst hb'
      have hv : Tr.lt t' u' = decide (items.size < items2.size) := by
        cases t' with
        | nil =>
          cases u' with
          | nil =>
            simp only [Tr.len] at hlen
            exact (decide_eq_false (by lia)).symm
          | cons c q =>
            simp only [Tr.len] at hlen
            exact (decide_eq_true (by lia)).symm
        | cons bt rt =>
          cases u' with
          | nil =>
            simp only [Tr.len] at hlen
            exact (decide_eq_false (by lia)).symm
          | cons c q =>
            rw [Vs] at hvi hwi
            obtain ⟨_,_,_,rfl,_⟩:=hvi
            obtain ⟨_,_,_,rfl,_⟩:=hwi
            rw [List.zip_cons_cons] at hz
            cases hz
      rw [hv] at hR
      wp_walk
      exact ⟨_,rfl,by simpa [Builtin.Tuple.tupleCompareSizes] using hR⟩
    case h =>
      exact ⟨rfl,rfl,items.toList,items2.toList,t,u,rfl,hi,hj,Nat.le_refl _,by lia,h⟩
theorem rc_lt : ∀ (n0 : Nat) (t u : Tr) (A : Around) (s : Shared) (a b : Addr) (its its' : List Value),t.deep < n0→s.heap.IsTuple a its.toArray→Vs s.heap t its→s.heap.IsTuple b its'.toArray→Vs s.heap u its'→A.units + t.deep < cLine →
      ∀ (prog : Program) (w : World) (E : Value→Shared→Prop) (Q : Value→Shared→Prop),Q (.bool (Tr.lt t u)) s→wpAny (model prog w) A (richCompare .Lt (.ref a) (.ref b)) Q E s
  | 0,_,_,_,_,_,_,_,_,h,_,_,_,_,_ => absurd h (Nat.not_lt_zero _)
  | n0 + 1,t,u,A,s,a,b,its,its',hd,hl,ht,hb,hu',hun => fun prog w E Q h => by
    obtain ⟨⟨cls,dd,data,sl⟩,ho,hc,n,hdt⟩:=id hl
    obtain ⟨⟨cls2,dd2,data2,sl2⟩,ho2,hc2,n2,hdt2⟩:=id hb
    simp only at hc hdt hc2 hdt2
    subst hc hdt hc2 hdt2
    exact richCompare_meets_room (op:=.Lt) ⟨_,ho,rfl⟩ ⟨_,ho2,rfl⟩ PySem.F.slot_tuple_lt PySem.F.entry_tuple_lt (PySem.F.args_tuple_lt_2 _ _) (tuple_lt n0 (rc_lt n0) a b its.toArray its'.toArray n n2 dd dd2 sl sl2 t u (by lia))
      ⟨ho,ho2,by simpa using ht,by simpa using hu',hun,show Value.bool (Tr.lt t u)≠Value.notImplemented∧Q (.bool (Tr.lt t u)) s from ⟨(fun x => nomatch x),h⟩⟩ (by lia)
end
section
open PySem.AutoSeq1 (wpAny_loadPart')
open PySem.MeetsSeq PySem.MeetsSeq2 PySem.MeetsSeq3
theorem tuple_gt (n0 : Nat) (ih : ∀ (t u : Tr) (A : Around) (s : Shared) (a b : Addr) (its its' : List Value),t.deep < n0→s.heap.IsTuple a its.toArray→Vs s.heap t its→s.heap.IsTuple b its'.toArray→Vs s.heap u its'→A.units + t.deep < cLine →
      ∀ (prog : Program) (w : World) (E : Value→Shared→Prop) (Q : Value→Shared→Prop),Q (.bool (Tr.lt u t)) s→wpAny (model prog w) A (richCompare .Gt (.ref a) (.ref b)) Q E s)
    (l b : Addr) (items items2 : Array Value) (n n2 : Nat) (dd dd2 : Option Addr) (sl sl2 : Array (Option Value)) (t u : Tr) (ht : t.deep≤n0) :
    Meets (Builtin.«tuple.__gt__» ⟨[.ref l,.ref b],[]⟩)
      (fun A R s => s.heap.get? l = some { cls:=.type "tuple",dict:=dd,data:=.seq items n,slots:=sl }∧s.heap.get? b = some { cls:=.type "tuple",dict:=dd2,data:=.seq items2 n2,slots:=sl2 } ∧
        Vs s.heap t items.toList∧Vs s.heap u items2.toList∧A.units + t.deep < cLine∧R (.ok (.ret (.bool (Tr.lt u t)))) s) :=
  .of_wp fun prog w A R s h => by
    obtain ⟨hp,g,d,tk,os⟩:=s; obtain ⟨hl,hb,hi,hj,hun,h⟩:=h
    have f2:=AutoSeq1.sub_tuple_tuple
    have z1 : items.size = t.len := by rw [← Vs.length hi]; simp
    have z2 : items2.size = u.len := by rw [← Vs.length hj]; simp
    wp_walk using wpAny_loadPart' hl,wpAny_loadPart' hb,wpAny_forIn_list _ (fun rest b s' => b.1 = none∧s' = ⟨hp,g,d,tk,os⟩∧∃ (vs ws : List Value) (t' u' : Tr),rest = vs.zip ws ∧
      Vs hp t' vs∧Vs hp u' ws∧t'.deep≤t.deep∧t'.len + items2.size = u'.len + items.size∧R (.ok (.ret (.bool (Tr.lt u' t')))) ⟨hp,g,d,tk,os⟩) _
    case turn =>
      rintro ⟨y,x⟩ rest b s' ⟨hb',rfl,vs,ws,t',u',hz,hvi,hwi,hdp,hlen,hR⟩
      cases t' with
      | nil => rw [Vs] at hvi; subst hvi; rw [List.zip_nil_left] at hz; cases hz
      | cons bt rt =>
        cases u' with
        | nil => rw [Vs] at hwi; subst hwi; rw [List.zip_nil_right] at hz; cases hz
        | cons bu ru =>
          rw [Vs] at hvi hwi
          obtain ⟨a1,i1,v1,rfl,p1,p2,p3⟩:=hvi
          obtain ⟨a2,i2,v2,rfl,q1,q2,q3⟩:=hwi
          rw [List.zip_cons_cons] at hz
          injection hz with hyx hrest
          injection hyx with hy hx
          subst hy hx
          have hdd : (Tr.cons bt rt).deep = max (bt.deep + 1) rt.deep:=rfl
          rw [Tr.lt] at hR
          simp only [Tr.len] at hlen
          have he:=eqAt (s:=⟨hp,g,d,tk,os⟩) (A:=A.in1) p1 p2 q1 q2 (by rw [show A.in1.units = A.units + 1 from rfl]; lia)
          refine wpAny_bind (he prog w _ _ ?_)
          cases hc : decide (bt = bu) with
          | true =>
            rw [if_pos (of_decide_eq_true hc).symm] at hR
            wp_walk
            exact ⟨rfl,rfl,_,_,_,_,hrest,p3,q3,by lia,by lia,hR⟩
          | false =>
            rw [if_neg (fun z => of_decide_eq_false hc z.symm)] at hR
            have hri:=ih bt bu A.in1 ⟨hp,g,d,tk,os⟩ a1 a2 i1 i2 (by lia) p1 p2 q1 q2 (by rw [show A.in1.units = A.units + 1 from rfl]; lia) prog w
            wp_walk using hri
            exact ⟨_,rfl,by simpa using hR⟩
    case fin =>
      rintro ⟨b1,b2⟩ s' ⟨hb',rfl,vs,ws,t',u',hz,hvi,hwi,hdp,hlen,hR⟩
      simp only at hb'
      subst hb'
      have hv : Tr.lt u' t' = decide (items2.size < items.size) := by
        cases t' with
        | nil =>
          cases u' with
          | nil =>
            simp only [Tr.len] at hlen
            exact (decide_eq_false (by lia)).symm
          | cons c q =>
            simp only [Tr.len] at hlen
            exact (decide_eq_false (by lia)).symm
        | cons bt rt =>
          cases u' with
          | nil =>
            simp only [Tr.len] at hlen
            exact (decide_eq_true (by lia)).symm
          | cons c q =>
            rw [Vs] at hvi hwi
            obtain ⟨_,_,_,rfl,_⟩:=hvi
            obtain ⟨_,_,_,rfl,_⟩:=hwi
            rw [List.zip_cons_cons] at hz
            cases hz
      rw [hv] at hR
      wp_walk
      exact ⟨_,rfl,by simpa [Builtin.Tuple.tupleCompareSizes] using hR⟩
    case h =>
      exact ⟨rfl,rfl,items.toList,items2.toList,t,u,rfl,hi,hj,Nat.le_refl _,by lia,h⟩
theorem rc_gt : ∀ (n0 : Nat) (t u : Tr) (A : Around) (s : Shared) (a b : Addr) (its its' : List Value),t.deep < n0→s.heap.IsTuple a its.toArray→Vs s.heap t its→s.heap.IsTuple b its'.toArray→Vs s.heap u its'→A.units + t.deep < cLine →
      ∀ (prog : Program) (w : World) (E : Value→Shared→Prop) (Q : Value→Shared→Prop),Q (.bool (Tr.lt u t)) s→wpAny (model prog w) A (richCompare .Gt (.ref a) (.ref b)) Q E s
  | 0,_,_,_,_,_,_,_,_,h,_,_,_,_,_ => absurd h (Nat.not_lt_zero _)
  | n0 + 1,t,u,A,s,a,b,its,its',hd,hl,ht,hb,hu',hun => fun prog w E Q h => by
    obtain ⟨⟨cls,dd,data,sl⟩,ho,hc,n,hdt⟩:=id hl
    obtain ⟨⟨cls2,dd2,data2,sl2⟩,ho2,hc2,n2,hdt2⟩:=id hb
    simp only at hc hdt hc2 hdt2
    subst hc hdt hc2 hdt2
    exact richCompare_meets_room (op:=.Gt) ⟨_,ho,rfl⟩ ⟨_,ho2,rfl⟩ PySem.F.slot_tuple_gt PySem.F.entry_tuple_gt (PySem.F.args_tuple_gt_2 _ _) (tuple_gt n0 (rc_gt n0) a b its.toArray its'.toArray n n2 dd dd2 sl sl2 t u (by lia))
      ⟨ho,ho2,by simpa using ht,by simpa using hu',hun,show Value.bool (Tr.lt u t)≠Value.notImplemented∧Q (.bool (Tr.lt u t)) s from ⟨(fun x => nomatch x),h⟩⟩ (by lia)
end
end TH
namespace SM
open PySem.W PyProof.Rows
def Wp {α : Type} (lt : Nat→Nat→Bool) (n : Nat) : KasT α→(α→Prop)→Prop
  | .ret a,Q => Q a
  | .ask i j k,Q => i < n∧j < n∧Wp lt n (k (lt i j)) Q
theorem Wp.mono {α : Type} {lt : Nat→Nat→Bool} {n : Nat} {Q Q' : α→Prop} (hq : ∀ a,Q a→Q' a) : ∀ t : KasT α,Wp lt n t Q→Wp lt n t Q'
  | .ret a,h => hq a h
  | .ask i j k,h => ⟨h.1,h.2.1,Wp.mono hq (k (lt i j)) h.2.2⟩
theorem Wp.bind {α β : Type} {lt : Nat→Nat→Bool} {n : Nat} {f : α→KasT β} {Q : β→Prop} : ∀ t : KasT α,Wp lt n t (fun a => Wp lt n (f a) Q)→Wp lt n (t.bind f) Q
  | .ret _,h => h
  | .ask i j k,h => ⟨h.1,h.2.1,Wp.bind (k (lt i j)) h.2.2⟩
theorem getD_rev {p : Array Nat} {i j : Nat} (hj : j≤p.size) (k : Nat) : (kas_rev p i j).getD k 0 = if i≤k∧k < j then p.getD (i + j - 1 - k) 0 else p.getD k 0 := by
  have e:=getElem?_mirror_all (i:=i) hj k
  unfold kas_rev
  rw [Array.getD_eq_getD_getElem?,Array.getD_eq_getD_getElem?,Array.getD_eq_getD_getElem?,e]
  split <;> rfl
theorem getD_bubble {p : Array Nat} {src d : Nat} (hs : src < p.size) (hd : d≤src) (k : Nat) :
    (bubble p src d).getD k 0 = if k = src - d then p.getD src 0 else if src - d < k∧k≤src then p.getD (k - 1) 0 else p.getD k 0 := by
  have e:=getElem?_bubble hs d hd k
  simp only [Array.getD_eq_getD_getElem?,e]
  split
  · rfl
  · split <;> rfl
section
variable {O : KeyOrd} {key : Nat→O.α} {n : Nat}
def Key (key : Nat→O.α) (p : Array Nat) (i : Nat) : O.α:=key (p.getD i 0)
def Up (key : Nat→O.α) (p : Array Nat) (m : Nat) : Prop:=∀ i j,i≤j→j < m→O.kle (Key key p i) (Key key p j)
def Dn (key : Nat→O.α) (p : Array Nat) (m : Nat) : Prop:=∀ i j,i≤j→j < m→O.kle (Key key p j) (Key key p i)
structure Pm (n : Nat) (p : Array Nat) : Prop where
  perm : p.Perm (List.toArray (List.range n))
  pos : 0 < n
theorem Pm.size {p : Array Nat} (h : Pm n p) : p.size = n := by rw [h.perm.size_eq]; simp
theorem Pm.lt {p : Array Nat} (h : Pm n p) (i : Nat) : p.getD i 0 < n := by
  rw [Array.getD_eq_getD_getElem?]
  by_cases hi : i < p.size
  · rw [Array.getElem?_eq_getElem hi]
    have hm : p[i]∈p:=Array.getElem_mem hi
    have:=(h.perm.mem_iff).mp hm
    simpa using this
  · rw [Array.getElem?_eq_none (by lia)]
    exact h.pos
theorem Pm.rev {p : Array Nat} (h : Pm n p) (i j : Nat) : Pm n (kas_rev p i j):=⟨(mirror_perm _ _ _ _).trans h.perm,h.pos⟩
theorem Pm.bubble {p : Array Nat} (h : Pm n p) (i j : Nat) : Pm n (bubble p i j):=⟨(bubble_perm _ _ _).trans h.perm,h.pos⟩
abbrev ltOf (key : Nat→O.α) : Nat→Nat→Bool:=fun i j => O.blt (key i) (key j)
theorem Up.one {p : Array Nat} : Up key p 1:=fun i j h1 h2 => by
  have : i = j := by lia
  subst this; exact KeyOrd.kle_refl _
theorem Up.more {p : Array Nat} {m : Nat} (h : Up key p m) (h1 : 1≤m) (hk : O.kle (Key key p (m - 1)) (Key key p m)) : Up key p (m + 1):=fun i j hij hj => by
  by_cases e : j = m
  · subst e
    by_cases e2 : i = j
    · subst e2; exact KeyOrd.kle_refl _
    · exact KeyOrd.kle_trans (h i (j - 1) (by lia) (by lia)) hk
  · exact h i j hij (by lia)
theorem Dn.more {p : Array Nat} {m : Nat} (h : Dn key p m) (h1 : 1≤m) (hk : O.kle (Key key p m) (Key key p (m - 1))) : Dn key p (m + 1):=fun i j hij hj => by
  by_cases e : j = m
  · subst e
    by_cases e2 : i = j
    · subst e2; exact KeyOrd.kle_refl _
    · exact KeyOrd.kle_trans hk (h i (j - 1) (by lia) (by lia))
  · exact h i j hij (by lia)
theorem asc {p : Array Nat} (hp : Pm n p) : ∀ (f m : Nat),1≤m→Up key p m→Wp (ltOf key) n (kas_asc p f m) fun r => m≤r∧r≤m + f∧Up key p r∧(r = m + f∨O.klt (Key key p r) (Key key p (r - 1)))
  | 0,m,_,h => ⟨Nat.le_refl _,Nat.le_refl _,h,.inl rfl⟩
  | f + 1,m,h1,h => by
    refine ⟨hp.lt _,hp.lt _,?_⟩
    cases c : ltOf key (p.getD m 0) (p.getD (m - 1) 0) with
    | true => exact ⟨Nat.le_refl _,by lia,h,.inr c⟩
    | false =>
      simp only [Bool.false_eq_true,if_false]
      refine Wp.mono (fun r hr => ?_) _ (asc hp f (m + 1) (by lia) (h.more h1 c))
      exact ⟨by lia,by lia,hr.2.2.1,hr.2.2.2.elim (fun z => .inl (by lia)) .inr⟩
def Eq (key : Nat→O.α) (p : Array Nat) (m q : Nat) : Prop:=q < m∧∀ k,m - (q + 1)≤k→k < m→Key key p k = Key key p (m - 1)
theorem rev_eq {p : Array Nat} {m q : Nat} (h : Eq key p m q) (hm : m≤p.size) (k : Nat) : Key key (kas_rev p (m - (q + 1)) m) k = Key key p k := by
  unfold Key
  rw [getD_rev hm]
  split
  · have a:=h.2 (m - (q + 1) + m - 1 - k) (by have:=h.1; lia) (by have:=h.1; lia)
    have b:=h.2 k (by lia) (by lia)
    exact a.trans b.symm
  · rfl
theorem desc : ∀ (f : Nat) (p : Array Nat) (m q : Nat),Pm n p→1≤m→m + f≤n→Dn key p m→Eq key p m q→Wp (ltOf key) n (kas_desc f p m q) fun r => Pm n r.1∧m≤r.2.1∧r.2.1≤m + f∧Dn key r.1 r.2.1∧Eq key r.1 r.2.1 r.2.2
  | 0,p,m,q,hp,_,_,h,e => ⟨hp,Nat.le_refl _,Nat.le_refl _,h,e⟩
  | f + 1,p,m,q,hp,h1,hf,h,e => by
    refine ⟨hp.lt _,hp.lt _,?_⟩
    have hm : m≤p.size := by rw [hp.size]; lia
    cases c : ltOf key (p.getD m 0) (p.getD (m - 1) 0) with
    | true =>
      have ck : O.klt (Key key p m) (Key key p (m - 1)):=c
      simp only [if_true]
      have fin : ∀ p' : Array Nat,Pm n p'→(∀ k,Key key p' k = Key key p k)→Wp (ltOf key) n (kas_desc f p' (m + 1) 0) fun r => Pm n r.1∧m≤r.2.1∧r.2.1≤m + (f + 1)∧Dn key r.1 r.2.1∧Eq key r.1 r.2.1 r.2.2:=fun p' hp' hk => by
        have hd : Dn key p' (m + 1):=fun i j hij hj => by rw [hk,hk]; exact h.more h1 (KeyOrd.kle_of_klt ck) i j hij hj
        have he : Eq key p' (m + 1) 0:=⟨by lia,fun k h1 h2 => by rw [show k = m + 1 - 1 by lia]⟩
        exact Wp.mono (fun r hr => ⟨hr.1,by lia,by lia,hr.2.2.2.1,hr.2.2.2.2⟩) _ (desc f p' (m + 1) 0 hp' (by lia) (by lia) hd he)
      split
      · exact fin _ (hp.rev _ _) (rev_eq e hm)
      · exact fin _ hp fun _ => rfl
    | false =>
      simp only [Bool.false_eq_true,if_false]
      refine ⟨hp.lt _,hp.lt _,?_⟩
      cases d : ltOf key (p.getD (m - 1) 0) (p.getD m 0) with
      | true =>
        simp only [if_true]
        exact ⟨hp,Nat.le_refl _,Nat.le_add_right _ _,h,e⟩
      | false =>
        simp only [Bool.false_eq_true,if_false]
        have ek : Key key p m = Key key p (m - 1):=KeyOrd.kle_antisymm (show O.kle (Key key p m) (Key key p (m - 1)) from d) (show O.kle (Key key p (m - 1)) (Key key p m) from c)
        refine Wp.mono (fun r hr => ⟨hr.1,by lia,by lia,hr.2.2.2.1,hr.2.2.2.2⟩) _ (desc f p (m + 1) (q + 1) hp (by lia) (by lia) (h.more h1 (by rw [ek]; exact KeyOrd.kle_refl _)) ⟨by have:=e.1; lia,fun k h2 h3 => ?_⟩)
        rw [show m + 1 - 1 = m by lia,ek]
        by_cases z : k = m
        · rw [z,ek]
        · exact e.2 k (by lia) (by lia)
theorem up_rev {p : Array Nat} {m : Nat} (h : Dn key p m) (hm : m≤p.size) : Up key (kas_rev p 0 m) m:=fun i j hij hj => by
  unfold Key
  rw [getD_rev hm,getD_rev hm,if_pos ⟨Nat.zero_le _,by lia⟩,if_pos ⟨Nat.zero_le _,by lia⟩]
  exact h (0 + m - 1 - j) (0 + m - 1 - i) (by lia) (by lia)
theorem tail3 {p : Array Nat} {m : Nat} (hp : Pm n p) (h1 : 1≤m) (hm : m≤n) (h : Dn key p m) : Wp (ltOf key) n (kas_tail3 m n p) fun r => Pm n r.2∧1≤r.1∧r.1≤n∧Up key r.2 r.1 := by
  unfold kas_tail3
  refine Wp.bind _ (Wp.mono (fun r hr => ?_) _ (asc (hp.rev 0 m) (n - m) m h1 (up_rev h (by rw [hp.size]; exact hm))))
  exact ⟨hp.rev 0 m,by lia,by lia,hr.2.2.1⟩
theorem descPart {p : Array Nat} {m : Nat} (hp : Pm n p) (h1 : 1≤m) (hm : m + 1≤n) (h : Dn key p (m + 1)) : Wp (ltOf key) n (kas_descPart m n p) fun r => Pm n r.2∧1≤r.1∧r.1≤n∧Up key r.2 r.1 := by
  unfold kas_descPart
  refine Wp.bind _ (Wp.mono (fun r hr => ?_) _ (desc (n - (m + 1)) p (m + 1) 0 hp (by lia) (by lia) h ⟨by lia,fun k h1 h2 => by rw [show k = m + 1 - 1 by lia]⟩))
  obtain ⟨a,b,c,d,e⟩:=hr
  have hz : r.2.1≤r.1.size := by rw [a.size]; lia
  split
  · refine tail3 (a.rev _ _) (by lia) (by lia) fun i j hij hj => ?_
    rw [rev_eq e hz,rev_eq e hz]
    exact d i j hij hj
  · exact tail3 a (by lia) (by lia) d
theorem count {p : Array Nat} (hp : Pm n p) : Wp (ltOf key) n (kas_count n p) fun r => Pm n r.2∧1≤r.1∧r.1≤n∧Up key r.2 r.1 := by
  have hn:=hp.pos
  unfold kas_count
  refine Wp.bind _ (Wp.mono (fun m hm => ?_) _ (asc hp (n - 1) 1 (Nat.le_refl _) Up.one))
  obtain ⟨h1,h2,h3,h4⟩:=hm
  split
  · exact ⟨hp,h1,by lia,h3⟩
  · rename_i hne
    have hne' : m≠n := by simpa using hne
    have hk : O.klt (Key key p m) (Key key p (m - 1)) := by
      rcases h4 with z | z
      · exact absurd (by lia) hne'
      · exact z
    have hz : m≤p.size := by rw [hp.size]; lia
    split
    · refine ⟨hp.lt _,hp.lt _,?_⟩
      cases c : ltOf key (p.getD 0 0) (p.getD (m - 1) 0) with
      | true => simp only [if_true]; exact ⟨hp,h1,by lia,h3⟩
      | false =>
        simp only [Bool.false_eq_true,if_false]
        have all : ∀ k,k < m→Key key p k = Key key p (m - 1):=fun k hk' => KeyOrd.kle_antisymm (h3 k (m - 1) (by lia) (by lia)) (KeyOrd.kle_trans (show O.kle (Key key p (m - 1)) (Key key p 0) from c) (h3 0 k (by lia) hk'))
        have ek : ∀ k,Key key (kas_rev p 0 m) k = Key key p k:=fun k => by
          by_cases hk' : k < m
          · have : Key key (kas_rev p 0 m) k = Key key p (0 + m - 1 - k) := by
              unfold Key; rw [getD_rev hz,if_pos ⟨Nat.zero_le _,hk'⟩]
            rw [this,all _ (by lia),all k hk']
          · unfold Key; rw [getD_rev hz,if_neg (by lia)]
        refine descPart (hp.rev _ _) h1 (by lia) fun i j hij hj => ?_
        rw [ek,ek]
        by_cases e : j = m
        · subst e
          by_cases e2 : i = j
          · subst e2; exact KeyOrd.kle_refl _
          · rw [all i (by lia)]; exact KeyOrd.kle_of_klt hk
        · rw [all i (by lia),all j (by lia)]; exact KeyOrd.kle_refl _
    · have : m = 1 := by lia
      subst this
      refine descPart hp h1 (by lia) fun i j hij hj => ?_
      by_cases e : i = j
      · subst e; exact KeyOrd.kle_refl _
      · rw [show i = 0 by lia,show j = 1 by lia]
        exact KeyOrd.kle_of_klt hk
theorem place {p : Array Nat} {k : Nat} (hp : Pm n p) (hs : Up key p k) : ∀ (f l r : Nat),l≤r→r≤k→r - l≤f→(∀ i,i < l→O.kle (Key key p i) (Key key p k))→(∀ i,r≤i→i < k→O.klt (Key key p k) (Key key p i)) →
    Wp (ltOf key) n (kas_place p k f l r) fun x => x≤k∧(∀ i,i < x→O.kle (Key key p i) (Key key p k))∧∀ i,x≤i→i < k→O.klt (Key key p k) (Key key p i)
  | 0,l,r,h1,h2,h3,a,b => by
    have : l = r := by lia
    subst this
    exact ⟨h2,a,b⟩
  | f + 1,l,r,h1,h2,h3,a,b => by
    unfold kas_place
    split
    · have : l = r := by lia
      subst this
      exact ⟨h2,a,b⟩
    · refine ⟨hp.lt _,hp.lt _,?_⟩
      cases c : ltOf key (p.getD k 0) (p.getD ((l + r) / 2) 0) with
      | true =>
        simp only [if_true]
        exact place hp hs f l ((l + r) / 2) (by lia) (by lia) (by lia) a fun i x1 x2 => KeyOrd.klt_of_klt_of_kle (show O.klt (Key key p k) (Key key p ((l + r) / 2)) from c) (hs _ _ x1 x2)
      | false =>
        simp only [Bool.false_eq_true,if_false]
        exact place hp hs f ((l + r) / 2 + 1) r (by lia) h2 (by lia) (fun i x1 => KeyOrd.kle_trans (hs i ((l + r) / 2) (by lia) (by lia)) (show O.kle (Key key p ((l + r) / 2)) (Key key p k) from c)) b
theorem bin : ∀ (f : Nat) (p : Array Nat) (k : Nat),Pm n p→1≤k→k + f = n→Up key p k→Wp (ltOf key) n (kas_bin f p k) fun r => Pm n r∧Up key r n
  | 0,p,k,hp,_,hk,h => by
    have : k = n := by lia
    subst this
    exact ⟨hp,h⟩
  | f + 1,p,k,hp,h1,hk,h => by
    have hks : k < p.size := by rw [hp.size]; lia
    refine Wp.bind _ (Wp.mono (fun l hl => ?_) _ (place hp h k 0 k (Nat.zero_le _) (Nat.le_refl _) (by lia) (fun i z => absurd z (by lia)) fun i z1 z2 => absurd z1 (by lia)))
    obtain ⟨hlk,hlo,hhi⟩:=hl
    refine bin f _ (k + 1) (hp.bubble _ _) (by lia) (by lia) fun i j hij hj => ?_
    have kb : ∀ x,Key key (PyProof.Rows.bubble p k (k - l)) x = if x = l then Key key p k else if l < x∧x≤k then Key key p (x - 1) else Key key p x:=fun x => by
      unfold Key
      rw [getD_bubble hks (by lia),show k - (k - l) = l by lia]
      split
      · rfl
      · split <;> rfl
    rw [kb,kb]
    repeat' split
    all_goals first
      | (exfalso; lia)
      | exact KeyOrd.kle_refl _
      | exact hlo _ (by lia)
      | exact KeyOrd.kle_of_klt (hhi _ (by lia) (by lia))
      | exact h _ _ (by lia) (by lia)
theorem sort (hn : 0 < n) : Wp (ltOf key) n (kas_sort n) fun p => Pm n p∧Up key p n := by
  have hp : Pm n (List.toArray (List.range n)):=⟨Array.Perm.refl _,hn⟩
  unfold kas_sort
  refine Wp.bind _ (Wp.mono (fun r hr => ?_) _ (count hp))
  obtain ⟨a,b,c,d⟩:=hr
  split
  · rw [show max r.1 1 = r.1 by lia]
    exact bin _ _ _ a b (by lia) d
  · have : r.1 = n := by lia
    rw [this] at d
    exact ⟨a,d⟩
end
end SM
namespace Tr
theorem perm_ins (x : Tr) : ∀ l : List Tr,(ins x l).Perm (x :: l)
  | [] => .refl _
  | y :: r => by
    rw [ins]
    split
    · exact ((perm_ins x r).cons y).trans (.swap x y r)
    · exact .refl _
theorem perm_srt : ∀ l : List Tr,(srt l).Perm l
  | [] => .refl _
  | x :: r => by
    rw [srt]
    exact (perm_ins x (srt r)).trans ((perm_srt r).cons x)
abbrev Fall (l : List Tr) : Prop:=l.Pairwise fun a b => lt a b = false
theorem fall_ins (x : Tr) : ∀ l : List Tr,Fall l→Fall (ins x l)
  | [],_ => List.pairwise_singleton _ _
  | y :: r,h => by
    obtain ⟨h1,h2⟩:=List.pairwise_cons.mp h
    rw [ins]
    split
    · rename_i c
      refine List.pairwise_cons.mpr ⟨fun z hz => ?_,fall_ins x r h2⟩
      rcases List.mem_cons.mp ((perm_ins x r).mem_iff.mp hz) with rfl | hz
      · exact lt_asymm c
      · exact h1 z hz
    · rename_i c
      have c' : lt x y = false := by simpa using c
      refine List.pairwise_cons.mpr ⟨fun z hz => ?_,h⟩
      rcases List.mem_cons.mp hz with rfl | hz
      · exact c'
      · cases e : lt x z with
        | false => rfl
        | true =>
          rcases lt_negTrans x y z e with q | q
          · rw [c'] at q; cases q
          · rw [h1 z hz] at q; cases q
theorem fall_srt : ∀ l : List Tr,Fall (srt l)
  | [] => List.Pairwise.nil
  | x :: r => by rw [srt]; exact fall_ins x _ (fall_srt r)
theorem fall_unique : ∀ {l m : List Tr},Fall l→Fall m→l.Perm m→l = m
  | [],m,_,_,p => (List.nil_perm.mp p).symm
  | x :: r,[],_,_,p => absurd p.length_eq (by simp)
  | x :: r,y :: q,h1,h2,p => by
    obtain ⟨a1,a2⟩:=List.pairwise_cons.mp h1
    obtain ⟨b1,b2⟩:=List.pairwise_cons.mp h2
    have hx : x∈y :: q:=p.mem_iff.mp List.mem_cons_self
    have hy : y∈x :: r:=p.mem_iff.mpr List.mem_cons_self
    have e : x = y := by
      rcases List.mem_cons.mp hx with e | hx
      · exact e
      · rcases List.mem_cons.mp hy with e | hy
        · exact e.symm
        · exact lt_total x y (a1 y hy) (b1 x hx)
    subst e
    rw [fall_unique a2 b2 (List.Perm.cons_inv p)]
theorem srt_of {l m : List Tr} (h : Fall m) (p : m.Perm l) : m = srt l:=fall_unique h (fall_srt l) (p.trans (perm_srt l).symm)
theorem srt_rev_of {l m : List Tr} (h : m.Pairwise fun a b => lt b a = false) (p : m.Perm l) : m = (srt l).reverse := by
  have : m.reverse = srt l:=srt_of (List.pairwise_reverse.mpr h) ((List.reverse_perm m).trans p)
  rw [← this,List.reverse_reverse]
theorem deep_of (n : Nat) : ∀ l : List Tr,(of l).deep≤n ↔ ∀ c∈l,c.deep + 1≤n
  | [] => by simp [of,deep]
  | b :: r => by
    rw [of,deep,List.forall_mem_cons,← deep_of n r]
    lia
theorem deep_perm {l m : List Tr} (p : l.Perm m) : (of l).deep≤(of m).deep:=(deep_of _ l).mpr fun c hc => (deep_of _ m).mp (Nat.le_refl _) c (p.mem_iff.mp hc)
theorem deep_rev (t : Tr) : (of t.bs.reverse).deep≤t.deep := by
  have:=deep_perm (List.reverse_perm t.bs)
  rwa [of_bs] at this
def ord : PyProof.Rows.KeyOrd where
  α:=Tr
  blt:=lt
  irrefl:=lt_irrefl
  trans:=lt_trans
  negTrans:=lt_negTrans
  total:=lt_total
end Tr
namespace TH
open PySem PySem.W PyProof.Rows PySem.SeqAt
theorem Vs.at {h : Heap} : ∀ {t : Tr} {us : List Value} {i : Nat},Vs h t us→i < us.length→∃ (a : Addr) (its : List Value) (c : Tr),us.getD i Value.none = .ref a∧h.IsTuple a its.toArray∧Vs h c its∧t.bs[i]? = some c∧c.deep < t.deep
  | .nil,us,i,e,hi => by rw [Vs] at e; subst e; exact absurd hi (Nat.not_lt_zero _)
  | .cons b r,us,i,e,hi => by
    rw [Vs] at e
    obtain ⟨a,its,rest,rfl,h1,h2,h3⟩:=e
    have hd : (Tr.cons b r).deep = max (b.deep + 1) r.deep:=rfl
    cases i with
    | zero => exact ⟨a,its,b,rfl,h1,h2,rfl,by lia⟩
    | succ i =>
      obtain ⟨a',its',c,q1,q2,q3,q4,q5⟩:=Vs.at (i:=i) h3 (by simpa using hi)
      exact ⟨a',its',c,by simpa using q1,q2,q3,by simpa [Tr.bs] using q4,by lia⟩
theorem Vs.of_all {h : Heap} : ∀ (ts : List Tr) (us : List Value),us.length = ts.length→(∀ i,i < ts.length→∃ (a : Addr) (its : List Value) (c : Tr),us[i]? = some (.ref a)∧h.IsTuple a its.toArray∧Vs h c its∧ts[i]? = some c)→Vs h (Tr.of ts) us
  | [],us,hl,_ => by
    rw [Tr.of,Vs]
    exact List.eq_nil_of_length_eq_zero (by simpa using hl)
  | t :: ts,[],hl,_ => by simp at hl
  | t :: ts,u :: us,hl,h => by
    rw [Tr.of,Vs]
    obtain ⟨a,its,c,e1,e2,e3,e4⟩:=h 0 (by simp)
    simp at e1 e4
    subst e1 e4
    refine ⟨a,its,us,rfl,e2,e3,Vs.of_all ts us (by simpa using hl) fun i hi => ?_⟩
    obtain ⟨a',its',c',q1,q2,q3,q4⟩:=h (i + 1) (by simpa using hi)
    exact ⟨a',its',c',by simpa using q1,q2,q3,by simpa using q4⟩
theorem Vs.all {h : Heap} {t : Tr} {us : List Value} (e : Vs h t us) : ∀ i,i < t.bs.length→∃ (a : Addr) (its : List Value) (c : Tr),us[i]? = some (.ref a)∧h.IsTuple a its.toArray∧Vs h c its∧t.bs[i]? = some c:=fun i hi => by
  have hl : i < us.length := by rw [Vs.length e,← Tr.len_bs]; exact hi
  obtain ⟨a,its,c,q1,q2,q3,q4,_⟩:=e.at hl
  refine ⟨a,its,c,?_,q2,q3,q4⟩
  rw [List.getD_eq_getElem?_getD,List.getElem?_eq_getElem hl] at q1
  rw [List.getElem?_eq_getElem hl]
  simpa using q1
section
variable {prog : Program} {w : World} {A : Around} {E : Value→Shared→Prop} {s : Shared} {t u : Tr} {a b : Addr} {its its' : List Value} {Q : Bool→Shared→Prop}
theorem ask_gen (h1 : s.heap.IsTuple a its.toArray) (k1 : Vs s.heap t its) (h2 : s.heap.IsTuple b its'.toArray) (k2 : Vs s.heap u its') (hu : A.units + t.deep < cLine) (h : Q (Tr.lt t u) s) : wpAny (model prog w) A (oneLt' false (.ref a) (.ref b)) Q E s := by
  rw [oneLt'_eq]
  simp only [Bool.false_eq_true,if_false]
  exact wpAny_bind (rc_lt (t.deep + 1) t u A s a b its its' (Nat.lt_succ_self _) h1 k1 h2 k2 hu prog w E _ (wpAny_truthy_bool h))
theorem ask_one (h1 : s.heap.IsTuple a its.toArray) (k1 : Vs s.heap t its) (h2 : s.heap.IsTuple b its'.toArray) (k2 : Vs s.heap u its') (hu : A.units + t.deep < cLine) (h : Q (Tr.lt t u) s) : wpAny (model prog w) A (oneLt' true (.ref a) (.ref b)) Q E s := by
  rw [oneLt'_eq]
  simp only [if_true]
  refine wpAny_bind (wpAny_cRoomFor (by lia) ?_)
  obtain ⟨⟨cls,dd,data,sl⟩,ho,hc,n,hdt⟩:=id h1
  obtain ⟨⟨cls2,dd2,data2,sl2⟩,ho2,hc2,n2,hdt2⟩:=id h2
  simp only at hc hdt hc2 hdt2
  subst hc hdt hc2 hdt2
  refine wpAny_bind (wpAny_callSpecialIfBound?_slot (T := "tuple") ⟨_,ho,rfl⟩ PySem.F.slot_tuple_lt (call_meets PySem.F.slot_tuple_lt ⟨_,ho,rfl⟩ PySem.F.entry_tuple_lt (PySem.F.args_tuple_lt_2 _ _)
    (tuple_lt t.deep (rc_lt t.deep) a b its.toArray its'.toArray n n2 dd dd2 sl sl2 t u (Nat.le_refl _)) ⟨ho,ho2,by simpa using k1,by simpa using k2,hu,?_⟩))
  exact wpAny_truthy_bool h
theorem ask_lex : ∀ (t u : Tr) (us vs : List Value) (i : Nat),Vs s.heap t us→Vs s.heap u vs→A.units + t.deep≤cLine→Q (Tr.lt t u) s→KatLex prog w A false (decide (t.len < u.len)) Q (us.zip vs) i s
  | .nil,.nil,us,vs,i,e,f,_,h => by
    rw [Vs] at e
    subst e
    rw [List.zip_nil_left]
    exact kat_nil h
  | .nil,.cons c q,us,vs,i,e,f,_,h => by
    rw [Vs] at e
    subst e
    rw [List.zip_nil_left]
    refine kat_nil ?_
    rw [show decide (Tr.nil.len < (Tr.cons c q).len) = true from decide_eq_true (Nat.zero_lt_succ _)]
    exact h
  | .cons b r,.nil,us,vs,i,e,f,_,h => by
    rw [Vs] at f
    subst f
    rw [List.zip_nil_right]
    refine kat_nil ?_
    rw [show decide ((Tr.cons b r).len < Tr.nil.len) = false from decide_eq_false (Nat.not_lt_zero _)]
    exact h
  | .cons b r,.cons c q,us,vs,i,e,f,hu,h => by
    rw [Vs] at e f
    obtain ⟨a,its,rest,rfl,k1,k2,k3⟩:=e
    obtain ⟨a',its',rest',rfl,l1,l2,l3⟩:=f
    have hd : (Tr.cons b r).deep = max (b.deep + 1) r.deep:=rfl
    rw [List.zip_cons_cons,show decide ((Tr.cons b r).len < (Tr.cons c q).len) = decide (r.len < q.len) from by simp [Tr.len]]
    rw [Tr.lt] at h
    refine kat_cons (eqAt k1 k2 l1 l2 (by lia) prog w _ _ ?_)
    by_cases hbc : b = c
    · rw [decide_eq_true hbc]
      rw [if_pos hbc] at h
      exact kat_yes (ask_lex r q rest rest' (i + 1) k3 l3 (by lia) h)
    · rw [decide_eq_false hbc]
      rw [if_neg hbc] at h
      exact kat_no (by rw [Bool.false_and]; exact ask_gen k1 k2 l1 l2 (by lia) h)
theorem ask_tup (h1 : s.heap.IsTuple a its.toArray) (k1 : Vs s.heap t its) (h2 : s.heap.IsTuple b its'.toArray) (k2 : Vs s.heap u its') (hu : A.units + t.deep < cLine) (h : Q (Tr.lt t u) s) : wpAny (model prog w) A (keyLt' (tuples' false) (.ref a) (.ref b)) Q E s := by
  obtain ⟨o,ho,hc,n,hd⟩:=id h1
  obtain ⟨o2,ho2,hc2,n2,hd2⟩:=id h2
  refine kat_lt ho hd ho2 hd2 ?_
  have z1 : its.toArray.size = t.len := by rw [← Vs.length k1]; simp
  have z2 : its'.toArray.size = u.len := by rw [← Vs.length k2]; simp
  rw [z1,z2]
  exact ask_lex t u its its' 0 k1 k2 (by lia) h
def TrKind (κ : SortKind) : Prop:=κ = general'∨κ = oneType'∨κ = tuples' false
theorem ask_any {κ : SortKind} (hκ : TrKind κ) (h1 : s.heap.IsTuple a its.toArray) (k1 : Vs s.heap t its) (h2 : s.heap.IsTuple b its'.toArray) (k2 : Vs s.heap u its') (hu : A.units + t.deep < cLine) (h : Q (Tr.lt t u) s) : wpAny (model prog w) A (keyLt' κ (.ref a) (.ref b)) Q E s := by
  rcases hκ with rfl | rfl | rfl
  · exact ask_gen h1 k1 h2 k2 hu h
  · rw [keyLt'_oneType]; exact ask_one h1 k1 h2 k2 hu h
  · exact ask_tup h1 k1 h2 k2 hu h
theorem tuple_looks {M : Model} {h : Heap} {a : Addr} {x : Array Value} (h1 : h.IsTuple a x) : Looks M h (typeOf (.ref a)) (.type "tuple") := by
  obtain ⟨o,ho,hc,_⟩:=h1
  exact hc ▸ (Looks.ld ho).andThen .now
theorem firsts_tr {M : Model} : ∀ (t : Tr) (us : List Value) {Q : List (Option Value)→Shared→Prop},Vs s.heap t us→(∀ fs : List (Option Value),(∀ v,some v∈fs→Looks M s.heap (typeOf v) (.type "tuple"))→Q fs s)→wpAny M A (us.mapM firstOfTuple') Q E s
  | .nil,us,Q,e,h => by
    rw [Vs] at e
    subst e
    rw [List.mapM_nil]
    exact wpAny_pure (h [] fun _ z => by cases z)
  | .cons b r,us,Q,e,h => by
    rw [Vs] at e
    obtain ⟨a,its,rest,rfl,h1,h2,h3⟩:=e
    obtain ⟨o,ho,hc,n,hd⟩:=id h1
    rw [List.mapM_cons]
    refine wpAny_bind ?_
    rw [kas_first_eq]
    refine wpAny_bind (Looks.here (show Looks M s.heap (typeOf (.ref a)) o.cls from (Looks.ld ho).andThen .now) ?_)
    rw [hc,if_neg (by first | decide | simp)]
    refine wpAny_bind (listItems_at ho hd (wpAny_pure ?_))
    refine wpAny_bind (firsts_tr r rest (Q:=fun bs s' => wpAny M A (pure (its.toArray[0]? :: bs)) Q E s') h3 fun fs hfs => wpAny_pure (h _ fun v hv => ?_))
    rcases List.mem_cons.mp hv with z | z
    · cases b with
      | nil => rw [Vs] at h2; subst h2; simp at z
      | cons c q =>
        rw [Vs] at h2
        obtain ⟨a',its',rest',rfl,k1,_⟩:=h2
        simp at z
        subst z
        exact tuple_looks k1
    · exact hfs v z
theorem only_tr {M : Model} {vs : List Value} {Q : Option Value→Shared→Prop} (hT : ∀ v∈vs,Looks M s.heap (typeOf v) (.type "tuple")) (h0 : vs = []→Q none s) (h1 : Q (some (.type "tuple")) s) : wpAny M A (oneTypeOnly' vs.toArray) Q E s := by
  rw [oneTypeOnly'_eq,List.mapM_toArray,map_eq_pure_bind]
  refine wpAny_bind (wpAny_bind (kas_mapM (r:=Value.type "tuple") _ (fun v hv Q' hq => (hT v hv).here hq) (wpAny_pure ?_)))
  cases vs with
  | nil => exact wpAny_pure (h0 rfl)
  | cons f r =>
    have hall : ((List.map (fun _ => Value.type "tuple") (f :: r)).toArray.all fun x => x == Value.type "tuple") = true := by
      simp only [List.all_toArray,List.all_map,List.all_eq_true]
      intro _ _
      rfl
    have e0 : (List.map (fun _ => Value.type "tuple") (f :: r)).toArray[0]? = some (Value.type "tuple") := by simp
    rw [e0]
    simp only [hall,if_true]
    exact wpAny_pure h1
theorem kind_tr {M : Model} {t : Tr} {us : List Value} {Q : SortKind→Shared→Prop} (e : Vs s.heap t us) (h : ∀ κ,TrKind κ→Q κ s) : wpAny M A (keyKind' us.toArray) Q E s := by
  rw [kat_kind_eq,List.mapM_toArray,map_eq_pure_bind]
  refine wpAny_bind (wpAny_bind (firsts_tr t us e fun fs hfs => wpAny_pure ?_))
  split
  · refine wpAny_bind (wpAny_rule ?_)
    have e1 : fs.toArray.filterMap id = (fs.filterMap id).toArray := by simp
    rw [e1]
    have hl : ∀ v∈fs.filterMap id,Looks M s.heap (typeOf v) (.type "tuple"):=fun v hv => hfs v (by simpa using hv)
    refine wpAny_bind (only_tr hl (fun _ => ?_) ?_)
    · exact wpAny_pure (h _ (.inr (.inr rfl)))
    · exact wpAny_pure (h _ (.inr (.inr rfl)))
  · split
    · exact wpAny_pure (h _ (.inl rfl))
    · have hl : ∀ v∈us,Looks M s.heap (typeOf v) (.type "tuple"):=fun v hv => by
        obtain ⟨i,hi,rfl⟩:=List.getElem_of_mem hv
        obtain ⟨a,its,c,q1,q2,_⟩:=e.at hi
        rw [List.getD_eq_getElem?_getD,List.getElem?_eq_getElem hi] at q1
        simp at q1
        rw [q1]
        exact tuple_looks q2
      refine wpAny_bind (only_tr hl (fun _ => ?_) ?_)
      · exact wpAny_pure (h _ (.inl rfl))
      · exact wpAny_pure (h _ (.inr (.inl rfl)))
theorem kasWp_of {α : Type} {cmp : Nat→Nat→(Bool→Shared→Prop)→Shared→Prop} {lt : Nat→Nat→Bool} {n : Nat} {Q' : α→Prop} (hc : ∀ i j C,i < n→j < n→C (lt i j) s→cmp i j C s) : ∀ T : KasT α,SM.Wp lt n T Q'→T.kasWp cmp (fun a s' => s' = s∧Q' a) s
  | .ret a,h => ⟨rfl,h⟩
  | .ask i j k,h => hc i j _ h.1 h.2.1 (kasWp_of hc (k (lt i j)) h.2.2)
end
end TH
namespace TH
open PySem PySem.W PyProof.Rows PySem.SeqAt
theorem Vs.keeps {h h' : Heap} (k : ∀ b o,h.get? b = some o→o.cls = .type "tuple" → h'.get? b = some o) : ∀ {t : Tr} {us : List Value},Vs h t us→Vs h' t us
  | .nil,us,e => by rw [Vs] at e ⊢; exact e
  | .cons b r,us,e => by
    rw [Vs] at e ⊢
    obtain ⟨a,its,rest,rfl,⟨o,ho,hc,hd⟩,h2,h3⟩:=e
    exact ⟨a,its,rest,rfl,⟨o,k _ _ ho hc,hc,hd⟩,h2.keeps k,h3.keeps k⟩
theorem map_getD {α : Type} (d : α) (l : List α) : (List.range l.length).map (fun i => l.getD i d) = l := by
  refine List.ext_getElem (by simp) fun i h1 h2 => ?_
  simp [h2]
theorem Vs.rev {h : Heap} {t : Tr} {us : List Value} (e : Vs h t us) : Vs h (Tr.of t.bs.reverse) us.reverse := by
  have hl : us.length = t.bs.length := by rw [e.length,Tr.len_bs]
  refine Vs.of_all _ _ (by simp [hl]) fun i hi => ?_
  rw [List.length_reverse] at hi
  obtain ⟨a,its,c,q1,q2,q3,q4⟩:=e.all (t.bs.length - 1 - i) (by lia)
  exact ⟨a,its,c,by rw [List.getElem?_reverse (by lia),hl]; exact q1,q2,q3,by rw [List.getElem?_reverse hi]; exact q4⟩
section
variable {prog : Program} {w : World} {A : Around} {E : Value→Shared→Prop} {s : Shared}
theorem sort_run {κ : SortKind} {t : Tr} {ws : List Value} (hκ : TrKind κ) (e : Vs s.heap t ws) (h2 : 2≤ws.length) (h64 : ws.length < 64) (hu : A.units + t.deep≤cLine) :
    wpAny (model prog w) A ((sortRuns').run (SortSt.mk' κ (ws.toArray.zip ws.toArray) #[] 7 none)) (fun r s' => s' = s∧failedOf r.2 = none∧∃ ix : List Nat,ix.length = ws.length∧(∀ i∈ix,i < ws.length) ∧
      (arrOf r.2).map (·.2) = (ix.map fun i => ws.getD i Value.none).toArray∧(ix.map fun i => t.bs.getD i .nil) = (Tr.srt t.bs).reverse) E s := by
  have hl : ws.length = t.bs.length := by rw [e.length,Tr.len_bs]
  have key : ∀ i,i < ws.length→∃ (a : Addr) (its : List Value),ws.getD i Value.none = .ref a∧s.heap.IsTuple a its.toArray∧Vs s.heap (t.bs.getD i .nil) its∧(t.bs.getD i .nil).deep < t.deep:=fun i hi => by
    obtain ⟨a,its,c,q1,q2,q3,q4,q5⟩:=e.at hi
    have : t.bs.getD i .nil = c := by rw [List.getD_eq_getElem?_getD,q4]; rfl
    rw [this]
    exact ⟨a,its,q1,q2,q3,q5⟩
  refine kat_run (Q:=fun st' s' => s' = s∧failedOf st' = none∧∃ ix : List Nat,ix.length = ws.length∧(∀ i∈ix,i < ws.length)∧(arrOf st').map (·.2) = (ix.map fun i => ws.getD i Value.none).toArray∧(ix.map fun i => t.bs.getD i .nil) = (Tr.srt t.bs).reverse)
    (G:=fun p s' => s' = s∧SM.Pm ws.length p∧SM.Up (O:=Tr.ord) (fun i => t.bs.getD i .nil) p ws.length) rfl h2 h64 (fun p st' s' hp har hf hG => ?_)
    (kasWp_of (lt:=SM.ltOf (O:=Tr.ord) fun i => t.bs.getD i .nil) (n:=ws.length) (fun i j C hi hj hC => ?_) _ (SM.sort (by lia)))
  · obtain ⟨rfl,hpm,hup⟩:=hG
    have h1 : p.toList.Perm (List.range ws.length) := by simpa using Array.perm_iff_toList_perm.mp hpm.perm
    refine ⟨rfl,hf,p.toList,by rw [Array.length_toList,hp],fun i hi => List.mem_range.mp (h1.mem_iff.mp hi),kat_snds rfl har,?_⟩
    have perm : (p.toList.map fun i => t.bs.getD i .nil).Perm t.bs := by
      have h3:=h1.map fun i => t.bs.getD i Tr.nil
      rwa [hl,map_getD] at h3
    refine Tr.srt_rev_of (List.pairwise_iff_getElem.mpr fun i j hi hj hij => ?_) perm
    rw [List.length_map,Array.length_toList,hp] at hi hj
    have:=hup i j (by lia) hj
    have e1 : ∀ k,k < ws.length→∀ hk,(p.toList.map fun i => t.bs.getD i Tr.nil)[k]'hk = t.bs.getD (p.getD k 0) .nil:=fun k hk hk' => by
      rw [List.getElem_map,Array.getElem_toList,Array.getD,dif_pos (by lia)]
      rfl
    rw [e1 i hi,e1 j hj]
    exact this
  · obtain ⟨a,its,q1,q2,q3,q4⟩:=key i hi
    obtain ⟨a',its',r1,r2,r3,r4⟩:=key j hj
    unfold kas_ask
    rw [q1,r1]
    exact ask_any hκ q2 q3 r2 r3 (by lia) hC
theorem short_out (b : Bool) (us : List Value) (hz : us.length < 2) : (if b = true then ((if b = true then (us.toArray.zip us.toArray).reverse else us.toArray.zip us.toArray).map (·.2)).reverse else (if b = true then (us.toArray.zip us.toArray).reverse else us.toArray.zip us.toArray).map (·.2)) = us.toArray := by
  match us,hz with
  | [],_ => cases b <;> simp
  | [x],_ => cases b <;> simp
theorem list_sort_tr {a : Addr} {us : List Value} {t : Tr} {n : Nat} {b : Bool} {P : PySem.Fin→Shared→Prop} (ho : s.heap.get? a = some (seqObj "list" us.toArray n)) (e : Vs s.heap t us) (h64 : us.length < 64) (hu : A.units + t.deep≤cLine)
    (h : ∀ ix : List Nat,ix.length = us.length→(∀ i∈ix,i < us.length)→(ix.map fun i => t.bs.getD i .nil) = (if b then Tr.srt t.bs else (Tr.srt t.bs).reverse)→P (.done (.ret .none)) { s with heap:=sortedHeap s.heap a us (ix.map fun i => us.getD i Value.none).toArray }) :
    wpAny (model prog w) A (Builtin.«list.sort» ⟨[.ref a],[(Str.ofString "reverse",.bool b)]⟩) P E s := by
  rw [list_sort_rev]
  have ha : a < s.heap.objs.size:=Heap.lt_size ho
  refine wpAny_bind (listItems_at ho rfl ?_)
  refine wpAny_bind (listUpdate_at ho rfl ?_ (by rw [List.size_toArray,sizeLine_eq]; lia) (Nat.zero_le _))
  obtain ⟨e1,ho1⟩ : ∃ e1,(s.heap.update a (Obj.mapSeq fun _ => #[])).get? a = some (seqObj "list" #[] e1):=⟨_,get?_update_seq ho (fun _ => #[])⟩
  refine wpAny_bind (seqEpoch_at ho1 rfl ?_)
  refine wpAny_bind (wpAny_newTuple ?_ (by show us.length≤_; rw [sizeLine_eq]; lia))
  refine wpAny_bind (wpAny_newList ?_ (Nat.zero_le _))
  refine wpAny_holding ?_
  have ho6 : (((s.heap.update a (Obj.mapSeq fun _ => #[])).push (seqObj "tuple" us.toArray 0)).push (seqObj "list" #[] 0)).get? a = some (seqObj "list" #[] e1) := by
    rw [Heap.get?_push_ne _ _ _ (by rw [size_push',Heap.size_update]; exact Nat.ne_of_lt (Nat.lt_succ_of_lt ha)),Heap.get?_push_ne _ _ _ (by rw [Heap.size_update]; exact Nat.ne_of_lt ha)]
    exact ho1
  have keep : ∀ c o,s.heap.get? c = some o→o.cls = .type "tuple" → (((s.heap.update a (Obj.mapSeq fun _ => #[])).push (seqObj "tuple" us.toArray 0)).push (seqObj "list" #[] 0)).get? c = some o:=fun c o hc hcl => by
    have hne : c≠a:=fun z => by
      rw [z,ho] at hc
      cases hc
      exact absurd (show Value.type "list" = Value.type "tuple" from hcl) (by decide)
    refine Heap.get?_push_of_some _ (Heap.get?_push_of_some _ ?_)
    rw [Heap.get?_update_ne _ _ _ _ hne]
    exact hc
  show wpAny (model prog w) A _ P E { s with heap:=((s.heap.update a (Obj.mapSeq fun _ => #[])).push (seqObj "tuple" us.toArray 0)).push (seqObj "list" #[] 0) }
  have e6:=e.keeps keep
  dsimp only
  have step : ∀ T : Sem PySem.Fin,wpAny (model prog w) A T P E { s with heap:=((s.heap.update a (Obj.mapSeq fun _ => #[])).push (seqObj "tuple" us.toArray 0)).push (seqObj "list" #[] 0) } →
      wpAny (model prog w) A (if b = true then (do let _ ← rule "list.sort.reverse"; T) else T) P E { s with heap:=((s.heap.update a (Obj.mapSeq fun _ => #[])).push (seqObj "tuple" us.toArray 0)).push (seqObj "list" #[] 0) } := by
    intro T hT
    split
    · exact wpAny_bind (wpAny_rule hT)
    · exact hT
  refine step _ ?_
  by_cases h2 : us.toArray.size < 2
  · rw [if_pos h2,if_pos h2]
    refine wpAny_bind (wpAny_pure ?_)
    rw [StateT.run_pure]
    refine wpAny_bind (wpAny_pure ?_)
    dsimp only
    have hz : us.length < 2 := by simpa using h2
    have hout:=short_out b us hz
    refine wpAny_bind (seqEpoch_at ho6 rfl ?_)
    refine wpAny_bind (listUpdate_at ho6 rfl ?_ (Nat.zero_le _) (by
      refine Nat.le_trans (Nat.le_of_eq (congrArg Array.size hout)) ?_
      rw [List.size_toArray,sizeLine_eq]; lia))
    simp only [bne_self_eq_false,Bool.false_eq_true,if_false]
    have hl : us.length = t.bs.length := by rw [e.length,Tr.len_bs]
    have fin:=h (List.range us.length) (by simp) (fun i hi => List.mem_range.mp hi) (by
      rw [hl,map_getD]
      match hbs : t.bs,(show t.bs.length < 2 by lia) with
      | [],_ => cases b <;> rfl
      | [_],_ => cases b <;> rfl)
    rw [map_getD] at fin
    rw [← hout] at fin
    exact wpAny_pure fin
  · rw [if_neg h2,if_neg h2]
    have hz : 2≤us.length := by simpa using h2
    refine wpAny_bind (kind_tr (s:={ s with heap:=((s.heap.update a (Obj.mapSeq fun _ => #[])).push (seqObj "tuple" us.toArray 0)).push (seqObj "list" #[] 0) }) e6 fun κ hκ => ?_)
    have hl : us.length = t.bs.length := by rw [e.length,Tr.len_bs]
    obtain ⟨ws,tw,ew,hwl,hws,hdp,pick⟩ : ∃ (ws : List Value) (tw : Tr),Vs (((s.heap.update a (Obj.mapSeq fun _ => #[])).push (seqObj "tuple" us.toArray 0)).push (seqObj "list" #[] 0)) tw ws∧ws.length = us.length ∧
        (if b = true then (us.toArray.zip us.toArray).reverse else us.toArray.zip us.toArray) = ws.toArray.zip ws.toArray∧tw.deep≤t.deep ∧
        ∀ (_b : Bool) (ix : List Nat),ix.length = ws.length→(∀ i∈ix,i < ws.length)→(ix.map fun i => tw.bs.getD i .nil) = (Tr.srt tw.bs).reverse→∃ iy : List Nat,iy.length = us.length∧(∀ i∈iy,i < us.length)∧(iy.map fun i => t.bs.getD i .nil) = (if b then Tr.srt t.bs else (Tr.srt t.bs).reverse) ∧
          (if b = true then ((ix.map fun i => ws.getD i Value.none).toArray).reverse else (ix.map fun i => ws.getD i Value.none).toArray) = (iy.map fun i => us.getD i Value.none).toArray := by
      cases b with
      | false => exact ⟨us,t,e6,rfl,rfl,Nat.le_refl _,fun _ ix h1 h2 h3 => ⟨ix,h1,h2,h3,rfl⟩⟩
      | true =>
        have hsrt : Tr.srt t.bs.reverse = Tr.srt t.bs:=Tr.srt_of (Tr.fall_srt _) ((Tr.perm_srt _).trans (List.reverse_perm _))
        refine ⟨us.reverse,Tr.of t.bs.reverse,e6.rev,by simp,kat_pairs (ks:=us) (vs:=us) true rfl,Tr.deep_rev t,fun _ ix h1 h2 h3 => ⟨(ix.map fun i => us.length - 1 - i).reverse,by simpa using h1,fun i hi => ?_,?_,?_⟩⟩
        · rw [List.mem_reverse,List.mem_map] at hi
          obtain ⟨k,hk,rfl⟩:=hi
          have:=h2 k hk
          rw [List.length_reverse] at this
          lia
        · rw [Tr.bs_of,hsrt] at h3
          rw [List.map_reverse,List.map_map]
          have : (ix.map ((fun i => t.bs.getD i Tr.nil) ∘ fun i => us.length - 1 - i)) = ix.map fun i => t.bs.reverse.getD i .nil:=List.map_congr_left fun i hi => by
            have:=h2 i hi
            rw [List.length_reverse] at this
            show t.bs.getD (us.length - 1 - i) Tr.nil = _
            rw [List.getD_eq_getElem?_getD,List.getD_eq_getElem?_getD,List.getElem?_reverse (by lia),hl]
          rw [this,h3,List.reverse_reverse]
          rfl
        · rw [if_pos rfl,List.map_reverse,List.map_map,List.reverse_toArray]
          congr 2
          exact List.map_congr_left fun i hi => by
            have:=h2 i hi
            rw [List.length_reverse] at this
            show us.reverse.getD i Value.none = us.getD (us.length - 1 - i) Value.none
            rw [List.getD_eq_getElem?_getD,List.getD_eq_getElem?_getD,List.getElem?_reverse (by lia)]
    rw [hws]
    refine wpAny_bind (wpAny_mono (sort_run (s:={ s with heap:=((s.heap.update a (Obj.mapSeq fun _ => #[])).push (seqObj "tuple" us.toArray 0)).push (seqObj "list" #[] 0) }) hκ ew (by lia) (by lia) (by lia)) ?_ fun _ _ z => z)
    rintro ⟨⟨⟩,st'⟩ s' ⟨rfl,hf,ix,hil,hix,hout,hst⟩
    dsimp only
    refine wpAny_bind (seqEpoch_at ho6 rfl ?_)
    obtain ⟨iy,y1,y2,y3,hfin⟩ : ∃ iy : List Nat,iy.length = us.length∧(∀ i∈iy,i < us.length)∧(iy.map fun i => t.bs.getD i .nil) = (if b then Tr.srt t.bs else (Tr.srt t.bs).reverse) ∧
        (if b = true then ((arrOf st').map (·.2)).reverse else (arrOf st').map (·.2)) = (iy.map fun i => us.getD i Value.none).toArray := by
      rw [show (arrOf st').map (·.2) = _ from hout]
      exact pick b ix hil hix hst
    refine wpAny_bind (listUpdate_at ho6 rfl ?_ (Nat.zero_le _) (by
      refine Nat.le_trans (Nat.le_of_eq (congrArg Array.size hfin)) ?_
      rw [List.size_toArray,List.length_map,y1,sizeLine_eq]; lia))
    rw [show failedOf st' = none from hf]
    simp only [bne_self_eq_false,Bool.false_eq_true,if_false]
    have fin:=h iy y1 y2 y3
    rw [← hfin] at fin
    exact wpAny_pure fin
end
end TH
namespace ET
open PySem
section
variable {prog : Program} {w : World} {A : Around} {E : Value→Shared→Prop} {s : Shared}
theorem next_item {it t : Addr} {i : Nat} {items} {x : Value} {Q : Value→Shared→Prop} (hit : s.heap.IsTupleIter it t i) (ht : s.heap.IsTuple t items) (hx : items[i]? = some x)
    (hQ : ∀ h',h'.IsTupleIter it t (i + 1)→Heap.SameBut it s.heap h'→Q x { s with heap:=h' }) : wpAny (model prog w) A (Builtin.SmallTypes.nextOf (.ref it)) Q E s := by
  obtain ⟨o,ho,hc,hd⟩:=id hit
  obtain ⟨ol,hol,_,nl,hdl⟩:=ht
  unfold Builtin.SmallTypes.nextOf
  refine wpAny_bind (wpAny_callSpecial?_slot (name:=Str.ofString "__next__") hit.typeIs F.slot_tuple_iterator_next
    (wpAny_call_entry F.slot_tuple_iterator_next hit.typeIs F.entry_tuple_iterator_next ?_ (F.args_tuple_iterator_next_1 _)))
  show wpAny _ _ (field (.ref it) 0 >>= _) _ _ s
  refine wpAny_bind (wpAny_field ho hd (x:=.ref t) rfl ?_)
  show wpAny _ _ (if (Value.ref t == Value.none) = true then _ else _) _ _ s
  rw [if_neg (show ¬ ((Value.ref t == Value.none) = true) from Bool.false_ne_true)]
  show wpAny _ _ (field (.ref it) 1 >>= _) _ _ s
  refine wpAny_bind (wpAny_field ho hd (x:=.int i 0) rfl ?_)
  show wpAny _ _ (seqItems? (.ref t) >>= _) _ _ s
  refine wpAny_bind (wpAny_seqItems hol hdl ?_)
  simp only [Int.toNat_natCast,hx]
  refine wpAny_bind (wpAny_setField ho hd (by simp) (wpAny_pure ⟨x,rfl,wpAny_pure (hQ _ ?_ (Heap.SameBut.update ..))⟩))
  exact ⟨_,Heap.get?_update_self _ ho (Obj.isFreed_of_fields (Obj.data_mapFields hd _)),(Obj.cls_mapFields ..).trans hc,by
    rw [Obj.data_mapFields hd]; simp [rawInt]⟩
theorem next_end {it t : Addr} {i : Nat} {items} {Q : Value→Shared→Prop} (hh : A.handled = none) (hit : s.heap.IsTupleIter it t i) (ht : s.heap.IsTuple t items) (hx : items[i]? = none)
    (hE : ∀ h' e,Heap.ExtBut it s.heap h'→(∃ o,h'.get? e = some o∧o.cls = .type "StopIteration")→E (.ref e) { s with heap:=h' }) : wpAny (model prog w) A (Builtin.SmallTypes.nextOf (.ref it)) Q E s := by
  obtain ⟨o,ho,hc,hd⟩:=id hit
  obtain ⟨ol,hol,_,nl,hdl⟩:=ht
  unfold Builtin.SmallTypes.nextOf
  refine wpAny_bind (wpAny_callSpecial?_slot (name:=Str.ofString "__next__") hit.typeIs F.slot_tuple_iterator_next
    (wpAny_call_entry F.slot_tuple_iterator_next hit.typeIs F.entry_tuple_iterator_next ?_ (F.args_tuple_iterator_next_1 _)))
  show wpAny _ _ (field (.ref it) 0 >>= _) _ _ s
  refine wpAny_bind (wpAny_field ho hd (x:=.ref t) rfl ?_)
  show wpAny _ _ (if (Value.ref t == Value.none) = true then _ else _) _ _ s
  rw [if_neg (show ¬ ((Value.ref t == Value.none) = true) from Bool.false_ne_true)]
  show wpAny _ _ (field (.ref it) 1 >>= _) _ _ s
  refine wpAny_bind (wpAny_field ho hd (x:=.int i 0) rfl ?_)
  show wpAny _ _ (seqItems? (.ref t) >>= _) _ _ s
  refine wpAny_bind (wpAny_seqItems hol hdl ?_)
  simp only [Int.toNat_natCast,hx]
  refine wpAny_bind (wpAny_rule (wpAny_bind (wpAny_setField ho hd (by simp) ?_)))
  show wpAny _ _ (newExc (.type "StopIteration") [] >>= _) _ _ _
  refine wpAny_bind ?_
  simp only [newExc,newTuple]
  refine wpAny_bind (wpAny_newObj_type ?_ (by size_fits))
  refine wpAny_bind (m:=firstArgMember _ _) (wpAny_of_eq (a:=Value.none) (by first | rfl | (simp only [firstArgMember]; rfl)) ?_)
  refine wpAny_newObj_type ?_ (by size_fits)
  simp only [raiseNew]
  refine wpAny_bind (wpAny_handled ?_)
  first | rw [show A.in1.handled = none from hh] | rw [hh]
  refine wpAny_bind (wpAny_pure (wpAny_throw ?_))
  exact hE _ _ (((Heap.SameBut.update ..).extBut.push _).push _) ⟨_,Heap.get?_push_size _ rfl,rfl⟩
end
section
open AutoSeq1 (wpAny_loadPart')
theorem new_tuple (l : Addr) (items : Array Value) (n : Nat) (dct : Option Addr) (sl : Array (Option Value)) :
    Meets (Builtin.«enumerate.__new__» ⟨[.type "enumerate",.ref l],[]⟩) (fun _ R s => s.heap.get? l = some { cls:=.type "tuple",dict:=dct,data:=.seq items n,slots:=sl } ∧
      R (.ok (.ret (.ref (s.heap.push { cls:=.type "tuple_iterator",data:=.fields #[.ref l,.int 0 0] }).objs.size)))
        { s with heap:=(s.heap.push { cls:=.type "tuple_iterator",data:=.fields #[.ref l,.int 0 0] }).push { cls:=.type "enumerate",data:=.fields #[.none,.bool false,.ref s.heap.objs.size,rawInt 0,.none,.none] } }) :=
  .of_wp fun prog w A R s h => by
    obtain ⟨hp,g,d,tk,os⟩:=s; obtain ⟨hl,h⟩:=h
    have hsub:=sub_enumerate
    have hL : Heap.IsTuple (Shared.heap ⟨hp,g,d,tk,os⟩) l items:=⟨_,hl,rfl,n,rfl⟩
    wp_walk using wpAny_loadPart' hl
    refine wpAny_stack_any fun st => wpAny_pure ?_
    split
    · rename_i c _ _ _ _ _
      cases (c == Value.type "enumerate")
      · wp_walk using wpAny_loadPart' hl,wpAny_pyIter_tuple hL
        exact ⟨_,rfl,h⟩
      · wp_walk using wpAny_loadPart' hl,wpAny_pyIter_tuple hL
        exact ⟨_,rfl,h⟩
    · wp_walk using wpAny_loadPart' hl,wpAny_pyIter_tuple hL
      exact ⟨_,rfl,h⟩
theorem call_enum {prog : Program} {w : World} {A : Around} {E : Value→Shared→Prop} {s : Shared} {l : Addr} {items : Array Value} {Q : Value→Shared→Prop} (hL : s.heap.IsTuple l items)
    (h : ∀ h',IsEnum h' (s.heap.objs.size + 1) s.heap.objs.size 0 .none→h'.IsTupleIter s.heap.objs.size l 0→h'.objs.size = s.heap.objs.size + 2 →
      (∀ b o,s.heap.get? b = some o→h'.get? b = some o)→Q (.ref (s.heap.objs.size + 1)) { s with heap:=h' }) :
    wpAny (model prog w) A (call (.type "enumerate") [.ref l]) Q E s := by
  obtain ⟨⟨c,dct,dt,sl⟩,hl,hc,n,hd⟩:=hL
  replace hc : c = .type "tuple" := hc
  replace hd : dt = .seq items n:=hd
  subst hc hd
  refine callType_new F.called_enumerate (by decide) (F.typeCall_enumerate_1 _) (F.newCall_enumerate_1 _) (fun obj => F.args_object_init_2 obj _) F.entry_enumerate_new
    (new_tuple l items n dct sl) ⟨hl,?_⟩
  have hz : (s.heap.push { cls:=.type "tuple_iterator",data:=.fields #[.ref l,.int 0 0] }).objs.size = s.heap.objs.size + 1:=Heap.size_push ..
  show _∧_
  rw [hz]
  have he : IsEnum ((s.heap.push { cls:=.type "tuple_iterator",data:=.fields #[.ref l,.int 0 0] }).push
      { cls:=.type "enumerate",data:=.fields #[.none,.bool false,.ref s.heap.objs.size,rawInt 0,.none,.none] }) (s.heap.objs.size + 1) s.heap.objs.size 0 .none := by
    have:=Heap.get?_push_size (s.heap.push { cls:=.type "tuple_iterator",data:=.fields #[.ref l,.int 0 0] })
      (o:={ cls:=.type "enumerate",data:=.fields #[.none,.bool false,.ref s.heap.objs.size,rawInt 0,.none,.none] }) rfl
    rw [hz] at this; exact this
  refine ⟨⟨_,he,rfl⟩,h _ he ⟨_,Heap.get?_push_of_some _ (Heap.get?_push_size _ rfl),rfl,rfl⟩ (by rw [Heap.size_push,hz]) fun b o x => Heap.get?_push_of_some _ (Heap.get?_push_of_some _ x)⟩
end
theorem draws {prog : Program} {w : World} {A : Around} (hh : A.handled = none) (it a : Addr) (its : List Value) (hne : a≠it) :
    Draws prog w A it [it,a] its.length (fun i x => its[i]? = some x) (fun i h => h.IsTupleIter it a i∧h.IsTuple a its.toArray) where
  live:=fun i h st => let ⟨o,e,_⟩:=st.1; ⟨o,e⟩
  frame:=fun i h h' st k => by
    obtain ⟨⟨o,e,r⟩,o2,e2,r2⟩:=st
    exact ⟨⟨o,k it (by simp) o e,r⟩,o2,k a (by simp) o2 e2,r2⟩
  item:=fun i s Q E hi st hQ => next_item st.1 st.2 (x:=its[i]) (by simp [hi]) fun h' st' sb =>
    hQ _ h' s.toks (by simp [hi]) ⟨st',let ⟨o,e,r⟩:=st.2; ⟨o,(sb.2 a hne).trans e,r⟩⟩ sb
  done:=fun s Q E st hE => next_end hh st.1 st.2 (by simp) hE
end ET
namespace L2
open PySem PySem.Spec PyProof.Rows
def Ts (H : Hp) : Tr→List V→Prop
  | .nil,xs => xs = []
  | .cons b r,xs => ∃ (a : Addr) (ys zs : List V),xs = .ref a :: zs∧H a = some (.tup ys)∧Ts H b ys∧Ts H r zs
def Tv (H : Hp) (t : Tr) (v : V) : Prop:=∃ (a : Addr) (ys : List V),v = .ref a∧H a = some (.tup ys)∧Ts H t ys
theorem Ts.same {H H' : Hp} (e : Same H H') : ∀ {t : Tr} {xs : List V},Ts H t xs→Ts H' t xs
  | .nil,xs,h => by rw [Ts] at h ⊢; exact h
  | .cons b r,xs,h => by
    rw [Ts] at h ⊢
    obtain ⟨a,ys,zs,e1,h1,h2,h3⟩:=h
    exact ⟨a,ys,zs,e1,e _ _ h1,h2.same e,h3.same e⟩
theorem Tv.same {H H' : Hp} {t : Tr} {v : V} (h : Tv H t v) (e : Same H H') : Tv H' t v:=let ⟨a,ys,e1,h1,h2⟩:=h; ⟨a,ys,e1,e _ _ h1,h2.same e⟩
def TupS (H H' : Hp) : Prop:=∀ b xs,H b = some (.tup xs)→H' b = some (.tup xs)
theorem TupS.upd {H : Hp} {l : Addr} {ys : List V} {o : HO} (hl : H l = some (.lst ys)) : TupS H (upd H l o):=fun b xs h => by
  rw [upd_ne (ne_of h hl (by intro z; cases z))]; exact h
theorem Ts.tups {H H' : Hp} (e : TupS H H') : ∀ {t : Tr} {xs : List V},Ts H t xs→Ts H' t xs
  | .nil,xs,h => by rw [Ts] at h ⊢; exact h
  | .cons b r,xs,h => by
    rw [Ts] at h ⊢
    obtain ⟨a,ys,zs,e1,h1,h2,h3⟩:=h
    exact ⟨a,ys,zs,e1,e _ _ h1,h2.tups e,h3.tups e⟩
theorem Tv.tups {H H' : Hp} {t : Tr} {v : V} (h : Tv H t v) (e : TupS H H') : Tv H' t v:=let ⟨a,ys,e1,h1,h2⟩:=h; ⟨a,ys,e1,e _ _ h1,h2.tups e⟩
theorem Ts.length {H : Hp} : ∀ {t : Tr} {xs : List V},Ts H t xs→xs.length = t.len
  | .nil,xs,h => by rw [Ts] at h; rw [h]; rfl
  | .cons b r,xs,h => by
    rw [Ts] at h
    obtain ⟨a,ys,zs,rfl,_,_,h3⟩:=h
    rw [List.length_cons,Tr.len,h3.length]
theorem Ts.len {H : Hp} {t : Tr} {xs : List V} (h : Ts H t xs) : xs.length = t.bs.length := by rw [h.length,Tr.len_bs]
theorem Ts.get {H : Hp} : ∀ {t : Tr} {xs : List V} {i : Nat} {v : V},Ts H t xs→xs[i]? = some v→∃ c,t.bs[i]? = some c∧Tv H c v
  | .nil,xs,i,v,h,e => by rw [Ts] at h; subst h; simp at e
  | .cons b r,xs,i,v,h,e => by
    rw [Ts] at h
    obtain ⟨a,ys,zs,rfl,h1,h2,h3⟩:=h
    cases i with
    | zero => simp at e; subst e; exact ⟨b,rfl,a,ys,rfl,h1,h2⟩
    | succ i =>
      obtain ⟨c,q1,q2⟩:=h3.get (i:=i) (v:=v) (by simpa using e)
      exact ⟨c,by simpa [Tr.bs] using q1,q2⟩
theorem Ts.of_all {H : Hp} : ∀ (ts : List Tr) (xs : List V),xs.length = ts.length→(∀ (i : Nat) (v : V),xs[i]? = some v→∃ c,ts[i]? = some c∧Tv H c v)→Ts H (Tr.of ts) xs
  | [],xs,hl,_ => by
    rw [Tr.of,Ts]
    exact List.eq_nil_of_length_eq_zero (by simpa using hl)
  | t :: ts,[],hl,_ => by simp at hl
  | t :: ts,x :: xs,hl,h => by
    rw [Tr.of,Ts]
    obtain ⟨c,e1,a,ys,rfl,h1,h2⟩:=h 0 x rfl
    simp at e1
    subst e1
    exact ⟨a,ys,xs,rfl,h1,h2,Ts.of_all ts xs (by simpa using hl) fun i v e => by
      obtain ⟨c,q1,q2⟩:=h (i + 1) v (by simpa using e)
      exact ⟨c,by simpa using q1,q2⟩⟩
theorem Ts.nil {H : Hp} : Ts H .nil [] := by rw [Ts]
theorem Ts.cons {H : Hp} {b r : Tr} {v : V} {zs : List V} (h : Tv H b v) (k : Ts H r zs) : Ts H (.cons b r) (v :: zs) := by
  obtain ⟨a,ys,rfl,h1,h2⟩:=h
  rw [Ts]
  exact ⟨a,ys,zs,rfl,h1,h2,k⟩
theorem Ts.append {H : Hp} {t u : Tr} {xs ys : List V} (h : Ts H t xs) (k : Ts H u ys) : Ts H (Tr.of (t.bs ++ u.bs)) (xs ++ ys) := by
  refine Ts.of_all _ _ (by simp [h.len,k.len]) fun i v e => ?_
  by_cases hi : i < xs.length
  · rw [List.getElem?_append_left hi] at e
    rw [List.getElem?_append_left (by rw [← h.len]; exact hi)]
    exact h.get e
  · rw [List.getElem?_append_right (by lia)] at e
    rw [List.getElem?_append_right (by rw [← h.len]; lia),← h.len]
    exact k.get e
theorem Ts.rev {H : Hp} {t : Tr} {xs : List V} (h : Ts H t xs) : Ts H (Tr.of t.bs.reverse) xs.reverse := by
  have hl:=h.len
  refine Ts.of_all _ _ (by simp [hl]) fun i v e => ?_
  have hi : i < xs.length := by
    have:=(List.getElem?_eq_some_iff.mp e).1
    simpa using this
  rw [List.getElem?_reverse hi] at e
  rw [List.getElem?_reverse (by lia),← hl]
  exact h.get e
theorem Ts.pick {H : Hp} {t : Tr} {xs : List V} (h : Ts H t xs) (ix : List Nat) (hi : ∀ i∈ix,i < xs.length) : Ts H (Tr.of (ix.map fun i => t.bs.getD i .nil)) (ix.map fun i => xs.getD i .non) := by
  refine Ts.of_all _ _ (by simp) fun i v e => ?_
  rw [List.getElem?_map] at e ⊢
  cases q : ix[i]? with
  | none => rw [q] at e; cases e
  | some k =>
    rw [q] at e
    have hk : k < xs.length:=hi k (List.mem_of_getElem? q)
    simp only [Option.map_some,Option.some.injEq] at e
    obtain ⟨c,q1,q2⟩:=h.get (i:=k) (v:=v) (by rw [← e,List.getD_eq_getElem?_getD,List.getElem?_eq_getElem hk]; rfl)
    refine ⟨c,?_,q2⟩
    simp only [Option.map_some,List.getD_eq_getElem?_getD,q1]
    rfl
section
variable {X : Cx} {pins : List (Addr×Obj)} {σ : St} {H : Hp} {s : Shared}
theorem Ts.vs (I : Inv X pins σ H s) : ∀ {t : Tr} {xs : List V} {us : List Value},Ts H t xs→Vals xs us→TH.Vs s.heap t us
  | .nil,xs,us,h,r => by
    rw [Ts] at h
    subst h
    cases r
    rw [TH.Vs]
  | .cons b rr,xs,us,h,r => by
    rw [Ts] at h
    obtain ⟨a,ys,zs,rfl,h1,h2,h3⟩:=h
    cases r with
    | cons r1 r2 =>
      cases r1
      obtain ⟨its,rv,p,_⟩:=I.tuple (SqT.of (K:=X.K) h1)
      rw [TH.Vs]
      exact ⟨a,its,_,rfl,p,Ts.vs I h2 rv,Ts.vs I h3 r2⟩
theorem Tv.at (I : Inv X pins σ H s) {t : Tr} {v : V} {u : Value} (h : Tv H t v) (r : RelV v u) : ∃ (a : Addr) (its : List Value),u = .ref a∧s.heap.IsTuple a its.toArray∧TH.Vs s.heap t its := by
  obtain ⟨a,ys,rfl,h1,h2⟩:=h
  cases r
  obtain ⟨its,rv,p,_⟩:=I.tuple (SqT.of (K:=X.K) h1)
  exact ⟨a,its,rfl,p,Ts.vs I h2 rv⟩
def rGtTr : R2:=fun x y H Q => ∃ t u,Tv H t x∧Tv H u y∧t.deep≤60∧Q (.bl (Tr.lt u t)) H
theorem op_gtTr (hu : X.A.units + 64 < cLine) : OpR X (compareOp .Gt) rGtTr := by
  intro pins s σ H x y v u' Q I rx ry h
  obtain ⟨t,u,h1,h2,hd,q⟩:=h
  obtain ⟨a,its,rfl,p1,k1⟩:=h1.at I rx
  obtain ⟨b,its',rfl,p2,k2⟩:=h2.at I ry
  exact TH.rc_gt (t.deep + 1) t u X.A s a b its its' (Nat.lt_succ_self _) p1 k1 p2 k2 (by lia) X.prog X.w X.xe _ ⟨.bl _,H,I,rfl,q⟩
end
def Ite (K : PySem.W.Frag) (a : Addr) : It :=
  ⟨fun i H => ∃ xs x,SqT K H a xs∧xs[i]? = some x,fun i H v H' => ∃ p x,v = .ref p∧H p = none∧H' = upd H p (.tup [.int i,x])∧∀ xs,SqT K H a xs→xs[i]? = some x,fun i H => ∃ xs,SqT K H a xs∧xs.length = i⟩
theorem turn_enum {P : Program} {w : World} {K : PySem.W.Frag} {elts : List Expr} {x1} {pos : Pos} (a e it : Addr) (hne : e≠it) :
    Turn P w K (.Tuple elts x1 pos) (Ite K a) [e,it] e (fun i h => (∃ old,IsEnum h e it (i : Nat) old)∧h.IsTupleIter it a i) where
  mem := by simp
  obj:=fun i h st b hb => by
    rcases List.mem_cons.mp hb with rfl | hb
    · obtain ⟨⟨old,q⟩,_⟩:=st
      exact ⟨_,q,fun v z => by cases z⟩
    · have e2 : b = it := by simpa using hb
      subst e2
      obtain ⟨_,o,q,c,d⟩:=st
      exact ⟨o,q,fun v z => by rw [d] at z; cases z⟩
  keep:=fun i h h' st k => by
    obtain ⟨⟨old,q⟩,o,q2,r⟩:=st
    exact ⟨⟨old,k e (by simp) _ q⟩,o,k it (by simp) _ q2,r⟩
  item := by
    intro X hP hw hK hc i pins s σ H E I hf st hg
    subst hP hw hK
    obtain ⟨xs,x,hq,hx⟩:=hg
    obtain ⟨its,rv,p,hz⟩:=I.tuple hq
    obtain ⟨u,hu,ru⟩:=rv.get hx
    obtain ⟨⟨old,he⟩,hit⟩:=st
    have hai : a≠it:=fun z => by
      obtain ⟨o,e1,c1,_⟩:=p
      obtain ⟨o2,e2,c2,_⟩:=hit
      rw [z,e2] at e1; cases e1
      rw [c1] at c2; exact absurd c2 (by decide)
    have hae : a≠e:=fun z => by
      obtain ⟨o,e1,c1,_⟩:=p
      rw [z,he] at e1; cases e1
      exact absurd (show Value.type "enumerate" = Value.type "tuple" from c1) (by decide)
    have hlt : i < its.length:=(List.getElem?_eq_some_iff.mp hu).1
    have hE0:=hf e (by simp)
    have hI0:=hf it (by simp)
    refine wpAny_pyNext_enum_itemD (ET.draws (prog:=X.prog) (w:=X.w) (A:=X.A.in1) (I.ok.hd hc) it a its hai) he ⟨hit,p⟩ hlt hne (by simp [hne,Ne.symm hae]) fun y h' tk hy ho hs' hT hsz hk => ⟨_,rfl,wpAny_letOwnedTupleGo_enum (s:={ s with heap:=h',toks:=tk + 1 }) ho fun h'' he'' sb => ?_⟩
    have hyu : y = u := by rw [hu] at hy; exact (Option.some.inj hy).symm
    subst hyu
    have keep : ∀ b o,b≠e→b≠it→s.heap.get? b = some o→h''.get? b = some o:=fun b o h1 h2 q => (sb.2 b h1).trans (hk b o h1 h2 q)
    have hTe : s.heap.objs.size≠e:=Nat.ne_of_gt (Heap.lt_size he)
    have hTi : s.heap.objs.size≠it:=let ⟨_,q,_⟩:=hit; Nat.ne_of_gt (Heap.lt_size q)
    have hT'' : h''.get? s.heap.objs.size = some { cls:=.type "tuple",data:=.seq #[.int i tk,y] }:=(sb.2 _ hTe).trans hT
    have hTn : H s.heap.objs.size = none:=I.hok.fresh (Nat.le_refl _)
    have neT : ∀ b o,s.heap.get? b = some o→b≠s.heap.objs.size:=fun b o q => Nat.ne_of_lt (Heap.lt_size q)
    have trk : ∀ b o,H b = some o→b≠e∧b≠it:=fun b o q => ⟨(fun z => by rw [z,hE0.1] at q; cases q),(fun z => by rw [z,hI0.1] at q; cases q)⟩
    refine ⟨.ref s.heap.objs.size,upd H s.heap.objs.size (.tup [.int i,x]),?_,rfl,⟨_,x,rfl,hTn,rfl,fun ys hy => by rw [I.tuple_inj hy hq]; exact hx⟩,⟨⟨_,by simpa using he''⟩,?_⟩,fun b hb => ?_⟩
    · show Inv X pins σ _ { s with heap:=h'',gens:=s.gens,drawn:=s.drawn,toks:=tk + 1 }
      refine I.step (h':=h'') (g':=s.gens) (d':=s.drawn) (t':=tk + 1) (ch:=[e,it]) (fun b hb => ?_) (fun b o _ _ hc q _ => keep b o (fun z => hc (by simp [z])) (fun z => hc (by simp [z])) q) (fun b o _ _ hc q _ => ⟨o.slots,keep b o (fun z => hc (by simp [z])) (fun z => hc (by simp [z])) q⟩)
        (fun b o _ q n => by rw [upd_ne (neT b o q)]; exact n) (fun b o hc q => ⟨o,keep b o (fun z => hc (by simp [z])) (fun z => hc (by simp [z])) q⟩) (fun b ys q => by rw [upd_ne (ne_of_none q hTn)]; exact q) (fun b o u q => by rw [upd_ne (ne_of_none q hTn)]; exact q)
        (fun b ps q => ⟨#[],by rw [upd_ne (ne_of_none q hTn),q]; simp⟩) (fun b _ o hc _ q => keep b o (fun z => hc (by simp [z])) (fun z => hc (by simp [z])) q) (fun m hm => ?_) (fun b o q => ?_) I.bare
      · rcases List.mem_cons.mp hb with rfl | hb
        · exact ⟨hE0.2.2.2.1,hE0.2.1,hE0.2.2.2.2.1,hE0.2.2.2.2.2⟩
        · have e2 : b = it := by simpa using hb
          subst e2
          exact ⟨hI0.2.2.2.1,hI0.2.1,hI0.2.2.2.2.1,hI0.2.2.2.2.2⟩
      · obtain ⟨o,es,ep,ho,r⟩:=hm
        exact ⟨o,es,ep,keep _ o (Ne.symm hE0.2.1) (Ne.symm hI0.2.1) ho,r⟩
      · by_cases hb : b = s.heap.objs.size
        · subst hb
          rw [upd_same] at q
          cases q
          exact ⟨sz2,[.int i tk,y],.cons ⟨tk,rfl⟩ (.cons ru .nil),_,hT'',rfl,_,rfl⟩
        · rw [upd_ne hb] at q
          refine (I.hok b o q).stay (fun c v hc r => keep c v ?_ ?_ r) (fun c r => by rw [upd_ne (ne_of_none r hTn)]; exact r) fun c ys r => by rw [upd_ne (ne_of_none r hTn)]; exact r
          · rcases hc with rfl | hc
            · exact (trk _ _ q).1
            · exact (trk _ _ hc).1
          · rcases hc with rfl | hc
            · exact (trk _ _ q).2
            · exact (trk _ _ hc).2
    · obtain ⟨⟨o,q,r⟩,_⟩:=hs'
      exact ⟨o,(sb.2 it (Ne.symm hne)).trans q,r⟩
    · rcases List.mem_cons.mp hb with rfl | hb
      · rw [upd_ne (Ne.symm hTe)]; exact hE0.1
      · have e2 : b = it := by simpa using hb
        subst e2
        rw [upd_ne (Ne.symm hTi)]; exact hI0.1
  done := by
    intro X hP hw hK hc i pins s σ H E I hf st hg
    subst hP hw hK
    obtain ⟨xs,hq,hx⟩:=hg
    obtain ⟨its,rv,p,hz⟩:=I.tuple hq
    obtain ⟨⟨old,he⟩,hit⟩:=st
    have hai : a≠it:=fun z => by
      obtain ⟨o,e1,c1,_⟩:=p
      obtain ⟨o2,e2,c2,_⟩:=hit
      rw [z,e2] at e1; cases e1
      rw [c1] at c2; exact absurd c2 (by decide)
    have hl : its.length = i := by rw [← rv.length]; exact hx
    subst hl
    obtain ⟨f0,f1,f2,f3,f4,f5⟩:=hf it (by simp)
    exact wpAny_pyNext_enum_endD (ET.draws (prog:=X.prog) (w:=X.w) (A:=X.A.in1) (I.ok.hd hc) it a its hai) he ⟨hit,p⟩ fun h' eb => ⟨rfl,I.turned (t':=s.toks) (fun b o hb q => eb b o hb q) f0 f1 f3 f4 f5⟩
  self:=fun _ _ _ _ _ st h => by
    obtain ⟨⟨old,he⟩,_⟩:=st
    exact wpAny_pyIter_enum he h
def iEnum (K : PySem.W.Frag) (ta : TA) : TI:=fun σ H R => ta σ H fun vs H1 => ∃ a,vs = [.ref a]∧(∃ xs,SqT K H1 a xs)∧R (Ite K a) H1
theorem pi_enum {X : Cx} {elts : List Expr} {x1} {tpos : Pos} {a : Expr} {ta : TA} {p pos : Pos} (hg : Gl X "enumerate") (hm : X.mg "enumerate" = none) (ha : PA X [a] ta) (hs : starEach [a] X.env = [(false,eval a X.env)] := by rfl) :
    PI X (.Tuple elts x1 tpos) (.Call (.Name "enumerate" p) [a] [] pos) (iEnum X.K ta) := by
  intro pins s σ H R I h
  refine Call_ (ld_blt I hg hm boot_enumerate (PyProof.Rows.callWith_type1 (thn (ha pos pins s σ H _ I h) fun us s1 ⟨vs,H1,I1,r1,q1⟩ => ?_) hs rfl))
  obtain ⟨t,e,⟨xs,hq⟩,q⟩:=q1
  subst e
  cases r1 with
  | cons r rr =>
    cases rr
    cases r
    obtain ⟨its,rv,p',hz⟩:=I1.tuple hq
    refine ET.call_enum (show s1.heap.IsTuple t its.toArray from p') fun h' he hit hsz hk => wpAny_pyIter_enum he ?_
    have I2 : Inv X pins σ H1 { s1 with heap:=h' }:=I1.kept (t':=s1.toks) hk
    have hn : s1.heap.objs.size + 1≠s1.heap.objs.size := by lia
    refine ⟨s1.heap.objs.size + 1,[s1.heap.objs.size + 1,s1.heap.objs.size],_,_,H1,rfl,I2,turn_enum t _ _ hn,⟨⟨_,he⟩,hit⟩,fun b hb => ?_,q⟩
    have hb' : s1.heap.objs.size≤b := by
      have hb2 : b = s1.heap.objs.size + 1∨b = s1.heap.objs.size := by simpa using hb
      rcases hb2 with z | z
      · rw [z]; exact Nat.le_succ _
      · rw [z]; exact Nat.le_refl _
    exact I1.fpOk hb' (I1.hok.fresh hb')
end L2
namespace TH
open PySem PySem.W PyProof.Rows PySem.SeqAt
section
variable {prog : Program} {w : World} {A : Around} {E : Value→Shared→Prop} {s : Shared}
theorem sort_plain_rev (a : Addr) : Builtin.«list.sort» ⟨[.ref a],[]⟩ = Builtin.«list.sort» ⟨[.ref a],[(Str.ofString "reverse",.bool false)]⟩ := by
  rw [list_sort_rev,list_sort_plain]
  rfl
theorem list_sort_tr0 {a : Addr} {us : List Value} {t : Tr} {n : Nat} {P : PySem.Fin→Shared→Prop} (ho : s.heap.get? a = some (seqObj "list" us.toArray n)) (e : Vs s.heap t us) (h64 : us.length < 64) (hu : A.units + t.deep≤cLine)
    (h : ∀ ix : List Nat,ix.length = us.length→(∀ i∈ix,i < us.length)→(ix.map fun i => t.bs.getD i .nil) = (Tr.srt t.bs).reverse→P (.done (.ret .none)) { s with heap:=sortedHeap s.heap a us (ix.map fun i => us.getD i Value.none).toArray }) :
    wpAny (model prog w) A (Builtin.«list.sort» ⟨[.ref a],[]⟩) P E s := by
  rw [sort_plain_rev]
  exact list_sort_tr (b:=false) ho e h64 hu h
theorem collect_tup {l : Addr} {vs : List Value} {Q : List Value→Shared→Prop} (hl : s.heap.IsTuple l vs.toArray)
    (h : Q vs { s with heap:=(s.heap.push (seqObj "list" #[] 0)).update s.heap.objs.size (Obj.mapSeq (· ++ vs.toArray)) }) (hsz : vs.length≤sizeLine) :
    wpAny (model prog w) A (collect (.ref l)) Q E s := by
  obtain ⟨o,ho,hc,n,hd⟩:=id hl
  unfold collect
  refine wpAny_bind (wpAny_runValue (codeAny_builtin entry_proto_collect' ?_))
  show wpAny _ _ (do again (.builtin "list.__iadd__" ⟨[← newList [],.ref l],[]⟩)) _ _ s
  refine wpAny_bind (wpAny_newList (wpAny_pure ⟨Code.quiet_builtin _ (by decide +kernel),codeAny_builtin entry_list_iadd' ?_⟩))
  show wpAny _ _ (Builtin.List.listExtendWith (.ref s.heap.objs.size) (.ref l) (.ref s.heap.objs.size)) _ _ { s with heap:=s.heap.push (seqObj "list" #[] 0) }
  unfold Builtin.List.listExtendWith
  have ho' : (s.heap.push (seqObj "list" #[] 0)).get? l = some o:=Heap.get?_push_of_some _ ho
  refine wpAny_bind (wpAny_typeOf (T := "tuple") ⟨o,ho',hc⟩ ?_)
  have ht : (Value.type "tuple" == Value.type "tuple") = true := by rfl
  rw [if_pos (by rw [ht]; simp)]
  refine wpAny_bind (listItems_at ho' hd ?_)
  refine wpAny_bind (listItems_at (xs:=#[]) (n:=0) (Heap.get?_push_size _ rfl) rfl ?_)
  rw [if_neg (by simp)]
  refine wpAny_bind (listUpdate_at (xs:=#[]) (n:=0) (Heap.get?_push_size _ rfl) rfl ?_ (Nat.zero_le _) (by show (#[] ++ vs.toArray).size≤sizeLine + 1; simp only [Array.size_append,List.size_toArray,List.length_nil]; lia))
  refine wpAny_pure ?_
  show wpAny (model prog w) A (do
      let o ← load s.heap.objs.size
      match o.data with
      | .seq xs _ => pure xs.toList
      | _ => unsupported "internal:collect") Q E { s with heap:=(s.heap.push (seqObj "list" #[] 0)).update s.heap.objs.size (Obj.mapSeq (· ++ vs.toArray)) }
  refine wpAny_bind (wpAny_load (get?_update_seq (Heap.get?_push_size _ rfl) _) ?_)
  show wpAny _ _ (pure ((#[] : Array Value) ++ vs.toArray).toList) Q E _
  rw [show ((#[] : Array Value) ++ vs.toArray).toList = vs by simp]
  exact wpAny_pure h
theorem collect_any {l : Addr} {vs : List Value} {Q : List Value→Shared→Prop} (hl : s.heap.IsList l vs.toArray∨s.heap.IsTuple l vs.toArray)
    (h : Q vs { s with heap:=(s.heap.push (seqObj "list" #[] 0)).update s.heap.objs.size (Obj.mapSeq (· ++ vs.toArray)) }) (hsz : vs.length≤sizeLine) : wpAny (model prog w) A (collect (.ref l)) Q E s:=hl.elim (fun z => collect_list z h hsz) fun z => collect_tup z h hsz
theorem sorted_list {l : Addr} {us : List Value} {t : Tr} {Q : Value→Shared→Prop} (hl : s.heap.IsList l us.toArray∨s.heap.IsTuple l us.toArray) (e : Vs s.heap t us) (h64 : us.length < 64) (hu : A.units + 2 + t.deep≤cLine)
    (h : ∀ (h' : Heap) (ix : List Nat) (e1 : Nat),ix.length = us.length→(∀ i∈ix,i < us.length)→(ix.map fun i => t.bs.getD i .nil) = (Tr.srt t.bs).reverse→(∀ c o,s.heap.get? c = some o→h'.get? c = some o) →
      h'.get? (s.heap.objs.size + 1) = some (seqObj "list" (ix.map fun i => us.getD i Value.none).toArray e1)→Q (.ref (s.heap.objs.size + 1)) { s with heap:=h' }) :
    wpAny (model prog w) A (call (.builtin "sorted") [.ref l]) Q E s := by
  refine Calls.call_function_entry kind_sorted plain_sorted entry_sorted (args_sorted1 _) ?_
  unfold Builtin.«sorted»
  refine wpAny_bind (m:=checkCount "sorted" 1 1 _) (wpAny_pure ?_)
  refine wpAny_bind (collect_any hl ?_ (by rw [sizeLine_eq]; lia))
  refine wpAny_bind (wpAny_newList ?_ (by rw [sizeLine_eq]; lia))
  have hsz : ((s.heap.push (seqObj "list" #[] 0)).update s.heap.objs.size (Obj.mapSeq (· ++ us.toArray))).objs.size = s.heap.objs.size + 1 := by
    rw [Heap.size_update,size_push']
  have hoL : (((s.heap.push (seqObj "list" #[] 0)).update s.heap.objs.size (Obj.mapSeq (· ++ us.toArray))).push (seqObj "list" us.toArray 0)).get? (s.heap.objs.size + 1) = some (seqObj "list" us.toArray 0) := by
    rw [← hsz]; exact Heap.get?_push_size _ rfl
  have keep : ∀ b o,s.heap.get? b = some o→o.cls = .type "tuple" → (((s.heap.push (seqObj "list" #[] 0)).update s.heap.objs.size (Obj.mapSeq (· ++ us.toArray))).push (seqObj "list" us.toArray 0)).get? b = some o:=fun b o q _ => by
    have hlt : b < s.heap.objs.size:=Heap.lt_size q
    rw [Heap.get?_push_ne _ _ _ (by rw [hsz]; exact Nat.ne_of_lt (Nat.lt_succ_of_lt hlt)),Heap.get?_update_ne _ _ _ _ (Nat.ne_of_lt hlt),Heap.get?_push_ne _ _ _ (Nat.ne_of_lt hlt)]
    exact q
  show wpAny _ _ _ _ _ { s with heap:=((s.heap.push (seqObj "list" #[] 0)).update s.heap.objs.size (Obj.mapSeq (· ++ us.toArray))).push (seqObj "list" us.toArray 0) }
  rw [hsz]
  refine wpAny_bind (wpAny_holding (wpAny_call_entry slot_list_sort ⟨_,hoL,rfl⟩ entry_list_sort (list_sort_tr0 (s:={ s with heap:=((s.heap.push (seqObj "list" #[] 0)).update s.heap.objs.size (Obj.mapSeq (· ++ us.toArray))).push (seqObj "list" us.toArray 0) }) hoL (e.keeps keep) h64 (by
    rw [show A.in1.in1.units = A.units + 2 from rfl]; lia) fun ix a1 a2 a3 => ⟨_,rfl,?_⟩) (args_list_sort _)))
  obtain ⟨e1,he1⟩:=sortedAll_at s.heap us (ix.map fun i => us.getD i Value.none).toArray
  exact wpAny_pure ⟨_,rfl,h _ ix e1 a1 a2 a3 (fun _ _ => sortedAll_old) he1⟩
theorem sorted_listR {l : Addr} {us : List Value} {t : Tr} {b : Bool} {Q : Value→Shared→Prop} (hl : s.heap.IsList l us.toArray∨s.heap.IsTuple l us.toArray) (e : Vs s.heap t us) (h64 : us.length < 64) (hu : A.units + 2 + t.deep≤cLine)
    (h : ∀ (h' : Heap) (ix : List Nat) (e1 : Nat),ix.length = us.length→(∀ i∈ix,i < us.length)→(ix.map fun i => t.bs.getD i .nil) = (if b then Tr.srt t.bs else (Tr.srt t.bs).reverse)→(∀ c o,s.heap.get? c = some o→h'.get? c = some o) →
      h'.get? (s.heap.objs.size + 1) = some (seqObj "list" (ix.map fun i => us.getD i Value.none).toArray e1)→Q (.ref (s.heap.objs.size + 1)) { s with heap:=h' }) :
    wpAny (model prog w) A (call (.builtin "sorted") [.ref l] [(Str.ofString "reverse",.bool b)]) Q E s := by
  refine call_function_entry_kw kind_sorted plain_sorted entry_sorted (args_sorted_rev _ _) ?_
  unfold Builtin.«sorted»
  refine wpAny_bind (m:=checkCount "sorted" 1 1 _) (wpAny_pure ?_)
  refine wpAny_bind (collect_any hl ?_ (by rw [sizeLine_eq]; lia))
  refine wpAny_bind (wpAny_newList ?_ (by rw [sizeLine_eq]; lia))
  have hsz : ((s.heap.push (seqObj "list" #[] 0)).update s.heap.objs.size (Obj.mapSeq (· ++ us.toArray))).objs.size = s.heap.objs.size + 1 := by
    rw [Heap.size_update,size_push']
  have hoL : (((s.heap.push (seqObj "list" #[] 0)).update s.heap.objs.size (Obj.mapSeq (· ++ us.toArray))).push (seqObj "list" us.toArray 0)).get? (s.heap.objs.size + 1) = some (seqObj "list" us.toArray 0) := by
    rw [← hsz]; exact Heap.get?_push_size _ rfl
  have keep : ∀ b o,s.heap.get? b = some o→o.cls = .type "tuple" → (((s.heap.push (seqObj "list" #[] 0)).update s.heap.objs.size (Obj.mapSeq (· ++ us.toArray))).push (seqObj "list" us.toArray 0)).get? b = some o:=fun b o q _ => by
    have hlt : b < s.heap.objs.size:=Heap.lt_size q
    rw [Heap.get?_push_ne _ _ _ (by rw [hsz]; exact Nat.ne_of_lt (Nat.lt_succ_of_lt hlt)),Heap.get?_update_ne _ _ _ _ (Nat.ne_of_lt hlt),Heap.get?_push_ne _ _ _ (Nat.ne_of_lt hlt)]
    exact q
  show wpAny _ _ _ _ _ { s with heap:=((s.heap.push (seqObj "list" #[] 0)).update s.heap.objs.size (Obj.mapSeq (· ++ us.toArray))).push (seqObj "list" us.toArray 0) }
  rw [hsz]
  refine wpAny_bind (wpAny_holding (wpAny_call_entry_kw slot_list_sort ⟨_,hoL,rfl⟩ entry_list_sort (list_sort_tr (b := b) (s:={ s with heap:=((s.heap.push (seqObj "list" #[] 0)).update s.heap.objs.size (Obj.mapSeq (· ++ us.toArray))).push (seqObj "list" us.toArray 0) }) hoL (e.keeps keep) h64 (by
    rw [show A.in1.in1.units = A.units + 2 from rfl]; lia) fun ix a1 a2 a3 => ⟨_,rfl,?_⟩) (args_list_sort_rev _ _)))
  obtain ⟨e1,he1⟩:=sortedAll_at s.heap us (ix.map fun i => us.getD i Value.none).toArray
  exact wpAny_pure ⟨_,rfl,h _ ix e1 a1 a2 a3 (fun _ _ => sortedAll_old) he1⟩
end
end TH
namespace L2
open PySem PySem.Spec PyProof.Rows
theorem Vals.pick {xs : List V} {us : List Value} (r : Vals xs us) : ∀ ix : List Nat,(∀ i∈ix,i < xs.length)→Vals (ix.map fun i => xs.getD i .non) (ix.map fun i => us.getD i Value.none)
  | [],_ => .nil
  | i :: ix,h => by
    refine .cons ?_ (Vals.pick r ix fun k hk => h k (List.mem_cons_of_mem _ hk))
    have hi:=h i List.mem_cons_self
    obtain ⟨u,h1,h2⟩:=r.get (i:=i) (x:=xs[i]) (by simp [hi])
    show RelV (xs.getD i .non) (us.getD i Value.none)
    rw [List.getD_eq_getElem?_getD,List.getD_eq_getElem?_getD,h1,List.getElem?_eq_getElem hi]
    exact h2
section
variable {X : Cx}
def rSort (K : PySem.W.Frag) : List V→Hp→VK→Prop:=fun xs H Q => ∃ (p : Addr) (ys : List V) (t : Tr),xs = [.ref p]∧(SqL K H p ys∨SqT K H p ys)∧Ts H t ys∧ys.length < 64∧t.deep≤60 ∧
  ∀ (l : Addr) (zs : List V),H l = none→Ts H (Tr.of (Tr.srt t.bs).reverse) zs→Q (.ref l) (upd H l (.lst zs))
def rSortR (K : PySem.W.Frag) : List V→Hp→VK→Prop:=fun xs H Q => ∃ (p : Addr) (ys : List V) (t : Tr),xs = [.ref p]∧(SqL K H p ys∨SqT K H p ys)∧Ts H t ys∧ys.length < 64∧t.deep≤60 ∧
  ∀ (l : Addr) (zs : List V),H l = none→Ts H (Tr.of (Tr.srt t.bs)) zs→Q (.ref l) (upd H l (.lst zs))
theorem sort_fin {pins : List (Addr×Obj)} {σ : St} {H : Hp} {s : Shared} {Q : VK} {t : Tr} {ts : List Tr} {ys : List V} {its : List Value} {h' : Heap} {ix : List Nat} {e1 : Nat} (I : Inv X pins σ H s) (ht : Ts H t ys) (rv : Vals ys its) (h64 : ys.length < 64)
    (a1 : ix.length = its.length) (a2 : ∀ i∈ix,i < its.length) (a3 : (ix.map fun i => t.bs.getD i .nil) = ts) (keep : ∀ c o,s.heap.get? c = some o→h'.get? c = some o)
    (hD : h'.get? (s.heap.objs.size + 1) = some (seqObj "list" (ix.map fun i => its.getD i Value.none).toArray e1)) (q : ∀ (l : Addr) (zs : List V),H l = none→Ts H (Tr.of ts) zs→Q (.ref l) (upd H l (.lst zs))) :
    EP X pins σ Q (.ref (s.heap.objs.size + 1)) { s with heap:=h' } := by
  have hl:=rv.length
  have a2' : ∀ i∈ix,i < ys.length:=fun i hi => by rw [hl]; exact a2 i hi
  refine ⟨.ref (s.heap.objs.size + 1),upd H (s.heap.objs.size + 1) (.lst (ix.map fun i => ys.getD i .non)),I.laid (t':=s.toks) keep (Nat.le_succ _) ⟨?_,_,e1,rv.pick ix a2',hD⟩,rfl,q _ _ (I.hok.fresh (Nat.le_succ _)) ?_⟩
  · rw [List.length_map,a1,← hl]
    exact Nat.le_of_lt (Nat.lt_of_lt_of_le h64 (by rw [sizeLine_eq]; decide))
  · rw [← a3]
    exact ht.pick ix a2'
theorem call_sort (hu : X.A.units + 64 < cLine) : CallR X (.builtin "sorted") (rSort X.K) := by
  intro pins s σ H xs us Q I r h
  obtain ⟨p,ys,t,rfl,hq,ht,h64,hd,q⟩:=h
  obtain ⟨u,rfl,r1⟩:=r.one
  cases r1
  rcases hq with hq | hq
  · obtain ⟨its,rv,pl,hz⟩:=I.list hq
    have hl:=rv.length
    exact TH.sorted_list (.inl pl.isList) (ht.vs I rv) (by lia) (by lia) fun h' ix e1 a1 a2 a3 keep hD => sort_fin I ht rv h64 a1 a2 a3 keep hD q
  · obtain ⟨its,rv,pl,hz⟩:=I.tuple hq
    have hl:=rv.length
    exact TH.sorted_list (.inr (show s.heap.IsTuple p its.toArray from pl)) (ht.vs I rv) (by lia) (by lia) fun h' ix e1 a1 a2 a3 keep hD => sort_fin I ht rv h64 a1 a2 a3 keep hD q
theorem pe_sortR {e : Expr} {t : TA} {p pos kp kp2 : Pos} {j} (hu : X.A.units + 64 < cLine) (hg : Gl X "sorted") (hm : X.mg "sorted" = none) (ha : PA X [e] t)
    (he : backTo pos (starEach [e] X.env) = (false,eval e X.env) :: backTo pos (starEach [] X.env) := by rfl) (hplain : (backTo pos (starEach [e] X.env)).any (·.1) = false := by rfl) :
    PE X (.Call (.Name "sorted" p) [e] [⟨some "reverse",.Constant (.bool true) j kp2,kp⟩] pos) (fun σ H Q => t σ H fun vs H1 => rSortR X.K vs H1 Q) := by
  intro pins s σ H Q I h
  refine wpAny_Call_Name_kw (ld_blt I hg hm boot_sorted ?_ (by decide) (by decide))
  refine callWith_kw (thn (ha pos pins s σ H _ I h) fun us s1 ⟨vs,H1,I1,r1,q1⟩ => kws_cons (Constant_bool (kws_nil ?_))) he hplain
  obtain ⟨p,ys,t,rfl,hq,ht,h64,hd,q⟩:=q1
  obtain ⟨u,rfl,r2⟩:=r1.one
  cases r2
  rcases hq with hq | hq
  · obtain ⟨its,rv,pl,hz⟩:=I1.list hq
    have hl:=rv.length
    exact TH.sorted_listR (b:=true) (.inl pl.isList) (ht.vs I1 rv) (by lia) (by lia) fun h' ix e1 a1 a2 a3 keep hD => sort_fin I1 ht rv h64 a1 a2 a3 keep hD q
  · obtain ⟨its,rv,pl,hz⟩:=I1.tuple hq
    have hl:=rv.length
    exact TH.sorted_listR (b:=true) (.inr (show s1.heap.IsTuple p its.toArray from pl)) (ht.vs I1 rv) (by lia) (by lia) fun h' ix e1 a1 a2 a3 keep hD => sort_fin I1 ht rv h64 a1 a2 a3 keep hD q
theorem pe_rev {e k : Expr} {te tk : TE} {pos p2 : Pos} (he : PE X e te) (hk : PE X k tk) : PE X (.Subscript e (.Slice none none (some k) p2) pos)
    (fun σ H Q => te σ H fun x H1 => tk σ H1 fun z H2 => ∃ (a : Addr) (xs : List V),x = .ref a∧z = .int (-1)∧SqL X.K H2 a xs∧∀ p,H2 p = none→Q (.ref p) (upd H2 p (.lst xs.reverse))) := by
  intro pins s σ H Q I h
  refine Subscript_ (thn (he pins s σ H _ I h) fun v s1 ⟨x,H1,I1,r1,q1⟩ => ?_)
  refine wpAny_Slice ?_
  rw [evalPart_none]
  refine wpAny_pure ?_
  refine wpAny_pure ?_
  rw [evalPart_some]
  refine thn (hk pins s1 σ H1 _ I1 q1) fun vk s3 ⟨z,H3,I3,r3,q3⟩ => ?_
  obtain ⟨a,xs,rfl,rfl,hq,q⟩:=q3
  cases r1
  obtain ⟨tk',rfl⟩:=r3
  have I4 : Inv X pins σ H3 { s3 with heap:=s3.heap.push { cls:=.type "slice",data:=.fields #[.none,.none,.int (-1) tk'] } }:=I3.kept (t':=s3.toks) fun b ob q => Heap.get?_push_of_some _ q
  obtain ⟨its,rv,pl,hz⟩:=I4.list hq
  have hlen:=rv.length
  show wpAny (model X.prog X.w) X.A (subscriptTail e (.Slice none none (some k) p2) (.ref a) (.ref s3.heap.objs.size)) (EP X pins σ Q) X.xe { s3 with heap:=s3.heap.push { cls:=.type "slice",data:=.fields #[.none,.none,.int (-1) tk'] } }
  refine tail_any (ops:=[.ref a,.ref s3.heap.objs.size]) (T := "list") pl.isList.typeIs slot_list_getitem.lookup ?_ (by with_unfolding_all rfl)
  refine wpAny_getItem_list_slice pl.isList (Heap.IsSliceOf.new ..) .none .none (.int (-1) tk') (by decide) ?_ (by rw [List.size_toArray] <;> lia)
  rw [PySem.W.krv_pick]
  refine ⟨.ref _,_,I4.laid (t':=s3.toks) (o:=.lst xs.reverse) (fun b ob q => Heap.get?_push_of_some _ q) (Nat.le_refl _) ?_,rfl,q _ (I4.hok.fresh (Nat.le_refl _))⟩
  exact ⟨by rw [List.length_reverse]; exact hz,its.reverse,0,rv.reverse,Heap.get?_push_size _ rfl⟩
end
def CW (Pv : Nat→List V→Hp→Prop) (n : Nat) (D : Addr) : Nat→Nat→List V→Hp→Prop:=fun i m ys H => m = n - i∧i≤n∧H D = some (.lst ys)∧Pv i ys H
theorem cw_next {Pv : Nat→List V→Hp→Prop} {n i : Nat} {D : Addr} {ys : List V} {y : V} {H : Hp} (hi : i < n) (p : Pv (i + 1) (ys ++ [y]) (upd H D (.lst (ys ++ [y])))) : ∃ m',m' < n - i∧CW Pv n D (i + 1) m' (ys ++ [y]) (upd H D (.lst (ys ++ [y]))) :=
  ⟨n - (i + 1),by lia,rfl,hi,upd_same,p⟩
theorem cw_skip {Pv : Nat→List V→Hp→Prop} {n i : Nat} {D : Addr} {ys : List V} {H : Hp} (hi : i < n) (hD : H D = some (.lst ys)) (p : Pv (i + 1) ys H) : ∃ m',m' < n - i∧CW Pv n D (i + 1) m' ys H:=⟨n - (i + 1),by lia,rfl,hi,hD,p⟩
theorem comp_by {J : It} {n : Nat} {D : Addr} {H1 : Hp} {fr : List (Option Nat)} {σ : St} {ix : Nat} {tif : TT} {te : TE} {G : Hp→Prop} (Pv : Nat→List V→Hp→Prop) (h0 : Pv 0 [] (upd H1 D (.lst [])))
    (hgo : ∀ i ys H,i < n→Pv i ys H→H D = some (.lst ys)→J.go i H∧ys.length < sizeLine∧∀ x H',J.yld i H x H' →
      tif ((carry fr σ).set ix (some x)) H' fun b H2 => if b = true then te ((carry fr σ).set ix (some x)) H2 fun y H3 => H3 D = some (.lst ys)∧∃ m',m' < n - i∧CW Pv n D (i + 1) m' (ys ++ [y]) (upd H3 D (.lst (ys ++ [y])))
        else ∃ m',m' < n - i∧CW Pv n D (i + 1) m' ys H2)
    (hstop : ∀ ys H,Pv n ys H→H D = some (.lst ys)→J.stop n H∧G H) :
    ∃ W : Nat→Nat→List V→Hp→Prop,(∃ m,W 0 m [] (upd H1 D (.lst []))) ∧
      ∀ i m ys H,W i m ys H→H D = some (.lst ys)∧((J.stop i H∧G H)∨(J.go i H∧ys.length < sizeLine∧∀ x H',J.yld i H x H' →
        tif ((carry fr σ).set ix (some x)) H' fun b H2 => if b = true then te ((carry fr σ).set ix (some x)) H2 fun y H3 => H3 D = some (.lst ys)∧∃ m',m' < m∧W (i + 1) m' (ys ++ [y]) (upd H3 D (.lst (ys ++ [y])))
          else ∃ m',m' < m∧W (i + 1) m' ys H2)) := by
  refine ⟨CW Pv n D,⟨n,by simp,Nat.zero_le _,upd_same,h0⟩,?_⟩
  rintro i m ys H ⟨rfl,hi,hH,p⟩
  refine ⟨hH,?_⟩
  by_cases hlt : i < n
  · exact .inr (hgo i ys H hlt p hH)
  · have e : i = n := by lia
    subst e
    exact .inl (hstop ys H p hH)
def ItrB (lo : Int) (n : Nat) : It:=⟨fun i _ => i < n,fun i H x H' => H' = H∧x = .int (lo - i),fun i _ => n≤i⟩
theorem turn_rangeB {P : Program} {w : World} {K : PySem.W.Frag} {tg : Expr} (it : Addr) (lo : Int) (n : Nat) : Turn P w K tg (ItrB lo n) [it] it (fun i h => IsRangeIter h it (lo + (i : Nat) * (-1)) ((n : Int) - (i : Nat)) (-1)) where
  mem := by simp
  obj:=fun i h st b hb => by
    have e : b = it := by simpa using hb
    subst e
    exact ⟨_,st,fun v z => by
      have z' : Data.fields _ = Data.cell v:=z
      cases z'⟩
  keep:=fun i h h' st k => k it (by simp) _ st
  item := by
    intro X hP hw hK hc i pins s σ H E I hf st hg
    subst hP hw hK
    obtain ⟨f0,f1,f2,f3,f4,f5⟩:=hf it (by simp)
    have W:=Walks.range (prog:=X.prog) (w:=X.w) (I.ok.hd hc) it lo (-1) n
    refine W.item i s _ _ hg st fun v h' tk hv st' kk => ?_
    obtain ⟨t,rfl⟩:=hv
    have I1 : Inv X pins σ H { s with heap:=h',toks:=tk }:=I.turned (fun b o hb e => kk b o (by simpa using hb) e) f0 f1 f3 f4 f5
    refine ⟨_,rfl,go_of (s:={ s with heap:=h',toks:=tk }) (n := "range_iterator") st' rfl rfl (by decide) ⟨.int (lo - i),H,I1,⟨t,?_⟩,⟨rfl,rfl⟩,st',fun b hb => (hf b hb).1⟩⟩
    rw [Int.mul_neg,Int.mul_one,Int.sub_eq_add_neg]
  done := by
    intro X hP hw hK hc i pins s σ H E I hf st hg
    subst hP hw hK
    obtain ⟨f0,f1,f2,f3,f4,f5⟩:=hf it (by simp)
    exact wpAny_pyNext_range_end (I.ok.hd hc) st (by have : n≤i:=hg; lia) fun h' eb => ⟨rfl,I.turned (t':=s.toks) (fun b o hb e => eb b o hb e) f0 f1 f3 f4 f5⟩
  self:=fun _ _ _ _ _ st h => wpAny_pyIter_rangeiter st h
theorem size_back (a b : Int) : Builtin.Range.rangeSize a b (-1) = if b < a then a - b else 0 := by
  unfold Builtin.Range.rangeSize
  simp only [show ¬ ((-1 : Int) > 0) by decide,if_false,show (- -1 : Int) = 1 by decide,Int.ediv_one]
  split <;> lia
def iRngB (ta : TA) : TI:=fun σ H R => ta σ H fun vs H1 => ∃ i j : Int,vs = [.int i,.int j,.int (-1)]∧(-(2 ^ 62)≤i∧i < 2 ^ 62∧-(2 ^ 62)≤j∧j < 2 ^ 62)∧R (ItrB i (i - j).toNat) H1
theorem pi_range3 {X : Cx} {tg a b c : Expr} {ta : TA} {p pos : Pos} (hg : Gl X "range") (hm : X.mg "range" = none) (ha : PA X [a,b,c] ta) (hs : starEach [a,b,c] X.env = (false,eval a X.env) :: starEach [b,c] X.env := by rfl)
    (hs2 : (backTo pos (starEach [b,c] X.env)).any (·.1) = false := by rfl) : PI X tg (.Call (.Name "range" p) [a,b,c] [] pos) (iRngB ta) := by
  intro pins s σ H R I h
  refine Call_ (ld_blt I hg hm boot_range (PyProof.Rows.callWith_type1 (thn (ha pos pins s σ H _ I h) fun us s1 ⟨vs,H1,I1,r1,q1⟩ => ?_) hs hs2))
  obtain ⟨i,j,e,⟨q1,q2,q3,q4⟩,q⟩:=q1
  subst e
  cases r1 with
  | cons r rr =>
    cases rr with
    | cons r' rr =>
      cases rr with
      | cons r'' rr =>
        cases rr
        obtain ⟨t,rfl⟩:=r
        obtain ⟨t',rfl⟩:=r'
        obtain ⟨t'',rfl⟩:=r''
        refine call_range_3 (by decide) ?_ (Or.inl (PyProof.noPylong_small (by decide)))
        have hsm : Builtin.Range.small i j (-1) = true := by
          unfold Builtin.Range.small
          rw [size_back]
          simp only [Builtin.Range.rangeFitsLong,Bool.and_eq_true,Bool.or_eq_true,decide_eq_true_eq,beq_iff_eq,show ¬ ((-1 : Int) > 0) by decide,if_false]
          split <;> lia
        refine wpAny_pyIter_range (IsRange.new ..) hsm ?_
        have I2 : Inv X pins σ H1 { s1 with heap:=s1.heap.push { cls:=.type "range",data:=.fields #[.int i t,.int j t',.int (-1) t''] },toks:=s1.toks }:=I1.kept fun b o e => Heap.get?_push_of_some _ e
        refine ⟨(s1.heap.push { cls:=.type "range",data:=.fields #[.int i t,.int j t',.int (-1) t''] }).objs.size,[(s1.heap.push { cls:=.type "range",data:=.fields #[.int i t,.int j t',.int (-1) t''] }).objs.size],_,_,H1,rfl,
          I2.kept (t':=s1.toks) fun b o e => Heap.get?_push_of_some _ e,turn_rangeB _ i (i - j).toNat,?_,fun b hb => ?_,q⟩
        · have e1 : i + ((0 : Nat) : Int) * (-1) = i := by simp
          have e2 : (((i - j).toNat : Nat) : Int) - ((0 : Nat) : Int) = Builtin.Range.rangeSize i j (-1) := by rw [size_back]; split <;> lia
          show IsRangeIter _ _ (i + ((0 : Nat) : Int) * (-1)) ((((i - j).toNat : Nat) : Int) - ((0 : Nat) : Int)) (-1)
          rw [e1,e2]
          exact Heap.get?_push_size _ rfl
        · have e : b = (s1.heap.push { cls:=.type "range",data:=.fields #[.int i t,.int j t',.int (-1) t''] }).objs.size := by simpa using hb
          subst e
          exact I2.fpOk (Nat.le_refl _) (I2.hok.fresh (Nat.le_refl _))
theorem for_rangeB {lo : Int} {n : Nat} {g : TG} {tb : TS} {D : Ends} {σ : St} {H : Hp} (Pv : Nat→St→Hp→Prop) (h0 : Pv 0 σ H)
    (hs : ∀ i σ H,i < n→Pv i σ H→g (.int (lo - i)) σ H fun σ2 H2 => tb { D with nx:=Pv (i + 1),ct:=Pv (i + 1),bk:=D.nx } σ2 H2) (hd : ∀ σ H,Pv n σ H→D.nx σ H) :
    ∃ W : Nat→Nat→St→Hp→Prop,(∃ m,W 0 m σ H)∧∀ i m σ H,W i m σ H →
      ((ItrB lo n).stop i H∧D.nx σ H)∨((ItrB lo n).go i H∧∃ N : St→Hp→Prop,(∀ σ' H',N σ' H'→∃ m',m' < m∧W (i + 1) m' σ' H')∧∀ x H',(ItrB lo n).yld i H x H'→g x σ H' fun σ2 H2 => tb { D with nx:=N,ct:=N,bk:=D.nx } σ2 H2) := by
  refine ⟨fun i m σ H => m = n - i∧i≤n∧Pv i σ H,⟨n,by simp,Nat.zero_le _,h0⟩,?_⟩
  rintro i m σ H ⟨rfl,hi,p⟩
  by_cases hlt : i < n
  · refine .inr ⟨hlt,Pv (i + 1),fun σ' H' p' => ⟨n - (i + 1),by lia,rfl,hlt,p'⟩,fun x H' y => ?_⟩
    obtain ⟨e,y⟩:=y
    subst e y
    exact hs i σ _ hlt p
  · have e : i = n := by lia
    subst e
    exact .inl ⟨Nat.le_refl _,hd σ H p⟩
def Ok (n : Nat) (d : PyData) : Prop:=d.canLay0 = true∧d.depth≤n
theorem Ok.shaped {n : Nat} {d : PyData} (h : Ok n d) (hn : n≤64) : SeqAt.shaped d = true := by
  unfold SeqAt.shaped
  rw [h.1,Bool.true_and]
  exact decide_eq_true (Nat.le_trans h.2 hn)
theorem Ok.int {n : Nat} {i : Int} : Ok n (.int i):=⟨by simp [PyData.canLay0],by simp [PyData.depth]⟩
def tyOf : PyData→String
  | .none => "NoneType"
  | .bool _ => "bool"
  | .int _ => "int"
  | .str _ => "str"
  | .tuple _ => "tuple"
  | .list _ => "list"
  | .dict _ => "dict"
def isTupD : PyData→Bool
  | .tuple _ => true
  | _ => false
theorem kit_tupD (K : PySem.W.Frag) : ∀ d : PyData,(∀ kv,d≠.dict kv)→PySem.W.kitOne K (.type (tyOf d)) (.type "tuple") = some (isTupD d)
  | .none,_ => kit_nt K
  | .bool _,_ => kit_bt K
  | .int _,_ => kit_it K
  | .str _,_ => kit_st K
  | .tuple _,_ => kit_tt K
  | .list _,_ => kit_lt K
  | .dict kv,h => absurd rfl (h kv)
theorem pe_strFrom {X : Cx} {e lo : Expr} {te tl : TE} {pos p2 : Pos} (he : PE X e te) (hl : PE X lo tl) : PE X (.Subscript e (.Slice (some lo) none none p2) pos)
    (fun σ H Q => te σ H fun x H1 => tl σ H1 fun z H2 => ∃ (y : Str) (i : Int),x = .str y∧z = .int i∧y.length≤sizeLine∧Q (.str (Txt.slice y (some i) none)) H2) := by
  intro pins s σ H Q I h
  refine Subscript_ (thn (he pins s σ H _ I h) fun v s1 ⟨x,H1,I1,r1,q1⟩ => ?_)
  refine wpAny_Slice ?_
  rw [evalPart_some]
  refine thn (hl pins s1 σ H1 _ I1 q1) fun vk s3 ⟨z,H3,I3,r3,q3⟩ => ?_
  rw [evalPart_none]
  refine wpAny_pure ?_
  refine wpAny_pure ?_
  obtain ⟨y,i,rfl,rfl,hz,q⟩:=q3
  obtain ⟨t1,rfl⟩:=r1
  obtain ⟨t3,rfl⟩:=r3
  show wpAny (model X.prog X.w) X.A (subscriptTail e (.Slice (some lo) none none p2) (.str y t1) (.ref s3.heap.objs.size)) (EP X pins σ Q) X.xe { s3 with heap:=s3.heap.push { cls:=.type "slice",data:=.fields #[.int i t3,.none,.none] } }
  obtain ⟨T,id,hT,ht,hg⟩:=SBH.sliceItem_sn (prog:=X.prog) (w:=X.w) (A:=X.A) (E:=X.xe) (s:=s3) (x:=y) (t:=t1) (ui:=t3) (P:=fun h' => ∀ b o,s3.heap.get? b = some o→h'.get? b = some o) (Q:=EP X pins σ Q) (fun h o k b ob q => Heap.get?_push_of_some _ (k b ob q)) (fun _ _ q => q)
    (fun h' t' k kk => ⟨.str (Txt.slice y (some i) none),H3,I3.kept (t':=k) kk,⟨t',rfl⟩,q⟩) hz
  exact tail_any (ops:=[.ref s3.heap.objs.size,.str y t1]) ht hT hg (by with_unfolding_all rfl)
end L2
namespace L2
open PySem PySem.Spec PyProof.Rows
mutual
def trOf : PyData→Option Tr
  | .tuple ds => trsOf ds
  | _ => none
def trsOf : List PyData→Option Tr
  | [] => some .nil
  | d :: ds => (trOf d).bind fun b => (trsOf ds).map fun r => .cons b r
end
section
variable {X : Cx}
def rCatA : R2:=fun x y H Q => ∃ a b xs ys,x = .ref a∧y = .ref b∧H a = some (.tup xs)∧H b = some (.tup ys)∧xs.length + ys.length≤sizeLine∧∀ p H',Same H H'→H' p = some (.tup (xs ++ ys))→Q (.ref p) H'
theorem op_catA : OpR X (binaryOp .Add) rCatA := by
  intro pins s σ H x y v u Q I rx ry h
  obtain ⟨a,b,xs,ys,rfl,rfl,ha,hb,hz,q⟩:=h
  cases rx
  cases ry
  obtain ⟨its,r1,p1,_⟩:=I.tuple (SqT.of (K:=X.K) ha)
  obtain ⟨its2,r2,p2,_⟩:=I.tuple (SqT.of (K:=X.K) hb)
  by_cases hv : its = []
  · have hx:=r1.nil_iff.mp hv
    subst hv hx
    obtain ⟨⟨cls,dd,data,sl⟩,ho,hc,n,hd⟩:=id p1
    obtain ⟨⟨cls2,dd2,data2,sl2⟩,ho2,hc2,n2,hd2⟩:=id p2
    simp only at hc hd hc2 hd2
    subst hc hd hc2 hd2
    exact concat_meets ⟨_,ho,rfl⟩ ⟨_,ho2,rfl⟩ noFill_tuple_add seq_tuple_add PySem.F.slot_tuple_add PySem.F.entry_tuple_add (PySem.F.args_tuple_add_2 _ _)
      (tuple_addW0 a b _ _ n n2 dd dd2 sl sl2 (by simp)) ⟨ho,ho2,⟨.ref b,H,I,rfl,q b H (.refl H) (by simpa using hb)⟩⟩
  · refine HT.cat_tup p1 p2 hv (fun z => ?_) (fun z => ?_) (by rw [← r1.length,← r2.length]; exact hz)
    · have hy:=r2.nil_iff.mp z
      subst hy
      exact ⟨.ref a,H,I,rfl,q a H (.refl H) (by simpa using ha)⟩
    · refine ⟨.ref s.heap.objs.size,_,I.laid (t':=s.toks) (o:=.tup (xs ++ ys)) (fun b ob q => Heap.get?_push_of_some _ q) (Nat.le_refl _) ?_,rfl,q _ _ (same_new (I.hok.fresh (Nat.le_refl _)) _) upd_same⟩
      exact ⟨by rw [List.length_append]; exact hz,_,r1.append r2,IsTup.new _ _⟩
end
end L2
namespace Tim
open PySem PyProof.Rows
section pure
end pure
section
section pure
end pure
section pure
end pure
end
end Tim
namespace Tr
def PsOk (ps : List Nat) : Prop:=0 < ps.length∧∀ k p,ps[k]? = some p→p < max k 1
def gStep (ps : List Nat) (k : Nat) (B : List (List Tr)) : List (List Tr):=B.set (ps.getD k 0) (B.getD (ps.getD k 0) [] ++ [of (srt (B.getD k []))])
def gB (ps : List Nat) : Nat→List (List Tr)
  | 0 => List.replicate ps.length []
  | i + 1 => gStep ps (ps.length - 1 - i) (gB ps i)
def grown (ps : List Nat) : Tr:=of (srt ((gB ps (ps.length - 1)).getD 0 []))
theorem gB_len (ps : List Nat) : ∀ i,(gB ps i).length = ps.length
  | 0 => by simp [gB]
  | i + 1 => by rw [gB,gStep,List.length_set,gB_len ps i]
def par : Nat→List (List Nat)
  | 0 => [[]]
  | n + 1 => (par n).flatMap fun ps => (List.range (max n 1)).map fun p => ps ++ [p]
theorem mem_par : ∀ (n : Nat) (ps : List Nat),ps.length = n→(∀ k p,ps[k]? = some p→p < max k 1)→ps∈par n
  | 0,ps,h,_ => by
    have : ps = []:=List.eq_nil_of_length_eq_zero h
    subst this; exact List.mem_singleton.mpr rfl
  | n + 1,ps,h,hk => by
    have hne : ps≠[]:=fun z => by subst z; simp at h
    rw [par,List.mem_flatMap]
    refine ⟨ps.dropLast,mem_par n _ (by rw [List.length_dropLast,h]; rfl) fun k p e => ?_,?_⟩
    · refine hk k p ?_
      have hlt:=(List.getElem?_eq_some_iff.mp e).1
      rw [List.length_dropLast] at hlt
      rw [List.getElem?_dropLast,if_pos hlt] at e
      exact e
    · refine List.mem_map.mpr ⟨ps.getLast hne,List.mem_range.mpr ?_,List.dropLast_concat_getLast hne⟩
      refine hk n _ ?_
      rw [List.getLast_eq_getElem,List.getElem?_eq_getElem (by lia)]
      congr 1
      simp [h]
theorem PsOk.mem {ps : List Nat} (h : PsOk ps) : ps∈par ps.length:=mem_par _ ps rfl h.2
def fine (ps : List Nat) : Bool:=(grown ps).fall && decide ((grown ps).knots = ps.length)
theorem fine_all : ((List.range 8).all fun n => n == 0 || (par n).all fine) = true := by decide +kernel
theorem fine_of {ps : List Nat} (h : PsOk ps) (h7 : ps.length≤7) : (grown ps).fall = true∧(grown ps).knots = ps.length := by
  have h1:=List.all_eq_true.mp fine_all ps.length (List.mem_range.mpr (by lia))
  have h0:=h.1
  rw [Bool.or_eq_true] at h1
  rcases h1 with h1 | h1
  · exact absurd (by simpa using h1) (Nat.ne_of_gt h0)
  · have h2:=List.all_eq_true.mp h1 ps h.mem
    unfold fine at h2
    rw [Bool.and_eq_true,decide_eq_true_eq] at h2
    exact h2
end Tr
set_option maxHeartbeats 0
set_option maxHeartbeats 4000000
namespace L2
open PySem PySem.Spec PyProof.Rows
def ItE (K : PySem.W.Frag) (a : Addr) : It :=
  ⟨fun i H => ∃ xs x,SqL K H a xs∧xs[i]? = some x,fun i H v H' => ∃ p x,v = .ref p∧H p = none∧H' = upd H p (.tup [.int i,x])∧∀ xs,SqL K H a xs→xs[i]? = some x,fun i H => ∃ xs,SqL K H a xs∧xs.length = i⟩
theorem turn_enumL {P : Program} {w : World} {K : PySem.W.Frag} {elts : List Expr} {x1} {pos : Pos} (a e it : Addr) (hne : e≠it) :
    Turn P w K (.Tuple elts x1 pos) (ItE K a) [e,it] e (fun i h => (∃ old,IsEnum h e it (i : Nat) old)∧h.IsListIter it a i) where
  mem := by simp
  obj:=fun i h st b hb => by
    rcases List.mem_cons.mp hb with rfl | hb
    · obtain ⟨⟨old,q⟩,_⟩:=st
      exact ⟨_,q,fun v z => by cases z⟩
    · have e2 : b = it := by simpa using hb
      subst e2
      obtain ⟨_,o,q,c,d⟩:=st
      exact ⟨o,q,fun v z => by rw [d] at z; cases z⟩
  keep:=fun i h h' st k => by
    obtain ⟨⟨old,q⟩,o,q2,r⟩:=st
    exact ⟨⟨old,k e (by simp) _ q⟩,o,k it (by simp) _ q2,r⟩
  item := by
    intro X hP hw hK hc i pins s σ H E I hf st hg
    subst hP hw hK
    obtain ⟨xs,x,hq,hx⟩:=hg
    obtain ⟨its,rv,pL,hz⟩:=I.list hq
    have p:=pL.isList
    obtain ⟨u,hu,ru⟩:=rv.get hx
    obtain ⟨⟨old,he⟩,hit⟩:=st
    have hai : a≠it:=fun z => by
      obtain ⟨o,e1,c1,_⟩:=p
      obtain ⟨o2,e2,c2,_⟩:=hit
      rw [z,e2] at e1; cases e1
      rw [c1] at c2; exact absurd c2 (by decide)
    have hae : a≠e:=fun z => by
      obtain ⟨o,e1,c1,_⟩:=p
      rw [z,he] at e1; cases e1
      exact absurd (show Value.type "enumerate" = Value.type "list" from c1) (by decide)
    have hlt : i < its.length:=(List.getElem?_eq_some_iff.mp hu).1
    have hE0:=hf e (by simp)
    have hI0:=hf it (by simp)
    refine wpAny_pyNext_enum_itemD (Draws.list (prog:=X.prog) (w:=X.w) (A:=X.A.in1) (I.ok.hd hc) it a hai its.toArray) he ⟨hit,p⟩ (by simpa using hlt) hne (by simp [hne,Ne.symm hae]) fun y h' tk hy ho hs' hT hsz hk => ⟨_,rfl,wpAny_letOwnedTupleGo_enum (s:={ s with heap:=h',toks:=tk + 1 }) ho fun h'' he'' sb => ?_⟩
    have hyu : y = u := by
      have hy : its[i]? = some y := by simpa using hy
      rw [hu] at hy; exact (Option.some.inj hy).symm
    subst hyu
    have keep : ∀ b o,b≠e→b≠it→s.heap.get? b = some o→h''.get? b = some o:=fun b o h1 h2 q => (sb.2 b h1).trans (hk b o h1 h2 q)
    have hTe : s.heap.objs.size≠e:=Nat.ne_of_gt (Heap.lt_size he)
    have hTi : s.heap.objs.size≠it:=let ⟨_,q,_⟩:=hit; Nat.ne_of_gt (Heap.lt_size q)
    have hT'' : h''.get? s.heap.objs.size = some { cls:=.type "tuple",data:=.seq #[.int i tk,y] }:=(sb.2 _ hTe).trans hT
    have hTn : H s.heap.objs.size = none:=I.hok.fresh (Nat.le_refl _)
    have neT : ∀ b o,s.heap.get? b = some o→b≠s.heap.objs.size:=fun b o q => Nat.ne_of_lt (Heap.lt_size q)
    have trk : ∀ b o,H b = some o→b≠e∧b≠it:=fun b o q => ⟨(fun z => by rw [z,hE0.1] at q; cases q),(fun z => by rw [z,hI0.1] at q; cases q)⟩
    refine ⟨.ref s.heap.objs.size,upd H s.heap.objs.size (.tup [.int i,x]),?_,rfl,⟨_,x,rfl,hTn,rfl,fun ys hy => by rw [I.list_inj hy hq]; exact hx⟩,⟨⟨_,by simpa using he''⟩,?_⟩,fun b hb => ?_⟩
    · show Inv X pins σ _ { s with heap:=h'',gens:=s.gens,drawn:=s.drawn,toks:=tk + 1 }
      refine I.step (h':=h'') (g':=s.gens) (d':=s.drawn) (t':=tk + 1) (ch:=[e,it]) (fun b hb => ?_) (fun b o _ _ hc q _ => keep b o (fun z => hc (by simp [z])) (fun z => hc (by simp [z])) q) (fun b o _ _ hc q _ => ⟨o.slots,keep b o (fun z => hc (by simp [z])) (fun z => hc (by simp [z])) q⟩)
        (fun b o _ q n => by rw [upd_ne (neT b o q)]; exact n) (fun b o hc q => ⟨o,keep b o (fun z => hc (by simp [z])) (fun z => hc (by simp [z])) q⟩) (fun b ys q => by rw [upd_ne (ne_of_none q hTn)]; exact q) (fun b o u q => by rw [upd_ne (ne_of_none q hTn)]; exact q)
        (fun b ps q => ⟨#[],by rw [upd_ne (ne_of_none q hTn),q]; simp⟩) (fun b _ o hc _ q => keep b o (fun z => hc (by simp [z])) (fun z => hc (by simp [z])) q) (fun m hm => ?_) (fun b o q => ?_) I.bare
      · rcases List.mem_cons.mp hb with rfl | hb
        · exact ⟨hE0.2.2.2.1,hE0.2.1,hE0.2.2.2.2.1,hE0.2.2.2.2.2⟩
        · have e2 : b = it := by simpa using hb
          subst e2
          exact ⟨hI0.2.2.2.1,hI0.2.1,hI0.2.2.2.2.1,hI0.2.2.2.2.2⟩
      · obtain ⟨o,es,ep,ho,r⟩:=hm
        exact ⟨o,es,ep,keep _ o (Ne.symm hE0.2.1) (Ne.symm hI0.2.1) ho,r⟩
      · by_cases hb : b = s.heap.objs.size
        · subst hb
          rw [upd_same] at q
          cases q
          exact ⟨sz2,[.int i tk,y],.cons ⟨tk,rfl⟩ (.cons ru .nil),_,hT'',rfl,_,rfl⟩
        · rw [upd_ne hb] at q
          refine (I.hok b o q).stay (fun c v hc r => keep c v ?_ ?_ r) (fun c r => by rw [upd_ne (ne_of_none r hTn)]; exact r) fun c ys r => by rw [upd_ne (ne_of_none r hTn)]; exact r
          · rcases hc with rfl | hc
            · exact (trk _ _ q).1
            · exact (trk _ _ hc).1
          · rcases hc with rfl | hc
            · exact (trk _ _ q).2
            · exact (trk _ _ hc).2
    · obtain ⟨⟨o,q,r⟩,_⟩:=hs'
      exact ⟨o,(sb.2 it (Ne.symm hne)).trans q,r⟩
    · rcases List.mem_cons.mp hb with rfl | hb
      · rw [upd_ne (Ne.symm hTe)]; exact hE0.1
      · have e2 : b = it := by simpa using hb
        subst e2
        rw [upd_ne (Ne.symm hTi)]; exact hI0.1
  done := by
    intro X hP hw hK hc i pins s σ H E I hf st hg
    subst hP hw hK
    obtain ⟨xs,hq,hx⟩:=hg
    obtain ⟨its,rv,pL,hz⟩:=I.list hq
    have p:=pL.isList
    obtain ⟨⟨old,he⟩,hit⟩:=st
    have hai : a≠it:=fun z => by
      obtain ⟨o,e1,c1,_⟩:=p
      obtain ⟨o2,e2,c2,_⟩:=hit
      rw [z,e2] at e1; cases e1
      rw [c1] at c2; exact absurd c2 (by decide)
    have hl : its.length = i := by rw [← rv.length]; exact hx
    subst hl
    obtain ⟨f0,f1,f2,f3,f4,f5⟩:=hf it (by simp)
    exact wpAny_pyNext_enum_endD (Draws.list (prog:=X.prog) (w:=X.w) (A:=X.A.in1) (I.ok.hd hc) it a hai its.toArray) he ⟨hit,p⟩ fun h' eb => ⟨rfl,I.turned (t':=s.toks) (fun b o hb q => eb b o hb q) f0 f1 f3 f4 f5⟩
  self:=fun _ _ _ _ _ st h => by
    obtain ⟨⟨old,he⟩,_⟩:=st
    exact wpAny_pyIter_enum he h
def iEnumL (K : PySem.W.Frag) (ta : TA) : TI:=fun σ H R => ta σ H fun vs H1 => ∃ a,vs = [.ref a]∧(∃ xs,SqL K H1 a xs)∧R (ItE K a) H1
theorem pi_enumL {X : Cx} {elts : List Expr} {x1} {tpos : Pos} {a : Expr} {ta : TA} {p pos : Pos} (hg : Gl X "enumerate") (hm : X.mg "enumerate" = none) (ha : PA X [a] ta) (hs : starEach [a] X.env = [(false,eval a X.env)] := by rfl) :
    PI X (.Tuple elts x1 tpos) (.Call (.Name "enumerate" p) [a] [] pos) (iEnumL X.K ta) := by
  intro pins s σ H R I h
  refine Call_ (ld_blt I hg hm boot_enumerate (PyProof.Rows.callWith_type1 (thn (ha pos pins s σ H _ I h) fun us s1 ⟨vs,H1,I1,r1,q1⟩ => ?_) hs rfl))
  obtain ⟨t,e,⟨xs,hq⟩,q⟩:=q1
  subst e
  cases r1 with
  | cons r rr =>
    cases rr
    cases r
    obtain ⟨its,rv,p',hz⟩:=I1.list hq
    refine call_enumerate_list (show s1.heap.IsList t its.toArray from p'.isList) fun h' he hit hsz hk => wpAny_pyIter_enum he ?_
    have I2 : Inv X pins σ H1 { s1 with heap:=h' }:=I1.kept (t':=s1.toks) hk
    have hn : s1.heap.objs.size + 1≠s1.heap.objs.size := by lia
    refine ⟨s1.heap.objs.size + 1,[s1.heap.objs.size + 1,s1.heap.objs.size],_,_,H1,rfl,I2,turn_enumL t _ _ hn,⟨⟨_,he⟩,hit⟩,fun b hb => ?_,q⟩
    have hb' : s1.heap.objs.size≤b := by
      have hb2 : b = s1.heap.objs.size + 1∨b = s1.heap.objs.size := by simpa using hb
      rcases hb2 with z | z
      · rw [z]; exact Nat.le_succ _
      · rw [z]; exact Nat.le_refl _
    exact I1.fpOk hb' (I1.hok.fresh hb')
end L2
namespace TH
open PySem PyProof.Rows PySem.SeqAt
def hashL : Tr→List Int
  | .nil => []
  | .cons b r => reduceHash (Builtin.Tuple.tupleHashOf (hashL b)) :: hashL r
def hashT (t : Tr) : Int:=reduceHash (Builtin.Tuple.tupleHashOf (hashL t))
section
variable {prog : Program} {w : World} {E : Value→Shared→Prop}
theorem IsTuple.ty {h : Heap} {a : Addr} {x : Array Value} {s : Shared} (e : s.heap = h) (k : h.IsTuple a x) : s.TypeIs (.ref a) "tuple" := by
  subst e
  obtain ⟨o,ho,hc,_⟩:=k
  exact ⟨o,ho,hc⟩
def HashRow (prog : Program) (w : World) (E : Value→Shared→Prop) (t : Tr) : Prop:=∀ (us : List Value) (A : Around) (s : Shared) (b : Array Int) (Q : Array Int→Shared→Prop),Vs s.heap t us→A.units + t.deep≤cLine →
  (∀ tk b',b'.toList = b.toList ++ hashL t→Q b' { s with toks:=tk })→wpAny (model prog w) A (forIn us b fun x r => do let h ← pyHash x; pure PUnit.unit; pure (ForInStep.yield (r.push h))) Q E s
theorem hash_of_row {t : Tr} (row : HashRow prog w E t) {a : Addr} {its : List Value} {A : Around} {s : Shared} {Q : Int→Shared→Prop} (h1 : s.heap.IsTuple a its.toArray) (h2 : Vs s.heap t its) (hu : A.units + t.deep < cLine)
    (h : ∀ tk,Q (hashT t) { s with toks:=tk }) : wpAny (model prog w) A (pyHash (.ref a)) Q E s := by
  have hT:=IsTuple.ty rfl h1
  obtain ⟨o,ho,hc,n,hd⟩:=id h1
  refine PySem.W.pyHash_slot (T := "tuple") hT F.slot_tuple_hash F.entry_tuple_hash (F.args_tuple_hash_1 _) (beq_builtin_none _) (.inr (by lia)) ?_
  show wpAny _ _ (Builtin.Tuple.tupleItemsOf (.ref a) >>= _) _ _ s
  refine wpAny_bind (wpAny_tupleItemsOf ho hd ?_)
  refine wpAny_bind ?_
  rw [← Array.forIn_toList]
  refine row its A.in1 s #[] _ h2 (by rw [Around.in1_units]; lia) fun tk b hb => ?_
  show wpAny _ _ (retInt (Builtin.Tuple.tupleHashOf b.toList)) _ _ _
  rw [hb]
  exact wpAny_bind (wpAny_mkInt (wpAny_pure ⟨_,_,rfl,h _⟩))
theorem hash_row : ∀ t : Tr,HashRow prog w E t
  | .nil => fun us A s b Q e _ h => by rw [Vs] at e; subst e; exact wpAny_pure (h s.toks b (by simp [hashL]))
  | .cons c r => fun us A s b Q e hu h => by
    rw [Vs] at e
    obtain ⟨a,its,rest,rfl,h1,h2,h3⟩:=e
    have hd : (Tr.cons c r).deep = max (c.deep + 1) r.deep:=rfl
    rw [List.forIn_cons]
    refine wpAny_bind (wpAny_bind (hash_of_row (hash_row c) h1 h2 (by lia) fun tk => ?_))
    refine wpAny_bind (wpAny_pure (wpAny_pure ?_))
    exact hash_row r rest A _ _ Q h3 (by lia) fun tk' b' hb => h tk' b' (by simp [hb,hashL,hashT])
theorem hash_at {t : Tr} {a : Addr} {its : List Value} {A : Around} {s : Shared} {Q : Int→Shared→Prop} (h1 : s.heap.IsTuple a its.toArray) (h2 : Vs s.heap t its) (hu : A.units + t.deep < cLine)
    (h : ∀ tk,Q (hashT t) { s with toks:=tk }) : wpAny (model prog w) A (pyHash (.ref a)) Q E s:=hash_of_row (hash_row t) h1 h2 hu h
def Good (h : Heap) (n : Nat) (v : Value) : Prop:=∃ a its t,v = .ref a∧h.IsTuple a its.toArray∧Vs h t its∧t.deep < n
theorem good_mem {h : Heap} : ∀ {t : Tr} {us : List Value} {n : Nat},Vs h t us→t.deep≤n→∀ v∈us,Good h n v
  | .nil,us,n,e,_,v,hv => by rw [Vs] at e; subst e; cases hv
  | .cons c r,us,n,e,hd,v,hv => by
    rw [Vs] at e
    obtain ⟨a,its,rest,rfl,h1,h2,h3⟩:=e
    rw [Tr.deep] at hd
    rcases List.mem_cons.mp hv with rfl | hv
    · exact ⟨a,its,c,rfl,h1,h2,by lia⟩
    · exact good_mem h3 (by lia) v hv
theorem by_value : ∀ (n : Nat) {v : Value} {A : Around} {s : Shared} {Q : Bool→Shared→Prop},Good s.heap n v→Q true s→wpAny (model prog w) A (hashByValue n v) Q E s
  | 0,v,A,s,Q,⟨_,_,_,_,_,_,z⟩,_ => absurd z (Nat.not_lt_zero _)
  | n + 1,v,A,s,Q,⟨a,its,t,e,h1,h2,hd⟩,h => by
    subst e
    have hT:=IsTuple.ty rfl h1
    obtain ⟨o,ho,hc,k,hdt⟩:=id h1
    unfold hashByValue
    refine wpAny_bind (wpAny_specialOf hT F.slot_tuple_hash.lookup ?_)
    refine wpAny_bind (wpAny_seqItems ho hdt ?_)
    refine wpAny_bind ?_
    show wpAny _ _ (forIn its.toArray _ _) _ _ s
    rw [← Array.forIn_toList]
    refine wpAny_forIn_list _ (fun rest r s' => r.1 = none∧s' = s∧∀ v∈rest,Good s.heap n v) _ ?_ ?_ _ _ ⟨rfl,rfl,good_mem h2 (by lia)⟩
    · rintro v rest r s' ⟨hr,rfl,hall⟩
      refine wpAny_bind (by_value n (hall v List.mem_cons_self) ?_)
      simp only [Bool.not_true,Bool.false_eq_true,if_false]
      exact wpAny_pure ⟨rfl,rfl,fun u hu' => hall u (List.mem_cons_of_mem _ hu')⟩
    · rintro ⟨r1,r2⟩ s' ⟨hr,rfl,_⟩
      simp only at hr
      subst hr
      exact wpAny_pure h
theorem quiet : ∀ (n : Nat) {v : Value} {A : Around} {s : Shared} {Q : Bool→Shared→Prop},Good s.heap n v→Q true s→wpAny (model prog w) A (eqIsQuiet n v) Q E s
  | 0,v,A,s,Q,⟨_,_,_,_,_,_,z⟩,_ => absurd z (Nat.not_lt_zero _)
  | n + 1,v,A,s,Q,⟨a,its,t,e,h1,h2,hd⟩,h => by
    subst e
    have hT:=IsTuple.ty rfl h1
    obtain ⟨o,ho,hc,k,hdt⟩:=id h1
    unfold eqIsQuiet
    refine wpAny_bind (wpAny_specialOf hT F.slot_tuple_eq.lookup ?_)
    show wpAny _ _ (isInstance (.ref a) (.type "tuple") >>= _) _ _ s
    refine wpAny_bind (wpAny_isInstance hT isSubtype_tuple_tuple ?_)
    simp only [Bool.not_true,Bool.false_eq_true,if_false]
    refine wpAny_bind (wpAny_seqItems ho hdt ?_)
    refine wpAny_bind ?_
    show wpAny _ _ (forIn its.toArray _ _) _ _ s
    rw [← Array.forIn_toList]
    refine wpAny_forIn_list _ (fun rest r s' => r.1 = none∧s' = s∧∀ v∈rest,Good s.heap n v) _ ?_ ?_ _ _ ⟨rfl,rfl,good_mem h2 (by lia)⟩
    · rintro v rest r s' ⟨hr,rfl,hall⟩
      refine wpAny_bind (quiet n (hall v List.mem_cons_self) ?_)
      simp only [Bool.not_true,Bool.false_eq_true,if_false]
      exact wpAny_pure ⟨rfl,rfl,fun u hu' => hall u (List.mem_cons_of_mem _ hu')⟩
    · rintro ⟨r1,r2⟩ s' ⟨hr,rfl,_⟩
      simp only at hr
      subst hr
      exact wpAny_pure h
theorem no_class : ∀ (n : Nat) {v : Value} {A : Around} {s : Shared} {Q : Bool→Shared→Prop},Good s.heap n v→Q false s→wpAny (model prog w) A (ofAClassStatement n v) Q E s
  | 0,v,A,s,Q,⟨_,_,_,_,_,_,z⟩,_ => absurd z (Nat.not_lt_zero _)
  | n + 1,v,A,s,Q,⟨a,its,t,e,h1,h2,hd⟩,h => by
    subst e
    have hT:=IsTuple.ty rfl h1
    obtain ⟨o,ho,hc,k,hdt⟩:=id h1
    unfold ofAClassStatement
    refine wpAny_bind (wpAny_typeOf hT ?_)
    have ht : ("tuple" == "tuple") = true := by rfl
    dsimp only
    rw [if_pos ht]
    refine wpAny_bind (wpAny_pure ?_)
    simp only [Bool.not_true,Bool.false_eq_true,if_false]
    refine wpAny_bind (wpAny_seqItems ho hdt ?_)
    refine wpAny_bind ?_
    rw [← Array.forIn_toList]
    refine wpAny_forIn_list _ (fun rest r s' => r.1 = none∧s' = s∧∀ v∈rest,Good s.heap n v) _ ?_ ?_ _ _ ⟨rfl,rfl,good_mem h2 (by lia)⟩
    · rintro v rest r s' ⟨hr,rfl,hall⟩
      refine wpAny_bind (no_class n (hall v List.mem_cons_self) ?_)
      simp only [Bool.false_eq_true,if_false]
      exact wpAny_pure ⟨rfl,rfl,fun u hu' => hall u (List.mem_cons_of_mem _ hu')⟩
    · rintro ⟨r1,r2⟩ s' ⟨hr,rfl,_⟩
      simp only at hr
      subst hr
      exact wpAny_pure h
theorem not_seen {x : Value} {l : List Value} {A : Around} {s : Shared} {Q : Bool→Shared→Prop} (hx : Good s.heap 8 x) (hl : ∀ y∈l,Good s.heap 8 y) (h : Q false s) : wpAny (model prog w) A (searchCouldBeSeen x l) Q E s := by
  unfold searchCouldBeSeen
  refine wpAny_bind ?_
  refine wpAny_forIn_list _ (fun rest r s' => r.1 = none∧s' = s∧∀ v∈rest,Good s.heap 8 v) _ ?_ ?_ _ _ ⟨rfl,rfl,hl⟩
  · rintro v rest r s' ⟨hr,rfl,hall⟩
    have go : ∀ b : Bool,wpAny (model prog w) A (if b = true then pure (ForInStep.yield (none,())) else do
        let q ← eqIsQuiet 8 x
        if (!q) = true then pure (ForInStep.done (some true,())) else do
          let q ← eqIsQuiet 8 v
          if (!q) = true then pure (ForInStep.done (some true,())) else do
            let q ← ofAClassStatement 8 x
            if q = true then pure (ForInStep.done (some true,())) else do
              let q ← ofAClassStatement 8 v
              if q = true then pure (ForInStep.done (some true,())) else pure (ForInStep.yield (none,())))
        (fun st s'' => match st with
          | ForInStep.yield r => r.1 = none∧s'' = s'∧∀ v∈rest,Good s'.heap 8 v
          | ForInStep.done r => False) E s':=fun b => by
      cases b with
      | true => rw [if_pos rfl]; exact wpAny_pure ⟨rfl,rfl,fun u hu' => hall u (List.mem_cons_of_mem _ hu')⟩
      | false =>
        rw [if_neg Bool.false_ne_true]
        refine wpAny_bind (quiet 8 hx ?_)
        simp only [Bool.not_true,Bool.false_eq_true,if_false]
        refine wpAny_bind (quiet 8 (hall v List.mem_cons_self) ?_)
        simp only [Bool.not_true,Bool.false_eq_true,if_false]
        refine wpAny_bind (no_class 8 hx ?_)
        simp only [Bool.false_eq_true,if_false]
        refine wpAny_bind (no_class 8 (hall v List.mem_cons_self) ?_)
        simp only [Bool.false_eq_true,if_false]
        exact wpAny_pure ⟨rfl,rfl,fun u hu' => hall u (List.mem_cons_of_mem _ hu')⟩
    refine wpAny_mono (go _) (fun st s'' z => ?_) fun _ _ z => z
    cases st with
    | yield r => exact z
    | done r => exact z.elim
  · rintro ⟨r1,r2⟩ s' ⟨hr,rfl,_⟩
    simp only at hr
    subst hr
    exact wpAny_pure h
end
end TH
namespace TH
open PySem PyProof.Rows PySem.SeqAt
abbrev ES:=Array (Int×Tr)
def hAt (et : ES) (i : Nat) : Int:=(et[i]?.map (·.1)).getD 0
def srch (et : ES) (t : SetTable) (x : Tr) (h : Int) : Option (Option Nat) :=
  if t.gaveWay then none else
  match t.probe (hAt et) h (t.probeStart h) with
  | some (.empty j none) => some (some j)
  | some (.candidate _ i _) => match et[i]? with
    | some (_,y) => if y = x then some none else none
    | none => none
  | _ => none
def addP (st : ES×SetTable) (x : Tr) : Option (ES×SetTable) :=
  if (st.2.fits st.1.size && decide (st.1.size≤1000) && st.2.plain) = false then none else
  match srch st.1 st.2 x (hashT x) with
  | none => none
  | some none => some st
  | some (some slot) =>
    if (st.2.put slot).1.tooFull = false then some (SetTable.insertAt st.1 (st.2.put slot).2 (hashT x,x),(st.2.put slot).1) else
    if ((st.2.put slot).1.fits (SetTable.insertAt st.1 (st.2.put slot).2 (hashT x,x)).size && decide (SetTable.sizeAbove (SetTable.grown (st.1.size + 1))≤100000)) = false then none else
    match (st.2.put slot).1.relaid ((SetTable.insertAt st.1 (st.2.put slot).2 (hashT x,x)).map (·.1)) (SetTable.grown (st.1.size + 1)) with
    | none => none
    | some (t',order) =>
      if (order.filterMap ((SetTable.insertAt st.1 (st.2.put slot).2 (hashT x,x))[·]?)).size = (SetTable.insertAt st.1 (st.2.put slot).2 (hashT x,x)).size then
        some (order.filterMap ((SetTable.insertAt st.1 (st.2.put slot).2 (hashT x,x))[·]?),t') else none
def MemR (G : Value→Tr→Prop) (h : Heap) (p : Int×Value) (q : Int×Tr) : Prop:=p.1 = q.1∧q.2.deep < 8∧G p.2 q.2∧∃ a its,p.2 = .ref a∧h.IsTuple a its.toArray∧Vs h q.2 its
abbrev Mems (G : Value→Tr→Prop) (h : Heap) (ev : Array (Int×Value)) (et : ES) : Prop:=Paired (MemR G h) ev.toList et.toList
variable {G : Value→Tr→Prop}
section
variable {α β : Type} {F : α→β→Prop}
theorem Paired.get : ∀ {l : List α} {m : List β},Paired F l m→∀ {i : Nat} {y : β},m[i]? = some y→∃ x,l[i]? = some x∧F x y
  | _,_,.nil,i,y,h => by simp at h
  | _,_,.cons h1 r,0,y,h => by simp at h; subst h; exact ⟨_,rfl,h1⟩
  | _,_,.cons h1 r,i + 1,y,h => Paired.get r (by simpa using h)
theorem Paired.none : ∀ {l : List α} {m : List β},Paired F l m→∀ {i : Nat},m[i]? = Option.none→l[i]? = Option.none:=fun {l m} r i h => by
  have:=r.length
  rw [List.getElem?_eq_none_iff] at h ⊢
  lia
theorem Paired.app {l2 : List α} {m2 : List β} (k : Paired F l2 m2) : ∀ {l : List α} {m : List β},Paired F l m→Paired F (l ++ l2) (m ++ m2)
  | _,_,.nil => k
  | _,_,.cons h r => .cons h (Paired.app k r)
theorem Paired.take : ∀ {l : List α} {m : List β} (n : Nat),Paired F l m→Paired F (l.take n) (m.take n)
  | _,_,0,_ => by simpa using Paired.nil
  | _,_,n + 1,.nil => by simpa using Paired.nil
  | _,_,n + 1,.cons h r => .cons h (Paired.take n r)
theorem Paired.drop : ∀ {l : List α} {m : List β} (n : Nat),Paired F l m→Paired F (l.drop n) (m.drop n)
  | _,_,0,h => h
  | _,_,n + 1,.nil => by simpa using Paired.nil
  | _,_,n + 1,.cons h r => Paired.drop n r
theorem Paired.pick {l : List α} {m : List β} (r : Paired F l m) : ∀ (o : List Nat),Paired F (o.filterMap (l[·]?)) (o.filterMap (m[·]?))
  | [] => .nil
  | i :: o => by
    rw [List.filterMap_cons,List.filterMap_cons]
    cases e : m[i]? with
    | none => rw [Paired.none r e]; exact Paired.pick r o
    | some y =>
      obtain ⟨x,e2,h⟩:=Paired.get r e
      rw [e2]
      exact .cons h (Paired.pick r o)
theorem Paired.imp {G : α→β→Prop} (h : ∀ a b,F a b→G a b) : ∀ {l : List α} {m : List β},Paired F l m→Paired G l m
  | _,_,.nil => .nil
  | _,_,.cons k r => .cons (h _ _ k) (Paired.imp h r)
end
theorem insertAt_list {α : Type} (xs : Array α) (p : Nat) (x : α) : (SetTable.insertAt xs p x).toList = xs.toList.take p ++ x :: xs.toList.drop p := by
  unfold SetTable.insertAt
  simp [List.extract]
  rw [List.take_of_length_le (by simp)]
theorem Mems.fst {h : Heap} {ev : Array (Int×Value)} {et : ES} (r : Mems G h ev et) : ev.map (·.1) = et.map (·.1) := by
  have key : ∀ {l : List (Int×Value)} {m : List (Int×Tr)},Paired (MemR G h) l m→l.map (·.1) = m.map (·.1):=fun r => by
    induction r with
    | nil => rfl
    | cons k _ ih => rw [List.map_cons,List.map_cons,ih,k.1]
  apply Array.toList_inj.mp
  simpa using key r
theorem Mems.size {h : Heap} {ev : Array (Int×Value)} {et : ES} (r : Mems G h ev et) : ev.size = et.size := by simpa using Paired.length r
theorem Mems.hAt {h : Heap} {ev : Array (Int×Value)} {et : ES} (r : Mems G h ev et) (i : Nat) : (ev[i]?.map (·.1)).getD 0 = hAt et i := by
  have:=congrArg (fun a : Array Int => a[i]?) r.fst
  simp only [Array.getElem?_map] at this
  rw [TH.hAt,this]
theorem Mems.good {h : Heap} {ev : Array (Int×Value)} {et : ES} (r : Mems G h ev et) : ∀ p∈ev.toList,Good h 8 p.2 := by
  have key : ∀ {l : List (Int×Value)} {m : List (Int×Tr)},Paired (MemR G h) l m→∀ p∈l,Good h 8 p.2:=fun r => by
    induction r with
    | nil => intro p hp; cases hp
    | cons k _ ih =>
      intro p hp
      rcases List.mem_cons.mp hp with rfl | hp
      · obtain ⟨_,hd,_,a,its,e,h1,h2⟩:=k
        exact ⟨a,its,_,e,h1,h2,hd⟩
      · exact ih p hp
  exact key r
theorem Mems.at {h : Heap} {ev : Array (Int×Value)} {et : ES} (r : Mems G h ev et) {i : Nat} {z : Int} {y : Tr} (e : et[i]? = some (z,y)) : ∃ a its,ev[i]? = some (z,.ref a)∧h.IsTuple a its.toArray∧Vs h y its∧y.deep < 8 := by
  obtain ⟨⟨z',v⟩,h1,h2,hd,_,a,its,e2,h3,h4⟩:=Paired.get r (by simpa using e)
  have h2 : z' = z:=h2
  have e2 : v = .ref a:=e2
  subst h2 e2
  exact ⟨a,its,by simpa using h1,h3,h4,hd⟩
theorem Mems.keeps {h h' : Heap} {ev : Array (Int×Value)} {et : ES} (k : ∀ b o,h.get? b = some o→o.cls = .type "tuple" → h'.get? b = some o) (r : Mems G h ev et) : Mems G h' ev et :=
  Paired.imp (fun p q ⟨e,hd,hg,a,its,e2,h1,h2⟩ => ⟨e,hd,hg,a,its,e2,(by obtain ⟨o,ho,hc,n,hdt⟩:=h1; exact ⟨o,k _ _ ho hc,hc,n,hdt⟩),h2.keeps k⟩) r
section
variable {prog : Program} {w : World} {E : Value→Shared→Prop} {A : Around} {s : Shared} {a xa : Addr} {o : Obj} {ev : Array (Int×Value)} {et : ES} {ep : Nat} {t : SetTable} {x : Tr} {its : List Value} {h : Int}
theorem search_tr {r : Option Nat} {Q : SetFound→Shared→Prop} (ho : s.heap.get? a = some o) (hd : o.data = .set ev ep t) (hf : t.fits et.size = true) (R : Mems G s.heap ev et) (hx1 : s.heap.IsTuple xa its.toArray) (hx2 : Vs s.heap x its) (hxd : x.deep < 8)
    (hu : A.units + 8 < cLine) (hs : srch et t x h = some r) (h0 : r = none→Q (.there none) s) (h1 : ∀ j,r = some j→Q (.free j false) s) : wpAny (model prog w) A (setSearch a (.ref xa) h true) Q E s := by
  have hf' : t.fits ev.size = true := by rw [R.size]; exact hf
  unfold srch at hs
  by_cases hg : t.gaveWay = true
  · rw [if_pos hg] at hs; cases hs
  rw [if_neg hg] at hs
  unfold setSearch
  rw [show (100000 : Nat) = 99999 + 1 from rfl,setSearchFrom]
  refine wpAny_bind (wpAny_setState_of ho hd hf' ?_)
  dsimp only
  rw [if_neg hg]
  have hpr : ∀ f : Nat→Int,(∀ i,f i = hAt et i)→t.probe f h ((none : Option SetTable.Probe).getD (t.probeStart h)) = t.probe (hAt et) h (t.probeStart h):=fun f hf => by
    rw [show f = hAt et from funext hf]; rfl
  generalize hst : t.probe _ h ((none : Option SetTable.Probe).getD (t.probeStart h)) = pr
  have hpr' : pr = t.probe (hAt et) h (t.probeStart h):=hst.symm.trans (hpr _ fun i => R.hAt i)
  clear hst hpr
  subst hpr'
  cases hp : t.probe (hAt et) h (t.probeStart h) with
  | none => rw [hp] at hs; cases hs
  | some met =>
    rw [hp] at hs
    cases met with
    | empty j dummy =>
      cases dummy with
      | none => cases hs; exact wpAny_pure (h1 j rfl)
      | some d => cases hs
    | candidate j i next =>
      cases he : et[i]? with
      | none => simp only [he] at hs; cases hs
      | some zy =>
        obtain ⟨z,y⟩:=zy
        simp only [he] at hs
        by_cases hy : y = x
        · rw [if_pos hy] at hs
          cases hs
          subst hy
          obtain ⟨b,its2,e1,e2,e3,e4⟩:=R.at he
          cases hl : t.led with
          | true =>
            simp only [Bool.not_true,Bool.false_eq_true,if_false]
            rw [e1]
            refine wpAny_bind (wpAny_holding (eqAt e2 e3 hx1 hx2 (by lia) prog w E _ ?_))
            rw [decide_eq_true rfl]
            refine wpAny_bind (wpAny_setState_of ho hd hf' ?_)
            exact wpAny_pure (h0 rfl)
          | false =>
            simp only [Bool.not_false,if_true]
            refine wpAny_bind (not_seen ⟨xa,its,_,rfl,hx1,hx2,hxd⟩ (fun v hv => ?_) ?_)
            · obtain ⟨p,hp1,rfl⟩:=List.mem_map.mp hv
              exact R.good p (Array.mem_toList_iff.mpr (Array.mem_filter.mp (Array.mem_toList_iff.mp hp1)).1)
            simp only [Bool.false_eq_true,if_false]
            rw [e1]
            refine wpAny_bind (wpAny_holding (eqAt e2 e3 hx1 hx2 (by lia) prog w E _ ?_))
            rw [decide_eq_true rfl]
            refine wpAny_bind (wpAny_setState_of ho hd hf' ?_)
            exact wpAny_pure (h0 rfl)
        · rw [if_neg hy] at hs; cases hs
theorem size_small {n : Nat} (h : n≤100000) : n≤sizeLine:=Nat.le_trans h (by rw [sizeLine_eq]; decide)
theorem put_get {hp : Heap} (ho : hp.get? a = some o) (hd : o.data = .set ev ep t) (ev' : Array (Int×Value)) (t' : SetTable) : (hp.update a (Obj.putSet ev' t')).get? a = some { o with data:=.set ev' (ep + 1) t' } := by
  have:=Heap.get?_update_self (Obj.putSet ev' t') ho (by rw [putSet_of ev' t' hd]; rfl)
  rw [putSet_of ev' t' hd] at this
  exact this
theorem put_keep {hp : Heap} (ho : hp.get? a = some o) (hc : o.cls = .type "set") (g : Obj→Obj) : ∀ b u,hp.get? b = some u→u.cls = .type "tuple" → (hp.update a g).get? b = some u:=fun b u q hu => by
  have : a≠b:=fun z => by
    subst z
    rw [ho] at q
    cases q
    rw [hc] at hu
    injection hu with z
    exact absurd z (by decide)
  rw [Heap.get?_update_other _ _ this]
  exact q
theorem add_tr {et' : ES} {t' : SetTable} {Q : Bool→Shared→Prop} (ho : s.heap.get? a = some o) (hc : o.cls = .type "set") (hd : o.data = .set ev ep t) (R : Mems G s.heap ev et) (hx1 : s.heap.IsTuple xa its.toArray) (hx2 : Vs s.heap x its) (hxd : x.deep < 8) (hxg : G (.ref xa) x)
    (hu : A.units + 8 < cLine) (hs : addP (et,t) x = some (et',t'))
    (k : ∀ (b : Bool) (h' : Heap) (tk : Nat) (ev' : Array (Int×Value)) (ep' : Nat),Heap.SameBut a s.heap h'→h'.get? a = some { o with data:=.set ev' ep' t' }→Mems G h' ev' et'→Q b { s with heap:=h',toks:=tk }) :
    wpAny (model prog w) A (setAdd a (.ref xa)) Q E s := by
  unfold setAdd
  refine wpAny_holding (wpAny_bind (hash_at hx1 hx2 (by lia) fun tk => ?_))
  unfold setAddHashed
  refine wpAny_holding ?_
  unfold addP at hs
  by_cases h1 : (t.fits et.size && decide (et.size≤1000) && t.plain) = false
  · rw [if_pos h1] at hs; cases hs
  rw [if_neg h1] at hs
  simp only [Bool.not_eq_false,Bool.and_eq_true,decide_eq_true_eq] at h1
  obtain ⟨⟨hf,hz⟩,hpl⟩:=h1
  have hf' : t.fits ev.size = true := by rw [R.size]; exact hf
  cases hsr : srch et t x (hashT x) with
  | none => simp only [hsr] at hs; cases hs
  | some r =>
    simp only [hsr] at hs
    rw [show (100000 : Nat) = 99999 + 1 from rfl,setAddHashedIn]
    refine wpAny_bind (wpAny_setState_of (s:={ s with toks:=tk }) ho hd hf' ?_)
    dsimp only
    have hbs : byScan (.ref xa) ev = false:=rfl
    rw [hbs,if_neg Bool.false_ne_true]
    refine wpAny_bind (search_tr (s:={ s with toks:=tk }) ho hd hf R hx1 hx2 hxd hu hsr (fun hr => ?_) fun j hr => ?_)
    · subst hr
      cases hs
      exact wpAny_pure (k _ s.heap tk ev ep (Heap.SameBut.refl ..) (by rw [ho,← hd]) R)
    · subst hr
      dsimp only at hs ⊢
      refine wpAny_bind (wpAny_setState_of (s:={ s with toks:=tk }) ho hd hf' ?_)
      dsimp only
      have hpl2 : (t.put j).1.plain = true:=hpl
      rw [if_pos hpl2]
      refine wpAny_bind (by_value 8 (s:={ s with toks:=tk }) ⟨xa,its,x,rfl,hx1,hx2,hxd⟩ ?_)
      simp only [if_true]
      have R1 : Mems G s.heap (SetTable.insertAt ev (t.put j).2 (hashT x,.ref xa)) (SetTable.insertAt et (t.put j).2 (hashT x,x)) := by
        unfold Mems
        rw [insertAt_list,insertAt_list]
        exact Paired.app (.cons ⟨rfl,hxd,hxg,xa,its,rfl,hx1,hx2⟩ (Paired.drop _ R)) (Paired.take _ R)
      have hz1 : (SetTable.insertAt ev (t.put j).2 (hashT x,Value.ref xa)).size≤1001 := by
        have h2:=congrArg List.length (insertAt_list ev (t.put j).2 (hashT x,Value.ref xa))
        simp only [Array.length_toList,List.length_append,List.length_take,List.length_cons,List.length_drop] at h2
        have:=R.size
        lia
      have hz2 : (SetTable.insertAt et (t.put j).2 (hashT x,x)).size = (SetTable.insertAt ev (t.put j).2 (hashT x,Value.ref xa)).size:=R1.size.symm
      refine wpAny_bind (wpAny_storeSet_of (s:={ s with toks:=tk }) ho hd ?_ (size_small (by lia)))
      have g1:=put_get ho hd (SetTable.insertAt ev (t.put j).2 (hashT x,.ref xa)) (t.put j).1
      have k1:=put_keep ho hc (Obj.putSet (SetTable.insertAt ev (t.put j).2 (hashT x,.ref xa)) (t.put j).1)
      have sb1:=Heap.SameBut.update s.heap a (Obj.putSet (SetTable.insertAt ev (t.put j).2 (hashT x,.ref xa)) (t.put j).1)
      by_cases hfull : (t.put j).1.tooFull = false
      · rw [if_pos hfull] at hs
        cases hs
        rw [hfull]
        simp only [Bool.and_false,Bool.false_eq_true,if_false]
        exact wpAny_pure (k _ _ tk _ _ sb1 g1 (R1.keeps k1))
      · rw [if_neg hfull] at hs
        have hfull : (t.put j).1.tooFull = true := by simpa using hfull
        rw [hfull]
        simp only [Bool.not_false,Bool.and_true,if_true]
        by_cases h2 : ((t.put j).1.fits (SetTable.insertAt et (t.put j).2 (hashT x,x)).size && decide (SetTable.sizeAbove (SetTable.grown (et.size + 1))≤100000)) = false
        · rw [if_pos h2] at hs; cases hs
        rw [if_neg h2] at hs
        simp only [Bool.not_eq_false,Bool.and_eq_true,decide_eq_true_eq] at h2
        obtain ⟨hfit,hsa⟩:=h2
        cases hrl : (t.put j).1.relaid ((SetTable.insertAt et (t.put j).2 (hashT x,x)).map (·.1)) (SetTable.grown (et.size + 1)) with
        | none => simp only [hrl] at hs; cases hs
        | some to =>
          obtain ⟨t2,order⟩:=to
          simp only [hrl] at hs
          by_cases h3 : (order.filterMap ((SetTable.insertAt et (t.put j).2 (hashT x,x))[·]?)).size = (SetTable.insertAt et (t.put j).2 (hashT x,x)).size
          · rw [if_pos h3] at hs
            cases hs
            have R2 : Mems G s.heap (order.filterMap ((SetTable.insertAt ev (t.put j).2 (hashT x,Value.ref xa))[·]?)) (order.filterMap ((SetTable.insertAt et (t.put j).2 (hashT x,x))[·]?)) := by
              unfold Mems
              have:=Paired.pick R1 order.toList
              simpa using this
            have g2:=put_get g1 rfl (order.filterMap ((SetTable.insertAt ev (t.put j).2 (hashT x,Value.ref xa))[·]?)) t'
            have k2:=put_keep g1 hc (Obj.putSet (order.filterMap ((SetTable.insertAt ev (t.put j).2 (hashT x,Value.ref xa))[·]?)) t')
            have sb2:=Heap.SameBut.update (s.heap.update a (Obj.putSet (SetTable.insertAt ev (t.put j).2 (hashT x,.ref xa)) (t.put j).1)) a (Obj.putSet (order.filterMap ((SetTable.insertAt ev (t.put j).2 (hashT x,Value.ref xa))[·]?)) t')
            refine wpAny_bind ?_
            unfold setRelay
            refine wpAny_bind (wpAny_setState_of g1 rfl (by rw [← hz2]; exact hfit) ?_)
            dsimp only
            rw [R.size,if_neg (Nat.not_lt.mpr (size_small hsa))]
            refine wpAny_bind ?_
            rw [R1.fst,hrl]
            have hsz : (order.filterMap ((SetTable.insertAt ev (t.put j).2 (hashT x,Value.ref xa))[·]?)).size = (SetTable.insertAt ev (t.put j).2 (hashT x,Value.ref xa)).size := by rw [R2.size,h3,hz2]
            have hne : ¬ ((order.filterMap ((SetTable.insertAt ev (t.put j).2 (hashT x,Value.ref xa))[·]?)).size != (SetTable.insertAt ev (t.put j).2 (hashT x,Value.ref xa)).size) = true := by simp [hsz]
            show wpAny _ _ (do if (order.filterMap ((SetTable.insertAt ev (t.put j).2 (hashT x,Value.ref xa))[·]?)).size != (SetTable.insertAt ev (t.put j).2 (hashT x,Value.ref xa)).size then unsupported "internal:set-table-lost-an-element"
                               pure (order.filterMap ((SetTable.insertAt ev (t.put j).2 (hashT x,Value.ref xa))[·]?),t')) _ _ _
            rw [if_neg hne]
            refine wpAny_pure ?_
            refine wpAny_storeSet_of g1 rfl ?_ (size_small (by rw [hsz]; lia))
            exact wpAny_pure (k _ _ tk _ _ (sb1.trans sb2) g2 ((R2.keeps k1).keeps k2))
          · rw [if_neg h3] at hs; cases hs
end
end TH
namespace TH
open PySem
def grow : List Tr→Tr→List Tr
  | _,.nil => []
  | pre,.cons b r => ((Tr.of (Tr.srt (b.bs ++ [.nil])) :: grow [] b).map fun g => Tr.of (Tr.srt (pre ++ g :: r.bs))) ++ grow (pre ++ [b]) r
def oneL (t : Tr) : List Tr:=Tr.of (Tr.srt (t.bs ++ [.nil])) :: grow [] t
def ups (l : List Tr) : List Tr:=l.flatMap oneL
def runP (st : ES×SetTable) : List Tr→Option (ES×SetTable)
  | [] => some st
  | x :: r => (addP st x).bind fun st' => runP st' r
def fresh0 (led : Bool) : ES×SetTable:=(#[],.fresh 0 0 led)
def memsOf (st : ES×SetTable) : List Tr:=st.1.toList.map (·.2)
def tz : Nat→List Tr
  | 0 => [.nil]
  | n + 1 => (Tr.srt ((ups (tz n)).eraseDups)).reverse
end TH
namespace TH
open PySem PyProof.Rows PySem.SeqAt
def TreeV (G : Value→Tr→Prop) (h : Heap) (v : Value) (x : Tr) : Prop:=x.deep < 8∧G v x∧∃ a its,v = .ref a∧h.IsTuple a its.toArray∧Vs h x its
abbrev TreesAt (G : Value→Tr→Prop) (h : Heap) (vs : List Value) (xs : List Tr) : Prop:=Paired (TreeV G h) vs xs
variable {G : Value→Tr→Prop}
theorem TreeV.keeps {h h' : Heap} (k : ∀ b o,h.get? b = some o→o.cls = .type "tuple" → h'.get? b = some o) {v : Value} {x : Tr} (r : TreeV G h v x) : TreeV G h' v x := by
  obtain ⟨hd,hg,a,its,e,h1,h2⟩:=r
  exact ⟨hd,hg,a,its,e,(by obtain ⟨o,ho,hc,n,hdt⟩:=h1; exact ⟨o,k _ _ ho hc,hc,n,hdt⟩),h2.keeps k⟩
theorem TreesAt.keeps {h h' : Heap} (k : ∀ b o,h.get? b = some o→o.cls = .type "tuple" → h'.get? b = some o) {vs : List Value} {xs : List Tr} (r : TreesAt G h vs xs) : TreesAt G h' vs xs:=Paired.imp (fun _ _ z => z.keeps k) r
def SetAt (G : Value→Tr→Prop) (h : Heap) (S : Addr) (st : ES×SetTable) : Prop:=∃ o ev ep,h.get? S = some o∧o.ExactSet∧o.data = .set ev ep st.2∧Mems G h ev st.1
theorem SetAt.keeps {h h' : Heap} {S : Addr} {st : ES×SetTable} (x : SetAt G h S st) (kS : ∀ o,h.get? S = some o→h'.get? S = some o) (k : ∀ b o,h.get? b = some o→o.cls = .type "tuple" → h'.get? b = some o) : SetAt G h' S st := by
  obtain ⟨o,ev,ep,h1,h2,h3,h4⟩:=x
  exact ⟨o,ev,ep,kS _ h1,h2,h3,h4.keeps k⟩
section
variable {prog : Program} {w : World} {A : Around} {R : Result→Shared→Prop} {I S : Addr} {fp wr : List Addr} {St : Nat→Heap→Prop} {items : Array Value} {xs : List Tr} {st' : ES×SetTable}
theorem loop_tr (W : Walks prog w A.in1 I fp wr items.size (fun i v => items[i]? = some v) St) (hSf : S ∉ fp) (hcl : ∀ i h b o,St i h→b∈wr→h.get? b = some o→o.cls≠.type "tuple") (hu : A.units + 10 < cLine) :
    ∀ (k i : Nat) (s : Shared) (st : ES×SetTable),items.size - i = k→i≤items.size→St i s.heap→SetAt G s.heap S st→TreesAt G s.heap items.toList xs→runP st (xs.drop i) = some st' →
      (∀ (h' : Heap) (tk : Nat),(∀ b o,b≠S→b ∉ wr→s.heap.get? b = some o→h'.get? b = some o)→(∀ b o,s.heap.get? b = some o→o.cls = .type "tuple" → h'.get? b = some o)→SetAt G h' S st'→R (.ok (.ret .none)) { s with heap:=h',toks:=tk }) →
      codeAny (model prog w) A (.builtin "set.update.loop" ⟨[.ref S,.ref I],[]⟩) R s := by
  have hSw : S ∉ wr:=fun h => hSf (W.sub _ h)
  intro k
  induction k with
  | zero =>
    intro i s st hk hi hst hS hT hrun hR
    have hin : i = items.size := by lia
    subst hin
    have hlen:=Paired.length hT
    rw [List.drop_of_length_le (by rw [← hlen]; simp)] at hrun
    cases hrun
    refine codeAny_builtin F.entry_set_update_loop ?_
    rw [Around.under_plainId F.plain_set_update_loop _]
    show wpAny _ A.in1 (pyNext (.ref I) >>= _) _ _ s
    refine wpAny_bind (W.done s _ _ hst fun h' tk hm => ?_)
    show wpAny _ A.in1 (ret Value.none) _ _ _
    have kt : ∀ b o,s.heap.get? b = some o→o.cls = .type "tuple" → h'.get? b = some o:=fun b o e hc => hm b o (fun hb => hcl _ _ b o hst hb e hc) e
    exact wpAny_pure (hR h' tk (fun b o _ hb e => hm b o hb e) kt (hS.keeps (fun o e => hm S o hSw e) kt))
  | succ k ih =>
    intro i s st hk hi hst hS hT hrun hR
    have hlt : i < items.size := by lia
    refine codeAny_builtin F.entry_set_update_loop ?_
    rw [Around.under_plainId F.plain_set_update_loop _]
    show wpAny _ A.in1 (pyNext (.ref I) >>= _) _ _ s
    refine wpAny_bind (W.item i s _ _ hlt hst fun v h1 tk hP hst' hm => ?_)
    have kt : ∀ b o,s.heap.get? b = some o→o.cls = .type "tuple" → h1.get? b = some o:=fun b o e hc => hm b o (fun hb => hcl _ _ b o hst hb e hc) e
    have hS1:=hS.keeps (fun o e => hm S o hSw e) kt
    have hT1:=hT.keeps kt
    have hlen:=Paired.length hT
    have hxi : i < xs.length := by rw [← hlen]; simpa using hlt
    have hx : xs[i]? = some xs[i]:=List.getElem?_eq_getElem hxi
    obtain ⟨v',hv',hxd,hxg,xa,its,e1,e2,e3⟩:=Paired.get hT1 hx
    have hvv : v' = v := by
      have h2 : items.toList[i]? = some v := by simpa using hP
      rw [h2] at hv'
      exact (Option.some.inj hv').symm
    subst hvv
    subst e1
    rw [List.drop_eq_getElem_cons hxi,runP] at hrun
    cases hadd : addP st xs[i] with
    | none => rw [hadd] at hrun; cases hrun
    | some st1 =>
      rw [hadd] at hrun
      obtain ⟨o,ev,ep,g1,g2,g3,g4⟩:=hS1
      obtain ⟨et,t⟩:=st
      obtain ⟨et1,t1⟩:=st1
      show wpAny _ A.in1 (holding [Value.ref xa] (setAdd S (.ref xa)) >>= _) _ _ _
      refine wpAny_bind (wpAny_holding (add_tr (s:={ s with heap:=h1,toks:=tk }) g1 g2.1 g3 g4 e2 e3 hxd hxg (by rw [Around.in1_units]; lia) hadd fun b h2 tk2 ev2 ep2 sb gS R2 => ?_))
      have kt2 : ∀ b o,h1.get? b = some o→o.cls = .type "tuple" → h2.get? b = some o:=fun b o' e hc => by
        rw [sb.2 b fun z => ?_]
        · exact e
        · subst z
          rw [g1] at e
          cases e
          rw [g2.1] at hc
          injection hc with hc
          exact absurd hc (by decide)
      refine wpAny_pure ⟨plainId_quiet F.plain_set_update_loop _,ih (i + 1) { s with heap:=h2,toks:=tk2 } (et1,t1) (by lia) hlt (W.frame _ _ _ hst' fun b hb o' e => ?_) ⟨_,ev2,ep2,gS,g2,rfl,R2⟩ (hT1.keeps kt2) hrun fun h3 tk3 m3 kt3 S3 => ?_⟩
      · rw [sb.2 b fun z => hSf (z ▸ hb)]
        exact e
      · refine hR h3 tk3 (fun b o' hbS hb e => ?_) (fun b o' e hc => kt3 b o' (kt2 b o' (kt b o' e hc) hc) hc) S3
        refine m3 b o' hbS hb ?_
        show h2.get? b = some o'
        rw [sb.2 b hbS]
        exact hm b o' hb e
end
end TH
namespace TH
open PySem PyProof.Rows PySem.SeqAt
section
variable {G : Value→Tr→Prop} {prog : Program} {w : World} {A : Around} {E : Value→Shared→Prop} {s : Shared} {l : Addr} {us : List Value} {xs : List Tr}
abbrev noSet (led : Bool) : Obj:={ cls:=.type "set",dict:=none,data:=.set #[] 0 (.fresh 0 0 led) }
theorem new_set_at (v : Value) {Q1 : Value→Shared→Prop} (k : Q1 (.ref s.heap.objs.size) { s with heap:=s.heap.push (noSet (!w.params.followText "set-order")) }) :
    codeAny (model prog w) A (.call (.builtin "set.__new__") ⟨[.type "set",v],[]⟩) (wants Q1 E) s := by
  refine codeAny_of_tree (show wpAny _ A.in1 (checkBuiltinCall "set.__new__" ⟨[.type "set",v],[]⟩ >>= fun _ => again (.builtin "set.__new__" ⟨[.type "set",v],[]⟩)) _ _ s from ?_)
  refine wpAny_bind (wpAny_of_eq (F.newCall_set_1 v) (wpAny_pure ⟨plainId_quiet F.plain_set_new _,codeAny_builtin F.entry_set_new ?_⟩))
  rw [Around.under_plainId F.plain_set_new _]
  unfold Builtin.«set.__new__»
  unfold Builtin.Frozenset.newClass
  have q:=sub_set_self
  obtain ⟨h0,g0,d0,t0,o0⟩:=s
  dsimp only
  wp_walk
  refine wpAny_askSetting (wpAny_pure ?_)
  dsimp only
  simp only [newObj]
  exact wpAny_bind (wpAny_alloc (wpAny_pure (wpAny_pure k)))
theorem call_set_tr {Q : Value→Shared→Prop} (hA : A.handled = none) (hL : s.heap.IsList l us.toArray) (hT : TreesAt G s.heap us xs) (hu : A.units + 20 < cLine) {st : ES×SetTable} (hst : runP (fresh0 (!w.params.followText "set-order")) xs = some st)
    (k : ∀ (h2 : Heap) (tk : Nat),SetAt G h2 s.heap.objs.size st→(∀ b u,s.heap.get? b = some u→h2.get? b = some u)→Q (.ref s.heap.objs.size) { s with heap:=h2,toks:=tk }) :
    wpAny (model prog w) A (call (.type "set") [.ref l]) Q E s := by
  obtain ⟨mc,mt,hmro⟩:=F.called_set.mro
  have q1:=F.called_set.made
  have q2:=F.called_set.sub
  have q3:=F.called_set.notType
  have q4:=F.called_set.canCreate
  have q5:=F.typeCall_set_1 (.ref l)
  refine wpAny_call (codeAny_of_tree (show wpAny _ _ (callAny (.type "set") _) _ _ _ from ?_))
  refine wpAny_pure ⟨Code.quiet_builtin _ (by decide +kernel),codeAny_builtin F.entry_type_call ?_⟩
  rw [Around.under_plain (weight_type_call_type "set" [.ref l] []) rfl]
  repeat (any_goals (first | assumption | wp_step))
  have hnew:=new_set_at (prog:=prog) (w:=w) (s:=s) (A:=A.in1) (E:=E) (.ref l) (Q1:=fun v s1 => v = .ref s.heap.objs.size∧s1 = { s with heap:=s.heap.push (noSet (!w.params.followText "set-order")) }) ⟨rfl,rfl⟩
  refine codeAny_mono hnew fun r s1 hr => ?_
  cases r with
  | error e => exact hr
  | ok fl =>
    cases fl with
    | next => exact hr.elim
    | brk => exact hr.elim
    | cont => exact hr.elim
    | ret obj =>
      obtain ⟨rfl,rfl⟩:=hr
      generalize (!w.params.followText "set-order") = led at hst
      have gS : (s.heap.push (noSet led)).get? s.heap.objs.size = some (noSet led):=Heap.get?_push_size _ rfl
      have tS : Shared.TypeIs { s with heap:=s.heap.push (noSet led) } (.ref s.heap.objs.size) "set" := ⟨_,gS,rfl⟩
      have q6:=F.called_set.init.lookup
      have q7:=F.called_set.init.bind (.ref s.heap.objs.size)
      repeat (any_goals (first | assumption | wp_step))
      have hinit : codeAny (model prog w) A.in1 (.call (.builtin "set.__init__") ⟨[.ref s.heap.objs.size,.ref l],[]⟩)
          (wants (fun v s2 => v = .none∧∃ h2 tk,s2 = { s with heap:=h2,toks:=tk }∧SetAt G h2 s.heap.objs.size st∧∀ b u,s.heap.get? b = some u→h2.get? b = some u) E) { s with heap:=s.heap.push (noSet led) } := by
        refine codeAny_call_builtin F.called_set.init.plain F.entry_set_init (check_set_init_1 tS ?_)
        obtain ⟨⟨c0,d0,dt0,sl0⟩,gl,c1,n0,dt1⟩:=id hL
        simp only at c1 dt1
        subst c1 dt1
        have gl1 : (s.heap.push (noSet led)).get? l = some ⟨.type "list",d0,.seq us.toArray n0,sl0⟩:=Heap.get?_push_of_some _ gl
        have isl : (s.heap.push (noSet led)).IsList l us.toArray:=⟨_,gl1,rfl,n0,rfl⟩
        have s1:=F.sub_list_set
        have s2:=F.sub_list_frozenset
        have s3 : (Value.type "list" == Value.type "dict") = false := by decide
        unfold Builtin.«set.__init__» noKeywords Builtin.Frozenset.updateFrom
        generalize ePI : pyIter = PI
        wp_walk
        subst ePI
        refine wpAny_pyIter_list isl (wpAny_bind (wpAny_runValue ?_))
        have ll : l < s.heap.objs.size:=Heap.lt_size gl
        have zI : (s.heap.push (noSet led)).objs.size = s.heap.objs.size + 1:=Heap.size_push ..
        have neI : l≠(s.heap.push (noSet led)).objs.size := by rw [zI]; exact Nat.ne_of_lt (Nat.lt_succ_of_lt ll)
        have nfp : s.heap.objs.size ∉ [(s.heap.push (noSet led)).objs.size,l] := by
          simp only [List.mem_cons,List.not_mem_nil,or_false,not_or]
          exact ⟨by rw [zI]; exact Nat.ne_of_lt (Nat.lt_succ_self _),Nat.ne_of_gt ll⟩
        have hA3 : A.in1.in1.in1.handled = none := by simp [hA]
        refine loop_tr (G:=G) (xs:=xs) (st':=st) (Walks.list hA3 _ l neI us.toArray) nfp (fun i h b o hit hb e hc => ?_) (by simp only [Around.in1_units]; lia) _ 0 _ (fresh0 led) rfl (Nat.zero_le _) ⟨⟨_,Heap.get?_push_size _ rfl,rfl,rfl⟩,isl.push _⟩ ?_ ?_ hst fun h2 tk m2 kt2 S2 => ?_
        · obtain ⟨⟨oi,gi,ci,_⟩,_⟩:=hit
          have : b = (s.heap.push (noSet led)).objs.size := by simpa using hb
          subst this
          rw [gi] at e
          cases e
          rw [ci] at hc
          injection hc with hc
          exact absurd hc (by decide)
        · exact ⟨noSet led,#[],0,Heap.get?_push_of_some _ gS,⟨rfl,rfl,rfl⟩,rfl,.nil⟩
        · exact hT.keeps fun b o e _ => Heap.get?_push_of_some _ (Heap.get?_push_of_some _ e)
        · refine wpAny_pure ?_
          show wpAny _ _ (ret Value.none) _ _ _
          refine wpAny_pure ⟨rfl,h2,tk,rfl,S2,fun b u e => ?_⟩
          have lb : b < s.heap.objs.size:=Heap.lt_size e
          refine m2 b u (Nat.ne_of_lt lb) ?_ (Heap.get?_push_of_some _ (Heap.get?_push_of_some _ e))
          simp only [List.mem_cons,List.not_mem_nil,or_false]
          rw [zI]
          exact Nat.ne_of_lt (Nat.lt_succ_of_lt lb)
      refine codeAny_mono hinit fun r2 s2 hr2 => ?_
      cases r2 with
      | error e => exact hr2
      | ok f2 =>
        cases f2 with
        | next => exact hr2.elim
        | brk => exact hr2.elim
        | cont => exact hr2.elim
        | ret v2 =>
          obtain ⟨rfl,h2,tk,rfl,S2,k2⟩:=hr2
          repeat (any_goals (first | assumption | wp_step))
          exact k h2 tk S2 k2
end
end TH
namespace TH
open PySem PyProof.Rows PySem.SeqAt
theorem entry_set_walk : entryFor table "set.__iter__" = some Builtin.«frozenset.__iter__» :=
  entryFor_alias (id' := "frozenset.__iter__") (by kernel_rfl) rfl (by decide +kernel) (by kernel_rfl)
theorem slot_set_step : Slot "set_iterator" "__next__" "set_iterator.__next__" :=
  .of (owner := "set_iterator") (n := "__next__") (by rw [typeLookup_type,builtinLookup_eq_fast]; kernel_rfl) (by decide +kernel)
    (by decide +kernel) (by decide +kernel) (by first | exact .inl (by decide +kernel) | exact .inr (by decide +kernel)) (by rw [isSubtype_type]; kernel_rfl)
theorem entry_set_step : entryFor table "set_iterator.__next__" = some Builtin.«set_iterator.__next__»:=entryFor_of_fast (by kernel_rfl)
theorem args_set_step (a : Value) : argsOk "set_iterator.__next__" ⟨[a],[]⟩ := by unfold argsOk; kernel_rfl
theorem slot_set_self : Slot "set_iterator" "__iter__" "set_iterator.__iter__" :=
  .of (owner := "set_iterator") (n := "__iter__") (by rw [typeLookup_type,builtinLookup_eq_fast]; kernel_rfl) (by decide +kernel)
    (by decide +kernel) (by decide +kernel) (by first | exact .inl (by decide +kernel) | exact .inr (by decide +kernel)) (by rw [isSubtype_type]; kernel_rfl)
theorem entry_set_self : entryFor table "set_iterator.__iter__" = some Builtin.«dict_keyiterator.__iter__» :=
  entryFor_alias (id' := "dict_keyiterator.__iter__") (by kernel_rfl) rfl (by decide +kernel) (by kernel_rfl)
theorem args_set_self (a : Value) : argsOk "set_iterator.__iter__" ⟨[a],[]⟩ := by unfold argsOk; kernel_rfl
section
variable {α : Type} {next : Nat→Nat}
theorem pick_go : ∀ (n k : Nat) (left : List α) (out : Array α),left.length = n→(pickOrder.go next n k left out).toList.Perm (out.toList ++ left)
  | 0,k,left,out,h => by
    have : left = []:=List.eq_nil_of_length_eq_zero h
    subst this
    rw [pickOrder.go]
    simp
  | n + 1,k,left,out,h => by
    rw [pickOrder.go]
    have hlt : next k % left.length < left.length:=Nat.mod_lt _ (by lia)
    rw [List.getElem?_eq_getElem hlt]
    refine (pick_go n (k + 1) _ _ (by rw [List.length_eraseIdx_of_lt hlt]; lia)).trans ?_
    rw [Array.toList_push,List.append_assoc]
    refine List.Perm.append_left _ ?_
    rw [List.eraseIdx_eq_take_drop_succ]
    have e : left.take (next k % left.length) ++ left[next k % left.length] :: left.drop (next k % left.length + 1) = left := by rw [← List.drop_eq_getElem_cons hlt,List.take_append_drop]
    have p:=List.perm_middle (a:=left[next k % left.length]) (l₁:=left.take (next k % left.length)) (l₂:=left.drop (next k % left.length + 1))
    rw [e] at p
    exact p.symm
theorem pick_perm (xs : Array α) : (pickOrder next xs).toList.Perm xs.toList := by
  unfold pickOrder
  simpa using pick_go xs.size 0 xs.toList #[] (by simp)
end
end TH
namespace TH
open PySem PyProof.Rows PySem.SeqAt
def ordr (w : World) (S : Addr) (ep : Nat) (ev : Array (Int×Value)) : Array (Int×Value):=if w.params.followText "set-order" = true then pickOrder (w.params.setOrder S ep) ev else ev
theorem ordr_perm (w : World) (S : Addr) (ep : Nat) (ev : Array (Int×Value)) : (ordr w S ep ev).toList.Perm ev.toList := by
  unfold ordr
  split
  · exact pick_perm ev
  · exact .refl _
theorem ordr_size (w : World) (S : Addr) (ep : Nat) (ev : Array (Int×Value)) : (ordr w S ep ev).size = ev.size := by simpa using (ordr_perm w S ep ev).length_eq
def slotOf (t : SetTable) : Nat→Nat
  | 0 => 0
  | i + 1 => t.place.getD i 0 + 1
def slotW (w : World) (t : SetTable) (i : Nat) : Nat:=if w.params.followText "set-order" = true then 0 else slotOf t i
def walkOk (t : SetTable) (n : Nat) : Bool:=(List.range (n + 1)).all fun i => decide (SetTable.below t.place (slotOf t i) = i)
abbrev iterO (w : World) (S : Addr) (t : SetTable) (ep n i : Nat) : Obj:={ cls:=.type "set_iterator",data:=.fields #[rawInt ((slotW w t i : Nat) : Int),rawInt (i : Int),.ref S,rawInt (n : Int),rawInt (ep : Int)] }
structure Walked (w : World) (o : Obj) (ev : Array (Int×Value)) (ep : Nat) (t : SetTable) : Prop where
  ex : o.ExactSet
  dat : o.data = .set ev ep t
  fit : t.fits ev.size = true
  plain : t.plain = true
  led : t.led = !w.params.followText "set-order"
  walk : walkOk t ev.size = true
section
variable {prog : Program} {w : World} {A : Around} {E : Value→Shared→Prop} {s : Shared} {S I : Addr} {o : Obj} {ev : Array (Int×Value)} {ep i : Nat} {t : SetTable}
theorem by_text {Q : Bool→Shared→Prop} (h : Q (w.params.followText "set-order") s) : wpAny (model prog w) A setsByText Q E s := by
  unfold setsByText
  exact wpAny_bind (wpAny_askSetting (wpAny_pure h))
theorem Walked.nodraw (W : Walked w o ev ep t) : (!t.plain && decide (ev.size > 1)) = false := by rw [W.plain]; rfl
theorem Walked.place (W : Walked w o ev ep t) : t.place.size = ev.size := by
  have:=W.fit
  unfold SetTable.fits at this
  simp only [Bool.and_eq_true,beq_iff_eq] at this
  exact this.1
theorem set_next {Q : Option (Value×Nat)→Shared→Prop} (W : Walked w o ev ep t) (ho : s.heap.get? S = some o) (hi : i≤ev.size) (h : Q ((ordr w S ep ev)[i]?.map fun e => (e.2,slotW w t (i + 1))) s) :
    wpAny (model prog w) A (setNext S (slotW w t i) i ep) Q E s := by
  unfold setNext
  refine wpAny_bind (wpAny_setState_of ho W.dat W.fit ?_)
  refine wpAny_bind (by_text ?_)
  cases hb : w.params.followText "set-order" with
  | true =>
    rw [if_pos rfl]
    have hne : ¬ (ep != ep) = true := by simp
    rw [if_neg hne]
    unfold setWalk
    refine wpAny_bind (wpAny_bind (wpAny_setState_of ho W.dat W.fit ?_))
    refine wpAny_bind (by_text ?_)
    rw [if_pos hb]
    refine wpAny_bind (wpAny_askSetting (wpAny_pure ?_))
    refine wpAny_pure ?_
    have e : ordr w S ep ev = pickOrder (w.params.setOrder S ep) ev := by unfold ordr; rw [if_pos hb]
    rw [e] at h
    have e2 : slotW w t i = slotW w t (i + 1) := by unfold slotW; rw [if_pos hb,if_pos hb]
    rw [e2]
    exact h
  | false =>
    rw [if_neg Bool.false_ne_true]
    refine wpAny_ite_split (fun hd => ?_) fun _ => ?_
    · have : (!t.plain && decide (ev.size > 1)) = true:=hd
      rw [W.nodraw] at this
      cases this
    · refine wpAny_bind ?_
      have hl : t.led = true := by rw [W.led,hb]; rfl
      have hn : ¬ (!t.led && !ev.isEmpty) = true := by rw [hl]; simp
      show wpAny _ _ (if (!t.led && !ev.isEmpty) = true then unsupported "set:maker-not-led" else pure ()) _ _ _
      rw [if_neg hn]
      refine wpAny_pure (wpAny_pure ?_)
      have hw:=W.walk
      unfold walkOk at hw
      have hw:=List.all_eq_true.mp hw i (List.mem_range.mpr (by lia))
      have hw : SetTable.below t.place (slotOf t i) = i := by simpa using hw
      have e1 : slotW w t i = slotOf t i := by unfold slotW; rw [hb]; rfl
      have e2 : slotW w t (i + 1) = slotOf t (i + 1) := by unfold slotW; rw [hb]; rfl
      have e3 : ordr w S ep ev = ev := by unfold ordr; rw [hb]; rfl
      rw [e2,e3] at h
      rw [e1,hw]
      by_cases hlt : i < ev.size
      · have hp : i < t.place.size := by rw [W.place]; exact hlt
        rw [Array.getElem?_eq_getElem hlt] at h ⊢
        rw [Array.getElem?_eq_getElem hp]
        have e4 : slotOf t (i + 1) = t.place[i] + 1 := by
          rw [slotOf,Array.getD_eq_getD_getElem?,Array.getElem?_eq_getElem hp]
          rfl
        rw [e4] at h
        exact h
      · rw [Array.getElem?_eq_none (by lia)] at h ⊢
        exact h
theorem step_set {Q : Option Value→Shared→Prop} {z : Int} {v : Value} (W : Walked w o ev ep t) (ho : s.heap.get? S = some o) (hI : s.heap.get? I = some (iterO w S t ep ev.size i)) (hx : (ordr w S ep ev)[i]? = some (z,v))
    (h : ∀ h',h'.get? I = some (iterO w S t ep ev.size (i + 1))→Heap.SameBut I s.heap h'→Q (some v) { s with heap:=h' }) : wpAny (model prog w) A (pyNext (.ref I)) Q E s := by
  have hT : s.TypeIs (.ref I) "set_iterator" := ⟨_,hI,rfl⟩
  have hlt : i < ev.size := by
    have:=(Array.getElem?_eq_some_iff.mp hx).1
    rw [ordr_size] at this
    exact this
  unfold pyNext
  refine wpAny_bind (wpAny_attempt (wpAny_callSpecial?_slot (name:=Str.ofString "__next__") hT slot_set_step (wpAny_call_entry slot_set_step hT entry_set_step ?_ (args_set_step _))))
  unfold Builtin.«set_iterator.__next__»
  refine wpAny_bind (wpAny_of_eq (a:=(Value.ref I,[])) rfl ?_)
  refine wpAny_bind (wpAny_fieldsOf hI rfl ?_)
  show wpAny _ _ (setEntries S >>= _) _ _ s
  refine wpAny_bind (wpAny_setEntries_of ho W.dat W.fit ?_)
  have hne : ¬ ((ev.size : Int) != (ev.size : Int)) = true := by simp
  dsimp only
  rw [if_neg hne]
  refine wpAny_bind ?_
  show wpAny _ _ (setNext S (slotW w t i) i ep) _ _ _
  refine set_next W ho (by lia) ?_
  rw [hx]
  show wpAny _ _ (setField (.ref I) 0 (rawInt ((slotW w t (i + 1) : Nat) : Int)) >>= _) _ _ _
  refine wpAny_bind (wpAny_setField hI rfl (by simp) ?_)
  have g1 : (s.heap.update I (Obj.mapFields (·.setIfInBounds 0 (rawInt ((slotW w t (i + 1) : Nat) : Int))))).get? I = some { cls:=.type "set_iterator",data:=.fields #[rawInt ((slotW w t (i + 1) : Nat) : Int),rawInt (i : Int),.ref S,rawInt (ev.size : Int),rawInt (ep : Int)] } :=
    Heap.get?_update_self _ hI rfl
  refine wpAny_bind (wpAny_setField g1 rfl (by simp) ?_)
  refine wpAny_pure ⟨_,rfl,wpAny_pure (h _ ?_ ((Heap.SameBut.update ..).trans (Heap.SameBut.update ..)))⟩
  exact Heap.get?_update_self _ g1 rfl
theorem stop_set {Q : Option Value→Shared→Prop} (hh : A.handled = none) (W : Walked w o ev ep t) (ho : s.heap.get? S = some o) (hI : s.heap.get? I = some (iterO w S t ep ev.size ev.size))
    (h : ∀ h',Heap.ExtBut I s.heap h'→Q none { s with heap:=h' }) : wpAny (model prog w) A (pyNext (.ref I)) Q E s := by
  have hT : s.TypeIs (.ref I) "set_iterator" := ⟨_,hI,rfl⟩
  unfold pyNext
  refine wpAny_bind (wpAny_attempt (wpAny_callSpecial?_slot (name:=Str.ofString "__next__") hT slot_set_step (wpAny_call_entry slot_set_step hT entry_set_step ?_ (args_set_step _))))
  unfold Builtin.«set_iterator.__next__»
  refine wpAny_bind (wpAny_of_eq (a:=(Value.ref I,[])) rfl ?_)
  refine wpAny_bind (wpAny_fieldsOf hI rfl ?_)
  show wpAny _ _ (setEntries S >>= _) _ _ s
  refine wpAny_bind (wpAny_setEntries_of ho W.dat W.fit ?_)
  have hne : ¬ ((ev.size : Int) != (ev.size : Int)) = true := by simp
  dsimp only
  rw [if_neg hne]
  refine wpAny_bind ?_
  show wpAny _ _ (setNext S (slotW w t ev.size) ev.size ep) _ _ _
  refine set_next W ho (Nat.le_refl _) ?_
  rw [Array.getElem?_eq_none (by rw [ordr_size]; exact Nat.le_refl _)]
  show wpAny _ _ (setField (.ref I) 2 Value.none >>= _) _ _ _
  refine wpAny_bind (wpAny_setField hI rfl (by simp) ?_)
  refine wpAny_bind ?_
  simp only [newExc,newTuple]
  refine wpAny_bind (wpAny_newObj_type ?_ (by size_fits))
  refine wpAny_bind (m:=firstArgMember _ _) (wpAny_of_eq (a:=Value.none) (by first | rfl | (simp only [firstArgMember]; rfl)) (wpAny_newObj_type ?_ (by size_fits)))
  simp only [raiseNew]
  refine wpAny_bind (wpAny_handled ?_)
  have hh1 : A.in1.handled = none:=hh
  rw [hh1]
  refine wpAny_bind (wpAny_pure (wpAny_throw ?_))
  refine wpAny_bind (wpAny_isInstance (b:=true) (T := "StopIteration") ⟨_,Heap.get?_push_size _ rfl,rfl⟩ isSubtype_stop ?_)
  exact wpAny_pure (h _ (((Heap.SameBut.update ..).extBut.push _).push _))
theorem self_set {Q : Value→Shared→Prop} (hI : s.heap.get? I = some (iterO w S t ep ev.size i)) (h : Q (.ref I) s) : wpAny (model prog w) A (pyIter (.ref I)) Q E s := by
  have hT : s.TypeIs (.ref I) "set_iterator" := ⟨_,hI,rfl⟩
  refine wpAny_pyIter_slot hT slot_set_self (wpAny_call_entry slot_set_self hT entry_set_self ?_ (args_set_self _))
  show wpAny _ _ (ret (.ref I)) _ _ s
  exact wpAny_pure ⟨_,rfl, "set_iterator",_,hT,slot_set_step.lookup,h⟩
theorem walks_set (hh : A.handled = none) (hne : S≠I) (W : Walked w o ev ep t) :
    Walks prog w A I [I,S] [I] ev.size (fun i v => ∃ z,(ordr w S ep ev)[i]? = some (z,v)) (fun i h => h.get? I = some (iterO w S t ep ev.size i)∧h.get? S = some o) where
  sub:=fun b hb => by simp at hb; simp [hb]
  frame:=fun _ _ _ x k => ⟨k I (by simp) _ x.1,k S (by simp) _ x.2⟩
  item:=fun i s Q E hi x hQ => by
    have hi' : i < (ordr w S ep ev).size := by rw [ordr_size]; exact hi
    obtain ⟨z,v,hx⟩ : ∃ z v,(ordr w S ep ev)[i]? = some (z,v):=⟨(ordr w S ep ev)[i].1,(ordr w S ep ev)[i].2,by rw [Array.getElem?_eq_getElem hi']⟩
    refine step_set W x.2 x.1 hx fun h' g sb => hQ v h' s.toks ⟨z,hx⟩ ⟨g,(sb.2 S hne).trans x.2⟩ fun b u hb e => ?_
    rw [sb.2 b fun q => hb (by simp [q])]
    exact e
  done:=fun s Q E x hQ => stop_set hh W x.2 x.1 fun h' eb => hQ h' s.toks fun b u hb e => eb b u (fun q => hb (by simp [q])) e
  self:=fun _ _ _ _ x hQ => self_set x.1 hQ
theorem hint_set {Q : Bool→Shared→Prop} (hT : s.TypeIs (.ref S) "set") (h : Q false s) : wpAny (model prog w) A (Builtin.List.listLengthHint (.ref S)) Q E s := by
  unfold Builtin.List.listLengthHint
  refine wpAny_bind (wpAny_specialOf hT PySem.F.slot_set_len.lookup ?_)
  generalize hid : ("set.__len__" : String) = id0
  wp_delta
  rw [show splitId id0 = some ("set", "__len__") from by subst hid; decide +kernel]
  subst hid
  refine wpAny_bind (wpAny_isInstance (b:=true) (T := "set") hT (by rw [isSubtype_type]; kernel_rfl) ?_)
  refine wpAny_ite_split (fun z => absurd z (by decide)) fun _ => ?_
  refine wpAny_ite_split (fun _ => ?_) fun z => absurd (by decide +kernel) z
  exact wpAny_bind (wpAny_typeOf hT (wpAny_pure h))
theorem iter_set {Q : Value→Shared→Prop} (W : Walked w o ev ep t) (ho : s.heap.get? S = some o) (h : Q (.ref s.heap.objs.size) { s with heap:=s.heap.push (iterO w S t ep ev.size 0) }) :
    wpAny (model prog w) A (pyIter (.ref S)) Q E s := by
  have hT : s.TypeIs (.ref S) "set" := ⟨o,ho,W.ex.1⟩
  refine wpAny_pyIter_slot hT PySem.F.slot_set_iter (wpAny_call_entry PySem.F.slot_set_iter hT entry_set_walk ?_ (PySem.F.args_set_iter_1 _))
  unfold Builtin.«frozenset.__iter__»
  refine wpAny_bind (wpAny_of_eq (a:=S) rfl ?_)
  unfold Builtin.Frozenset.sizeOf
  refine wpAny_bind (wpAny_bind (wpAny_setEntries_of ho W.dat W.fit (wpAny_pure ?_)))
  unfold setDrawn
  refine wpAny_bind (wpAny_bind (wpAny_setState_of ho W.dat W.fit (wpAny_bind (by_text (wpAny_pure ?_)))))
  have hd : (!w.params.followText "set-order" && (!t.plain && decide (ev.size > 1))) = false := by rw [W.nodraw]; simp
  refine wpAny_ite_split (fun z => ?_) fun _ => ?_
  · have : (!w.params.followText "set-order" && (!t.plain && decide (ev.size > 1))) = true:=z
    rw [hd] at this
    cases this
  refine wpAny_bind (wpAny_pure ?_)
  unfold setEpoch
  refine wpAny_bind (wpAny_bind (wpAny_setState_of ho W.dat W.fit (wpAny_pure ?_)))
  have e0 : slotW w t 0 = 0 := by unfold slotW slotOf; split <;> rfl
  refine wpAny_bind (wpAny_newObj_type (wpAny_pure ⟨_,rfl, "set_iterator",_,⟨_,Heap.get?_push_size _ rfl,rfl⟩,slot_set_step.lookup,?_⟩))
  unfold iterO at h
  rw [e0] at h
  exact h
theorem src_set (W : Walked w o ev ep t) : PySem.W.KdlSrc prog w "set" S S ev.size (fun i v => ∃ z,(ordr w S ep ev)[i]? = some (z,v)) (fun h => h.get? S = some o) where
  type:=fun _ ho => ⟨o,ho,W.ex.1⟩
  there:=fun _ ho => ⟨Heap.lt_size ho,Heap.lt_size ho⟩
  keep:=fun _ _ ho k => k S (.inl rfl) _ ho
  notList := by decide
  notTuple := by decide
  hint:=fun _ _ s _ ho h => hint_set ⟨o,ho,W.ex.1⟩ h
  iter:=fun A s hh ho => ⟨iterO w S t ep ev.size 0,_,(fun E Q h => iter_set W ho h),walks_set hh (Nat.ne_of_lt (Heap.lt_size ho)) W,⟨Heap.get?_push_size _ rfl,Heap.get?_push_of_some _ ho⟩⟩
end
end TH
namespace TH
open PySem PyProof.Rows PySem.SeqAt
theorem Paired.perm {α β : Type} {F : α→β→Prop} {l l' : List α} (p : l'.Perm l) : ∀ {m : List β},Paired F l m→∃ m',m'.Perm m∧Paired F l' m' := by
  induction p with
  | nil => intro m r; exact ⟨m,.refl _,r⟩
  | cons x _ ih =>
    intro m r
    cases r with
    | cons h r' =>
      obtain ⟨m',p',q⟩:=ih r'
      exact ⟨_ :: m',p'.cons _,.cons h q⟩
  | swap x y l =>
    intro m r
    cases r with
    | cons h r' =>
      cases r' with
      | cons h' r'' => exact ⟨_ :: _ :: _,List.Perm.swap ..,.cons h' (.cons h r'')⟩
  | trans _ _ ih1 ih2 =>
    intro m r
    obtain ⟨m1,p1,q1⟩:=ih2 r
    obtain ⟨m2,p2,q2⟩:=ih1 q1
    exact ⟨m2,p2.trans p1,q2⟩
variable {G : Value→Tr→Prop}
theorem mems_vs {h : Heap} : ∀ {l : List (Int×Value)} {m : List (Int×Tr)},Paired (MemR G h) l m→Vs h (Tr.of (m.map (·.2))) (l.map (·.2))
  | _,_,.nil => by rw [List.map_nil,List.map_nil,Tr.of,Vs]
  | _,_,.cons (a:=(z,v)) ⟨_,_,_,a,its,e,h1,h2⟩ r => by
    have e : v = .ref a:=e
    subst e
    rw [List.map_cons,List.map_cons,Tr.of,Vs]
    exact ⟨a,its,_,rfl,h1,h2,mems_vs r⟩
theorem mems_deep {h : Heap} : ∀ {l : List (Int×Value)} {m : List (Int×Tr)},Paired (MemR G h) l m→∀ c∈m.map (·.2),c.deep < 8
  | _,_,.nil,c,hc => by cases hc
  | _,_,.cons ⟨_,hd,_⟩ r,c,hc => by
    rw [List.map_cons] at hc
    rcases List.mem_cons.mp hc with rfl | hc
    · exact hd
    · exact mems_deep r c hc
theorem mems_g {h : Heap} : ∀ {l : List (Int×Value)} {m : List (Int×Tr)},Paired (MemR G h) l m→Paired G (l.map (·.2)) (m.map (·.2))
  | _,_,.nil => .nil
  | _,_,.cons ⟨_,_,hg,_⟩ r => .cons hg (mems_g r)
theorem Paired.pickD {α β : Type} {F : α→β→Prop} {l : List α} {m : List β} (r : Paired F l m) (d : α) (e : β) : ∀ (ix : List Nat),(∀ i∈ix,i < l.length)→Paired F (ix.map fun i => l.getD i d) (ix.map fun i => m.getD i e)
  | [],_ => .nil
  | i :: ix,h => by
    have hl:=r.length
    have hi:=h i List.mem_cons_self
    have hm : m[i]? = some m[i]:=List.getElem?_eq_getElem (by lia)
    obtain ⟨x,e1,e2⟩:=Paired.get r hm
    rw [List.map_cons,List.map_cons]
    refine .cons ?_ (Paired.pickD r d e ix fun j hj => h j (List.mem_cons_of_mem _ hj))
    rw [List.getD_eq_getElem?_getD,List.getD_eq_getElem?_getD,e1,hm]
    exact e2
theorem srt_perm {l m : List Tr} (p : l.Perm m) : Tr.srt l = Tr.srt m:=Tr.fall_unique (Tr.fall_srt l) (Tr.fall_srt m) ((Tr.perm_srt l).trans (p.trans (Tr.perm_srt m).symm))
section
variable {prog : Program} {w : World} {A : Around} {E : Value→Shared→Prop} {s : Shared}
theorem gather {T : String} {r d : Addr} {n : Nat} {P : Nat→Value→Prop} {OK : Heap→Prop} {R : List Value→Shared→Prop} (K : PySem.W.KdlSrc prog w T r d n P OK) (hA : A.handled = none) (hok : OK s.heap) (hn : n≤sizeLine)
    (k : ∀ (h1 : Heap) (tk : Nat) (acc : Array Value),s.heap.objs.size < h1.objs.size→(∀ b u,s.heap.get? b = some u→h1.get? b = some u)→ItemsOf P acc n→R acc.toList { s with heap:=h1,toks:=tk }) :
    wpAny (model prog w) A (collect (.ref r)) R E s := by
  obtain ⟨lr,ld⟩:=K.there _ hok
  unfold collect
  refine wpAny_bind (wpAny_runValue (codeAny_builtin entry_proto_collect' ?_))
  rw [Around.under_plainId PySem.F.plain_proto_collect _]
  show wpAny _ A.in1 (newList [] >>= fun v => again (.builtin "list.__iadd__" ⟨[v,.ref r],[]⟩)) _ _ s
  refine wpAny_bind (wpAny_newObj_type (wpAny_pure ⟨plainId_quiet PySem.F.plain_list_iadd _,codeAny_builtin entry_list_iadd' ?_⟩))
  rw [Around.under_plainId PySem.F.plain_list_iadd _]
  have g0 : (s.heap.push { cls:=.type "list",data:=.seq ([] : List Value).toArray }).get? s.heap.objs.size = some { cls:=.type "list",data:=.seq #[] }:=Heap.get?_push_size _ rfl
  have main:=PySem.W.kdl_extend (A:=A) (s:={ s with heap:=s.heap.push { cls:=.type "list",data:=.seq ([] : List Value).toArray } }) K hA
    (K.keep _ _ hok fun _ _ _ e => Heap.get?_push_of_some _ e) s.heap.objs.size (Nat.ne_of_gt lr) (Nat.ne_of_gt ld) (.ref s.heap.objs.size) 0 g0
    (R:=fun q s1 => ∃ h1 tk acc c,q = .ok (.ret (.ref s.heap.objs.size))∧s1 = { s with heap:=h1,toks:=tk }∧(∀ b u,s.heap.get? b = some u→h1.get? b = some u)∧h1.get? s.heap.objs.size = some { cls:=.type "list",dict:=none,data:=.seq acc c,slots:=#[] }∧ItemsOf P acc n)
    (fun h1 tk acc c k1 g1 ha => ⟨h1,tk,acc,c,rfl,rfl,fun b u e => k1 b u (Nat.ne_of_lt (Heap.lt_size e)) (Heap.get?_push_of_some _ e),g1,ha⟩) hn
  refine wpAny_mono main (fun fin s1 x => ?_) fun e s1 x => ?_
  · cases fin with
    | done f =>
      obtain ⟨h1,tk,acc,c,e,rfl,k1,g1,ha⟩:=x
      cases e
      show wpAny _ A (load s.heap.objs.size >>= _) _ _ _
      exact wpAny_bind (wpAny_load g1 (wpAny_pure (k h1 tk acc (Heap.lt_size g1) k1 ha)))
    | again c1 =>
      refine ⟨x.1,codeAny_mono x.2 fun q s2 y => ?_⟩
      obtain ⟨h1,tk,acc,c,rfl,rfl,k1,g1,ha⟩:=y
      show wpAny _ A (load s.heap.objs.size >>= _) _ _ _
      exact wpAny_bind (wpAny_load g1 (wpAny_pure (k h1 tk acc (Heap.lt_size g1) k1 ha)))
  · obtain ⟨_,_,_,_,z,_⟩:=x
    cases z
end
section
variable {prog : Program} {w : World} {A : Around} {E : Value→Shared→Prop} {s : Shared} {S : Addr} {o : Obj} {ev : Array (Int×Value)} {et : ES} {ep : Nat} {t : SetTable}
theorem sorted_set {Q : Value→Shared→Prop} (hA : A.handled = none) (W : Walked w o ev ep t) (ho : s.heap.get? S = some o) (R : Mems G s.heap ev et) (h64 : et.size < 64) (hu : A.units + 20 < cLine)
    (h : ∀ (h' : Heap) (D tk e1 : Nat) (us : List Value),s.heap.objs.size≤D→(∀ b u,s.heap.get? b = some u→h'.get? b = some u)→h'.get? D = some (seqObj "list" us.toArray e1)→Paired G us (Tr.srt (et.toList.map (·.2))).reverse→us.length < 64 →
      Q (.ref D) { s with heap:=h',toks:=tk }) : wpAny (model prog w) A (call (.builtin "sorted") [.ref S]) Q E s := by
  have hsz:=R.size
  refine Calls.call_function_entry kind_sorted plain_sorted entry_sorted (args_sorted1 _) ?_
  unfold Builtin.«sorted»
  refine wpAny_bind (m:=checkCount "sorted" 1 1 _) (wpAny_pure ?_)
  refine wpAny_bind (gather (A:=A.in1) (src_set W) hA ho (size_small (by lia)) fun h1 tk acc z1 k1 hacc => ?_)
  have hal : acc.toList = (ordr w S ep ev).toList.map (·.2) := by
    apply List.ext_getElem?
    intro j
    rw [List.getElem?_map]
    by_cases hj : j < acc.size
    · have e1 : acc[j]? = some acc[j]:=Array.getElem?_eq_getElem hj
      obtain ⟨z,e2⟩:=hacc.2 j _ e1
      rw [Array.getElem?_toList,e1,Array.getElem?_toList,e2]
      rfl
    · have hj2 : ¬ j < (ordr w S ep ev).size := by rw [ordr_size,← hacc.1]; exact hj
      rw [List.getElem?_eq_none (by simpa using hj),List.getElem?_eq_none (by simpa using hj2)]
      rfl
  obtain ⟨m,pm,rm⟩:=Paired.perm (ordr_perm w S ep ev) R
  have hvs:=mems_vs rm
  rw [← hal] at hvs
  have hd : (Tr.of (m.map (·.2))).deep≤8:=(Tr.deep_of 8 _).mpr fun c hc => by have:=mems_deep rm c hc; lia
  have hlen : acc.toList.length < 64 := by rw [Array.length_toList,hacc.1,hsz]; exact h64
  refine wpAny_bind (wpAny_newList ?_ (size_small (by lia)))
  have g1 : (h1.push (seqObj "list" acc.toList.toArray 0)).get? h1.objs.size = some (seqObj "list" acc.toList.toArray 0):=Heap.get?_push_size _ rfl
  have k2 : ∀ b u,s.heap.get? b = some u→(h1.push (seqObj "list" acc.toList.toArray 0)).get? b = some u:=fun b u e => Heap.get?_push_of_some _ (k1 b u e)
  refine wpAny_bind (wpAny_holding (wpAny_call_entry slot_list_sort ⟨_,g1,rfl⟩ entry_list_sort (list_sort_tr0 (s:={ s with heap:=h1.push (seqObj "list" acc.toList.toArray 0),toks:=tk }) g1 (hvs.keeps fun b u e _ => k2 b u e) hlen
    (by rw [show A.in1.in1.units = A.units + 2 from rfl]; lia) fun ix a1 a2 a3 => ⟨_,rfl,?_⟩) (args_list_sort _)))
  obtain ⟨e1,he1⟩:=sortedHeap_at (vs:=acc.toList) (out:=(ix.map fun i => acc.toList.getD i Value.none).toArray) g1
  refine wpAny_pure ⟨_,rfl,h _ h1.objs.size tk e1 (ix.map fun i => acc.toList.getD i Value.none) ?_ (fun b u e => ?_) he1 ?_ (by rw [List.length_map,a1]; exact hlen)⟩
  · exact Nat.le_of_lt z1
  · have lb : b < h1.objs.size:=Heap.lt_size (k1 b u e)
    rw [sortedHeap_old (Nat.ne_of_lt lb) (by rw [Heap.size_push]; exact Nat.lt_succ_of_lt lb)]
    exact k2 b u e
  · have hg:=mems_g rm
    rw [← hal] at hg
    have:=Paired.pickD hg Value.none Tr.nil ix a2
    rw [Tr.bs_of] at a3
    rw [a3,srt_perm (pm.map (·.2))] at this
    exact this
end
end TH
namespace TH
open PySem PyProof.Rows
def kHash : Option Tr→Int
  | none => 4238894112
  | some t => hashT t
abbrev KE:=Option Tr×Value×Value
def entN (x : KE) : DictEntry:=⟨kHash x.1,x.2.1,x.2.2⟩
end TH
namespace L2
open PySem PySem.Spec PyProof.Rows
abbrev KR:=Option Tr×V×V
def KRel (q : KR) (x : TH.KE) : Prop:=x.1 = q.1∧RelV q.2.1 x.2.1∧RelV q.2.2 x.2.2
def dN (d : Addr) (r : List KR) : HO:=.ext fun h => (d == sysModules) = false∧∃ o es ep xs,h.get? d = some o∧o.ExactDict∧o.data = .dict es ep∧es.toList = xs.map TH.entN∧PySem.Paired KRel r xs
def KeyV (H : Hp) : Option Tr→V→Prop
  | none,v => v = .non
  | some t,v => t.deep < 8∧Tv H t v
theorem KeyV.same {H H' : Hp} {k : Option Tr} {v : V} (h : KeyV H k v) (e : Same H H') : KeyV H' k v := by
  cases k with
  | none => exact h
  | some t => exact ⟨h.1,h.2.same e⟩
section
variable {X : Cx} {e : Expr} {t : TX} {x z n : Str} {G : Addr} {pz pn np spos tpos hpos pos : Pos} {j k : Nat}
def tTryEx (K : PySem.W.Frag) (G : Addr) (t : TX) (j k : Nat) : TS:=fun D σ H => t σ H (fun _ H1 => D.nx σ H1) fun cls _ H' => ∃ C,cls = .ref C∧Beneath K C G true ∧
  ∀ ea,H' ea = none→D.nx (((σ.set k (some (.ref ea))).set j (some (.ref ea))).set k none) (upd H' ea (excO ea cls))
theorem ps_tryEx (he : PEX X e t) (hN : X.N.Nodup) (hcalm : X.calm = true) (hj : X.N[j]? = some z) (hk : X.N[k]? = some n) (hlz : X.env.scope.names.lookup z = some .local) (hln : X.env.scope.names.lookup n = some .local)
    (hg : Gl X x) (hm : X.mg x = some (.ref G)) (hkj : k≠j) (hstk : ∃ rest,X.stack = X.env :: rest) (hfr : X.env.frame = some X.env.locals)
    (hd : (x == ("__debug__" : Str)) = false := by decide) (hsw : swapsWith (.Name n pn) (some (.Name z pz)) tpos.line X.env = pure false := by rfl) (hdn : (n == ("__debug__" : Str)) = false := by decide) (hcn : (n == ("__classdict__" : Str)) = false := by decide)
    (hse : swapsWith e none spos.line X.env = pure false := by rfl) : PS X (.Try [.Expr e spos] [.ExceptHandler (some (.Name x np)) (some n) [.Assign [.Name z pz] (.Name n pn) tpos] hpos] [] [] pos) (tTryEx X.K G t j k) := by
  intro pins s σ H D I h
  refine wpAny_Try_except (wpAny_execs_cons (wpAny_Expr_any (wpAny_mono (he pins s σ H _ _ I h) (fun v s1 ⟨w,H1,I1,r1,q1⟩ => ?_) fun ev s1 hf => ?_) I.quiet hse))
  · exact wpAny_execs_nil (wpAny_execs_nil ⟨_,H1,I1,q1⟩)
  · exact caught hN hcalm hj hk hlz hln hg hm hkj hstk hfr hf hd hsw hdn hcn
end
end L2
set_option maxHeartbeats 1000000
namespace L2
open PySem PySem.Spec PyProof.Rows
theorem Rd.same {H H' : Hp} {a : Addr} {u : HO} (e : Same H H') (h : Rd H a u) : Rd H' a u := by
  rcases h with h | ⟨o,h⟩
  · exact .inl (e _ _ h)
  · exact .inr ⟨o,e _ _ h⟩
def rowD : Tr→List PyData
  | .nil => []
  | .cons b r => .tuple (rowD b) :: rowD r
def keyD : Option Tr→PyData
  | none => .none
  | some t => .tuple (rowD t)
mutual
def Du (H : Hp) : PyData→V→Prop
  | .none,v => v = .non
  | .bool b,v => v = .bl b
  | .int i,v => v = .int i
  | .str x,v => v = .str x
  | .tuple ds,v => ∃ a xs,v = .ref a∧H a = some (.tup xs)∧DuA H ds xs
  | .list ds,v => ∃ a xs,v = .ref a∧H a = some (.lst xs)∧DuA H ds xs
  | .dict kv,v => (∃ ea C : Addr,kv = [(.int (C : Nat),.none)]∧v = .ref ea∧H ea = some (excO ea (.ref C)))∨(∃ (a : Addr) (ns : List Int),kv = [(.none,.list (ns.map .int))]∧v = .ref a∧Rd H a (.lst (ns.map V.int)))∨DuM H kv v
def DuA (H : Hp) : List PyData→List V→Prop
  | [],xs => xs = []
  | d :: ds,xs => ∃ x r,xs = x :: r∧Du H d x∧DuA H ds r
def DuM (H : Hp) : List (PyData×PyData)→V→Prop
  | [],_ => False
  | (k0,d0) :: t,v => k0 = .bool true∧d0 = .none∧∃ a r,v = .ref a∧H a = some (dN a r)∧(r.map (·.1)).Nodup∧DuK H t r
def DuK (H : Hp) : List (PyData×PyData)→List KR→Prop
  | [],r => r = []
  | (k,d) :: t,r => ∃ q r',r = q :: r'∧k = keyD q.1∧KeyV H q.1 q.2.1∧Du H d q.2.2∧DuK H t r'
end
mutual
theorem Du.same {H H' : Hp} (e : Same H H') : ∀ {d : PyData} {v : V},Du H d v→Du H' d v
  | .none,_,h => by rw [Du] at h ⊢; exact h
  | .bool _,_,h => by rw [Du] at h ⊢; exact h
  | .int _,_,h => by rw [Du] at h ⊢; exact h
  | .str _,_,h => by rw [Du] at h ⊢; exact h
  | .tuple _,_,h => by
    rw [Du] at h ⊢
    obtain ⟨a,xs,e1,h1,h2⟩:=h
    exact ⟨a,xs,e1,e _ _ h1,DuA.same e h2⟩
  | .list _,_,h => by
    rw [Du] at h ⊢
    obtain ⟨a,xs,e1,h1,h2⟩:=h
    exact ⟨a,xs,e1,e _ _ h1,DuA.same e h2⟩
  | .dict _,_,h => by
    rw [Du] at h ⊢
    rcases h with ⟨ea,C,e1,e2,h1⟩ | ⟨a,ns,e1,e2,h1⟩ | h
    · exact .inl ⟨ea,C,e1,e2,e _ _ h1⟩
    · exact .inr (.inl ⟨a,ns,e1,e2,h1.same e⟩)
    · exact .inr (.inr (DuM.same e h))
theorem DuA.same {H H' : Hp} (e : Same H H') : ∀ {ds : List PyData} {xs : List V},DuA H ds xs→DuA H' ds xs
  | [],_,h => by rw [DuA] at h ⊢; exact h
  | _ :: _,_,h => by
    rw [DuA] at h ⊢
    obtain ⟨x,r,e1,h1,h2⟩:=h
    exact ⟨x,r,e1,Du.same e h1,DuA.same e h2⟩
theorem DuM.same {H H' : Hp} (e : Same H H') : ∀ {kv : List (PyData×PyData)} {v : V},DuM H kv v→DuM H' kv v
  | [],_,h => by rw [DuM] at h; exact h.elim
  | (_,_) :: _,_,h => by
    rw [DuM] at h ⊢
    obtain ⟨h1,h2,a,r,h3,h4,h5,h6⟩:=h
    exact ⟨h1,h2,a,r,h3,e _ _ h4,h5,DuK.same e h6⟩
theorem DuK.same {H H' : Hp} (e : Same H H') : ∀ {kv : List (PyData×PyData)} {r : List KR},DuK H kv r→DuK H' kv r
  | [],_,h => by rw [DuK] at h ⊢; exact h
  | (_,_) :: _,_,h => by
    rw [DuK] at h ⊢
    obtain ⟨q,r',h1,h2,h3,h4,h5⟩:=h
    exact ⟨q,r',h1,h2,h3.same e,Du.same e h4,DuK.same e h5⟩
end
mutual
theorem Du.br {K : PySem.W.Frag} {H : Hp} : ∀ {d : PyData} {v : V},d.canLay0 = true→Du H d v→Br K H d v
  | .none,_,_,h => by rw [Du] at h; rw [Br]; exact h
  | .bool _,_,_,h => by rw [Du] at h; rw [Br]; exact h
  | .int _,_,_,h => by rw [Du] at h; rw [Br]; exact h
  | .str _,_,_,h => by rw [Du] at h; rw [Br]; exact h
  | .tuple _,_,c,h => by
    rw [Du] at h; rw [Br]
    obtain ⟨a,xs,e1,h1,h2⟩:=h
    exact ⟨a,xs,e1,SqT.of h1,DuA.br (by simp only [PyData.canLay0,Bool.and_eq_true] at c; first | exact c | exact c.2 | exact c.1) h2⟩
  | .list _,_,c,h => by
    rw [Du] at h; rw [Br]
    obtain ⟨a,xs,e1,h1,h2⟩:=h
    exact ⟨a,xs,e1,SqL.of h1,DuA.br (by simp only [PyData.canLay0,Bool.and_eq_true] at c; first | exact c | exact c.2 | exact c.1) h2⟩
  | .dict _,_,c,h => by simp [PyData.canLay0] at c
theorem DuA.br {K : PySem.W.Frag} {H : Hp} : ∀ {ds : List PyData} {xs : List V},PyData.canLayAll0 ds = true→DuA H ds xs→BrAll K H ds xs
  | [],_,_,h => by rw [DuA] at h; rw [BrAll]; exact h
  | _ :: _,_,c,h => by
    rw [DuA] at h; rw [BrAll]
    obtain ⟨x,r,e1,h1,h2⟩:=h
    simp only [PyData.canLayAll0,Bool.and_eq_true] at c
    exact ⟨x,r,e1,Du.br c.1 h1,DuA.br c.2 h2⟩
end
theorem DuA.nil {H : Hp} : DuA H [] [] := by rw [DuA]
theorem DuA.cons {H : Hp} {d : PyData} {ds : List PyData} {x : V} {xs : List V} (h : Du H d x) (k : DuA H ds xs) : DuA H (d :: ds) (x :: xs) := by rw [DuA]; exact ⟨x,xs,rfl,h,k⟩
theorem DuA.un {H : Hp} {d : PyData} {ds : List PyData} {xs : List V} (h : DuA H (d :: ds) xs) : ∃ x r,xs = x :: r∧Du H d x∧DuA H ds r := by rw [DuA] at h; exact h
theorem DuA.nil_eq {H : Hp} {xs : List V} (h : DuA H [] xs) : xs = [] := by rw [DuA] at h; exact h
theorem DuA.len {H : Hp} : ∀ {ds : List PyData} {xs : List V},DuA H ds xs→xs.length = ds.length
  | [],_,h => by rw [h.nil_eq]; rfl
  | _ :: _,_,h => by obtain ⟨x,r,rfl,_,h2⟩:=h.un; simp [h2.len]
theorem DuA.get {H : Hp} : ∀ {ds : List PyData} {xs : List V} {i : Nat} {d : PyData},DuA H ds xs→ds[i]? = some d→∃ v,xs[i]? = some v∧Du H d v
  | [],_,i,_,_,e => by simp at e
  | _ :: _,_,0,_,h,e => by
    obtain ⟨x,r,rfl,h1,_⟩:=h.un
    simp at e; subst e
    exact ⟨x,rfl,h1⟩
  | _ :: _,_,i + 1,_,h,e => by
    obtain ⟨x,r,rfl,_,h2⟩:=h.un
    obtain ⟨v,k1,k2⟩:=h2.get (i:=i) (by simpa using e)
    exact ⟨v,by simpa using k1,k2⟩
theorem DuA.back {H : Hp} {ds : List PyData} {xs : List V} {i : Nat} {v : V} (h : DuA H ds xs) (e : xs[i]? = some v) : ∃ d,ds[i]? = some d∧Du H d v := by
  have hl:=h.len
  have hi : i < ds.length := by rw [← hl]; exact (List.getElem?_eq_some_iff.mp e).1
  have hd : ds[i]? = some ds[i] := by simp [hi]
  obtain ⟨w,k1,k2⟩:=h.get hd
  rw [e] at k1; cases k1
  exact ⟨_,hd,k2⟩
theorem DuA.app {H : Hp} : ∀ {ds es : List PyData} {xs ys : List V},DuA H ds xs→DuA H es ys→DuA H (ds ++ es) (xs ++ ys)
  | [],_,_,_,h,k => by rw [h.nil_eq]; exact k
  | _ :: _,_,_,_,h,k => by obtain ⟨x,r,rfl,h1,h2⟩:=h.un; exact .cons h1 (h2.app k)
theorem DuA.take {H : Hp} : ∀ {ds : List PyData} {xs : List V} (i : Nat),DuA H ds xs→DuA H (ds.take i) (xs.take i)
  | _,_,0,_ => by rw [List.take_zero,List.take_zero]; exact .nil
  | [],_,i + 1,h => by rw [h.nil_eq]; exact .nil
  | _ :: _,_,i + 1,h => by obtain ⟨x,r,rfl,h1,h2⟩:=h.un; exact .cons h1 (h2.take i)
theorem DuA.drop {H : Hp} : ∀ {ds : List PyData} {xs : List V} (i : Nat),DuA H ds xs→DuA H (ds.drop i) (xs.drop i)
  | _,_,0,h => h
  | [],_,i + 1,h => by rw [h.nil_eq]; exact .nil
  | _ :: _,_,i + 1,h => by obtain ⟨x,r,rfl,h1,h2⟩:=h.un; exact h2.drop i
theorem DuA.rev {H : Hp} : ∀ {ds : List PyData} {xs : List V},DuA H ds xs→DuA H ds.reverse xs.reverse
  | [],_,h => by rw [h.nil_eq]; exact .nil
  | _ :: _,_,h => by
    obtain ⟨x,r,rfl,h1,h2⟩:=h.un
    rw [List.reverse_cons,List.reverse_cons]
    exact h2.rev.app (.cons h1 .nil)
inductive Oc where
  | lst (xs : List PyData) | dic (kvs : List (List Key×PyData)) | dtr (kvs : List (Option Tr×PyData))
inductive L where
  | no | d (x : PyData) | own (c : Oc)
abbrev Dv:=List L
def KvOk (G : Hp) : List (List Key×PyData)→List (List Key×V)→Prop
  | [],r => r = []
  | q :: t,r => ∃ v r',r = (q.1,v) :: r'∧Du G q.2 v∧KvOk G t r'
theorem KvOk.same {G G' : Hp} (e : Same G G') : ∀ {t : List (List Key×PyData)} {r : List (List Key×V)},KvOk G t r→KvOk G' t r
  | [],r,h => h
  | q :: t,r,h => by
    obtain ⟨v,r',rfl,h1,h2⟩:=h
    exact ⟨v,r',rfl,h1.same e,KvOk.same e h2⟩
abbrev entsD (kvs : List (Option Tr×PyData)) : List (PyData×PyData):=kvs.map fun q => (keyD q.1,q.2)
abbrev dictD (kvs : List (Option Tr×PyData)) : PyData:=.dict ((.bool true,.none) :: entsD kvs)
def OcOk (G : Hp) (a : Addr) : Oc→HO→Prop
  | .lst xs,o => ∃ ys,o = .lst ys∧DuA G xs ys
  | .dic kvs,o => ∃ r,o = .dT r∧KvOk G kvs r
  | .dtr kvs,o => ∃ r,o = dN a r∧(r.map (·.1)).Nodup∧DuK G (entsD kvs) r
theorem OcOk.same {G G' : Hp} {a : Addr} {c : Oc} {o : HO} (h : OcOk G a c o) (e : Same G G') : OcOk G' a c o := by
  cases c with
  | dtr kvs => obtain ⟨r,h1,h2,h3⟩:=h; exact ⟨r,h1,h2,DuK.same e h3⟩
  | lst xs => obtain ⟨ys,h1,h2⟩:=h; exact ⟨ys,h1,h2.same e⟩
  | dic kvs => obtain ⟨ys,h1,h2⟩:=h; exact ⟨ys,h1,h2.same e⟩
theorem OcOk.ntup {G : Hp} {a : Addr} {c : Oc} {xs : List V} (h : OcOk G a c (.tup xs)) : False := by
  cases c with
  | dtr kvs => obtain ⟨r,h1,h2,h3⟩:=h; unfold dN at h1; cases h1
  | lst xs => obtain ⟨ys,h1,h2⟩:=h; cases h1
  | dic kvs => obtain ⟨ys,h1,h2⟩:=h; cases h1
def Nw (G0 H0 G : Hp) : Prop:=∀ a o,G a = some o→G0 a = some o∨H0 a = none∨∃ xs,o = HO.tup xs
structure Rw (G0 H0 G H : Hp) (σ : St) (δ : Dv) (ts : List (PyData×V)) : Prop where
  ext : Same G0 G
  new : Nw G0 H0 G
  ins : Same G H
  keep : Same H0 H
  len : σ.length = δ.length
  dat : ∀ (i : Nat) (x : PyData),δ[i]? = some (L.d x)→∃ v,σ[i]? = some (some v)∧Du G x v
  own : ∀ (i : Nat) (xs : Oc),δ[i]? = some (L.own xs)→∃ (a : Addr) (ys : HO),σ[i]? = some (some (V.ref a))∧G a = none∧H0 a = none∧H a = some ys∧OcOk G a xs ys
  apart : ∀ (i j : Nat) (xs ys : Oc),i≠j→δ[i]? = some (L.own xs)→δ[j]? = some (L.own ys)→σ[i]?≠σ[j]?
  tmp : ∀ p∈ts,Du G p.1 p.2
def DE (X : Cx) (e : Expr) (f : Dv→Option PyData) : Prop:=∃ t,PE X e t∧∀ δ x,f δ = some x→∀ G0 H0 G H σ ts (Q : VK),Rw G0 H0 G H σ δ ts→(∀ v G' H',Rw G0 H0 G' H' σ δ ((x,v) :: ts)→Q v H')→t σ H Q
def DA (X : Cx) (es : List Expr) (f : Dv→Option (List PyData)) : Prop:=∃ t,PA X es t∧∀ δ xs,f δ = some xs→∀ G0 H0 G H σ ts (Q : List V→Hp→Prop),Rw G0 H0 G H σ δ ts→(∀ vs G' H',Rw G0 H0 G' H' σ δ (xs.zip vs ++ ts)→vs.length = xs.length→Q vs H')→t σ H Q
def DT (X : Cx) (e : Expr) (f : Dv→Option Bool) : Prop:=∃ t,PT X e t∧∀ δ b,f δ = some b→∀ G0 H0 G H σ ts (Q : Bool→Hp→Prop),Rw G0 H0 G H σ δ ts→(∀ G' H',Rw G0 H0 G' H' σ δ ts→Q b H')→t σ H Q
section
variable {G0 H0 G H : Hp} {σ : St} {δ : Dv} {ts : List (PyData×V)}
theorem Rw.drop {p : PyData×V} (r : Rw G0 H0 G H σ δ (p :: ts)) : Rw G0 H0 G H σ δ ts:={ r with tmp:=fun q hq => r.tmp q (.tail _ hq) }
theorem Rw.less {us : List (PyData×V)} (r : Rw G0 H0 G H σ δ ts) (h : ∀ p∈us,p∈ts) : Rw G0 H0 G H σ δ us:={ r with tmp:=fun q hq => r.tmp q (h q hq) }
theorem Rw.put {x : PyData} {v : V} (r : Rw G0 H0 G H σ δ ts) (h : Du G x v) : Rw G0 H0 G H σ δ ((x,v) :: ts):={ r with tmp:=fun q hq => by rcases List.mem_cons.mp hq with rfl | hq; exact h; exact r.tmp q hq }
theorem Rw.newObj {p : Addr} {o : HO} (r : Rw G0 H0 G H σ δ ts) (hp : H p = none) : Rw G0 H0 (upd G p o) (upd H p o) σ δ ts := by
  have hG : G p = none := by
    cases q : G p with
    | none => rfl
    | some u => rw [r.ins _ _ q] at hp; cases hp
  have h0 : H0 p = none := by
    cases q : H0 p with
    | none => rfl
    | some u => rw [r.keep _ _ q] at hp; cases hp
  have e : Same G (upd G p o):=same_new hG o
  refine ⟨r.ext.trans e,fun a u h => ?_,fun a u h => ?_,r.keep.trans (same_new hp o),r.len,fun i x h => ?_,fun i xs h => ?_,r.apart,fun q hq => (r.tmp q hq).same e⟩
  · by_cases ha : a = p
    · subst ha; exact .inr (.inl h0)
    · rw [upd_ne ha] at h; exact r.new _ _ h
  · by_cases ha : a = p
    · subst ha; rw [upd_same] at h ⊢; exact h
    · rw [upd_ne ha] at h ⊢; exact r.ins _ _ h
  · obtain ⟨v,k1,k2⟩:=r.dat i x h
    exact ⟨v,k1,k2.same e⟩
  · obtain ⟨a,ys,k1,k2,k3,k4,k5⟩:=r.own i xs h
    have ha : a≠p:=fun z => by subst z; rw [k4] at hp; cases hp
    exact ⟨a,ys,k1,by rw [upd_ne ha]; exact k2,k3,by rw [upd_ne ha]; exact k4,k5.same e⟩
theorem Rw.anyTup {p : Addr} {xs : List V} {H' : Hp} (r : Rw G0 H0 G H σ δ ts) (e : Same H H') (hp : H' p = some (.tup xs)) : Rw G0 H0 (upd G p (.tup xs)) H' σ δ ts := by
  have e1 : Same G (upd G p (.tup xs)):=fun a o h => by
    by_cases ha : a = p
    · subst ha
      have:=e _ _ (r.ins _ _ h)
      rw [hp] at this; rw [upd_same]; exact this
    · rw [upd_ne ha]; exact h
  refine ⟨r.ext.trans e1,fun a u h => ?_,fun a u h => ?_,r.keep.trans e,r.len,fun i x h => ?_,fun i xs h => ?_,r.apart,fun q hq => (r.tmp q hq).same e1⟩
  · by_cases ha : a = p
    · subst ha; rw [upd_same] at h; cases h; exact .inr (.inr ⟨_,rfl⟩)
    · rw [upd_ne ha] at h; exact r.new _ _ h
  · by_cases ha : a = p
    · subst ha; rw [upd_same] at h; rw [hp]; exact h
    · rw [upd_ne ha] at h; exact e _ _ (r.ins _ _ h)
  · obtain ⟨v,k1,k2⟩:=r.dat i x h
    exact ⟨v,k1,k2.same e1⟩
  · obtain ⟨a,ys,k1,k2,k3,k4,k5⟩:=r.own i xs h
    have ha : a≠p:=fun z => by subst z; rw [e _ _ k4] at hp; cases hp; exact k5.ntup
    exact ⟨a,ys,k1,by rw [upd_ne ha]; exact k2,k3,e _ _ k4,k5.same e1⟩
theorem Rw.lift {G' H' : Hp} (r : Rw G0 H0 G H σ δ ts) (h1 : Same G G') (h2 : Nw G H G') (h3 : Same G' H') (h4 : Same H H') : Rw G0 H0 G' H' σ δ ts := by
  refine ⟨r.ext.trans h1,fun a o h => ?_,h3,r.keep.trans h4,r.len,fun i x h => ?_,fun i xs h => ?_,r.apart,fun q hq => (r.tmp q hq).same h1⟩
  · rcases h2 a o h with k | k | k
    · exact r.new a o k
    · right; left
      cases q : H0 a with
      | none => rfl
      | some u => rw [r.keep _ _ q] at k; cases k
    · exact .inr (.inr k)
  · obtain ⟨v,k1,k2⟩:=r.dat i x h
    exact ⟨v,k1,k2.same h1⟩
  · obtain ⟨a,ys,k1,k2,k3,k4,k5⟩:=r.own i xs h
    refine ⟨a,ys,k1,?_,k3,h4 _ _ k4,k5.same h1⟩
    cases q : G' a with
    | none => rfl
    | some u =>
      rcases h2 a u q with z | z | ⟨xs',z⟩
      · rw [k2] at z; cases z
      · rw [k4] at z; cases z
      · have:=h3 _ _ q
        rw [h4 _ _ k4,z] at this; cases this; exact k5.ntup.elim
end
section
variable {X : Cx} {a b e : Expr}  {f g h : Dv→Option PyData} {pos : Pos}
theorem de_int {i j pos} : DE X (.Constant (.int i) j pos) (fun _ => some (.int i)):=⟨_,pe_int,fun δ x h G0 H0 G H σ ts Q r k => by cases h; exact k _ _ _ (r.put (by rw [Du]))⟩
theorem de_bl {i j pos} : DE X (.Constant (.bool i) j pos) (fun _ => some (.bool i)):=⟨_,pe_bl,fun δ x h G0 H0 G H σ ts Q r k => by cases h; exact k _ _ _ (r.put (by rw [Du]))⟩
theorem de_non {j pos} : DE X (.Constant .none j pos) (fun _ => some .none):=⟨_,pe_non,fun δ x h G0 H0 G H σ ts Q r k => by cases h; exact k _ _ _ (r.put (by rw [Du]))⟩
theorem de_str {i j pos} : DE X (.Constant (.str i) j pos) (fun _ => some (.str i)):=⟨_,pe_str,fun δ x h G0 H0 G H σ ts Q r k => by cases h; exact k _ _ _ (r.put (by rw [Du]))⟩
def nm (i : Nat) (δ : Dv) : Option PyData:=match δ[i]? with | some (.d x) => some x | _ => none
theorem nm_eq {i : Nat} {δ : Dv} {x : PyData} (h : nm i δ = some x) : δ[i]? = some (.d x) := by
  unfold nm at h
  split at h
  · rename_i y e; cases h; exact e
  · cases h
theorem de_var {i : Nat} {x : Str} (h : PE X (.Name x pos) (tVar i)) : DE X (.Name x pos) (nm i):=⟨_,h,fun δ y hy G0 H0 G H σ ts Q r k => by
  obtain ⟨v,h1,h2⟩:=r.dat _ _ (nm_eq hy)
  exact ⟨v,h1,k _ _ _ (r.put h2)⟩⟩
def op2 (o : PyData→PyData→Option PyData) (f g : Dv→Option PyData) (δ : Dv) : Option PyData:=(f δ).bind fun x => (g δ).bind fun y => o x y
def DOp (X : Cx) (m : Value→Value→Sem Value) (o : PyData→PyData→Option PyData) : Prop:=∃ r : R2,OpR X m r∧∀ x y z,o x y = some z→∀ G0 H0 G H σ δ ts u v (Q : VK),Rw G0 H0 G H σ δ ts→Du G x u→Du G y v→(∀ w G' H',Rw G0 H0 G' H' σ δ ((z,w) :: ts)→Q w H')→r u v H Q
theorem two {x y : PyData} {f g : Dv→Option PyData} {δ : Dv} {o : PyData→PyData→Option PyData} {z : PyData} (h : op2 o f g δ = some z) : ∃ x y,f δ = some x∧g δ = some y∧o x y = some z := by
  unfold op2 at h
  obtain ⟨x,h1,h2⟩:=Option.bind_eq_some_iff.mp h
  obtain ⟨y,h3,h4⟩:=Option.bind_eq_some_iff.mp h2
  exact ⟨x,y,h1,h3,h4⟩
theorem de_op {op : Operator} {o : PyData→PyData→Option PyData} (ho : DOp X (binaryOp op) o) (ha : DE X a f) (hb : DE X b g) : DE X (.BinOp a op b pos) (op2 o f g) := by
  obtain ⟨r,hr,kr⟩:=ho
  obtain ⟨ta,pa,ka⟩:=ha
  obtain ⟨tb,pb,kb⟩:=hb
  refine ⟨_,pe_op hr pa pb,fun δ z hz G0 H0 G H σ ts Q R0 k => ?_⟩
  obtain ⟨x,y,h1,h2,h3⟩:=two (x:=.none) (y:=.none) hz
  refine ka δ x h1 G0 H0 G H σ ts _ R0 fun u G1 H1 R1 => ?_
  refine kb δ y h2 G0 H0 G1 H1 σ _ _ R1 fun v G2 H2 R2 => ?_
  exact kr x y z h3 G0 H0 G2 H2 σ δ ts u v Q (R2.drop.drop) (R2.tmp (x,u) (.tail _ (.head _))) (R2.tmp (y,v) (.head _)) k
theorem de_cmp {op : CmpOp} {o : PyData→PyData→Option PyData} (ho : DOp X (compareOp op) o) (ha : DE X a f) (hb : DE X b g) (hm : behindInMarks op b = false) : DE X (.Compare a [op] [b] pos) (op2 o f g) := by
  obtain ⟨r,hr,kr⟩:=ho
  obtain ⟨ta,pa,ka⟩:=ha
  obtain ⟨tb,pb,kb⟩:=hb
  refine ⟨_,pe_cmpR hr pa pb hm,fun δ z hz G0 H0 G H σ ts Q R0 k => ?_⟩
  obtain ⟨x,y,h1,h2,h3⟩:=two (x:=.none) (y:=.none) hz
  refine ka δ x h1 G0 H0 G H σ ts _ R0 fun u G1 H1 R1 => ?_
  refine kb δ y h2 G0 H0 G1 H1 σ _ _ R1 fun v G2 H2 R2 => ?_
  exact kr x y z h3 G0 H0 G2 H2 σ δ ts u v Q (R2.drop.drop) (R2.tmp (x,u) (.tail _ (.head _))) (R2.tmp (y,v) (.head _)) k
end
section
variable {X : Cx}
def orD (o o' : PyData→PyData→Option PyData) (x y : PyData) : Option PyData:=match o x y with | some z => some z | none => o' x y
theorem DOp.or {m : Value→Value→Sem Value} {o o' : PyData→PyData→Option PyData} (h : DOp X m o) (h' : DOp X m o') : DOp X m (orD o o') := by
  obtain ⟨r,hr,kr⟩:=h
  obtain ⟨r',hr',kr'⟩:=h'
  refine ⟨_,OpR.or hr hr',fun x y z hz G0 H0 G H σ δ ts u v Q R0 du dv k => ?_⟩
  unfold orD at hz
  split at hz
  · rename_i z' e
    cases hz
    exact .inl (kr x y z e G0 H0 G H σ δ ts u v Q R0 du dv k)
  · exact .inr (kr' x y z hz G0 H0 G H σ δ ts u v Q R0 du dv k)
theorem dop_int {m : Value→Value→Sem Value} {C : Int→Int→Prop} {gv : Int→Int→V} {o : Int→Int→Option PyData} (ho : OpR X m (rI C gv)) (hC : ∀ i j z,o i j = some z→C i j∧∀ H,Du H z (gv i j)) :
    DOp X m (fun x y => match x,y with | .int i,.int j => o i j | _,_ => none) := by
  refine ⟨_,ho,fun x y z hz G0 H0 G H σ δ ts u v Q R0 du dv k => ?_⟩
  dsimp only at hz
  split at hz
  · rename_i i j
    rw [Du] at du dv
    obtain ⟨h1,h2⟩:=hC i j z hz
    exact ⟨i,j,du,dv,h1,k _ _ _ (R0.put (h2 _))⟩
  · cases hz
theorem dop_int0 {m : Value→Value→Sem Value} {gv : Int→Int→V} {o : Int→Int→PyData} (ho : OpR X m (rI0 gv)) (hC : ∀ i j H,Du H (o i j) (gv i j)) :
    DOp X m (fun x y => match x,y with | .int i,.int j => some (o i j) | _,_ => none) := by
  refine ⟨_,ho,fun x y z hz G0 H0 G H σ δ ts u v Q R0 du dv k => ?_⟩
  dsimp only at hz
  split at hz
  · rename_i i j
    cases hz
    rw [Du] at du dv
    exact ⟨i,j,du,dv,k _ _ _ (R0.put (hC _ _ _))⟩
  · cases hz
def dMax : Nat:=1000
theorem dMax_lt {n : Nat} (h : n≤dMax) : n < sizeLine:=small1000 h
theorem dMax_le {n : Nat} (h : n≤dMax) : n≤sizeLine:=Nat.le_of_lt (small1000 h)
def iAdd : PyData→PyData→Option PyData:=fun x y => match x,y with | .int i,.int j => some (.int (i + j)) | _,_ => none
def iSub : PyData→PyData→Option PyData:=fun x y => match x,y with | .int i,.int j => some (.int (i - j)) | _,_ => none
def fitI (n : Nat) (i : Int) : Bool:=decide (i.natAbs < 2 ^ n)
def mulOk (i j : Int) : Bool:=fitI 64 i || fitI 64 j || (fitI 9000 i && fitI 9000 j)
def iMul : PyData→PyData→Option PyData:=fun x y => match x,y with | .int i,.int j => (if mulOk i j = true then some (.int (i * j)) else none) | _,_ => none
def iDiv : PyData→PyData→Option PyData:=fun x y => match x,y with | .int i,.int j => (if j≠0∧fitI 9000 j = true then some (.int (i.fdiv j)) else none) | _,_ => none
def iMod : PyData→PyData→Option PyData:=fun x y => match x,y with | .int i,.int j => (if j≠0 then some (.int (i.fmod j)) else none) | _,_ => none
def iPow : PyData→PyData→Option PyData:=fun x y => match x,y with | .int i,.int j => (if 0≤j∧j≤1000∧fitI 64 i = true then some (.int (i ^ j.toNat)) else none) | _,_ => none
theorem do_iAdd : DOp X (binaryOp .Add) iAdd:=dop_int0 op_add fun _ _ _ => by rw [Du]
theorem do_iSub : DOp X (binaryOp .Sub) iSub:=dop_int0 op_sub fun _ _ _ => by rw [Du]
theorem fit64 {i : Int} (h : fitI 64 i = true) : -(2 ^ 64) < i∧i < 2 ^ 64 := by
  have:=of_decide_eq_true h
  lia
theorem do_iMul : DOp X (binaryOp .Mult) iMul:=dop_int (o:=fun i j => if mulOk i j = true then some (.int (i * j)) else none) op_mulW fun i j z h => by
  split at h
  · rename_i q
    cases h
    refine ⟨?_,fun _ => by rw [Du]⟩
    unfold mulOk at q
    rw [Bool.or_eq_true,Bool.or_eq_true,Bool.and_eq_true] at q
    rcases q with (q | q) | q
    · exact .inl (.inl (fit64 q))
    · exact .inl (.inr (fit64 q))
    · exact .inr ⟨9000,by decide,of_decide_eq_true q.1,of_decide_eq_true q.2⟩
  · cases h
theorem do_iDiv : DOp X (binaryOp .FloorDiv) iDiv:=dop_int (o:=fun i j => if j≠0∧fitI 9000 j = true then some (.int (i.fdiv j)) else none) op_fdivW fun i j z h => by
  split at h
  · rename_i q
    cases h
    exact ⟨⟨q.1,9000,Nat.le_refl _,of_decide_eq_true q.2⟩,fun _ => by rw [Du]⟩
  · cases h
theorem do_iMod : DOp X (binaryOp .Mod) iMod:=dop_int (o:=fun i j => if j≠0 then some (.int (i.fmod j)) else none) op_modN fun i j z h => by
  split at h
  · rename_i q
    cases h
    exact ⟨q,fun _ => by rw [Du]⟩
  · cases h
theorem do_iPow : DOp X (binaryOp .Pow) iPow:=dop_int (o:=fun i j => if 0≤j∧j≤1000∧fitI 64 i = true then some (.int (i ^ j.toNat)) else none) op_pow fun i j z h => by
  split at h
  · rename_i q
    cases h
    exact ⟨⟨q.1,by lia,of_decide_eq_true q.2.2⟩,fun _ => by rw [Du]⟩
  · cases h
def iCmp (p : Int→Int→Bool) : PyData→PyData→Option PyData:=fun x y => match x,y with | .int i,.int j => some (.bool (p i j)) | _,_ => none
theorem do_lt : DOp X (compareOp .Lt) (iCmp fun i j => decide (i < j)):=dop_int0 (o:=fun i j => .bool (decide (i < j))) op_lt fun _ _ _ => by rw [Du]
theorem do_le : DOp X (compareOp .LtE) (iCmp fun i j => decide (i≤j)):=dop_int0 (o:=fun i j => .bool (decide (i≤j))) op_le fun _ _ _ => by rw [Du]
theorem do_gt : DOp X (compareOp .Gt) (iCmp fun i j => decide (j < i)):=dop_int0 (o:=fun i j => .bool (decide (j < i))) op_gt fun _ _ _ => by rw [Du]
theorem do_ge : DOp X (compareOp .GtE) (iCmp fun i j => decide (j≤i)):=dop_int0 (o:=fun i j => .bool (decide (j≤i))) op_ge fun _ _ _ => by rw [Du]
def lAdd : PyData→PyData→Option PyData:=fun x y => match x,y with | .list a,.list b => (if a.length + b.length≤dMax then some (.list (a ++ b)) else none) | _,_ => none
theorem do_lAdd : DOp X (binaryOp .Add) lAdd := by
  refine ⟨_,op_cat,fun x y z hz G0 H0 G H σ δ ts u v Q R0 du dv k => ?_⟩
  unfold lAdd at hz
  split at hz
  · rename_i a b
    split at hz
    · rename_i hl
      cases hz
      rw [Du] at du dv
      obtain ⟨p,xs,rfl,h1,h2⟩:=du
      obtain ⟨q,ys,rfl,h3,h4⟩:=dv
      refine ⟨p,q,xs,ys,rfl,rfl,R0.ins _ _ h1,R0.ins _ _ h3,dMax_le (by rw [h2.len,h4.len]; exact hl),fun l hl' => ?_⟩
      have R1:=R0.newObj (o:=.lst (xs ++ ys)) hl'
      refine k _ _ _ (R1.put ?_)
      rw [Du]
      have e : Same G (upd G l (.lst (xs ++ ys))):=fun a o h => by
        have:=R0.ins _ _ h
        rw [upd_ne (ne_of_none this hl')]; exact h
      exact ⟨l,xs ++ ys,rfl,upd_same,(h2.same e).app (h4.same e)⟩
    · cases hz
  · cases hz
def tAdd' : PyData→PyData→Option PyData:=fun x y => match x,y with | .tuple a,.tuple b => (if a.length + b.length≤dMax then some (.tuple (a ++ b)) else none) | _,_ => none
theorem do_tAdd : DOp X (binaryOp .Add) tAdd' := by
  refine ⟨_,op_catA,fun x y z hz G0 H0 G H σ δ ts u v Q R0 du dv k => ?_⟩
  unfold tAdd' at hz
  split at hz
  · rename_i a b
    split at hz
    · rename_i hl
      cases hz
      rw [Du] at du dv
      obtain ⟨p,xs,rfl,h1,h2⟩:=du
      obtain ⟨q,ys,rfl,h3,h4⟩:=dv
      refine ⟨p,q,xs,ys,rfl,rfl,R0.ins _ _ h1,R0.ins _ _ h3,dMax_le (by rw [h2.len,h4.len]; exact hl),fun l H' e hp => ?_⟩
      have R1:=R0.anyTup e hp
      refine k _ _ _ (R1.put ?_)
      rw [Du]
      have e1 : Same G (upd G l (.tup (xs ++ ys))):=fun a o h => by
        by_cases ha : a = l
        · subst ha
          have:=e _ _ (R0.ins _ _ h)
          rw [hp] at this; rw [upd_same]; exact this
        · rw [upd_ne ha]; exact h
      exact ⟨l,xs ++ ys,rfl,upd_same,(h2.same e1).app (h4.same e1)⟩
    · cases hz
  · cases hz
def sAdd : PyData→PyData→Option PyData:=fun x y => match x,y with | .str a,.str b => (if a.length + b.length≤dMax then some (.str (a ++ b)) else none) | _,_ => none
theorem do_sAdd : DOp X (binaryOp .Add) sAdd := by
  refine ⟨_,op_add_str,fun x y z hz G0 H0 G H σ δ ts u v Q R0 du dv k => ?_⟩
  unfold sAdd at hz
  split at hz
  · rename_i a b
    split at hz
    · rename_i hl
      cases hz
      rw [Du] at du dv
      exact ⟨a,b,du,dv,dMax_le hl,k _ _ _ (R0.put (by rw [Du]))⟩
    · cases hz
  · cases hz
def dAdd : PyData→PyData→Option PyData:=orD iAdd (orD lAdd (orD tAdd' sAdd))
theorem do_add : DOp X (binaryOp .Add) dAdd:=do_iAdd.or (do_lAdd.or (do_tAdd.or do_sAdd))
def lRep : PyData→PyData→Option PyData:=fun x y => match x,y with | .list a,.int k => (if a.length * k.toNat≤dMax∧-1000000≤k∧k≤1000000 then some (.list (List.replicate k.toNat a).flatten) else none) | _,_ => none
theorem DuA.rep {H : Hp} {ds : List PyData} {xs : List V} (h : DuA H ds xs) : ∀ n,DuA H (List.replicate n ds).flatten (List.replicate n xs).flatten
  | 0 => .nil
  | n + 1 => by rw [List.replicate_succ,List.replicate_succ,List.flatten_cons,List.flatten_cons]; exact h.app (h.rep n)
theorem do_lRep : DOp X (binaryOp .Mult) lRep := by
  refine ⟨_,op_rep,fun x y z hz G0 H0 G H σ δ ts u v Q R0 du dv k => ?_⟩
  unfold lRep at hz
  split at hz
  · rename_i a n
    split at hz
    · rename_i hl
      cases hz
      rw [Du] at du; rw [Du] at dv
      obtain ⟨p,xs,rfl,h1,h2⟩:=du
      subst dv
      refine ⟨p,n,xs,rfl,rfl,R0.ins _ _ h1,by lia,by lia,dMax_le (by rw [h2.len]; exact hl.1),fun l hl' => ?_⟩
      have R1:=R0.newObj (o:=.lst (List.replicate n.toNat xs).flatten) hl'
      refine k _ _ _ (R1.put ?_)
      rw [Du]
      have e : Same G (upd G l (.lst (List.replicate n.toNat xs).flatten)):=fun a o h => by
        have:=R0.ins _ _ h
        rw [upd_ne (ne_of_none this hl')]; exact h
      exact ⟨l,_,rfl,upd_same,(h2.same e).rep _⟩
    · cases hz
  · cases hz
def dMul : PyData→PyData→Option PyData:=orD iMul lRep
theorem do_mul : DOp X (binaryOp .Mult) dMul:=do_iMul.or do_lRep
theorem canLay_of {d : PyData} (h : SeqAt.shaped d = true) : d.canLay0 = true := by unfold SeqAt.shaped at h; rw [Bool.and_eq_true] at h; exact h.1
def dEq (neg : Bool) : PyData→PyData→Option PyData:=fun x y => if SeqAt.shaped x = true∧SeqAt.shaped y = true then some (.bool (if neg then !PyData.eqv x y else PyData.eqv x y)) else none
theorem do_eqG {m : Value→Value→Sem Value} {neg : Bool} (ho : OpR X m (rEqD X.K neg)) : DOp X m (dEq neg) := by
  refine ⟨_,ho,fun x y z hz G0 H0 G H σ δ ts u v Q R0 du dv k => ?_⟩
  unfold dEq at hz
  split at hz
  · rename_i hs
    cases hz
    exact ⟨x,y,(du.same R0.ins).br (canLay_of hs.1),(dv.same R0.ins).br (canLay_of hs.2),hs.1,hs.2,k _ _ _ (R0.put (by rw [Du]))⟩
  · cases hz
theorem do_eq (hu : X.A.units + 64 < cLine) : DOp X (compareOp .Eq) (dEq false):=do_eqG (op_eqD hu)
theorem do_ne (hu : X.A.units + 64 < cLine) : DOp X (compareOp .NotEq) (dEq true):=do_eqG (op_neD hu)
def PyData.isNo : PyData→Bool
  | .none => true
  | _ => false
theorem du_non {H : Hp} : ∀ {x : PyData} {u : V},Du H x u→decide (u = .non) = PyData.isNo x
  | .none,u,h => by rw [Du] at h; subst h; rfl
  | .bool _,u,h => by rw [Du] at h; subst h; rfl
  | .int _,u,h => by rw [Du] at h; subst h; rfl
  | .str _,u,h => by rw [Du] at h; subst h; rfl
  | .tuple _,u,h => by rw [Du] at h; obtain ⟨a,xs,rfl,_⟩:=h; rfl
  | .list _,u,h => by rw [Du] at h; obtain ⟨a,xs,rfl,_⟩:=h; rfl
  | .dict [],u,h => by rw [Du,DuM] at h; rcases h with ⟨ea,C,_,rfl,_⟩ | ⟨a,ns,_,rfl,_⟩ | h; rfl; rfl; exact h.elim
  | .dict ((_,_) :: _),u,h => by rw [Du,DuM] at h; rcases h with ⟨ea,C,_,rfl,_⟩ | ⟨a,ns,_,rfl,_⟩ | ⟨_,_,a,r,rfl,_⟩ <;> rfl
def dIs (neg : Bool) : PyData→PyData→Option PyData:=fun x y => match y with
  | .none => some (.bool (if neg then !PyData.isNo x else PyData.isNo x))
  | _ => none
theorem do_is : DOp X (compareOp .Is) (dIs false) := by
  refine ⟨_,op_isN,fun x y z hz G0 H0 G H σ δ ts u v Q R0 du dv k => ?_⟩
  unfold dIs at hz
  split at hz
  · cases hz
    rw [Du] at dv
    refine ⟨dv,?_⟩
    rw [du_non du]
    exact k _ _ _ (R0.put (by rw [Du]; rfl))
  · cases hz
end
section
variable {X : Cx} {a b c e : Expr} {es : List Expr} {f g h : Dv→Option PyData} {pos p : Pos}
def asB : PyData→Option Bool
  | .bool b => some b
  | _ => none
def asI : PyData→Option Int
  | .int b => some b
  | _ => none
theorem asB_eq {x : PyData} {b : Bool} (h : asB x = some b) : x = .bool b := by
  unfold asB at h; split at h
  · cases h; rfl
  · cases h
theorem asI_eq {x : PyData} {b : Int} (h : asI x = some b) : x = .int b := by
  unfold asI at h; split at h
  · cases h; rfl
  · cases h
theorem de_neg (ha : DE X a f) : DE X (.UnaryOp .USub a pos) (fun δ => (f δ).bind fun x => (asI x).map fun i => .int (-i)) := by
  obtain ⟨ta,pa,ka⟩:=ha
  refine ⟨_,pe_un un_neg pa,fun δ z hz G0 H0 G H σ ts Q R0 k => ?_⟩
  obtain ⟨x,h1,h2⟩:=Option.bind_eq_some_iff.mp hz
  obtain ⟨i,h3,rfl⟩:=Option.map_eq_some_iff.mp h2
  have:=asI_eq h3; subst this
  refine ka δ _ h1 G0 H0 G H σ ts _ R0 fun u G1 H1 R1 => ?_
  have:=R1.tmp _ (.head _)
  rw [Du] at this
  exact ⟨i,this,k _ _ _ (R1.drop.put (by rw [Du]))⟩
theorem de_one {op} (ha : DE X a f) : DE X (.BoolOp op [a] pos) f := by
  obtain ⟨ta,pa,ka⟩:=ha
  exact ⟨_,pe_one pa,ka⟩
theorem de_and {rest : List Expr} (ha : DE X a f) (hb : DE X (.BoolOp .And (b :: rest) pos) g) : DE X (.BoolOp .And (a :: b :: rest) pos) (fun δ => (f δ).bind fun x => (asB x).bind fun c => if c = true then g δ else some (.bool false)) := by
  obtain ⟨ta,pa,ka⟩:=ha
  obtain ⟨tb,pb,kb⟩:=hb
  refine ⟨_,pe_and pa pb,fun δ z hz G0 H0 G H σ ts Q R0 k => ?_⟩
  obtain ⟨x,h1,h2⟩:=Option.bind_eq_some_iff.mp hz
  obtain ⟨i,h3,h4⟩:=Option.bind_eq_some_iff.mp h2
  have:=asB_eq h3; subst this
  refine ka δ _ h1 G0 H0 G H σ ts _ R0 fun u G1 H1 R1 => ?_
  have hu:=R1.tmp _ (.head _)
  rw [Du] at hu
  refine ⟨i,hu,?_⟩
  split
  · rename_i hc
    rw [if_pos hc] at h4
    exact kb δ z h4 G0 H0 G1 H1 σ ts Q R1.drop k
  · rename_i hc
    rw [if_neg hc] at h4; cases h4
    exact k _ _ _ (R1.drop.put (by rw [Du]))
variable {fa fb : Dv→Option Bool}
def DW (X : Cx) (e : Expr) (f : Dv→Option Bool) : Prop:=∃ t,PW X e t∧∀ δ b,f δ = some b→∀ G0 H0 G H σ ts (Q : Bool→Hp→Prop),Rw G0 H0 G H σ δ ts→(∀ G' H',Rw G0 H0 G' H' σ δ ts→Q b H')→t σ H Q
theorem DW.dt (h : DW X e fa) : DT X e fa:=let ⟨t,p,k⟩:=h; ⟨t,p.pt,k⟩
theorem dt_cmp {op : CmpOp} {o : PyData→PyData→Option PyData} (ho : DOp X (compareOp op) o) (ha : DE X a f) (hb : DE X b g) (hm : behindInMarks op b = false) : DT X (.Compare a [op] [b] pos) (fun δ => (op2 o f g δ).bind asB) := by
  obtain ⟨r,hr,kr⟩:=ho
  obtain ⟨ta,pa,ka⟩:=ha
  obtain ⟨tb,pb,kb⟩:=hb
  refine ⟨_,pt_cmpR hr pa pb hm,fun δ z hz G0 H0 G H σ ts Q R0 k => ?_⟩
  obtain ⟨q,h0,h4⟩:=Option.bind_eq_some_iff.mp hz
  have:=asB_eq h4; subst this
  obtain ⟨x,y,h1,h2,h3⟩:=two (x:=.none) (y:=.none) h0
  refine ka δ x h1 G0 H0 G H σ ts _ R0 fun u G1 H1 R1 => ?_
  refine kb δ y h2 G0 H0 G1 H1 σ _ _ R1 fun v G2 H2 R2 => ?_
  refine kr x y _ h3 G0 H0 G2 H2 σ δ ts u v _ (R2.drop.drop) (R2.tmp (x,u) (.tail _ (.head _))) (R2.tmp (y,v) (.head _)) fun w G3 H3 R3 => ?_
  have hu:=R3.tmp _ (.head _)
  rw [Du] at hu
  exact ⟨z,hu,k _ _ R3.drop⟩
theorem dt_val (ha : DE X e f) (he : ∀ whole,isTrue e X.env whole = (do let v ← whole; standAt e.pos; holding [v] (truthy v)) := by intro _; rfl) : DT X e (fun δ => (f δ).bind asB) := by
  obtain ⟨ta,pa,ka⟩:=ha
  refine ⟨_,pt_val pa he,fun δ z hz G0 H0 G H σ ts Q R0 k => ?_⟩
  obtain ⟨q,h0,h4⟩:=Option.bind_eq_some_iff.mp hz
  have:=asB_eq h4; subst this
  refine ka δ _ h0 G0 H0 G H σ ts _ R0 fun u G1 H1 R1 => ?_
  have hu:=R1.tmp _ (.head _)
  rw [Du] at hu
  exact ⟨z,hu,k _ _ R1.drop⟩
theorem dt_not (ha : DT X a fa) : DT X (.UnaryOp .Not a pos) (fun δ => (fa δ).map fun c => !c) := by
  obtain ⟨ta,pa,ka⟩:=ha
  refine ⟨_,pt_not pa,fun δ z hz G0 H0 G H σ ts Q R0 k => ?_⟩
  obtain ⟨i,h3,rfl⟩:=Option.map_eq_some_iff.mp hz
  exact ka δ _ h3 G0 H0 G H σ ts _ R0 fun G1 H1 R1 => k _ _ R1
theorem dw_one {op : BoolOp} (ha : DT X a fa) : DW X (.BoolOp op [a] pos) fa := by
  obtain ⟨ta,pa,ka⟩:=ha
  cases op
  · exact ⟨_,pw_and1 pa,ka⟩
  · exact ⟨_,pw_or1 pa,ka⟩
theorem dw_and {rest : List Expr} (ha : DT X a fa) (hb : DW X (.BoolOp .And (b :: rest) pos) fb) : DW X (.BoolOp .And (a :: b :: rest) pos) (fun δ => (fa δ).bind fun c => if c = true then fb δ else some false) := by
  obtain ⟨ta,pa,ka⟩:=ha
  obtain ⟨tb,pb,kb⟩:=hb
  refine ⟨_,pw_and pa pb,fun δ z hz G0 H0 G H σ ts Q R0 k => ?_⟩
  obtain ⟨i,h3,h4⟩:=Option.bind_eq_some_iff.mp hz
  refine ka δ _ h3 G0 H0 G H σ ts _ R0 fun G1 H1 R1 => ?_
  split
  · rename_i hc
    rw [if_pos hc] at h4
    exact kb δ z h4 G0 H0 G1 H1 σ ts Q R1 k
  · rename_i hc
    rw [if_neg hc] at h4; cases h4
    exact k _ _ R1
theorem dw_or {rest : List Expr} (ha : DT X a fa) (hb : DW X (.BoolOp .Or (b :: rest) pos) fb) : DW X (.BoolOp .Or (a :: b :: rest) pos) (fun δ => (fa δ).bind fun c => if c = true then some true else fb δ) := by
  obtain ⟨ta,pa,ka⟩:=ha
  obtain ⟨tb,pb,kb⟩:=hb
  refine ⟨_,pw_or pa pb,fun δ z hz G0 H0 G H σ ts Q R0 k => ?_⟩
  obtain ⟨i,h3,h4⟩:=Option.bind_eq_some_iff.mp hz
  refine ka δ _ h3 G0 H0 G H σ ts _ R0 fun G1 H1 R1 => ?_
  split
  · rename_i hc
    rw [if_pos hc] at h4; cases h4
    exact k _ _ R1
  · rename_i hc
    rw [if_neg hc] at h4
    exact kb δ z h4 G0 H0 G1 H1 σ ts Q R1 k
variable {fs : Dv→Option (List PyData)}
theorem da_nil : DA X [] (fun _ => some []):=⟨_,pa_nil,fun δ xs h G0 H0 G H σ ts Q R0 k => by cases h; exact k [] G H (by simpa using R0) rfl⟩
theorem da_cons (ha : DE X e f) (hr : DA X es fs) (hs : starEach (e :: es) X.env = (false,eval e X.env) :: starEach es X.env := by rfl) : DA X (e :: es) (fun δ => (f δ).bind fun x => (fs δ).map fun xs => x :: xs) := by
  obtain ⟨ta,pa,ka⟩:=ha
  obtain ⟨tr,pr,kr⟩:=hr
  refine ⟨_,pa_cons pa pr hs,fun δ z hz G0 H0 G H σ ts Q R0 k => ?_⟩
  obtain ⟨x,h1,h2⟩:=Option.bind_eq_some_iff.mp hz
  obtain ⟨xs,h3,rfl⟩:=Option.map_eq_some_iff.mp h2
  refine ka δ x h1 G0 H0 G H σ ts _ R0 fun u G1 H1 R1 => ?_
  refine kr δ xs h3 G0 H0 G1 H1 σ _ _ R1 fun vs G2 H2 R2 hl => ?_
  refine k (u :: vs) G2 H2 (R2.less fun q hq => ?_) (by simp [hl])
  simp only [List.zip_cons_cons,List.cons_append,List.mem_cons,List.mem_append] at hq ⊢
  rcases hq with h | h | h
  · exact .inr (.inl h)
  · exact .inl h
  · exact .inr (.inr h)
theorem duA_of {G : Hp} : ∀ {xs : List PyData} {vs : List V},vs.length = xs.length→(∀ q∈xs.zip vs,Du G q.1 q.2)→DuA G xs vs
  | [],vs,hl,_ => by rw [List.eq_nil_of_length_eq_zero hl]; exact .nil
  | x :: xs,[],hl,_ => by simp at hl
  | x :: xs,v :: vs,hl,h => .cons (h (x,v) (by simp)) (duA_of (by simpa using hl) fun q hq => h q (by simp [hq]))
theorem Rw.args {G0 H0 G H : Hp} {σ : St} {δ : Dv} {ts : List (PyData×V)} {xs : List PyData} {vs : List V} (r : Rw G0 H0 G H σ δ (xs.zip vs ++ ts)) (hl : vs.length = xs.length) : DuA G xs vs∧Rw G0 H0 G H σ δ ts :=
  ⟨duA_of hl fun q hq => r.tmp q (List.mem_append_left _ hq),r.less fun q hq => List.mem_append_right _ hq⟩
theorem Rw.newL {G0 H0 G H : Hp} {σ : St} {δ : Dv} {ts : List (PyData×V)} {xs : List PyData} {vs : List V} {p : Addr} (r : Rw G0 H0 G H σ δ ts) (d : DuA G xs vs) (hp : H p = none) : Rw G0 H0 (upd G p (.lst vs)) (upd H p (.lst vs)) σ δ ((.list xs,.ref p) :: ts) := by
  refine (r.newObj hp).put ?_
  have e : Same G (upd G p (.lst vs)):=fun a o h => by rw [upd_ne (ne_of_none (r.ins _ _ h) hp)]; exact h
  rw [Du]
  exact ⟨p,vs,rfl,upd_same,d.same e⟩
theorem Rw.newT {G0 H0 G H : Hp} {σ : St} {δ : Dv} {ts : List (PyData×V)} {xs : List PyData} {vs : List V} {p : Addr} (r : Rw G0 H0 G H σ δ ts) (d : DuA G xs vs) (hp : H p = none) : Rw G0 H0 (upd G p (.tup vs)) (upd H p (.tup vs)) σ δ ((.tuple xs,.ref p) :: ts) := by
  refine (r.newObj hp).put ?_
  have e : Same G (upd G p (.tup vs)):=fun a o h => by rw [upd_ne (ne_of_none (r.ins _ _ h) hp)]; exact h
  rw [Du]
  exact ⟨p,vs,rfl,upd_same,d.same e⟩
def few (xs : List PyData) : Option (List PyData):=if xs.length≤dMax then some xs else none
theorem few_eq {xs ys : List PyData} (h : few xs = some ys) : xs = ys∧xs.length≤dMax := by
  unfold few at h; split at h
  · rename_i q; cases h; exact ⟨rfl,q⟩
  · cases h
theorem de_tup {x1} (ha : DA X es fs) : DE X (.Tuple es x1 pos) (fun δ => ((fs δ).bind few).map .tuple) := by
  obtain ⟨ta,pa,ka⟩:=ha
  refine ⟨_,pe_tup pa,fun δ z hz G0 H0 G H σ ts Q R0 k => ?_⟩
  obtain ⟨ys,h1,rfl⟩:=Option.map_eq_some_iff.mp hz
  obtain ⟨xs,h2,h3⟩:=Option.bind_eq_some_iff.mp h1
  obtain ⟨rfl,hl⟩:=few_eq h3
  refine ka δ _ h2 G0 H0 G H σ ts _ R0 fun vs G1 H1 R1 hv => ?_
  obtain ⟨d,R2⟩:=R1.args hv
  exact ⟨dMax_le (by rw [hv]; exact hl),fun q hq => k _ _ _ (R2.newT d hq)⟩
theorem de_lst (ha : DA X es fs) : DE X (.List es pos) (fun δ => ((fs δ).bind few).map .list) := by
  obtain ⟨ta,pa,ka⟩:=ha
  refine ⟨_,pe_lst pa,fun δ z hz G0 H0 G H σ ts Q R0 k => ?_⟩
  obtain ⟨ys,h1,rfl⟩:=Option.map_eq_some_iff.mp hz
  obtain ⟨xs,h2,h3⟩:=Option.bind_eq_some_iff.mp h1
  obtain ⟨rfl,hl⟩:=few_eq h3
  refine ka δ _ h2 G0 H0 G H σ ts _ R0 fun vs G1 H1 R1 hv => ?_
  obtain ⟨d,R2⟩:=R1.args hv
  exact ⟨dMax_le (by rw [hv]; exact hl),fun q hq => k _ _ _ (R2.newL d hq)⟩
theorem DuA.atI {H : Hp} {ds : List PyData} {xs : List V} {i : Int} {d : PyData} (h : DuA H ds xs) (e : atI ds i = some d) : ∃ v,atI xs i = some v∧Du H d v := by
  unfold L2.atI at e ⊢
  rw [h.len]
  obtain ⟨j,h1,h2⟩:=Option.bind_eq_some_iff.mp e
  obtain ⟨v,h3,h4⟩:=h.get h2
  exact ⟨v,by rw [h1]; exact h3,h4⟩
theorem duA_intsG {G : Hp} : ∀ ns : List Int,DuA G (ns.map .int) (ns.map V.int)
  | [] => .nil
  | n :: ns => .cons (by rw [Du]) (duA_intsG ns)
def dIx : PyData→PyData→Option PyData:=fun x y => match x,y with
  | .list xs,.int i => atI xs i
  | .tuple xs,.int i => atI xs i
  | .dict [(.none,.list xs)],.int i => atI xs i
  | .str z,.int i => if z.length≤dMax then (atI z.cps.toList i).map fun c => .str ⟨#[c]⟩ else none
  | _,_ => none
theorem de_ix (ha : DE X a f) (hb : DE X b g) (hs : PlainIx b) : DE X (.Subscript a b pos) (op2 dIx f g) := by
  obtain ⟨ta,pa,ka⟩:=ha
  obtain ⟨tb,pb,kb⟩:=hb
  refine ⟨_,pe_ix ix_seq pa pb hs,fun δ z hz G0 H0 G H σ ts Q R0 k => ?_⟩
  obtain ⟨x,y,h1,h2,h3⟩:=two (x:=.none) (y:=.none) hz
  refine ka δ x h1 G0 H0 G H σ ts _ R0 fun u G1 H1 R1 => ?_
  refine kb δ y h2 G0 H0 G1 H1 σ _ _ R1 fun v G2 H2 R2 => ?_
  have du:=R2.tmp (x,u) (.tail _ (.head _))
  have dv:=R2.tmp (y,v) (.head _)
  unfold dIx at h3
  split at h3
  · rw [Du] at du; rw [Du] at dv
    obtain ⟨p,xs,rfl,h4,h5⟩:=du
    obtain ⟨w,h6,h7⟩:=h5.atI h3
    exact .inl ⟨p,xs,_,w,rfl,dv,SqL.of (R2.ins _ _ h4),h6,k _ _ _ (R2.drop.drop.put h7)⟩
  · rw [Du] at du; rw [Du] at dv
    obtain ⟨p,xs,rfl,h4,h5⟩:=du
    obtain ⟨w,h6,h7⟩:=h5.atI h3
    exact .inr (.inl ⟨p,xs,_,w,rfl,dv,SqT.of (R2.ins _ _ h4),h6,k _ _ _ (R2.drop.drop.put h7)⟩)
  · rw [Du] at du; rw [Du] at dv
    rcases du with ⟨ea,C,e1,_⟩ | ⟨p,ns,e1,rfl,h4⟩ | z
    rotate_left 2
    · rw [DuM] at z; cases z.1
    · simp at e1
    · obtain rfl : _ = ns.map PyData.int := by simpa using e1
      obtain ⟨w,h6,h7⟩:=(duA_intsG (G:=_) ns).atI h3
      exact .inl ⟨p,_,_,w,rfl,dv,.inl (h4.same R2.ins),h6,k _ _ _ (R2.drop.drop.put h7)⟩
  · rw [Du] at du; rw [Du] at dv
    split at h3
    · rename_i hl
      obtain ⟨ch,h6,rfl⟩:=Option.map_eq_some_iff.mp h3
      exact .inr (.inr ⟨_,_,ch,du,dv,dMax_le hl,h6,k _ _ _ (R2.drop.drop.put (by rw [Du]))⟩)
    · cases h3
  · cases h3
end
def spD (g : List PyData→Option PyData) : Sp:=fun vs H Q _ => ∃ ds x G,g ds = some x∧DuA G ds vs∧Same G H∧∀ v G' H',Same G G'→Nw G H G'→Same G' H'→Same H H'→Du G' x v→Q v H'
section
variable {X : Cx} {a e : Expr} {es : List Expr} {f h : Dv→Option PyData} {fs : Dv→Option (List PyData)} {pos p : Pos}
theorem de_call {k : Nat} {fA : Addr} {fd : FuncData} {ps : List Str} {m : List PyData→Option PyData} {x : Str} {st : Stmt} (T : Fn X.K X.mg x st ps fA fd) (F : FnOk X.prog X.w X.K X.mg X.base CX0 k fA fd ps (spD m)) (hr : Room k X.A) (hg : Gl X x) (ha : DA X (e :: es) fs)
    (hdb : (x == ("__debug__" : Str)) = false := by decide) (he : starEach (e :: es) X.env = (false,eval e X.env) :: starEach es X.env := by rfl) (hpl : (backTo pos (starEach es X.env)).any (·.1) = false := by rfl) :
    DE X (.Call (.Name x p) (e :: es) [] pos) (fun δ => (fs δ).bind m) := by
  obtain ⟨ta,pa,ka⟩:=ha
  refine ⟨_,pe_fn T F hr hg pa hdb he hpl,fun δ z hz G0 H0 G H σ ts Q R0 k => ?_⟩
  obtain ⟨xs,h1,h2⟩:=Option.bind_eq_some_iff.mp hz
  refine ka δ _ h1 G0 H0 G H σ ts _ R0 fun vs G1 H1 R1 hv => ?_
  obtain ⟨d,R2⟩:=R1.args hv
  refine ⟨xs,z,G1,h2,by rw [List.append_nil]; exact d,R2.ins,fun v G' H' h3 h4 h5 h6 h7 => ?_⟩
  exact k _ _ _ ((R2.lift h3 h4 h5 h6).put h7)
def DCall (X : Cx) (v : Value) (o : List PyData→Option PyData) : Prop:=∃ r,CallR X v r∧∀ xs z,o xs = some z→∀ G0 H0 G H σ δ ts us (Q : VK),Rw G0 H0 G H σ δ ts→DuA G xs us→(∀ w G' H',Rw G0 H0 G' H' σ δ ((z,w) :: ts)→Q w H')→r us H Q
theorem de_callB {x : Str} {id : String} {o : List PyData→Option PyData} (hc : DCall X (.builtin id) o) (hg : Gl X x) (hm : X.mg x = none) (hv : bootBuiltins x = some (.builtin id)) (ha : DA X (e :: es) fs) (hn : x ≠ "__name__" := by decide) (hdb : (x == ("__debug__" : Str)) = false := by decide)
    (he : starEach (e :: es) X.env = (false,eval e X.env) :: starEach es X.env := by rfl) (hpl : (backTo pos (starEach es X.env)).any (·.1) = false := by rfl) : DE X (.Call (.Name x p) (e :: es) [] pos) (fun δ => (fs δ).bind o) := by
  obtain ⟨r,hr,kr⟩:=hc
  obtain ⟨ta,pa,ka⟩:=ha
  refine ⟨_,pe_callB hr hg hm hv pa hn hdb he hpl,fun δ z hz G0 H0 G H σ ts Q R0 k => ?_⟩
  obtain ⟨xs,h1,h2⟩:=Option.bind_eq_some_iff.mp hz
  refine ka δ _ h1 G0 H0 G H σ ts _ R0 fun vs G1 H1 R1 hv => ?_
  obtain ⟨d,R2⟩:=R1.args hv
  exact kr xs z h2 G0 H0 G1 H1 σ δ ts vs Q R2 d k
theorem de_callTy {x : Str} {T : String} {o : List PyData→Option PyData} (hc : DCall X (.type T) o) (hg : Gl X x) (hm : X.mg x = none) (hv : bootBuiltins x = some (.type T)) (ha : DA X (e :: es) fs) (hn : x ≠ "__name__" := by decide) (hdb : (x == ("__debug__" : Str)) = false := by decide)
    (he : starEach (e :: es) X.env = (false,eval e X.env) :: starEach es X.env := by rfl) (hpl : (backTo pos (starEach es X.env)).any (·.1) = false := by rfl) : DE X (.Call (.Name x p) (e :: es) [] pos) (fun δ => (fs δ).bind o) := by
  obtain ⟨r,hr,kr⟩:=hc
  obtain ⟨ta,pa,ka⟩:=ha
  refine ⟨_,pe_callTy hr hg hm hv pa hn hdb he hpl,fun δ z hz G0 H0 G H σ ts Q R0 k => ?_⟩
  obtain ⟨xs,h1,h2⟩:=Option.bind_eq_some_iff.mp hz
  refine ka δ _ h1 G0 H0 G H σ ts _ R0 fun vs G1 H1 R1 hv => ?_
  obtain ⟨d,R2⟩:=R1.args hv
  exact kr xs z h2 G0 H0 G1 H1 σ δ ts vs Q R2 d k
theorem DuA.un1 {H : Hp} {d : PyData} {xs : List V} (h : DuA H [d] xs) : ∃ x,xs = [x]∧Du H d x := by
  obtain ⟨x,r,rfl,h1,h2⟩:=h.un
  rw [h2.nil_eq]; exact ⟨x,rfl,h1⟩
theorem DuA.un2 {H : Hp} {d e : PyData} {xs : List V} (h : DuA H [d,e] xs) : ∃ x y,xs = [x,y]∧Du H d x∧Du H e y := by
  obtain ⟨x,r,rfl,h1,h2⟩:=h.un
  obtain ⟨y,rfl,h3⟩:=h2.un1; exact ⟨x,y,rfl,h1,h3⟩
def dLen : List PyData→Option PyData
  | [.list xs] => some (.int xs.length)
  | [.tuple xs] => some (.int xs.length)
  | [.dict [(.none,.list xs)]] => some (.int xs.length)
  | _ => none
theorem dc_len : DCall X (.builtin "len") dLen := by
  refine ⟨_,call_len_seq,fun xs z hz G0 H0 G H σ δ ts us Q R0 d k => ?_⟩
  unfold dLen at hz
  split at hz
  · cases hz
    obtain ⟨u,rfl,du⟩:=d.un1
    rw [Du] at du
    obtain ⟨p,ys,rfl,h4,h5⟩:=du
    refine ⟨p,ys,rfl,.inl (SqL.of (R0.ins _ _ h4)),?_⟩
    rw [h5.len]
    exact k _ _ _ (R0.put (by rw [Du]))
  · cases hz
    obtain ⟨u,rfl,du⟩:=d.un1
    rw [Du] at du
    obtain ⟨p,ys,rfl,h4,h5⟩:=du
    refine ⟨p,ys,rfl,.inr (SqT.of (R0.ins _ _ h4)),?_⟩
    rw [h5.len]
    exact k _ _ _ (R0.put (by rw [Du]))
  · cases hz
    obtain ⟨u,rfl,du⟩:=d.un1
    rw [Du] at du
    rcases du with ⟨ea,C,e1,_⟩ | ⟨p,ns,e1,rfl,h4⟩ | z
    rotate_left 2
    · rw [DuM] at z; cases z.1
    · simp at e1
    · obtain rfl : _ = ns.map PyData.int := by simpa using e1
      refine ⟨p,_,rfl,.inl (.inl (h4.same R0.ins)),?_⟩
      rw [List.length_map] at k ⊢
      exact k _ _ _ (R0.put (by rw [Du]))
  · cases hz
def dAbs : List PyData→Option PyData
  | [.int i] => some (.int (if i < 0 then -i else i))
  | _ => none
theorem dc_abs : DCall X (.builtin "abs") dAbs := by
  refine ⟨_,call_abs,fun xs z hz G0 H0 G H σ δ ts us Q R0 d k => ?_⟩
  unfold dAbs at hz
  split at hz
  · cases hz
    obtain ⟨u,rfl,du⟩:=d.un1
    rw [Du] at du; subst du
    exact ⟨_,rfl,k _ _ _ (R0.put (by rw [Du]))⟩
  · cases hz
def dTupleOf : List PyData→Option PyData
  | [.list xs] => some (.tuple xs)
  | [.tuple xs] => some (.tuple xs)
  | _ => none
theorem dc_tuple : DCall X (.type "tuple") dTupleOf := by
  refine ⟨_,call_tuple_of,fun xs z hz G0 H0 G H σ δ ts us Q R0 d k => ?_⟩
  unfold dTupleOf at hz
  split at hz
  · cases hz
    obtain ⟨u,rfl,du⟩:=d.un1
    rw [Du] at du
    obtain ⟨p,ys,rfl,h4,h5⟩:=du
    exact ⟨p,ys,rfl,.inl ⟨SqL.of (R0.ins _ _ h4),fun l hl => k _ _ _ (R0.newT h5 hl)⟩⟩
  · cases hz
    obtain ⟨u,rfl,du⟩:=d.un1
    have du':=du
    rw [Du] at du
    obtain ⟨p,ys,rfl,h4,h5⟩:=du
    exact ⟨p,ys,rfl,.inr ⟨SqT.of (R0.ins _ _ h4),k _ _ _ (R0.put du')⟩⟩
  · cases hz
theorem Du.ty {K : PySem.W.Frag} {H : Hp} : ∀ {d : PyData} {v : V},(∀ kv,d≠.dict kv)→Du H d v→TyOf K H v (.type (tyOf d))∧∀ kv,d≠.dict kv
  | .none,_,_,h => by rw [Du] at h; subst h; exact ⟨.non,by simp⟩
  | .bool _,_,_,h => by rw [Du] at h; subst h; exact ⟨.bl _,by simp⟩
  | .int _,_,_,h => by rw [Du] at h; subst h; exact ⟨.int _,by simp⟩
  | .str _,_,_,h => by rw [Du] at h; subst h; exact ⟨.str _,by simp⟩
  | .tuple _,_,_,h => by rw [Du] at h; obtain ⟨a,xs,rfl,h1,_⟩:=h; exact ⟨.tup h1,by simp⟩
  | .list _,_,_,h => by rw [Du] at h; obtain ⟨a,xs,rfl,h1,_⟩:=h; exact ⟨.lst h1,by simp⟩
  | .dict _,_,n,h => absurd rfl (n _)
def isiD (q : PyData→Bool) : PyData→Option PyData
  | .dict _ => none
  | x => some (.bool (q x))
theorem isiD_eq {q : PyData→Bool} {x z : PyData} (h : isiD q x = some z) : (∀ kv,x≠.dict kv)∧z = .bool (q x) := by
  unfold isiD at h
  split at h
  · cases h
  · rename_i n; cases h; exact ⟨fun kv e => n kv e,rfl⟩
theorem de_isi {T : String} {q : PyData→Bool} {xT : Str} {p1 p2 : Pos} (hk : ∀ d : PyData,(∀ kv,d≠.dict kv)→PySem.W.kitOne X.K (.type (tyOf d)) (.type T) = some (q d)) (hg : Gl X "isinstance") (hm : X.mg "isinstance" = none) (hgT : Gl X xT) (hmT : X.mg xT = none) (hvT : bootBuiltins xT = some (.type T)) (ha : DE X a f)
    (hnT : xT ≠ "__name__" := by decide) (hdT : (xT == ("__debug__" : Str)) = false := by decide) (hs1 : starEach [a,.Name xT p2] X.env = (false,eval a X.env) :: starEach [.Name xT p2] X.env := by rfl) (hpl : (backTo pos (starEach [.Name xT p2] X.env)).any (·.1) = false := by rfl) :
    DE X (.Call (.Name "isinstance" p1) [a,.Name xT p2] [] pos) (fun δ => (f δ).bind (isiD q)) := by
  obtain ⟨ta,pa,ka⟩:=ha
  have pT : PE X (.Name xT p2) (tC (.ty T)):=pe_bltn hgT hmT hvT rfl hnT hdT
  refine ⟨_,pe_callB call_isi hg hm PyProof.Rows.boot_isinstance (pa_cons pa (pa_cons pT pa_nil) hs1) (by decide) (by decide) hs1 hpl,fun δ z hz G0 H0 G H σ ts Q R0 k => ?_⟩
  obtain ⟨x,h1,h2⟩:=Option.bind_eq_some_iff.mp hz
  obtain ⟨n1,rfl⟩:=isiD_eq h2
  refine ka δ _ h1 G0 H0 G H σ ts _ R0 fun u G1 H1 R1 => ?_
  have du:=R1.tmp _ (.head _)
  obtain ⟨t1,t2⟩:=(du.same R1.ins).ty (K:=X.K) n1
  exact ⟨u,.ty T,_,q x,rfl,by simp [clsV],t1,hk x t2,k _ _ _ (R1.drop.put (by rw [Du]))⟩
end
inductive Ou where
  | nx (δ : Dv) | rt (x : PyData) | bk (δ : Dv) | ct (δ : Dv) | rn (xs : List PyData)
def Fin (G0 H0 : Hp) (D : Ends) : Ou→Prop
  | .nx δ => ∀ σ G H,Rw G0 H0 G H σ δ []→D.nx σ H
  | .rt x => ∀ v G H,Same G0 G→Nw G0 H0 G→Same G H→Same H0 H→Du G x v→D.rt v H
  | .bk δ => ∀ σ G H,Rw G0 H0 G H σ δ []→D.bk σ H
  | .ct δ => ∀ σ G H,Rw G0 H0 G H σ δ []→D.ct σ H
  | .rn xs => ∀ a ys G H,Same G0 G→Nw G0 H0 G→Same G H→Same H0 H→H0 a = none→G a = none→H a = some (.lst ys)→DuA G xs ys→D.rt (.ref a) H
abbrev DF:=Dv→Option Ou
def DS (X : Cx) (st : Stmt) (F : DF) : Prop:=∃ t,PS X st t∧∀ δ r,F δ = some r→∀ G0 H0 G H σ D,Rw G0 H0 G H σ δ []→Fin G0 H0 D r→t D σ H
def DSs (X : Cx) (st : List Stmt) (F : DF) : Prop:=∃ t,PSs X st t∧∀ δ r,F δ = some r→∀ G0 H0 G H σ D,Rw G0 H0 G H σ δ []→Fin G0 H0 D r→t D σ H
def seqD (F1 F2 : DF) (δ : Dv) : Option Ou:=match F1 δ with
  | some (.nx δ') => F2 δ'
  | o => o
section
variable {X : Cx} {c e : Expr}  {f h : Dv→Option PyData}  {fa : Dv→Option Bool} {pos p : Pos} {st : Stmt} {sts sts' : List Stmt} {F1 F2 : DF}
theorem dss_nil : DSs X [] (fun δ => some (.nx δ)):=⟨_,pss_nil,fun δ r h G0 H0 G H σ D R k => by cases h; exact k _ _ _ R⟩
theorem dss_cons (h1 : DS X st F1) (h2 : DSs X sts F2) : DSs X (st :: sts) (seqD F1 F2) := by
  obtain ⟨t1,p1,k1⟩:=h1
  obtain ⟨t2,p2,k2⟩:=h2
  refine ⟨_,pss_cons p1 p2,fun δ r h G0 H0 G H σ D R k => ?_⟩
  unfold seqD at h
  split at h
  · rename_i δ' e1
    exact k1 δ _ e1 G0 H0 G H σ _ R fun σ' G' H' R' => k2 δ' r h G0 H0 G' H' σ' D R' k
  · rename_i hne
    refine k1 δ r h G0 H0 G H σ _ R ?_
    cases r with
    | nx δ' => exact absurd h (hne δ')
    | rt x => exact k
    | bk δ' => exact k
    | ct δ' => exact k
    | rn xs => exact k
theorem dss_one (h1 : DS X st F1) : DSs X [st] F1 := by
  obtain ⟨t1,p1,k1⟩:=h1
  exact ⟨_,pss_one p1,k1⟩
theorem ds_cont : DS X (.Continue pos) (fun δ => some (.ct δ)):=⟨_,ps_continue,fun δ r h G0 H0 G H σ D R k => by cases h; exact k _ _ _ R⟩
theorem ds_never : DS X st (fun _ => none):=⟨_,ps_never,fun _ _ h => by cases h⟩
theorem ds_ret (he : DE X e f) : DS X (.Return (some e) pos) (fun δ => (f δ).map .rt) := by
  obtain ⟨t,p,k⟩:=he
  refine ⟨_,ps_ret p,fun δ r h G0 H0 G H σ D R q => ?_⟩
  obtain ⟨x,h1,rfl⟩:=Option.map_eq_some_iff.mp h
  exact k δ x h1 G0 H0 G H σ [] _ R fun v G' H' R' => q v G' H' R'.ext R'.new R'.ins R'.keep (R'.tmp _ (.head _))
theorem ds_if (hc : DT X c fa) (h1 : DSs X sts F1) (h2 : DSs X sts' F2) : DS X (.If c sts sts' pos) (fun δ => (fa δ).bind fun c => if c = true then F1 δ else F2 δ) := by
  obtain ⟨tc,pc,kc⟩:=hc
  obtain ⟨t1,p1,k1⟩:=h1
  obtain ⟨t2,p2,k2⟩:=h2
  refine ⟨_,ps_if pc p1 p2,fun δ r h G0 H0 G H σ D R q => ?_⟩
  obtain ⟨i,h3,h4⟩:=Option.bind_eq_some_iff.mp h
  refine kc δ i h3 G0 H0 G H σ [] _ R fun G' H' R' => ?_
  split
  · rename_i hc
    rw [if_pos hc] at h4
    exact k1 δ r h4 G0 H0 G' H' σ D R' q
  · rename_i hc
    rw [if_neg hc] at h4
    exact k2 δ r h4 G0 H0 G' H' σ D R' q
end
section
variable {G0 H0 G H : Hp} {σ : St} {δ : Dv} {ts : List (PyData×V)}
theorem Rw.setD {i : Nat} {x : PyData} {v : V} (r : Rw G0 H0 G H σ δ ((x,v) :: ts)) : Rw G0 H0 G H (σ.set i (some v)) (δ.set i (.d x)) ts := by
  have hl:=r.len
  refine ⟨r.ext,r.new,r.ins,r.keep,by simp [hl],fun j y h => ?_,fun j ys h => ?_,fun j l ys zs hjl h1 h2 => ?_,fun q hq => r.tmp q (.tail _ hq)⟩
  · by_cases hj : i = j
    · subst hj
      by_cases hi : i < δ.length
      · rw [List.getElem?_set_self hi] at h
        cases h
        exact ⟨v,by rw [List.getElem?_set_self (by lia)],r.tmp _ (.head _)⟩
      · rw [List.getElem?_eq_none (by simp; lia)] at h; cases h
    · rw [List.getElem?_set_ne hj] at h
      obtain ⟨w,k1,k2⟩:=r.dat j y h
      exact ⟨w,by rw [List.getElem?_set_ne hj]; exact k1,k2⟩
  · by_cases hj : i = j
    · subst hj
      by_cases hi : i < δ.length
      · rw [List.getElem?_set_self hi] at h; cases h
      · rw [List.getElem?_eq_none (by simp; lia)] at h; cases h
    · rw [List.getElem?_set_ne hj] at h
      obtain ⟨w,k1,k2,k3⟩:=r.own j ys h
      exact ⟨w,k1,by rw [List.getElem?_set_ne hj]; exact k2,k3⟩
  · have nj : i≠j:=fun z => by
      subst z
      by_cases hi : i < δ.length
      · rw [List.getElem?_set_self hi] at h1; cases h1
      · rw [List.getElem?_eq_none (by simp; lia)] at h1; cases h1
    have nl : i≠l:=fun z => by
      subst z
      by_cases hi : i < δ.length
      · rw [List.getElem?_set_self hi] at h2; cases h2
      · rw [List.getElem?_eq_none (by simp; lia)] at h2; cases h2
    rw [List.getElem?_set_ne nj] at h1 ⊢
    rw [List.getElem?_set_ne nl] at h2 ⊢
    exact r.apart j l ys zs hjl h1 h2
end
section
variable {X : Cx} {e : Expr} {f : Dv→Option PyData} {pos p : Pos}
theorem ds_set {i : Nat} {x : Str} {pos' : Pos} (hN : X.N.Nodup) (hi : X.N[i]? = some x) (hx : Loc X.env.scope x) (he : DE X e f) (hs : swapsWith e (some (.Name x pos')) pos.line X.env = pure false := by rfl) (hf : X.fn x = true∨X.env.scope.names.lookup x = some .local := by first | exact .inl rfl | exact .inr rfl | assumption) :
    DS X (.Assign [.Name x pos'] e pos) (fun δ => (f δ).map fun y => .nx (δ.set i (.d y))) := by
  obtain ⟨t,p,k⟩:=he
  refine ⟨_,ps_set hN hi hx p hs hf,fun δ r h G0 H0 G H σ D R q => ?_⟩
  obtain ⟨y,h1,rfl⟩:=Option.map_eq_some_iff.mp h
  exact k δ y h1 G0 H0 G H σ [] _ R fun v G' H' R' => q _ _ _ R'.setD
end
section
variable {G0 H0 G H : Hp} {σ : St} {δ : Dv} {ts : List (PyData×V)}
theorem Rw.base (r : Rw G0 H0 G H σ δ ts) : Rw G H0 G H σ δ ts:={ r with ext:=Same.refl G,new:=fun _ _ h => .inl h }
theorem Nw.trans {G1 G2 : Hp} (a : Nw G0 H0 G1) (b : Nw G1 H0 G2) : Nw G0 H0 G2:=fun c o h => by
  rcases b c o h with z | z | z
  · exact a c o z
  · exact .inr (.inl z)
  · exact .inr (.inr z)
theorem Rw.unbase {G' H' : Hp} {σ' : St} {δ' : Dv} {ts' : List (PyData×V)} (r : Rw G0 H0 G H σ δ ts) (q : Rw G H0 G' H' σ' δ' ts') : Rw G0 H0 G' H' σ' δ' ts':={ q with ext:=r.ext.trans q.ext,new:=r.new.trans q.new }
def frz (i : Nat) (δ : Dv) : Dv:=match δ[i]? with
  | some (.own (.lst xs)) => δ.set i (.d (.list xs))
  | some (.own (.dtr kvs)) => δ.set i (.d (dictD kvs))
  | _ => δ
theorem Rw.letGo {i : Nat} {c : Oc} {x : PyData} (r : Rw G0 H0 G H σ δ ts) (hi : δ[i]? = some (.own c)) (hx : ∀ a o,G a = none→OcOk G a c o→Du (upd G a o) x (.ref a)) : ∃ a o,σ[i]? = some (some (.ref a))∧G a = none∧H0 a = none∧H a = some o∧OcOk G a c o∧Rw G0 H0 (upd G a o) H σ (δ.set i (.d x)) ts := by
  obtain ⟨a,o,k1,k2,k3,k4,k5⟩:=r.own i _ hi
  have e : Same G (upd G a o):=same_new k2 _
  have hlt : i < δ.length:=(List.getElem?_eq_some_iff.mp hi).1
  refine ⟨a,o,k1,k2,k3,k4,k5,r.ext.trans e,fun b o' h => ?_,fun b o' h => ?_,r.keep,by simp [r.len],fun j y h => ?_,fun j zs h => ?_,fun j l us ws hjl h1 h2 => ?_,fun q hq => (r.tmp q hq).same e⟩
  · by_cases hb : b = a
    · subst hb; exact .inr (.inl k3)
    · rw [upd_ne hb] at h; exact r.new _ _ h
  · by_cases hb : b = a
    · subst hb; rw [upd_same] at h; rw [k4]; exact h
    · rw [upd_ne hb] at h; exact r.ins _ _ h
  · by_cases hj : i = j
    · subst hj
      rw [List.getElem?_set_self hlt] at h
      cases h
      exact ⟨.ref a,k1,hx a o k2 k5⟩
    · rw [List.getElem?_set_ne hj] at h
      obtain ⟨w,m1,m2⟩:=r.dat j y h
      exact ⟨w,m1,m2.same e⟩
  · by_cases hj : i = j
    · subst hj; rw [List.getElem?_set_self hlt] at h; cases h
    · rw [List.getElem?_set_ne hj] at h
      obtain ⟨b,us,m1,m2,m3,m4,m5⟩:=r.own j zs h
      have nb : b≠a:=fun z => by subst z; exact r.apart i j _ zs hj hi h (by rw [k1,m1])
      exact ⟨b,us,m1,by rw [upd_ne nb]; exact m2,m3,m4,m5.same e⟩
  · have nj : i≠j:=fun z => by subst z; rw [List.getElem?_set_self hlt] at h1; cases h1
    have nl : i≠l:=fun z => by subst z; rw [List.getElem?_set_self hlt] at h2; cases h2
    rw [List.getElem?_set_ne nj] at h1
    rw [List.getElem?_set_ne nl] at h2
    exact r.apart j l us ws hjl h1 h2
theorem du_lst {a : Addr} {o : HO} {xs : List PyData} (hG : G a = none) (h : OcOk G a (.lst xs) o) : Du (upd G a o) (.list xs) (.ref a) := by
  obtain ⟨ys,rfl,k5⟩:=h
  rw [Du]
  exact ⟨a,ys,rfl,upd_same,k5.same (same_new hG _)⟩
theorem du_dtr {a : Addr} {o : HO} {kvs : List (Option Tr×PyData)} (hG : G a = none) (h : OcOk G a (.dtr kvs) o) : Du (upd G a o) (dictD kvs) (.ref a) := by
  obtain ⟨r,rfl,n,k5⟩:=h
  rw [Du,DuM]
  exact .inr (.inr ⟨rfl,rfl,a,r,rfl,upd_same,n,DuK.same (same_new hG _) k5⟩)
theorem Rw.frz (i : Nat) (r : Rw G0 H0 G H σ δ ts) : ∃ G',Rw G0 H0 G' H σ (L2.frz i δ) ts := by
  unfold L2.frz
  split
  · rename_i xs hi
    obtain ⟨a,o,_,_,_,_,_,R⟩:=r.letGo (x:=.list xs) hi fun a o h => du_lst h
    exact ⟨_,R⟩
  · rename_i kvs hi
    obtain ⟨a,o,_,_,_,_,_,R⟩:=r.letGo (x:=dictD kvs) hi fun a o h => du_dtr h
    exact ⟨_,R⟩
  · exact ⟨G,r⟩
theorem Rw.setOwn {i : Nat} {xs : Oc} {ys : HO} {a : Addr} (r : Rw G0 H0 G H σ δ ts) (d : OcOk G a xs ys) (ha : H a = none) : Rw G0 H0 G (upd H a ys) (σ.set i (some (.ref a))) (δ.set i (.own xs)) ts := by
  have hG : G a = none := by
    cases q : G a with
    | none => rfl
    | some u => rw [r.ins _ _ q] at ha; cases ha
  have h0 : H0 a = none := by
    cases q : H0 a with
    | none => rfl
    | some u => rw [r.keep _ _ q] at ha; cases ha
  have e : Same H (upd H a ys):=same_new ha _
  have hl:=r.len
  have other : ∀ (j : Nat) (zs : Oc),i≠j→(δ.set i (.own xs))[j]? = some (L.own zs)→δ[j]? = some (L.own zs):=fun j zs hj h => by rw [List.getElem?_set_ne hj] at h; exact h
  have nota : ∀ (j : Nat) (zs : Oc),δ[j]? = some (L.own zs)→σ[j]?≠some (some (V.ref a)):=fun j zs h z => by
    obtain ⟨b,us,m1,m2,m3,m4,m5⟩:=r.own j zs h
    rw [z] at m1; cases m1
    rw [m4] at ha; cases ha
  refine ⟨r.ext,r.new,r.ins.trans e,r.keep.trans e,by simp [hl],fun j y h => ?_,fun j zs h => ?_,fun j l us ws hjl h1 h2 => ?_,r.tmp⟩
  · by_cases hj : i = j
    · subst hj
      by_cases hi : i < δ.length
      · rw [List.getElem?_set_self hi] at h; cases h
      · rw [List.getElem?_eq_none (by simp; lia)] at h; cases h
    · rw [List.getElem?_set_ne hj] at h
      obtain ⟨w,m1,m2⟩:=r.dat j y h
      exact ⟨w,by rw [List.getElem?_set_ne hj]; exact m1,m2⟩
  · by_cases hj : i = j
    · subst hj
      by_cases hi : i < δ.length
      · rw [List.getElem?_set_self hi] at h; cases h
        exact ⟨a,ys,by rw [List.getElem?_set_self (by lia)],hG,h0,upd_same,d⟩
      · rw [List.getElem?_eq_none (by simp; lia)] at h; cases h
    · have h:=other j zs hj h
      obtain ⟨b,us,m1,m2,m3,m4,m5⟩:=r.own j zs h
      exact ⟨b,us,by rw [List.getElem?_set_ne hj]; exact m1,m2,m3,e _ _ m4,m5⟩
  · by_cases hj : i = j
    · subst hj
      have hl2 : i≠l:=hjl
      have h2:=other l ws hl2 h2
      by_cases hi : i < δ.length
      · rw [List.getElem?_set_self (by lia),List.getElem?_set_ne hl2]
        exact fun z => nota l ws h2 z.symm
      · rw [List.getElem?_eq_none (by simp; lia)] at h1; cases h1
    · have h1:=other j us hj h1
      by_cases hk : i = l
      · subst hk
        by_cases hi : i < δ.length
        · rw [List.getElem?_set_self (by lia),List.getElem?_set_ne hj]
          exact fun z => nota j us h1 z
        · rw [List.getElem?_eq_none (by simp; lia)] at h2; cases h2
      · have h2:=other l ws hk h2
        rw [List.getElem?_set_ne hj,List.getElem?_set_ne hk]
        exact r.apart j l us ws hjl h1 h2
theorem Rw.chOwn {i : Nat} {xs xs' : Oc} {ys : HO} {a : Addr} (r : Rw G0 H0 G H σ δ ts) (hi : δ[i]? = some (.own xs)) (ha : σ[i]? = some (some (.ref a))) (d : OcOk G a xs' ys) : Rw G0 H0 G (upd H a ys) σ (δ.set i (.own xs')) ts := by
  obtain ⟨a',ys0,k1,k2,k3,k4,k5⟩:=r.own i xs hi
  rw [ha] at k1; cases k1
  have hlt : i < δ.length:=(List.getElem?_eq_some_iff.mp hi).1
  have hl:=r.len
  refine ⟨r.ext,r.new,fun b o h => ?_,fun b o h => ?_,by simp [hl],fun j y h => ?_,fun j zs h => ?_,fun j l us ws hjl h1 h2 => ?_,r.tmp⟩
  · rw [upd_ne (fun z => by subst z; rw [k2] at h; cases h)]; exact r.ins _ _ h
  · rw [upd_ne (fun z => by subst z; rw [k3] at h; cases h)]; exact r.keep _ _ h
  · by_cases hj : i = j
    · subst hj; rw [List.getElem?_set_self hlt] at h; cases h
    · rw [List.getElem?_set_ne hj] at h; exact r.dat j y h
  · by_cases hj : i = j
    · subst hj; rw [List.getElem?_set_self hlt] at h; cases h
      exact ⟨a,ys,ha,k2,k3,upd_same,d⟩
    · rw [List.getElem?_set_ne hj] at h
      obtain ⟨b,us,m1,m2,m3,m4,m5⟩:=r.own j zs h
      have nb : b≠a:=fun z => by subst z; exact r.apart i j xs zs hj hi h (by rw [ha,m1])
      exact ⟨b,us,m1,m2,m3,by rw [upd_ne nb]; exact m4,m5⟩
  · have f : ∀ (j : Nat) (us : Oc),(δ.set i (.own xs'))[j]? = some (L.own us)→∃ us',δ[j]? = some (L.own us'):=fun j us h => by
      by_cases hj : i = j
      · subst hj; exact ⟨xs,hi⟩
      · rw [List.getElem?_set_ne hj] at h; exact ⟨us,h⟩
    obtain ⟨us',h1⟩:=f j us h1
    obtain ⟨ws',h2⟩:=f l ws h2
    exact r.apart j l us' ws' hjl h1 h2
end
section
variable {X : Cx} {a b e : Expr} {es : List Expr} {f h : Dv→Option PyData} {fs : Dv→Option (List PyData)}  {pos p : Pos} {st : Stmt}  {F : DF}
theorem ds_frz (i : Nat) (h1 : DS X st F) : DS X st (fun δ => F (frz i δ)) := by
  obtain ⟨t,p,k⟩:=h1
  refine ⟨t,p,fun δ r h G0 H0 G H σ D R q => ?_⟩
  obtain ⟨G',R'⟩:=R.frz i
  exact k _ r h G0 H0 G' H σ D R' q
theorem ds_own {i : Nat} {x : Str} {pos' lp : Pos} (hN : X.N.Nodup) (hi : X.N[i]? = some x) (hx : Loc X.env.scope x) (ha : DA X es fs) (hs : swapsWith (.List es lp) (some (.Name x pos')) pos.line X.env = pure false := by rfl) (hf : X.fn x = true∨X.env.scope.names.lookup x = some .local := by first | exact .inl rfl | exact .inr rfl | assumption) :
    DS X (.Assign [.Name x pos'] (.List es lp) pos) (fun δ => ((fs δ).bind few).map fun ys => .nx (δ.set i (.own (.lst ys)))) := by
  obtain ⟨t,p,k⟩:=ha
  refine ⟨_,ps_set hN hi hx (pe_lst p) hs hf,fun δ r h G0 H0 G H σ D R q => ?_⟩
  obtain ⟨y,h1,rfl⟩:=Option.map_eq_some_iff.mp h
  obtain ⟨xs,h2,h3⟩:=Option.bind_eq_some_iff.mp h1
  obtain ⟨rfl,hl⟩:=few_eq h3
  refine k δ _ h2 G0 H0 G H σ [] _ R fun vs G1 H1 R1 hv => ?_
  obtain ⟨d,R2⟩:=R1.args hv
  exact ⟨dMax_le (by rw [hv]; exact hl),fun l hl' => q _ _ _ (R2.setOwn ⟨_,rfl,d⟩ hl')⟩
def ow (i : Nat) (δ : Dv) : Option (List PyData):=match δ[i]? with
  | some (.own (.lst xs)) => some xs
  | _ => none
theorem ow_eq {i : Nat} {δ : Dv} {xs : List PyData} (h : ow i δ = some xs) : δ[i]? = some (.own (.lst xs)) := by
  unfold ow at h
  split at h
  · rename_i y e; cases h; exact e
  · cases h
theorem ds_append {i : Nat} {x : Str} {np ap cp : Pos} (hv : PE X (.Name x np) (tVar i)) (he : DE X e f)
    (hP : ∀ {to : TE} {t : TA},PE X (.Name x np) to→PA X [e] t→PS X (.Expr (.Call (.Attribute (.Name x np) "append" ap) [e] [] cp) pos) (tDrop (tBM X.K "list" rAppend to t))) (hs1 : starEach [e] X.env = (false,eval e X.env) :: starEach [] X.env := by rfl) :
    DS X (.Expr (.Call (.Attribute (.Name x np) "append" ap) [e] [] cp) pos) (fun δ => (f δ).bind fun y => (ow i δ).bind fun xs => if xs.length < dMax then some (.nx (δ.set i (.own (.lst (xs ++ [y]))))) else none) := by
  obtain ⟨t,p,k⟩:=he
  refine ⟨_,hP hv (pa_cons p pa_nil hs1),fun δ r h G0 H0 G H σ D R q => ?_⟩
  obtain ⟨y,h1,h2⟩:=Option.bind_eq_some_iff.mp h
  obtain ⟨xs,h3,h4⟩:=Option.bind_eq_some_iff.mp h2
  split at h4
  · rename_i hl
    cases h4
    have hi:=ow_eq h3
    obtain ⟨a,_,k1,k2,k3,k4,⟨ys,rfl,k5⟩⟩:=R.own i _ hi
    refine ⟨.ref a,k1,.inl ⟨rfl,ys,SqL.of k4⟩,?_⟩
    refine k δ y h1 G0 H0 G H σ [] _ R fun u G1 H1 R1 => ?_
    obtain ⟨a',_,m1,m2,m3,m4,⟨zs,rfl,m5⟩⟩:=R1.own i _ hi
    rw [k1] at m1; cases m1
    refine ⟨a,zs,u,rfl,rfl,m4,dMax_lt (by rw [m5.len]; lia),?_⟩
    exact q _ _ _ (R1.drop.chOwn hi k1 ⟨_,rfl,m5.app (.cons (R1.tmp _ (.head _)) .nil)⟩)
  · cases h4
theorem ds_extend {i : Nat} {x : Str} {np ap cp : Pos} (hv : PE X (.Name x np) (tVar i)) (he : DE X e f)
    (hP : ∀ {to : TE} {t : TA},PE X (.Name x np) to→PA X [e] t→PS X (.Expr (.Call (.Attribute (.Name x np) "extend" ap) [e] [] cp) pos) (tDrop (tBM X.K "list" rExtend to t))) (hs1 : starEach [e] X.env = (false,eval e X.env) :: starEach [] X.env := by rfl) :
    DS X (.Expr (.Call (.Attribute (.Name x np) "extend" ap) [e] [] cp) pos) (fun δ => (f δ).bind fun y => (ow i δ).bind fun xs => match y with | .list zs => (if xs.length + zs.length≤dMax then some (.nx (δ.set i (.own (.lst (xs ++ zs))))) else none) | _ => none) := by
  obtain ⟨t,p,k⟩:=he
  refine ⟨_,hP hv (pa_cons p pa_nil hs1),fun δ r h G0 H0 G H σ D R q => ?_⟩
  obtain ⟨y,h1,h2⟩:=Option.bind_eq_some_iff.mp h
  obtain ⟨xs,h3,h4⟩:=Option.bind_eq_some_iff.mp h2
  split at h4
  · rename_i zs
    split at h4
    · rename_i hl
      cases h4
      have hi:=ow_eq h3
      obtain ⟨a,_,k1,k2,k3,k4,⟨ys,rfl,k5⟩⟩:=R.own i _ hi
      refine ⟨.ref a,k1,.inl ⟨rfl,ys,SqL.of k4⟩,?_⟩
      refine k δ _ h1 G0 H0 G H σ [] _ R fun u G1 H1 R1 => ?_
      obtain ⟨a',_,m1,m2,m3,m4,⟨us,rfl,m5⟩⟩:=R1.own i _ hi
      rw [k1] at m1; cases m1
      have du:=R1.tmp _ (.head _)
      rw [Du] at du
      obtain ⟨b,ws,rfl,n1,n2⟩:=du
      refine ⟨a,b,us,ws,rfl,rfl,m4,R1.ins _ _ n1,dMax_le (by rw [m5.len,n2.len]; exact hl),?_⟩
      exact q _ _ _ (R1.drop.chOwn hi k1 ⟨_,rfl,m5.app n2⟩)
    · cases h4
  · cases h4
end
structure ItOk (J : It) (xs : List PyData) (G : Hp) : Prop where
  stop : ∀ H,Same G H→J.stop xs.length H
  go : ∀ (i : Nat) (d : PyData) H,xs[i]? = some d→Same G H→J.go i H
  yld : ∀ (i : Nat) (d : PyData) H x H',xs[i]? = some d→Same G H→J.yld i H x H'→∀ Gc,Same G Gc→Same Gc H→∃ Gc',Same Gc Gc'∧Nw Gc H Gc'∧Same Gc' H'∧Same H H'∧Du Gc' d x
theorem Nw.refl {G H : Hp} : Nw G H G:=fun _ _ h => .inl h
theorem it_list {K : PySem.W.Frag} {G : Hp} {a : Addr} {ys : List V} {xs : List PyData} (ha : G a = some (.lst ys)) (d : DuA G xs ys) : ItOk (Itl K a) xs G where
  stop:=fun H e => ⟨ys,SqL.of (e _ _ ha),by rw [d.len]; exact Nat.le_refl _⟩
  go:=fun i x H hx e => by
    obtain ⟨v,h1,_⟩:=d.get hx
    exact ⟨ys,v,SqL.of (e _ _ ha),h1⟩
  yld:=fun i x H v H' hx e y Gc e1 e2 => by
    obtain ⟨rfl,y⟩:=y
    have h1:=y ys (SqL.of (e _ _ ha))
    obtain ⟨x',h2,h3⟩:=d.back h1
    rw [hx] at h2; cases h2
    exact ⟨Gc,Same.refl _,Nw.refl,e2,Same.refl _,h3.same e1⟩
theorem it_tup {K : PySem.W.Frag} {G : Hp} {a : Addr} {ys : List V} {xs : List PyData} (ha : G a = some (.tup ys)) (d : DuA G xs ys) : ItOk (Itt K a) xs G where
  stop:=fun H e => ⟨ys,SqT.of (e _ _ ha),by rw [d.len]; exact Nat.le_refl _⟩
  go:=fun i x H hx e => by
    obtain ⟨v,h1,_⟩:=d.get hx
    exact ⟨ys,v,SqT.of (e _ _ ha),h1⟩
  yld:=fun i x H v H' hx e y Gc e1 e2 => by
    obtain ⟨rfl,y⟩:=y
    have h1:=y ys (SqT.of (e _ _ ha))
    obtain ⟨x',h2,h3⟩:=d.back h1
    rw [hx] at h2; cases h2
    exact ⟨Gc,Same.refl _,Nw.refl,e2,Same.refl _,h3.same e1⟩
def rngD (lo : Int) (n : Nat) : List PyData:=(List.range n).map fun k => .int (lo + (k : Nat))
theorem it_rng {G : Hp} {lo : Int} {n : Nat} : ItOk (Itr lo n) (rngD lo n) G where
  stop:=fun H e => by show n≤_; simp [rngD]
  go:=fun i x H hx e => by
    have:=(List.getElem?_eq_some_iff.mp hx).1
    show i < n
    simpa [rngD] using this
  yld:=fun i x H v H' hx e y Gc e1 e2 => by
    obtain ⟨rfl,rfl⟩:=y
    unfold rngD at hx
    rw [List.getElem?_map] at hx
    obtain ⟨k,h1,rfl⟩:=Option.map_eq_some_iff.mp hx
    have hk : k = i := by
      have:=(List.getElem?_eq_some_iff.mp h1).1
      rw [List.getElem?_range (by simpa using this)] at h1
      cases h1; rfl
    subst hk
    exact ⟨Gc,Same.refl _,Nw.refl,e2,Same.refl _,by rw [Du]⟩
theorem pair_new {Gc H : Hp} {p : Addr} {d1 d2 : PyData} {v1 v2 : V} (e2 : Same Gc H) (hp : H p = none) (h1 : Du Gc d1 v1) (h2 : Du Gc d2 v2) :
    ∃ Gc',Same Gc Gc'∧Nw Gc H Gc'∧Same Gc' (upd H p (.tup [v1,v2]))∧Same H (upd H p (.tup [v1,v2]))∧Du Gc' (.tuple [d1,d2]) (.ref p) := by
  have hG : Gc p = none := by
    cases q : Gc p with
    | none => rfl
    | some u => rw [e2 _ _ q] at hp; cases hp
  have e : Same Gc (upd Gc p (.tup [v1,v2])):=same_new hG _
  refine ⟨upd Gc p (.tup [v1,v2]),e,fun a o h => ?_,fun a o h => ?_,same_new hp _,?_⟩
  · by_cases ha : a = p
    · subst ha; exact .inr (.inl hp)
    · rw [upd_ne ha] at h; exact .inl h
  · by_cases ha : a = p
    · subst ha; rw [upd_same] at h ⊢; exact h
    · rw [upd_ne ha] at h ⊢; exact e2 _ _ h
  · rw [Du]; exact ⟨p,[v1,v2],rfl,upd_same,.cons (h1.same e) (.cons (h2.same e) .nil)⟩
def enumD (xs : List PyData) : List PyData:=xs.zipIdx.map fun q => .tuple [.int (q.2 : Nat),q.1]
theorem enumD_get {xs : List PyData} {i : Nat} {d : PyData} (h : (enumD xs)[i]? = some d) : ∃ x,xs[i]? = some x∧d = .tuple [.int (i : Nat),x] := by
  unfold enumD at h
  rw [List.getElem?_map] at h
  obtain ⟨q,h1,rfl⟩:=Option.map_eq_some_iff.mp h
  rw [List.getElem?_zipIdx] at h1
  obtain ⟨x,h2,rfl⟩:=Option.map_eq_some_iff.mp h1
  exact ⟨x,h2,by simp⟩
theorem it_enumT {K : PySem.W.Frag} {G : Hp} {a : Addr} {ys : List V} {xs : List PyData} (ha : G a = some (.tup ys)) (d : DuA G xs ys) : ItOk (Ite K a) (enumD xs) G where
  stop:=fun H e => ⟨ys,SqT.of (e _ _ ha),by rw [d.len]; simp [enumD]⟩
  go:=fun i x H hx e => by
    obtain ⟨x',h0,rfl⟩:=enumD_get hx
    obtain ⟨v,h1,_⟩:=d.get h0
    exact ⟨ys,v,SqT.of (e _ _ ha),h1⟩
  yld:=fun i x H v H' hx e y Gc e1 e2 => by
    obtain ⟨x',h0,rfl⟩:=enumD_get hx
    obtain ⟨p,u,rfl,hp,rfl,y⟩:=y
    have h1:=y ys (SqT.of (e _ _ ha))
    obtain ⟨x2,h2,h3⟩:=d.back h1
    rw [h0] at h2; cases h2
    exact pair_new e2 hp (by rw [Du]) (h3.same e1)
theorem it_enumL {K : PySem.W.Frag} {G : Hp} {a : Addr} {ys : List V} {xs : List PyData} (ha : G a = some (.lst ys)) (d : DuA G xs ys) : ItOk (ItE K a) (enumD xs) G where
  stop:=fun H e => ⟨ys,SqL.of (e _ _ ha),by rw [d.len]; simp [enumD]⟩
  go:=fun i x H hx e => by
    obtain ⟨x',h0,rfl⟩:=enumD_get hx
    obtain ⟨v,h1,_⟩:=d.get h0
    exact ⟨ys,v,SqL.of (e _ _ ha),h1⟩
  yld:=fun i x H v H' hx e y Gc e1 e2 => by
    obtain ⟨x',h0,rfl⟩:=enumD_get hx
    obtain ⟨p,u,rfl,hp,rfl,y⟩:=y
    have h1:=y ys (SqL.of (e _ _ ha))
    obtain ⟨x2,h2,h3⟩:=d.back h1
    rw [h0] at h2; cases h2
    exact pair_new e2 hp (by rw [Du]) (h3.same e1)
def DI (X : Cx) (tg iter : Expr) (f : Dv→Option (List PyData)) : Prop:=∃ wi,PI X tg iter wi∧∀ δ xs,f δ = some xs→∀ G0 H0 G H σ ts (R : It→Hp→Prop),Rw G0 H0 G H σ δ ts→(∀ J G' H',Rw G0 H0 G' H' σ δ ts→ItOk J xs G'→R J H')→wi σ H R
section
variable {X : Cx} {tg a b e : Expr}  {f g h : Dv→Option PyData} {fs : Dv→Option (List PyData)}  {pos p : Pos}  {sts : List Stmt} {F : DF}
theorem PI.or {wi wi' : TI} (h : PI X tg e wi) (h' : PI X tg e wi') : PI X tg e (fun σ H R => wi σ H R∨wi' σ H R):=fun pins s σ H R I q => by
  rcases q with q | q
  · exact h pins s σ H R I q
  · exact h' pins s σ H R I q
def seqOf : PyData→Option (List PyData)
  | .list xs => some xs
  | .tuple xs => some xs
  | _ => none
theorem di_seq (he : DE X e f) : DI X tg e (fun δ => (f δ).bind seqOf) := by
  obtain ⟨t,p,k⟩:=he
  refine ⟨_,(pi_list p).or (pi_tup p),fun δ xs h G0 H0 G H σ ts R R0 q => ?_⟩
  obtain ⟨x,h1,h2⟩:=Option.bind_eq_some_iff.mp h
  unfold seqOf at h2
  split at h2
  · cases h2
    left
    refine k δ _ h1 G0 H0 G H σ ts _ R0 fun v G' H' R' => ?_
    have du:=R'.tmp _ (.head _)
    rw [Du] at du
    obtain ⟨a,ys,rfl,n1,n2⟩:=du
    exact ⟨a,rfl,⟨ys,SqL.of (R'.ins _ _ n1)⟩,q _ _ _ R'.drop (it_list n1 n2)⟩
  · cases h2
    right
    refine k δ _ h1 G0 H0 G H σ ts _ R0 fun v G' H' R' => ?_
    have du:=R'.tmp _ (.head _)
    rw [Du] at du
    obtain ⟨a,ys,rfl,n1,n2⟩:=du
    exact ⟨a,rfl,⟨ys,SqT.of (R'.ins _ _ n1)⟩,q _ _ _ R'.drop (it_tup n1 n2)⟩
  · cases h2
def rng1 : List PyData→Option (List PyData)
  | [.int j] => if -1000000≤j∧j≤1000000 then some (rngD 0 j.toNat) else none
  | _ => none
def rng2 : List PyData→Option (List PyData)
  | [.int i,.int j] => if -1000000≤i∧i≤1000000∧-1000000≤j∧j≤1000000 then some (rngD i (j - i).toNat) else none
  | _ => none
theorem di_range1 (hg : Gl X "range") (hm : X.mg "range" = none) (ha : DA X [a] fs) (hs : starEach [a] X.env = [(false,eval a X.env)] := by rfl) : DI X tg (.Call (.Name "range" p) [a] [] pos) (fun δ => (fs δ).bind rng1) := by
  obtain ⟨t,p,k⟩:=ha
  refine ⟨_,pi_range1 hg hm p hs,fun δ xs h G0 H0 G H σ ts R R0 q => ?_⟩
  obtain ⟨x,h1,h2⟩:=Option.bind_eq_some_iff.mp h
  refine k δ _ h1 G0 H0 G H σ ts _ R0 fun vs G' H' R' hv => ?_
  obtain ⟨d,R2⟩:=R'.args hv
  unfold rng1 at h2
  split at h2
  · split at h2
    · cases h2
      obtain ⟨u,rfl,du⟩:=d.un1
      rw [Du] at du; subst du
      exact ⟨_,rfl,by lia,by lia,q _ _ _ R2 it_rng⟩
    · cases h2
  · cases h2
theorem di_range2 (hg : Gl X "range") (hm : X.mg "range" = none) (ha : DA X [a,b] fs) (hs : starEach [a,b] X.env = [(false,eval a X.env),(false,eval b X.env)] := by rfl) (hs2 : starEach [b] X.env = [(false,eval b X.env)] := by rfl) : DI X tg (.Call (.Name "range" p) [a,b] [] pos) (fun δ => (fs δ).bind rng2) := by
  obtain ⟨t,p,k⟩:=ha
  refine ⟨_,pi_range2 hg hm p hs hs2,fun δ xs h G0 H0 G H σ ts R R0 q => ?_⟩
  obtain ⟨x,h1,h2⟩:=Option.bind_eq_some_iff.mp h
  refine k δ _ h1 G0 H0 G H σ ts _ R0 fun vs G' H' R' hv => ?_
  obtain ⟨d,R2⟩:=R'.args hv
  unfold rng2 at h2
  split at h2
  · split at h2
    · cases h2
      obtain ⟨u,v,rfl,du,dv⟩:=d.un2
      rw [Du] at du dv; subst du dv
      exact ⟨_,_,rfl,⟨by lia,by lia,by lia,by lia⟩,q _ _ _ R2 it_rng⟩
    · cases h2
  · cases h2
def enum1 : List PyData→Option (List PyData)
  | [.list xs] => some (enumD xs)
  | [.tuple xs] => some (enumD xs)
  | _ => none
theorem di_enum {elts : List Expr} {x1} {tpos : Pos} (hg : Gl X "enumerate") (hm : X.mg "enumerate" = none) (ha : DA X [a] fs) (hs : starEach [a] X.env = [(false,eval a X.env)] := by rfl) : DI X (.Tuple elts x1 tpos) (.Call (.Name "enumerate" p) [a] [] pos) (fun δ => (fs δ).bind enum1) := by
  obtain ⟨t,p,k⟩:=ha
  refine ⟨_,(pi_enumL hg hm p hs).or (pi_enum hg hm p hs),fun δ xs h G0 H0 G H σ ts R R0 q => ?_⟩
  obtain ⟨x,h1,h2⟩:=Option.bind_eq_some_iff.mp h
  unfold enum1 at h2
  split at h2
  · cases h2
    left
    refine k δ _ h1 G0 H0 G H σ ts _ R0 fun vs G' H' R' hv => ?_
    obtain ⟨d,R2⟩:=R'.args hv
    obtain ⟨u,rfl,du⟩:=d.un1
    rw [Du] at du
    obtain ⟨a,ys,rfl,n1,n2⟩:=du
    exact ⟨a,rfl,⟨ys,SqL.of (R2.ins _ _ n1)⟩,q _ _ _ R2 (it_enumL n1 n2)⟩
  · cases h2
    right
    refine k δ _ h1 G0 H0 G H σ ts _ R0 fun vs G' H' R' hv => ?_
    obtain ⟨d,R2⟩:=R'.args hv
    obtain ⟨u,rfl,du⟩:=d.un1
    rw [Du] at du
    obtain ⟨a,ys,rfl,n1,n2⟩:=du
    exact ⟨a,rfl,⟨ys,SqT.of (R2.ins _ _ n1)⟩,q _ _ _ R2 (it_enumT n1 n2)⟩
  · cases h2
theorem seq_at {G : Hp} {x : PyData} {v : V} {xs : List PyData} (h : Du G x v) (e : seqOf x = some xs) : ∃ (b : Bool) (a : Addr) (ys : List V),v = .ref a∧G a = some (if b then .tup ys else .lst ys)∧DuA G xs ys := by
  unfold seqOf at e
  split at e
  · cases e
    rw [Du] at h
    obtain ⟨a,ys,rfl,n1,n2⟩:=h
    exact ⟨false,a,ys,rfl,n1,n2⟩
  · cases e
    rw [Du] at h
    obtain ⟨a,ys,rfl,n1,n2⟩:=h
    exact ⟨true,a,ys,rfl,n1,n2⟩
  · cases e
def DG (X : Cx) (tg : Expr) (set : PyData→Dv→Option Dv) : Prop:=∃ g,PG X tg g∧∀ δ x δ',set x δ = some δ'→∀ G0 H0 G H σ v (Q : St→Hp→Prop),Rw G0 H0 G H σ δ [(x,v)]→(∀ σ' G' H',Rw G0 H0 G' H' σ' δ' []→Q σ' H')→g v σ H Q
theorem dg_name {i : Nat} {x : Str} (h : PG X (.Name x pos) (gName i)) : DG X (.Name x pos) (fun y δ => some (δ.set i (.d y))) :=
  ⟨_,h,fun δ y δ' e G0 H0 G H σ v Q R k => by cases e; exact k _ _ _ R.setD⟩
def set2 (i j : Nat) (y : PyData) (δ : Dv) : Option Dv:=match y with
  | .tuple [u,v] => some ((δ.set i (.d u)).set j (.d v))
  | _ => none
theorem dg_two {x y : Str} {i j : Nat} {px py : Pos} {k1} (h : PG X (.Tuple [.Name x px,.Name y py] k1 pos) (gTup X.K 2 (gCons (gName i) (gCons (gName j) gNil)))) : DG X (.Tuple [.Name x px,.Name y py] k1 pos) (set2 i j) := by
  refine ⟨_,h,fun δ z δ' e G0 H0 G H σ v Q R k => ?_⟩
  unfold set2 at e
  split at e
  · cases e
    have du:=R.tmp _ (.head _)
    rw [Du] at du
    obtain ⟨a,ys,rfl,n1,n2⟩:=du
    obtain ⟨w1,w2,rfl,m1,m2⟩:=n2.un2
    refine ⟨a,[w1,w2],rfl,SqT.of (R.ins _ _ n1),rfl,w1,[w2],rfl,w2,[],rfl,rfl,?_⟩
    exact k _ _ _ (((R.drop.put m2).put m1).setD.setD)
  · cases e
def forD (set : PyData→Dv→Option Dv) (body : DF) : List PyData→Dv→Option Ou
  | [],δ => some (.nx δ)
  | x :: xs,δ => match (set x δ).bind body with
    | some (.nx δ') => forD set body xs δ'
    | some (.ct δ') => forD set body xs δ'
    | some (.bk δ') => some (.nx δ')
    | some (.rt v) => some (.rt v)
    | some (.rn v) => some (.rn v)
    | none => none
theorem ds_for {set : PyData→Dv→Option Dv} (hp : PassesOwn (model X.prog X.w) X.A X.env X.xe) (hc : X.calm = true) (hi : DI X tg e fs) (hg : DG X tg set) (hb : DSs X sts F) (hs : ∀ x,foldedSetIterable e X.env x = pure x := by intro _; rfl) :
    DS X (.For tg e sts [] pos) (fun δ => (fs δ).bind fun xs => forD set F xs δ) := by
  obtain ⟨wi,pi,ki⟩:=hi
  obtain ⟨g,pg,kg⟩:=hg
  obtain ⟨tb,pb,kb⟩:=hb
  refine ⟨_,ps_for hp hc pi pg pb hs,fun δ r h G0 H0 G H σ D R q => ?_⟩
  obtain ⟨xs,h1,h2⟩:=Option.bind_eq_some_iff.mp h
  refine ki δ xs h1 G0 H0 G H σ [] _ R fun J Ga Ha Ra it => ?_
  refine ⟨fun i m σ' H' => m = xs.length - i∧i≤xs.length∧∃ δ' G',forD set F (xs.drop i) δ' = some r∧Rw G0 H0 G' H' σ' δ' []∧Same Ga G',⟨xs.length,by simp,Nat.zero_le _,δ,Ga,by simpa using h2,Ra,Same.refl _⟩,?_⟩
  rintro i m σ1 H1 ⟨rfl,hi,δ1,G1,f1,R1,s1⟩
  have sH : Same Ga H1:=s1.trans R1.ins
  by_cases hlt : i < xs.length
  · right
    have hx : xs[i]? = some xs[i] := by simp [hlt]
    refine ⟨it.go i _ H1 hx sH,fun σ' H' => i + 1≤xs.length∧∃ δ' G',forD set F (xs.drop (i + 1)) δ' = some r∧Rw G0 H0 G' H' σ' δ' []∧Same Ga G',fun σ' H' n => ⟨xs.length - (i + 1),by lia,rfl,n⟩,fun x H' y => ?_⟩
    obtain ⟨G2,e1,e2,e3,e4,e5⟩:=it.yld i _ H1 x H' hx sH y G1 s1 R1.ins
    have R2:=(R1.lift e1 e2 e3 e4).put e5
    have s2:=s1.trans e1
    rw [List.drop_eq_getElem_cons hlt] at f1
    unfold forD at f1
    cases hb2 : (set xs[i] δ1).bind F with
    | none => rw [hb2] at f1; cases f1
    | some o =>
      obtain ⟨δ2,k1,k2⟩:=Option.bind_eq_some_iff.mp hb2
      rw [hb2] at f1
      have R2b:=R2.base
      refine kg δ1 _ δ2 k1 G2 H0 G2 H' σ1 x _ R2b fun σ3 G3 H3 R3 => ?_
      refine kb δ2 o k2 G2 H0 G3 H3 σ3 _ R3 ?_
      cases o with
      | nx δ3 => exact fun σ4 G4 H4 R4 => ⟨hlt,δ3,G4,f1,R2.drop.unbase R4,s2.trans R4.ext⟩
      | ct δ3 => exact fun σ4 G4 H4 R4 => ⟨hlt,δ3,G4,f1,R2.drop.unbase R4,s2.trans R4.ext⟩
      | bk δ3 => cases f1; exact fun σ4 G4 H4 R4 => q σ4 G4 H4 (R2.drop.unbase R4)
      | rt v => cases f1; exact fun w G4 H4 h1 h2 h3 h4 h5 => q w G4 H4 (R2.ext.trans h1) (R2.new.trans h2) h3 h4 h5
      | rn v => cases f1; exact fun w ys G4 H4 h1 h2 => q w ys G4 H4 (R2.ext.trans h1) (R2.new.trans h2)
  · left
    have e : i = xs.length := by lia
    subst e
    refine ⟨it.stop H1 sH,?_⟩
    rw [List.drop_length] at f1
    unfold forD at f1
    cases f1
    exact q _ _ _ R1
end
def tD (f : Dv→Option PyData) : TE:=fun σ H Q => ∃ δ x G0 H0 G ts,f δ = some x∧Rw G0 H0 G H σ δ ts∧∀ v G' H',Rw G0 H0 G' H' σ δ ((x,v) :: ts)→Q v H'
def tDT (f : Dv→Option Bool) : TT:=fun σ H Q => ∃ δ x G0 H0 G ts,f δ = some x∧Rw G0 H0 G H σ δ ts∧∀ G' H',Rw G0 H0 G' H' σ δ ts→Q x H'
theorem DE.pe {X : Cx} {e : Expr} {f : Dv→Option PyData} (h : DE X e f) : PE X e (tD f) := by
  obtain ⟨t,p,k⟩:=h
  intro pins s σ H Q I q
  obtain ⟨δ,x,G0,H0,G,ts,h1,h2,h3⟩:=q
  exact p pins s σ H Q I (k δ x h1 G0 H0 G H σ ts Q h2 h3)
theorem DT.pt {X : Cx} {e : Expr} {f : Dv→Option Bool} (h : DT X e f) : PT X e (tDT f) := by
  obtain ⟨t,p,k⟩:=h
  intro pins s σ H Q I q
  obtain ⟨δ,x,G0,H0,G,ts,h1,h2,h3⟩:=q
  exact p pins s σ H Q I (k δ x h1 G0 H0 G H σ ts Q h2 h3)
def DIf (X : Cx) (ifs : List Expr) (f : Dv→Option Bool) : Prop:=PIf X ifs (tDT f)
theorem dif_nil {X : Cx} : DIf X [] (fun _ => some true) := by
  intro pins s σ H Q I q
  obtain ⟨δ,x,G0,H0,G,ts,h1,h2,h3⟩:=q
  cases h1
  exact pif_nil pins s σ H Q I (h3 _ _ h2)
theorem dif_one {X : Cx} {c : Expr} {f : Dv→Option Bool} (h : DT X c f) : DIf X [c] f:=pif_one h.pt
def carryD (fr : List (Option Nat)) (δ : Dv) : Dv:=fr.map fun o => match o with
  | some j => (match δ[j]? with | some (.d x) => .d x | _ => .no)
  | none => .no
theorem Rw.inner {G0 H0 G H : Hp} {σ : St} {δ : Dv} {ts : List (PyData×V)} (fr : List (Option Nat)) (r : Rw G0 H0 G H σ δ ts) : Rw G H G H (carry fr σ) (carryD fr δ) ts := by
  have key : ∀ (i : Nat) (l : L),(carryD fr δ)[i]? = some l→∃ o,fr[i]? = some o∧l = (match o with | some j => (match δ[j]? with | some (.d x) => .d x | _ => .no) | none => .no):=fun i l h => by
    unfold carryD at h
    rw [List.getElem?_map] at h
    obtain ⟨o,h1,rfl⟩:=Option.map_eq_some_iff.mp h
    exact ⟨o,h1,rfl⟩
  have noown : ∀ (i : Nat) (xs : Oc),(carryD fr δ)[i]?≠some (L.own xs):=fun i xs h => by
    obtain ⟨o,_,h2⟩:=key i _ h
    split at h2
    · split at h2 <;> cases h2
    · cases h2
  refine ⟨Same.refl _,Nw.refl,r.ins,Same.refl _,by simp [carry,carryD],fun i x h => ?_,fun i xs h => absurd h (noown i xs),fun i j xs ys _ h => absurd h (noown i xs),r.tmp⟩
  obtain ⟨o,h1,h2⟩:=key i _ h
  split at h2
  · rename_i j
    split at h2
    · rename_i y hy
      cases h2
      obtain ⟨v,k1,k2⟩:=r.dat j _ hy
      refine ⟨v,?_,k2⟩
      unfold carry
      rw [List.getElem?_map,h1]
      simp [k1]
    · cases h2
  · cases h2
theorem Rw.other {G0 H0 G H : Hp} {σ : St} {δ : Dv} {ts : List (PyData×V)} {D : Addr} {o : HO} (r : Rw G0 H0 G H σ δ ts) (hG : G D = none) (h0 : H0 D = none) (ho : ∀ (i : Nat) (xs : Oc),δ[i]? = some (L.own xs)→σ[i]?≠some (some (V.ref D))) : Rw G0 H0 G (upd H D o) σ δ ts := by
  refine ⟨r.ext,r.new,fun a u h => ?_,fun a u h => ?_,r.len,r.dat,fun i xs h => ?_,r.apart,r.tmp⟩
  · rw [upd_ne (fun z => by subst z; rw [hG] at h; cases h)]; exact r.ins _ _ h
  · rw [upd_ne (fun z => by subst z; rw [h0] at h; cases h)]; exact r.keep _ _ h
  · obtain ⟨a,ys,k1,k2,k3,k4,k5⟩:=r.own i xs h
    exact ⟨a,ys,k1,k2,k3,by rw [upd_ne (fun z => by subst z; exact ho i xs h k1)]; exact k4,k5⟩
theorem Rw.adopt {G0 H0 G H : Hp} {σ : St} {δ : Dv} {ts : List (PyData×V)} {D : Addr} {ys : List V} (r : Rw G0 H0 G H σ δ ts) (hD : H D = some (.lst ys)) (hG : G D = none) (h0 : H0 D = none) (ho : ∀ (i : Nat) (xs : Oc),δ[i]? = some (L.own xs)→σ[i]?≠some (some (V.ref D))) : Rw G0 H0 (upd G D (.lst ys)) H σ δ ts := by
  have e : Same G (upd G D (.lst ys)):=same_new hG _
  refine ⟨r.ext.trans e,fun a u h => ?_,fun a u h => ?_,r.keep,r.len,fun i x h => ?_,fun i xs h => ?_,r.apart,fun q hq => (r.tmp q hq).same e⟩
  · by_cases ha : a = D
    · subst ha; exact .inr (.inl h0)
    · rw [upd_ne ha] at h; exact r.new _ _ h
  · by_cases ha : a = D
    · subst ha; rw [upd_same] at h; rw [hD]; exact h
    · rw [upd_ne ha] at h; exact r.ins _ _ h
  · obtain ⟨v,k1,k2⟩:=r.dat i x h
    exact ⟨v,k1,k2.same e⟩
  · obtain ⟨a,zs,k1,k2,k3,k4,k5⟩:=r.own i xs h
    have ha : a≠D:=fun z => by subst z; exact ho i xs h k1
    exact ⟨a,zs,k1,by rw [upd_ne ha]; exact k2,k3,k4,k5.same e⟩
def oneD (set : PyData→Dv→Option Dv) (tif : Dv→Option Bool) (f : Dv→Option PyData) (δ : Dv) (x : PyData) : Option (Option PyData) :=
  (set x δ).bind fun δ1 => (tif δ1).bind fun b => if b = true then (f δ1).map some else some none
def collect (one : PyData→Option (Option PyData)) : List PyData→Option (List PyData)
  | [] => some []
  | x :: xs => (one x).bind fun o => (collect one xs).map fun r => o.toList ++ r
def compL (set : PyData→Dv→Option Dv) (tif : Dv→Option Bool) (f : Dv→Option PyData) (fr : List (Option Nat)) (fs : Dv→Option (List PyData)) (δ : Dv) : Option (List PyData) :=
  (fs δ).bind fun xs => (collect (oneD set tif f (carryD fr δ)) xs).bind few
def compD (set : PyData→Dv→Option Dv) (tif : Dv→Option Bool) (f : Dv→Option PyData) (fr : List (Option Nat)) (fs : Dv→Option (List PyData)) (δ : Dv) : Option PyData :=
  (compL set tif f fr fs δ).map .list
structure CompInv (G0 H0 Ga : Hp) (σ : St) (δ : Dv) (ts : List (PyData×V)) (one : PyData→Option (Option PyData)) (xs full : List PyData) (D : Addr) (i : Nat) (ys : List V) (H : Hp) : Prop where
  ex : ∃ G done rest,Rw G0 H0 G H σ δ ts∧Same Ga G∧G D = none∧collect one (xs.drop i) = some rest∧done ++ rest = full∧DuA G done ys
  h0 : H0 D = none
  ap : ∀ (j : Nat) (us : Oc),δ[j]? = some (L.own us)→σ[j]?≠some (some (V.ref D))
theorem notD {G0 H0 G H : Hp} {D : Addr} {ys : List V} (hG : G0 D = none) (hD : H0 D = some (.lst ys)) (n : Nw G0 H0 G) (e : Same G H) (k : Same H0 H) : G D = none := by
  cases q : G D with
  | none => rfl
  | some o =>
    rcases n _ _ q with z | z | ⟨us,z⟩
    · rw [hG] at z; cases z
    · rw [hD] at z; cases z
    · have:=e _ _ q
      rw [k _ _ hD,z] at this; cases this
section
variable {X : Cx} {elt iter : Expr} {x y : Str} {px pos : Pos}  {ifs : List Expr} {scope : Scope} {fs : Dv→Option (List PyData)} {tif : Dv→Option Bool} {f : Dv→Option PyData}
def set1 (i : Nat) (y : PyData) (δ : Dv) : Option Dv:=some (δ.set i (.d y))
theorem comp_readN {wi : TI} {ix : Nat} {fr : List (Option Nat)} (ki : ∀ (δ : Dv) (xs : List PyData),fs δ = some xs→∀ (G0 H0 G H : Hp) (σ : St) (ts : List (PyData×V)) (R : It→Hp→Prop),Rw G0 H0 G H σ δ ts→(∀ J G' H',Rw G0 H0 G' H' σ δ ts→ItOk J xs G'→R J H')→wi σ H R) {δ : Dv} {zs : List PyData} (hz : compL (set1 ix) tif f fr fs δ = some zs) {G0 H0 G H : Hp} {σ : St} {ts : List (PyData×V)} {Q : VK} (R0 : Rw G0 H0 G H σ δ ts) (k : ∀ D ys G' H',Rw G0 H0 G' H' σ δ ts→H' D = some (.lst ys)→G' D = none→H0 D = none→(∀ (j : Nat) (us : Oc),δ[j]? = some (L.own us)→σ[j]?≠some (some (V.ref D)))→DuA G' zs ys→Q (.ref D) H') :
    tComp wi fr ix (tDT tif) (tD f) σ H Q := by
  unfold compL at hz
  obtain ⟨xs,m2,m3⟩:=Option.bind_eq_some_iff.mp hz
  obtain ⟨full,m4,m5⟩:=Option.bind_eq_some_iff.mp m3
  obtain ⟨rfl,hfew⟩:=few_eq m5
  refine ki δ xs m2 G0 H0 G H σ ts _ R0 fun J Ga Ha Ra it D hD => ?_
  have hGD : Ga D = none := by
    cases q : Ga D with
    | none => rfl
    | some u => rw [Ra.ins _ _ q] at hD; cases hD
  have hHD : H0 D = none := by
    cases q : H0 D with
    | none => rfl
    | some u => rw [Ra.keep _ _ q] at hD; cases hD
  have hap : ∀ (j : Nat) (us : Oc),δ[j]? = some (L.own us)→σ[j]?≠some (some (V.ref D)):=fun j us h z => by
    obtain ⟨a,ys,k1,k2,k3,k4,k5⟩:=Ra.own j us h
    rw [z] at k1; cases k1
    rw [k4] at hD; cases hD
  refine comp_by (n:=xs.length) (CompInv G0 H0 Ga σ δ ts (oneD (set1 ix) tif f (carryD fr δ)) xs full D) ⟨⟨Ga,[],full,Ra.other hGD hHD hap,Same.refl _,hGD,by simpa using m4,rfl,.nil⟩,hHD,hap⟩ ?_ ?_
  · rintro i ys H1 hlt ⟨⟨G1,done,rest,R1,s1,g1,c1,e1,d1⟩,_,_⟩ hD1
    have hx : xs[i]? = some xs[i] := by simp [hlt]
    have sH:=s1.trans R1.ins
    have hyl : ys.length < sizeLine:=dMax_lt (by
      rw [d1.len]
      have : done.length≤full.length := by rw [← e1]; simp
      lia)
    refine ⟨it.go i _ H1 hx sH,hyl,fun v H' y => ?_⟩
    obtain ⟨G2,n1,n2,n3,n4,n5⟩:=it.yld i _ H1 v H' hx sH y G1 s1 R1.ins
    have R2:=R1.lift n1 n2 n3 n4
    have hD2:=n4 _ _ hD1
    have g2 : G2 D = none:=notD g1 hD1 n2 n3 n4
    rw [List.drop_eq_getElem_cons hlt] at c1
    unfold collect at c1
    obtain ⟨o,c2,c3⟩:=Option.bind_eq_some_iff.mp c1
    obtain ⟨rest',c4,rfl⟩:=Option.map_eq_some_iff.mp c3
    unfold oneD set1 at c2
    simp only [Option.bind_some] at c2
    obtain ⟨b,c5,c6⟩:=Option.bind_eq_some_iff.mp c2
    have Ri:=((R2.inner fr).put n5).setD (i:=ix)
    have Ri0 : Rw G2 H' G2 H' ((carry fr σ).set ix (some v)) ((carryD fr δ).set ix (.d xs[i])) []:=Ri.less fun q hq => by cases hq
    refine ⟨_,b,G2,H',G2,[],c5,Ri0,fun G3 H3 R3 => ?_⟩
    have R3o:=R2.lift R3.ext R3.new R3.ins R3.keep
    have hD3:=R3.keep _ _ hD2
    have g3 : G3 D = none:=notD g2 hD2 R3.new R3.ins R3.keep
    dsimp only
    split
    · rename_i hb
      rw [if_pos hb] at c6
      obtain ⟨w,c7,rfl⟩:=Option.map_eq_some_iff.mp c6
      refine ⟨_,w,G2,H',G3,[],c7,R3,fun u G4 H4 R4 => ?_⟩
      have R4o:=R2.lift R4.ext R4.new R4.ins R4.keep
      have hD4:=R4.keep _ _ hD2
      have g4 : G4 D = none:=notD g2 hD2 R4.new R4.ins R4.keep
      refine ⟨hD4,cw_next hlt ⟨⟨G4,done ++ [w],rest',R4o.other g4 hHD hap,s1.trans (n1.trans R4.ext),g4,c4,by simpa using e1,(d1.same (n1.trans R4.ext)).app (.cons (R4.tmp _ (.head _)) .nil)⟩,hHD,hap⟩⟩
    · rename_i hb
      rw [if_neg hb] at c6
      cases c6
      exact cw_skip hlt hD3 ⟨⟨G3,done,rest',R3o,s1.trans (n1.trans R3.ext),g3,c4,by simpa using e1,d1.same (n1.trans R3.ext)⟩,hHD,hap⟩
  · rintro ys H1 ⟨⟨G1,done,rest,R1,s1,g1,c1,e1,d1⟩,_,_⟩ hD1
    refine ⟨it.stop H1 (s1.trans R1.ins),?_⟩
    rw [List.drop_length] at c1
    cases c1
    rw [List.append_nil] at e1
    subst e1
    exact k _ _ _ _ R1 hD1 g1 hHD hap d1
theorem comp_read {wi : TI} {ix : Nat} {fr : List (Option Nat)} (ki : ∀ (δ : Dv) (xs : List PyData),fs δ = some xs→∀ (G0 H0 G H : Hp) (σ : St) (ts : List (PyData×V)) (R : It→Hp→Prop),Rw G0 H0 G H σ δ ts→(∀ J G' H',Rw G0 H0 G' H' σ δ ts→ItOk J xs G'→R J H')→wi σ H R) {δ : Dv} {z : PyData} (hz : compD (set1 ix) tif f fr fs δ = some z) {G0 H0 G H : Hp} {σ : St} {ts : List (PyData×V)} {Q : VK} (R0 : Rw G0 H0 G H σ δ ts) (k : ∀ v G' H',Rw G0 H0 G' H' σ δ ((z,v) :: ts)→Q v H') :
    tComp wi fr ix (tDT tif) (tD f) σ H Q := by
  unfold compD at hz
  obtain ⟨full,m1,rfl⟩:=Option.map_eq_some_iff.mp hz
  refine comp_readN ki m1 R0 fun D ys G1 H1 R1 hD1 g1 hHD hap d1 => ?_
  have e : Same G1 (upd G1 D (.lst ys)):=same_new g1 _
  have R2:=R1.adopt hD1 g1 hHD hap
  refine k _ _ _ (R2.put ?_)
  rw [Du]
  exact ⟨D,ys,rfl,upd_same,d1.same e⟩
theorem de_comp (N : List Str) (ix : Nat) (fr : List (Option Nat)) (hi : DI X (.Name x px) iter fs) (hif : ∀ cl C s₀ H₀ fp,DIf (cxComp X scope cl N C s₀ H₀ fp) ifs tif) (he : ∀ cl C s₀ H₀ fp,DE (cxComp X scope cl N C s₀ H₀ fp) elt f)
    (h1 : compScopeOk scope N x ix = true := by decide +kernel) (h2 : X.calm = true := by rfl) (h3 : frOk N X.N scope X.env.scope fr 0 = true := by rfl) (h4 : fr.length = N.length := by rfl) (h5 : freeOk X.env.scope scope.names = true := by rfl)
    (hs : ∀ x,foldedSetIterable iter X.env x = pure x := by intro _; rfl) : DE X (.ListComp elt [⟨.Name x px,iter,ifs,0⟩] scope pos) (compD (set1 ix) tif f fr fs) := by
  obtain ⟨wi,pi,ki⟩:=hi
  exact ⟨_,pe_compr N ix fr pi hif (fun cl C s₀ H₀ fp => (he cl C s₀ H₀ fp).pe) h1 h2 h3 h4 h5 hs,fun δ z hz G0 H0 G H σ ts Q R0 k => comp_read ki hz R0 k⟩
end
section
variable   {x y : Str}       
def iniD (N : List Str) (ds : List PyData) : Dv:=ds.map .d ++ List.replicate (N.length - ds.length) .no
def retD (ps N : List Str) (F : DF) (ds : List PyData) : Option PyData:=if ds.length = ps.length then (match F (iniD N ds) with
  | some (.rt x) => some x
  | some (.nx _) => some .none
  | some (.rn xs) => some (.list xs)
  | _ => none) else none
theorem Rw.start {N : List Str} {ds : List PyData} {vs : List V} {G H : Hp} (d : DuA G ds vs) (e : Same G H) : Rw G H G H (start N vs) (iniD N ds) [] := by
  have hl:=d.len
  refine ⟨Same.refl _,Nw.refl,e,Same.refl _,by simp [L2.start,iniD,hl],fun i x h => ?_,fun i xs h => ?_,fun i j xs ys _ h => ?_,fun q hq => by cases hq⟩
  · unfold iniD at h
    by_cases hi : i < ds.length
    · rw [List.getElem?_append_left (by simpa using hi),List.getElem?_map] at h
      obtain ⟨y,h1,h2⟩:=Option.map_eq_some_iff.mp h
      cases h2
      obtain ⟨v,h3,h4⟩:=d.get h1
      refine ⟨v,?_,h4⟩
      unfold L2.start
      rw [List.getElem?_append_left (by simp; lia),List.getElem?_map,h3]; rfl
    · rw [List.getElem?_append_right (by simpa using hi),List.getElem?_replicate] at h
      split at h <;> cases h
  · unfold iniD at h
    by_cases hi : i < ds.length
    · rw [List.getElem?_append_left (by simpa using hi),List.getElem?_map] at h
      obtain ⟨y,h1,h2⟩:=Option.map_eq_some_iff.mp h
      cases h2
    · rw [List.getElem?_append_right (by simpa using hi),List.getElem?_replicate] at h
      split at h <;> cases h
  · unfold iniD at h
    by_cases hi : i < ds.length
    · rw [List.getElem?_append_left (by simpa using hi),List.getElem?_map] at h
      obtain ⟨y,h1,h2⟩:=Option.map_eq_some_iff.mp h
      cases h2
    · rw [List.getElem?_append_right (by simpa using hi),List.getElem?_replicate] at h
      split at h <;> cases h
theorem keepL {G H G' H' : Hp} {a : Addr} {ys : List V} {xs : List PyData} (m1 : Same G G') (m2 : Nw G H G') (m3 : Same G' H') (m5 : H a = none) (m6 : G' a = none) (m7 : H' a = some (.lst ys)) (m8 : DuA G' xs ys) :
    Same G (upd G' a (.lst ys))∧Nw G H (upd G' a (.lst ys))∧Same (upd G' a (.lst ys)) H'∧Du (upd G' a (.lst ys)) (.list xs) (.ref a) := by
  refine ⟨m1.trans (same_new m6 _),fun b o hb => ?_,fun b o hb => ?_,?_⟩
  · by_cases z : b = a
    · subst z; exact .inr (.inl m5)
    · rw [upd_ne z] at hb; exact m2 _ _ hb
  · by_cases z : b = a
    · subst z; rw [upd_same] at hb; rw [m7]; exact hb
    · rw [upd_ne z] at hb; exact m3 _ _ hb
  · rw [Du]; exact ⟨a,ys,rfl,upd_same,m8.same (same_new m6 _)⟩
theorem okD {P : Program} {w : World} {K : PySem.W.Frag} {mg : Str→Option Value} {base : Heap} {x : Str} {st : Stmt} {fA : Addr} {fd : FuncData} {N ps : List Str} {k : Nat} {F : DF} (T : Fn K mg x st ps fA fd) (S : FnScope N ps (defScope st))
    (hb : ∀ (cdv : Value) (A : Around) (outer : List Env) (s : Shared) (H : Hp) (E : XK),Room k (A.deeper (envOfC x (defScope st) s.heap.objs.size fA cdv))→DSs (cxOf CX0 P w K mg base N x (defScope st) fA cdv A outer s H E).nox (defBody st) F) :
    FnOk P w K mg base CX0 (k + 1) fA fd ps (spD (retD ps N F)) := by
  refine T.F.ok S (fun vs H Q E h => ?_) fun cdv A outer s H vs Q E hr h => ?_
  · obtain ⟨ds,y,G,h1,h2,_⟩:=h
    unfold retD at h1
    split at h1
    · rename_i hl; rw [h2.len]; exact hl
    · cases h1
  · obtain ⟨ds,y,G,h1,h2,h3,h4⟩:=h
    obtain ⟨t,p,kk⟩:=hb cdv A outer s H E hr
    refine ⟨t,p,?_⟩
    unfold retD at h1
    split at h1
    · split at h1
      · rename_i z e1
        cases h1
        exact kk _ _ e1 G H G H _ _ (Rw.start h2 h3) fun v G' H' m1 m2 m3 m4 m5 => h4 v G' H' m1 m2 m3 m4 m5
      · rename_i δ e1
        cases h1
        exact kk _ _ e1 G H G H _ _ (Rw.start h2 h3) fun σ' G' H' R => h4 .non G' H' R.ext R.new R.ins R.keep (by rw [Du])
      · rename_i xs e1
        cases h1
        exact kk _ _ e1 G H G H _ _ (Rw.start h2 h3) fun a ys G' H' m1 m2 m3 m4 m5 m6 m7 m8 => let ⟨n1,n2,n3,n4⟩:=keepL m1 m2 m3 m5 m6 m7 m8; h4 _ _ H' n1 n2 n3 m4 n4
      · cases h1
    · cases h1
end
section
variable {X : Cx} {a b e : Expr}  {f h : Dv→Option PyData}   {pos p p2 : Pos}   
theorem de_globI {x : Str} {i : Int} {tk : Tok} (hg : Gl X x) (hm : X.mg x = some (.int i tk)) (hd : (x == ("__debug__" : Str)) = false := by decide) : DE X (.Name x pos) (fun _ => some (.int i)) :=
  ⟨_,pe_glob (v:=.int i) hg hm ⟨tk,rfl⟩ hd,fun δ x h G0 H0 G H σ ts Q r k => by cases h; exact k _ _ _ (r.put (by rw [Du]))⟩
def DO (X : Cx) (o : Option Expr) (f : Dv→Option (Option Int)) : Prop:=∃ t,PO X o t∧∀ δ x,f δ = some x→∀ G0 H0 G H σ ts (Q : Option Int→Hp→Prop),Rw G0 H0 G H σ δ ts→(∀ G' H',Rw G0 H0 G' H' σ δ ts→Q x H')→t σ H Q
variable {fo fu : Dv→Option (Option Int)} {lo hi : Option Expr}
theorem do_none : DO X none (fun _ => some none):=⟨_,po_none,fun δ x h G0 H0 G H σ ts Q r k => by cases h; exact k _ _ r⟩
theorem do_some (he : DE X e f) : DO X (some e) (fun δ => (f δ).bind fun x => (asI x).map some) := by
  obtain ⟨t,p,k⟩:=he
  refine ⟨_,po_some p,fun δ z h G0 H0 G H σ ts Q r q => ?_⟩
  obtain ⟨x,h1,h2⟩:=Option.bind_eq_some_iff.mp h
  obtain ⟨i,h3,rfl⟩:=Option.map_eq_some_iff.mp h2
  have:=asI_eq h3; subst this
  refine k δ _ h1 G0 H0 G H σ ts _ r fun v G' H' R' => ?_
  have hv:=R'.tmp _ (.head _)
  rw [Du] at hv
  exact ⟨i,hv,q _ _ R'.drop⟩
def cutD (xs : List PyData) (lo hi : Option Int) : List PyData:=(xs.drop (HT.sIx xs.length 0 lo)).take (HT.sIx xs.length xs.length hi - HT.sIx xs.length 0 lo)
theorem DuA.cut {H : Hp} {ds : List PyData} {xs : List V} (h : DuA H ds xs) (lo hi : Option Int) : DuA H (cutD ds lo hi) (cutV xs lo hi) := by
  unfold cutD cutV
  rw [h.len]
  exact (h.drop _).take _
def dCut (x : PyData) (lo hi : Option Int) : Option PyData:=match x with
  | .list xs => some (.list (cutD xs lo hi))
  | .tuple xs => if ¬ (HT.sIx xs.length 0 lo = 0∧HT.sIx xs.length xs.length hi = xs.length) then some (.tuple (cutD xs lo hi)) else none
  | _ => none
theorem de_slice (he : DE X e f) (hl : DO X lo fo) (hh : DO X hi fu) : DE X (.Subscript e (.Slice lo hi none p2) pos) (fun δ => (f δ).bind fun x => (fo δ).bind fun l => (fu δ).bind fun u => dCut x l u) := by
  obtain ⟨te,pe,ke⟩:=he
  obtain ⟨tl,pl,kl⟩:=hl
  obtain ⟨th,ph,kh⟩:=hh
  refine ⟨_,pe_slice (sl_list.or sl_tup) pe pl ph,fun δ z hz G0 H0 G H σ ts Q R0 k => ?_⟩
  obtain ⟨x,h1,h2⟩:=Option.bind_eq_some_iff.mp hz
  obtain ⟨l,h3,h4⟩:=Option.bind_eq_some_iff.mp h2
  obtain ⟨u,h5,h6⟩:=Option.bind_eq_some_iff.mp h4
  refine ke δ x h1 G0 H0 G H σ ts _ R0 fun v G1 H1 R1 => ?_
  refine kl δ l h3 G0 H0 G1 H1 σ _ _ R1 fun G2 H2 R2 => ?_
  refine kh δ u h5 G0 H0 G2 H2 σ _ _ R2 fun G3 H3 R3 => ?_
  have du:=R3.tmp _ (.head _)
  unfold dCut at h6
  split at h6
  · cases h6
    rw [Du] at du
    obtain ⟨a,ys,rfl,n1,n2⟩:=du
    exact .inl ⟨a,ys,rfl,SqL.of (R3.ins _ _ n1),fun q hq => k _ _ _ (R3.drop.newL (n2.cut l u) hq)⟩
  · split at h6
    · rename_i hc
      cases h6
      rw [Du] at du
      obtain ⟨a,ys,rfl,n1,n2⟩:=du
      exact .inr ⟨a,ys,rfl,SqT.of (R3.ins _ _ n1),by rw [n2.len]; exact hc,fun q hq => k _ _ _ (R3.drop.newT (n2.cut l u) hq)⟩
    · cases h6
  · cases h6
def dInt : List PyData→Option PyData
  | [.int i] => some (.int i)
  | [.bool b] => some (.int (if b then 1 else 0))
  | _ => none
theorem dc_int : DCall X (.type "int") dInt := by
  refine ⟨_,call_int1,fun xs z hz G0 H0 G H σ δ ts us Q R0 d k => ?_⟩
  unfold dInt at hz
  split at hz
  · cases hz
    obtain ⟨u,rfl,du⟩:=d.un1
    rw [Du] at du; subst du
    exact .inl ⟨_,rfl,k _ _ _ (R0.put (by rw [Du]))⟩
  · cases hz
    obtain ⟨u,rfl,du⟩:=d.un1
    rw [Du] at du; subst du
    exact .inr ⟨_,rfl,k _ _ _ (R0.put (by rw [Du]))⟩
  · cases hz
def dMaxI : List PyData→Option PyData
  | [.int i,.int j] => some (.int (if j > i then j else i))
  | _ => none
theorem dc_max (hc : X.calm = true) : DCall X (.builtin "max") dMaxI := by
  refine ⟨_,call_max2 hc,fun xs z hz G0 H0 G H σ δ ts us Q R0 d k => ?_⟩
  unfold dMaxI at hz
  split at hz
  · cases hz
    obtain ⟨u,v,rfl,du,dv⟩:=d.un2
    rw [Du] at du dv; subst du dv
    exact ⟨_,_,rfl,k _ _ _ (R0.put (by rw [Du]))⟩
  · cases hz
def dMinI : List PyData→Option PyData
  | [.int i,.int j] => some (.int (if j < i then j else i))
  | _ => none
theorem dc_min (hc : X.calm = true) : DCall X (.builtin "min") dMinI := by
  refine ⟨_,call_min2 hc,fun xs z hz G0 H0 G H σ δ ts us Q R0 d k => ?_⟩
  unfold dMinI at hz
  split at hz
  · cases hz
    obtain ⟨u,v,rfl,du,dv⟩:=d.un2
    rw [Du] at du dv; subst du dv
    exact ⟨_,_,rfl,k _ _ _ (R0.put (by rw [Du]))⟩
  · cases hz
end
open PySem
abbrev fC (x : PyData) : Dv→Option PyData:=fun _ => some x
abbrev fNeg (f : Dv→Option PyData) : Dv→Option PyData:=fun δ => (f δ).bind fun x => (asI x).map fun i => .int (-i)
abbrev fAnd (f g : Dv→Option PyData) : Dv→Option PyData:=fun δ => (f δ).bind fun x => (asB x).bind fun c => if c = true then g δ else some (.bool false)
abbrev fNil : Dv→Option (List PyData):=fun _ => some []
abbrev fCons (f : Dv→Option PyData) (fs : Dv→Option (List PyData)) : Dv→Option (List PyData):=fun δ => (f δ).bind fun x => (fs δ).map fun xs => x :: xs
abbrev fTup (fs : Dv→Option (List PyData)) : Dv→Option PyData:=fun δ => ((fs δ).bind few).map .tuple
abbrev fLst (fs : Dv→Option (List PyData)) : Dv→Option PyData:=fun δ => ((fs δ).bind few).map .list
abbrev fCall (m : List PyData→Option PyData) (fs : Dv→Option (List PyData)) : Dv→Option PyData:=fun δ => (fs δ).bind m
abbrev fIsi (q : PyData→Bool) (f : Dv→Option PyData) : Dv→Option PyData:=fun δ => (f δ).bind (isiD q)
abbrev oNone : Dv→Option (Option Int):=fun _ => some none
abbrev oSome (f : Dv→Option PyData) : Dv→Option (Option Int):=fun δ => (f δ).bind fun x => (asI x).map some
abbrev fCut (f : Dv→Option PyData) (fo fu : Dv→Option (Option Int)) : Dv→Option PyData:=fun δ => (f δ).bind fun x => (fo δ).bind fun l => (fu δ).bind fun u => dCut x l u
abbrev bVal (f : Dv→Option PyData) : Dv→Option Bool:=fun δ => (f δ).bind asB
abbrev bCmp (o : PyData→PyData→Option PyData) (f g : Dv→Option PyData) : Dv→Option Bool:=fun δ => (op2 o f g δ).bind asB
abbrev bNot (f : Dv→Option Bool) : Dv→Option Bool:=fun δ => (f δ).map fun c => !c
abbrev bAnd (f g : Dv→Option Bool) : Dv→Option Bool:=fun δ => (f δ).bind fun c => if c = true then g δ else some false
abbrev bOr (f g : Dv→Option Bool) : Dv→Option Bool:=fun δ => (f δ).bind fun c => if c = true then some true else g δ
abbrev iSeq (f : Dv→Option PyData) : Dv→Option (List PyData):=fun δ => (f δ).bind seqOf
abbrev iCall (m : List PyData→Option (List PyData)) (fs : Dv→Option (List PyData)) : Dv→Option (List PyData):=fun δ => (fs δ).bind m
abbrev bYes : Dv→Option Bool:=fun _ => some true
abbrev setN (i : Nat) : PyData→Dv→Option Dv:=fun y δ => some (δ.set i (.d y))
abbrev sNext : DF:=fun δ => some (.nx δ)
abbrev sRet (f : Dv→Option PyData) : DF:=fun δ => (f δ).map .rt
abbrev sIf (c : Dv→Option Bool) (F G : DF) : DF:=fun δ => (c δ).bind fun c => if c = true then F δ else G δ
abbrev sSet (i : Nat) (f : Dv→Option PyData) : DF:=fun δ => (f δ).map fun y => .nx (δ.set i (.d y))
abbrev sOwn (i : Nat) (fs : Dv→Option (List PyData)) : DF:=fun δ => ((fs δ).bind few).map fun ys => .nx (δ.set i (.own (.lst ys)))
abbrev sApp (i : Nat) (f : Dv→Option PyData) : DF:=fun δ => (f δ).bind fun y => (ow i δ).bind fun xs => if xs.length < dMax then some (.nx (δ.set i (.own (.lst (xs ++ [y]))))) else none
abbrev sExt (i : Nat) (f : Dv→Option PyData) : DF:=fun δ => (f δ).bind fun y => (ow i δ).bind fun xs => match y with | .list zs => (if xs.length + zs.length≤dMax then some (.nx (δ.set i (.own (.lst (xs ++ zs))))) else none) | _ => none
abbrev sFor (fs : Dv→Option (List PyData)) (set : PyData→Dv→Option Dv) (F : DF) : DF:=fun δ => (fs δ).bind fun xs => forD set F xs δ
abbrev sFrz (i : Nat) (F : DF) : DF:=fun δ => F (frz i δ)
abbrev sNever : DF:=fun _ => none
abbrev sCont : DF:=fun δ => some (.ct δ)
theorem never_okD {P : Program} {w : World} {K : PySem.W.Frag} {mg : Str→Option Value} {base : Heap} {CX : CXT} {k : Nat} {f : Addr} {fd : FuncData} {ps : List Str} {sp : Sp} (h : ∀ vs H Q E,¬ sp vs H Q E) : FnOk P w K mg base CX k f fd ps sp :=
  ⟨fun _ _ _ _ z => (h _ _ _ _ z).elim,fun _ _ _ _ _ _ _ _ _ _ _ _ _ z => (h _ _ _ _ z).elim⟩
theorem spD_imp {P : Program} {w : World} {K : PySem.W.Frag} {mg : Str→Option Value} {base : Heap} {CX : CXT} {k : Nat} {f : Addr} {fd : FuncData} {ps : List Str} {sp : Sp} {m : List PyData→Option PyData} (F : FnOk P w K mg base CX k f fd ps sp)
    (h : ∀ ds x,m ds = some x→∀ (G H : Hp) (vs : List V) (Q : VK) (E : XK),DuA G ds vs→Same G H→(∀ v G' H',Same G G'→Nw G H G'→Same G' H'→Same H H'→Du G' x v→Q v H')→sp vs H Q E) : FnOk P w K mg base CX k f fd ps (spD m) :=
  F.imp fun vs H Q E z => by
    obtain ⟨ds,x,G,h1,h2,h3,h4⟩:=z
    exact h ds x h1 G H vs Q E h2 h3 h4
def tups (G H : Hp) : Hp:=fun a => match H a with
  | some (.tup xs) => some (.tup xs)
  | _ => G a
theorem tups_tup {G H : Hp} {a : Addr} {xs : List V} (h : H a = some (.tup xs)) : tups G H a = some (.tup xs) := by unfold tups; rw [h]
section
variable {G0 H0 G H : Hp} {σ : St} {δ : Dv} {ts : List (PyData×V)}
theorem Rw.tups (r : Rw G0 H0 G H σ δ ts) : Rw G0 H0 (L2.tups G H) H σ δ ts := by
  have e : Same G (L2.tups G H):=fun a o h => by
    unfold L2.tups
    split
    · rename_i xs hx; rw [r.ins _ _ h] at hx; exact hx.symm ▸ rfl
    · exact h
  refine ⟨r.ext.trans e,fun a o h => ?_,fun a o h => ?_,r.keep,r.len,fun i x h => ?_,fun i xs h => ?_,r.apart,fun q hq => (r.tmp q hq).same e⟩
  · unfold L2.tups at h
    split at h
    · cases h; exact .inr (.inr ⟨_,rfl⟩)
    · exact r.new _ _ h
  · unfold L2.tups at h
    split at h
    · rename_i xs hx; rw [hx]; exact h
    · exact r.ins _ _ h
  · obtain ⟨v,k1,k2⟩:=r.dat i x h
    exact ⟨v,k1,k2.same e⟩
  · obtain ⟨a,ys,k1,k2,k3,k4,k5⟩:=r.own i xs h
    refine ⟨a,ys,k1,?_,k3,k4,k5.same e⟩
    unfold L2.tups
    rw [k4]
    split
    · rename_i q; cases q; exact k5.ntup.elim
    · exact k2
end
theorem du_row {G : Hp} : ∀ {t : Tr} {xs : List V},DuA G (rowD t) xs→Ts G t xs
  | .nil,xs,h => by rw [rowD] at h; rw [Ts]; exact h.nil_eq
  | .cons b r,xs,h => by
    rw [rowD] at h
    obtain ⟨x,q,rfl,h1,h2⟩:=h.un
    rw [Du] at h1
    obtain ⟨a,ys,rfl,h3,h4⟩:=h1
    rw [Ts]
    exact ⟨a,ys,q,rfl,h3,du_row h4,du_row h2⟩
theorem row_du {G H : Hp} : ∀ {t : Tr} {xs : List V},Ts H t xs→DuA (tups G H) (rowD t) xs
  | .nil,xs,h => by rw [Ts] at h; rw [rowD,h]; exact .nil
  | .cons b r,xs,h => by
    rw [Ts] at h
    obtain ⟨a,ys,zs,rfl,h1,h2,h3⟩:=h
    rw [rowD]
    refine .cons ?_ (row_du h3)
    rw [Du]
    exact ⟨a,ys,rfl,tups_tup h1,row_du h2⟩
mutual
theorem row_of : ∀ {ds : List PyData} {t : Tr},trsOf ds = some t→ds = rowD t
  | [],t,h => by rw [trsOf] at h; cases h; rw [rowD]
  | d :: ds,t,h => by
    rw [trsOf] at h
    obtain ⟨b,h1,h2⟩:=Option.bind_eq_some_iff.mp h
    obtain ⟨r,h3,rfl⟩:=Option.map_eq_some_iff.mp h2
    rw [rowD,← tree_of h1,← row_of h3]
theorem tree_of : ∀ {d : PyData} {t : Tr},trOf d = some t→d = .tuple (rowD t)
  | .tuple ds,t,h => by rw [trOf] at h; rw [row_of h]
  | .none,_,h => by simp [trOf] at h
  | .bool _,_,h => by simp [trOf] at h
  | .int _,_,h => by simp [trOf] at h
  | .str _,_,h => by simp [trOf] at h
  | .list _,_,h => by simp [trOf] at h
  | .dict _,_,h => by simp [trOf] at h
end
def srtD (rev : Bool) (t : Tr) : Option PyData:=if t.bs.length < 64∧t.deep≤60 then some (.list (rowD (Tr.of (if rev then Tr.srt t.bs else (Tr.srt t.bs).reverse)))) else none
def dSortT (rev : Bool) : List PyData→Option PyData
  | [x] => (seqOf x).bind fun ds => (trsOf ds).bind (srtD rev)
  | _ => none
section
variable {X : Cx} {a e : Expr}   {fs : Dv→Option (List PyData)}  {pos p : Pos}
theorem sort_at {rev : Bool} {G0 H0 G H : Hp} {σ : St} {δ : Dv} {ts : List (PyData×V)} {x z : PyData} {u : V} {Q : VK} (R0 : Rw G0 H0 G H σ δ ts) (du : Du G x u) (hz : dSortT rev [x] = some z) (k : ∀ w G' H',Rw G0 H0 G' H' σ δ ((z,w) :: ts)→Q w H') :
    ∃ (p : Addr) (ys : List V) (t : Tr),[u] = [.ref p]∧(SqL X.K H p ys∨SqT X.K H p ys)∧Ts H t ys∧ys.length < 64∧t.deep≤60∧∀ (l : Addr) (zs : List V),H l = none→Ts H (Tr.of (if rev then Tr.srt t.bs else (Tr.srt t.bs).reverse)) zs→Q (.ref l) (upd H l (.lst zs)) := by
  unfold dSortT at hz
  obtain ⟨ds,h1,h2⟩:=Option.bind_eq_some_iff.mp hz
  obtain ⟨t,h3,h4⟩:=Option.bind_eq_some_iff.mp h2
  unfold srtD at h4
  split at h4
  · rename_i hc
    cases h4
    have hds:=row_of h3
    obtain ⟨bb,a,ys,rfl,n1,n2⟩:=seq_at du h1
    rw [hds] at n2
    have ht:=(du_row n2).same R0.ins
    have hl : ys.length = t.bs.length := by rw [ht.len]
    refine ⟨a,ys,t,rfl,?_,ht,by lia,hc.2,fun l zs hl' hz' => ?_⟩
    · have:=R0.ins _ _ n1
      cases bb
      · exact .inl (SqL.of (by simpa using this))
      · exact .inr (SqT.of (by simpa using this))
    · have R1:=R0.tups
      exact k _ _ _ (R1.newL (row_du hz') hl')
  · cases h4
theorem de_sortR {e : Expr} {p pos kp kp2 : Pos} {j} (hu : X.A.units + 64 < cLine) (hg : Gl X "sorted") (hm : X.mg "sorted" = none) (ha : DA X [e] fs)
    (hP : ∀ {t : TA},PA X [e] t→PE X (.Call (.Name "sorted" p) [e] [⟨some "reverse",.Constant (.bool true) j kp2,kp⟩] pos) (fun σ H Q => t σ H fun vs H1 => rSortR X.K vs H1 Q)) :
    DE X (.Call (.Name "sorted" p) [e] [⟨some "reverse",.Constant (.bool true) j kp2,kp⟩] pos) (fCall (dSortT true) fs) := by
  obtain ⟨t,p,k⟩:=ha
  refine ⟨_,hP p,fun δ z hz G0 H0 G H σ ts Q R0 q => ?_⟩
  obtain ⟨xs,h1,h2⟩:=Option.bind_eq_some_iff.mp hz
  refine k δ _ h1 G0 H0 G H σ ts _ R0 fun vs G1 H1 R1 hv => ?_
  obtain ⟨d,R2⟩:=R1.args hv
  cases xs with
  | nil => cases h2
  | cons x r =>
    cases r with
    | cons y q => cases h2
    | nil =>
      obtain ⟨u,rfl,du⟩:=d.un1
      exact sort_at (rev:=true) R2 du h2 q
end
def frzL : L→L
  | .own (.lst xs) => .d (.list xs)
  | .own (.dtr kvs) => .d (dictD kvs)
  | .own _ => .no
  | l => l
def frzAll (δ : Dv) : Dv:=δ.map frzL
section
variable {G0 H0 G H : Hp} {σ : St} {δ : Dv} {ts : List (PyData×V)}
theorem Rw.frzAll (r : Rw G0 H0 G H σ δ ts) : Rw H H H H σ (L2.frzAll δ) ts := by
  refine ⟨Same.refl _,fun _ _ h => .inl h,Same.refl _,Same.refl _,by rw [L2.frzAll,List.length_map]; exact r.len,fun i x h => ?_,fun i xs h => ?_,fun i j xs ys _ h => ?_,fun q hq => (r.tmp q hq).same r.ins⟩
  · unfold L2.frzAll at h
    rw [List.getElem?_map] at h
    obtain ⟨l,h1,h2⟩:=Option.map_eq_some_iff.mp h
    unfold frzL at h2
    split at h2
    · rename_i xs
      cases h2
      obtain ⟨a,_,k1,k2,k3,k4,⟨ys,rfl,k5⟩⟩:=r.own i _ h1
      refine ⟨.ref a,k1,?_⟩
      rw [Du]
      exact ⟨a,ys,rfl,k4,k5.same r.ins⟩
    · rename_i kvs
      cases h2
      obtain ⟨a,_,k1,k2,k3,k4,⟨rr,rfl,k5,k6⟩⟩:=r.own i _ h1
      refine ⟨.ref a,k1,?_⟩
      rw [Du,DuM]
      exact .inr (.inr ⟨rfl,rfl,a,rr,rfl,k4,k5,DuK.same r.ins k6⟩)
    · cases h2
    · subst h2
      obtain ⟨v,k1,k2⟩:=r.dat i x h1
      exact ⟨v,k1,k2.same r.ins⟩
  all_goals
    unfold L2.frzAll at h
    rw [List.getElem?_map] at h
    obtain ⟨l,h1,h2⟩:=Option.map_eq_some_iff.mp h
    unfold frzL at h2
    split at h2
    · cases h2
    · cases h2
    · cases h2
    · rename_i n1 n3 n2
      subst h2
      cases xs with
      | lst zs => exact (n1 zs rfl).elim
      | dtr zs => exact (n3 zs rfl).elim
      | dic zs => exact (n2 (.dic zs) rfl).elim
theorem Rw.on {H' : Hp} (r : Rw G0 H0 G H σ δ ts) (e : Same H H') : Rw G0 H0 G H' σ δ ts:=r.lift (Same.refl _) Nw.refl (r.ins.trans e) e
end
section
variable {X : Cx} {e : Expr}  {f h : Dv→Option PyData}  {fa : Dv→Option Bool} {p : Pos}
abbrev bLeaf (f : Dv→Option Bool) : Dv→Option Bool:=fun δ => f (frzAll δ)
theorem dt_leaf (h : DT X e fa) : DT X e (bLeaf fa) := by
  obtain ⟨t,p,k⟩:=h
  refine ⟨t,p,fun δ z hz G0 H0 G H σ ts Q R q => ?_⟩
  exact k _ z hz H H H H σ ts Q R.frzAll fun G' H' R' => q _ _ (R.on R'.keep)
end
section
variable {F F1 F2 : DF} {δ δ' : Dv} {r : Option Ou} {c : Dv→Option Bool} {f g : Dv→Option PyData} {fs : Dv→Option (List PyData)}
theorem seqD_nx (h : F1 δ = some (.nx δ')) (k : F2 δ' = r) : seqD F1 F2 δ = r := by unfold seqD; rw [h]; exact k
theorem seqD_rt {x : PyData} (h : F1 δ = some (.rt x)) : seqD F1 F2 δ = some (.rt x) := by unfold seqD; rw [h]
theorem sIf_t (h : c δ = some true) (k : F1 δ = r) : sIf c F1 F2 δ = r := by show (c δ).bind _ = r; rw [h]; exact k
theorem sIf_f (h : c δ = some false) (k : F2 δ = r) : sIf c F1 F2 δ = r := by show (c δ).bind _ = r; rw [h]; exact k
theorem sSet_is {i : Nat} {y : PyData} (h : f δ = some y) : sSet i f δ = some (.nx (δ.set i (.d y))) := by show (f δ).map _ = _; rw [h]; rfl
theorem sRet_is {y : PyData} (h : f δ = some y) : sRet f δ = some (.rt y) := by show (f δ).map _ = _; rw [h]; rfl
theorem op2_is {o : PyData→PyData→Option PyData} {x y : PyData} {z : Option PyData} (h1 : f δ = some x) (h2 : g δ = some y) (h3 : o x y = z) : op2 o f g δ = z := by unfold op2; rw [h1,h2]; exact h3
theorem fCall_is {m : List PyData→Option PyData} {xs : List PyData} {z : Option PyData} (h1 : fs δ = some xs) (h2 : m xs = z) : fCall m fs δ = z := by show (fs δ).bind m = z; rw [h1]; exact h2
theorem fCons_is {x : PyData} {xs : List PyData} (h1 : f δ = some x) (h2 : fs δ = some xs) : fCons f fs δ = some (x :: xs) := by show (f δ).bind _ = _; rw [h1]; show (fs δ).map _ = _; rw [h2]; rfl
theorem fLst_is {xs : List PyData} (h : fs δ = some xs) (hl : xs.length≤dMax) : fLst fs δ = some (.list xs) := by show ((fs δ).bind few).map _ = _; rw [h]; show (few xs).map _ = _; unfold few; rw [if_pos hl]; rfl
theorem bCmp_is {o : PyData→PyData→Option PyData} {x y : PyData} {b : Bool} (h1 : f δ = some x) (h2 : g δ = some y) (h3 : o x y = some (.bool b)) : bCmp o f g δ = some b := by show (op2 o f g δ).bind asB = _; rw [op2_is h1 h2 h3]; rfl
theorem bOr_f {a b : Dv→Option Bool} {q : Option Bool} (h : a δ = some false) (k : b δ = q) : bOr a b δ = q := by show (a δ).bind _ = q; rw [h]; exact k
theorem bNot_is {a : Dv→Option Bool} {b : Bool} (h : a δ = some b) : bNot a δ = some (!b) := by show (a δ).map _ = _; rw [h]; rfl
theorem bVal_is {b : Bool} (h : f δ = some (.bool b)) : bVal f δ = some b := by show (f δ).bind asB = _; rw [h]; rfl
theorem forD_inv {set : PyData→Dv→Option Dv} (Iv : Nat→Dv→Prop) : ∀ (xs : List PyData) (δ : Dv) (n : Nat),Iv n δ→(∀ (i : Nat) (x : PyData) (δ : Dv),xs[i]? = some x→Iv (n + i) δ→∃ δ1 δ2,set x δ = some δ1∧F δ1 = some (.nx δ2)∧Iv (n + i + 1) δ2) →
    ∃ δ',forD set F xs δ = some (.nx δ')∧Iv (n + xs.length) δ'
  | [],δ,n,h,_ => ⟨δ,rfl,h⟩
  | x :: xs,δ,n,h,k => by
    obtain ⟨δ1,δ2,h1,h2,h3⟩:=k 0 x δ rfl h
    obtain ⟨δ',h4,h5⟩:=forD_inv Iv xs δ2 (n + 1) h3 fun i y δ hy hv => by
      have:=k (i + 1) y δ (by simpa using hy) (by rw [show n + (i + 1) = n + 1 + i by lia]; exact hv)
      rw [show n + (i + 1) + 1 = n + 1 + i + 1 by lia] at this
      exact this
    refine ⟨δ',?_,by rw [List.length_cons,show n + (xs.length + 1) = n + 1 + xs.length by lia]; exact h5⟩
    unfold forD
    rw [h1,Option.bind_some,h2]
    exact h4
theorem sFor_inv {set : PyData→Dv→Option Dv} {xs : List PyData} (Iv : Nat→Dv→Prop) (hx : fs δ = some xs) (h0 : Iv 0 δ) (hs : ∀ (i : Nat) (x : PyData) (δ : Dv),xs[i]? = some x→Iv i δ→∃ δ1 δ2,set x δ = some δ1∧F δ1 = some (.nx δ2)∧Iv (i + 1) δ2) :
    ∃ δ',sFor fs set F δ = some (.nx δ')∧Iv xs.length δ' := by
  obtain ⟨δ',h1,h2⟩:=forD_inv (F:=F) (set:=set) Iv xs δ 0 h0 fun i x δ hx hv => by
    have:=hs i x δ hx (by simpa using hv)
    simpa using this
  refine ⟨δ',?_,by simpa using h2⟩
  show (fs δ).bind _ = _
  rw [hx]; exact h1
end
theorem retD_rt {ps N : List Str} {F : DF} {ds : List PyData} {x : PyData} (hl : ds.length = ps.length) (h : F (iniD N ds) = some (.rt x)) : retD ps N F ds = some x := by unfold retD; rw [if_pos hl,h]
theorem rng_get {lo : Int} {n i : Nat} {x : PyData} (h : (rngD lo n)[i]? = some x) : x = .int (lo + (i : Nat))∧i < n := by
  unfold rngD at h
  rw [List.getElem?_map] at h
  obtain ⟨j,hj,rfl⟩:=Option.map_eq_some_iff.mp h
  have hl:=(List.getElem?_eq_some_iff.mp hj).1
  rw [List.getElem?_range (by simpa using hl)] at hj
  cases hj
  exact ⟨rfl,by simpa using hl⟩
theorem rng_is {δ : Dv} {f : Dv→Option PyData} {j : Int} (h : f δ = some (.int j)) (h0 : -1000000≤j) (h1 : j≤1000000) : iCall rng1 (fCons f fNil) δ = some (rngD 0 j.toNat) := by
  show (fCons f fNil δ).bind rng1 = _
  rw [fCons_is h (show fNil δ = some [] from rfl)]
  exact if_pos ⟨h0,h1⟩
theorem fit_of {n : Nat} {i : Int} (h : i.natAbs < 2 ^ n) : fitI n i = true:=decide_eq_true h
theorem mul_ok {i j : Int} (h : mulOk i j = true) : dMul (.int i) (.int j) = some (.int (i * j)) := by
  show orD iMul lRep (.int i) (.int j) = _
  unfold orD
  rw [show iMul (.int i) (.int j) = some (.int (i * j)) from if_pos h]
theorem mul_r {i j : Int} (h : j.natAbs < 2 ^ 64) : dMul (.int i) (.int j) = some (.int (i * j)):=mul_ok (by unfold mulOk; rw [fit_of h]; simp)
theorem mod_is {i j : Int} (h : 0 < j) : iMod (.int i) (.int j) = some (.int (i % j)) := by
  show (if j≠0 then some (PyData.int (i.fmod j)) else none) = _
  rw [if_pos (by lia),Int.fmod_eq_emod_of_nonneg _ (by lia)]
theorem pow_is {i : Int} {n : Nat} (hn : n≤1000) (hi : fitI 64 i = true) : iPow (.int i) (.int (n : Int)) = some (.int (i ^ n)) := by
  show (if 0≤(n : Int)∧(n : Int)≤1000∧fitI 64 i = true then some (PyData.int (i ^ (n : Int).toNat)) else none) = _
  rw [if_pos ⟨by lia,by lia,hi⟩,Int.toNat_natCast]
def excD (C : Addr) : PyData:=.dict [(.int (C : Nat),.none)]
def scrD (ns : List Int) : PyData:=.dict [(.none,.list (ns.map .int))]
theorem du_scr {H : Hp} {a : Addr} {ns : List Int} (h : Rd H a (.lst (ns.map V.int))) : Du H (scrD ns) (.ref a) := by unfold scrD; rw [Du]; exact .inr (.inl ⟨a,ns,rfl,rfl,h⟩)
def noLst (K : PySem.W.Frag) : Bool:=K.all fun p => match p.2.cls with | .type n => n != "list" | _ => true
theorem lookup_memK {a : Addr} {o : Obj} : ∀ {K : PySem.W.Frag},K.lookup a = some o→(a,o)∈K
  | [],h => by cases h
  | (b,u) :: K,h => by
    rw [List.lookup_cons] at h
    split at h
    · rename_i e
      cases h
      rw [show a = b from by simpa using e]
      exact .head _
    · exact .tail _ (lookup_memK h)
theorem rdK_of {K : PySem.W.Frag} {H : Hp} {a : Addr} {xs : List V} (hK : noLst K = true) (h : SqL K H a xs) : Rd H a (.lst xs) := by
  rcases h with h | ⟨o,its,n,h1,h2,_⟩
  · exact h
  · unfold noLst at hK
    rw [List.all_eq_true] at hK
    have:=hK _ (lookup_memK h1)
    rw [h2] at this
    exact absurd this (by decide)
abbrev Xr:=PyData ⊕ Addr
def spX (g : List PyData→Option Xr) : Sp:=fun vs H Q E => ∃ ds r G,g ds = some r∧DuA G ds vs∧Same G H∧match r with
  | .inl x => ∀ v G' H',Same G G'→Nw G H G'→Same G' H'→Same H H'→Du G' x v→Q v H'
  | .inr C => ∀ H',Same H H'→E (.ref C) none H'
abbrev OuX:=Ou ⊕ Addr
abbrev DFX:=Dv→Option OuX
def FinX (G0 H0 : Hp) (D : Ends) (E : XK) : OuX→Prop
  | .inl o => Fin G0 H0 D o
  | .inr C => ∀ H',Same H0 H'→E (.ref C) none H'
def DX (X : Cx) (E : XK) (st : Stmt) (F : DFX) : Prop:=∃ t,PS X st t∧∀ δ r,F δ = some r→∀ G0 H0 G H σ D,Rw G0 H0 G H σ δ []→FinX G0 H0 D E r→t D σ H
def DXs (X : Cx) (E : XK) (sts : List Stmt) (F : DFX) : Prop:=∃ t,PSs X sts t∧∀ δ r,F δ = some r→∀ G0 H0 G H σ D,Rw G0 H0 G H σ δ []→FinX G0 H0 D E r→t D σ H
section
variable {X : Cx} {E : XK} {b c e : Expr} {es : List Expr} {f h : Dv→Option PyData} {fs : Dv→Option (List PyData)} {fa : Dv→Option Bool} {pos p : Pos} {st : Stmt} {sts sts' : List Stmt} {F : DF} {J J1 J2 : DFX}
theorem pss_nox' {t : TS} (h : PSs X.nox sts t) : PSs X sts t:=fun pins s σ H D I k => wpAny_mono (h pins s σ H D (I.wish _) k) (fun _ _ z => z.unwish) fun _ _ z => z.elim
theorem ps_nox {t : TS} (h : PS X.nox st t) : PS X st t:=fun pins s σ H D I k => wpAny_mono (h pins s σ H D (I.wish _) k) (fun _ _ z => z.unwish) fun _ _ z => z.elim
theorem pe_nox {t : TE} (h : PE X.nox e t) : PE X e t:=fun pins s σ H Q I k => wpAny_mono (h pins s σ H Q (I.wish _) k) (fun _ _ ⟨v,H',I',r,q⟩ => ⟨v,H',I'.unwish,r,q⟩) fun _ _ z => z.elim
theorem pt_nox {t : TT} (h : PT X.nox e t) : PT X e t:=fun pins s σ H Q I k => wpAny_mono (h pins s σ H Q (I.wish _) k) (fun _ _ ⟨H',I',q⟩ => ⟨H',I'.unwish,q⟩) fun _ _ z => z.elim
theorem pa_nox {t : TA} (h : PA X.nox es t) : PA X es t:=fun p pins s σ H Q I k => wpAny_mono (h p pins s σ H Q (I.wish _) k) (fun _ _ ⟨v,H',I',r,q⟩ => ⟨v,H',I'.unwish,r,q⟩) fun _ _ z => z.elim
abbrev xOf (F : DF) : DFX:=fun δ => (F δ).map .inl
theorem dx_of (h : DS X.nox st F) : DX X E st (xOf F) := by
  obtain ⟨t,p,k⟩:=h
  refine ⟨t,ps_nox p,fun δ r h G0 H0 G H σ D R q => ?_⟩
  obtain ⟨o,h1,rfl⟩:=Option.map_eq_some_iff.mp h
  exact k δ o h1 G0 H0 G H σ D R q
theorem dxs_of (h : DSs X.nox sts F) : DXs X E sts (xOf F) := by
  obtain ⟨t,p,k⟩:=h
  refine ⟨t,pss_nox' p,fun δ r h G0 H0 G H σ D R q => ?_⟩
  obtain ⟨o,h1,rfl⟩:=Option.map_eq_some_iff.mp h
  exact k δ o h1 G0 H0 G H σ D R q
def seqX (J1 J2 : DFX) (δ : Dv) : Option OuX:=match J1 δ with
  | some (.inl (.nx δ')) => J2 δ'
  | o => o
theorem dxs_nil : DXs X E [] (fun δ => some (.inl (.nx δ))):=⟨_,pss_nil,fun δ r h G0 H0 G H σ D R k => by cases h; exact k _ _ _ R⟩
theorem dxs_one (h : DX X E st J) : DXs X E [st] J := by
  obtain ⟨t,p,k⟩:=h
  exact ⟨t,pss_one p,k⟩
theorem dxs_cons (h1 : DX X E st J1) (h2 : DXs X E sts J2) : DXs X E (st :: sts) (seqX J1 J2) := by
  obtain ⟨t1,p1,k1⟩:=h1
  obtain ⟨t2,p2,k2⟩:=h2
  refine ⟨_,pss_cons p1 p2,fun δ r h G0 H0 G H σ D R q => ?_⟩
  unfold seqX at h
  split at h
  · rename_i δ' e1
    exact k1 δ _ e1 G0 H0 G H σ _ R fun σ' G' H' R' => k2 δ' r h G0 H0 G' H' σ' D R' q
  · rename_i o hn
    cases r with
    | inr C => exact k1 δ _ h G0 H0 G H σ _ R q
    | inl o' =>
      cases o' with
      | nx δ' => exact absurd h (hn δ')
      | rt x => exact k1 δ _ h G0 H0 G H σ _ R q
      | bk x => exact k1 δ _ h G0 H0 G H σ _ R q
      | ct x => exact k1 δ _ h G0 H0 G H σ _ R q
      | rn x => exact k1 δ _ h G0 H0 G H σ _ R q
abbrev xIf (c : Dv→Option Bool) (J1 J2 : DFX) : DFX:=fun δ => (c δ).bind fun b => if b = true then J1 δ else J2 δ
theorem dx_if (hc : DT X.nox c fa) (h1 : DXs X E sts J1) (h2 : DXs X E sts' J2) : DX X E (.If c sts sts' pos) (xIf fa J1 J2) := by
  obtain ⟨tc,pc,kc⟩:=hc
  obtain ⟨t1,p1,k1⟩:=h1
  obtain ⟨t2,p2,k2⟩:=h2
  refine ⟨_,ps_if (pt_nox pc) p1 p2,fun δ r h G0 H0 G H σ D R q => ?_⟩
  obtain ⟨b,h3,h4⟩:=Option.bind_eq_some_iff.mp h
  refine kc δ _ h3 G0 H0 G H σ [] _ R fun G1 H1 R1 => ?_
  split
  · rename_i hb
    rw [if_pos hb] at h4
    exact k1 δ r h4 G0 H0 G1 H1 σ D R1 q
  · rename_i hb
    rw [if_neg hb] at h4
    exact k2 δ r h4 G0 H0 G1 H1 σ D R1 q
abbrev xRaise (C : Addr) (f : Dv→Option PyData) : DFX:=fun δ => (f δ).map fun _ => .inr C
theorem dx_raise {x : Str} {C : Addr} {np cpos : Pos} (T : Exc X.K X.mg x C) (hL : Lets X E) (he : DE X.nox e f) (hcalm : X.calm = true := by rfl) (hg : Gl X x := by rfl) (hd : (x == ("__debug__" : Str)) = false := by decide)
    (hst : starEach [e] X.env = [(false,eval e X.env)] := by rfl) : DX X E (.Raise (some (.Call (.Name x np) [e] [] cpos)) none pos) (xRaise C f) := by
  obtain ⟨t,p,k⟩:=he
  refine ⟨_,ps_raise T hL hcalm hg (pe_nox p) hd hst,fun δ r h G0 H0 G H σ D R q => ?_⟩
  obtain ⟨y,h1,rfl⟩:=Option.map_eq_some_iff.mp h
  exact k δ y h1 G0 H0 G H σ [] _ R fun v G' H' R' => q _ R'.keep
theorem call_x {k : Nat} {m : List PyData→Option Xr} {ta : TA} (ka : ∀ δ xs,fs δ = some xs→∀ G0 H0 G H σ ts (Q : List V→Hp→Prop),Rw G0 H0 G H σ δ ts→(∀ vs G' H',Rw G0 H0 G' H' σ δ (xs.zip vs ++ ts)→vs.length = xs.length→Q vs H')→ta σ H Q)
    {δ : Dv} {r : Xr} (hz : (fs δ).bind m = some r) {G0 H0 G H : Hp} {σ : St} {Q : VK} {E' : XK} (R : Rw G0 H0 G H σ δ []) (q1 : ∀ x,r = .inl x→∀ v G' H',Rw G0 H0 G' H' σ δ [(x,v)]→Q v H') (q2 : ∀ C,r = .inr C→∀ G' H',Rw G0 H0 G' H' σ δ []→E' (.ref C) none H') :
    ta σ H fun vs H1 => spX m (vs ++ []) H1 Q E' := by
  obtain ⟨xs,h1,h2⟩:=Option.bind_eq_some_iff.mp hz
  refine ka δ _ h1 G0 H0 G H σ [] _ R fun vs G1 H1 R1 hv => ?_
  obtain ⟨d,R2⟩:=R1.args hv
  refine ⟨xs,r,G1,h2,by rw [List.append_nil]; exact d,R2.ins,?_⟩
  cases r with
  | inl x => exact fun v G' H' h3 h4 h5 h6 h7 => q1 x rfl _ _ _ ((R2.lift h3 h4 h5 h6).put h7)
  | inr C => exact fun H' h => q2 C rfl _ _ (R2.on h)
section
variable {k : Nat} {fA : Addr} {fd : FuncData} {ps : List Str} {m : List PyData→Option Xr} {x : Str} {st' : Stmt}
abbrev xCall (m : List PyData→Option Xr) (fs : Dv→Option (List PyData)) (nx : PyData→Dv→Ou) : DFX:=fun δ => ((fs δ).bind m).map fun r => match r with
  | .inl x => .inl (nx x δ)
  | .inr C => .inr C
theorem dx_call (T : Fn X.K X.mg x st' ps fA fd) (F : FnOk X.prog X.w X.K X.mg X.base (CXW X.prog X.w) k fA fd ps (spX m)) (hr : Room k X.A) (hP : Passes (CXW X.prog X.w) X E) (ha : DA X.nox (e :: es) fs)
    {pos2 : Pos} (hP2 : ∀ {t : TE},PE X (.Call (.Name x p) (e :: es) [] pos) t→PS X (.Expr (.Call (.Name x p) (e :: es) [] pos) pos2) (tDrop t))
    (hg : Gl X x := by rfl) (hdb : (x == ("__debug__" : Str)) = false := by decide) (he : starEach (e :: es) X.env = (false,eval e X.env) :: starEach es X.env := by rfl) (hpl : (backTo pos (starEach es X.env)).any (·.1) = false := by rfl) :
    DX X E (.Expr (.Call (.Name x p) (e :: es) [] pos) pos2) (xCall m fs fun _ δ => .nx δ) := by
  obtain ⟨ta,pa,ka⟩:=ha
  refine ⟨_,hP2 (pe_fnW T F hr hg hP (pa_nox pa) hdb he hpl),fun δ r h G0 H0 G H σ D R q => ?_⟩
  obtain ⟨z,h1,rfl⟩:=Option.map_eq_some_iff.mp h
  refine call_x (k:=k) ka h1 R (fun x hx v G' H' R' => ?_) (fun C hC G' H' R' => ?_)
  · subst hx; exact q _ _ _ R'.drop
  · subst hC; exact q _ R'.keep
end
end
theorem Rw.setNo {G0 H0 G H : Hp} {σ : St} {δ : Dv} {ts : List (PyData×V)} (k : Nat) (o : Option V) (r : Rw G0 H0 G H σ δ ts) : Rw G0 H0 G H (σ.set k o) (δ.set k .no) ts := by
  have ne : ∀ (j : Nat) (l : L),l≠.no→(δ.set k .no)[j]? = some l→k≠j∧δ[j]? = some l:=fun j l hl h => by
    by_cases hj : k = j
    · subst hj
      by_cases hi : k < δ.length
      · rw [List.getElem?_set_self hi] at h; cases h; exact absurd rfl hl
      · rw [List.getElem?_eq_none (by simp; lia)] at h; cases h
    · rw [List.getElem?_set_ne hj] at h; exact ⟨hj,h⟩
  refine ⟨r.ext,r.new,r.ins,r.keep,by simp [r.len],fun j y h => ?_,fun j zs h => ?_,fun j l us ws hjl h1 h2 => ?_,r.tmp⟩
  · obtain ⟨n,h⟩:=ne j _ (by simp) h
    obtain ⟨w,m1,m2⟩:=r.dat j y h
    exact ⟨w,by rw [List.getElem?_set_ne n]; exact m1,m2⟩
  · obtain ⟨n,h⟩:=ne j _ (by simp) h
    obtain ⟨b,us,m1,m2⟩:=r.own j zs h
    exact ⟨b,us,by rw [List.getElem?_set_ne n]; exact m1,m2⟩
  · obtain ⟨n1,h1⟩:=ne j _ (by simp) h1
    obtain ⟨n2,h2⟩:=ne l _ (by simp) h2
    rw [List.getElem?_set_ne n1,List.getElem?_set_ne n2]
    exact r.apart j l us ws hjl h1 h2
section
variable {X : Cx}  {a b e : Expr} {es : List Expr} {f h : Dv→Option PyData} {fs : Dv→Option (List PyData)}  {pos p : Pos}
def isxD (T : Addr→Option Bool) : PyData→Option PyData
  | .dict [(.int C,.none)] => (T C.toNat).map .bool
  | _ => none
abbrev fIsx (T : Addr→Option Bool) (f : Dv→Option PyData) : Dv→Option PyData:=fun δ => (f δ).bind (isxD T)
theorem de_isx {T : Addr→Option Bool} {cv : V} {xT : Str} {p1 p2 : Pos} (hk : ∀ C b,T C = some b→ExcK X.K C∧PySem.W.kitOne X.K (.ref C) (clsV cv) = some b) (hn : clsV cv≠.none) (hg : Gl X "isinstance") (hm : X.mg "isinstance" = none) (hT : PE X (.Name xT p2) (tC cv)) (ha : DE X a f)
    (hs1 : starEach [a,.Name xT p2] X.env = (false,eval a X.env) :: starEach [.Name xT p2] X.env := by rfl) (hpl : (backTo pos (starEach [.Name xT p2] X.env)).any (·.1) = false := by rfl) :
    DE X (.Call (.Name "isinstance" p1) [a,.Name xT p2] [] pos) (fIsx T f) := by
  obtain ⟨ta,pa,ka⟩:=ha
  refine ⟨_,pe_callB call_isiE hg hm PyProof.Rows.boot_isinstance (pa_cons pa (pa_cons hT pa_nil) hs1) (by decide) (by decide) hs1 hpl,fun δ z hz G0 H0 G H σ ts Q R0 k => ?_⟩
  obtain ⟨x,h1,h2⟩:=Option.bind_eq_some_iff.mp hz
  unfold isxD at h2
  split at h2
  · rename_i C
    obtain ⟨bb,h3,rfl⟩:=Option.map_eq_some_iff.mp h2
    refine ka δ _ h1 G0 H0 G H σ ts _ R0 fun u G1 H1 R1 => ?_
    have du:=R1.tmp _ (.head _)
    rw [Du] at du
    rcases du with ⟨ea,C',e1,rfl,h4⟩ | ⟨_,_,e1,_⟩ | z
    rotate_left
    · simp at e1
    · rw [DuM] at z; cases z.1
    have : C = (C' : Nat) := by simpa using e1
    subst this
    obtain ⟨k1,k2⟩:=hk _ _ h3
    rw [Int.toNat_natCast] at k1 k2
    exact ⟨ea,C',cv,bb,rfl,hn,R1.ins _ _ h4,k1,k2,k _ _ _ (R1.drop.put (by rw [Du]))⟩
  · cases h2
abbrev sTry (j k : Nat) (m : List PyData→Option Xr) (fs : Dv→Option (List PyData)) : DF:=fun δ => ((fs δ).bind m).map fun r => match r with
  | .inl _ => .nx δ
  | .inr C => .nx (((δ.set k (.d (excD C))).set j (.d (excD C))).set k .no)
theorem ds_try {kk j k : Nat} {fA : Addr} {fd : FuncData} {ps : List Str} {m : List PyData→Option Xr} {x : Str} {st' : Stmt} {cx z n : Str} {Gx : Addr} {pz pn np spos tpos hpos tp : Pos} (T : Fn X.K X.mg x st' ps fA fd) (F : FnOk X.prog X.w X.K X.mg X.base (CXW X.prog X.w) kk fA fd ps (spX m)) (hr : Room kk X.A) (hg : Gl X x) (ha : DA X.nox (e :: es) fs)
    (hB : ∀ ds C,m ds = some (.inr C)→Beneath X.K C Gx true)
    (hP : ∀ {t : TX},PEX X (.Call (.Name x p) (e :: es) [] pos) t→PS X (.Try [.Expr (.Call (.Name x p) (e :: es) [] pos) spos] [.ExceptHandler (some (.Name cx np)) (some n) [.Assign [.Name z pz] (.Name n pn) tpos] hpos] [] [] tp) (tTryEx X.K Gx t j k))
    (hdb : (x == ("__debug__" : Str)) = false := by decide) (he : starEach (e :: es) X.env = (false,eval e X.env) :: starEach es X.env := by rfl) (hpl : (backTo pos (starEach es X.env)).any (·.1) = false := by rfl) :
    DS X (.Try [.Expr (.Call (.Name x p) (e :: es) [] pos) spos] [.ExceptHandler (some (.Name cx np)) (some n) [.Assign [.Name z pz] (.Name n pn) tpos] hpos] [] [] tp) (sTry j k m fs) := by
  obtain ⟨ta,pa,ka⟩:=ha
  refine ⟨_,hP (pex_fn T F hr hg pa hdb he hpl),fun δ r h G0 H0 G H σ D R q => ?_⟩
  obtain ⟨w,h1,rfl⟩:=Option.map_eq_some_iff.mp h
  have h1':=h1
  obtain ⟨ds,_,hm⟩:=Option.bind_eq_some_iff.mp h1'
  refine call_x (k:=kk) ka h1 R (fun x hx v G' H' R' => ?_) (fun C hC G' H' R' => ?_)
  · subst hx; exact q _ _ _ R'.drop
  · subst hC
    refine ⟨C,rfl,hB ds C hm,fun ea hea => ?_⟩
    have R2:=R'.newObj (o:=excO ea (.ref C)) hea
    have de : Du (upd G' ea (excO ea (.ref C))) (excD C) (.ref ea) := by unfold excD; rw [Du]; exact .inl ⟨ea,C,rfl,rfl,upd_same⟩
    exact q _ _ _ ((((R2.put de).put de).setD.setD).setNo k none)
end
def retX (ps N : List Str) (J : DFX) (ds : List PyData) : Option Xr:=if ds.length = ps.length then (match J (iniD N ds) with
  | some (.inl (.rt x)) => some (.inl x)
  | some (.inl (.nx _)) => some (.inl .none)
  | some (.inl (.rn xs)) => some (.inl (.list xs))
  | some (.inr C) => some (.inr C)
  | _ => none) else none
section
variable {P : Program} {w : World} {K : PySem.W.Frag} {mg : Str→Option Value} {base : Heap} {x : Str} {st : Stmt} {fA : Addr} {fd : FuncData} {N ps : List Str} {k : Nat}
theorem letsX {qual : Str} {scope : Scope} {cd : Value} {A : Around} {outer : List Env} {s : Shared} {H : Hp} {E : XK} :
    Lets (cxOf (CXW P w) P w K mg base N qual scope fA cd A outer s H E) E:=fun _ _ _ _ _ _ _ _ I hx hE => xe_made I hx hE
theorem passX {qual : Str} {scope : Scope} {cd : Value} {A : Around} {outer : List Env} {s : Shared} {H : Hp} {E : XK} : Passes (CXW P w) (cxOf (CXW P w) P w K mg base N qual scope fA cd A outer s H E) E:=passW fun _ _ _ z => z
theorem okX {J : DFX} (T : Fn K mg x st ps fA fd) (S : FnScope N ps (defScope st))
    (hb : ∀ (cdv : Value) (A : Around) (outer : List Env) (s : Shared) (H : Hp) (E : XK),Room k (A.deeper (envOfC x (defScope st) s.heap.objs.size fA cdv))→DXs (cxOf (CXW P w) P w K mg base N x (defScope st) fA cdv A outer s H E) E (defBody st) J) :
    FnOk P w K mg base (CXW P w) (k + 1) fA fd ps (spX (retX ps N J)) := by
  refine T.F.okW S (fun vs H Q E h => ?_) fun cdv A outer s H vs Q E hr h => ?_
  · obtain ⟨ds,y,G,h1,h2,_⟩:=h
    unfold retX at h1
    split at h1
    · rename_i hl; rw [h2.len]; exact hl
    · cases h1
  · obtain ⟨ds,y,G,h1,h2,h3,h4⟩:=h
    obtain ⟨t,p,kk⟩:=hb cdv A outer s H E hr
    refine ⟨t,p,?_⟩
    unfold retX at h1
    split at h1
    · split at h1
      · rename_i z e1
        cases h1
        exact kk _ _ e1 G H G H _ _ (Rw.start h2 h3) fun v G' H' m1 m2 m3 m4 m5 => h4 v G' H' m1 m2 m3 m4 m5
      · rename_i δ e1
        cases h1
        exact kk _ _ e1 G H G H _ _ (Rw.start h2 h3) fun σ' G' H' R => h4 .non G' H' R.ext R.new R.ins R.keep (by rw [Du])
      · rename_i xs e1
        cases h1
        exact kk _ _ e1 G H G H _ _ (Rw.start h2 h3) fun a ys G' H' m1 m2 m3 m4 m5 m6 m7 m8 => let ⟨n1,n2,n3,n4⟩:=keepL m1 m2 m3 m5 m6 m7 m8; h4 _ _ H' n1 n2 n3 m4 n4
      · rename_i C e1
        cases h1
        exact kk _ _ e1 G H G H _ _ (Rw.start h2 h3) h4
      · cases h1
    · cases h1
theorem FnOk.to0 {sp sp' : Sp} (F : FnOk P w K mg base (CXW P w) k fA fd ps sp) (h : ∀ vs H Q E,sp' vs H Q E→sp vs H Q fun _ _ _ => False) : FnOk P w K mg base CX0 k fA fd ps sp' :=
  ⟨fun vs H Q E z => F.len _ _ _ _ (h _ _ _ _ z),fun A outer s H args us vs Q E hr he hb hv hs => codeAny_mono (F.run A outer s H args us vs Q _ hr he hb hv (h _ _ _ _ hs)) fun r s' z => by
    cases r with
    | ok fl => cases fl <;> exact z
    | error e => obtain ⟨_,_,_,_,_,_,_,z⟩:=z; exact z.elim⟩
def good (m : List PyData→Option Xr) (ds : List PyData) : Option PyData:=match m ds with
  | some (.inl x) => some x
  | _ => none
theorem spX_D {m : List PyData→Option Xr} (F : FnOk P w K mg base (CXW P w) k fA fd ps (spX m)) : FnOk P w K mg base CX0 k fA fd ps (spD (good m)):=F.to0 fun vs H Q E z => by
  obtain ⟨ds,x,G,h1,h2,h3,h4⟩:=z
  unfold good at h1
  split at h1
  · rename_i y e; cases h1
    exact ⟨ds,.inl x,G,e,h2,h3,h4⟩
  · cases h1
end
abbrev sRetO (i : Nat) : DF:=fun δ => (ow i δ).map .rn
section
variable {X : Cx} {a : Expr}  {h : Dv→Option PyData}   {pos : Pos}
theorem ds_retO {i : Nat} {x : Str} {np : Pos} (hv : PE X (.Name x np) (tVar i)) : DS X (.Return (some (.Name x np)) pos) (sRetO i) := by
  refine ⟨_,ps_ret hv,fun δ r h G0 H0 G H σ D R q => ?_⟩
  obtain ⟨xs,h1,rfl⟩:=Option.map_eq_some_iff.mp h
  obtain ⟨a,_,k1,k2,k3,k4,⟨ys,rfl,k5⟩⟩:=R.own i _ (ow_eq h1)
  exact ⟨.ref a,k1,q a ys G H R.ext R.new R.ins R.keep k3 k2 k4 k5⟩
end
section
variable          {N ps : List Str} 
theorem retD_rn {F : DF} {ds xs : List PyData} (hl : ds.length = ps.length) (h : F (iniD N ds) = some (.rn xs)) : retD ps N F ds = some (.list xs) := by unfold retD; rw [if_pos hl,h]
theorem retX_rt {J : DFX} {ds : List PyData} {y : PyData} (hl : ds.length = ps.length) (h : J (iniD N ds) = some (.inl (.rt y))) : retX ps N J ds = some (.inl y) := by unfold retX; rw [if_pos hl,h]
theorem retX_nx {J : DFX} {ds : List PyData} {δ : Dv} (hl : ds.length = ps.length) (h : J (iniD N ds) = some (.inl (.nx δ))) : retX ps N J ds = some (.inl .none) := by unfold retX; rw [if_pos hl,h]
theorem retX_no {J : DFX} {ds : List PyData} {C : Addr} (hl : ds.length = ps.length) (h : J (iniD N ds) = some (.inr C)) : retX ps N J ds = some (.inr C) := by unfold retX; rw [if_pos hl,h]
end
section
variable {J1 J2 : DFX} {δ δ' : Dv} {r : Option OuX} {c : Dv→Option Bool} {fs : Dv→Option (List PyData)} {m : List PyData→Option Xr} {ds : List PyData}   
theorem seqX_nx (h : J1 δ = some (.inl (.nx δ'))) (k : J2 δ' = r) : seqX J1 J2 δ = r := by unfold seqX; rw [h]; exact k
theorem seqX_no {C : Addr} (h : J1 δ = some (.inr C)) : seqX J1 J2 δ = some (.inr C) := by unfold seqX; rw [h]
theorem xIf_t (h : c δ = some true) (k : J1 δ = r) : xIf c J1 J2 δ = r := by show (c δ).bind _ = r; rw [h]; exact k
theorem xIf_f (h : c δ = some false) (k : J2 δ = r) : xIf c J1 J2 δ = r := by show (c δ).bind _ = r; rw [h]; exact k
theorem xCall_in {nx : PyData→Dv→Ou} {y : PyData} (h : fs δ = some ds) (k : m ds = some (.inl y)) : xCall m fs nx δ = some (.inl (nx y δ)) := by show ((fs δ).bind m).map _ = _; rw [h]; show (m ds).map _ = _; rw [k]; rfl
theorem xCall_no {nx : PyData→Dv→Ou} {C : Addr} (h : fs δ = some ds) (k : m ds = some (.inr C)) : xCall m fs nx δ = some (.inr C) := by show ((fs δ).bind m).map _ = _; rw [h]; show (m ds).map _ = _; rw [k]; rfl
theorem sTry_no {j k : Nat} {C : Addr} (h : fs δ = some ds) (q : m ds = some (.inr C)) : sTry j k m fs δ = some (.nx (((δ.set k (.d (excD C))).set j (.d (excD C))).set k .no)) := by show ((fs δ).bind m).map _ = _; rw [h]; show (m ds).map _ = _; rw [q]; rfl
end
def only (cs : List Addr) (m : List PyData→Option Xr) (ds : List PyData) : Option Xr:=match m ds with
  | some (.inr C) => if C∈cs then some (.inr C) else none
  | r => r
theorem only_in {cs : List Addr} {m : List PyData→Option Xr} {ds : List PyData} {C : Addr} (h : only cs m ds = some (.inr C)) : C∈cs := by
  unfold only at h
  split at h
  · split at h
    · rename_i hc; cases h; exact hc
    · cases h
  · rename_i n; exact absurd h (n C)
theorem only_no {cs : List Addr} {m : List PyData→Option Xr} {ds : List PyData} {C : Addr} (h : m ds = some (.inr C)) (hc : C∈cs) : only cs m ds = some (.inr C) := by unfold only; rw [h]; exact if_pos hc
theorem only_is {cs : List Addr} {m : List PyData→Option Xr} {ds : List PyData} {x : PyData} (h : m ds = some (.inl x)) : only cs m ds = some (.inl x) := by unfold only; rw [h]
theorem spX_only {P : Program} {w : World} {K : PySem.W.Frag} {mg : Str→Option Value} {base : Heap} {CX : CXT} {k : Nat} {f : Addr} {fd : FuncData} {ps : List Str} {m : List PyData→Option Xr} (cs : List Addr) (F : FnOk P w K mg base CX k f fd ps (spX m)) : FnOk P w K mg base CX k f fd ps (spX (only cs m)) :=
  F.imp fun vs H Q E z => by
    obtain ⟨ds,r,G,h1,h2⟩:=z
    refine ⟨ds,r,G,?_,h2⟩
    unfold only at h1
    split at h1
    · rename_i C e
      split at h1
      · cases h1; exact e
      · cases h1
    · exact h1
section
variable {F F1 F2 : DF} {δ δ' : Dv} {fs : Dv→Option (List PyData)} {xs : List PyData} {set : PyData→Dv→Option Dv} {r : Option Ou}
theorem ex_nx {Q : Dv→Prop} (h : F1 δ = some (.nx δ')) (k : ∃ δ2,F2 δ' = some (.nx δ2)∧Q δ2) : ∃ δ2,seqD F1 F2 δ = some (.nx δ2)∧Q δ2:=let ⟨δ2,a,b⟩:=k; ⟨δ2,seqD_nx h a,b⟩
theorem for_ex (Iv : Nat→Dv→Prop) (hx : fs δ = some xs) (h0 : Iv 0 δ) (hs : ∀ (i : Nat) (x : PyData) (δ : Dv),xs[i]? = some x→Iv i δ→∃ δ1,set x δ = some δ1∧∃ δ2,F δ1 = some (.nx δ2)∧Iv (i + 1) δ2) :
    ∃ δ',sFor fs set F δ = some (.nx δ')∧Iv xs.length δ':=sFor_inv Iv hx h0 fun i x δ a b => let ⟨δ1,c,δ2,e,g⟩:=hs i x δ a b; ⟨δ1,δ2,c,e,g⟩
theorem seqD_for (Iv : Nat→Dv→Prop) (hx : fs δ = some xs) (h0 : Iv 0 δ) (hs : ∀ (i : Nat) (x : PyData) (δ : Dv),xs[i]? = some x→Iv i δ→∃ δ1,set x δ = some δ1∧∃ δ2,F δ1 = some (.nx δ2)∧Iv (i + 1) δ2)
    (k : ∀ δ',Iv xs.length δ'→F2 δ' = r) : seqD (sFor fs set F) F2 δ = r := by
  obtain ⟨δ',h1,h2⟩:=for_ex Iv hx h0 hs
  exact seqD_nx h1 (k δ' h2)
end
end L2
set_option maxHeartbeats 2000000
set_option maxHeartbeats 1000000
set_option maxHeartbeats 4000000
namespace L2
open PySem PySem.Spec PyProof.Rows
def GT (H : Hp) (v : Value) (x : Tr) : Prop:=∃ a ys,v = .ref a∧H a = some (.tup ys)∧Ts H x ys
def setO (S : Addr) (ev : Array (Int×Value)) (ep : Nat) (t : SetTable) : HO:=.ext fun h => ∃ o,h.get? S = some o∧o.ExactSet∧o.data = .set ev ep t
abbrev MemG (H : Hp) (p : Int×Value) (q : Int×Tr) : Prop:=p.1 = q.1∧q.2.deep < 8∧GT H p.2 q.2
def SetV (H : Hp) (S : Addr) (st : TH.ES×SetTable) : Prop:=∃ ev ep,H S = some (setO S ev ep st.2)∧PySem.Paired (MemG H) ev.toList st.1.toList
theorem GT.same {H H' : Hp} {v : Value} {x : Tr} (h : GT H v x) (e : Same H H') : GT H' v x:=let ⟨a,ys,e1,e2,e3⟩:=h; ⟨a,ys,e1,e _ _ e2,e3.same e⟩
structure SetOk (w : World) (st : TH.ES×SetTable) : Prop where
  fit : st.2.fits st.1.size = true
  plain : st.2.plain = true
  led : st.2.led = !w.params.followText "set-order"
  walk : TH.walkOk st.2 st.1.size = true
  small : st.1.size < 64
section
variable {X : Cx} {pins : List (Addr×Obj)} {σ : St} {H : Hp} {s : Shared}
theorem gt_raw (I : Inv X pins σ H s) {v : Value} {x : Tr} (g : GT H v x) : ∃ a its,v = .ref a∧s.heap.IsTuple a its.toArray∧TH.Vs s.heap x its := by
  obtain ⟨a,ys,rfl,h1,h2⟩:=g
  obtain ⟨its,r,p,_⟩:=I.tuple (SqT.of (K:=X.K) h1)
  exact ⟨a,its,rfl,p,h2.vs I r⟩
theorem ts_trees (I : Inv X pins σ H s) : ∀ {t : Tr} {ys : List V} {us : List Value},Ts H t ys→Vals ys us→t.deep≤8→TH.TreesAt (GT H) s.heap us t.bs
  | .nil,ys,us,h,r,_ => by
    rw [Ts] at h
    subst h
    cases r
    exact .nil
  | .cons b q,ys,us,h,r,hd => by
    rw [Ts] at h
    obtain ⟨a,zs,rest,rfl,h1,h2,h3⟩:=h
    rw [Tr.deep] at hd
    cases r with
    | cons r1 r2 =>
      cases r1
      have g : GT H (.ref a) b:=⟨a,zs,rfl,h1,h2⟩
      exact .cons ⟨by lia,g,gt_raw I g⟩ (ts_trees I h3 r2 (by lia))
theorem mems_raw (I : Inv X pins σ H s) {l : List (Int×Value)} {m : List (Int×Tr)} (h : PySem.Paired (MemG H) l m) : PySem.Paired (TH.MemR (GT H) s.heap) l m :=
  TH.Paired.imp (fun _ _ ⟨a,b,c⟩ => ⟨a,b,c,gt_raw I c⟩) h
theorem g_ts : ∀ {us : List Value} {ts : List Tr},PySem.Paired (GT H) us ts→∃ zs,Vals zs us∧Ts H (Tr.of ts) zs
  | _,_,.nil => ⟨[],.nil,by rw [Tr.of,Ts]⟩
  | _,_,.cons ⟨a,ys,e,h1,h2⟩ r => by
    obtain ⟨zs,r1,r2⟩:=g_ts r
    subst e
    exact ⟨.ref a :: zs,.cons rfl r1,by rw [Tr.of,Ts]; exact ⟨a,ys,zs,rfl,h1,h2,r2⟩⟩
def rSetT (w : World) (K : PySem.W.Frag) : List V→Hp→VK→Prop:=fun xs H Q => ∃ p ys t st,xs = [.ref p]∧SqL K H p ys∧Ts H t ys∧t.deep≤8∧TH.runP (TH.fresh0 (!w.params.followText "set-order")) t.bs = some st ∧
  ∀ S H',Same H H'→SetV H' S st→Q (.ref S) H'
theorem call_setT (hc : X.calm = true) (hu : X.A.units + 64 < cLine) : CallR X (.type "set") (rSetT X.w X.K) := by
  intro pins s σ H xs us Q I r h
  obtain ⟨p,ys,t,st,rfl,hq,ht,hd,hst,q⟩:=h
  obtain ⟨u,rfl,r1⟩:=r.one
  cases r1
  obtain ⟨its,rv,pl,hz⟩:=I.list hq
  refine TH.call_set_tr (G:=GT H) (I.ok.hd hc) pl.isList (ts_trees I ht rv hd) (by lia) hst fun h2 tk S2 k2 => ?_
  obtain ⟨o,ev,ep,g1,g2,g3,g4⟩:=S2
  have hf:=I.hok.fresh (Nat.le_refl s.heap.objs.size)
  have es:=same_new hf (setO s.heap.objs.size ev ep st.2)
  refine ⟨.ref s.heap.objs.size,upd H s.heap.objs.size (setO s.heap.objs.size ev ep st.2),I.laid (t':=tk) k2 (Nat.le_refl _) ?_,rfl,q _ _ es ⟨ev,ep,upd_same,TH.Paired.imp (fun _ _ ⟨a,b,c,_⟩ => ⟨a,b,c.same es⟩) g4⟩⟩
  exact ⟨⟨o,g1,g2,g3⟩,⟨o,g1⟩,fun h1 h2 ⟨o,q1,q2⟩ k => ⟨o,k _ q1,q2⟩⟩
theorem set_raw (I : Inv X pins σ H s) {S : Addr} {st : TH.ES×SetTable} (h : SetV H S st) (ok : SetOk X.w st) : ∃ o ev ep,s.heap.get? S = some o∧TH.Walked X.w o ev ep st.2∧TH.Mems (GT H) s.heap ev st.1 := by
  obtain ⟨ev,ep,h1,h2⟩:=h
  obtain ⟨⟨o,g1,g2,g3⟩,_,_⟩:=(show ObjOk X.prog X.w H s.heap S (setO S ev ep st.2) from I.hok S _ h1)
  have R:=mems_raw I h2
  have hz : ev.size = st.1.size:=TH.Mems.size R
  exact ⟨o,ev,ep,g1,⟨g2,g3,by rw [hz]; exact ok.fit,ok.plain,ok.led,by rw [hz]; exact ok.walk⟩,R⟩
def rSortS (w : World) : List V→Hp→VK→Prop:=fun xs H Q => ∃ S st,xs = [.ref S]∧SetV H S st∧SetOk w st∧∀ (l : Addr) (zs : List V),H l = none→zs.length < 64→Ts H (Tr.of (Tr.srt (TH.memsOf st)).reverse) zs→Q (.ref l) (upd H l (.lst zs))
theorem call_sortS (hc : X.calm = true) (hu : X.A.units + 64 < cLine) : CallR X (.builtin "sorted") (rSortS X.w) := by
  intro pins s σ H xs us Q I r h
  obtain ⟨S,st,rfl,hS,ok,q⟩:=h
  obtain ⟨u,rfl,r1⟩:=r.one
  cases r1
  obtain ⟨o,ev,ep,g1,W,R⟩:=set_raw I hS ok
  refine TH.sorted_set (I.ok.hd hc) W g1 R ok.small (by lia) fun h' D tk e1 us hD k1 gD hp hl => ?_
  obtain ⟨zs,r1,r2⟩:=g_ts hp
  have hz : zs.length < 64 := by rw [r1.length]; exact hl
  refine ⟨.ref D,upd H D (.lst zs),I.laid (t':=tk) k1 hD ⟨Nat.le_of_lt (Nat.lt_of_lt_of_le hz (by rw [sizeLine_eq]; decide)),us,e1,r1,gD⟩,rfl,q D zs (I.hok.fresh hD) hz r2⟩
end
open PySem PyProof.Rows
end L2
set_option maxHeartbeats 1000000
namespace L2
open PySem PySem.Spec PyProof.Rows
def okRun (led : Bool) (l z : List Tr) : Bool:=match TH.runP (TH.fresh0 led) l with
  | some st => decide ((Tr.srt (TH.memsOf st)).reverse = z) && st.2.fits st.1.size && st.2.plain && decide (st.2.led = led) && TH.walkOk st.2 st.1.size && decide (st.1.size < 64)
  | none => false
theorem okRun_of {led : Bool} {l z : List Tr} (h : okRun led l z = true) : ∃ st,TH.runP (TH.fresh0 led) l = some st∧(Tr.srt (TH.memsOf st)).reverse = z∧st.2.fits st.1.size = true∧st.2.plain = true∧st.2.led = led∧TH.walkOk st.2 st.1.size = true∧st.1.size < 64 := by
  unfold okRun at h
  split at h
  · rename_i st e
    simp only [Bool.and_eq_true,decide_eq_true_eq] at h
    obtain ⟨⟨⟨⟨⟨h1,h2⟩,h3⟩,h4⟩,h5⟩,h6⟩:=h
    exact ⟨st,e,h1,h2,h3,h4,h5,h6⟩
  · cases h
def runZ (l : List Tr) : List Tr:=match TH.runP (TH.fresh0 true) l with
  | some st => (Tr.srt (TH.memsOf st)).reverse
  | none => []
def setD (t : Tr) : Option PyData:=if t.deep≤8∧okRun true t.bs (runZ t.bs) = true∧okRun false t.bs (runZ t.bs) = true then some (.list (rowD (Tr.of (runZ t.bs)))) else none
def dSortSet : PyData→Option PyData
  | .list ds => (trsOf ds).bind setD
  | _ => none
section
variable {X : Cx} {e : Expr} {f : Dv→Option PyData} {pos p p2 pos2 : Pos}
theorem de_sortSet (hc : X.calm = true) (hu : X.A.units + 64 < cLine) (hg : Gl X "sorted") (hm : X.mg "sorted" = none) (hg2 : Gl X "set") (hm2 : X.mg "set" = none) (ha : DE X e f)
    (hs1 : starEach [e] X.env = (false,eval e X.env) :: starEach [] X.env := by rfl) (hs2 : starEach [.Call (.Name "set" p2) [e] [] pos2] X.env = (false,eval (.Call (.Name "set" p2) [e] [] pos2) X.env) :: starEach [] X.env := by rfl)
    (hq1 : (backTo pos2 (starEach [] X.env)).any (·.1) = false := by rfl) (hq2 : (backTo pos (starEach [] X.env)).any (·.1) = false := by rfl) :
    DE X (.Call (.Name "sorted" p) [.Call (.Name "set" p2) [e] [] pos2] [] pos) (fun δ => (f δ).bind dSortSet) := by
  obtain ⟨ta,pa,ka⟩:=ha
  refine ⟨_,pe_callB (call_sortS hc hu) hg hm PyProof.Rows.boot_sorted (pa_cons (pe_callTy (call_setT hc hu) hg2 hm2 PyProof.Rows.boot_set (pa_cons pa pa_nil hs1) (by decide) (by decide) hs1 hq1) pa_nil hs2) (by decide) (by decide) hs2 hq2,fun δ z hz G0 H0 G H σ ts Q R0 k => ?_⟩
  obtain ⟨y,h1,h2⟩:=Option.bind_eq_some_iff.mp hz
  refine ka δ y h1 G0 H0 G H σ ts _ R0 fun u G1 H1 R1 => ?_
  unfold dSortSet at h2
  split at h2
  · rename_i ds
    obtain ⟨t,h3,h4⟩:=Option.bind_eq_some_iff.mp h2
    unfold setD at h4
    split at h4
    · rename_i hh
      cases h4
      have hds:=row_of h3
      have du:=R1.tmp (_,u) (.head _)
      obtain ⟨bb,a,ys,rfl,n1,n2⟩:=seq_at du (show seqOf (.list ds) = some ds from rfl)
      have n1' : H1 a = some (.lst ys) := by
        have:=R1.ins _ _ n1
        cases bb
        · simpa using this
        · exact absurd n1 (by
            have du':=du
            intro n1
            rw [Du] at du'
            obtain ⟨a',ys',e1,e2,_⟩:=du'
            cases e1
            rw [e2] at n1
            cases n1)
      rw [hds] at n2
      have ht:=(du_row n2).same R1.ins
      have both : ∀ led,okRun led t.bs (runZ t.bs) = true:=fun led => by cases led; exact hh.2.2; exact hh.2.1
      obtain ⟨st,r1,r2,r3,r4,r5,r6,r7⟩:=okRun_of (both (!X.w.params.followText "set-order"))
      refine ⟨a,ys,t,st,rfl,SqL.of n1',ht,hh.1,r1,fun S H' e1 hS => ⟨S,st,rfl,hS,⟨r3,r4,r5,r6,r7⟩,fun l zs hl hz ht' => ?_⟩⟩
      rw [r2] at ht'
      have R2:=(R1.drop.on e1).tups
      exact k _ _ _ (R2.newL (row_du ht') hl)
    · cases h4
  · cases h2
end
end L2
set_option maxHeartbeats 4000000
set_option maxHeartbeats 1000000
set_option maxHeartbeats 4000000
set_option maxHeartbeats 1000000
set_option maxHeartbeats 4000000
set_option maxHeartbeats 1000000
set_option maxHeartbeats 4000000
set_option maxHeartbeats 1000000
set_option maxHeartbeats 2000000
set_option maxHeartbeats 4000000
set_option maxHeartbeats 1000000
namespace L2
open PySem PySem.Spec PyProof.Rows
def dGtTr : PyData→PyData→Option PyData:=fun x y => (trOf x).bind fun t => (trOf y).bind fun u => if t.deep≤60 then some (.bool (Tr.lt u t)) else none
theorem du_tr {G : Hp} {x : PyData} {t : Tr} {v : V} (h : trOf x = some t) (d : Du G x v) : Tv G t v := by
  cases x with
  | tuple ds =>
    rw [trOf] at h
    have:=row_of h
    subst this
    rw [Du] at d
    obtain ⟨a,xs,rfl,h1,h2⟩:=d
    exact ⟨a,xs,rfl,h1,du_row h2⟩
  | _ => simp [trOf] at h
theorem do_gtTr {X : Cx} (hu : X.A.units + 64 < cLine) : DOp X (compareOp .Gt) dGtTr := by
  refine ⟨_,op_gtTr hu,fun x y z hz G0 H0 G H σ δ ts u v Q R du dv k => ?_⟩
  obtain ⟨t,h1,hz⟩:=Option.bind_eq_some_iff.mp hz
  obtain ⟨t',h2,hz⟩:=Option.bind_eq_some_iff.mp hz
  split at hz
  · rename_i hd
    cases hz
    exact ⟨t,t',(du_tr h1 du).same R.ins,(du_tr h2 dv).same R.ins,hd,k _ _ _ (R.put (by rw [Du]))⟩
  · cases hz
end L2
set_option maxHeartbeats 4000000
set_option maxHeartbeats 1000000
set_option maxHeartbeats 4000000
set_option maxHeartbeats 1000000
namespace L2
open PySem PySem.Spec PyProof.Rows
section
variable {X : Cx} {e lo hi : Expr} {te tl th : TE} {pos p2 : Pos}
theorem pe_strTo (he : PE X e te) (hl : PE X hi tl) : PE X (.Subscript e (.Slice none (some hi) none p2) pos)
    (fun σ H Q => te σ H fun x H1 => tl σ H1 fun z H2 => ∃ (y : Str) (i : Int),x = .str y∧z = .int i∧y.length≤sizeLine∧Q (.str (Txt.slice y none (some i))) H2) := by
  intro pins s σ H Q I h
  refine Subscript_ (thn (he pins s σ H _ I h) fun v s1 ⟨x,H1,I1,r1,q1⟩ => ?_)
  refine wpAny_Slice ?_
  rw [evalPart_none]
  refine wpAny_pure ?_
  rw [evalPart_some]
  refine thn (hl pins s1 σ H1 _ I1 q1) fun vk s3 ⟨z,H3,I3,r3,q3⟩ => ?_
  refine wpAny_pure ?_
  obtain ⟨y,i,rfl,rfl,hz,q⟩:=q3
  obtain ⟨t1,rfl⟩:=r1
  obtain ⟨t3,rfl⟩:=r3
  show wpAny (model X.prog X.w) X.A (subscriptTail e (.Slice none (some hi) none p2) (.str y t1) (.ref s3.heap.objs.size)) (EP X pins σ Q) X.xe { s3 with heap:=s3.heap.push { cls:=.type "slice",data:=.fields #[.none,.int i t3,.none] } }
  obtain ⟨T,id,hT,ht,hg⟩:=SBH.sliceItem_ns (prog:=X.prog) (w:=X.w) (A:=X.A) (E:=X.xe) (s:=s3) (x:=y) (t:=t1) (uj:=t3) (P:=fun h' => ∀ b o,s3.heap.get? b = some o→h'.get? b = some o) (Q:=EP X pins σ Q) (fun h o k b ob q => Heap.get?_push_of_some _ (k b ob q)) (fun _ _ q => q)
    (fun h' t' k kk => ⟨.str (Txt.slice y none (some i)),H3,I3.kept (t':=k) kk,⟨t',rfl⟩,q⟩) hz
  exact tail_any (ops:=[.ref s3.heap.objs.size,.str y t1]) ht hT hg (by with_unfolding_all rfl)
theorem pe_strFT (he : PE X e te) (hl : PE X lo tl) (hh : PE X hi th) : PE X (.Subscript e (.Slice (some lo) (some hi) none p2) pos)
    (fun σ H Q => te σ H fun x H1 => tl σ H1 fun z H2 => th σ H2 fun z' H3 => ∃ (y : Str) (i j : Int),x = .str y∧z = .int i∧z' = .int j∧y.length≤sizeLine∧Q (.str (Txt.slice y (some i) (some j))) H3) := by
  intro pins s σ H Q I h
  refine Subscript_ (thn (he pins s σ H _ I h) fun v s1 ⟨x,H1,I1,r1,q1⟩ => ?_)
  refine wpAny_Slice ?_
  rw [evalPart_some]
  refine thn (hl pins s1 σ H1 _ I1 q1) fun vk s2 ⟨z,H2,I2,r2,q2⟩ => ?_
  rw [evalPart_some]
  refine thn (hh pins s2 σ H2 _ I2 q2) fun vk' s3 ⟨z',H3,I3,r3,q3⟩ => ?_
  rw [evalPart_none]
  refine wpAny_pure ?_
  obtain ⟨y,i,j,rfl,rfl,rfl,hz,q⟩:=q3
  obtain ⟨t1,rfl⟩:=r1
  obtain ⟨t2,rfl⟩:=r2
  obtain ⟨t3,rfl⟩:=r3
  show wpAny (model X.prog X.w) X.A (subscriptTail e (.Slice (some lo) (some hi) none p2) (.str y t1) (.ref s3.heap.objs.size)) (EP X pins σ Q) X.xe { s3 with heap:=s3.heap.push { cls:=.type "slice",data:=.fields #[.int i t2,.int j t3,.none] } }
  obtain ⟨T,id,hT,ht,hg⟩:=SBH.sliceItem_ss (prog:=X.prog) (w:=X.w) (A:=X.A) (E:=X.xe) (s:=s3) (x:=y) (t:=t1) (ui:=t2) (uj:=t3) (P:=fun h' => ∀ b o,s3.heap.get? b = some o→h'.get? b = some o) (Q:=EP X pins σ Q) (fun h o k b ob q => Heap.get?_push_of_some _ (k b ob q)) (fun _ _ q => q)
    (fun h' t' k kk => ⟨.str (Txt.slice y (some i) (some j)),H3,I3.kept (t':=k) kk,⟨t',rfl⟩,q⟩) hz
  exact tail_any (ops:=[.ref s3.heap.objs.size,.str y t1]) ht hT hg (by with_unfolding_all rfl)
end
def dSlF : PyData→PyData→Option PyData:=fun x z => match x,z with | .str y,.int i => (if y.length≤dMax then some (.str (Txt.slice y (some i) none)) else none) | _,_ => none
def dSlT : PyData→PyData→Option PyData:=fun x z => match x,z with | .str y,.int i => (if y.length≤dMax then some (.str (Txt.slice y none (some i))) else none) | _,_ => none
def dSlFT (x z z' : PyData) : Option PyData:=match x,z,z' with | .str y,.int i,.int j => (if y.length≤dMax then some (.str (Txt.slice y (some i) (some j))) else none) | _,_,_ => none
abbrev fSlFT (f g h : Dv→Option PyData) : Dv→Option PyData:=fun δ => (f δ).bind fun x => (g δ).bind fun y => (h δ).bind fun z => dSlFT x y z
section
variable {X : Cx} {a b c e : Expr} {es : List Expr} {f g h : Dv→Option PyData} {fs : Dv→Option (List PyData)} {pos p p2 : Pos}
theorem de_slF (ha : DE X a f) (hb : DE X b g) : DE X (.Subscript a (.Slice (some b) none none p2) pos) (op2 dSlF f g) := by
  obtain ⟨ta,pa,ka⟩:=ha
  obtain ⟨tb,pb,kb⟩:=hb
  refine ⟨_,pe_strFrom pa pb,fun δ z hz G0 H0 G H σ ts Q R0 k => ?_⟩
  obtain ⟨x,y,h1,h2,h3⟩:=two (x:=.none) (y:=.none) hz
  refine ka δ x h1 G0 H0 G H σ ts _ R0 fun u G1 H1 R1 => ?_
  refine kb δ y h2 G0 H0 G1 H1 σ _ _ R1 fun v G2 H2 R2 => ?_
  have du:=R2.tmp (x,u) (.tail _ (.head _))
  have dv:=R2.tmp (y,v) (.head _)
  unfold dSlF at h3
  split at h3
  · split at h3
    · rename_i hl
      cases h3
      rw [Du] at du; rw [Du] at dv; subst du dv
      exact ⟨_,_,rfl,rfl,dMax_le hl,k _ _ _ (R2.drop.drop.put (by rw [Du]))⟩
    · cases h3
  · cases h3
theorem de_slT (ha : DE X a f) (hb : DE X b g) : DE X (.Subscript a (.Slice none (some b) none p2) pos) (op2 dSlT f g) := by
  obtain ⟨ta,pa,ka⟩:=ha
  obtain ⟨tb,pb,kb⟩:=hb
  refine ⟨_,pe_strTo pa pb,fun δ z hz G0 H0 G H σ ts Q R0 k => ?_⟩
  obtain ⟨x,y,h1,h2,h3⟩:=two (x:=.none) (y:=.none) hz
  refine ka δ x h1 G0 H0 G H σ ts _ R0 fun u G1 H1 R1 => ?_
  refine kb δ y h2 G0 H0 G1 H1 σ _ _ R1 fun v G2 H2 R2 => ?_
  have du:=R2.tmp (x,u) (.tail _ (.head _))
  have dv:=R2.tmp (y,v) (.head _)
  unfold dSlT at h3
  split at h3
  · split at h3
    · rename_i hl
      cases h3
      rw [Du] at du; rw [Du] at dv; subst du dv
      exact ⟨_,_,rfl,rfl,dMax_le hl,k _ _ _ (R2.drop.drop.put (by rw [Du]))⟩
    · cases h3
  · cases h3
theorem de_slFT (ha : DE X a f) (hb : DE X b g) (hc : DE X c h) : DE X (.Subscript a (.Slice (some b) (some c) none p2) pos) (fSlFT f g h) := by
  obtain ⟨ta,pa,ka⟩:=ha
  obtain ⟨tb,pb,kb⟩:=hb
  obtain ⟨tc,pc,kc⟩:=hc
  refine ⟨_,pe_strFT pa pb pc,fun δ z hz G0 H0 G H σ ts Q R0 k => ?_⟩
  obtain ⟨x,h1,hz⟩:=Option.bind_eq_some_iff.mp hz
  obtain ⟨y,h2,hz⟩:=Option.bind_eq_some_iff.mp hz
  obtain ⟨w,h3,h4⟩:=Option.bind_eq_some_iff.mp hz
  refine ka δ x h1 G0 H0 G H σ ts _ R0 fun u G1 H1 R1 => ?_
  refine kb δ y h2 G0 H0 G1 H1 σ _ _ R1 fun v G2 H2 R2 => ?_
  refine kc δ w h3 G0 H0 G2 H2 σ _ _ R2 fun v' G3 H3 R3 => ?_
  have du:=R3.tmp (x,u) (.tail _ (.tail _ (.head _)))
  have dv:=R3.tmp (y,v) (.tail _ (.head _))
  have dw:=R3.tmp (w,v') (.head _)
  unfold dSlFT at h4
  split at h4
  · split at h4
    · rename_i hl
      cases h4
      rw [Du] at du; rw [Du] at dv; rw [Du] at dw; subst du dv dw
      exact ⟨_,_,_,rfl,rfl,rfl,dMax_le hl,k _ _ _ (R3.drop.drop.drop.put (by rw [Du]))⟩
    · cases h4
  · cases h4
def dLenS : List PyData→Option PyData
  | [.str x] => if x.length≤dMax then some (.int x.length) else none
  | _ => none
theorem dc_lenS : DCall X (.builtin "len") dLenS := by
  refine ⟨_,call_len_str,fun xs z hz G0 H0 G H σ δ ts us Q R0 d k => ?_⟩
  unfold dLenS at hz
  split at hz
  · split at hz
    · rename_i hl
      cases hz
      obtain ⟨u,r,rfl,d1,d2⟩:=d.un
      have:=d2.nil_eq; subst this
      rw [Du] at d1; subst d1
      exact ⟨_,rfl,dMax_le hl,k _ _ _ (R0.put (by rw [Du]))⟩
    · cases hz
  · cases hz
def dNotInS : PyData→PyData→Option PyData:=fun x y => match x,y with | .str i,.str j => some (.bool (!(!(Builtin.Str.occurrences j i 0 j.length 1).isEmpty))) | _,_ => none
theorem do_notInS : DOp X (compareOp .NotIn) dNotInS := by
  refine ⟨_,op_notIn_str,fun x y z hz G0 H0 G H σ δ ts u v Q R0 du dv k => ?_⟩
  unfold dNotInS at hz
  split at hz
  · cases hz
    rw [Du] at du dv; subst du dv
    exact ⟨_,_,rfl,rfl,k _ _ _ (R0.put (by rw [Du]))⟩
  · cases hz
def strsOf : List PyData→Option (List Str)
  | [] => some []
  | .str x :: r => (strsOf r).map (x :: ·)
  | _ => none
theorem strsOf_eq : ∀ {xs : List PyData} {ys : List Str},strsOf xs = some ys→xs = ys.map PyData.str
  | [],_,e => by cases e; rfl
  | .str x :: r,_,e => by
    rw [strsOf] at e
    obtain ⟨zs,h1,rfl⟩:=Option.map_eq_some_iff.mp e
    rw [strsOf_eq h1]; rfl
  | .none :: _,_,e => by cases e
  | .bool _ :: _,_,e => by cases e
  | .int _ :: _,_,e => by cases e
  | .tuple _ :: _,_,e => by cases e
  | .list _ :: _,_,e => by cases e
  | .dict _ :: _,_,e => by cases e
theorem duA_strs {G : Hp} : ∀ {ys : List Str} {us : List V},DuA G (ys.map PyData.str) us→us = ys.map V.str
  | [],_,d => d.nil_eq
  | y :: ys,_,d => by
    obtain ⟨u,r,rfl,d1,d2⟩:=d.un
    rw [Du] at d1; subst d1
    rw [duA_strs d2]; rfl
theorem carried_strs : ∀ {ys : List Str} {us : List Value},Vals (ys.map V.str) us→CarriedAll us (ys.map PyData.str)
  | [],_,.nil => .nil
  | y :: ys,_,.cons ⟨t,e⟩ r => by subst e; exact .cons (.str _ _) (carried_strs r)
def rJoin (K : PySem.W.Frag) : V→List V→Hp→VK→Prop:=fun x xs H Q => ∃ s a ys,x = .str s∧xs = [.ref a]∧SqL K H a (ys.map V.str)∧ys.length≤1000∧s.length≤1∧(∀ y∈ys,y.length≤15)∧Q (.str (Txt.join s ys)) H
theorem mt_join : MtR X "str.join" (rJoin X.K) := by
  intro pins s σ H x xs v us Q I rx rv h
  obtain ⟨z,q,ys,rfl,rfl,hq,hn,hz,hy,h⟩:=h
  obtain ⟨t,rfl⟩:=rx
  obtain ⟨u,rfl,ru⟩:=Vals.one rv
  cases ru
  obtain ⟨its,r',pl,_⟩:=I.list hq
  refine join_madeW (l:=ys) (g:=fun y => y) 15 pl.isList ?_ hy (by lia) (by lia) fun t' k => ?_
  · rw [List.map_id']; simpa using carried_strs r'
  · rw [List.map_id']; exact ⟨.str (Txt.join z ys),H,I.tok _,⟨t',rfl⟩,h⟩
def dJoin : PyData→PyData→Option PyData:=fun x y => match x,y with
  | .str s,.list xs => (strsOf xs).bind fun ys => if ys.length≤dMax∧s.length≤1∧(ys.all fun y => decide (y.length≤15)) = true then some (.str (Txt.join s ys)) else none
  | _,_ => none
theorem de_join {ap cp : Pos} (ho : DE X a f) (ha : DE X e g)
    (hbase : attributeBase a "join" X.env (eval a X.env) = eval a X.env := by rfl)
    (hfew : ((backTo cp (starEach [e] X.env)).all (fun x => !x.1) && (backToKw cp (keywordEach [] X.env)).all (fun x => x.1.isSome)
      && decide (([e] : List Expr).length + ([] : List Keyword).length + (if ([] : List Keyword).isEmpty then 0 else 1) < 30)) = true := by rfl)
    (hline : (ap.endLine == cp.line) = true := by rfl) (hs : starEach [e] X.env = (false,eval e X.env) :: starEach [] X.env := by rfl) (hplain : (backTo cp (starEach [] X.env)).any (·.1) = false := by rfl) :
    DE X (.Call (.Attribute a "join" ap) [e] [] cp) (op2 dJoin f g) := by
  obtain ⟨to,po,ko⟩:=ho
  obtain ⟨ta,pa,ka⟩:=ha
  refine ⟨_,pe_bm PySem.F.plainAttrs_str PySem.F.slot_str_join PySem.F.type_str_join mt_join po (pa_cons pa pa_nil hs) hbase hfew hline hs hplain,fun δ z hz G0 H0 G H σ ts Q R0 k => ?_⟩
  obtain ⟨x,y,h1,h2,h3⟩:=two (x:=.none) (y:=.none) hz
  refine ko δ x h1 G0 H0 G H σ ts _ R0 fun u G1 H1 R1 => ?_
  have du:=R1.tmp (x,u) (.head _)
  unfold dJoin at h3
  split at h3
  · rename_i s xs
    obtain ⟨ys,h4,h5⟩:=Option.bind_eq_some_iff.mp h3
    have:=strsOf_eq h4; subst this
    split at h5
    · rename_i hc
      cases h5
      rw [Du] at du; subst du
      refine ⟨rfl,ka δ _ h2 G0 H0 G1 H1 σ _ _ R1 fun v G2 H2 R2 => ?_⟩
      have dv:=R2.tmp (_,v) (.head _)
      rw [Du] at dv
      obtain ⟨p,us,rfl,hp,dus⟩:=dv
      have:=duA_strs dus; subst this
      exact ⟨s,p,ys,rfl,rfl,SqL.of (R2.ins _ _ hp),hc.1,hc.2.1,fun y hy => of_decide_eq_true (List.all_eq_true.mp hc.2.2 y hy),k _ _ _ (R2.drop.drop.put (by rw [Du]))⟩
    · cases h5
  · cases h3
def rCount : V→List V→Hp→VK→Prop:=fun x xs H Q => ∃ s y,x = .str s∧xs = [.str y]∧Q (.int (Txt.count s y)) H
theorem mt_count : MtR X "str.count" rCount := by
  intro pins s σ H x xs v us Q I rx rv h
  obtain ⟨z,y,rfl,rfl,h⟩:=h
  obtain ⟨t,rfl⟩:=rx
  obtain ⟨u,rfl,t',rfl⟩:=Vals.one rv
  exact SC.count ⟨.int (Txt.count z y),H,I.tok _,⟨_,rfl⟩,h⟩
def dCount : PyData→PyData→Option PyData:=fun x y => match x,y with | .str s,.str t => some (.int (Txt.count s t)) | _,_ => none
theorem de_count {ap cp : Pos} (ho : DE X a f) (ha : DE X e g)
    (hbase : attributeBase a "count" X.env (eval a X.env) = eval a X.env := by rfl)
    (hfew : ((backTo cp (starEach [e] X.env)).all (fun x => !x.1) && (backToKw cp (keywordEach [] X.env)).all (fun x => x.1.isSome)
      && decide (([e] : List Expr).length + ([] : List Keyword).length + (if ([] : List Keyword).isEmpty then 0 else 1) < 30)) = true := by rfl)
    (hline : (ap.endLine == cp.line) = true := by rfl) (hs : starEach [e] X.env = (false,eval e X.env) :: starEach [] X.env := by rfl) (hplain : (backTo cp (starEach [] X.env)).any (·.1) = false := by rfl) :
    DE X (.Call (.Attribute a "count" ap) [e] [] cp) (op2 dCount f g) := by
  obtain ⟨to,po,ko⟩:=ho
  obtain ⟨ta,pa,ka⟩:=ha
  refine ⟨_,pe_bm PySem.F.plainAttrs_str PySem.F.slot_str_count PySem.F.type_str_count mt_count po (pa_cons pa pa_nil hs) hbase hfew hline hs hplain,fun δ z hz G0 H0 G H σ ts Q R0 k => ?_⟩
  obtain ⟨x,y,h1,h2,h3⟩:=two (x:=.none) (y:=.none) hz
  refine ko δ x h1 G0 H0 G H σ ts _ R0 fun u G1 H1 R1 => ?_
  have du:=R1.tmp (x,u) (.head _)
  unfold dCount at h3
  split at h3
  · cases h3
    rw [Du] at du; subst du
    refine ⟨rfl,ka δ _ h2 G0 H0 G1 H1 σ _ _ R1 fun v G2 H2 R2 => ?_⟩
    have dv:=R2.tmp (_,v) (.head _)
    rw [Du] at dv; subst dv
    exact ⟨_,_,rfl,rfl,k _ _ _ (R2.drop.drop.put (by rw [Du]))⟩
  · cases h3
def isStrD : PyData→Bool
  | .str _ => true
  | _ => false
theorem kit_strD (K : PySem.W.Frag) : ∀ d : PyData,(∀ kv,d≠.dict kv)→PySem.W.kitOne K (.type (tyOf d)) (.type "str") = some (isStrD d)
  | .none,_ => by kernel_rfl
  | .bool _,_ => by kernel_rfl
  | .int _,_ => by kernel_rfl
  | .str _,_ => by kernel_rfl
  | .tuple _,_ => by kernel_rfl
  | .list _,_ => by kernel_rfl
  | .dict kv,h => absurd rfl (h kv)
abbrev sTryS (i j k : Nat) (m : List PyData→Option Xr) (fs : Dv→Option (List PyData)) : DF:=fun δ => ((fs δ).bind m).map fun r => match r with
  | .inl x => .nx (δ.set i (.d x))
  | .inr C => .nx (((δ.set k (.d (excD C))).set j (.d (excD C))).set k .no)
theorem ds_tryS {kk i j k : Nat} {fA : Addr} {fd : FuncData} {ps : List Str} {m : List PyData→Option Xr} {x : Str} {st' : Stmt} {cx y z n : Str} {Gx : Addr} {py pz pn np spos tpos hpos tp : Pos} (T : Fn X.K X.mg x st' ps fA fd) (F : FnOk X.prog X.w X.K X.mg X.base (CXW X.prog X.w) kk fA fd ps (spX m)) (hr : Room kk X.A) (hg : Gl X x) (ha : DA X.nox (e :: es) fs)
    (hB : ∀ ds C,m ds = some (.inr C)→Beneath X.K C Gx true)
    (hP : ∀ {t : TX},PEX X (.Call (.Name x p) (e :: es) [] pos) t→PS X (.Try [.Assign [.Name y py] (.Call (.Name x p) (e :: es) [] pos) spos] [.ExceptHandler (some (.Name cx np)) (some n) [.Assign [.Name z pz] (.Name n pn) tpos] hpos] [] [] tp) (tTryAs X.K Gx t i j k))
    (hdb : (x == ("__debug__" : Str)) = false := by decide) (he : starEach (e :: es) X.env = (false,eval e X.env) :: starEach es X.env := by rfl) (hpl : (backTo pos (starEach es X.env)).any (·.1) = false := by rfl) :
    DS X (.Try [.Assign [.Name y py] (.Call (.Name x p) (e :: es) [] pos) spos] [.ExceptHandler (some (.Name cx np)) (some n) [.Assign [.Name z pz] (.Name n pn) tpos] hpos] [] [] tp) (sTryS i j k m fs) := by
  obtain ⟨ta,pa,ka⟩:=ha
  refine ⟨_,hP (pex_fn T F hr hg pa hdb he hpl),fun δ r h G0 H0 G H σ D R q => ?_⟩
  obtain ⟨w,h1,rfl⟩:=Option.map_eq_some_iff.mp h
  have h1':=h1
  obtain ⟨ds,_,hm⟩:=Option.bind_eq_some_iff.mp h1'
  refine call_x (k:=kk) ka h1 R (fun x hx v G' H' R' => ?_) (fun C hC G' H' R' => ?_)
  · subst hx; exact q _ _ _ R'.setD
  · subst hC
    refine ⟨C,rfl,hB ds C hm,fun ea hea => ?_⟩
    have R2:=R'.newObj (o:=excO ea (.ref C)) hea
    have de : Du (upd G' ea (excO ea (.ref C))) (excD C) (.ref ea) := by unfold excD; rw [Du]; exact .inl ⟨ea,C,rfl,rfl,upd_same⟩
    exact q _ _ _ ((((R2.put de).put de).setD.setD).setNo k none)
end
section
variable {X : Cx} {e : Expr} {lo hi : Option Expr} {f : Dv→Option PyData} {fo fu : Dv→Option (Option Int)} {pos p2 : Pos}
def dCutS (x : PyData) (lo hi : Option Int) : Option PyData:=match x with
  | .dict [(.none,.list xs)] => some (.list (cutD xs lo hi))
  | _ => none
abbrev fCutS (f : Dv→Option PyData) (fo fu : Dv→Option (Option Int)) : Dv→Option PyData:=fun δ => (f δ).bind fun x => (fo δ).bind fun l => (fu δ).bind fun u => dCutS x l u
theorem duA_ints' {H : Hp} : ∀ ns : List Int,DuA H (ns.map PyData.int) (ns.map V.int)
  | [] => .nil
  | n :: ns => .cons (by rw [Du]) (duA_ints' ns)
theorem de_sliceS (he : DE X e f) (hl : DO X lo fo) (hh : DO X hi fu) : DE X (.Subscript e (.Slice lo hi none p2) pos) (fCutS f fo fu) := by
  obtain ⟨te,pe,ke⟩:=he
  obtain ⟨tl,pl,kl⟩:=hl
  obtain ⟨th,ph,kh⟩:=hh
  refine ⟨_,pe_slice sl_list pe pl ph,fun δ z hz G0 H0 G H σ ts Q R0 k => ?_⟩
  obtain ⟨x,h1,h2⟩:=Option.bind_eq_some_iff.mp hz
  obtain ⟨l,h3,h4⟩:=Option.bind_eq_some_iff.mp h2
  obtain ⟨u,h5,h6⟩:=Option.bind_eq_some_iff.mp h4
  refine ke δ x h1 G0 H0 G H σ ts _ R0 fun v G1 H1 R1 => ?_
  refine kl δ l h3 G0 H0 G1 H1 σ _ _ R1 fun G2 H2 R2 => ?_
  refine kh δ u h5 G0 H0 G2 H2 σ _ _ R2 fun G3 H3 R3 => ?_
  have du:=R3.tmp _ (.head _)
  unfold dCutS at h6
  split at h6
  · rename_i xs
    cases h6
    rw [Du] at du
    rcases du with ⟨_,_,e1,_⟩ | ⟨a,ns,e1,rfl,h7⟩ | h7
    · simp at e1
    · have e2 : xs = ns.map PyData.int := by simpa using e1
      subst e2
      exact ⟨a,ns.map V.int,rfl,.inl (h7.same R3.ins),fun q hq => k _ _ _ (R3.drop.newL ((duA_ints' ns).cut l u) hq)⟩
    · rw [DuM] at h7; cases h7.1
  · cases h6
end
end L2
namespace HT
open PySem PySem.Spec PyProof.Rows
section
variable {prog : Program} {w : World} {A : Around} {E : Value→Shared→Prop} {s : Shared}
theorem sliceApplied_rev {sl : Addr} {tk : Tok} {n : Nat} {Q : Int×Int×Nat→Shared→Prop} (hs : s.heap.IsSliceOf sl .none .none (.int (-1) tk))
    (h : Q ((n : Int) - 1,-1,n) s) : wpAny (model prog w) A (Builtin.Slice.sliceApplied (.ref sl) (pure (n : Int))) Q E s := by
  obtain ⟨os,hos,hcs,hds⟩:=id hs
  unfold Builtin.Slice.sliceApplied Builtin.Slice.sliceFields
  refine wpAny_bind (wpAny_bind (wpAny_field hos hds (x:=.none) rfl (wpAny_bind (wpAny_field hos hds (x:=.none) rfl (wpAny_bind (wpAny_field hos hds (x:=.int (-1) tk) rfl (wpAny_pure ?_)))))))
  refine wpAny_bind (slicePart_int ?_)
  show wpAny _ _ (if ((-1 : Int) == 0) = true then _ else _) _ _ s
  rw [if_neg (by decide)]
  refine wpAny_bind (slicePart_none (wpAny_bind (slicePart_none (wpAny_bind (wpAny_pure ?_)))))
  show wpAny _ _ (pure ((n : Int) - 1,(-1 : Int),Builtin.Slice.slicePlaces ((n : Int) - 1) (-1) (-1))) _ _ s
  have e : Builtin.Slice.slicePlaces ((n : Int) - 1) (-1) (-1) = n := by
    unfold Builtin.Slice.slicePlaces
    rw [if_neg (by decide)]
    split
    · rw [show (- -1 : Int) = 1 by decide,Int.ediv_one]; lia
    · lia
  rw [e]
  exact wpAny_pure h
theorem pick_rev (xs : Array Value) : ((List.range xs.size).filterMap fun (m : Nat) => xs[((xs.size : Int) - 1 + (m : Int) * -1).toNat]?).toArray = xs.toList.reverse.toArray := by
  congr 1
  rw [← PySem.W.krv_all xs,← List.filterMap_reverse,← PySem.W.krv_range,List.filterMap_map]
  have go : ∀ l : List Nat,(∀ m∈l,m < xs.size)→l.filterMap (fun (m : Nat) => xs[((xs.size : Int) - 1 + (m : Int) * -1).toNat]?) = l.filterMap ((xs[·]?) ∘ fun k => xs.size - 1 - k):=fun l => by
    induction l with
    | nil => intro _; rfl
    | cons m l ih =>
      intro h
      have hm:=h m (.head _)
      have e : ((xs.size : Int) - 1 + (m : Int) * -1).toNat = xs.size - 1 - m := by lia
      rw [List.filterMap_cons,List.filterMap_cons,ih fun k hk => h k (.tail _ hk),e]
      rfl
  exact go _ fun m hm => List.mem_range.mp hm
theorem getItem_tuple_rev {t sl : Addr} {items : Array Value} {tk : Tok} {Q : Value→Shared→Prop} (ht : IsTup s.heap t items) (hs : s.heap.IsSliceOf sl .none .none (.int (-1) tk))
    (h : Q (.ref s.heap.objs.size) { s with heap:=s.heap.push { cls:=.type "tuple",data:=.seq items.toList.reverse.toArray } })
    (hsz : items.size≤sizeLine) : wpAny (model prog w) A (getItem (.ref t) (.ref sl)) Q E s := by
  have htake : sizeOk (.seq items.toList.reverse.toArray) := by
    show items.toList.reverse.toArray.size≤sizeLine
    rw [List.size_toArray,List.length_reverse,Array.length_toList]
    exact hsz
  obtain ⟨os,hos,hcs,hds⟩:=id hs
  have hTs : s.TypeIs (.ref sl) "slice" := ⟨os,hos,hcs⟩
  unfold getItem
  try with_reducible refine wpAny_holding ?_
  first | refine wpAny_bind (wpAny_pure ?_) | skip
  refine wpAny_bind (wpAny_sequenceKey ht.typeIs (by decide) ?_)
  refine wpAny_bind (wpAny_callSpecial?_slot (name:=Str.ofString "__getitem__") ht.typeIs PyProof.Rows.slot_tuple_getitem
    (wpAny_call_entry PyProof.Rows.slot_tuple_getitem ht.typeIs entry_tuple_getitem ?_ (args_tuple_getitem _ _)))
  show wpAny _ _ (Builtin.Tuple.tupleItemsOf (.ref t) >>= _) _ _ s
  refine wpAny_bind (tupleItemsOf_ ht ?_)
  refine wpAny_bind (wpAny_typeOf hTs ?_)
  rw [if_pos (by decide)]
  refine wpAny_bind (sliceApplied_rev hs ?_)
  have hno : ¬ (((items.size : Int) - 1 == 0 && (-1 : Int) == 1 && items.size == items.size) = true) := by
    intro q
    rw [Bool.and_eq_true,Bool.and_eq_true] at q
    exact absurd q.1.2 (by decide)
  show wpAny _ _ (if ((items.size : Int) - 1 == 0 && (-1 : Int) == 1 && items.size == items.size) = true then _ else _) _ _ s
  rw [if_neg hno,pick_rev]
  first
    | exact wpAny_bind (m:=Builtin.Tuple.tupleExact _) (wpAny_newObj_type (wpAny_pure ⟨_,rfl,wpAny_pure h⟩) htake)
    | exact wpAny_bind (m:=Builtin.Tuple.tupleExact _) (wpAny_newObj_type (wpAny_bind (wpAny_pure (wpAny_pure ⟨_,rfl,wpAny_pure h⟩))) htake)
    | exact wpAny_bind (wpAny_bind (m:=Builtin.Tuple.tupleExact _) (wpAny_newObj_type (wpAny_pure (wpAny_pure ⟨_,rfl,wpAny_pure h⟩)) htake))
    | exact wpAny_bind (wpAny_bind (m:=Builtin.Tuple.tupleExact _) (wpAny_newObj_type (wpAny_pure ⟨_,rfl,wpAny_pure h⟩) htake))
end
end HT
namespace L2
open PySem PySem.Spec PyProof.Rows
section
variable {X : Cx} {e k : Expr} {te tk : TE} {f g : Dv→Option PyData} {pos p2 : Pos}
theorem pe_revT (he : PE X e te) (hk : PE X k tk) : PE X (.Subscript e (.Slice none none (some k) p2) pos)
    (fun σ H Q => te σ H fun x H1 => tk σ H1 fun z H2 => ∃ (a : Addr) (xs : List V),x = .ref a∧z = .int (-1)∧SqT X.K H2 a xs∧∀ p,H2 p = none→Q (.ref p) (upd H2 p (.tup xs.reverse))) := by
  intro pins s σ H Q I h
  refine Subscript_ (thn (he pins s σ H _ I h) fun v s1 ⟨x,H1,I1,r1,q1⟩ => ?_)
  refine wpAny_Slice ?_
  rw [evalPart_none]
  refine wpAny_pure ?_
  refine wpAny_pure ?_
  rw [evalPart_some]
  refine thn (hk pins s1 σ H1 _ I1 q1) fun vk s3 ⟨z,H3,I3,r3,q3⟩ => ?_
  obtain ⟨a,xs,rfl,rfl,hq,q⟩:=q3
  cases r1
  obtain ⟨tk',rfl⟩:=r3
  have I4 : Inv X pins σ H3 { s3 with heap:=s3.heap.push { cls:=.type "slice",data:=.fields #[.none,.none,.int (-1) tk'] } }:=I3.kept (t':=s3.toks) fun b ob q => Heap.get?_push_of_some _ q
  obtain ⟨its,rv,pl,hz⟩:=I4.tuple hq
  have hlen:=rv.length
  show wpAny (model X.prog X.w) X.A (subscriptTail e (.Slice none none (some k) p2) (.ref a) (.ref s3.heap.objs.size)) (EP X pins σ Q) X.xe { s3 with heap:=s3.heap.push { cls:=.type "slice",data:=.fields #[.none,.none,.int (-1) tk'] } }
  refine tail_any (ops:=[.ref a,.ref s3.heap.objs.size]) (T := "tuple") pl.typeIs slot_tuple_getitem.lookup ?_ (by with_unfolding_all rfl)
  refine HT.getItem_tuple_rev pl (Heap.IsSliceOf.new ..) ?_ (by rw [List.size_toArray] <;> lia)
  refine ⟨.ref _,_,I4.laid (t':=s3.toks) (o:=.tup xs.reverse) (fun b ob q => Heap.get?_push_of_some _ q) (Nat.le_refl _) ?_,rfl,q _ (I4.hok.fresh (Nat.le_refl _))⟩
  exact ⟨by rw [List.length_reverse]; exact hz,its.reverse,rv.reverse,IsTup.new _ _⟩
def dRevT (x k : PyData) : Option PyData:=match x,k with
  | .tuple xs,.int i => if i = -1 then some (.tuple xs.reverse) else none
  | _,_ => none
theorem de_revT (he : DE X e f) (hk : DE X k g) : DE X (.Subscript e (.Slice none none (some k) p2) pos) (op2 dRevT f g) := by
  obtain ⟨te,pe,ke⟩:=he
  obtain ⟨tk,pk,kk⟩:=hk
  refine ⟨_,pe_revT pe pk,fun δ z hz G0 H0 G H σ ts Q R0 k => ?_⟩
  obtain ⟨x,y,h1,h2,h3⟩:=two (x:=.none) (y:=.none) hz
  refine ke δ x h1 G0 H0 G H σ ts _ R0 fun u G1 H1 R1 => ?_
  refine kk δ y h2 G0 H0 G1 H1 σ _ _ R1 fun v G2 H2 R2 => ?_
  have du:=R2.tmp (x,u) (.tail _ (.head _))
  have dv:=R2.tmp (y,v) (.head _)
  unfold dRevT at h3
  split at h3
  · split at h3
    · rename_i hi
      subst hi
      cases h3
      rw [Du] at du; rw [Du] at dv; subst dv
      obtain ⟨a,ys,rfl,n1,n2⟩:=du
      exact ⟨a,ys,rfl,rfl,SqT.of (R2.ins _ _ n1),fun q hq => k _ _ _ (R2.drop.drop.newT n2.rev hq)⟩
    · cases h3
  · cases h3
end
end L2
set_option maxHeartbeats 4000000
namespace Opn
open PySem PySem.W PyProof.Rows PySem.Calls
noncomputable def q0 : Pos:=⟨0,0,0,0⟩
noncomputable def o11 : Obj:={ cls:=.type "tuple",data:=.seq #[] }
noncomputable def o12 : Obj:={ cls:=.none,data:=.fields #[] }
noncomputable def o13 : Obj:={ cls:=.type "code",data:=.fields #[.str (Str.ofString "<module>") 182,.str (Str.ofString "<module>") 183,.str (Str.ofString "/claim/cut.py") 184,.int 1 0,.int 0 0,.int 0 0,.int 0 0,.int 0 0,.ref 11,.bool false,.int 181 0,.ref 12,.none,.none,.none,.none,.int 185 0,.int 1 0,.str (Str.ofString "/claim/cut.py") 186] }
noncomputable def o14 : Obj:={ cls:=.type "frame",slots:=#[some (.ref 13),some (.ref 3),some (.ref 3),none,some (.str (Str.ofString "__main__") 164),none,some (.ref 0)] }
noncomputable def objsB (P : Params) : List Obj:=(boot_heap P).objs.toList ++ [o11,o12,o13,o14]
noncomputable def nN (P : Params) (o : Params→Obj) (l r : BT) : BT:=.node (o P) l r
noncomputable def lN (P : Params) (o : Params→Obj) : BT:=.node (o P) .nil .nil
noncomputable def treeB (P : Params) : BT :=
  nN P boot_o_0 (nN P boot_o_1 (nN P boot_o_3 (lN P boot_o_7) (.node o11 .nil .nil)) (nN P boot_o_5 (lN P boot_o_9) (.node o13 .nil .nil)))
    (nN P boot_o_2 (nN P boot_o_4 (lN P boot_o_8) (.node o12 .nil .nil)) (nN P boot_o_6 (lN P boot_o_10) (.node o14 .nil .nil)))
noncomputable def lifeB : Life:=Life.mk [] [] [] 0 [] [] false #[] [] 0 false false false 0 [2000,10,10] false 0 true [] [] 0 false
noncomputable def sA (w : World) (os : OsState) : Shared:=⟨⟨⟨objsB w.params⟩,lifeB⟩,#[],boot_drawn,187,os⟩
noncomputable def sB (w : World) (os : OsState) : SharedT:=⟨treeB w.params,15,lifeB,#[],boot_drawn,187,os⟩
noncomputable def envB (p : Program) : Env:={ scope:=p.main.scope,locals:=mainNs,globals:=mainNs,cells:=[],code:=.ref 13,frame:=some 14 }
noncomputable def cB (p : Program) : Code:=.body (behindTheImports p) (envB p)
noncomputable abbrev annB : Option Value:=some (.ref 6)
noncomputable abbrev bB : List Frame:=[topFrame q0]
noncomputable def runB (p : Program) (M : Nat) (w : World) (os : OsState) : Option (Flow×SharedT×Code×Pos) :=
  PySem.W.Fast.tw10110043849684766642 PySem.W.Fast.tw14364793385576792824 p w 11 annB 1 M (sB w os) (piecesOf (behindTheImports p) (envB p) (cB p) q0 bB)
noncomputable def endB (p : Program) (M : Nat) (w : World) (os : OsState) : SharedT:=match runB p M w os with | some (_,s,_) => s | none => sB w os
theorem runB_eq {p : Program} {M : Nat} {w : World} {os : OsState} {r : Option (Flow×SharedT×Code×Pos)} (h : runB p M w os = r) :
    segRunT treeTable p w 11 annB 1 M (sB w os) (piecesOf (behindTheImports p) (envB p) (cB p) q0 bB) = r := by
  have e : segRunT treeTable = PySem.W.Fast.tw10110043849684766642 PySem.W.Fast.tw14364793385576792824:=congr PySem.W.Fast.te10110043849684766642 PySem.W.Fast.te14364793385576792824
  rw [e]; exact h
theorem run_of {p : Program} {M M0 : Nat} {posE : Pos} {w : World} {os : OsState}
    (pre : topGo treeTable p w 11 annB 12 ⟨boot_heap w.params,#[],boot_drawn,boot_toks,os⟩ (topStub p) = some (sA w os,⟨denote treeTable (cB p),cB p,q0,bB⟩))
    (blk : segRun treeTable p w 11 annB 1 1 (sA w os) (blockOf (behindTheImports p) (envB p) (cB p) q0 bB) = some (.next,(sB w os).abs,cB p,q0))
    (seg : runB p M w os = some (.next,endB p M w os,cB p,posE))
    (fin : ∀ s,topRun treeTable p w 11 annB 2 s (restOf [] (envB p) (cB p) posE bB) = some s) (hM : M0 = 12 + (1 + (M + 2))) :
    topRun treeTable p w 11 annB M0 ⟨boot_heap w.params,#[],boot_drawn,boot_toks,os⟩ (topStub p) = some (endB p M w os).abs := by
  subst hM
  refine go_top pre (piece_block blk ?_)
  have h:=piece_app (rest:=[]) (segRun_of (runB_eq seg)) (fin _)
  rw [List.append_nil] at h
  exact h
theorem left_of {p q : Program} {loose : List Str} {Xt : Shared→Bool} {α : Type} {Yf : Shared→α} {Ya : World→α} {N M : Nat} {S : World→OsState→Shared}
    (open_ : ∀ w : World,(fencedOpening treeTable p w N).map (fun s => (s.heap,s.gens,s.drawn,s.toks)) = some (boot_heap w.params,#[],boot_drawn,boot_toks))
    (size : ∀ w : World,((boot_heap w.params).isNs mainGlobals && (#[] : Array GenState).size == 0,(boot_heap w.params).objs.size,(boot_heap w.params).nsMap mainGlobals "__annotations__") = (true,11,annB))
    (run : ∀ w os,topRun treeTable p w 11 annB M ⟨boot_heap w.params,#[],boot_drawn,boot_toks,os⟩ (topStub p) = some (S w os)) (le : Nat.ble M N = true)
    (ok : ∀ w os,(staticsOk (importedModules p.main.body) (boot_heap w.params) (S w os).heap && namesBound p (S w os).heap && gensDone (S w os) && laidKept (boot_heap w.params) (S w os).heap) = true)
    (seen : ∀ w os,openSeen q loose (importedModules p.main.body) Xt true (S w os) = openGood q loose)
    (hY : ∀ w os,Yf (S w os) = Ya w) : LeftO p q loose Xt Yf Ya N:=fun w => by
  obtain ⟨⟨h,gs,d,k,os⟩,e,e'⟩:=Option.map_eq_some_iff.mp (open_ w)
  obtain ⟨rfl,rfl,rfl,rfl⟩ : h = boot_heap w.params∧gs = #[]∧d = boot_drawn∧k = boot_toks := by simpa using e'
  obtain ⟨z1,z2,z3⟩ : _∧_∧_ := by simpa only [Prod.mk.injEq] using size w
  have l1:=ok w os
  have r:=topRun_mono (N - M) _ _ _ _ (run w os)
  rw [show M + (N - M) = N by have:=Nat.le_of_ble_eq_true le; lia] at r
  have t : topFrom treeTable p w N ⟨boot_heap w.params,#[],boot_drawn,boot_toks,os⟩ = some (S w os) := by
    unfold topFrom
    dsimp only
    rw [z1,z2,z3,r]
    show (match staticsOk (importedModules p.main.body) (boot_heap w.params) (S w os).heap && namesBound p (S w os).heap && gensDone (S w os) && laidKept (boot_heap w.params) (S w os).heap with | true => _ | false => _) = _
    rw [l1]
  unfold openEnds
  rw [e]
  show (topFrom treeTable p w N _).map _ = _
  rw [t]
  exact congrArg some (Prod.ext (seen w os) (hY w os))
theorem sizeB (w : World) : ((boot_heap w.params).isNs mainGlobals && (#[] : Array GenState).size == 0,(boot_heap w.params).objs.size,(boot_heap w.params).nsMap mainGlobals "__annotations__") = (true,11,annB) := by kernel_rfl
end Opn
namespace Q78
open PySem L2
def top (i : Nat) : Stmt:=PySem.Challenge.pw_stepgrove_k78_trees_as_texts.main.body.getD i (.Pass ⟨0,0,0,0⟩)
abbrev s_is_tree : Stmt:=top 16
abbrev s_trees_of : Stmt:=top 17
abbrev s_refuse_no_tree : Stmt:=top 18
abbrev s_in_falling_order : Stmt:=top 19
abbrev s_trees_one_larger : Stmt:=top 20
abbrev s_shown_tree : Stmt:=top 22
abbrev s_read_tree : Stmt:=top 23
abbrev s_tree_text : Stmt:=top 24
abbrev s_tree_in : Stmt:=top 25
abbrev s__law_cell_at : Stmt:=top 27
abbrev s__law_mixed : Stmt:=top 28
abbrev s__law_rest : Stmt:=top 29
abbrev s__law_parents : Stmt:=top 30
abbrev s__law_grown : Stmt:=top 31
abbrev s__law_alone : Stmt:=top 32
abbrev s__law_text : Stmt:=top 33
abbrev s__law_spoilt : Stmt:=top 34
abbrev s__law_reader : Stmt:=top 35
abbrev s__law_tuples : Stmt:=top 36
abbrev s__law_read : Stmt:=top 37
abbrev s__law_refused : Stmt:=top 38
abbrev s_law : Stmt:=top 39
def natV (ps : List Nat) : List V:=ps.map fun p => V.int (p : Nat)
def spGrown (K : PySem.W.Frag) : Sp:=fun vs H Q _ => ∃ (a : Addr) (ps : List Nat),vs = [.ref a]∧SqL K H a (natV ps)∧Tr.PsOk ps∧ps.length≤7∧∀ (v : V) (H' : Hp),Same H H'→Tv H' (Tr.grown ps) v→Q v H'
theorem natV_len (ps : List Nat) : (natV ps).length = ps.length:=List.length_map _
theorem natV_get {ps : List Nat} {k p : Nat} (h : ps[k]? = some p) : (natV ps)[k]? = some (.int (p : Nat)) := by
  unfold natV; rw [List.getElem?_map,h]; rfl
theorem size8 {n : Nat} (h : n < 64) : n < sizeLine:=Nat.lt_of_lt_of_le h (by rw [sizeLine_eq]; decide)
section
variable {P : Program} {w : World} {K : PySem.W.Frag} {mg : Str→Option Value} {base : Heap} {f : Addr} {fd : FuncData}
theorem sc__law_grown : FnScope ["_law_parents_here", "_law_boughs", "_law_k"] ["_law_parents_here"] (defScope s__law_grown):=⟨rfl,rfl,rfl,by decide +kernel,rfl,by decide +kernel,by decide +kernel⟩
def Rows (H H' : Hp) (D : Addr) (ls : List Addr) (B : List (List Tr)) (i : Nat) : Prop :=
  H' D = some (.lst (ls.map V.ref))∧H D = none∧ls.length = B.length∧ls.Nodup∧Same H H'∧∀ j l,ls[j]? = some l→H l = none∧l≠D∧∃ xs,H' l = some (.lst xs)∧Ts H' (Tr.of (B.getD j [])) xs∧xs.length≤i∧(Tr.of (B.getD j [])).deep≤i
theorem ok__law_grown (F : Fn K mg "_law_grown" s__law_grown ["_law_parents_here"] f fd) (z_range : mg "range" = none) (z_len : mg "len" = none) (z_sorted : mg "sorted" = none) (z_tuple : mg "tuple" = none) : FnOk P w K mg base CX0 1 f fd ["_law_parents_here"] (spGrown K) := by
  have sc:=sc__law_grown
  refine F.F.ok (k:=0) sc (fun vs H Q E h => ?_) (fun cdv A outer s H vs Q E hr h => ?_)
  · obtain ⟨a,ps,rfl,_⟩:=h
    rfl
  obtain ⟨a,ps,rfl,hS,hok,h7,q⟩:=h
  refine ⟨_,(pss_cons (ps_setCompr (i:=1) [".0", "_law_parent"] 1 [none,none] sc.nd rfl rfl (pi_list (pv 0)) (fun _ _ _ _ _ => pif_nil) (fun _ _ _ _ _ => (pe_lst pa_nil)))
  (pss_cons (ps_for PassesOwn.never rfl (pi_range3 rfl z_range (pa_cons (pe_op op_sub (pe_callB call_len_seq rfl z_len PySem.boot_len (pa_cons (pv 0) pa_nil)) pe_int) (pa_cons pe_int (pa_cons (pe_un un_neg pe_int) pa_nil)))) (pg_name (i:=2) sc.nd rfl (Or.inl rfl))
    (pss_one (ps_expr (pe_bm PySem.F.plainAttrs_list PySem.F.slot_list_append PySem.F.type_list_append mt_append (pe_ix ix_list (pv 1) (pe_ix ix_list (pv 0) (pv 2) (fun _ _ => rfl)) (fun _ _ => rfl)) (pa_cons (pe_callTy call_tuple_of rfl z_tuple PyProof.Rows.boot_tuple (pa_cons (pe_rev (pe_callB (call_sort (by have:=hr.units; exact this)) rfl z_sorted PyProof.Rows.boot_sorted (pa_cons (pe_ix ix_list (pv 1) (pv 2) (fun _ _ => rfl)) pa_nil)) (pe_un un_neg pe_int)) pa_nil)) pa_nil)))))
  (pss_one (ps_ret (pe_callTy call_tuple_of rfl z_tuple PyProof.Rows.boot_tuple (pa_cons (pe_rev (pe_callB (call_sort (by have:=hr.units; exact this)) rfl z_sorted PyProof.Rows.boot_sorted (pa_cons (pe_ix ix_list (pv 1) pe_int (fun _ _ => rfl)) pa_nil)) (pe_un un_neg pe_int)) pa_nil)))))),?_⟩
  have hn:=hok.1
  refine ⟨_,rfl,a,rfl,⟨_,hS⟩,fun D hD => comp_by (n:=(natV ps).length) (fun i ys H' => ∃ ls : List Addr,ys = ls.map V.ref∧ls.length = i∧ls.Nodup∧(∀ l∈ls,H l = none∧l≠D∧H' l = some (.lst []))∧Same H H') ?_ ?_ ?_⟩
  · exact ⟨[],rfl,rfl,List.nodup_nil,(fun l z => by cases z),same_new hD _⟩
  · rintro i ys H0 hi ⟨ls,rfl,hl,hnd,hls,e0⟩ hD0
    refine ⟨⟨_,(natV ps)[i],e0.seq hS,by simp [hi]⟩,size8 (by rw [List.length_map]; rw [natV_len] at hi; lia),fun x H' y => ?_⟩
    obtain ⟨rfl,y⟩:=y
    unfold tNoIf
    refine iteT ⟨Nat.zero_le _,fun p hp => ⟨same_new hp _ _ _ hD0,cw_next hi ?_⟩⟩
    have hpD : p≠D:=fun z => by rw [z,hD0] at hp; cases hp
    have hpl : p ∉ ls:=fun z => by rw [(hls p z).2.2] at hp; cases hp
    have hpH : H p = none := by
      cases z : H p with
      | none => rfl
      | some o => rw [e0 _ _ z] at hp; cases hp
    refine ⟨ls ++ [p],by simp,by simp [hl],List.nodup_append.mpr ⟨hnd,by simp,fun x hx y hy => by simp at hy; subst hy; intro z; subst z; exact hpl hx⟩,fun l hl' => ?_,fun b o z => ?_⟩
    · rcases List.mem_append.mp hl' with hl' | hl'
      · obtain ⟨h1,h2,h3⟩:=hls l hl'
        refine ⟨h1,h2,?_⟩
        rw [upd_ne h2]
        exact same_new hp _ _ _ h3
      · simp at hl'
        subst hl'
        exact ⟨hpH,hpD,by rw [upd_ne hpD]; exact upd_same⟩
    · rw [upd_ne (ne_of_none z hD)]
      exact same_new hp _ _ _ (e0 _ _ z)
  · rintro ys H0 ⟨ls,rfl,hl,hnd,hls,e0⟩ hD0
    refine ⟨⟨_,e0.seq hS,Nat.le_refl _⟩,?_⟩
    rw [natV_len] at hl
    refine ⟨_,rfl,a,_,rfl,.inl (e0.seq hS),_,_,rfl,rfl,_,rfl,(ps.length : Int) - 1,0,?_,⟨by lia,by lia,by decide,by decide⟩,for_rangeB (n:=((ps.length : Int) - 1 - 0).toNat) (fun i σ H' => ∃ r2,σ = [some (.ref a),some (.ref D),r2]∧Rows H H' D ls (Tr.gB ps i) i) ?_ ?_ ?_⟩
    · rw [natV_len]
    · refine ⟨_,rfl,hD0,hD,by rw [Tr.gB_len,hl],hnd,e0,fun j l hj => ?_⟩
      obtain ⟨h1,h2,h3⟩:=hls l (List.mem_of_getElem? hj)
      have hrow : (Tr.gB ps 0).getD j [] = [] := by
        rw [Tr.gB,List.getD_eq_getElem?_getD,List.getElem?_replicate]
        split <;> rfl
      refine ⟨h1,h2,[],h3,?_,Nat.zero_le _,?_⟩
      · rw [hrow]; exact Ts.nil
      · rw [hrow]; exact Nat.le_refl _
    · rintro i σ H1 hi ⟨r2,rfl,hR⟩
      obtain ⟨hD1,hDn,hlB,hnd,e1,hrows⟩:=hR
      have hki : (ps.length : Int) - 1 - (i : Nat) = ((ps.length - 1 - i : Nat) : Int) := by lia
      have hk1 : ps.length - 1 - i < ps.length := by lia
      have hk0 : 0 < ps.length - 1 - i := by lia
      have hpk:=List.getElem?_eq_getElem hk1
      have hplt:=hok.2 _ _ hpk
      have hpsd : ps.getD (ps.length - 1 - i) 0 = ps[ps.length - 1 - i] := by rw [List.getD_eq_getElem?_getD,hpk]; rfl
      have hlsn : ls.length = ps.length:=hl
      have hp1 : ps[ps.length - 1 - i] < ls.length := by lia
      have hk2 : ps.length - 1 - i < ls.length := by lia
      have lp:=List.getElem?_eq_getElem hp1
      have lk:=List.getElem?_eq_getElem hk2
      obtain ⟨p1,p2,xp,p3,p4,p5,p6⟩:=hrows _ _ lp
      obtain ⟨k1,k2,xk,k3,k4,k5,k6⟩:=hrows _ _ lk
      have at1 : atI (natV ps) ((ps.length : Int) - 1 - (i : Nat)) = some (.int (ps[ps.length - 1 - i] : Nat)) := by rw [hki]; exact atI_nat (natV_get hpk)
      have at2 : atI (ls.map V.ref) ((ps[ps.length - 1 - i] : Nat) : Int) = some (.ref ls[ps[ps.length - 1 - i]]):=atI_nat (by rw [List.getElem?_map,lp]; rfl)
      have at3 : atI (ls.map V.ref) ((ps.length : Int) - 1 - (i : Nat)) = some (.ref ls[ps.length - 1 - i]) := by rw [hki]; exact atI_nat (by rw [List.getElem?_map,lk]; rfl)
      have hnek : ls[ps[ps.length - 1 - i]]≠ls[ps.length - 1 - i]:=fun z => by
        have:=(List.getElem_inj hnd).mp z
        lia
      refine ⟨_,rfl,_,rfl,_,rfl,a,_,_,_,rfl,rfl,e1.seq hS,at1,D,_,_,_,rfl,rfl,SqL.of hD1,at2,.inl ⟨rfl,_,SqL.of p3⟩,_,rfl,_,rfl,D,_,_,_,rfl,rfl,SqL.of hD1,at3,?_⟩
      refine ⟨_,xk,Tr.of ((Tr.gB ps i).getD (ps.length - 1 - i) []),rfl,.inl (SqL.of k3),k4,by lia,by lia,fun l2 zs n2 hz => ?_⟩
      rw [Tr.bs_of] at hz
      have s2:=same_new n2 (.lst zs)
      refine ⟨_,rfl,l2,zs,rfl,rfl,SqL.of upd_same,fun l3 n3 => ?_⟩
      have s3:=same_new n3 (.lst zs.reverse)
      refine ⟨l3,_,rfl,.inl ⟨SqL.of upd_same,fun l4 n4 => ?_⟩⟩
      have s4:=same_new n4 (.tup zs.reverse)
      have e4:=s2.trans (s3.trans s4)
      have tz : Tv (upd (upd (upd H1 l2 (.lst zs)) l3 (.lst zs.reverse)) l4 (.tup zs.reverse)) (Tr.of (Tr.srt ((Tr.gB ps i).getD (ps.length - 1 - i) []))) (.ref l4) := by
        refine ⟨l4,_,rfl,upd_same,?_⟩
        have:=(hz.same e4).rev
        rw [Tr.bs_of,List.reverse_reverse] at this
        exact this
      revert e4 tz
      generalize upd (upd (upd H1 l2 (.lst zs)) l3 (.lst zs.reverse)) l4 (.tup zs.reverse) = H4
      intro e4 tz
      refine ⟨_,xp,_,rfl,rfl,e4 _ _ p3,size8 (by lia),?_⟩
      have nD : ls[ps[ps.length - 1 - i]]≠D:=p2
      have tS : TupS H4 (upd H4 ls[ps[ps.length - 1 - i]] (.lst (xp ++ [.ref l4]))):=TupS.upd (e4 _ _ p3)
      refine ⟨_,rfl,?_,hDn,by rw [hlB,Tr.gB_len,Tr.gB_len],hnd,fun b o z => ?_,fun j l hj => ?_⟩
      · rw [upd_ne (Ne.symm nD)]; exact e4 _ _ hD1
      · rw [upd_ne (ne_of_none z p1)]; exact e4 _ _ (e1 _ _ z)
      · have hjl : j < ls.length:=(List.getElem?_eq_some_iff.mp hj).1
        obtain ⟨j1,j2,xj,j3,j4,j5,j6⟩:=hrows j l hj
        refine ⟨j1,j2,?_⟩
        rw [Tr.gB,Tr.gStep,hpsd]
        by_cases hjp : j = ps[ps.length - 1 - i]
        · subst hjp
          rw [lp] at hj
          cases hj
          rw [p3] at j3
          cases j3
          have hset : ((Tr.gB ps i).set ps[ps.length - 1 - i] ((Tr.gB ps i).getD ps[ps.length - 1 - i] [] ++ [Tr.of (Tr.srt ((Tr.gB ps i).getD (ps.length - 1 - i) []))])).getD ps[ps.length - 1 - i] [] = (Tr.gB ps i).getD ps[ps.length - 1 - i] [] ++ [Tr.of (Tr.srt ((Tr.gB ps i).getD (ps.length - 1 - i) []))] := by
            rw [List.getD_eq_getElem?_getD,List.getElem?_set_self (by rw [← hlB]; exact hp1)]
            rfl
          rw [hset]
          refine ⟨_,upd_same,?_,by simp; lia,?_⟩
          · have ap:=((p4.same e4).tups tS).append (Ts.cons (tz.tups tS) Ts.nil)
            rw [Tr.bs_of] at ap
            exact ap
          · refine (Tr.deep_of _ _).mpr fun c hc => ?_
            rcases List.mem_append.mp hc with hc | hc
            · have:=(Tr.deep_of _ _).mp p6 c hc
              lia
            · rw [List.mem_singleton.mp hc]
              have:=(Tr.deep_of _ _).mp k6
              have h2 : (Tr.of (Tr.srt ((Tr.gB ps i).getD (ps.length - 1 - i) []))).deep≤i:=(Tr.deep_of _ _).mpr fun c hc => this c ((Tr.perm_srt _).mem_iff.mp hc)
              lia
        · have hset : ((Tr.gB ps i).set ps[ps.length - 1 - i] ((Tr.gB ps i).getD ps[ps.length - 1 - i] [] ++ [Tr.of (Tr.srt ((Tr.gB ps i).getD (ps.length - 1 - i) []))])).getD j [] = (Tr.gB ps i).getD j [] := by
            rw [List.getD_eq_getElem?_getD,List.getElem?_set_ne (Ne.symm hjp),List.getD_eq_getElem?_getD]
          rw [hset]
          have hne : l≠ls[ps[ps.length - 1 - i]]:=fun z => by
            rw [List.getElem?_eq_getElem hjl] at hj
            have hj' : ls[j] = l:=Option.some.inj hj
            rw [← hj'] at z
            exact hjp ((List.getElem_inj hnd).mp z)
          exact ⟨xj,by rw [upd_ne hne]; exact e4 _ _ j3,(j4.same e4).tups tS,by lia,by lia⟩
    · rintro σ H1 ⟨r2,rfl,hR⟩
      obtain ⟨hD1,hDn,hlB,hnd,e1,hrows⟩:=hR
      have h0 : 0 < ls.length := by lia
      have l0:=List.getElem?_eq_getElem h0
      obtain ⟨k1,k2,xk,k3,k4,k5,k6⟩:=hrows _ _ l0
      have at0 : atI (ls.map V.ref) (0 : Int) = some (.ref ls[0]):=atI_nat (j:=0) (by rw [List.getElem?_map,l0]; rfl)
      have hnn : ((ps.length : Int) - 1 - 0).toNat = ps.length - 1 := by lia
      rw [hnn] at k4 k5 k6
      refine ⟨_,rfl,D,_,_,_,rfl,rfl,SqL.of hD1,at0,_,xk,Tr.of ((Tr.gB ps (ps.length - 1)).getD 0 []),rfl,.inl (SqL.of k3),k4,by lia,by lia,fun l2 zs n2 hz => ?_⟩
      rw [Tr.bs_of] at hz
      have s2:=same_new n2 (.lst zs)
      refine ⟨_,rfl,l2,zs,rfl,rfl,SqL.of upd_same,fun l3 n3 => ?_⟩
      have s3:=same_new n3 (.lst zs.reverse)
      refine ⟨l3,_,rfl,.inl ⟨SqL.of upd_same,fun l4 n4 => ?_⟩⟩
      have s4:=same_new n4 (.tup zs.reverse)
      have e4:=s2.trans (s3.trans s4)
      refine q _ _ (e1.trans e4) ⟨l4,_,rfl,upd_same,?_⟩
      have:=(hz.same e4).rev
      rw [Tr.bs_of,List.reverse_reverse] at this
      exact this
end
section
variable {P : Program} {w : World} {K : PySem.W.Frag} {mg : Str→Option Value} {base : Heap} {f : Addr} {fd : FuncData}
theorem sy_is_tree : FnScope ["thing", "k", "bough"] ["thing"] (defScope s_is_tree):=⟨rfl,rfl,rfl,by decide +kernel,rfl,by decide +kernel,by decide +kernel⟩
def F_is_tree (m_is_tree : List PyData→Option PyData) : DF :=
  (seqD (sIf (bNot (bVal (fIsi isTupD (nm 0))))
    (sRet (fC (.bool false)))
    sNext)
  (seqD (sFor (iCall enum1 (fCons (nm 0) fNil)) (set2 1 2)
    (seqD (sIf (bAnd (bCmp (iCmp fun i j => decide (j < i)) (nm 1) (fC (.int 0))) (bCmp (dEq false) (nm 2) (op2 dIx (nm 0) (op2 iSub (nm 1) (fC (.int 1))))))
      sCont
      sNext)
    (sIf (bOr (bNot (bVal (fCall m_is_tree (fCons (nm 2) fNil)))) (bAnd (bCmp (iCmp fun i j => decide (j < i)) (nm 1) (fC (.int 0))) (bCmp dGtTr (nm 2) (op2 dIx (nm 0) (op2 iSub (nm 1) (fC (.int 1)))))))
      (sRet (fC (.bool false)))
      sNext)))
  (sRet (fC (.bool true)))))
def m_is_tree : Nat→List PyData→Option PyData
  | 0 => fun _ => none
  | n + 1 => retD ["thing"] ["thing", "k", "bough"] (F_is_tree (m_is_tree n))
theorem od_is_tree {k : Nat} (T_is_tree : Fn K mg "is_tree" s_is_tree ["thing"] f fd) (z_enumerate : mg "enumerate" = none) (z_isinstance : mg "isinstance" = none) (z_tuple : mg "tuple" = none) : ∀ n,
    FnOk P w K mg base CX0 (k + n + 1) f fd ["thing"] (spD (m_is_tree n))
  | 0 => never_okD fun _ _ _ _ ⟨_,_,_,h,_⟩ => by cases h
  | n + 1 => by
    have sc:=sy_is_tree
    have G_is_tree:=od_is_tree (k:=k) T_is_tree z_enumerate z_isinstance z_tuple n
    refine okD (k:=k + n + 1) (F:=F_is_tree (m_is_tree n)) T_is_tree sc fun cdv A outer s H E hr => ?_
    exact (dss_cons (ds_if (dt_not (dt_val (de_isi (kit_tupD _) rfl z_isinstance rfl z_tuple PyProof.Rows.boot_tuple (de_var (pv 0)))))
    (dss_one (ds_ret de_bl))
    dss_nil)
  (dss_cons (ds_for PassesOwn.never rfl (di_enum rfl z_enumerate (da_cons (de_var (pv 0)) da_nil)) (dg_two (pg_tup rfl (pgs_cons (pg_name (i:=1) sc.nd rfl (Or.inl rfl)) (pgs_cons (pg_name (i:=2) sc.nd rfl (Or.inl rfl)) pgs_nil))))
    (dss_cons (ds_if (DW.dt (dw_and (dt_cmp do_gt (de_var (pv 1)) de_int (nomark _)) (dw_one (dt_cmp (do_eq (by have:=hr.units; exact this)) (de_var (pv 2)) (de_ix (de_var (pv 0)) (de_op do_iSub (de_var (pv 1)) de_int) (fun _ _ => rfl)) (nomark _)))))
      (dss_one ds_cont)
      dss_nil)
    (dss_one (ds_if (DW.dt (dw_or (dt_not (dt_val (de_call T_is_tree G_is_tree hr rfl (da_cons (de_var (pv 2)) da_nil)))) (dw_one (DW.dt (dw_and (dt_cmp do_gt (de_var (pv 1)) de_int (nomark _)) (dw_one (dt_cmp (do_gtTr (by have:=hr.units; exact this)) (de_var (pv 2)) (de_ix (de_var (pv 0)) (de_op do_iSub (de_var (pv 1)) de_int) (fun _ _ => rfl)) (nomark _))))))))
      (dss_one (ds_ret de_bl))
      dss_nil))))
  (dss_one (ds_ret de_bl))))
theorem sy_refuse_no_tree : FnScope ["thing"] ["thing"] (defScope s_refuse_no_tree):=⟨rfl,rfl,rfl,by decide +kernel,rfl,by decide +kernel,by decide +kernel⟩
def J_refuse_no_tree (m_is_tree : List PyData→Option PyData) (C_NoTree : Addr) : DFX :=
  (xIf (bNot (bVal (fCall m_is_tree (fCons (nm 0) fNil))))
    (xRaise C_NoTree (fC (.str (Str.ofString "a tree is told by the tuple of its boughs in falling order"))))
    (fun δ => some (.inl (.nx δ))))
def m_refuse_no_tree (m_is_tree : List PyData→Option PyData) (C_NoTree : Addr) : List PyData→Option Xr:=retX ["thing"] ["thing"] (J_refuse_no_tree m_is_tree C_NoTree)
theorem ob_refuse_no_tree {k : Nat} {m_is_tree : List PyData→Option PyData} {C_NoTree : Addr}
    {f_is_tree : Addr} {fd_is_tree : FuncData} (T_is_tree : Fn K mg "is_tree" s_is_tree ["thing"] f_is_tree fd_is_tree) (G_is_tree : FnOk P w K mg base CX0 k f_is_tree fd_is_tree ["thing"] (spD m_is_tree)) (X_NoTree : Exc K mg "NoTree" C_NoTree) (cdv : Value) (A : Around) (outer : List Env) (s : Shared) (H : Hp) (E : XK) (hr : Room k (A.deeper (PyProof.Rows.envOfC "refuse_no_tree" (defScope s_refuse_no_tree) s.heap.objs.size f cdv))) :
    DXs (cxOf (CXW P w) P w K mg base ["thing"] "refuse_no_tree" (defScope s_refuse_no_tree) f cdv A outer s H E) E (defBody s_refuse_no_tree) (J_refuse_no_tree m_is_tree C_NoTree) := by
  have sc:=sy_refuse_no_tree
  exact (dxs_one (dx_if (dt_not (dt_val (de_call T_is_tree G_is_tree hr rfl (da_cons (de_var (pv 0)) da_nil))))
    (dxs_one (by exact dx_raise X_NoTree letsX de_str))
    dxs_nil))
theorem ox_refuse_no_tree {k : Nat} {m_is_tree : List PyData→Option PyData} {C_NoTree : Addr} (F : Fn K mg "refuse_no_tree" s_refuse_no_tree ["thing"] f fd)
    {f_is_tree : Addr} {fd_is_tree : FuncData} (T_is_tree : Fn K mg "is_tree" s_is_tree ["thing"] f_is_tree fd_is_tree) (G_is_tree : FnOk P w K mg base CX0 k f_is_tree fd_is_tree ["thing"] (spD m_is_tree)) (X_NoTree : Exc K mg "NoTree" C_NoTree) :
    FnOk P w K mg base (CXW P w) (k + 1) f fd ["thing"] (spX (m_refuse_no_tree m_is_tree C_NoTree)):=okX F sy_refuse_no_tree (ob_refuse_no_tree T_is_tree G_is_tree X_NoTree)
theorem sy_in_falling_order : FnScope ["boughs"] ["boughs"] (defScope s_in_falling_order):=⟨rfl,rfl,rfl,by decide +kernel,rfl,by decide +kernel,by decide +kernel⟩
def F_in_falling_order : DF :=
  (sRet (fCall dTupleOf (fCons (fCall (dSortT true) (fCons (nm 0) fNil)) fNil)))
def m_in_falling_order : List PyData→Option PyData:=retD ["boughs"] ["boughs"] (F_in_falling_order)
theorem ob_in_falling_order {k : Nat} (z_sorted : mg "sorted" = none) (z_tuple : mg "tuple" = none) (cdv : Value) (A : Around) (outer : List Env) (s : Shared) (H : Hp) (E : XK) (hr : Room k (A.deeper (PyProof.Rows.envOfC "in_falling_order" (defScope s_in_falling_order) s.heap.objs.size f cdv))) :
    DSs (cxOf CX0 P w K mg base ["boughs"] "in_falling_order" (defScope s_in_falling_order) f cdv A outer s H E).nox (defBody s_in_falling_order) (F_in_falling_order) := by
  have sc:=sy_in_falling_order
  exact (dss_one (ds_ret (de_callTy dc_tuple rfl z_tuple PyProof.Rows.boot_tuple (da_cons (de_sortR (by have:=hr.units; exact this) rfl z_sorted (da_cons (de_var (pv 0)) da_nil) (fun h => pe_sortR (by have:=hr.units; exact this) rfl z_sorted h)) da_nil))))
theorem od_in_falling_order {k : Nat} (F : Fn K mg "in_falling_order" s_in_falling_order ["boughs"] f fd) (z_sorted : mg "sorted" = none) (z_tuple : mg "tuple" = none) :
    FnOk P w K mg base CX0 (k + 1) f fd ["boughs"] (spD (m_in_falling_order)):=okD F sy_in_falling_order (ob_in_falling_order z_sorted z_tuple)
theorem sy_trees_one_larger : FnScope ["tree", "larger", "k", "bough", "grown"] ["tree"] (defScope s_trees_one_larger):=⟨rfl,rfl,rfl,by decide +kernel,rfl,by decide +kernel,by decide +kernel⟩
def F_trees_one_larger (m_in_falling_order : List PyData→Option PyData) (m_trees_one_larger : List PyData→Option PyData) : DF :=
  (seqD (sOwn 1 (fCons (fCall m_in_falling_order (fCons (op2 dAdd (nm 0) (fTup (fCons (fTup fNil) fNil))) fNil)) fNil))
  (seqD (sFor (iCall enum1 (fCons (nm 0) fNil)) (set2 2 3)
    (sFor (iSeq (fCall m_trees_one_larger (fCons (nm 3) fNil))) (setN 4)
      (sApp 1 (fCall m_in_falling_order (fCons (op2 dAdd (op2 dAdd (fCut (nm 0) oNone (oSome (nm 2))) (fTup (fCons (nm 4) fNil))) (fCut (nm 0) (oSome (op2 dAdd (nm 2) (fC (.int 1)))) oNone)) fNil)))))
  (sRetO 1)))
def m_trees_one_larger (m_in_falling_order : List PyData→Option PyData) : Nat→List PyData→Option PyData
  | 0 => fun _ => none
  | n + 1 => retD ["tree"] ["tree", "larger", "k", "bough", "grown"] (F_trees_one_larger m_in_falling_order (m_trees_one_larger m_in_falling_order n))
theorem od_trees_one_larger {k : Nat} {m_in_falling_order : List PyData→Option PyData} (T_trees_one_larger : Fn K mg "trees_one_larger" s_trees_one_larger ["tree"] f fd)
    {f_in_falling_order : Addr} {fd_in_falling_order : FuncData} (T_in_falling_order : Fn K mg "in_falling_order" s_in_falling_order ["boughs"] f_in_falling_order fd_in_falling_order) (G_in_falling_order : FnOk P w K mg base CX0 k f_in_falling_order fd_in_falling_order ["boughs"] (spD m_in_falling_order)) (z_enumerate : mg "enumerate" = none) : ∀ n,
    FnOk P w K mg base CX0 (k + n + 1) f fd ["tree"] (spD (m_trees_one_larger m_in_falling_order n))
  | 0 => never_okD fun _ _ _ _ ⟨_,_,_,h,_⟩ => by cases h
  | n + 1 => by
    have sc:=sy_trees_one_larger
    have G_trees_one_larger:=od_trees_one_larger (k:=k) (m_in_falling_order:=m_in_falling_order) T_trees_one_larger T_in_falling_order G_in_falling_order z_enumerate n
    have G_in_falling_order:=G_in_falling_order.mono (show k≤k + n + 1 by lia)
    refine okD (k:=k + n + 1) (F:=F_trees_one_larger m_in_falling_order (m_trees_one_larger m_in_falling_order n)) T_trees_one_larger sc fun cdv A outer s H E hr => ?_
    exact (dss_cons (ds_own (i:=1) sc.nd rfl (Or.inl rfl) (da_cons (de_call T_in_falling_order G_in_falling_order hr rfl (da_cons (de_op do_add (de_var (pv 0)) (de_tup (da_cons (de_tup da_nil) da_nil))) da_nil)) da_nil))
  (dss_cons (ds_for PassesOwn.never rfl (di_enum rfl z_enumerate (da_cons (de_var (pv 0)) da_nil)) (dg_two (pg_tup rfl (pgs_cons (pg_name (i:=2) sc.nd rfl (Or.inl rfl)) (pgs_cons (pg_name (i:=3) sc.nd rfl (Or.inl rfl)) pgs_nil))))
    (dss_one (ds_for PassesOwn.never rfl (di_seq (de_call T_trees_one_larger G_trees_one_larger hr rfl (da_cons (de_var (pv 3)) da_nil))) (dg_name (pg_name (i:=4) sc.nd rfl (Or.inl rfl)))
      (dss_one (ds_append (pv 1) (de_call T_in_falling_order G_in_falling_order hr rfl (da_cons (de_op do_add (de_op do_add (de_slice (de_var (pv 0)) do_none (do_some (de_var (pv 2)))) (de_tup (da_cons (de_var (pv 4)) da_nil))) (de_slice (de_var (pv 0)) (do_some (de_op do_add (de_var (pv 2)) de_int)) do_none)) da_nil)) (fun ho ha => ps_expr (pe_bm PySem.F.plainAttrs_list PySem.F.slot_list_append PySem.F.type_list_append mt_append ho ha)))))))
  (dss_one (ds_retO (pv 1)))))
theorem sy_trees_of : FnScope ["many", "trees", "knots", "larger", "tree"] ["many"] (defScope s_trees_of):=⟨rfl,rfl,rfl,by decide +kernel,rfl,by decide +kernel,by decide +kernel⟩
def F_trees_of (m_trees_one_larger : List PyData→Option PyData) : DF :=
  (seqD (sIf (bOr (bCmp (iCmp fun i j => decide (i < j)) (nm 0) (fC (.int 1))) (bCmp (iCmp fun i j => decide (j < i)) (nm 0) (fC (.int 7))))
    sNever
    sNext)
  (seqD (sSet 1 (fLst (fCons (fTup fNil) fNil)))
  (seqD (sFor (iCall rng2 (fCons (fC (.int 1)) (fCons (nm 0) fNil))) (setN 2)
    (seqD (sOwn 3 fNil)
    (seqD (sFor (iSeq (nm 1)) (setN 4)
      (sExt 3 (fCall m_trees_one_larger (fCons (nm 4) fNil))))
    (sFrz 3 (sSet 1 (fun δ => ((nm 3) δ).bind dSortSet))))))
  (sRet (nm 1)))))
def m_trees_of (m_trees_one_larger : List PyData→Option PyData) : List PyData→Option PyData:=retD ["many"] ["many", "trees", "knots", "larger", "tree"] (F_trees_of m_trees_one_larger)
theorem ob_trees_of {k : Nat} {m_trees_one_larger : List PyData→Option PyData}
    {f_trees_one_larger : Addr} {fd_trees_one_larger : FuncData} (T_trees_one_larger : Fn K mg "trees_one_larger" s_trees_one_larger ["tree"] f_trees_one_larger fd_trees_one_larger) (G_trees_one_larger : FnOk P w K mg base CX0 k f_trees_one_larger fd_trees_one_larger ["tree"] (spD m_trees_one_larger)) (z_range : mg "range" = none) (z_set : mg "set" = none) (z_sorted : mg "sorted" = none) {tk_MOST_KNOTS : Tok} (m_MOST_KNOTS : mg "MOST_KNOTS" = some (.int 7 tk_MOST_KNOTS)) (cdv : Value) (A : Around) (outer : List Env) (s : Shared) (H : Hp) (E : XK) (hr : Room k (A.deeper (PyProof.Rows.envOfC "trees_of" (defScope s_trees_of) s.heap.objs.size f cdv))) :
    DSs (cxOf CX0 P w K mg base ["many", "trees", "knots", "larger", "tree"] "trees_of" (defScope s_trees_of) f cdv A outer s H E).nox (defBody s_trees_of) (F_trees_of m_trees_one_larger) := by
  have sc:=sy_trees_of
  exact (dss_cons (ds_if (DW.dt (dw_or (dt_cmp do_lt (de_var (pv 0)) de_int (nomark _)) (dw_one (dt_cmp do_gt (de_var (pv 0)) (de_globI rfl m_MOST_KNOTS) (nomark _)))))
    (dss_one ds_never)
    dss_nil)
  (dss_cons (ds_set (i:=1) sc.nd rfl (Or.inl rfl) (de_lst (da_cons (de_tup da_nil) da_nil)))
  (dss_cons (ds_for PassesOwn.never rfl (di_range2 rfl z_range (da_cons de_int (da_cons (de_var (pv 0)) da_nil))) (dg_name (pg_name (i:=2) sc.nd rfl (Or.inl rfl)))
    (dss_cons (ds_own (i:=3) sc.nd rfl (Or.inl rfl) da_nil)
    (dss_cons (ds_for PassesOwn.never rfl (di_seq (de_var (pv 1))) (dg_name (pg_name (i:=4) sc.nd rfl (Or.inl rfl)))
      (dss_one (ds_extend (pv 3) (de_call T_trees_one_larger G_trees_one_larger hr rfl (da_cons (de_var (pv 4)) da_nil)) (fun ho ha => ps_expr (pe_bm PySem.F.plainAttrs_list PySem.F.slot_list_extend PySem.F.type_list_extend mt_extend ho ha)))))
    (dss_one (ds_frz 3 (ds_set (i:=1) sc.nd rfl (Or.inl rfl) (de_sortSet rfl (by have:=hr.units; exact this) rfl z_sorted rfl z_set (de_var (pv 3)))))))))
  (dss_one (ds_ret (de_var (pv 1)))))))
theorem od_trees_of {k : Nat} {m_trees_one_larger : List PyData→Option PyData} (F : Fn K mg "trees_of" s_trees_of ["many"] f fd)
    {f_trees_one_larger : Addr} {fd_trees_one_larger : FuncData} (T_trees_one_larger : Fn K mg "trees_one_larger" s_trees_one_larger ["tree"] f_trees_one_larger fd_trees_one_larger) (G_trees_one_larger : FnOk P w K mg base CX0 k f_trees_one_larger fd_trees_one_larger ["tree"] (spD m_trees_one_larger)) (z_range : mg "range" = none) (z_set : mg "set" = none) (z_sorted : mg "sorted" = none) {tk_MOST_KNOTS : Tok} (m_MOST_KNOTS : mg "MOST_KNOTS" = some (.int 7 tk_MOST_KNOTS)) :
    FnOk P w K mg base CX0 (k + 1) f fd ["many"] (spD (m_trees_of m_trees_one_larger)):=okD F sy_trees_of (ob_trees_of T_trees_one_larger G_trees_one_larger z_range z_set z_sorted m_MOST_KNOTS)
theorem sy_tree_text : FnScope ["tree"] ["tree"] (defScope s_tree_text):=⟨rfl,rfl,rfl,by decide +kernel,rfl,by decide +kernel,by decide +kernel⟩
def F_tree_text (m_tree_text : List PyData→Option PyData) : DF :=
  (sRet (op2 dAdd (op2 dAdd (fC (.str (Str.ofString "["))) (op2 dJoin (fC (.str (Str.ofString ""))) (compD (set1 1) bYes (fCall m_tree_text (fCons (nm 1) fNil)) [none,none] (iSeq (nm 0))))) (fC (.str (Str.ofString "]")))))
def m_tree_text : Nat→List PyData→Option PyData
  | 0 => fun _ => none
  | n + 1 => retD ["tree"] ["tree"] (F_tree_text (m_tree_text n))
theorem od_tree_text {k : Nat} (T_tree_text : Fn K mg "tree_text" s_tree_text ["tree"] f fd) : ∀ n,
    FnOk P w K mg base CX0 (k + n + 1) f fd ["tree"] (spD (m_tree_text n))
  | 0 => never_okD fun _ _ _ _ ⟨_,_,_,h,_⟩ => by cases h
  | n + 1 => by
    have sc:=sy_tree_text
    have G_tree_text:=od_tree_text (k:=k) T_tree_text n
    refine okD (k:=k + n + 1) (F:=F_tree_text (m_tree_text n)) T_tree_text sc fun cdv A outer s H E hr => ?_
    exact (dss_one (ds_ret (de_op do_add (de_op do_add de_str (de_join de_str (de_comp [".0", "bough"] 1 [none,none] (di_seq (de_var (pv 0))) (fun _ _ _ _ _ => dif_nil) (fun _ _ _ _ _ => (de_call T_tree_text G_tree_text hr rfl (da_cons (de_var (pv 1)) da_nil)))))) de_str)))
theorem sy_shown_tree : FnScope ["tree"] ["tree"] (defScope s_shown_tree):=⟨rfl,rfl,rfl,by decide +kernel,rfl,by decide +kernel,by decide +kernel⟩
def J_shown_tree (m_refuse_no_tree : List PyData→Option Xr) (m_tree_text : List PyData→Option PyData) : DFX :=
  (seqX (xCall m_refuse_no_tree (fCons (nm 0) fNil) fun _ δ => .nx δ)
  (xOf (sRet (fCall m_tree_text (fCons (nm 0) fNil)))))
def m_shown_tree (m_refuse_no_tree : List PyData→Option Xr) (m_tree_text : List PyData→Option PyData) : List PyData→Option Xr:=retX ["tree"] ["tree"] (J_shown_tree m_refuse_no_tree m_tree_text)
theorem ob_shown_tree {k : Nat} {m_refuse_no_tree : List PyData→Option Xr} {m_tree_text : List PyData→Option PyData}
    {f_refuse_no_tree : Addr} {fd_refuse_no_tree : FuncData} (T_refuse_no_tree : Fn K mg "refuse_no_tree" s_refuse_no_tree ["thing"] f_refuse_no_tree fd_refuse_no_tree) (G_refuse_no_tree : FnOk P w K mg base (CXW P w) k f_refuse_no_tree fd_refuse_no_tree ["thing"] (spX m_refuse_no_tree))
    {f_tree_text : Addr} {fd_tree_text : FuncData} (T_tree_text : Fn K mg "tree_text" s_tree_text ["tree"] f_tree_text fd_tree_text) (G_tree_text : FnOk P w K mg base CX0 k f_tree_text fd_tree_text ["tree"] (spD m_tree_text)) (cdv : Value) (A : Around) (outer : List Env) (s : Shared) (H : Hp) (E : XK) (hr : Room k (A.deeper (PyProof.Rows.envOfC "shown_tree" (defScope s_shown_tree) s.heap.objs.size f cdv))) :
    DXs (cxOf (CXW P w) P w K mg base ["tree"] "shown_tree" (defScope s_shown_tree) f cdv A outer s H E) E (defBody s_shown_tree) (J_shown_tree m_refuse_no_tree m_tree_text) := by
  have sc:=sy_shown_tree
  exact (dxs_cons (by exact dx_call T_refuse_no_tree G_refuse_no_tree hr passX (by exact (da_cons (de_var (pv 0)) da_nil)) (fun h => ps_expr h))
  (dxs_of (dss_one (ds_ret (de_call T_tree_text G_tree_text hr rfl (da_cons (de_var (pv 0)) da_nil))))))
theorem ox_shown_tree {k : Nat} {m_refuse_no_tree : List PyData→Option Xr} {m_tree_text : List PyData→Option PyData} (F : Fn K mg "shown_tree" s_shown_tree ["tree"] f fd)
    {f_refuse_no_tree : Addr} {fd_refuse_no_tree : FuncData} (T_refuse_no_tree : Fn K mg "refuse_no_tree" s_refuse_no_tree ["thing"] f_refuse_no_tree fd_refuse_no_tree) (G_refuse_no_tree : FnOk P w K mg base (CXW P w) k f_refuse_no_tree fd_refuse_no_tree ["thing"] (spX m_refuse_no_tree))
    {f_tree_text : Addr} {fd_tree_text : FuncData} (T_tree_text : Fn K mg "tree_text" s_tree_text ["tree"] f_tree_text fd_tree_text) (G_tree_text : FnOk P w K mg base CX0 k f_tree_text fd_tree_text ["tree"] (spD m_tree_text)) :
    FnOk P w K mg base (CXW P w) (k + 1) f fd ["tree"] (spX (m_shown_tree m_refuse_no_tree m_tree_text)):=okX F sy_shown_tree (ob_shown_tree T_refuse_no_tree G_refuse_no_tree T_tree_text G_tree_text)
theorem sy_tree_in : FnScope ["text", "knots", "tree"] ["text"] (defScope s_tree_in):=⟨rfl,rfl,rfl,by decide +kernel,rfl,by decide +kernel,by decide +kernel⟩
def F_tree_in (m_tree_text : List PyData→Option PyData) (m_trees_of : List PyData→Option PyData) : DF :=
  (seqD (sSet 1 (op2 dCount (nm 0) (fC (.str (Str.ofString "[")))))
  (seqD (sIf (bOr (bCmp (iCmp fun i j => decide (i < j)) (nm 1) (fC (.int 1))) (bCmp (iCmp fun i j => decide (j < i)) (nm 1) (fC (.int 7))))
    (sRet (fC .none))
    sNext)
  (seqD (sFor (iSeq (fCall m_trees_of (fCons (nm 1) fNil))) (setN 2)
    (sIf (bCmp (dEq false) (fCall m_tree_text (fCons (nm 2) fNil)) (nm 0))
      (sRet (nm 2))
      sNext))
  (sRet (fC .none)))))
def m_tree_in (m_tree_text : List PyData→Option PyData) (m_trees_of : List PyData→Option PyData) : List PyData→Option PyData:=retD ["text"] ["text", "knots", "tree"] (F_tree_in m_tree_text m_trees_of)
theorem ob_tree_in {k : Nat} {m_tree_text : List PyData→Option PyData} {m_trees_of : List PyData→Option PyData}
    {f_tree_text : Addr} {fd_tree_text : FuncData} (T_tree_text : Fn K mg "tree_text" s_tree_text ["tree"] f_tree_text fd_tree_text) (G_tree_text : FnOk P w K mg base CX0 k f_tree_text fd_tree_text ["tree"] (spD m_tree_text))
    {f_trees_of : Addr} {fd_trees_of : FuncData} (T_trees_of : Fn K mg "trees_of" s_trees_of ["many"] f_trees_of fd_trees_of) (G_trees_of : FnOk P w K mg base CX0 k f_trees_of fd_trees_of ["many"] (spD m_trees_of)) {tk_MOST_KNOTS : Tok} (m_MOST_KNOTS : mg "MOST_KNOTS" = some (.int 7 tk_MOST_KNOTS)) (cdv : Value) (A : Around) (outer : List Env) (s : Shared) (H : Hp) (E : XK) (hr : Room k (A.deeper (PyProof.Rows.envOfC "tree_in" (defScope s_tree_in) s.heap.objs.size f cdv))) :
    DSs (cxOf CX0 P w K mg base ["text", "knots", "tree"] "tree_in" (defScope s_tree_in) f cdv A outer s H E).nox (defBody s_tree_in) (F_tree_in m_tree_text m_trees_of) := by
  have sc:=sy_tree_in
  exact (dss_cons (ds_set (i:=1) sc.nd rfl (Or.inl rfl) (de_count (de_var (pv 0)) de_str))
  (dss_cons (ds_if (DW.dt (dw_or (dt_cmp do_lt (de_var (pv 1)) de_int (nomark _)) (dw_one (dt_cmp do_gt (de_var (pv 1)) (de_globI rfl m_MOST_KNOTS) (nomark _)))))
    (dss_one (ds_ret de_non))
    dss_nil)
  (dss_cons (ds_for PassesOwn.never rfl (di_seq (de_call T_trees_of G_trees_of hr rfl (da_cons (de_var (pv 1)) da_nil))) (dg_name (pg_name (i:=2) sc.nd rfl (Or.inl rfl)))
    (dss_one (ds_if (dt_cmp (do_eq (by have:=hr.units; exact this)) (de_call T_tree_text G_tree_text hr rfl (da_cons (de_var (pv 2)) da_nil)) (de_var (pv 0)) (nomark _))
      (dss_one (ds_ret (de_var (pv 2))))
      dss_nil)))
  (dss_one (ds_ret de_non)))))
theorem od_tree_in {k : Nat} {m_tree_text : List PyData→Option PyData} {m_trees_of : List PyData→Option PyData} (F : Fn K mg "tree_in" s_tree_in ["text"] f fd)
    {f_tree_text : Addr} {fd_tree_text : FuncData} (T_tree_text : Fn K mg "tree_text" s_tree_text ["tree"] f_tree_text fd_tree_text) (G_tree_text : FnOk P w K mg base CX0 k f_tree_text fd_tree_text ["tree"] (spD m_tree_text))
    {f_trees_of : Addr} {fd_trees_of : FuncData} (T_trees_of : Fn K mg "trees_of" s_trees_of ["many"] f_trees_of fd_trees_of) (G_trees_of : FnOk P w K mg base CX0 k f_trees_of fd_trees_of ["many"] (spD m_trees_of)) {tk_MOST_KNOTS : Tok} (m_MOST_KNOTS : mg "MOST_KNOTS" = some (.int 7 tk_MOST_KNOTS)) :
    FnOk P w K mg base CX0 (k + 1) f fd ["text"] (spD (m_tree_in m_tree_text m_trees_of)):=okD F sy_tree_in (ob_tree_in T_tree_text G_tree_text T_trees_of G_trees_of m_MOST_KNOTS)
theorem sy_read_tree : FnScope ["text", "tree"] ["text"] (defScope s_read_tree):=⟨rfl,rfl,rfl,by decide +kernel,rfl,by decide +kernel,by decide +kernel⟩
def J_read_tree (m_tree_in : List PyData→Option PyData) (C_NoText : Addr) : DFX :=
  (seqX (xOf (sSet 1 (fCall m_tree_in (fCons (nm 0) fNil))))
  (seqX (xIf (bCmp (dIs false) (nm 1) (fC .none))
    (xRaise C_NoText (fC (.str (Str.ofString "a tree is written as brackets around its boughs in falling order, seven knots at most"))))
    (fun δ => some (.inl (.nx δ))))
  (xOf (sRet (nm 1)))))
def m_read_tree (m_tree_in : List PyData→Option PyData) (C_NoText : Addr) : List PyData→Option Xr:=retX ["text"] ["text", "tree"] (J_read_tree m_tree_in C_NoText)
theorem ob_read_tree {k : Nat} {m_tree_in : List PyData→Option PyData} {C_NoText : Addr}
    {f_tree_in : Addr} {fd_tree_in : FuncData} (T_tree_in : Fn K mg "tree_in" s_tree_in ["text"] f_tree_in fd_tree_in) (G_tree_in : FnOk P w K mg base CX0 k f_tree_in fd_tree_in ["text"] (spD m_tree_in)) (X_NoText : Exc K mg "NoText" C_NoText) (cdv : Value) (A : Around) (outer : List Env) (s : Shared) (H : Hp) (E : XK) (hr : Room k (A.deeper (PyProof.Rows.envOfC "read_tree" (defScope s_read_tree) s.heap.objs.size f cdv))) :
    DXs (cxOf (CXW P w) P w K mg base ["text", "tree"] "read_tree" (defScope s_read_tree) f cdv A outer s H E) E (defBody s_read_tree) (J_read_tree m_tree_in C_NoText) := by
  have sc:=sy_read_tree
  exact (dxs_cons (dx_of (ds_set (i:=1) sc.nd rfl (Or.inl rfl) (de_call T_tree_in G_tree_in hr rfl (da_cons (de_var (pv 0)) da_nil))))
  (dxs_cons (dx_if (dt_cmp do_is (de_var (pv 1)) de_non (nomark _))
    (dxs_one (by exact dx_raise X_NoText letsX de_str))
    dxs_nil)
  (dxs_of (dss_one (ds_ret (de_var (pv 1)))))))
theorem ox_read_tree {k : Nat} {m_tree_in : List PyData→Option PyData} {C_NoText : Addr} (F : Fn K mg "read_tree" s_read_tree ["text"] f fd)
    {f_tree_in : Addr} {fd_tree_in : FuncData} (T_tree_in : Fn K mg "tree_in" s_tree_in ["text"] f_tree_in fd_tree_in) (G_tree_in : FnOk P w K mg base CX0 k f_tree_in fd_tree_in ["text"] (spD m_tree_in)) (X_NoText : Exc K mg "NoText" C_NoText) :
    FnOk P w K mg base (CXW P w) (k + 1) f fd ["text"] (spX (m_read_tree m_tree_in C_NoText)):=okX F sy_read_tree (ob_read_tree T_tree_in G_tree_in X_NoText)
theorem sy__law_text : FnScope ["_law_tree"] ["_law_tree"] (defScope s__law_text):=⟨rfl,rfl,rfl,by decide +kernel,rfl,by decide +kernel,by decide +kernel⟩
def F__law_text (m__law_text : List PyData→Option PyData) : DF :=
  (sRet (op2 dAdd (op2 dAdd (fC (.str (Str.ofString "["))) (op2 dJoin (fC (.str (Str.ofString ""))) (compD (set1 1) bYes (fCall m__law_text (fCons (nm 1) fNil)) [none,none] (iSeq (nm 0))))) (fC (.str (Str.ofString "]")))))
def m__law_text : Nat→List PyData→Option PyData
  | 0 => fun _ => none
  | n + 1 => retD ["_law_tree"] ["_law_tree"] (F__law_text (m__law_text n))
theorem od__law_text {k : Nat} (T__law_text : Fn K mg "_law_text" s__law_text ["_law_tree"] f fd) : ∀ n,
    FnOk P w K mg base CX0 (k + n + 1) f fd ["_law_tree"] (spD (m__law_text n))
  | 0 => never_okD fun _ _ _ _ ⟨_,_,_,h,_⟩ => by cases h
  | n + 1 => by
    have sc:=sy__law_text
    have G__law_text:=od__law_text (k:=k) T__law_text n
    refine okD (k:=k + n + 1) (F:=F__law_text (m__law_text n)) T__law_text sc fun cdv A outer s H E hr => ?_
    exact (dss_one (ds_ret (de_op do_add (de_op do_add de_str (de_join de_str (de_comp [".0", "_law_bough"] 1 [none,none] (di_seq (de_var (pv 0))) (fun _ _ _ _ _ => dif_nil) (fun _ _ _ _ _ => (de_call T__law_text G__law_text hr rfl (da_cons (de_var (pv 1)) da_nil)))))) de_str)))
theorem sy__law_spoilt : FnScope ["_law_text_here", "_law_number", "_law_at", "_law_to", "_law_mode"] ["_law_text_here", "_law_number"] (defScope s__law_spoilt):=⟨rfl,rfl,rfl,by decide +kernel,rfl,by decide +kernel,by decide +kernel⟩
def F__law_spoilt : DF :=
  (seqD (sSet 2 (op2 iMod (op2 iDiv (nm 1) (fC (.int 8))) (op2 dAdd (fCall dLenS (fCons (nm 0) fNil)) (fC (.int 1)))))
  (seqD (sSet 3 (op2 iMod (op2 iDiv (nm 1) (fC (.int 512))) (op2 dAdd (fCall dLenS (fCons (nm 0) fNil)) (fC (.int 1)))))
  (seqD (sSet 4 (op2 iMod (nm 1) (fC (.int 8))))
  (seqD (sIf (bCmp (dEq false) (nm 4) (fC (.int 0)))
    (sRet (op2 dAdd (op2 dAdd (op2 dSlT (nm 0) (nm 2)) (op2 dIx (fC (.str (Str.ofString "[]"))) (op2 iMod (op2 iDiv (nm 1) (fC (.int 64))) (fC (.int 2))))) (op2 dSlF (nm 0) (nm 2))))
    sNext)
  (seqD (sIf (bCmp (dEq false) (nm 4) (fC (.int 1)))
    (sRet (op2 dAdd (op2 dSlT (nm 0) (nm 2)) (op2 dSlF (nm 0) (op2 dAdd (nm 2) (fC (.int 1))))))
    sNext)
  (seqD (sIf (bCmp (dEq false) (nm 4) (fC (.int 2)))
    (sRet (op2 dAdd (op2 dAdd (op2 dSlT (nm 0) (nm 2)) (op2 dIx (fC (.str (Str.ofString "[]"))) (op2 iMod (op2 iDiv (nm 1) (fC (.int 64))) (fC (.int 2))))) (op2 dSlF (nm 0) (op2 dAdd (nm 2) (fC (.int 1))))))
    sNext)
  (seqD (sIf (bCmp (dEq false) (nm 4) (fC (.int 3)))
    (sRet (op2 dAdd (op2 dSlF (nm 0) (nm 2)) (op2 dSlT (nm 0) (nm 2))))
    sNext)
  (seqD (sIf (bCmp (dEq false) (nm 4) (fC (.int 4)))
    (sRet (op2 dAdd (op2 dAdd (op2 dSlT (nm 0) (nm 2)) (op2 dIx (fC (.str (Str.ofString " (){}0,\n"))) (op2 iMod (op2 iDiv (nm 1) (fC (.int 64))) (fC (.int 8))))) (op2 dSlF (nm 0) (nm 2))))
    sNext)
  (seqD (sIf (bCmp (dEq false) (nm 4) (fC (.int 5)))
    (sRet (op2 dAdd (op2 dAdd (op2 dSlT (nm 0) (fCall dMinI (fCons (nm 2) (fCons (nm 3) fNil)))) (fC (.str (Str.ofString "[]")))) (fSlFT (nm 0) (fCall dMinI (fCons (nm 2) (fCons (nm 3) fNil))) (fCall dMaxI (fCons (nm 2) (fCons (nm 3) fNil))))))
    sNext)
  (sRet (nm 0)))))))))))
def m__law_spoilt : List PyData→Option PyData:=retD ["_law_text_here", "_law_number"] ["_law_text_here", "_law_number", "_law_at", "_law_to", "_law_mode"] (F__law_spoilt)
theorem ob__law_spoilt {k : Nat} (z_len : mg "len" = none) (z_max : mg "max" = none) (z_min : mg "min" = none) (cdv : Value) (A : Around) (outer : List Env) (s : Shared) (H : Hp) (E : XK) (hr : Room k (A.deeper (PyProof.Rows.envOfC "_law_spoilt" (defScope s__law_spoilt) s.heap.objs.size f cdv))) :
    DSs (cxOf CX0 P w K mg base ["_law_text_here", "_law_number", "_law_at", "_law_to", "_law_mode"] "_law_spoilt" (defScope s__law_spoilt) f cdv A outer s H E).nox (defBody s__law_spoilt) (F__law_spoilt) := by
  have sc:=sy__law_spoilt
  exact (dss_cons (ds_set (i:=2) sc.nd rfl (Or.inl rfl) (de_op do_iMod (de_op do_iDiv (de_var (pv 1)) de_int) (de_op do_add (de_callB dc_lenS rfl z_len PySem.boot_len (da_cons (de_var (pv 0)) da_nil)) de_int)))
  (dss_cons (ds_set (i:=3) sc.nd rfl (Or.inl rfl) (de_op do_iMod (de_op do_iDiv (de_var (pv 1)) de_int) (de_op do_add (de_callB dc_lenS rfl z_len PySem.boot_len (da_cons (de_var (pv 0)) da_nil)) de_int)))
  (dss_cons (ds_set (i:=4) sc.nd rfl (Or.inl rfl) (de_op do_iMod (de_var (pv 1)) de_int))
  (dss_cons (ds_if (dt_cmp (do_eq (by have:=hr.units; exact this)) (de_var (pv 4)) de_int (nomark _))
    (dss_one (ds_ret (de_op do_add (de_op do_add (de_slT (de_var (pv 0)) (de_var (pv 2))) (de_ix de_str (de_op do_iMod (de_op do_iDiv (de_var (pv 1)) de_int) de_int) (fun _ _ => rfl))) (de_slF (de_var (pv 0)) (de_var (pv 2))))))
    dss_nil)
  (dss_cons (ds_if (dt_cmp (do_eq (by have:=hr.units; exact this)) (de_var (pv 4)) de_int (nomark _))
    (dss_one (ds_ret (de_op do_add (de_slT (de_var (pv 0)) (de_var (pv 2))) (de_slF (de_var (pv 0)) (de_op do_add (de_var (pv 2)) de_int)))))
    dss_nil)
  (dss_cons (ds_if (dt_cmp (do_eq (by have:=hr.units; exact this)) (de_var (pv 4)) de_int (nomark _))
    (dss_one (ds_ret (de_op do_add (de_op do_add (de_slT (de_var (pv 0)) (de_var (pv 2))) (de_ix de_str (de_op do_iMod (de_op do_iDiv (de_var (pv 1)) de_int) de_int) (fun _ _ => rfl))) (de_slF (de_var (pv 0)) (de_op do_add (de_var (pv 2)) de_int)))))
    dss_nil)
  (dss_cons (ds_if (dt_cmp (do_eq (by have:=hr.units; exact this)) (de_var (pv 4)) de_int (nomark _))
    (dss_one (ds_ret (de_op do_add (de_slF (de_var (pv 0)) (de_var (pv 2))) (de_slT (de_var (pv 0)) (de_var (pv 2))))))
    dss_nil)
  (dss_cons (ds_if (dt_cmp (do_eq (by have:=hr.units; exact this)) (de_var (pv 4)) de_int (nomark _))
    (dss_one (ds_ret (de_op do_add (de_op do_add (de_slT (de_var (pv 0)) (de_var (pv 2))) (de_ix de_str (de_op do_iMod (de_op do_iDiv (de_var (pv 1)) de_int) de_int) (fun _ _ => rfl))) (de_slF (de_var (pv 0)) (de_var (pv 2))))))
    dss_nil)
  (dss_cons (ds_if (dt_cmp (do_eq (by have:=hr.units; exact this)) (de_var (pv 4)) de_int (nomark _))
    (dss_one (ds_ret (de_op do_add (de_op do_add (de_slT (de_var (pv 0)) (de_callB (dc_min rfl) rfl z_min PyProof.Rows.boot_min (da_cons (de_var (pv 2)) (da_cons (de_var (pv 3)) da_nil)))) de_str) (de_slFT (de_var (pv 0)) (de_callB (dc_min rfl) rfl z_min PyProof.Rows.boot_min (da_cons (de_var (pv 2)) (da_cons (de_var (pv 3)) da_nil))) (de_callB (dc_max rfl) rfl z_max PyProof.Rows.boot_max (da_cons (de_var (pv 2)) (da_cons (de_var (pv 3)) da_nil)))))))
    dss_nil)
  (dss_one (ds_ret (de_var (pv 0)))))))))))))
theorem od__law_spoilt {k : Nat} (F : Fn K mg "_law_spoilt" s__law_spoilt ["_law_text_here", "_law_number"] f fd) (z_len : mg "len" = none) (z_max : mg "max" = none) (z_min : mg "min" = none) :
    FnOk P w K mg base CX0 (k + 1) f fd ["_law_text_here", "_law_number"] (spD (m__law_spoilt)):=okD F sy__law_spoilt (ob__law_spoilt z_len z_max z_min)
theorem sy__law_reader : FnScope ["_law_text_here", "_law_boughs", "_law_deep", "_law_begun", "_law_k", "_law_bough"] ["_law_text_here"] (defScope s__law_reader):=⟨rfl,rfl,rfl,by decide +kernel,rfl,by decide +kernel,by decide +kernel⟩
def F__law_reader (m__law_reader : List PyData→Option PyData) : DF :=
  (seqD (sIf (bOr (bCmp (dEq true) (op2 dSlT (nm 0) (fC (.int 1))) (fC (.str (Str.ofString "[")))) (bCmp (dEq true) (op2 dSlF (nm 0) (fNeg (fC (.int 1)))) (fC (.str (Str.ofString "]")))))
    (sRet (fC .none))
    sNext)
  (seqD (sOwn 1 fNil)
  (seqD (sSet 2 (fC (.int 0)))
  (seqD (sSet 3 (fC (.int 1)))
  (seqD (sFor (iCall rng2 (fCons (fC (.int 1)) (fCons (op2 iSub (fCall dLenS (fCons (nm 0) fNil)) (fC (.int 1))) fNil))) (setN 4)
    (seqD (sIf (bCmp dNotInS (op2 dIx (nm 0) (nm 4)) (fC (.str (Str.ofString "[]"))))
      (sRet (fC .none))
      sNext)
    (seqD (sSet 2 (op2 dAdd (nm 2) (op2 dIx (fLst (fCons (fC (.int 1)) (fCons (fNeg (fC (.int 1))) fNil))) (fCall dInt (fCons (op2 (dEq false) (op2 dIx (nm 0) (nm 4)) (fC (.str (Str.ofString "]")))) fNil)))))
    (seqD (sIf (bCmp (iCmp fun i j => decide (i < j)) (nm 2) (fC (.int 0)))
      (sRet (fC .none))
      sNext)
    (sIf (bCmp (dEq false) (nm 2) (fC (.int 0)))
      (seqD (sSet 5 (fCall m__law_reader (fCons (fSlFT (nm 0) (nm 3) (op2 dAdd (nm 4) (fC (.int 1)))) fNil)))
      (seqD (sIf (bLeaf (bOr (bCmp (dIs false) (nm 5) (fC .none)) (bAnd (bCmp (dEq true) (nm 1) (fLst fNil)) (bCmp dGtTr (nm 5) (op2 dIx (nm 1) (fNeg (fC (.int 1))))))))
        (sRet (fC .none))
        sNext)
      (seqD (sApp 1 (nm 5))
      (sSet 3 (op2 dAdd (nm 4) (fC (.int 1)))))))
      sNext)))))
  (seqD (sIf (bCmp (dEq true) (nm 2) (fC (.int 0)))
    (sRet (fC .none))
    sNext)
  (sFrz 1 (sRet (fCall dTupleOf (fCons (nm 1) fNil))))))))))
def m__law_reader : Nat→List PyData→Option PyData
  | 0 => fun _ => none
  | n + 1 => retD ["_law_text_here"] ["_law_text_here", "_law_boughs", "_law_deep", "_law_begun", "_law_k", "_law_bough"] (F__law_reader (m__law_reader n))
theorem od__law_reader {k : Nat} (T__law_reader : Fn K mg "_law_reader" s__law_reader ["_law_text_here"] f fd) (z_int : mg "int" = none) (z_len : mg "len" = none) (z_range : mg "range" = none) (z_tuple : mg "tuple" = none) : ∀ n,
    FnOk P w K mg base CX0 (k + n + 1) f fd ["_law_text_here"] (spD (m__law_reader n))
  | 0 => never_okD fun _ _ _ _ ⟨_,_,_,h,_⟩ => by cases h
  | n + 1 => by
    have sc:=sy__law_reader
    have G__law_reader:=od__law_reader (k:=k) T__law_reader z_int z_len z_range z_tuple n
    refine okD (k:=k + n + 1) (F:=F__law_reader (m__law_reader n)) T__law_reader sc fun cdv A outer s H E hr => ?_
    exact (dss_cons (ds_if (DW.dt (dw_or (dt_cmp (do_ne (by have:=hr.units; exact this)) (de_slT (de_var (pv 0)) de_int) de_str (nomark _)) (dw_one (dt_cmp (do_ne (by have:=hr.units; exact this)) (de_slF (de_var (pv 0)) (de_neg de_int)) de_str (nomark _)))))
    (dss_one (ds_ret de_non))
    dss_nil)
  (dss_cons (ds_own (i:=1) sc.nd rfl (Or.inl rfl) da_nil)
  (dss_cons (ds_set (i:=2) sc.nd rfl (Or.inl rfl) de_int)
  (dss_cons (ds_set (i:=3) sc.nd rfl (Or.inl rfl) de_int)
  (dss_cons (ds_for PassesOwn.never rfl (di_range2 rfl z_range (da_cons de_int (da_cons (de_op do_iSub (de_callB dc_lenS rfl z_len PySem.boot_len (da_cons (de_var (pv 0)) da_nil)) de_int) da_nil))) (dg_name (pg_name (i:=4) sc.nd rfl (Or.inl rfl)))
    (dss_cons (ds_if (dt_cmp do_notInS (de_ix (de_var (pv 0)) (de_var (pv 4)) (fun _ _ => rfl)) de_str rfl)
      (dss_one (ds_ret de_non))
      dss_nil)
    (dss_cons (ds_set (i:=2) sc.nd rfl (Or.inl rfl) (de_op do_add (de_var (pv 2)) (de_ix (de_lst (da_cons de_int (da_cons (de_neg de_int) da_nil))) (de_callTy dc_int rfl z_int PyProof.Rows.boot_int (da_cons (de_cmp (do_eq (by have:=hr.units; exact this)) (de_ix (de_var (pv 0)) (de_var (pv 4)) (fun _ _ => rfl)) de_str (nomark _)) da_nil)) (fun _ _ => rfl))))
    (dss_cons (ds_if (dt_cmp do_lt (de_var (pv 2)) de_int (nomark _))
      (dss_one (ds_ret de_non))
      dss_nil)
    (dss_one (ds_if (dt_cmp (do_eq (by have:=hr.units; exact this)) (de_var (pv 2)) de_int (nomark _))
      (dss_cons (ds_set (i:=5) sc.nd rfl (Or.inl rfl) (de_call T__law_reader G__law_reader hr rfl (da_cons (de_slFT (de_var (pv 0)) (de_var (pv 3)) (de_op do_add (de_var (pv 4)) de_int)) da_nil)))
      (dss_cons (ds_if (dt_leaf (DW.dt (dw_or (dt_cmp do_is (de_var (pv 5)) de_non (nomark _)) (dw_one (DW.dt (dw_and (dt_cmp (do_ne (by have:=hr.units; exact this)) (de_var (pv 1)) (de_lst da_nil) (nomark _)) (dw_one (dt_cmp (do_gtTr (by have:=hr.units; exact this)) (de_var (pv 5)) (de_ix (de_var (pv 1)) (de_neg de_int) (fun _ _ => rfl)) (nomark _)))))))))
        (dss_one (ds_ret de_non))
        dss_nil)
      (dss_cons (ds_append (pv 1) (de_var (pv 5)) (fun ho ha => ps_expr (pe_bm PySem.F.plainAttrs_list PySem.F.slot_list_append PySem.F.type_list_append mt_append ho ha)))
      (dss_one (ds_set (i:=3) sc.nd rfl (Or.inl rfl) (de_op do_add (de_var (pv 4)) de_int))))))
      dss_nil))))))
  (dss_cons (ds_if (dt_cmp (do_ne (by have:=hr.units; exact this)) (de_var (pv 2)) de_int (nomark _))
    (dss_one (ds_ret de_non))
    dss_nil)
  (dss_one (ds_frz 1 (ds_ret (de_callTy dc_tuple rfl z_tuple PyProof.Rows.boot_tuple (da_cons (de_var (pv 1)) da_nil)))))))))))
theorem sy__law_tuples : FnScope ["_law_thing", "_law_one"] ["_law_thing"] (defScope s__law_tuples):=⟨rfl,rfl,rfl,by decide +kernel,rfl,by decide +kernel,by decide +kernel⟩
def F__law_tuples (m__law_tuples : List PyData→Option PyData) : DF :=
  (seqD (sIf (bNot (bVal (fIsi isTupD (nm 0))))
    (sRet (fC (.bool false)))
    sNext)
  (seqD (sFor (iSeq (nm 0)) (setN 1)
    (sIf (bNot (bVal (fCall m__law_tuples (fCons (nm 1) fNil))))
      (sRet (fC (.bool false)))
      sNext))
  (sRet (fC (.bool true)))))
def m__law_tuples : Nat→List PyData→Option PyData
  | 0 => fun _ => none
  | n + 1 => retD ["_law_thing"] ["_law_thing", "_law_one"] (F__law_tuples (m__law_tuples n))
theorem od__law_tuples {k : Nat} (T__law_tuples : Fn K mg "_law_tuples" s__law_tuples ["_law_thing"] f fd) (z_isinstance : mg "isinstance" = none) (z_tuple : mg "tuple" = none) : ∀ n,
    FnOk P w K mg base CX0 (k + n + 1) f fd ["_law_thing"] (spD (m__law_tuples n))
  | 0 => never_okD fun _ _ _ _ ⟨_,_,_,h,_⟩ => by cases h
  | n + 1 => by
    have sc:=sy__law_tuples
    have G__law_tuples:=od__law_tuples (k:=k) T__law_tuples z_isinstance z_tuple n
    refine okD (k:=k + n + 1) (F:=F__law_tuples (m__law_tuples n)) T__law_tuples sc fun cdv A outer s H E hr => ?_
    exact (dss_cons (ds_if (dt_not (dt_val (de_isi (kit_tupD _) rfl z_isinstance rfl z_tuple PyProof.Rows.boot_tuple (de_var (pv 0)))))
    (dss_one (ds_ret de_bl))
    dss_nil)
  (dss_cons (ds_for PassesOwn.never rfl (di_seq (de_var (pv 0))) (dg_name (pg_name (i:=1) sc.nd rfl (Or.inl rfl)))
    (dss_one (ds_if (dt_not (dt_val (de_call T__law_tuples G__law_tuples hr rfl (da_cons (de_var (pv 1)) da_nil))))
      (dss_one (ds_ret de_bl))
      dss_nil)))
  (dss_one (ds_ret de_bl))))
theorem sy__law_alone : FnScope ["_law_error", "_law_told"] ["_law_error"] (defScope s__law_alone):=⟨rfl,rfl,rfl,by decide +kernel,rfl,by decide +kernel,by decide +kernel⟩
def F__law_alone (kt_GroveError : Addr→Option Bool) (kt_NoBottom : Addr→Option Bool) (kt_NoChange : Addr→Option Bool) (kt_NoLine : Addr→Option Bool) (kt_NoName : Addr→Option Bool) (kt_NoParts : Addr→Option Bool) (kt_NoStart : Addr→Option Bool) (kt_NoTable : Addr→Option Bool) (kt_NoText : Addr→Option Bool) (kt_NoTree : Addr→Option Bool) (kt_NoWeighing : Addr→Option Bool) (kt_NotAlike : Addr→Option Bool) (kt_TooMany : Addr→Option Bool) (kt_ValueError : Addr→Option Bool) : DF :=
  (seqD (sIf (bOr (bNot (bVal (fIsx kt_GroveError (nm 0)))) (bNot (bVal (fIsx kt_ValueError (nm 0)))))
    (sRet (fC (.bool false)))
    sNext)
  (seqD (sSet 1 (fLst (fCons (fIsx kt_NoBottom (nm 0)) (fCons (fIsx kt_NoChange (nm 0)) (fCons (fIsx kt_NoLine (nm 0)) fNil)))))
  (seqD (sSet 1 (op2 dAdd (nm 1) (fLst (fCons (fIsx kt_NoName (nm 0)) (fCons (fIsx kt_NoParts (nm 0)) (fCons (fIsx kt_NoStart (nm 0)) fNil))))))
  (seqD (sSet 1 (op2 dAdd (nm 1) (fLst (fCons (fIsx kt_NotAlike (nm 0)) (fCons (fIsx kt_NoTable (nm 0)) (fCons (fIsx kt_NoText (nm 0)) fNil))))))
  (seqD (sSet 1 (op2 dAdd (nm 1) (fLst (fCons (fIsx kt_NoTree (nm 0)) (fCons (fIsx kt_NoWeighing (nm 0)) (fCons (fIsx kt_TooMany (nm 0)) fNil))))))
  (sRet (op2 (dEq false) (fCall dLen (fCons (compD (set1 1) (bVal (nm 1)) (nm 1) [none,none] (iSeq (nm 1))) fNil)) (fC (.int 1)))))))))
def m__law_alone (kt_GroveError : Addr→Option Bool) (kt_NoBottom : Addr→Option Bool) (kt_NoChange : Addr→Option Bool) (kt_NoLine : Addr→Option Bool) (kt_NoName : Addr→Option Bool) (kt_NoParts : Addr→Option Bool) (kt_NoStart : Addr→Option Bool) (kt_NoTable : Addr→Option Bool) (kt_NoText : Addr→Option Bool) (kt_NoTree : Addr→Option Bool) (kt_NoWeighing : Addr→Option Bool) (kt_NotAlike : Addr→Option Bool) (kt_TooMany : Addr→Option Bool) (kt_ValueError : Addr→Option Bool) : List PyData→Option PyData:=retD ["_law_error"] ["_law_error", "_law_told"] (F__law_alone kt_GroveError kt_NoBottom kt_NoChange kt_NoLine kt_NoName kt_NoParts kt_NoStart kt_NoTable kt_NoText kt_NoTree kt_NoWeighing kt_NotAlike kt_TooMany kt_ValueError)
theorem ob__law_alone {k : Nat} {C_GroveError : Addr} {C_NoBottom : Addr} {C_NoChange : Addr} {C_NoLine : Addr} {C_NoName : Addr} {C_NoParts : Addr} {C_NoStart : Addr} {C_NoTable : Addr} {C_NoText : Addr} {C_NoTree : Addr} {C_NoWeighing : Addr} {C_NotAlike : Addr} {C_TooMany : Addr} {kt_GroveError : Addr→Option Bool} {kt_NoBottom : Addr→Option Bool} {kt_NoChange : Addr→Option Bool} {kt_NoLine : Addr→Option Bool} {kt_NoName : Addr→Option Bool} {kt_NoParts : Addr→Option Bool} {kt_NoStart : Addr→Option Bool} {kt_NoTable : Addr→Option Bool} {kt_NoText : Addr→Option Bool} {kt_NoTree : Addr→Option Bool} {kt_NoWeighing : Addr→Option Bool} {kt_NotAlike : Addr→Option Bool} {kt_TooMany : Addr→Option Bool} {kt_ValueError : Addr→Option Bool} (z_ValueError : mg "ValueError" = none) (z_isinstance : mg "isinstance" = none) (z_len : mg "len" = none) (m_GroveError : mg "GroveError" = some (.ref C_GroveError)) (m_NoBottom : mg "NoBottom" = some (.ref C_NoBottom)) (m_NoChange : mg "NoChange" = some (.ref C_NoChange)) (m_NoLine : mg "NoLine" = some (.ref C_NoLine)) (m_NoName : mg "NoName" = some (.ref C_NoName)) (m_NoParts : mg "NoParts" = some (.ref C_NoParts)) (m_NoStart : mg "NoStart" = some (.ref C_NoStart)) (m_NoTable : mg "NoTable" = some (.ref C_NoTable)) (m_NoText : mg "NoText" = some (.ref C_NoText)) (m_NoTree : mg "NoTree" = some (.ref C_NoTree)) (m_NoWeighing : mg "NoWeighing" = some (.ref C_NoWeighing)) (m_NotAlike : mg "NotAlike" = some (.ref C_NotAlike)) (m_TooMany : mg "TooMany" = some (.ref C_TooMany)) (kh_GroveError : ∀ C b,kt_GroveError C = some b→ExcK K C∧PySem.W.kitOne K (.ref C) (clsV (.ref C_GroveError)) = some b) (kh_NoBottom : ∀ C b,kt_NoBottom C = some b→ExcK K C∧PySem.W.kitOne K (.ref C) (clsV (.ref C_NoBottom)) = some b) (kh_NoChange : ∀ C b,kt_NoChange C = some b→ExcK K C∧PySem.W.kitOne K (.ref C) (clsV (.ref C_NoChange)) = some b) (kh_NoLine : ∀ C b,kt_NoLine C = some b→ExcK K C∧PySem.W.kitOne K (.ref C) (clsV (.ref C_NoLine)) = some b) (kh_NoName : ∀ C b,kt_NoName C = some b→ExcK K C∧PySem.W.kitOne K (.ref C) (clsV (.ref C_NoName)) = some b) (kh_NoParts : ∀ C b,kt_NoParts C = some b→ExcK K C∧PySem.W.kitOne K (.ref C) (clsV (.ref C_NoParts)) = some b) (kh_NoStart : ∀ C b,kt_NoStart C = some b→ExcK K C∧PySem.W.kitOne K (.ref C) (clsV (.ref C_NoStart)) = some b) (kh_NoTable : ∀ C b,kt_NoTable C = some b→ExcK K C∧PySem.W.kitOne K (.ref C) (clsV (.ref C_NoTable)) = some b) (kh_NoText : ∀ C b,kt_NoText C = some b→ExcK K C∧PySem.W.kitOne K (.ref C) (clsV (.ref C_NoText)) = some b) (kh_NoTree : ∀ C b,kt_NoTree C = some b→ExcK K C∧PySem.W.kitOne K (.ref C) (clsV (.ref C_NoTree)) = some b) (kh_NoWeighing : ∀ C b,kt_NoWeighing C = some b→ExcK K C∧PySem.W.kitOne K (.ref C) (clsV (.ref C_NoWeighing)) = some b) (kh_NotAlike : ∀ C b,kt_NotAlike C = some b→ExcK K C∧PySem.W.kitOne K (.ref C) (clsV (.ref C_NotAlike)) = some b) (kh_TooMany : ∀ C b,kt_TooMany C = some b→ExcK K C∧PySem.W.kitOne K (.ref C) (clsV (.ref C_TooMany)) = some b) (kh_ValueError : ∀ C b,kt_ValueError C = some b→ExcK K C∧PySem.W.kitOne K (.ref C) (clsV (.ty "ValueError")) = some b) (cdv : Value) (A : Around) (outer : List Env) (s : Shared) (H : Hp) (E : XK) (hr : Room k (A.deeper (PyProof.Rows.envOfC "_law_alone" (defScope s__law_alone) s.heap.objs.size f cdv))) :
    DSs (cxOf CX0 P w K mg base ["_law_error", "_law_told"] "_law_alone" (defScope s__law_alone) f cdv A outer s H E).nox (defBody s__law_alone) (F__law_alone kt_GroveError kt_NoBottom kt_NoChange kt_NoLine kt_NoName kt_NoParts kt_NoStart kt_NoTable kt_NoText kt_NoTree kt_NoWeighing kt_NotAlike kt_TooMany kt_ValueError) := by
  have sc:=sy__law_alone
  exact (dss_cons (ds_if (DW.dt (dw_or (dt_not (dt_val (de_isx kh_GroveError (fun z => nomatch z) rfl z_isinstance (pe_glob (v:=.ref C_GroveError) rfl m_GroveError rfl) (de_var (pv 0))))) (dw_one (dt_not (dt_val (de_isx kh_ValueError (fun z => nomatch z) rfl z_isinstance (pe_bltn (v:=.ty "ValueError") rfl z_ValueError PyProof.Rows.Boot.«ValueError» rfl) (de_var (pv 0))))))))
    (dss_one (ds_ret de_bl))
    dss_nil)
  (dss_cons (ds_set (i:=1) sc.nd rfl (Or.inl rfl) (de_lst (da_cons (de_isx kh_NoBottom (fun z => nomatch z) rfl z_isinstance (pe_glob (v:=.ref C_NoBottom) rfl m_NoBottom rfl) (de_var (pv 0))) (da_cons (de_isx kh_NoChange (fun z => nomatch z) rfl z_isinstance (pe_glob (v:=.ref C_NoChange) rfl m_NoChange rfl) (de_var (pv 0))) (da_cons (de_isx kh_NoLine (fun z => nomatch z) rfl z_isinstance (pe_glob (v:=.ref C_NoLine) rfl m_NoLine rfl) (de_var (pv 0))) da_nil)))))
  (dss_cons (ds_set (i:=1) sc.nd rfl (Or.inl rfl) (de_op do_add (de_var (pv 1)) (de_lst (da_cons (de_isx kh_NoName (fun z => nomatch z) rfl z_isinstance (pe_glob (v:=.ref C_NoName) rfl m_NoName rfl) (de_var (pv 0))) (da_cons (de_isx kh_NoParts (fun z => nomatch z) rfl z_isinstance (pe_glob (v:=.ref C_NoParts) rfl m_NoParts rfl) (de_var (pv 0))) (da_cons (de_isx kh_NoStart (fun z => nomatch z) rfl z_isinstance (pe_glob (v:=.ref C_NoStart) rfl m_NoStart rfl) (de_var (pv 0))) da_nil))))))
  (dss_cons (ds_set (i:=1) sc.nd rfl (Or.inl rfl) (de_op do_add (de_var (pv 1)) (de_lst (da_cons (de_isx kh_NotAlike (fun z => nomatch z) rfl z_isinstance (pe_glob (v:=.ref C_NotAlike) rfl m_NotAlike rfl) (de_var (pv 0))) (da_cons (de_isx kh_NoTable (fun z => nomatch z) rfl z_isinstance (pe_glob (v:=.ref C_NoTable) rfl m_NoTable rfl) (de_var (pv 0))) (da_cons (de_isx kh_NoText (fun z => nomatch z) rfl z_isinstance (pe_glob (v:=.ref C_NoText) rfl m_NoText rfl) (de_var (pv 0))) da_nil))))))
  (dss_cons (ds_set (i:=1) sc.nd rfl (Or.inl rfl) (de_op do_add (de_var (pv 1)) (de_lst (da_cons (de_isx kh_NoTree (fun z => nomatch z) rfl z_isinstance (pe_glob (v:=.ref C_NoTree) rfl m_NoTree rfl) (de_var (pv 0))) (da_cons (de_isx kh_NoWeighing (fun z => nomatch z) rfl z_isinstance (pe_glob (v:=.ref C_NoWeighing) rfl m_NoWeighing rfl) (de_var (pv 0))) (da_cons (de_isx kh_TooMany (fun z => nomatch z) rfl z_isinstance (pe_glob (v:=.ref C_TooMany) rfl m_TooMany rfl) (de_var (pv 0))) da_nil))))))
  (dss_one (ds_ret (de_cmp (do_eq (by have:=hr.units; exact this)) (de_callB dc_len rfl z_len PySem.boot_len (da_cons (de_comp [".0", "_law_one"] 1 [none,none] (di_seq (de_var (pv 1))) (fun _ _ _ _ _ => (dif_one (dt_val (de_var (pv 1))))) (fun _ _ _ _ _ => (de_var (pv 1)))) da_nil)) de_int (nomark _)))))))))
theorem od__law_alone {k : Nat} {C_GroveError : Addr} {C_NoBottom : Addr} {C_NoChange : Addr} {C_NoLine : Addr} {C_NoName : Addr} {C_NoParts : Addr} {C_NoStart : Addr} {C_NoTable : Addr} {C_NoText : Addr} {C_NoTree : Addr} {C_NoWeighing : Addr} {C_NotAlike : Addr} {C_TooMany : Addr} {kt_GroveError : Addr→Option Bool} {kt_NoBottom : Addr→Option Bool} {kt_NoChange : Addr→Option Bool} {kt_NoLine : Addr→Option Bool} {kt_NoName : Addr→Option Bool} {kt_NoParts : Addr→Option Bool} {kt_NoStart : Addr→Option Bool} {kt_NoTable : Addr→Option Bool} {kt_NoText : Addr→Option Bool} {kt_NoTree : Addr→Option Bool} {kt_NoWeighing : Addr→Option Bool} {kt_NotAlike : Addr→Option Bool} {kt_TooMany : Addr→Option Bool} {kt_ValueError : Addr→Option Bool} (F : Fn K mg "_law_alone" s__law_alone ["_law_error"] f fd) (z_ValueError : mg "ValueError" = none) (z_isinstance : mg "isinstance" = none) (z_len : mg "len" = none) (m_GroveError : mg "GroveError" = some (.ref C_GroveError)) (m_NoBottom : mg "NoBottom" = some (.ref C_NoBottom)) (m_NoChange : mg "NoChange" = some (.ref C_NoChange)) (m_NoLine : mg "NoLine" = some (.ref C_NoLine)) (m_NoName : mg "NoName" = some (.ref C_NoName)) (m_NoParts : mg "NoParts" = some (.ref C_NoParts)) (m_NoStart : mg "NoStart" = some (.ref C_NoStart)) (m_NoTable : mg "NoTable" = some (.ref C_NoTable)) (m_NoText : mg "NoText" = some (.ref C_NoText)) (m_NoTree : mg "NoTree" = some (.ref C_NoTree)) (m_NoWeighing : mg "NoWeighing" = some (.ref C_NoWeighing)) (m_NotAlike : mg "NotAlike" = some (.ref C_NotAlike)) (m_TooMany : mg "TooMany" = some (.ref C_TooMany)) (kh_GroveError : ∀ C b,kt_GroveError C = some b→ExcK K C∧PySem.W.kitOne K (.ref C) (clsV (.ref C_GroveError)) = some b) (kh_NoBottom : ∀ C b,kt_NoBottom C = some b→ExcK K C∧PySem.W.kitOne K (.ref C) (clsV (.ref C_NoBottom)) = some b) (kh_NoChange : ∀ C b,kt_NoChange C = some b→ExcK K C∧PySem.W.kitOne K (.ref C) (clsV (.ref C_NoChange)) = some b) (kh_NoLine : ∀ C b,kt_NoLine C = some b→ExcK K C∧PySem.W.kitOne K (.ref C) (clsV (.ref C_NoLine)) = some b) (kh_NoName : ∀ C b,kt_NoName C = some b→ExcK K C∧PySem.W.kitOne K (.ref C) (clsV (.ref C_NoName)) = some b) (kh_NoParts : ∀ C b,kt_NoParts C = some b→ExcK K C∧PySem.W.kitOne K (.ref C) (clsV (.ref C_NoParts)) = some b) (kh_NoStart : ∀ C b,kt_NoStart C = some b→ExcK K C∧PySem.W.kitOne K (.ref C) (clsV (.ref C_NoStart)) = some b) (kh_NoTable : ∀ C b,kt_NoTable C = some b→ExcK K C∧PySem.W.kitOne K (.ref C) (clsV (.ref C_NoTable)) = some b) (kh_NoText : ∀ C b,kt_NoText C = some b→ExcK K C∧PySem.W.kitOne K (.ref C) (clsV (.ref C_NoText)) = some b) (kh_NoTree : ∀ C b,kt_NoTree C = some b→ExcK K C∧PySem.W.kitOne K (.ref C) (clsV (.ref C_NoTree)) = some b) (kh_NoWeighing : ∀ C b,kt_NoWeighing C = some b→ExcK K C∧PySem.W.kitOne K (.ref C) (clsV (.ref C_NoWeighing)) = some b) (kh_NotAlike : ∀ C b,kt_NotAlike C = some b→ExcK K C∧PySem.W.kitOne K (.ref C) (clsV (.ref C_NotAlike)) = some b) (kh_TooMany : ∀ C b,kt_TooMany C = some b→ExcK K C∧PySem.W.kitOne K (.ref C) (clsV (.ref C_TooMany)) = some b) (kh_ValueError : ∀ C b,kt_ValueError C = some b→ExcK K C∧PySem.W.kitOne K (.ref C) (clsV (.ty "ValueError")) = some b) :
    FnOk P w K mg base CX0 (k + 1) f fd ["_law_error"] (spD (m__law_alone kt_GroveError kt_NoBottom kt_NoChange kt_NoLine kt_NoName kt_NoParts kt_NoStart kt_NoTable kt_NoText kt_NoTree kt_NoWeighing kt_NotAlike kt_TooMany kt_ValueError)):=okD F sy__law_alone (ob__law_alone z_ValueError z_isinstance z_len m_GroveError m_NoBottom m_NoChange m_NoLine m_NoName m_NoParts m_NoStart m_NoTable m_NoText m_NoTree m_NoWeighing m_NotAlike m_TooMany kh_GroveError kh_NoBottom kh_NoChange kh_NoLine kh_NoName kh_NoParts kh_NoStart kh_NoTable kh_NoText kh_NoTree kh_NoWeighing kh_NotAlike kh_TooMany kh_ValueError)
theorem sy__law_read : FnScope ["_law_text_here", "_law_found", "_law_error", "e", "_law_due"] ["_law_text_here"] (defScope s__law_read):=⟨rfl,rfl,rfl,by decide +kernel,rfl,by decide +kernel,by decide +kernel⟩
def F__law_read (m__law_alone : List PyData→Option PyData) (m__law_reader : List PyData→Option PyData) (m__law_tuples : List PyData→Option PyData) (m_read_tree : List PyData→Option Xr) : DF :=
  (seqD (sSet 1 (fC .none))
  (seqD (sSet 2 (fC .none))
  (seqD (sTryS 1 2 3 m_read_tree (fCons (nm 0) fNil))
  (seqD (sSet 4 (fC .none))
  (seqD (sIf (bCmp (iCmp fun i j => decide (j < i)) (fCall dLenS (fCons (nm 0) fNil)) (fC (.int 1)))
    (sSet 4 (fCall m__law_reader (fCons (nm 0) fNil)))
    sNext)
  (seqD (sIf (bCmp (dIs false) (nm 4) (fC .none))
    (sRet (fCall m__law_alone (fCons (nm 2) fNil)))
    sNext)
  (sRet (fAnd (op2 (dIs false) (nm 2) (fC .none)) (fAnd (fCall m__law_tuples (fCons (nm 1) fNil)) (op2 (dEq false) (nm 1) (nm 4)))))))))))
def m__law_read (m__law_alone : List PyData→Option PyData) (m__law_reader : List PyData→Option PyData) (m__law_tuples : List PyData→Option PyData) (m_read_tree : List PyData→Option Xr) : List PyData→Option PyData:=retD ["_law_text_here"] ["_law_text_here", "_law_found", "_law_error", "e", "_law_due"] (F__law_read m__law_alone m__law_reader m__law_tuples m_read_tree)
theorem ob__law_read {k : Nat} {m__law_alone : List PyData→Option PyData} {m__law_reader : List PyData→Option PyData} {m__law_tuples : List PyData→Option PyData} {m_read_tree : List PyData→Option Xr} {C_NoText : Addr}
    {f__law_alone : Addr} {fd__law_alone : FuncData} (T__law_alone : Fn K mg "_law_alone" s__law_alone ["_law_error"] f__law_alone fd__law_alone) (G__law_alone : FnOk P w K mg base CX0 k f__law_alone fd__law_alone ["_law_error"] (spD m__law_alone))
    {f__law_reader : Addr} {fd__law_reader : FuncData} (T__law_reader : Fn K mg "_law_reader" s__law_reader ["_law_text_here"] f__law_reader fd__law_reader) (G__law_reader : FnOk P w K mg base CX0 k f__law_reader fd__law_reader ["_law_text_here"] (spD m__law_reader))
    {f__law_tuples : Addr} {fd__law_tuples : FuncData} (T__law_tuples : Fn K mg "_law_tuples" s__law_tuples ["_law_thing"] f__law_tuples fd__law_tuples) (G__law_tuples : FnOk P w K mg base CX0 k f__law_tuples fd__law_tuples ["_law_thing"] (spD m__law_tuples))
    {f_read_tree : Addr} {fd_read_tree : FuncData} (T_read_tree : Fn K mg "read_tree" s_read_tree ["text"] f_read_tree fd_read_tree) (G_read_tree : FnOk P w K mg base (CXW P w) k f_read_tree fd_read_tree ["text"] (spX m_read_tree)) (z_len : mg "len" = none) (m_NoText : mg "NoText" = some (.ref C_NoText)) (hB_read_tree_NoText : ∀ ds C,m_read_tree ds = some (.inr C)→Beneath K C C_NoText true) (cdv : Value) (A : Around) (outer : List Env) (s : Shared) (H : Hp) (E : XK) (hr : Room k (A.deeper (PyProof.Rows.envOfC "_law_read" (defScope s__law_read) s.heap.objs.size f cdv))) :
    DSs (cxOf CX0 P w K mg base ["_law_text_here", "_law_found", "_law_error", "e", "_law_due"] "_law_read" (defScope s__law_read) f cdv A outer s H E).nox (defBody s__law_read) (F__law_read m__law_alone m__law_reader m__law_tuples m_read_tree) := by
  have sc:=sy__law_read
  exact (dss_cons (ds_set (i:=1) sc.nd rfl (Or.inl rfl) de_non)
  (dss_cons (ds_set (i:=2) sc.nd rfl (Or.inl rfl) de_non)
  (dss_cons (ds_tryS (i:=1) (j:=2) (k:=3) T_read_tree G_read_tree hr rfl (da_cons (de_var (pv 0)) da_nil) hB_read_tree_NoText (fun h => ps_tryAs (i:=1) (j:=2) (k:=3) h sc.nd rfl rfl rfl rfl rfl rfl rfl rfl m_NoText (by decide) ⟨_,rfl⟩ rfl))
  (dss_cons (ds_set (i:=4) sc.nd rfl (Or.inl rfl) de_non)
  (dss_cons (ds_if (dt_cmp do_gt (de_callB dc_lenS rfl z_len PySem.boot_len (da_cons (de_var (pv 0)) da_nil)) de_int (nomark _))
    (dss_one (ds_set (i:=4) sc.nd rfl (Or.inl rfl) (de_call T__law_reader G__law_reader hr rfl (da_cons (de_var (pv 0)) da_nil))))
    dss_nil)
  (dss_cons (ds_if (dt_cmp do_is (de_var (pv 4)) de_non (nomark _))
    (dss_one (ds_ret (de_call T__law_alone G__law_alone hr rfl (da_cons (de_var (pv 2)) da_nil))))
    dss_nil)
  (dss_one (ds_ret (de_and (de_cmp do_is (de_var (pv 2)) de_non (nomark _)) (de_and (de_call T__law_tuples G__law_tuples hr rfl (da_cons (de_var (pv 1)) da_nil)) (de_one (de_cmp (do_eq (by have:=hr.units; exact this)) (de_var (pv 1)) (de_var (pv 4)) (nomark _)))))))))))))
theorem od__law_read {k : Nat} {m__law_alone : List PyData→Option PyData} {m__law_reader : List PyData→Option PyData} {m__law_tuples : List PyData→Option PyData} {m_read_tree : List PyData→Option Xr} {C_NoText : Addr} (F : Fn K mg "_law_read" s__law_read ["_law_text_here"] f fd)
    {f__law_alone : Addr} {fd__law_alone : FuncData} (T__law_alone : Fn K mg "_law_alone" s__law_alone ["_law_error"] f__law_alone fd__law_alone) (G__law_alone : FnOk P w K mg base CX0 k f__law_alone fd__law_alone ["_law_error"] (spD m__law_alone))
    {f__law_reader : Addr} {fd__law_reader : FuncData} (T__law_reader : Fn K mg "_law_reader" s__law_reader ["_law_text_here"] f__law_reader fd__law_reader) (G__law_reader : FnOk P w K mg base CX0 k f__law_reader fd__law_reader ["_law_text_here"] (spD m__law_reader))
    {f__law_tuples : Addr} {fd__law_tuples : FuncData} (T__law_tuples : Fn K mg "_law_tuples" s__law_tuples ["_law_thing"] f__law_tuples fd__law_tuples) (G__law_tuples : FnOk P w K mg base CX0 k f__law_tuples fd__law_tuples ["_law_thing"] (spD m__law_tuples))
    {f_read_tree : Addr} {fd_read_tree : FuncData} (T_read_tree : Fn K mg "read_tree" s_read_tree ["text"] f_read_tree fd_read_tree) (G_read_tree : FnOk P w K mg base (CXW P w) k f_read_tree fd_read_tree ["text"] (spX m_read_tree)) (z_len : mg "len" = none) (m_NoText : mg "NoText" = some (.ref C_NoText)) (hB_read_tree_NoText : ∀ ds C,m_read_tree ds = some (.inr C)→Beneath K C C_NoText true) :
    FnOk P w K mg base CX0 (k + 1) f fd ["_law_text_here"] (spD (m__law_read m__law_alone m__law_reader m__law_tuples m_read_tree)):=okD F sy__law_read (ob__law_read T__law_alone G__law_alone T__law_reader G__law_reader T__law_tuples G__law_tuples T_read_tree G_read_tree z_len m_NoText hB_read_tree_NoText)
theorem sy__law_refused : FnScope ["_law_tree", "_law_error", "e"] ["_law_tree"] (defScope s__law_refused):=⟨rfl,rfl,rfl,by decide +kernel,rfl,by decide +kernel,by decide +kernel⟩
def F__law_refused (m__law_alone : List PyData→Option PyData) (m_shown_tree : List PyData→Option Xr) : DF :=
  (seqD (sSet 1 (fC .none))
  (seqD (sTry 1 2 m_shown_tree (fCons (nm 0) fNil))
  (sRet (fCall m__law_alone (fCons (nm 1) fNil)))))
def m__law_refused (m__law_alone : List PyData→Option PyData) (m_shown_tree : List PyData→Option Xr) : List PyData→Option PyData:=retD ["_law_tree"] ["_law_tree", "_law_error", "e"] (F__law_refused m__law_alone m_shown_tree)
theorem ob__law_refused {k : Nat} {m__law_alone : List PyData→Option PyData} {m_shown_tree : List PyData→Option Xr} {C_NoTree : Addr}
    {f__law_alone : Addr} {fd__law_alone : FuncData} (T__law_alone : Fn K mg "_law_alone" s__law_alone ["_law_error"] f__law_alone fd__law_alone) (G__law_alone : FnOk P w K mg base CX0 k f__law_alone fd__law_alone ["_law_error"] (spD m__law_alone))
    {f_shown_tree : Addr} {fd_shown_tree : FuncData} (T_shown_tree : Fn K mg "shown_tree" s_shown_tree ["tree"] f_shown_tree fd_shown_tree) (G_shown_tree : FnOk P w K mg base (CXW P w) k f_shown_tree fd_shown_tree ["tree"] (spX m_shown_tree)) (m_NoTree : mg "NoTree" = some (.ref C_NoTree)) (hB_shown_tree_NoTree : ∀ ds C,m_shown_tree ds = some (.inr C)→Beneath K C C_NoTree true) (cdv : Value) (A : Around) (outer : List Env) (s : Shared) (H : Hp) (E : XK) (hr : Room k (A.deeper (PyProof.Rows.envOfC "_law_refused" (defScope s__law_refused) s.heap.objs.size f cdv))) :
    DSs (cxOf CX0 P w K mg base ["_law_tree", "_law_error", "e"] "_law_refused" (defScope s__law_refused) f cdv A outer s H E).nox (defBody s__law_refused) (F__law_refused m__law_alone m_shown_tree) := by
  have sc:=sy__law_refused
  exact (dss_cons (ds_set (i:=1) sc.nd rfl (Or.inl rfl) de_non)
  (dss_cons (ds_try (j:=1) (k:=2) T_shown_tree G_shown_tree hr rfl (da_cons (de_var (pv 0)) da_nil) hB_shown_tree_NoTree (fun h => ps_tryEx (j:=1) (k:=2) h sc.nd rfl rfl rfl rfl rfl rfl m_NoTree (by decide) ⟨_,rfl⟩ rfl))
  (dss_one (ds_ret (de_call T__law_alone G__law_alone hr rfl (da_cons (de_var (pv 1)) da_nil))))))
theorem od__law_refused {k : Nat} {m__law_alone : List PyData→Option PyData} {m_shown_tree : List PyData→Option Xr} {C_NoTree : Addr} (F : Fn K mg "_law_refused" s__law_refused ["_law_tree"] f fd)
    {f__law_alone : Addr} {fd__law_alone : FuncData} (T__law_alone : Fn K mg "_law_alone" s__law_alone ["_law_error"] f__law_alone fd__law_alone) (G__law_alone : FnOk P w K mg base CX0 k f__law_alone fd__law_alone ["_law_error"] (spD m__law_alone))
    {f_shown_tree : Addr} {fd_shown_tree : FuncData} (T_shown_tree : Fn K mg "shown_tree" s_shown_tree ["tree"] f_shown_tree fd_shown_tree) (G_shown_tree : FnOk P w K mg base (CXW P w) k f_shown_tree fd_shown_tree ["tree"] (spX m_shown_tree)) (m_NoTree : mg "NoTree" = some (.ref C_NoTree)) (hB_shown_tree_NoTree : ∀ ds C,m_shown_tree ds = some (.inr C)→Beneath K C C_NoTree true) :
    FnOk P w K mg base CX0 (k + 1) f fd ["_law_tree"] (spD (m__law_refused m__law_alone m_shown_tree)):=okD F sy__law_refused (ob__law_refused T__law_alone G__law_alone T_shown_tree G_shown_tree m_NoTree hB_shown_tree_NoTree)
theorem sy__law_cell_at : FnScope ["_law_script", "_law_k"] ["_law_script", "_law_k"] (defScope s__law_cell_at):=⟨rfl,rfl,rfl,by decide +kernel,rfl,by decide +kernel,by decide +kernel⟩
def F__law_cell_at : DF :=
  (seqD (sIf (bCmp (iCmp fun i j => decide (i < j)) (nm 1) (fCall dLen (fCons (nm 0) fNil)))
    (sRet (op2 dIx (nm 0) (nm 1)))
    sNext)
  (sRet (fC (.int 0))))
def m__law_cell_at : List PyData→Option PyData:=retD ["_law_script", "_law_k"] ["_law_script", "_law_k"] (F__law_cell_at)
theorem ob__law_cell_at {k : Nat} (z_len : mg "len" = none) (cdv : Value) (A : Around) (outer : List Env) (s : Shared) (H : Hp) (E : XK) (hr : Room k (A.deeper (PyProof.Rows.envOfC "_law_cell_at" (defScope s__law_cell_at) s.heap.objs.size f cdv))) :
    DSs (cxOf CX0 P w K mg base ["_law_script", "_law_k"] "_law_cell_at" (defScope s__law_cell_at) f cdv A outer s H E).nox (defBody s__law_cell_at) (F__law_cell_at) := by
  have sc:=sy__law_cell_at
  exact (dss_cons (ds_if (dt_cmp do_lt (de_var (pv 1)) (de_callB dc_len rfl z_len PySem.boot_len (da_cons (de_var (pv 0)) da_nil)) (nomark _))
    (dss_one (ds_ret (de_ix (de_var (pv 0)) (de_var (pv 1)) (fun _ _ => rfl))))
    dss_nil)
  (dss_one (ds_ret de_int)))
theorem od__law_cell_at {k : Nat} (F : Fn K mg "_law_cell_at" s__law_cell_at ["_law_script", "_law_k"] f fd) (z_len : mg "len" = none) :
    FnOk P w K mg base CX0 (k + 1) f fd ["_law_script", "_law_k"] (spD (m__law_cell_at)):=okD F sy__law_cell_at (ob__law_cell_at z_len)
theorem sy__law_mixed : FnScope ["_law_cell", "_law_k", "_law_number"] ["_law_cell", "_law_k"] (defScope s__law_mixed):=⟨rfl,rfl,rfl,by decide +kernel,rfl,by decide +kernel,by decide +kernel⟩
def F__law_mixed : DF :=
  (seqD (sSet 2 (op2 iMod (op2 dAdd (op2 dAdd (op2 dMul (op2 iMod (nm 0) (fC (.int 2147483647))) (fC (.int 48271))) (op2 dMul (nm 1) (fC (.int 69621)))) (fC (.int 11))) (fC (.int 2147483647))))
  (seqD (sSet 2 (op2 iMod (op2 dMul (nm 2) (nm 2)) (fC (.int 2147483629))))
  (sRet (op2 iMod (op2 dMul (nm 2) (nm 2)) (fC (.int 2147483587))))))
def m__law_mixed : List PyData→Option PyData:=retD ["_law_cell", "_law_k"] ["_law_cell", "_law_k", "_law_number"] (F__law_mixed)
theorem ob__law_mixed {k : Nat} (cdv : Value) (A : Around) (outer : List Env) (s : Shared) (H : Hp) (E : XK) (hr : Room k (A.deeper (PyProof.Rows.envOfC "_law_mixed" (defScope s__law_mixed) s.heap.objs.size f cdv))) :
    DSs (cxOf CX0 P w K mg base ["_law_cell", "_law_k", "_law_number"] "_law_mixed" (defScope s__law_mixed) f cdv A outer s H E).nox (defBody s__law_mixed) (F__law_mixed) := by
  have sc:=sy__law_mixed
  exact (dss_cons (ds_set (i:=2) sc.nd rfl (Or.inl rfl) (de_op do_iMod (de_op do_add (de_op do_add (de_op do_mul (de_op do_iMod (de_var (pv 0)) de_int) de_int) (de_op do_mul (de_var (pv 1)) de_int)) de_int) de_int))
  (dss_cons (ds_set (i:=2) sc.nd rfl (Or.inl rfl) (de_op do_iMod (de_op do_mul (de_var (pv 2)) (de_var (pv 2))) de_int))
  (dss_one (ds_ret (de_op do_iMod (de_op do_mul (de_var (pv 2)) (de_var (pv 2))) de_int)))))
theorem od__law_mixed {k : Nat} (F : Fn K mg "_law_mixed" s__law_mixed ["_law_cell", "_law_k"] f fd) :
    FnOk P w K mg base CX0 (k + 1) f fd ["_law_cell", "_law_k"] (spD (m__law_mixed)):=okD F sy__law_mixed (ob__law_mixed)
theorem sy__law_rest : FnScope ["_law_script", "_law_k", "_law_cell", "_law_big"] ["_law_script", "_law_k"] (defScope s__law_rest):=⟨rfl,rfl,rfl,by decide +kernel,rfl,by decide +kernel,by decide +kernel⟩
def F__law_rest (m__law_cell_at : List PyData→Option PyData) (m__law_mixed : List PyData→Option PyData) : DF :=
  (seqD (sSet 2 (fCall m__law_cell_at (fCons (nm 0) (fCons (nm 1) fNil))))
  (seqD (sIf (bCmp (iCmp fun i j => decide (j≤i)) (fCall dAbs (fCons (nm 2) fNil)) (op2 iPow (fC (.int 10)) (fC (.int 18))))
    (sRet (nm 2))
    sNext)
  (seqD (sSet 3 (op2 dAdd (fCall m__law_mixed (fCons (nm 2) (fCons (nm 1) fNil))) (op2 dMul (fCall m__law_mixed (fCons (nm 2) (fCons (op2 dAdd (nm 1) (fC (.int 500))) fNil))) (fC (.int 2147483587)))))
  (sRet (op2 dAdd (nm 3) (op2 dMul (op2 dMul (fCall m__law_mixed (fCons (nm 2) (fCons (op2 dAdd (nm 1) (fC (.int 900))) fNil))) (fC (.int 2147483587))) (fC (.int 2147483587))))))))
def m__law_rest (m__law_cell_at : List PyData→Option PyData) (m__law_mixed : List PyData→Option PyData) : List PyData→Option PyData:=retD ["_law_script", "_law_k"] ["_law_script", "_law_k", "_law_cell", "_law_big"] (F__law_rest m__law_cell_at m__law_mixed)
theorem ob__law_rest {k : Nat} {m__law_cell_at : List PyData→Option PyData} {m__law_mixed : List PyData→Option PyData}
    {f__law_cell_at : Addr} {fd__law_cell_at : FuncData} (T__law_cell_at : Fn K mg "_law_cell_at" s__law_cell_at ["_law_script", "_law_k"] f__law_cell_at fd__law_cell_at) (G__law_cell_at : FnOk P w K mg base CX0 k f__law_cell_at fd__law_cell_at ["_law_script", "_law_k"] (spD m__law_cell_at))
    {f__law_mixed : Addr} {fd__law_mixed : FuncData} (T__law_mixed : Fn K mg "_law_mixed" s__law_mixed ["_law_cell", "_law_k"] f__law_mixed fd__law_mixed) (G__law_mixed : FnOk P w K mg base CX0 k f__law_mixed fd__law_mixed ["_law_cell", "_law_k"] (spD m__law_mixed)) (z_abs : mg "abs" = none) (cdv : Value) (A : Around) (outer : List Env) (s : Shared) (H : Hp) (E : XK) (hr : Room k (A.deeper (PyProof.Rows.envOfC "_law_rest" (defScope s__law_rest) s.heap.objs.size f cdv))) :
    DSs (cxOf CX0 P w K mg base ["_law_script", "_law_k", "_law_cell", "_law_big"] "_law_rest" (defScope s__law_rest) f cdv A outer s H E).nox (defBody s__law_rest) (F__law_rest m__law_cell_at m__law_mixed) := by
  have sc:=sy__law_rest
  exact (dss_cons (ds_set (i:=2) sc.nd rfl (Or.inl rfl) (de_call T__law_cell_at G__law_cell_at hr rfl (da_cons (de_var (pv 0)) (da_cons (de_var (pv 1)) da_nil))))
  (dss_cons (ds_if (dt_cmp do_ge (de_callB dc_abs rfl z_abs PyProof.Rows.boot_abs (da_cons (de_var (pv 2)) da_nil)) (de_op do_iPow de_int de_int) (nomark _))
    (dss_one (ds_ret (de_var (pv 2))))
    dss_nil)
  (dss_cons (ds_set (i:=3) sc.nd rfl (Or.inl rfl) (de_op do_add (de_call T__law_mixed G__law_mixed hr rfl (da_cons (de_var (pv 2)) (da_cons (de_var (pv 1)) da_nil))) (de_op do_mul (de_call T__law_mixed G__law_mixed hr rfl (da_cons (de_var (pv 2)) (da_cons (de_op do_add (de_var (pv 1)) de_int) da_nil))) de_int)))
  (dss_one (ds_ret (de_op do_add (de_var (pv 3)) (de_op do_mul (de_op do_mul (de_call T__law_mixed G__law_mixed hr rfl (da_cons (de_var (pv 2)) (da_cons (de_op do_add (de_var (pv 1)) de_int) da_nil))) de_int) de_int)))))))
theorem od__law_rest {k : Nat} {m__law_cell_at : List PyData→Option PyData} {m__law_mixed : List PyData→Option PyData} (F : Fn K mg "_law_rest" s__law_rest ["_law_script", "_law_k"] f fd)
    {f__law_cell_at : Addr} {fd__law_cell_at : FuncData} (T__law_cell_at : Fn K mg "_law_cell_at" s__law_cell_at ["_law_script", "_law_k"] f__law_cell_at fd__law_cell_at) (G__law_cell_at : FnOk P w K mg base CX0 k f__law_cell_at fd__law_cell_at ["_law_script", "_law_k"] (spD m__law_cell_at))
    {f__law_mixed : Addr} {fd__law_mixed : FuncData} (T__law_mixed : Fn K mg "_law_mixed" s__law_mixed ["_law_cell", "_law_k"] f__law_mixed fd__law_mixed) (G__law_mixed : FnOk P w K mg base CX0 k f__law_mixed fd__law_mixed ["_law_cell", "_law_k"] (spD m__law_mixed)) (z_abs : mg "abs" = none) :
    FnOk P w K mg base CX0 (k + 1) f fd ["_law_script", "_law_k"] (spD (m__law_rest m__law_cell_at m__law_mixed)):=okD F sy__law_rest (ob__law_rest T__law_cell_at G__law_cell_at T__law_mixed G__law_mixed z_abs)
theorem sy__law_parents : FnScope ["_law_rest_here", "_law_most", "_law_many", "_law_parents_here", "_law_k"] ["_law_rest_here", "_law_most"] (defScope s__law_parents):=⟨rfl,rfl,rfl,by decide +kernel,rfl,by decide +kernel,by decide +kernel⟩
def F__law_parents : DF :=
  (seqD (sSet 2 (op2 dAdd (fC (.int 1)) (op2 iMod (nm 0) (nm 1))))
  (seqD (sSet 0 (op2 iDiv (nm 0) (nm 1)))
  (seqD (sOwn 3 (fCons (fC (.int 0)) fNil))
  (seqD (sFor (iCall rng2 (fCons (fC (.int 1)) (fCons (nm 2) fNil))) (setN 4)
    (seqD (sApp 3 (op2 iMod (nm 0) (nm 4)))
    (sSet 0 (op2 iDiv (nm 0) (nm 4)))))
  (sRetO 3)))))
def m__law_parents : List PyData→Option PyData:=retD ["_law_rest_here", "_law_most"] ["_law_rest_here", "_law_most", "_law_many", "_law_parents_here", "_law_k"] (F__law_parents)
theorem ob__law_parents {k : Nat} (z_range : mg "range" = none) (cdv : Value) (A : Around) (outer : List Env) (s : Shared) (H : Hp) (E : XK) (hr : Room k (A.deeper (PyProof.Rows.envOfC "_law_parents" (defScope s__law_parents) s.heap.objs.size f cdv))) :
    DSs (cxOf CX0 P w K mg base ["_law_rest_here", "_law_most", "_law_many", "_law_parents_here", "_law_k"] "_law_parents" (defScope s__law_parents) f cdv A outer s H E).nox (defBody s__law_parents) (F__law_parents) := by
  have sc:=sy__law_parents
  exact (dss_cons (ds_set (i:=2) sc.nd rfl (Or.inl rfl) (de_op do_add de_int (de_op do_iMod (de_var (pv 0)) (de_var (pv 1)))))
  (dss_cons (ds_set (i:=0) sc.nd rfl (Or.inl rfl) (de_op do_iDiv (de_var (pv 0)) (de_var (pv 1))))
  (dss_cons (ds_own (i:=3) sc.nd rfl (Or.inl rfl) (da_cons de_int da_nil))
  (dss_cons (ds_for PassesOwn.never rfl (di_range2 rfl z_range (da_cons de_int (da_cons (de_var (pv 2)) da_nil))) (dg_name (pg_name (i:=4) sc.nd rfl (Or.inl rfl)))
    (dss_cons (ds_append (pv 3) (de_op do_iMod (de_var (pv 0)) (de_var (pv 4))) (fun ho ha => ps_expr (pe_bm PySem.F.plainAttrs_list PySem.F.slot_list_append PySem.F.type_list_append mt_append ho ha)))
    (dss_one (ds_set (i:=0) sc.nd rfl (Or.inl rfl) (de_op do_iDiv (de_var (pv 0)) (de_var (pv 4)))))))
  (dss_one (ds_retO (pv 3)))))))
theorem od__law_parents {k : Nat} (F : Fn K mg "_law_parents" s__law_parents ["_law_rest_here", "_law_most"] f fd) (z_range : mg "range" = none) :
    FnOk P w K mg base CX0 (k + 1) f fd ["_law_rest_here", "_law_most"] (spD (m__law_parents)):=okD F sy__law_parents (ob__law_parents z_range)
theorem sy_law : FnScope ["_law_script", "_law_cells", "_law_k", "_law_tree", "_law_text_here", "_law_told", "_law_other"] ["_law_script"] (defScope s_law):=⟨rfl,rfl,rfl,by decide +kernel,rfl,by decide +kernel,by decide +kernel⟩
def F_law (m__law_grown : List PyData→Option PyData) (m__law_mixed : List PyData→Option PyData) (m__law_parents : List PyData→Option PyData) (m__law_read : List PyData→Option PyData) (m__law_refused : List PyData→Option PyData) (m__law_rest : List PyData→Option PyData) (m__law_spoilt : List PyData→Option PyData) (m__law_text : List PyData→Option PyData) (m_shown_tree : List PyData→Option Xr) : DF :=
  (seqD (sSet 1 (op2 dAdd (fCutS (nm 0) oNone (oSome (fC (.int 40)))) (fLst (fCons (fC (.int 0)) fNil))))
  (seqD (sFor (iCall rng1 (fCons (fCall dLen (fCons (nm 1) fNil)) fNil)) (setN 2)
    (seqD (sSet 3 (fCall m__law_grown (fCons (fCall m__law_parents (fCons (fCall m__law_rest (fCons (nm 1) (fCons (nm 2) fNil))) (fCons (fC (.int 7)) fNil))) fNil)))
    (seqD (sSet 4 (fCall m__law_text (fCons (nm 3) fNil)))
    (seqD (sSet 5 (fCall (good m_shown_tree) (fCons (nm 3) fNil)))
    (seqD (sIf (bOr (bNot (bVal (fIsi isStrD (nm 5)))) (bOr (bCmp (dEq true) (nm 5) (nm 4)) (bNot (bVal (fCall m__law_read (fCons (nm 4) fNil))))))
      (sRet (fC (.bool false)))
      sNext)
    (seqD (sSet 6 (fCall m__law_spoilt (fCons (nm 4) (fCons (fCall m__law_mixed (fCons (op2 dIx (nm 1) (nm 2)) (fCons (op2 dAdd (nm 2) (fC (.int 40))) fNil))) fNil))))
    (seqD (sIf (bAnd (bCmp (iCmp fun i j => decide (i≤j)) (fCall dLenS (fCons (nm 6) fNil)) (fC (.int 14))) (bNot (bVal (fCall m__law_read (fCons (nm 6) fNil)))))
      (sRet (fC (.bool false)))
      sNext)
    (sIf (bAnd (bCmp (dEq true) (nm 3) (op2 dRevT (nm 3) (fNeg (fC (.int 1))))) (bNot (bVal (fCall m__law_refused (fCons (op2 dRevT (nm 3) (fNeg (fC (.int 1)))) fNil)))))
      (sRet (fC (.bool false)))
      sNext))))))))
  (sRet (fAnd (fCall m__law_read (fCons (fC (.str (Str.ofString ""))) fNil)) (fAnd (fCall m__law_refused (fCons (fLst fNil) fNil)) (fCall m__law_refused (fCons (fTup (fCons (fTup fNil) (fCons (fC (.int 0)) fNil))) fNil)))))))
def m_law (m__law_grown : List PyData→Option PyData) (m__law_mixed : List PyData→Option PyData) (m__law_parents : List PyData→Option PyData) (m__law_read : List PyData→Option PyData) (m__law_refused : List PyData→Option PyData) (m__law_rest : List PyData→Option PyData) (m__law_spoilt : List PyData→Option PyData) (m__law_text : List PyData→Option PyData) (m_shown_tree : List PyData→Option Xr) : List PyData→Option PyData:=retD ["_law_script"] ["_law_script", "_law_cells", "_law_k", "_law_tree", "_law_text_here", "_law_told", "_law_other"] (F_law m__law_grown m__law_mixed m__law_parents m__law_read m__law_refused m__law_rest m__law_spoilt m__law_text m_shown_tree)
theorem ob_law {k : Nat} {m__law_grown : List PyData→Option PyData} {m__law_mixed : List PyData→Option PyData} {m__law_parents : List PyData→Option PyData} {m__law_read : List PyData→Option PyData} {m__law_refused : List PyData→Option PyData} {m__law_rest : List PyData→Option PyData} {m__law_spoilt : List PyData→Option PyData} {m__law_text : List PyData→Option PyData} {m_shown_tree : List PyData→Option Xr}
    {f__law_grown : Addr} {fd__law_grown : FuncData} (T__law_grown : Fn K mg "_law_grown" s__law_grown ["_law_parents_here"] f__law_grown fd__law_grown) (G__law_grown : FnOk P w K mg base CX0 k f__law_grown fd__law_grown ["_law_parents_here"] (spD m__law_grown))
    {f__law_mixed : Addr} {fd__law_mixed : FuncData} (T__law_mixed : Fn K mg "_law_mixed" s__law_mixed ["_law_cell", "_law_k"] f__law_mixed fd__law_mixed) (G__law_mixed : FnOk P w K mg base CX0 k f__law_mixed fd__law_mixed ["_law_cell", "_law_k"] (spD m__law_mixed))
    {f__law_parents : Addr} {fd__law_parents : FuncData} (T__law_parents : Fn K mg "_law_parents" s__law_parents ["_law_rest_here", "_law_most"] f__law_parents fd__law_parents) (G__law_parents : FnOk P w K mg base CX0 k f__law_parents fd__law_parents ["_law_rest_here", "_law_most"] (spD m__law_parents))
    {f__law_read : Addr} {fd__law_read : FuncData} (T__law_read : Fn K mg "_law_read" s__law_read ["_law_text_here"] f__law_read fd__law_read) (G__law_read : FnOk P w K mg base CX0 k f__law_read fd__law_read ["_law_text_here"] (spD m__law_read))
    {f__law_refused : Addr} {fd__law_refused : FuncData} (T__law_refused : Fn K mg "_law_refused" s__law_refused ["_law_tree"] f__law_refused fd__law_refused) (G__law_refused : FnOk P w K mg base CX0 k f__law_refused fd__law_refused ["_law_tree"] (spD m__law_refused))
    {f__law_rest : Addr} {fd__law_rest : FuncData} (T__law_rest : Fn K mg "_law_rest" s__law_rest ["_law_script", "_law_k"] f__law_rest fd__law_rest) (G__law_rest : FnOk P w K mg base CX0 k f__law_rest fd__law_rest ["_law_script", "_law_k"] (spD m__law_rest))
    {f__law_spoilt : Addr} {fd__law_spoilt : FuncData} (T__law_spoilt : Fn K mg "_law_spoilt" s__law_spoilt ["_law_text_here", "_law_number"] f__law_spoilt fd__law_spoilt) (G__law_spoilt : FnOk P w K mg base CX0 k f__law_spoilt fd__law_spoilt ["_law_text_here", "_law_number"] (spD m__law_spoilt))
    {f__law_text : Addr} {fd__law_text : FuncData} (T__law_text : Fn K mg "_law_text" s__law_text ["_law_tree"] f__law_text fd__law_text) (G__law_text : FnOk P w K mg base CX0 k f__law_text fd__law_text ["_law_tree"] (spD m__law_text))
    {f_shown_tree : Addr} {fd_shown_tree : FuncData} (T_shown_tree : Fn K mg "shown_tree" s_shown_tree ["tree"] f_shown_tree fd_shown_tree) (G_shown_tree : FnOk P w K mg base (CXW P w) k f_shown_tree fd_shown_tree ["tree"] (spX m_shown_tree)) (z_isinstance : mg "isinstance" = none) (z_len : mg "len" = none) (z_range : mg "range" = none) (z_str : mg "str" = none) (cdv : Value) (A : Around) (outer : List Env) (s : Shared) (H : Hp) (E : XK) (hr : Room k (A.deeper (PyProof.Rows.envOfC "law" (defScope s_law) s.heap.objs.size f cdv))) :
    DSs (cxOf CX0 P w K mg base ["_law_script", "_law_cells", "_law_k", "_law_tree", "_law_text_here", "_law_told", "_law_other"] "law" (defScope s_law) f cdv A outer s H E).nox (defBody s_law) (F_law m__law_grown m__law_mixed m__law_parents m__law_read m__law_refused m__law_rest m__law_spoilt m__law_text m_shown_tree) := by
  have sc:=sy_law
  exact (dss_cons (ds_set (i:=1) sc.nd rfl (Or.inl rfl) (de_op do_add (de_sliceS (de_var (pv 0)) do_none (do_some de_int)) (de_lst (da_cons de_int da_nil))))
  (dss_cons (ds_for PassesOwn.never rfl (di_range1 rfl z_range (da_cons (de_callB dc_len rfl z_len PySem.boot_len (da_cons (de_var (pv 1)) da_nil)) da_nil)) (dg_name (pg_name (i:=2) sc.nd rfl (Or.inl rfl)))
    (dss_cons (ds_set (i:=3) sc.nd rfl (Or.inl rfl) (de_call T__law_grown G__law_grown hr rfl (da_cons (de_call T__law_parents G__law_parents hr rfl (da_cons (de_call T__law_rest G__law_rest hr rfl (da_cons (de_var (pv 1)) (da_cons (de_var (pv 2)) da_nil))) (da_cons de_int da_nil))) da_nil)))
    (dss_cons (ds_set (i:=4) sc.nd rfl (Or.inl rfl) (de_call T__law_text G__law_text hr rfl (da_cons (de_var (pv 3)) da_nil)))
    (dss_cons (ds_set (i:=5) sc.nd rfl (Or.inl rfl) (de_call T_shown_tree (spX_D G_shown_tree) hr rfl (da_cons (de_var (pv 3)) da_nil)))
    (dss_cons (ds_if (DW.dt (dw_or (dt_not (dt_val (de_isi (kit_strD _) rfl z_isinstance rfl z_str PyProof.Rows.boot_str (de_var (pv 5))))) (dw_or (dt_cmp (do_ne (by have:=hr.units; exact this)) (de_var (pv 5)) (de_var (pv 4)) (nomark _)) (dw_one (dt_not (dt_val (de_call T__law_read G__law_read hr rfl (da_cons (de_var (pv 4)) da_nil))))))))
      (dss_one (ds_ret de_bl))
      dss_nil)
    (dss_cons (ds_set (i:=6) sc.nd rfl (Or.inl rfl) (de_call T__law_spoilt G__law_spoilt hr rfl (da_cons (de_var (pv 4)) (da_cons (de_call T__law_mixed G__law_mixed hr rfl (da_cons (de_ix (de_var (pv 1)) (de_var (pv 2)) (fun _ _ => rfl)) (da_cons (de_op do_add (de_var (pv 2)) de_int) da_nil))) da_nil))))
    (dss_cons (ds_if (DW.dt (dw_and (dt_cmp do_le (de_callB dc_lenS rfl z_len PySem.boot_len (da_cons (de_var (pv 6)) da_nil)) de_int (nomark _)) (dw_one (dt_not (dt_val (de_call T__law_read G__law_read hr rfl (da_cons (de_var (pv 6)) da_nil)))))))
      (dss_one (ds_ret de_bl))
      dss_nil)
    (dss_one (ds_if (DW.dt (dw_and (dt_cmp (do_ne (by have:=hr.units; exact this)) (de_var (pv 3)) (de_revT (de_var (pv 3)) (de_neg de_int)) (nomark _)) (dw_one (dt_not (dt_val (de_call T__law_refused G__law_refused hr rfl (da_cons (de_revT (de_var (pv 3)) (de_neg de_int)) da_nil)))))))
      (dss_one (ds_ret de_bl))
      dss_nil)))))))))
  (dss_one (ds_ret (de_and (de_call T__law_read G__law_read hr rfl (da_cons de_str da_nil)) (de_and (de_call T__law_refused G__law_refused hr rfl (da_cons (de_lst da_nil) da_nil)) (de_one (de_call T__law_refused G__law_refused hr rfl (da_cons (de_tup (da_cons (de_tup da_nil) (da_cons de_int da_nil))) da_nil)))))))))
theorem od_law {k : Nat} {m__law_grown : List PyData→Option PyData} {m__law_mixed : List PyData→Option PyData} {m__law_parents : List PyData→Option PyData} {m__law_read : List PyData→Option PyData} {m__law_refused : List PyData→Option PyData} {m__law_rest : List PyData→Option PyData} {m__law_spoilt : List PyData→Option PyData} {m__law_text : List PyData→Option PyData} {m_shown_tree : List PyData→Option Xr} (F : Fn K mg "law" s_law ["_law_script"] f fd)
    {f__law_grown : Addr} {fd__law_grown : FuncData} (T__law_grown : Fn K mg "_law_grown" s__law_grown ["_law_parents_here"] f__law_grown fd__law_grown) (G__law_grown : FnOk P w K mg base CX0 k f__law_grown fd__law_grown ["_law_parents_here"] (spD m__law_grown))
    {f__law_mixed : Addr} {fd__law_mixed : FuncData} (T__law_mixed : Fn K mg "_law_mixed" s__law_mixed ["_law_cell", "_law_k"] f__law_mixed fd__law_mixed) (G__law_mixed : FnOk P w K mg base CX0 k f__law_mixed fd__law_mixed ["_law_cell", "_law_k"] (spD m__law_mixed))
    {f__law_parents : Addr} {fd__law_parents : FuncData} (T__law_parents : Fn K mg "_law_parents" s__law_parents ["_law_rest_here", "_law_most"] f__law_parents fd__law_parents) (G__law_parents : FnOk P w K mg base CX0 k f__law_parents fd__law_parents ["_law_rest_here", "_law_most"] (spD m__law_parents))
    {f__law_read : Addr} {fd__law_read : FuncData} (T__law_read : Fn K mg "_law_read" s__law_read ["_law_text_here"] f__law_read fd__law_read) (G__law_read : FnOk P w K mg base CX0 k f__law_read fd__law_read ["_law_text_here"] (spD m__law_read))
    {f__law_refused : Addr} {fd__law_refused : FuncData} (T__law_refused : Fn K mg "_law_refused" s__law_refused ["_law_tree"] f__law_refused fd__law_refused) (G__law_refused : FnOk P w K mg base CX0 k f__law_refused fd__law_refused ["_law_tree"] (spD m__law_refused))
    {f__law_rest : Addr} {fd__law_rest : FuncData} (T__law_rest : Fn K mg "_law_rest" s__law_rest ["_law_script", "_law_k"] f__law_rest fd__law_rest) (G__law_rest : FnOk P w K mg base CX0 k f__law_rest fd__law_rest ["_law_script", "_law_k"] (spD m__law_rest))
    {f__law_spoilt : Addr} {fd__law_spoilt : FuncData} (T__law_spoilt : Fn K mg "_law_spoilt" s__law_spoilt ["_law_text_here", "_law_number"] f__law_spoilt fd__law_spoilt) (G__law_spoilt : FnOk P w K mg base CX0 k f__law_spoilt fd__law_spoilt ["_law_text_here", "_law_number"] (spD m__law_spoilt))
    {f__law_text : Addr} {fd__law_text : FuncData} (T__law_text : Fn K mg "_law_text" s__law_text ["_law_tree"] f__law_text fd__law_text) (G__law_text : FnOk P w K mg base CX0 k f__law_text fd__law_text ["_law_tree"] (spD m__law_text))
    {f_shown_tree : Addr} {fd_shown_tree : FuncData} (T_shown_tree : Fn K mg "shown_tree" s_shown_tree ["tree"] f_shown_tree fd_shown_tree) (G_shown_tree : FnOk P w K mg base (CXW P w) k f_shown_tree fd_shown_tree ["tree"] (spX m_shown_tree)) (z_isinstance : mg "isinstance" = none) (z_len : mg "len" = none) (z_range : mg "range" = none) (z_str : mg "str" = none) :
    FnOk P w K mg base CX0 (k + 1) f fd ["_law_script"] (spD (m_law m__law_grown m__law_mixed m__law_parents m__law_read m__law_refused m__law_rest m__law_spoilt m__law_text m_shown_tree)):=okD F sy_law (ob_law T__law_grown G__law_grown T__law_mixed G__law_mixed T__law_parents G__law_parents T__law_read G__law_read T__law_refused G__law_refused T__law_rest G__law_rest T__law_spoilt G__law_spoilt T__law_text G__law_text T_shown_tree G_shown_tree z_isinstance z_len z_range z_str)
end
def tzTo : Nat→List Tr
  | 0 => []
  | n + 1 => tzTo n ++ TH.tz n
def body : Tr→List Nat
  | .nil => []
  | .cons b r => 91 :: (body b ++ 93 :: body r)
def txt (t : Tr) : List Nat:=91 :: (body t ++ [93])
theorem body_cons (b r : Tr) : body (.cons b r) = txt b ++ body r := by simp [body,txt]
theorem body_of : ∀ (bs : List Tr) (b : Tr),body (Tr.of (bs ++ [b])) = body (Tr.of bs) ++ txt b
  | [],b => by simp [Tr.of,body,txt]
  | x :: bs,b => by rw [List.cons_append,Tr.of,Tr.of,body_cons,body_cons,body_of bs b,List.append_assoc]
def cs : Tr→Nat
  | .nil => 0
  | .cons b r => cs b + cs r + 1
theorem body_len : ∀ t,(body t).length = 2 * cs t
  | .nil => rfl
  | .cons b r => by simp [body,cs,body_len b,body_len r]; lia
def allT : Nat→Nat→List Tr
  | 0,n => if n = 0 then [.nil] else []
  | _ + 1,0 => [.nil]
  | f + 1,n + 1 => (List.range (n + 1)).flatMap fun i => (allT f i).flatMap fun b => (allT f (n - i)).map (Tr.cons b)
theorem all_mem : ∀ (f : Nat) (t : Tr),cs t≤f→t∈allT f (cs t)
  | 0,.nil,_ => .head _
  | 0,.cons b r,h => by simp [cs] at h
  | f + 1,.nil,_ => .head _
  | f + 1,.cons b r,h => by
    have h' : cs b + cs r + 1≤f + 1:=h
    show Tr.cons b r∈allT (f + 1) (cs b + cs r + 1)
    rw [allT]
    refine List.mem_flatMap.mpr ⟨cs b,List.mem_range.mpr (by lia),List.mem_flatMap.mpr ⟨b,all_mem f b (by lia),List.mem_map.mpr ⟨r,?_,rfl⟩⟩⟩
    rw [show cs b + cs r - cs b = cs r by lia]
    exact all_mem f r (by lia)
theorem all_tz : ((List.range 7).all fun n => (allT 6 n).all fun t => !t.fall || (TH.tz n).contains t) = true := by decide +kernel
theorem tz_to {n : Nat} (h : n < 7) {t : Tr} (ht : t∈TH.tz n) : t∈tzTo 7 := by
  have : n = 0∨n = 1∨n = 2∨n = 3∨n = 4∨n = 5∨n = 6 := by lia
  show t∈(((((([] ++ TH.tz 0) ++ TH.tz 1) ++ TH.tz 2) ++ TH.tz 3) ++ TH.tz 4) ++ TH.tz 5) ++ TH.tz 6
  rcases this with rfl | rfl | rfl | rfl | rfl | rfl | rfl <;> simp [ht]
theorem mem_tz {t : Tr} (hf : t.fall = true) (h : (txt t).length≤14) : t∈tzTo 7 := by
  have hl : (txt t).length = 2 * cs t + 2 := by unfold txt; simp [body_len]
  have hc : cs t≤6 := by lia
  have:=List.all_eq_true.mp (List.all_eq_true.mp all_tz (cs t) (List.mem_range.mpr (by lia))) t (all_mem 6 t hc)
  rw [hf] at this
  exact tz_to (n:=cs t) (by lia) (by simpa using this)
theorem fall_of : ∀ (bs : List Tr) (b : Tr),(Tr.of (bs ++ [b])).fall = ((Tr.of bs).fall && b.fall && (match bs.getLast? with | some x => !Tr.lt x b | none => true))
  | [],b => by simp [Tr.of,Tr.fall]
  | [x],b => by simp [Tr.of,Tr.fall]
  | x :: y :: bs,b => by
    have ih:=fall_of (y :: bs) b
    have e : (x :: y :: bs).getLast? = (y :: bs).getLast? := by simp [List.getLast?_cons_cons]
    have f1 : ∀ q : List Tr,(Tr.of (x :: y :: q)).fall = (x.fall && (Tr.of (y :: q)).fall && !Tr.lt x y):=fun q => rfl
    rw [e]
    show (Tr.of (x :: y :: (bs ++ [b]))).fall = _
    rw [f1,f1,show y :: (bs ++ [b]) = y :: bs ++ [b] from rfl,ih]
    cases x.fall <;> cases (Tr.of (y :: bs)).fall <;> cases b.fall <;> cases (!Tr.lt x y) <;> simp
def seg (l : List Nat) (b k : Nat) : List Nat:=(l.drop b).take (k + 1 - b)
def okB (bs : List Tr) (b : Tr) : Bool:=match bs.getLast? with | some x => !Tr.lt x b | none => true
def rdGo (rd : List Nat→Option Tr) (l : List Nat) : Nat→Nat→List Tr→Nat→Nat→Option (List Tr×Nat)
  | 0,_,bs,deep,_ => some (bs,deep)
  | m + 1,k,bs,deep,begun => match l[k]? with
    | none => none
    | some c => if c = 91 then rdGo rd l m (k + 1) bs (deep + 1) begun
      else if c = 93 then (match deep with
        | 0 => none
        | 1 => (match rd (seg l begun k) with
          | none => none
          | some b => if okB bs b = true then rdGo rd l m (k + 1) (bs ++ [b]) 0 (k + 1) else none)
        | d + 2 => rdGo rd l m (k + 1) bs (d + 1) begun)
      else none
def rdT : Nat→List Nat→Option Tr
  | 0,_ => none
  | n + 1,l => if l.head? = some 91∧l.getLast? = some 93 then (match rdGo (rdT n) l (l.length - 2) 1 [] 0 1 with
    | some (bs,0) => some (Tr.of bs)
    | _ => none) else none
theorem go_sound {rd : List Nat→Option Tr} {l : List Nat} (hr : ∀ s t,rd s = some t→txt t = s∧t.fall = true) : ∀ (m k : Nat) (bs : List Tr) (deep begun : Nat) (r : List Tr×Nat),
    rdGo rd l m k bs deep begun = some r→k + m≤l.length→begun≤k→(deep = 0→begun = k)→l.take begun = 91 :: body (Tr.of bs)→(Tr.of bs).fall = true →
    ∃ bg,bg≤k + m∧(r.2 = 0→bg = k + m)∧l.take bg = 91 :: body (Tr.of r.1)∧(Tr.of r.1).fall = true
  | 0,k,bs,deep,begun,r,e,_,h1,h2,h3,h4 => by
    rw [rdGo] at e; cases e
    exact ⟨begun,h1,h2,h3,h4⟩
  | m + 1,k,bs,deep,begun,r,e,hk,h1,h2,h3,h4 => by
    unfold rdGo at e
    split at e
    · cases e
    · rename_i c hc
      split at e
      · obtain ⟨bg,k1,k2,k3,k4⟩:=go_sound hr m (k + 1) bs (deep + 1) begun r e (by lia) (by lia) (by lia) h3 h4
        exact ⟨bg,by lia,fun z => by have:=k2 z; lia,k3,k4⟩
      · split at e
        · split at e
          · cases e
          · split at e
            · cases e
            · rename_i b hb
              obtain ⟨t1,t2⟩:=hr _ _ hb
              split at e
              · rename_i ho
                have e3 : l.take (k + 1) = 91 :: body (Tr.of (bs ++ [b])) := by
                  rw [body_of,t1,← List.cons_append,← h3]
                  unfold seg
                  conv => lhs; rw [show k + 1 = begun + (k + 1 - begun) by lia,List.take_add]
                have e4 : (Tr.of (bs ++ [b])).fall = true := by
                  rw [fall_of,h4,t2]
                  exact ho
                obtain ⟨bg,k1,k2,k3,k4⟩:=go_sound hr m (k + 1) (bs ++ [b]) 0 (k + 1) r e (by lia) (by lia) (fun _ => rfl) e3 e4
                exact ⟨bg,by lia,fun z => by have:=k2 z; lia,k3,k4⟩
              · cases e
          · obtain ⟨bg,k1,k2,k3,k4⟩:=go_sound hr m (k + 1) bs _ begun r e (by lia) (by lia) (by lia) h3 h4
            exact ⟨bg,by lia,fun z => by have:=k2 z; lia,k3,k4⟩
        · cases e
theorem rd_sound : ∀ (n : Nat) (l : List Nat) (t : Tr),rdT n l = some t→txt t = l∧t.fall = true
  | 0,_,_,e => by cases e
  | n + 1,l,t,e => by
    rw [rdT] at e
    split at e
    · rename_i hh
      split at e
      · rename_i bs hg
        cases e
        obtain ⟨h1,h2⟩:=hh
        match l,h1,h2 with
        | [c],h1,h2 => simp at h1 h2; lia
        | a :: b :: l,h1,h2 =>
          have ha : a = 91 := by simpa using h1
          subst ha
          obtain ⟨bg,k1,k2,k3,k4⟩:=go_sound (rd_sound n) _ 1 [] 0 1 _ hg (by simp; lia) (Nat.le_refl _) (fun _ => rfl) rfl rfl
          have hbg:=k2 rfl
          refine ⟨?_,k4⟩
          have hlen : 1 + ((91 :: b :: l).length - 2) = (91 :: b :: l).length - 1 := by simp; lia
          rw [hbg,hlen] at k3
          unfold txt
          have hL:=List.dropLast_concat_getLast (l:=91 :: b :: l) (by simp)
          have hl2 : (91 :: b :: l).getLast (by simp) = 93 := by
            have:=List.getLast?_eq_some_getLast (l:=91 :: b :: l) (by simp)
            rw [this] at h2; exact Option.some.inj h2
          rw [hl2,List.dropLast_eq_take,k3] at hL
          exact hL
      · cases e
    · cases e
theorem rd_full : ((tzTo 7).all fun t => decide (rdT 8 (txt t) = some t)) = true := by decide +kernel
theorem rd_txt {t : Tr} (h : t∈tzTo 7) : rdT 8 (txt t) = some t:=of_decide_eq_true (List.all_eq_true.mp rd_full t h)
abbrev tD (t : Tr) : PyData:=.tuple (L2.rowD t)
abbrev tsD (ts : List Tr) : PyData:=.list (ts.map tD)
abbrev sT (l : List Nat) : Str:=⟨l.toArray⟩
theorem row_map : ∀ ts : List Tr,L2.rowD (Tr.of ts) = ts.map tD
  | [] => rfl
  | t :: ts => by rw [List.map_cons,← row_map ts]; rfl
theorem ext_is {i : Nat} {f : Dv→Option PyData} {δ : Dv} {xs zs : List PyData} (h : f δ = some (.list zs)) (k : ow i δ = some xs) (hl : xs.length + zs.length≤dMax) : sExt i f δ = some (.nx (δ.set i (.own (.lst (xs ++ zs))))) := by
  show (f δ).bind _ = _
  rw [h]
  show (ow i δ).bind _ = _
  rw [k]
  show (if xs.length + zs.length≤dMax then some (Ou.nx (δ.set i (.own (.lst (xs ++ zs))))) else none) = _
  rw [if_pos hl]
theorem own_is {i : Nat} {fs : Dv→Option (List PyData)} {δ : Dv} {ys : List PyData} (h : fs δ = some ys) (hl : ys.length≤dMax) : sOwn i fs δ = some (.nx (δ.set i (.own (.lst ys)))) := by
  show ((fs δ).bind few).map _ = _
  rw [h]
  show (few ys).map _ = _
  unfold few
  rw [if_pos hl]; rfl
abbrev mOne : List PyData→Option PyData:=m_trees_one_larger m_in_falling_order 9
abbrev mOf : List PyData→Option PyData:=m_trees_of mOne
theorem one_all : (tzTo 6).map (fun t => mOne [tD t]) = (tzTo 6).map fun t => some (tsD (TH.oneL t)) := by kernel_rfl
theorem tz6 {n : Nat} (h : n < 6) {t : Tr} (ht : t∈TH.tz n) : t∈tzTo 6 := by
  have : n = 0∨n = 1∨n = 2∨n = 3∨n = 4∨n = 5 := by lia
  show t∈((((([] ++ TH.tz 0) ++ TH.tz 1) ++ TH.tz 2) ++ TH.tz 3) ++ TH.tz 4) ++ TH.tz 5
  rcases this with rfl | rfl | rfl | rfl | rfl | rfl <;> simp [ht]
theorem ups_len : ∀ i,i < 6→((TH.tz i).map fun t => (TH.oneL t).length).sum≤300 := by decide +kernel
theorem set_0 : dSortSet (tsD (TH.ups (TH.tz 0))) = some (tsD (TH.tz 1)) := by kernel_rfl
theorem set_1 : dSortSet (tsD (TH.ups (TH.tz 1))) = some (tsD (TH.tz 2)) := by kernel_rfl
theorem set_2 : dSortSet (tsD (TH.ups (TH.tz 2))) = some (tsD (TH.tz 3)) := by kernel_rfl
theorem set_3 : dSortSet (tsD (TH.ups (TH.tz 3))) = some (tsD (TH.tz 4)) := by kernel_rfl
theorem set_4 : dSortSet (tsD (TH.ups (TH.tz 4))) = some (tsD (TH.tz 5)) := by kernel_rfl
theorem set_5 : dSortSet (tsD (TH.ups (TH.tz 5))) = some (tsD (TH.tz 6)) := by kernel_rfl
theorem set_is {i : Nat} (h : i < 6) : dSortSet (tsD (TH.ups (TH.tz i))) = some (tsD (TH.tz (i + 1))) := by
  have : i = 0∨i = 1∨i = 2∨i = 3∨i = 4∨i = 5 := by lia
  rcases this with rfl | rfl | rfl | rfl | rfl | rfl
  · exact set_0
  · exact set_1
  · exact set_2
  · exact set_3
  · exact set_4
  · exact set_5
theorem ups_take {ts : List Tr} {j : Nat} {t : Tr} (h : ts[j]? = some t) : TH.ups (ts.take (j + 1)) = TH.ups (ts.take j) ++ TH.oneL t := by
  unfold TH.ups
  rw [List.take_succ,h]
  simp
theorem ups_le (ts : List Tr) (j : Nat) : (TH.ups (ts.take j)).length≤(ts.map fun t => (TH.oneL t).length).sum := by
  have e : (TH.ups (ts.take j)).length = ((ts.take j).map fun t => (TH.oneL t).length).sum := by unfold TH.ups; rw [List.length_flatMap]
  have e2 : (ts.map fun t => (TH.oneL t).length).sum = ((ts.take j).map fun t => (TH.oneL t).length).sum + ((ts.drop j).map fun t => (TH.oneL t).length).sum := by
    conv => lhs; rw [← List.take_append_drop j ts]
    rw [List.map_append,List.sum_append_nat]
  lia
abbrev mTx : List PyData→Option PyData:=m_tree_text 9
abbrev mLTx : List PyData→Option PyData:=m__law_text 9
theorem tx_all : (tzTo 7).map (fun t => mTx [tD t]) = (tzTo 7).map fun t => some (.str (sT (txt t))) := by kernel_rfl
theorem tx_is {t : Tr} (h : t∈tzTo 7) : mTx [tD t] = some (.str (sT (txt t))):=List.map_inj_left.mp tx_all t h
theorem ltx_all : (tzTo 7).map (fun t => mLTx [tD t]) = (tzTo 7).map fun t => some (.str (sT (txt t))) := by kernel_rfl
theorem ltx_is {t : Tr} (h : t∈tzTo 7) : mLTx [tD t] = some (.str (sT (txt t))):=List.map_inj_left.mp ltx_all t h
theorem cnt_all : ((tzTo 7).all fun t => decide (Txt.count (sT (txt t)) "[" = (t.knots : Int))) = true := by decide +kernel
theorem kn_all : ((List.range 7).all fun n => (TH.tz n).all fun t => decide (t.knots = n + 1∧(txt t).length≤14∧t.deep≤60)) = true := by decide +kernel
abbrev mIs : List PyData→Option PyData:=m_is_tree 9
theorem is_all : (tzTo 7).map (fun t => mIs [tD t]) = (tzTo 7).map fun _ => some (.bool true) := by kernel_rfl
theorem tup_all : (tzTo 7).map (fun t => m__law_tuples 9 [tD t]) = (tzTo 7).map fun _ => some (.bool true) := by kernel_rfl
theorem of_is {k : Nat} (h : k < 7) : mOf [.int ((k : Int) + 1)] = some (tsD (TH.tz k)) := by
  refine retD_rt rfl ?_
  unfold F_trees_of
  refine seqD_nx (δ':=[.d (.int ((k : Int) + 1)),.no,.no,.no,.no]) (sIf_f (bOr_f (bCmp_is (x:=.int ((k : Int) + 1)) (y:=.int 1) rfl rfl ?_) (bCmp_is (x:=.int ((k : Int) + 1)) (y:=.int 7) rfl rfl ?_)) rfl) ?_
  · show some (PyData.bool (decide ((k : Int) + 1 < 1))) = _
    rw [decide_eq_false (by lia)]
  · show some (PyData.bool (decide ((7 : Int) < (k : Int) + 1))) = _
    rw [decide_eq_false (by lia)]
  refine seqD_nx (sSet_is (y:=tsD (TH.tz 0)) rfl) ?_
  refine seqD_for (xs:=rngD 1 k) (fun i δ => ∃ l2 l3 l4 : L,δ = [.d (.int ((k : Int) + 1)),.d (tsD (TH.tz i)),l2,l3,l4]) ?_ ⟨_,_,_,rfl⟩ ?_ ?_
  · have hk : k = 0∨k = 1∨k = 2∨k = 3∨k = 4∨k = 5∨k = 6 := by lia
    rcases hk with rfl | rfl | rfl | rfl | rfl | rfl | rfl <;> rfl
  · rintro i x δ hx ⟨l2,l3,l4,rfl⟩
    have hi:=(rng_get hx).2
    refine ⟨_,rfl,?_⟩
    refine ex_nx (own_is (ys:=[]) rfl (Nat.zero_le _)) ?_
    obtain ⟨δ',e1,l2',l4',e2⟩:=for_ex (fs:=iSeq (nm 1)) (set:=setN 4) (F:=sExt 3 (fCall mOne (fCons (nm 4) fNil))) (δ:=[.d (.int ((k : Int) + 1)),.d (tsD (TH.tz i)),.d x,.own (.lst []),l4]) (xs:=(TH.tz i).map tD)
      (fun j δ => ∃ l2 l4 : L,δ = [.d (.int ((k : Int) + 1)),.d (tsD (TH.tz i)),l2,.own (.lst ((TH.ups ((TH.tz i).take j)).map tD)),l4]) rfl ⟨_,_,rfl⟩ (by
        rintro j y δ hy ⟨l2,l4,rfl⟩
        rw [List.getElem?_map] at hy
        obtain ⟨t,ht,rfl⟩:=Option.map_eq_some_iff.mp hy
        have hm:=List.map_inj_left.mp one_all t (tz6 (show i < 6 by lia) (List.mem_of_getElem? ht))
        have hu:=ups_le (TH.tz i) (j + 1)
        have hs:=ups_len i (by lia)
        have hl : ((TH.ups ((TH.tz i).take j)).map tD).length + ((TH.oneL t).map tD).length≤dMax := by
          rw [← List.length_append,← List.map_append,← ups_take ht,List.length_map]
          unfold dMax; lia
        refine ⟨_,rfl,_,ext_is (zs:=(TH.oneL t).map tD) (fCall_is (xs:=[tD t]) rfl hm) rfl hl,l2,.d (tD t),?_⟩
        rw [ups_take ht,List.map_append]; rfl)
    rw [List.length_map,List.take_length] at e2
    subst e2
    refine ex_nx e1 ⟨_,sSet_is (y:=tsD (TH.tz (i + 1))) ?_,l2',_,l4',rfl⟩
    exact set_is (by lia)
  · rintro δ ⟨l2,l3,l4,rfl⟩
    rw [show (rngD 1 k).length = k by unfold rngD; rw [List.length_map,List.length_range]]
    rfl
def alph : List Nat:=[91,93,32,40,41,123,125,48,44,10]
structure Tx (l : List Nat) : Prop where
  len : l.length≤20
  chr : ∀ c∈l,c∈alph
theorem Tx.sub {l s : List Nat} (h : Tx l) (hl : s.length≤20) (hs : ∀ c∈s,c∈l) : Tx s:=⟨hl,fun c hc => h.chr c (hs c hc)⟩
abbrev cS (c : Nat) : PyData:=.str ⟨#[c]⟩
theorem not_in : alph.map (fun c => dNotInS (cS c) (.str (Str.ofString "[]"))) = alph.map fun c => some (.bool (!(c == 91 || c == 93))) := by kernel_rfl
theorem is_shut : alph.map (fun c => dEq false (cS c) (.str (Str.ofString "]"))) = alph.map fun c => some (.bool (c == 93)) := by kernel_rfl
theorem ne_open : alph.map (fun c => dEq true (cS c) (.str (Str.ofString "["))) = alph.map fun c => some (.bool (!(c == 91))) := by kernel_rfl
theorem ne_shut : alph.map (fun c => dEq true (cS c) (.str (Str.ofString "]"))) = alph.map fun c => some (.bool (!(c == 93))) := by kernel_rfl
theorem len_sT (l : List Nat) : (sT l).length = l.length := by simp [Str.length]
theorem idx_take (l : List Nat) : ∀ (m i : Nat),i + m≤l.length→((List.range m).map fun k => i + k).filterMap (fun k => l[k]?) = (l.drop i).take m
  | 0,i,_ => by simp
  | m + 1,i,h => by
    have hi : i < l.length := by lia
    have ih:=idx_take l m (i + 1) (by lia)
    rw [List.range_succ_eq_map,List.map_cons,List.map_map,List.filterMap_cons,Nat.add_zero,List.getElem?_eq_getElem hi]
    rw [List.drop_eq_getElem_cons hi,List.take_succ_cons,← ih]
    have e : (List.range m).map ((fun k => i + k) ∘ Nat.succ) = (List.range m).map fun k => i + 1 + k:=List.map_congr_left fun k _ => by
      show i + (k + 1) = i + 1 + k
      lia
    rw [e]
theorem slice_of (l : List Nat) {lo hi : Option Int} {a m : Nat} (h : Builtin.Str.strSliceIndices lo hi 1 l.length = (List.range m).map fun k => a + k) (hb : a + m≤l.length) : Txt.slice (sT l) lo hi = sT ((l.drop a).take m) := by
  unfold Txt.slice
  rw [len_sT,h]
  split
  · rename_i z
    simp at z
    have ha : a = 0 := by lia
    subst ha
    rw [List.drop_zero,z,List.take_length]
  · rw [← idx_take l m a hb]
    congr 1
    simp
theorem slice_ft (l : List Nat) {a b : Nat} (h1 : a≤b) (h2 : b≤l.length) : Txt.slice (sT l) (some (a : Int)) (some (b : Int)) = sT ((l.drop a).take (b - a)) := by
  refine slice_of l ?_ (by lia)
  unfold Builtin.Str.strSliceIndices sliceRange
  simp only [show (1 : Int) > 0 by decide,if_true]
  rw [if_neg (show ¬ ((a : Int) < 0) by lia),if_neg (show ¬ ((b : Int) < 0) by lia),Int.min_eq_left (show (a : Int)≤(l.length : Int) by lia),Int.min_eq_left (show (b : Int)≤(l.length : Int) by lia),Int.max_eq_right (by lia),Int.max_eq_right (by lia)]
  have e : (if (a : Int) < (b : Int) then ((b : Int) - a + 1 - 1) / 1 else 0).toNat = b - a := by
    split
    · rw [Int.ediv_one]; lia
    · lia
  rw [e]
  refine List.map_congr_left fun k _ => ?_
  lia
theorem slice_1 {c : Nat} {l : List Nat} : Txt.slice (sT (c :: l)) none (some 1) = sT [c] := by
  have:=slice_of (c :: l) (lo:=none) (hi:=some 1) (a:=0) (m:=1) (by
    unfold Builtin.Str.strSliceIndices sliceRange
    simp only [show (1 : Int) > 0 by decide,if_true,List.length_cons]
    rw [if_neg (show ¬ ((1 : Int) < 0) by decide),Int.min_eq_left (show (1 : Int)≤((l.length + 1 : Nat) : Int) by lia),Int.max_eq_right (by decide)]
    rfl) (by simp)
  simpa using this
theorem slice_l {l : List Nat} {c : Nat} : Txt.slice (sT (l ++ [c])) (some (-1)) none = sT [c] := by
  have:=slice_of (l ++ [c]) (lo:=some (-1)) (hi:=none) (a:=l.length) (m:=1) (by
    unfold Builtin.Str.strSliceIndices sliceRange
    simp only [show (1 : Int) > 0 by decide,if_true,List.length_append,List.length_cons,List.length_nil]
    rw [if_pos (by decide),Int.min_eq_left (by lia),Int.max_eq_right (by lia)]
    have e : (if (-1 : Int) + ((l.length + (0 + 1) : Nat) : Int) < ((l.length + (0 + 1) : Nat) : Int) then (((l.length + (0 + 1) : Nat) : Int) - (-1 + ((l.length + (0 + 1) : Nat) : Int)) + 1 - 1) / 1 else 0).toNat = 1 := by
      rw [if_pos (by lia),Int.ediv_one]; lia
    rw [e]
    refine List.map_congr_left fun k _ => ?_
    lia) (by simp)
  simpa using this
theorem eq_ints (x y : Int) : dEq false (.int x) (.int y) = some (.bool (decide (x = y))) := by
  have h : SeqAt.shaped (.int x) = true∧SeqAt.shaped (.int y) = true:=⟨(Ok.int (n:=0)).shaped (by decide),(Ok.int (n:=0)).shaped (by decide)⟩
  refine (if_pos h).trans ?_
  simp [PyData.eqv]
  exact Bool.eq_iff_iff.mpr (by simp)
theorem ne_ints (x y : Int) : dEq true (.int x) (.int y) = some (.bool (!decide (x = y))) := by
  have h : SeqAt.shaped (.int x) = true∧SeqAt.shaped (.int y) = true:=⟨(Ok.int (n:=0)).shaped (by decide),(Ok.int (n:=0)).shaped (by decide)⟩
  have e:=eq_ints x y
  unfold dEq at e ⊢
  rw [if_pos h] at e ⊢
  simpa using e
theorem deep_cs : ∀ t : Tr,t.deep≤cs t
  | .nil => Nat.le_refl _
  | .cons b r => by
    have h1:=deep_cs b
    have h2:=deep_cs r
    show max (b.deep + 1) r.deep≤cs b + cs r + 1
    lia
def treeO : Option Tr→PyData
  | none => .none
  | some t => tD t
theorem trs_row : ∀ t : Tr,trsOf (L2.rowD t) = some t
  | .nil => by rw [L2.rowD,trsOf]
  | .cons b r => by rw [L2.rowD,trsOf,trOf,trs_row b,trs_row r]; rfl
theorem trOf_tD (u : Tr) : trOf (tD u) = some u := by rw [trOf,trs_row]
theorem rng_cons (k m : Nat) : rngD (k : Int) (m + 1) = .int (k : Int) :: rngD ((k + 1 : Nat) : Int) m := by
  unfold rngD
  rw [List.range_succ_eq_map,List.map_cons,List.map_map]
  congr 1
  refine List.map_congr_left fun j _ => ?_
  show PyData.int ((k : Int) + ((j + 1 : Nat) : Int)) = .int (((k + 1 : Nat) : Int) + (j : Int))
  congr 1; lia
theorem can_row : ∀ t : Tr,PyData.canLayAll0 (L2.rowD t) = true
  | .nil => by simp [L2.rowD,PyData.canLayAll0]
  | .cons b r => by simp [L2.rowD,PyData.canLayAll0,PyData.canLay0,can_row b,can_row r]
theorem dep_row : ∀ t : Tr,PyData.depthAll (L2.rowD t)≤t.deep
  | .nil => by simp [L2.rowD,PyData.depthAll]
  | .cons b r => by
    have h1:=dep_row b
    have h2:=dep_row r
    simp only [L2.rowD,PyData.depthAll,PyData.depth,Tr.deep]
    lia
theorem ok_trs {n : Nat} : ∀ {bs : List Tr},(∀ b∈bs,b.deep≤n)→PyData.canLayAll0 (bs.map tD) = true∧PyData.depthAll (bs.map tD)≤n + 1
  | [],_ => by simp [PyData.canLayAll0,PyData.depthAll]
  | b :: bs,h => by
    obtain ⟨h1,h2⟩:=ok_trs (bs := bs) fun x hx => h x (.tail _ hx)
    have h3:=dep_row b
    have h4:=h b (.head _)
    simp only [List.map_cons,PyData.canLayAll0,PyData.canLay0,PyData.depthAll,PyData.depth]
    exact ⟨by rw [can_row,h1]; rfl,by lia⟩
theorem ne_nil {bs : List Tr} (h : ∀ b∈bs,b.deep≤20) (hn : bs≠[]) : dEq true (.list (bs.map tD)) (.list []) = some (.bool true) := by
  obtain ⟨h1,h2⟩:=ok_trs h
  have hs : SeqAt.shaped (.list (bs.map tD)) = true∧SeqAt.shaped (.list []) = true := by
    unfold SeqAt.shaped
    simp only [PyData.canLay0,PyData.depth,h1,PyData.canLayAll0,PyData.depthAll,Bool.true_and]
    exact ⟨decide_eq_true (show _≤64 by lia),by decide⟩
  refine (if_pos hs).trans ?_
  cases bs with
  | nil => exact absurd rfl hn
  | cons b bs => simp [PyData.eqv,PyData.eqvAll]
abbrev tst4 : Dv→Option Bool := bLeaf (bOr (bCmp (dIs false) (nm 5) (fC .none)) (bAnd (bCmp (dEq true) (nm 1) (fLst fNil)) (bCmp dGtTr (nm 5) (op2 dIx (nm 1) (fNeg (fC (.int 1)))))))
abbrev rdBody (mr : List PyData→Option PyData) : DF:=(seqD (sIf (bCmp dNotInS (op2 dIx (nm 0) (nm 4)) (fC (.str (Str.ofString "[]"))))
      (sRet (fC .none))
      sNext)
    (seqD (sSet 2 (op2 dAdd (nm 2) (op2 dIx (fLst (fCons (fC (.int 1)) (fCons (fNeg (fC (.int 1))) fNil))) (fCall dInt (fCons (op2 (dEq false) (op2 dIx (nm 0) (nm 4)) (fC (.str (Str.ofString "]")))) fNil)))))
    (seqD (sIf (bCmp (iCmp fun i j => decide (i < j)) (nm 2) (fC (.int 0)))
      (sRet (fC .none))
      sNext)
    (sIf (bCmp (dEq false) (nm 2) (fC (.int 0)))
      (seqD (sSet 5 (fCall mr (fCons (fSlFT (nm 0) (nm 3) (op2 dAdd (nm 4) (fC (.int 1)))) fNil)))
      (seqD (sIf tst4
        (sRet (fC .none))
        sNext)
      (seqD (sApp 1 (nm 5))
      (sSet 3 (op2 dAdd (nm 4) (fC (.int 1)))))))
      sNext))))
section
variable {l : List Nat} {mr : List PyData→Option PyData} {bs : List Tr} {begun k : Nat} {l5 : L}
abbrev stD (l : List Nat) (bs : List Tr) (deep : Int) (begun : Nat) (l4 l5 : L) : Dv:=[.d (.str (sT l)),.own (.lst (bs.map tD)),.d (.int deep),.d (.int (begun : Nat)),l4,l5]
theorem ix_c {c : Nat} (hT : Tx l) (hc : l[k]? = some c) : dIx (.str (sT l)) (.int (k : Nat)) = some (cS c) := by
  have h:=hT.len
  show (if (sT l).length≤dMax then (atI (sT l).cps.toList (k : Nat)).map fun c => PyData.str ⟨#[c]⟩ else none) = _
  rw [len_sT,if_pos (by unfold dMax; lia)]
  have : atI (sT l).cps.toList (k : Nat) = some c:=atI_nat (by simpa using hc)
  rw [this]; rfl
theorem body_bad {c : Nat} {deep : Int} (hT : Tx l) (hc : l[k]? = some c) (h : ¬ c = 91) (h2 : ¬ c = 93) : rdBody mr (stD l bs deep begun (.d (.int (k : Nat))) l5) = some (.rt .none) := by
  have hm:=hT.chr c (List.mem_of_getElem? hc)
  refine seqD_rt (sIf_t (bCmp_is (x:=cS c) (y:=.str (Str.ofString "[]")) (op2_is (x:=.str (sT l)) (y:=.int (k : Nat)) rfl rfl (ix_c hT hc)) rfl ((List.map_inj_left.mp not_in c hm).trans ?_)) rfl)
  simp [h,h2]
theorem body_deep {c : Nat} {deep : Int} {r : Option Ou} (hT : Tx l) (hc : l[k]? = some c) (h : c = 91∨c = 93)
    (kk : (seqD (sIf (bCmp (iCmp fun i j => decide (i < j)) (nm 2) (fC (.int 0)))
      (sRet (fC .none))
      sNext)
    (sIf (bCmp (dEq false) (nm 2) (fC (.int 0)))
      (seqD (sSet 5 (fCall mr (fCons (fSlFT (nm 0) (nm 3) (op2 dAdd (nm 4) (fC (.int 1)))) fNil)))
      (seqD (sIf tst4
        (sRet (fC .none))
        sNext)
      (seqD (sApp 1 (nm 5))
      (sSet 3 (op2 dAdd (nm 4) (fC (.int 1)))))))
      sNext)) (stD l bs (deep + (if c = 93 then -1 else 1)) begun (.d (.int (k : Nat))) l5) = r) : rdBody mr (stD l bs deep begun (.d (.int (k : Nat))) l5) = r := by
  have hm:=hT.chr c (List.mem_of_getElem? hc)
  have ix : ∀ δ : Dv,nm 0 δ = some (.str (sT l))→nm 4 δ = some (.int (k : Nat))→op2 dIx (nm 0) (nm 4) δ = some (cS c):=fun δ h1 h2 => op2_is (x:=.str (sT l)) (y:=.int (k : Nat)) h1 h2 (ix_c hT hc)
  refine seqD_nx (sIf_f (bCmp_is (x:=cS c) (y:=.str (Str.ofString "[]")) (ix _ rfl rfl) rfl ((List.map_inj_left.mp not_in c hm).trans ?_)) rfl) ?_
  · rcases h with rfl | rfl <;> rfl
  refine seqD_nx (sSet_is (y:=.int (deep + (if c = 93 then -1 else 1))) (op2_is (x:=.int deep) (y:=.int (if c = 93 then -1 else 1)) rfl (op2_is (x:=.list [.int 1,.int (-1)]) (y:=.int (if c = 93 then 1 else 0)) rfl (fCall_is (xs:=[.bool (c == 93)]) (fCons_is (op2_is (x:=cS c) (y:=.str (Str.ofString "]")) (ix _ rfl rfl) rfl (List.map_inj_left.mp is_shut c hm)) rfl) ?_) ?_) rfl)) kk
  · rcases h with rfl | rfl <;> rfl
  · rcases h with rfl | rfl <;> rfl
theorem body_on {c : Nat} {deep : Int} (hT : Tx l) (hc : l[k]? = some c) (h : c = 91∨c = 93) {d : Nat} (hd : deep + (if c = 93 then -1 else 1) = ((d + 1 : Nat) : Int)) : rdBody mr (stD l bs deep begun (.d (.int (k : Nat))) l5) = some (.nx (stD l bs ((d + 1 : Nat) : Int) begun (.d (.int (k : Nat))) l5)) := by
  refine body_deep hT hc h ?_
  rw [hd]
  refine seqD_nx (sIf_f (bCmp_is (x:=.int ((d + 1 : Nat) : Int)) (y:=.int 0) rfl rfl ?_) rfl) (sIf_f (bCmp_is (x:=.int ((d + 1 : Nat) : Int)) (y:=.int 0) rfl rfl ((eq_ints _ _).trans ?_)) rfl)
  · show some (PyData.bool (decide (((d + 1 : Nat) : Int) < 0))) = _
    rw [decide_eq_false (by lia)]
  · rw [decide_eq_false (by lia)]
theorem body_low {c : Nat} (hT : Tx l) (hc : l[k]? = some c) (h : c = 93) : rdBody mr (stD l bs 0 begun (.d (.int (k : Nat))) l5) = some (.rt .none) := by
  subst h
  refine body_deep hT hc (.inr rfl) ?_
  exact seqD_rt (sIf_t rfl rfl)
theorem gt_is (b x : Tr) (h : b.deep≤60) : dGtTr (tD b) (tD x) = some (.bool (Tr.lt x b)) := by
  unfold dGtTr
  rw [trOf_tD,trOf_tD]
  show (if b.deep≤60 then some (PyData.bool (Tr.lt x b)) else none) = _
  rw [if_pos h]
theorem tst_none {deep : Int} : tst4 (stD l bs deep begun (.d (.int (k : Nat))) (.d .none)) = some true := by
  show bOr _ _ (frzAll _) = _
  exact (show (bCmp (dIs false) (nm 5) (fC .none) _).bind _ = some true from by rfl)
theorem last_ix {x : Tr} (h : bs.getLast? = some x) : atI (bs.map tD) (-1) = some (tD x) := by
  obtain ⟨ys,rfl⟩:=List.getLast?_eq_some_iff.mp h
  rw [List.map_append,List.map_cons,List.map_nil]
  exact atI_last _ _
theorem tst_tree {deep : Int} {b : Tr} (hb : ∀ b∈bs,b.deep≤20) (hd : b.deep≤60) : tst4 (stD l bs deep begun (.d (.int (k : Nat))) (.d (tD b))) = some (!okB bs b) := by
  show bOr _ _ (frzAll _) = _
  refine bOr_f rfl ?_
  unfold okB
  cases h : bs.getLast? with
  | none =>
    have : bs = []:=List.getLast?_eq_none_iff.mp h
    subst this
    rfl
  | some x =>
    have e1 : bCmp (dEq true) (nm 1) (fLst fNil) (frzAll (stD l bs deep begun (.d (.int (k : Nat))) (.d (tD b)))) = some true := bCmp_is (x:=.list (bs.map tD)) (y:=.list []) rfl rfl (ne_nil hb fun z => by rw [z] at h; cases h)
    have e2 : bCmp dGtTr (nm 5) (op2 dIx (nm 1) (fNeg (fC (.int 1)))) (frzAll (stD l bs deep begun (.d (.int (k : Nat))) (.d (tD b)))) = some (Tr.lt x b) := bCmp_is (x:=tD b) (y:=tD x) rfl (op2_is (x:=.list (bs.map tD)) (y:=.int (-1)) rfl rfl (last_ix h)) (gt_is b x hd)
    show (bCmp (dEq true) (nm 1) (fLst fNil) _).bind _ = _
    rw [e1]
    show (if true = true then bCmp dGtTr _ _ _ else some false) = _
    rw [if_pos rfl,e2]; simp
end
theorem rd_deep {n : Nat} {s : List Nat} {b : Tr} (h : rdT n s = some b) (hl : s.length≤20) : b.deep≤20 := by
  have h1:=(rd_sound n s b h).1
  have h2 : (txt b).length = 2 * cs b + 2 := by unfold txt; simp [body_len]
  have h3:=deep_cs b
  rw [h1] at h2
  lia
theorem forD_nx {set : PyData→Dv→Option Dv} {F : DF} {x : PyData} {xs : List PyData} {δ δ1 δ2 : Dv} (h1 : set x δ = some δ1) (h2 : F δ1 = some (.nx δ2)) : forD set F (x :: xs) δ = forD set F xs δ2 := by
  rw [forD,h1,Option.bind_some,h2]
theorem forD_rt {set : PyData→Dv→Option Dv} {F : DF} {x y : PyData} {xs : List PyData} {δ δ1 : Dv} (h1 : set x δ = some δ1) (h2 : F δ1 = some (.rt y)) : forD set F (x :: xs) δ = some (.rt y) := by
  rw [forD,h1,Option.bind_some,h2]
theorem app_is {i : Nat} {f : Dv→Option PyData} {δ : Dv} {y : PyData} {xs : List PyData} (h : f δ = some y) (o : ow i δ = some xs) (hl : xs.length < dMax) : sApp i f δ = some (.nx (δ.set i (.own (.lst (xs ++ [y]))))) := by
  show (f δ).bind _ = _
  rw [h]
  show (ow i δ).bind _ = _
  rw [o]
  show (if xs.length < dMax then some (Ou.nx (δ.set i (.own (.lst (xs ++ [y]))))) else none) = _
  rw [if_pos hl]
theorem body_zero {l : List Nat} {bs : List Tr} {begun k n : Nat} {l5 : L} (hT : Tx l) (hc : l[k]? = some 93) (hk : k + 2≤l.length) (h1 : 1≤begun) (h2 : begun≤k) (hb : ∀ b∈bs,b.deep≤20) (hbl : bs.length≤k)
    (hr : ∀ s,Tx s→s.length + 2≤l.length→1≤s.length→m__law_reader n [.str (sT s)] = some (treeO (rdT n s))) :
    rdBody (m__law_reader n) (stD l bs 1 begun (.d (.int (k : Nat))) l5) = (match rdT n (seg l begun k) with
      | none => some (.rt .none)
      | some b => if okB bs b = true then some (.nx (stD l (bs ++ [b]) 0 (k + 1) (.d (.int (k : Nat))) (.d (tD b)))) else some (.rt .none)) := by
  have hlen:=hT.len
  have sl : (seg l begun k).length = k + 1 - begun := by unfold seg; rw [List.length_take,List.length_drop]; lia
  have st : Tx (seg l begun k):=hT.sub (by lia) fun c hc => by unfold seg at hc; exact List.mem_of_mem_drop (List.mem_of_mem_take hc)
  have e:=hr _ st (by lia) (by lia)
  have se : fSlFT (nm 0) (nm 3) (op2 dAdd (nm 4) (fC (.int 1))) (stD l bs 0 begun (.d (.int (k : Nat))) l5) = some (.str (sT (seg l begun k))) := by
    show (op2 dAdd (nm 4) (fC (.int 1)) (stD l bs 0 begun (.d (.int (k : Nat))) l5)).bind (dSlFT (.str (sT l)) (.int (begun : Nat))) = _
    rw [op2_is (x:=.int (k : Nat)) (y:=.int 1) (z:=some (.int ((k + 1 : Nat) : Int))) rfl rfl rfl]
    show (if (sT l).length≤dMax then some (PyData.str (Txt.slice (sT l) (some (begun : Int)) (some ((k + 1 : Nat) : Int)))) else none) = _
    rw [len_sT,if_pos (by unfold dMax; lia),slice_ft l (by lia) (by lia)]
    rfl
  refine body_deep hT hc (.inr rfl) ?_
  refine seqD_nx (sIf_f rfl rfl) ?_
  refine sIf_t (bCmp_is (x:=.int 0) (y:=.int 0) rfl rfl (by kernel_rfl)) ?_
  cases hR : rdT n (seg l begun k) with
  | none =>
    rw [hR] at e
    refine seqD_nx (sSet_is (y:=.none) (fCall_is (xs:=[.str (sT (seg l begun k))]) (fCons_is se rfl) e)) ?_
    exact seqD_rt (sIf_t (tst_none (l:=l) (bs := bs) (begun := begun) (k:=k) (deep:=0)) rfl)
  | some b =>
    rw [hR] at e
    have hd:=rd_deep hR (by lia)
    have tt:=tst_tree (l:=l) (bs := bs) (begun := begun) (k:=k) (deep:=0) hb (show b.deep≤60 by lia)
    refine seqD_nx (sSet_is (y:=tD b) (fCall_is (xs:=[.str (sT (seg l begun k))]) (fCons_is se rfl) e)) ?_
    show _ = if okB bs b = true then _ else _
    cases ho : okB bs b with
    | false =>
      rw [ho] at tt
      exact seqD_rt (sIf_t tt rfl)
    | true =>
      rw [ho] at tt
      refine seqD_nx (sIf_f tt rfl) (seqD_nx (app_is (y:=tD b) (xs := bs.map tD) rfl rfl (by rw [List.length_map]; unfold dMax; lia)) ?_)
      refine (sSet_is (y:=.int ((k + 1 : Nat) : Int)) rfl).trans ?_
      rw [if_pos rfl]
      show some (Ou.nx [.d (.str (sT l)),.own (.lst (bs.map tD ++ [tD b])),.d (.int 0),.d (.int ((k + 1 : Nat) : Int)),.d (.int (k : Nat)),.d (tD b)]) = some (Ou.nx [.d (.str (sT l)),.own (.lst ((bs ++ [b]).map tD)),.d (.int 0),.d (.int ((k + 1 : Nat) : Int)),.d (.int (k : Nat)),.d (tD b)])
      rw [List.map_append]; rfl
theorem loop_is {n : Nat} {l : List Nat} (hT : Tx l) (hr : ∀ s,Tx s→s.length + 2≤l.length→1≤s.length→m__law_reader n [.str (sT s)] = some (treeO (rdT n s))) : ∀ (m k : Nat) (bs : List Tr) (deep begun : Nat) (l4 l5 : L),
    k + m + 1≤l.length→1≤begun→begun≤k→(∀ b∈bs,b.deep≤20)→bs.length≤k →
    (rdGo (rdT n) l m k bs deep begun = none∧forD (setN 4) (rdBody (m__law_reader n)) (rngD (k : Int) m) (stD l bs deep begun l4 l5) = some (.rt .none)) ∨
    (∃ bs' deep' bg l4' l5',rdGo (rdT n) l m k bs deep begun = some (bs',deep')∧bs'.length≤k + m∧forD (setN 4) (rdBody (m__law_reader n)) (rngD (k : Int) m) (stD l bs deep begun l4 l5) = some (.nx (stD l bs' (deep' : Nat) bg l4' l5')))
  | 0,k,bs,deep,begun,l4,l5,_,_,_,_,hb => .inr ⟨bs,deep,begun,l4,l5,rfl,hb,rfl⟩
  | m + 1,k,bs,deep,begun,l4,l5,hk,h1,h2,hb,hbl => by
    have hc : l[k]? = some l[k]:=List.getElem?_eq_getElem (by lia)
    generalize l[k] = c at hc
    rw [rng_cons]
    unfold rdGo
    rw [hc]
    simp only
    by_cases c1 : c = 91
    · rw [if_pos c1,forD_nx (F:=rdBody (m__law_reader n)) rfl (body_on hT hc (.inl c1) (d:=deep) (by subst c1; simp))]
      rcases loop_is hT hr m (k + 1) bs (deep + 1) begun (.d (.int (k : Nat))) l5 (by lia) h1 (by lia) hb (by lia) with h | ⟨a,b,c,d,e,f,g,i⟩
      · exact .inl h
      · exact .inr ⟨a,b,c,d,e,f,by lia,i⟩
    · rw [if_neg c1]
      by_cases c2 : c = 93
      · rw [if_pos c2]
        match deep with
        | 0 => exact .inl ⟨rfl,forD_rt rfl (body_low hT hc c2)⟩
        | 1 =>
          subst c2
          have e := body_zero (l5:=l5) (bs := bs) hT hc (by lia) h1 h2 hb hbl hr
          simp only
          cases hR : rdT n (seg l begun k) with
          | none => rw [hR] at e; exact .inl ⟨rfl,forD_rt rfl e⟩
          | some b =>
            rw [hR] at e
            simp only at e ⊢
            by_cases ho : okB bs b = true
            · rw [if_pos ho] at e ⊢
              rw [forD_nx (F:=rdBody (m__law_reader n)) rfl e]
              have hd : b.deep≤20:=rd_deep hR (by have:=hT.len; unfold seg; rw [List.length_take,List.length_drop]; lia)
              rcases loop_is hT hr m (k + 1) (bs ++ [b]) 0 (k + 1) (.d (.int (k : Nat))) (.d (tD b)) (by lia) (by lia) (by lia) (fun x hx => by
                rcases List.mem_append.mp hx with hx | hx
                · exact hb x hx
                · rw [List.mem_singleton.mp hx]; exact hd) (by simp; lia) with h | ⟨a,b,c,d,e,f,g,i⟩
              · exact .inl h
              · exact .inr ⟨a,b,c,d,e,f,by lia,i⟩
            · rw [if_neg ho] at e ⊢
              exact .inl ⟨rfl,forD_rt rfl e⟩
        | d + 2 =>
          rw [forD_nx (F:=rdBody (m__law_reader n)) rfl (body_on hT hc (.inr c2) (d:=d) (by subst c2; simp; lia))]
          rcases loop_is hT hr m (k + 1) bs (d + 1) begun (.d (.int (k : Nat))) l5 (by lia) h1 (by lia) hb (by lia) with h | ⟨a,b,c,d,e,f,g,i⟩
          · exact .inl h
          · exact .inr ⟨a,b,c,d,e,f,by lia,i⟩
      · rw [if_neg c2]
        exact .inl ⟨rfl,forD_rt rfl (body_bad hT hc c1 c2)⟩
theorem reader_is : ∀ (n : Nat) (l : List Nat),Tx l→1≤l.length→l.length≤2 * n→m__law_reader n [.str (sT l)] = some (treeO (rdT n l))
  | 0,l,_,h1,h2 => by lia
  | n + 1,l,hT,h1,h2 => by
    have hlen:=hT.len
    rw [m__law_reader]
    refine retD_rt rfl ?_
    unfold F__law_reader
    obtain ⟨a,l0,rfl⟩ : ∃ a l0,l = a :: l0 := by cases l with | nil => simp at h1 | cons a l0 => exact ⟨a,l0,rfl⟩
    obtain ⟨l1,z,e1⟩ : ∃ l1 z,a :: l0 = l1 ++ [z]:=⟨(a :: l0).dropLast,(a :: l0).getLast (by simp),(List.dropLast_concat_getLast (by simp)).symm⟩
    have hg : (a :: l0).getLast? = some z := by rw [e1]; simp
    have ha:=hT.chr a (.head _)
    have hz:=hT.chr z (by rw [e1]; simp)
    have t1 : ∀ δ : Dv,nm 0 δ = some (.str (sT (a :: l0)))→bCmp (dEq true) (op2 dSlT (nm 0) (fC (.int 1))) (fC (.str (Str.ofString "["))) δ = some (!(a == 91)):=fun δ h => by
      refine bCmp_is (x:=cS a) (y:=.str (Str.ofString "[")) (op2_is (x:=.str (sT (a :: l0))) (y:=.int 1) h rfl ?_) rfl (List.map_inj_left.mp ne_open a ha)
      show (if (sT (a :: l0)).length≤dMax then some (PyData.str (Txt.slice (sT (a :: l0)) none (some 1))) else none) = _
      rw [len_sT,if_pos (by unfold dMax; lia),slice_1]
    have t2 : ∀ δ : Dv,nm 0 δ = some (.str (sT (a :: l0)))→bCmp (dEq true) (op2 dSlF (nm 0) (fNeg (fC (.int 1)))) (fC (.str (Str.ofString "]"))) δ = some (!(z == 93)):=fun δ h => by
      refine bCmp_is (x:=cS z) (y:=.str (Str.ofString "]")) (op2_is (x:=.str (sT (a :: l0))) (y:=.int (-1)) h rfl ?_) rfl (List.map_inj_left.mp ne_shut z hz)
      show (if (sT (a :: l0)).length≤dMax then some (PyData.str (Txt.slice (sT (a :: l0)) (some (-1)) none)) else none) = _
      rw [len_sT,if_pos (by unfold dMax; lia),e1,slice_l]
    rw [rdT,hg]
    by_cases ca : a = 91
    · by_cases cz : z = 93
      · rw [if_pos ⟨by rw [ca]; rfl,by rw [cz]⟩]
        refine seqD_nx (sIf_f (bOr_f ((t1 _ rfl).trans (by rw [ca]; rfl)) ((t2 _ rfl).trans (by rw [cz]; rfl))) rfl) ?_
        refine seqD_nx (own_is (ys:=[]) rfl (Nat.zero_le _)) (seqD_nx (sSet_is rfl) (seqD_nx (sSet_is rfl) ?_))
        have h2' : 2≤(a :: l0).length := by
          cases l0 with
          | nil => rw [show [a] = [] ++ [a] from rfl] at e1; have:=List.append_inj_right' e1 rfl; simp at this; lia
          | cons _ _ => simp
        have rg : iCall rng2 (fCons (fC (.int 1)) (fCons (op2 iSub (fCall dLenS (fCons (nm 0) fNil)) (fC (.int 1))) fNil)) (stD (a :: l0) [] 0 1 .no .no) = some (rngD ((1 : Nat) : Int) ((a :: l0).length - 2)) := by
          show (fCons (fC (.int 1)) (fCons (op2 iSub (fCall dLenS (fCons (nm 0) fNil)) (fC (.int 1))) fNil) (stD (a :: l0) [] 0 1 .no .no)).bind rng2 = _
          have hL : fCall dLenS (fCons (nm 0) fNil) (stD (a :: l0) [] 0 1 .no .no) = some (.int ((a :: l0).length : Nat)):=fCall_is (xs:=[.str (sT (a :: l0))]) rfl (by
            show (if (sT (a :: l0)).length≤dMax then some (PyData.int ((sT (a :: l0)).length : Nat)) else none) = _
            rw [len_sT,if_pos (by unfold dMax; lia)])
          rw [fCons_is (x:=.int 1) (xs:=[.int ((((a :: l0).length : Nat) : Int) - 1)]) rfl (fCons_is (op2_is (x:=.int ((a :: l0).length : Nat)) (y:=.int 1) hL rfl rfl) rfl)]
          show (if -1000000≤(1 : Int)∧(1 : Int)≤1000000∧-1000000≤(((a :: l0).length : Nat) : Int) - 1∧(((a :: l0).length : Nat) : Int) - 1≤1000000 then some (rngD 1 ((((a :: l0).length : Nat) : Int) - 1 - 1).toNat) else none) = _
          rw [if_pos (by lia),show ((((a :: l0).length : Nat) : Int) - 1 - 1).toNat = (a :: l0).length - 2 by lia]
          rfl
        have fe : sFor (iCall rng2 (fCons (fC (.int 1)) (fCons (op2 iSub (fCall dLenS (fCons (nm 0) fNil)) (fC (.int 1))) fNil))) (setN 4) (rdBody (m__law_reader n)) (stD (a :: l0) [] 0 1 .no .no) = forD (setN 4) (rdBody (m__law_reader n)) (rngD ((1 : Nat) : Int) ((a :: l0).length - 2)) (stD (a :: l0) [] 0 1 .no .no) := by
          show (iCall rng2 _ _).bind _ = _
          rw [rg]; rfl
        rcases loop_is hT (fun s hs h3 h4 => reader_is n s hs h4 (by lia)) ((a :: l0).length - 2) 1 [] 0 1 .no .no (by lia) (by lia) (by lia) (fun b hb => by cases hb) (by simp) with ⟨g1,g2⟩ | ⟨bs,dp,bg,l4,l5,g1,g3,g2⟩
        · rw [g1]
          exact seqD_rt (fe.trans g2)
        · rw [g1]
          refine seqD_nx (fe.trans g2) ?_
          match dp with
          | 0 =>
            refine seqD_nx (sIf_f (bCmp_is (x:=.int 0) (y:=.int 0) rfl rfl (by kernel_rfl)) rfl) ?_
            show some (Ou.rt (.tuple (bs.map tD))) = some (.rt (.tuple (L2.rowD (Tr.of bs))))
            rw [row_map]
          | d + 1 =>
            refine seqD_rt (sIf_t (bCmp_is (x:=.int ((d + 1 : Nat) : Int)) (y:=.int 0) rfl rfl ((ne_ints _ _).trans ?_)) rfl)
            rw [decide_eq_false (by lia)]; rfl
      · rw [if_neg (fun h => cz (Option.some.inj h.2))]
        exact seqD_rt (sIf_t (bOr_f ((t1 _ rfl).trans (by rw [ca]; rfl)) ((t2 _ rfl).trans (by simp [cz]))) rfl)
    · rw [if_neg (fun h => ca (by simpa using h.1))]
      refine seqD_rt (sIf_t ?_ rfl)
      show (bCmp _ _ _ _).bind _ = _
      rw [t1 _ rfl]
      simp [ca]
theorem alph_lt : ∀ c∈alph,c < 0x110000 := by decide
theorem ok_tx {l : List Nat} (h : Tx l) : SeqAt.shaped (.str (sT l)) = true := by
  unfold SeqAt.shaped
  have : PyData.strOk (sT l) = true := by
    unfold PyData.strOk
    simp only [List.all_toArray,List.all_eq_true,decide_eq_true_eq]
    exact fun c hc => alph_lt c (h.chr c hc)
  simp [PyData.canLay0,PyData.depth,this]
theorem eq_tx {a b : List Nat} (ha : Tx a) (hb : Tx b) : dEq false (.str (sT a)) (.str (sT b)) = some (.bool (decide (a = b))) := by
  refine (if_pos ⟨ok_tx ha,ok_tx hb⟩).trans ?_
  have : PyData.eqv (.str (sT a)) (.str (sT b)) = decide (a = b) := by
    simp only [PyData.eqv]
    by_cases h : a = b
    · subst h; simp
    · have : ¬ sT a = sT b:=fun z => h (by simpa using congrArg (fun x : Str => x.cps.toList) z)
      rw [decide_eq_false h]
      simpa using this
  simp [this]
theorem ne_tx {a : List Nat} (ha : Tx a) : dEq true (.str (sT a)) (.str (sT a)) = some (.bool false) := by
  have e:=eq_tx ha ha
  unfold dEq at e ⊢
  rw [if_pos ⟨ok_tx ha,ok_tx ha⟩] at e ⊢
  simpa using e
theorem tx_body : ∀ t : Tr,∀ c∈body t,c∈alph
  | .nil,c,h => by cases h
  | .cons b r,c,h => by
    simp only [body,List.mem_cons,List.mem_append] at h
    rcases h with rfl | h | rfl | h
    · decide
    · exact tx_body b c h
    · decide
    · exact tx_body r c h
theorem tx_tx {t : Tr} (h : t∈tzTo 7) : Tx (txt t)∧(txt t).length≤14∧t.deep≤60∧1≤t.knots∧t.knots≤7∧t∈TH.tz (t.knots - 1) := by
  obtain ⟨n,hn,ht⟩ : ∃ n,n < 7∧t∈TH.tz n := by
    have h' : t∈(((((([] ++ TH.tz 0) ++ TH.tz 1) ++ TH.tz 2) ++ TH.tz 3) ++ TH.tz 4) ++ TH.tz 5) ++ TH.tz 6:=h
    simp only [List.nil_append,List.mem_append] at h'
    rcases h' with (((((h | h) | h) | h) | h) | h) | h
    · exact ⟨0,by decide,h⟩
    · exact ⟨1,by decide,h⟩
    · exact ⟨2,by decide,h⟩
    · exact ⟨3,by decide,h⟩
    · exact ⟨4,by decide,h⟩
    · exact ⟨5,by decide,h⟩
    · exact ⟨6,by decide,h⟩
  have k:=of_decide_eq_true (List.all_eq_true.mp (List.all_eq_true.mp kn_all n (List.mem_range.mpr hn)) t ht)
  refine ⟨⟨by lia,fun c hc => ?_⟩,k.2.1,k.2.2,by lia,by lia,by rw [k.1]; exact ht⟩
  unfold txt at hc
  simp only [List.mem_cons,List.mem_append,List.not_mem_nil,or_false] at hc
  rcases hc with rfl | hc | rfl
  · decide
  · exact tx_body t c hc
  · decide
theorem forD_find {set : PyData→Dv→Option Dv} {F : DF} (Iv : Dv→Prop) (g : PyData→Option PyData) : ∀ (xs : List PyData) (δ : Dv),Iv δ→(∀ x∈xs,∀ δ,Iv δ→∃ δ1,set x δ = some δ1∧((∃ r,g x = some r∧F δ1 = some (.rt r))∨(g x = none∧∃ δ2,F δ1 = some (.nx δ2)∧Iv δ2))) →
    (∃ r,xs.findSome? g = some r∧forD set F xs δ = some (.rt r))∨(xs.findSome? g = none∧∃ δ',forD set F xs δ = some (.nx δ')∧Iv δ')
  | [],δ,h,_ => .inr ⟨rfl,δ,rfl,h⟩
  | x :: xs,δ,h,k => by
    obtain ⟨δ1,h1,h2⟩:=k x (.head _) δ h
    rcases h2 with ⟨r,h3,h4⟩ | ⟨h3,δ2,h4,h5⟩
    · refine .inl ⟨r,by rw [List.findSome?_cons,h3],?_⟩
      unfold forD
      rw [h1,Option.bind_some,h4]
    · have e : (x :: xs).findSome? g = xs.findSome? g := by rw [List.findSome?_cons,h3]
      have e2 : forD set F (x :: xs) δ = forD set F xs δ2 := by
        rw [forD,h1,Option.bind_some,h4]
      rw [e,e2]
      exact forD_find Iv g xs δ2 h5 fun y hy => k y (.tail _ hy)
theorem sFor_find {set : PyData→Dv→Option Dv} {F F2 : DF} {fs : Dv→Option (List PyData)} {δ : Dv} {xs : List PyData} {z : PyData} (Iv : Dv→Prop) (g : PyData→Option PyData) (hx : fs δ = some xs) (h0 : Iv δ) (hs : ∀ x∈xs,∀ δ,Iv δ→∃ δ1,set x δ = some δ1∧((∃ r,g x = some r∧F δ1 = some (.rt r))∨(g x = none∧∃ δ2,F δ1 = some (.nx δ2)∧Iv δ2)))
    (k : ∀ δ',Iv δ'→F2 δ' = some (.rt z)) : seqD (sFor fs set F) F2 δ = some (.rt ((xs.findSome? g).getD z)) := by
  have e : sFor fs set F δ = forD set F xs δ := by show (fs δ).bind _ = _; rw [hx]; rfl
  rcases forD_find (F:=F) Iv g xs δ h0 hs with ⟨r,h1,h2⟩ | ⟨h1,δ',h2,h3⟩
  · rw [h1]; exact seqD_rt (e.trans h2)
  · rw [h1]; exact seqD_nx (e.trans h2) (k δ' h3)
abbrev mIn : List PyData→Option PyData:=m_tree_in mTx mOf
def inG (l : List Nat) (x : PyData) : Option PyData:=match trOf x with
  | some u => if txt u = l then some (tD u) else none
  | none => none
theorem in_find (l : List Nat) : ∀ ts : List Tr,(ts.map tD).findSome? (inG l) = (ts.find? fun u => decide (txt u = l)).map tD
  | [] => rfl
  | u :: ts => by
    rw [List.map_cons,List.findSome?_cons,List.find?_cons,in_find l ts]
    unfold inG
    rw [trOf_tD]
    by_cases h : txt u = l
    · simp [h]
    · simp [h]
theorem in_is {l : List Nat} (hT : Tx l) : ∃ o : Option Tr,mIn [.str (sT l)] = some (treeO o)∧((∃ u,o = some u∧u∈tzTo 7∧txt u = l)∨(o = none∧∀ u∈tzTo 7,txt u≠l)) := by
  suffices hh : ∃ o : Option Tr,F_tree_in mTx mOf [.d (.str (sT l)),.no,.no] = some (.rt (treeO o))∧((∃ u,o = some u∧u∈tzTo 7∧txt u = l)∨(o = none∧∀ u∈tzTo 7,txt u≠l)) by
    obtain ⟨o,h1,h2⟩:=hh
    exact ⟨o,retD_rt rfl h1,h2⟩
  have cnt : ∀ u∈tzTo 7,txt u = l→Txt.count (sT l) "[" = (u.knots : Int):=fun u hu e => by
    have:=of_decide_eq_true (List.all_eq_true.mp cnt_all u hu)
    rwa [e] at this
  have c0 : 0≤Txt.count (sT l) "[" := by unfold Txt.count; lia
  unfold F_tree_in
  generalize hc : Txt.count (sT l) "[" = c at cnt c0
  have s1 : (sSet 1 (op2 dCount (nm 0) (fC (.str (Str.ofString "["))))) [.d (.str (sT l)),.no,.no] = some (.nx [.d (.str (sT l)),.d (.int c),.no]) := by
    refine (sSet_is (y:=.int c) (op2_is (x:=.str (sT l)) (y:=.str (Str.ofString "[")) rfl rfl ?_)).trans rfl
    show some (PyData.int (Txt.count (sT l) "[")) = _
    rw [hc]
  by_cases h7 : 1≤c∧c≤7
  · obtain ⟨k,hk,hk7⟩ : ∃ k : Nat,c = (k : Int) + 1∧k < 7:=⟨(c - 1).toNat,by lia,by lia⟩
    have hf : seqD (sFor (iSeq (fCall mOf (fCons (nm 1) fNil))) (setN 2) (sIf (bCmp (dEq false) (fCall mTx (fCons (nm 2) fNil)) (nm 0)) (sRet (nm 2)) sNext)) (sRet (fC .none)) [.d (.str (sT l)),.d (.int c),.no] = some (.rt ((((TH.tz k).map tD).findSome? (inG l)).getD .none)) := by
      refine sFor_find (fun δ => ∃ l2 : L,δ = [.d (.str (sT l)),.d (.int c),l2]) (inG l) (xs:=(TH.tz k).map tD) ?_ ⟨_,rfl⟩ ?_ ?_
      · show (fCall mOf (fCons (nm 1) fNil) [.d (.str (sT l)),.d (.int c),.no]).bind seqOf = _
        rw [fCall_is (xs:=[.int c]) (z:=some (tsD (TH.tz k))) rfl (by rw [hk]; exact of_is hk7)]
        rfl
      · rintro x hx δ ⟨l2,rfl⟩
        obtain ⟨u,hu,rfl⟩:=List.mem_map.mp hx
        have hm:=tz_to hk7 hu
        refine ⟨_,rfl,?_⟩
        have tst : bCmp (dEq false) (fCall mTx (fCons (nm 2) fNil)) (nm 0) [.d (.str (sT l)),.d (.int c),.d (tD u)] = some (decide (txt u = l)) := bCmp_is (x:=.str (sT (txt u))) (y:=.str (sT l)) (fCall_is (xs:=[tD u]) rfl (tx_is hm)) rfl (eq_tx (tx_tx hm).1 hT)
        unfold inG
        rw [trOf_tD]
        by_cases e : txt u = l
        · rw [decide_eq_true e] at tst
          exact .inl ⟨tD u,if_pos e,sIf_t tst rfl⟩
        · rw [decide_eq_false e] at tst
          exact .inr ⟨if_neg e,_,sIf_f tst rfl,_,rfl⟩
      · rintro δ ⟨l2,rfl⟩
        rfl
    refine ⟨(TH.tz k).find? fun u => decide (txt u = l),seqD_nx s1 (seqD_nx (sIf_f (bOr_f (bCmp_is (x:=.int c) (y:=.int 1) rfl rfl ?_) (bCmp_is (x:=.int c) (y:=.int 7) rfl rfl ?_)) rfl) (hf.trans ?_)),?_⟩
    · show some (PyData.bool (decide (c < 1))) = _
      rw [decide_eq_false (by lia)]
    · show some (PyData.bool (decide ((7 : Int) < c))) = _
      rw [decide_eq_false (by lia)]
    · rw [in_find]
      cases (TH.tz k).find? fun u => decide (txt u = l) <;> rfl
    · cases hq : (TH.tz k).find? fun u => decide (txt u = l) with
      | some u => exact .inl ⟨u,rfl,tz_to hk7 (List.mem_of_find?_eq_some hq),by simpa using List.find?_some hq⟩
      | none =>
        refine .inr ⟨rfl,fun u hu e => ?_⟩
        have h1:=cnt u hu e
        have h2:=(tx_tx hu).2.2.2.2.2
        have h3:=(tx_tx hu).2.2.2.1
        rw [show u.knots - 1 = k by lia] at h2
        have:=List.find?_eq_none.mp hq u h2
        simp [e] at this
  · refine ⟨none,seqD_nx s1 (seqD_rt (sIf_t ?_ rfl)),.inr ⟨rfl,fun u hu e => ?_⟩⟩
    · have b1 : bCmp (iCmp fun i j => decide (i < j)) (nm 1) (fC (.int 1)) [.d (.str (sT l)),.d (.int c),.no] = some (decide (c < 1)) := bCmp_is (x:=.int c) (y:=.int 1) rfl rfl rfl
      by_cases z : c < 1
      · rw [decide_eq_true z] at b1
        show (bCmp _ _ _ _).bind _ = _
        rw [b1]; rfl
      · rw [decide_eq_false z] at b1
        refine bOr_f b1 (bCmp_is (x:=.int c) (y:=.int 7) rfl rfl ?_)
        show some (PyData.bool (decide ((7 : Int) < c))) = _
        rw [decide_eq_true (by lia)]
    · have h1:=cnt u hu e
      have h2:=(tx_tx hu).2.2.2.1
      have h3:=(tx_tx hu).2.2.2.2.1
      lia
abbrev mRead (C : Addr) : List PyData→Option Xr:=m_read_tree mIn C
theorem read_is (C : Addr) {l : List Nat} (hT : Tx l) : (∃ u∈tzTo 7,txt u = l∧mRead C [.str (sT l)] = some (.inl (tD u)))∨((∀ u∈tzTo 7,txt u≠l)∧mRead C [.str (sT l)] = some (.inr C)) := by
  obtain ⟨o,h1,h2⟩:=in_is hT
  rcases h2 with ⟨u,rfl,hu,e⟩ | ⟨rfl,hn⟩
  · refine .inl ⟨u,hu,e,retX_rt rfl ?_⟩
    unfold J_read_tree
    refine seqX_nx (δ':=[.d (.str (sT l)),.d (tD u)]) ?_ (seqX_nx (xIf_f rfl rfl) rfl)
    show (sSet 1 (fCall mIn (fCons (nm 0) fNil)) _).map Sum.inl = _
    rw [sSet_is (fCall_is (xs:=[.str (sT l)]) rfl h1)]; rfl
  · refine .inr ⟨hn,retX_no rfl ?_⟩
    unfold J_read_tree
    refine seqX_nx (δ':=[.d (.str (sT l)),.d .none]) ?_ (seqX_no (xIf_t rfl rfl))
    show (sSet 1 (fCall mIn (fCons (nm 0) fNil)) _).map Sum.inl = _
    rw [sSet_is (fCall_is (xs:=[.str (sT l)]) rfl h1)]; rfl
def kt2 (a b : Addr) (x y : Bool) : Addr→Option Bool:=fun C => if C = a then some x else if C = b then some y else none
theorem kt2_h {K : PySem.W.Frag} {a b : Addr} {x y : Bool} {cv : V} (xa : ExcK K a) (xb : ExcK K b) (ka : PySem.W.kitOne K (.ref a) (clsV cv) = some x) (kb : PySem.W.kitOne K (.ref b) (clsV cv) = some y) : ∀ C u,kt2 a b x y C = some u→ExcK K C∧PySem.W.kitOne K (.ref C) (clsV cv) = some u:=fun C u h => by
  unfold kt2 at h
  split at h
  · rename_i e; subst e; cases h; exact ⟨xa,ka⟩
  · split at h
    · rename_i e; subst e; cases h; exact ⟨xb,kb⟩
    · cases h
theorem fIsx_is {T : Addr→Option Bool} {C : Addr} {b : Bool} {f : Dv→Option PyData} {δ : Dv} (hf : f δ = some (excD C)) (h : T C = some b) : fIsx T f δ = some (.bool b) := by
  show (f δ).bind _ = _
  rw [hf]
  show (T ((C : Nat) : Int).toNat).map PyData.bool = _
  rw [Int.toNat_natCast,h]; rfl
abbrev mAl (C1 C2 : Addr) : List PyData→Option PyData:=m__law_alone (kt2 C1 C2 true true) (kt2 C1 C2 false false) (kt2 C1 C2 false false) (kt2 C1 C2 false false) (kt2 C1 C2 false false) (kt2 C1 C2 false false) (kt2 C1 C2 false false) (kt2 C1 C2 false false) (kt2 C1 C2 false true) (kt2 C1 C2 true false) (kt2 C1 C2 false false) (kt2 C1 C2 false false) (kt2 C1 C2 false false) (kt2 C1 C2 true true)
theorem al_1 (C1 C2 : Addr) : mAl C1 C2 [excD C1] = some (.bool true) := by
  refine retD_rt rfl ?_
  unfold F__law_alone
  have n : ∀ {x : Bool},kt2 C1 C2 false x C1 = some false:=fun {_} => if_pos rfl
  have t : ∀ {x : Bool},kt2 C1 C2 true x C1 = some true:=fun {_} => if_pos rfl
  refine seqD_nx (sIf_f (bOr_f (bNot_is (b:=true) (bVal_is (fIsx_is (C:=C1) rfl t))) (bNot_is (b:=true) (bVal_is (fIsx_is (C:=C1) rfl t)))) rfl) ?_
  refine seqD_nx (sSet_is (fLst_is (fCons_is (fIsx_is (C:=C1) rfl n) (fCons_is (fIsx_is (C:=C1) rfl n) (fCons_is (fIsx_is (C:=C1) rfl n) rfl))) (show 3≤1000 by decide))) ?_
  refine seqD_nx (sSet_is (op2_is rfl (fLst_is (fCons_is (fIsx_is (C:=C1) rfl n) (fCons_is (fIsx_is (C:=C1) rfl n) (fCons_is (fIsx_is (C:=C1) rfl n) rfl))) (show 3≤1000 by decide)) rfl)) ?_
  refine seqD_nx (sSet_is (op2_is rfl (fLst_is (fCons_is (fIsx_is (C:=C1) rfl n) (fCons_is (fIsx_is (C:=C1) rfl n) (fCons_is (fIsx_is (C:=C1) rfl n) rfl))) (show 3≤1000 by decide)) rfl)) ?_
  refine seqD_nx (sSet_is (op2_is rfl (fLst_is (fCons_is (fIsx_is (C:=C1) rfl t) (fCons_is (fIsx_is (C:=C1) rfl n) (fCons_is (fIsx_is (C:=C1) rfl n) rfl))) (show 3≤1000 by decide)) rfl)) ?_
  exact sRet_is (op2_is (x:=.int 1) (y:=.int 1) rfl rfl (eq_ints 1 1))
theorem al_2 {C1 C2 : Addr} (h : C1≠C2) : mAl C1 C2 [excD C2] = some (.bool true) := by
  refine retD_rt rfl ?_
  unfold F__law_alone
  have n : ∀ {x : Bool},kt2 C1 C2 x false C2 = some false:=fun {_} => (if_neg h.symm).trans (if_pos rfl)
  have t : ∀ {x : Bool},kt2 C1 C2 x true C2 = some true:=fun {_} => (if_neg h.symm).trans (if_pos rfl)
  refine seqD_nx (sIf_f (bOr_f (bNot_is (b:=true) (bVal_is (fIsx_is (C:=C2) rfl t))) (bNot_is (b:=true) (bVal_is (fIsx_is (C:=C2) rfl t)))) rfl) ?_
  refine seqD_nx (sSet_is (fLst_is (fCons_is (fIsx_is (C:=C2) rfl n) (fCons_is (fIsx_is (C:=C2) rfl n) (fCons_is (fIsx_is (C:=C2) rfl n) rfl))) (show 3≤1000 by decide))) ?_
  refine seqD_nx (sSet_is (op2_is rfl (fLst_is (fCons_is (fIsx_is (C:=C2) rfl n) (fCons_is (fIsx_is (C:=C2) rfl n) (fCons_is (fIsx_is (C:=C2) rfl n) rfl))) (show 3≤1000 by decide)) rfl)) ?_
  refine seqD_nx (sSet_is (op2_is rfl (fLst_is (fCons_is (fIsx_is (C:=C2) rfl n) (fCons_is (fIsx_is (C:=C2) rfl n) (fCons_is (fIsx_is (C:=C2) rfl t) rfl))) (show 3≤1000 by decide)) rfl)) ?_
  refine seqD_nx (sSet_is (op2_is rfl (fLst_is (fCons_is (fIsx_is (C:=C2) rfl n) (fCons_is (fIsx_is (C:=C2) rfl n) (fCons_is (fIsx_is (C:=C2) rfl n) rfl))) (show 3≤1000 by decide)) rfl)) ?_
  exact sRet_is (op2_is (x:=.int 1) (y:=.int 1) rfl rfl (eq_ints 1 1))
theorem tryS_in {i j k : Nat} {m : List PyData→Option Xr} {fs : Dv→Option (List PyData)} {δ : Dv} {ds : List PyData} {y : PyData} (h : fs δ = some ds) (q : m ds = some (.inl y)) : sTryS i j k m fs δ = some (.nx (δ.set i (.d y))) := by show ((fs δ).bind m).map _ = _; rw [h]; show (m ds).map _ = _; rw [q]; rfl
theorem tryS_no {i j k : Nat} {m : List PyData→Option Xr} {fs : Dv→Option (List PyData)} {δ : Dv} {ds : List PyData} {C : Addr} (h : fs δ = some ds) (q : m ds = some (.inr C)) : sTryS i j k m fs δ = some (.nx (((δ.set k (.d (excD C))).set j (.d (excD C))).set k .no)) := by show ((fs δ).bind m).map _ = _; rw [h]; show (m ds).map _ = _; rw [q]; rfl
abbrev mTup : List PyData→Option PyData:=m__law_tuples 9
noncomputable abbrev mLr (C1 C2 : Addr) : List PyData→Option PyData:=m__law_read (mAl C1 C2) (m__law_reader 8) mTup (only [C2] (mRead C2))
theorem fAnd_t {f g : Dv→Option PyData} {δ : Dv} {q : Option PyData} (h : f δ = some (.bool true)) (k : g δ = q) : fAnd f g δ = q := by
  show (f δ).bind _ = q
  rw [h]
  show (if true = true then g δ else some (.bool false)) = q
  rw [if_pos rfl]; exact k
theorem len_is {l : List Nat} (h : l.length≤1000) {δ : Dv} {f : Dv→Option PyData} (hf : f δ = some (.str (sT l))) : fCall dLenS (fCons f fNil) δ = some (.int (l.length : Nat)):=fCall_is (xs:=[.str (sT l)]) (fCons_is hf rfl) (by
  show (if (sT l).length≤dMax then some (PyData.int ((sT l).length : Nat)) else none) = _
  rw [len_sT,if_pos (show l.length≤dMax from h)])
theorem self_tr : (tzTo 7).map (fun t => dEq false (tD t) (tD t)) = (tzTo 7).map fun _ => some (.bool true) := by kernel_rfl
theorem lr_is {C1 C2 : Addr} (hC : C1≠C2) {l : List Nat} (hT : Tx l) (hl : l.length≤14) : mLr C1 C2 [.str (sT l)] = some (.bool true) := by
  refine retD_rt rfl ?_
  unfold F__law_read
  refine seqD_nx (sSet_is rfl) (seqD_nx (sSet_is rfl) ?_)
  rcases read_is C2 hT with ⟨u,hu,e,h⟩ | ⟨hn,h⟩
  · refine seqD_nx (tryS_in (ds:=[.str (sT l)]) rfl (only_is h)) (seqD_nx (sSet_is rfl) ?_)
    have h2 : 2≤l.length := by rw [← e]; unfold txt; simp
    have hr:=reader_is 8 l hT (by lia) (by lia)
    rw [← e,rd_txt hu,e] at hr
    refine seqD_nx (sIf_t (bCmp_is (x:=.int (l.length : Nat)) (y:=.int 1) (len_is (by lia) rfl) rfl ?_) (sSet_is (y:=tD u) (fCall_is (xs:=[.str (sT l)]) rfl hr))) ?_
    · show some (PyData.bool (decide ((1 : Int) < (l.length : Nat)))) = _
      rw [decide_eq_true (by lia)]
    refine seqD_nx (sIf_f (bCmp_is (x:=tD u) (y:=.none) rfl rfl rfl) rfl) (sRet_is ?_)
    exact fAnd_t (op2_is (x:=.none) (y:=.none) rfl rfl rfl) (fAnd_t (fCall_is (xs:=[tD u]) rfl (List.map_inj_left.mp tup_all u hu)) (op2_is (x:=tD u) (y:=tD u) rfl rfl (List.map_inj_left.mp self_tr u hu)))
  · refine seqD_nx (tryS_no (ds:=[.str (sT l)]) rfl (only_no h (.head _))) (seqD_nx (sSet_is rfl) ?_)
    have fin : ∀ x : L,x = .d .none→seqD (sIf (bCmp (dIs false) (nm 4) (fC .none)) (sRet (fCall (mAl C1 C2) (fCons (nm 2) fNil))) sNext) (sRet (fAnd (op2 (dIs false) (nm 2) (fC .none)) (fAnd (fCall mTup (fCons (nm 1) fNil)) (op2 (dEq false) (nm 1) (nm 4))))) [.d (.str (sT l)),.d .none,.d (excD C2),.no,x] = some (.rt (.bool true)):=fun x hx => by
      subst hx
      exact seqD_rt (sIf_t rfl (sRet_is (fCall_is (xs:=[excD C2]) rfl (al_2 hC))))
    by_cases h1 : 1 < l.length
    · have hr:=reader_is 8 l hT (by lia) (by lia)
      have hz : rdT 8 l = none := by
        cases q : rdT 8 l with
        | none => rfl
        | some t =>
          obtain ⟨e1,e2⟩:=rd_sound 8 l t q
          exact absurd e1 (hn t (mem_tz e2 (by rw [e1]; exact hl)))
      rw [hz] at hr
      refine seqD_nx (sIf_t (bCmp_is (x:=.int (l.length : Nat)) (y:=.int 1) (len_is (by lia) rfl) rfl ?_) (sSet_is (y:=.none) (fCall_is (xs:=[.str (sT l)]) rfl hr))) (fin _ rfl)
      show some (PyData.bool (decide ((1 : Int) < (l.length : Nat)))) = _
      rw [decide_eq_true (by lia)]
    · refine seqD_nx (sIf_f (bCmp_is (x:=.int (l.length : Nat)) (y:=.int 1) (len_is (by lia) rfl) rfl ?_) rfl) (fin _ rfl)
      show some (PyData.bool (decide ((1 : Int) < (l.length : Nat)))) = _
      rw [decide_eq_false (by lia)]
abbrev mShown (C : Addr) : List PyData→Option Xr:=m_shown_tree (m_refuse_no_tree mIs C) mTx
noncomputable abbrev mRf (C1 C2 : Addr) : List PyData→Option PyData:=m__law_refused (mAl C1 C2) (only [C1] (mShown C1))
theorem rf_is (C1 C2 : Addr) {x : PyData} (h : mIs [x] = some (.bool false)) : mRf C1 C2 [x] = some (.bool true) := by
  have hs : mShown C1 [x] = some (.inr C1) := by
    refine retX_no rfl ?_
    unfold J_shown_tree
    refine seqX_no (xCall_no (ds:=[x]) rfl (retX_no rfl ?_))
    unfold J_refuse_no_tree
    exact xIf_t (bNot_is (b:=false) (bVal_is (fCall_is (xs:=[x]) rfl h))) rfl
  refine retD_rt rfl ?_
  unfold F__law_refused
  refine seqD_nx (sSet_is rfl) (seqD_nx (sTry_no (ds:=[x]) rfl (only_no hs (.head _))) ?_)
  exact sRet_is (fCall_is (xs:=[excD C1]) rfl (al_1 C1 C2))
theorem shown_is (C1 : Addr) {t : Tr} (h : t∈tzTo 7) : mShown C1 [tD t] = some (.inl (.str (sT (txt t)))) := by
  refine retX_rt rfl ?_
  unfold J_shown_tree
  refine seqX_nx (δ':=[.d (tD t)]) (xCall_in (ds:=[tD t]) (y:=.none) rfl (retX_nx (δ:=[.d (tD t)]) rfl ?_)) ?_
  · unfold J_refuse_no_tree
    exact xIf_f (bNot_is (b:=true) (bVal_is (fCall_is (xs:=[tD t]) rfl (List.map_inj_left.mp is_all t h)))) rfl
  · show (sRet (fCall mTx (fCons (nm 0) fNil)) _).map Sum.inl = _
    rw [sRet_is (fCall_is (xs:=[tD t]) rfl (tx_is h))]; rfl
def rv (t : Tr) : Tr:=Tr.of t.bs.reverse
theorem rv_all : ((tzTo 7).filter fun t => decide (rv t≠t)).map (fun t => mIs [tD (rv t)]) = ((tzTo 7).filter fun t => decide (rv t≠t)).map fun _ => some (.bool false) := by kernel_rfl
theorem rv_ne : (tzTo 7).map (fun t => dEq true (tD t) (tD (rv t))) = (tzTo 7).map fun t => some (.bool (decide (rv t≠t))) := by kernel_rfl
theorem rv_D : (tzTo 7).map (fun t => dRevT (tD t) (.int (-1))) = (tzTo 7).map fun t => some (tD (rv t)) := by kernel_rfl
theorem no_1 : mIs [.list []] = some (.bool false) := by kernel_rfl
theorem no_2 : mIs [.tuple [.tuple [],.int 0]] = some (.bool false) := by kernel_rfl
theorem div_is {i j : Int} (h : 0 < j) (h2 : j.natAbs < 2 ^ 64) : iDiv (.int i) (.int j) = some (.int (i / j)) := by
  refine (if_pos ⟨by lia,fit_of (Nat.lt_of_lt_of_le h2 (Nat.pow_le_pow_right (by decide) (by decide)))⟩).trans ?_
  rw [Int.fdiv_eq_ediv_of_nonneg _ (by lia)]
theorem mixed_is (c k : Int) : ∃ v,m__law_mixed [.int c,.int k] = some (.int v) := by
  suffices hh : ∃ v,F__law_mixed [.d (.int c),.d (.int k),.no] = some (.rt (.int v)) by
    obtain ⟨v,h⟩:=hh; exact ⟨v,retD_rt rfl h⟩
  have hn : ∀ (a m : Int),0 < m→m < 2 ^ 60→(a % m).natAbs < 2 ^ 64:=fun a m h0 h1 => by
    have:=Int.emod_nonneg a (by lia : m≠0)
    have:=Int.emod_lt_of_pos a h0
    lia
  unfold F__law_mixed
  generalize hv : (c % 2147483647 * 48271 + k * 69621 + 11) % 2147483647 = v
  have v1 : v.natAbs < 2 ^ 64 := by rw [← hv]; exact hn _ _ (by decide) (by decide)
  generalize hu : v * v % 2147483629 = u
  have u1 : u.natAbs < 2 ^ 64 := by rw [← hu]; exact hn _ _ (by decide) (by decide)
  refine ⟨_,seqD_nx (sSet_is (y:=.int v) ?_) (seqD_nx (sSet_is (y:=.int u) ?_) (sRet_is (op2_is (x:=.int (u * u)) (y:=.int 2147483587) (op2_is (x:=.int u) (y:=.int u) rfl rfl (mul_r u1)) rfl (mod_is (by decide)))))⟩
  · refine op2_is (x:=.int (c % 2147483647 * 48271 + k * 69621 + 11)) (y:=.int 2147483647) (op2_is (x:=.int (c % 2147483647 * 48271 + k * 69621)) (y:=.int 11) (op2_is (x:=.int (c % 2147483647 * 48271)) (y:=.int (k * 69621)) (op2_is (x:=.int (c % 2147483647)) (y:=.int 48271) (op2_is (x:=.int c) (y:=.int 2147483647) rfl rfl (mod_is (by decide))) rfl (mul_r (by decide))) (op2_is (x:=.int k) (y:=.int 69621) rfl rfl (mul_r (by decide))) rfl) rfl rfl) rfl ((mod_is (by decide)).trans ?_)
    rw [hv]
  · refine op2_is (x:=.int (v * v)) (y:=.int 2147483629) (op2_is (x:=.int v) (y:=.int v) rfl rfl (mul_r v1)) rfl ((mod_is (by decide)).trans ?_)
    rw [hu]
abbrev intsD (xs : List Int) : PyData:=.list (xs.map PyData.int)
theorem cell_is (xs : List Int) (k : Nat) : ∃ c,m__law_cell_at [intsD xs,.int (k : Nat)] = some (.int c) := by
  suffices hh : ∃ c,F__law_cell_at [.d (intsD xs),.d (.int (k : Nat))] = some (.rt (.int c)) by
    obtain ⟨c,h⟩:=hh; exact ⟨c,retD_rt rfl h⟩
  unfold F__law_cell_at
  have t : bCmp (iCmp fun i j => decide (i < j)) (nm 1) (fCall dLen (fCons (nm 0) fNil)) [.d (intsD xs),.d (.int (k : Nat))] = some (decide ((k : Int) < ((xs.map PyData.int).length : Nat))) := bCmp_is (x:=.int (k : Nat)) (y:=.int ((xs.map PyData.int).length : Nat)) rfl rfl rfl
  rw [List.length_map] at t
  by_cases z : k < xs.length
  · rw [decide_eq_true (show (k : Int) < (xs.length : Nat) by lia)] at t
    exact ⟨xs[k],seqD_rt (sIf_t t (sRet_is (op2_is (x:=intsD xs) (y:=.int (k : Nat)) rfl rfl (atI_nat (by rw [List.getElem?_map,List.getElem?_eq_getElem z]; rfl)))))⟩
  · rw [decide_eq_false (show ¬ (k : Int) < (xs.length : Nat) by lia)] at t
    exact ⟨0,seqD_nx (sIf_f t rfl) rfl⟩
abbrev mRest : List PyData→Option PyData:=m__law_rest m__law_cell_at m__law_mixed
theorem rest_is (xs : List Int) (k : Nat) : ∃ r,mRest [intsD xs,.int (k : Nat)] = some (.int r) := by
  suffices hh : ∃ r,F__law_rest m__law_cell_at m__law_mixed [.d (intsD xs),.d (.int (k : Nat)),.no,.no] = some (.rt (.int r)) by
    obtain ⟨r,h⟩:=hh; exact ⟨r,retD_rt rfl h⟩
  obtain ⟨c,hc⟩:=cell_is xs k
  obtain ⟨a,ha⟩:=mixed_is c (k : Nat)
  obtain ⟨b,hb⟩:=mixed_is c ((k : Int) + 500)
  obtain ⟨d,hd⟩:=mixed_is c ((k : Int) + 900)
  unfold F__law_rest
  have p18 : ∀ δ : Dv,op2 iPow (fC (.int 10)) (fC (.int 18)) δ = some (.int ((10 : Int) ^ 18)):=fun δ => op2_is (x:=.int 10) (y:=.int 18) rfl rfl (pow_is (n:=18) (by decide) (by decide))
  have s1 : (sSet 2 (fCall m__law_cell_at (fCons (nm 0) (fCons (nm 1) fNil)))) [.d (intsD xs),.d (.int (k : Nat)),.no,.no] = some (.nx [.d (intsD xs),.d (.int (k : Nat)),.d (.int c),.no]):=sSet_is (fCall_is (xs:=[intsD xs,.int (k : Nat)]) rfl hc)
  have hab : ∃ y : Int,fCall dAbs (fCons (nm 2) fNil) [.d (intsD xs),.d (.int (k : Nat)),.d (.int c),.no] = some (.int y):=⟨_,rfl⟩
  obtain ⟨y,hy⟩:=hab
  have t : bCmp (iCmp fun i j => decide (j≤i)) (fCall dAbs (fCons (nm 2) fNil)) (op2 iPow (fC (.int 10)) (fC (.int 18))) [.d (intsD xs),.d (.int (k : Nat)),.d (.int c),.no] = some (decide ((10 : Int) ^ 18≤y)) := bCmp_is (x:=.int y) (y:=.int ((10 : Int) ^ 18)) hy (p18 _) rfl
  by_cases z : (10 : Int) ^ 18≤y
  · rw [decide_eq_true z] at t
    exact ⟨c,seqD_nx s1 (seqD_rt (sIf_t t rfl))⟩
  · rw [decide_eq_false z] at t
    refine ⟨_,seqD_nx s1 (seqD_nx (sIf_f t rfl) (seqD_nx (sSet_is (op2_is (x:=.int a) (y:=.int (b * 2147483587)) (fCall_is (xs:=[.int c,.int (k : Nat)]) rfl ha) (op2_is (x:=.int b) (y:=.int 2147483587) (fCall_is (xs:=[.int c,.int ((k : Int) + 500)]) rfl hb) rfl (mul_r (by decide))) rfl)) (sRet_is (op2_is (x:=.int (a + b * 2147483587)) (y:=.int (d * 2147483587 * 2147483587)) rfl (op2_is (x:=.int (d * 2147483587)) (y:=.int 2147483587) (op2_is (x:=.int d) (y:=.int 2147483587) (fCall_is (xs:=[.int c,.int ((k : Int) + 900)]) rfl hd) rfl (mul_r (by decide))) rfl (mul_r (by decide))) rfl))))⟩
theorem par_is (r : Int) : ∃ ps : List Nat,Tr.PsOk ps∧ps.length≤7∧m__law_parents [.int r,.int 7] = some (.list (ps.map fun p => PyData.int (p : Nat))) := by
  suffices hh : ∃ ps : List Nat,Tr.PsOk ps∧ps.length≤7∧F__law_parents [.d (.int r),.d (.int 7),.no,.no,.no] = some (.rn (ps.map fun p => PyData.int (p : Nat))) by
    obtain ⟨ps,h1,h2,h⟩:=hh
    exact ⟨ps,h1,h2,retD_rn rfl h⟩
  unfold F__law_parents
  obtain ⟨m,hm,hm7⟩ : ∃ m : Nat,r % 7 = (m : Int)∧m < 7:=⟨(r % 7).toNat,by lia,by lia⟩
  have lp : ∃ δ',sFor (iCall rng2 (fCons (fC (.int 1)) (fCons (nm 2) fNil))) (setN 4) (seqD (sApp 3 (op2 iMod (nm 0) (nm 4))) (sSet 0 (op2 iDiv (nm 0) (nm 4)))) [.d (.int (r / 7)),.d (.int 7),.d (.int (1 + (m : Int))),.own (.lst [.int 0]),.no] = some (.nx δ')∧∃ (q : Int) (ps : List Nat) (l4 : L),δ' = [.d (.int q),.d (.int 7),.d (.int (1 + (m : Int))),.own (.lst (ps.map fun p => PyData.int (p : Nat))),l4]∧ps.length = m + 1∧∀ k p,ps[k]? = some p→p < max k 1 := by
    have hlr : (rngD 1 m).length = m := by unfold rngD; rw [List.length_map,List.length_range]
    have hz:=for_ex (fs:=iCall rng2 (fCons (fC (.int 1)) (fCons (nm 2) fNil))) (set:=setN 4) (F:=seqD (sApp 3 (op2 iMod (nm 0) (nm 4))) (sSet 0 (op2 iDiv (nm 0) (nm 4)))) (δ:=[.d (.int (r / 7)),.d (.int 7),.d (.int (1 + (m : Int))),.own (.lst [.int 0]),.no]) (xs:=rngD 1 m) (fun i δ => ∃ (q : Int) (ps : List Nat) (l4 : L),δ = [.d (.int q),.d (.int 7),.d (.int (1 + (m : Int))),.own (.lst (ps.map fun p => PyData.int (p : Nat))),l4]∧ps.length = i + 1∧∀ k p,ps[k]? = some p→p < max k 1) ?_ ⟨r / 7,[0],.no,rfl,rfl,?_⟩ ?_
    · rw [hlr] at hz; exact hz
    · have : m = 0∨m = 1∨m = 2∨m = 3∨m = 4∨m = 5∨m = 6 := by lia
      rcases this with rfl | rfl | rfl | rfl | rfl | rfl | rfl <;> rfl
    · intro k p h
      match k with
      | 0 => simp at h; lia
      | k + 1 => simp at h
    · rintro i x δ hx ⟨q,ps,l4,rfl,h1,h2⟩
      obtain ⟨rfl,hi⟩:=rng_get hx
      have hp : (0 : Int) < 1 + (i : Nat) := by lia
      obtain ⟨p,hp1,hp2⟩ : ∃ p : Nat,q % (1 + (i : Int)) = (p : Int)∧p < i + 1:=⟨(q % (1 + (i : Int))).toNat,by have:=Int.emod_nonneg q (show (1 + (i : Int))≠0 by lia); lia,by have:=Int.emod_lt_of_pos q hp; have:=Int.emod_nonneg q (show (1 + (i : Int))≠0 by lia); lia⟩
      refine ⟨_,rfl,ex_nx (δ':=[.d (.int q),.d (.int 7),.d (.int (1 + (m : Int))),.own (.lst ((ps ++ [p]).map fun p => PyData.int (p : Nat))),.d (.int (1 + (i : Nat)))]) ?_ ⟨_,sSet_is (op2_is (x:=.int q) (y:=.int (1 + (i : Nat))) rfl rfl (div_is hp (by lia))),q / (1 + (i : Nat)),ps ++ [p],_,rfl,by simp [h1],fun k p' h => ?_⟩⟩
      · refine (app_is (y:=.int (p : Nat)) (xs:=ps.map fun p => PyData.int (p : Nat)) (op2_is (x:=.int q) (y:=.int (1 + (i : Nat))) rfl rfl ((mod_is hp).trans (by rw [hp1]))) rfl (by rw [List.length_map,h1]; unfold dMax; lia)).trans ?_
        rw [List.map_append]; rfl
      · by_cases hk : k < ps.length
        · rw [List.getElem?_append_left hk] at h; exact h2 k p' h
        · rw [List.getElem?_append_right (by lia)] at h
          have hk2 : k - ps.length = 0 := by have:=(List.getElem?_eq_some_iff.mp h).1; simp at this; lia
          rw [hk2] at h
          simp at h
          lia
  obtain ⟨δ',e1,q,ps,l4,rfl,h2,h3⟩:=lp
  refine ⟨ps,⟨by lia,h3⟩,by lia,seqD_nx (sSet_is (y:=.int (1 + (m : Int))) (op2_is (x:=.int 1) (y:=.int (m : Int)) rfl (op2_is (x:=.int r) (y:=.int 7) rfl rfl ((mod_is (by decide)).trans (by rw [hm]))) rfl)) (seqD_nx (sSet_is (op2_is (x:=.int r) (y:=.int 7) rfl rfl (div_is (by decide) (by decide)))) (seqD_nx (own_is (ys:=[.int 0]) rfl (by decide)) (seqD_nx e1 rfl)))⟩
open Classical in
noncomputable def mGr (ds : List PyData) : Option PyData:=if h : ∃ ps : List Nat,ds = [.list (ps.map fun p => PyData.int (p : Nat))]∧Tr.PsOk ps∧ps.length≤7 then some (tD (Tr.grown h.choose)) else none
theorem mGr_is {ps : List Nat} (h : Tr.PsOk ps) (h7 : ps.length≤7) : mGr [.list (ps.map fun p => PyData.int (p : Nat))] = some (tD (Tr.grown ps)) := by
  have hx : ∃ qs : List Nat,[PyData.list (ps.map fun p => PyData.int (p : Nat))] = [.list (qs.map fun p => PyData.int (p : Nat))]∧Tr.PsOk qs∧qs.length≤7:=⟨ps,rfl,h,h7⟩
  have e : hx.choose = ps := by
    have:=hx.choose_spec.1
    have h2:=PyData.list.inj (List.cons.inj this).1
    exact ((List.map_inj_right (f:=fun p : Nat => PyData.int (p : Int)) (fun a b z => by have:=PyData.int.inj z; lia)).mp h2).symm
  unfold mGr
  rw [dif_pos hx,e]
theorem duA_nats {G : Hp} : ∀ {ps : List Nat} {xs : List V},DuA G (ps.map fun p => PyData.int (p : Nat)) xs→xs = natV ps
  | [],_,d => d.nil_eq
  | p :: ps,_,d => by
    obtain ⟨u,r,rfl,d1,d2⟩:=d.un
    rw [Du] at d1; subst d1
    rw [duA_nats d2]; rfl
theorem toGr {P : Program} {w : World} {K : PySem.W.Frag} {mg : Str→Option Value} {base : Heap} {CX : CXT} {f : Addr} {fd : FuncData} {k : Nat} {ps : List Str} (F : FnOk P w K mg base CX k f fd ps (spGrown K)) : FnOk P w K mg base CX k f fd ps (spD mGr) :=
  spD_imp F fun ds x hm G H vs Q E d e kk => by
    unfold mGr at hm
    split at hm
    · rename_i hx
      cases hm
      obtain ⟨e1,e2,e3⟩:=hx.choose_spec
      generalize hx.choose = qs at e1 e2 e3 kk
      subst e1
      obtain ⟨v,r,rfl,d1,d2⟩:=d.un
      have:=d2.nil_eq; subst this
      rw [Du] at d1
      obtain ⟨a,xs,rfl,hG,dx⟩:=d1
      have:=duA_nats dx; subst this
      refine ⟨a,qs,rfl,SqL.of (e _ _ hG),e2,e3,fun v H' e' tv => ?_⟩
      have s1 : Same G H':=fun a o h => e' _ _ (e _ _ h)
      refine kk v (tups G H') H' (fun a o h => ?_) (fun a o h => ?_) (fun a o h => ?_) e' ?_
      · unfold tups
        split
        · rename_i xs hx; rw [s1 _ _ h] at hx; exact hx.symm ▸ rfl
        · exact h
      · unfold tups at h
        split at h
        · cases h; exact .inr (.inr ⟨_,rfl⟩)
        · exact .inl h
      · unfold tups at h
        split at h
        · rename_i xs hx; rw [hx]; exact h
        · exact s1 _ _ h
      · obtain ⟨b,ys,rfl,h1,h2⟩:=tv
        rw [Du]
        exact ⟨b,ys,rfl,tups_tup h1,row_du h2⟩
    · cases hm
structure Gd (y : Str) (n : Nat) : Prop where
  len : y.length≤n
  chr : ∀ c∈y.cps.toList,c∈alph
theorem Gd.of {l : List Nat} (h : Tx l) {n : Nat} (hn : l.length≤n) : Gd (sT l) n:=⟨by rw [len_sT]; exact hn,fun c hc => h.chr c (by simpa using hc)⟩
theorem Gd.sl {x : Str} {n : Nat} (h : Gd x n) (lo hi : Option Int) : Gd (Txt.slice x lo hi) n := by
  refine ⟨Nat.le_trans (Txt.slice_le x lo hi) h.len,fun c hc => ?_⟩
  unfold Txt.slice at hc
  split at hc
  · exact h.chr c hc
  · simp only [List.mem_filterMap] at hc
    obtain ⟨k,_,hk⟩:=hc
    exact h.chr c (Array.mem_toList_iff.mpr (Array.mem_of_getElem? hk))
theorem Gd.add {x y : Str} {n m : Nat} (h : Gd x n) (k : Gd y m) : Gd (x ++ y) (n + m) := by
  have e : (x ++ y).cps = x.cps ++ y.cps:=rfl
  refine ⟨?_,fun c hc => ?_⟩
  · show (x ++ y).cps.size≤_
    rw [e,Array.size_append]
    exact Nat.add_le_add h.len k.len
  · rw [e,Array.toList_append] at hc
    rcases List.mem_append.mp hc with hc | hc
    · exact h.chr c hc
    · exact k.chr c hc
theorem slT_is {x : Str} {n : Nat} (h : Gd x n) (hn : n≤300) (a : Int) : dSlT (.str x) (.int a) = some (.str (Txt.slice x none (some a))):=if_pos (Nat.le_trans h.len (by unfold dMax; lia))
theorem slF_is {x : Str} {n : Nat} (h : Gd x n) (hn : n≤300) (a : Int) : dSlF (.str x) (.int a) = some (.str (Txt.slice x (some a) none)):=if_pos (Nat.le_trans h.len (by unfold dMax; lia))
theorem slFT_is {x : Str} {n : Nat} (h : Gd x n) (hn : n≤300) (a b : Int) : dSlFT (.str x) (.int a) (.int b) = some (.str (Txt.slice x (some a) (some b))):=if_pos (Nat.le_trans h.len (by unfold dMax; lia))
theorem addS_is {x y : Str} {n m : Nat} (h : Gd x n) (k : Gd y m) (hn : n + m≤300) : dAdd (.str x) (.str y) = some (.str (x ++ y)) := by
  have : x.length + y.length≤dMax:=Nat.le_trans (Nat.add_le_add h.len k.len) (by unfold dMax; lia)
  show sAdd (.str x) (.str y) = _
  exact if_pos this
theorem two_is (v : Int) : ∃ y,dIx (.str (Str.ofString "[]")) (.int (v % 2)) = some (.str y)∧Gd y 1 := by
  have : v % 2 = 0∨v % 2 = 1 := by lia
  rcases this with h | h <;> rw [h]
  · exact ⟨⟨#[91]⟩,by kernel_rfl,⟨by decide,by decide⟩⟩
  · exact ⟨⟨#[93]⟩,by kernel_rfl,⟨by decide,by decide⟩⟩
theorem eight_is (v : Int) : ∃ y,dIx (.str (Str.ofString " (){}0,\n")) (.int (v % 8)) = some (.str y)∧Gd y 1 := by
  have : v % 8 = 0∨v % 8 = 1∨v % 8 = 2∨v % 8 = 3∨v % 8 = 4∨v % 8 = 5∨v % 8 = 6∨v % 8 = 7 := by lia
  rcases this with h | h | h | h | h | h | h | h <;> rw [h]
  · exact ⟨⟨#[32]⟩,by kernel_rfl,⟨by decide,by decide⟩⟩
  · exact ⟨⟨#[40]⟩,by kernel_rfl,⟨by decide,by decide⟩⟩
  · exact ⟨⟨#[41]⟩,by kernel_rfl,⟨by decide,by decide⟩⟩
  · exact ⟨⟨#[123]⟩,by kernel_rfl,⟨by decide,by decide⟩⟩
  · exact ⟨⟨#[125]⟩,by kernel_rfl,⟨by decide,by decide⟩⟩
  · exact ⟨⟨#[48]⟩,by kernel_rfl,⟨by decide,by decide⟩⟩
  · exact ⟨⟨#[44]⟩,by kernel_rfl,⟨by decide,by decide⟩⟩
  · exact ⟨⟨#[10]⟩,by kernel_rfl,⟨by decide,by decide⟩⟩
theorem gd_two : Gd (Str.ofString "[]") 2:=⟨by decide,by decide⟩
theorem spo_is {l : List Nat} (hT : Tx l) (hl : l.length≤14) (v : Int) : ∃ y,m__law_spoilt [.str (sT l),.int v] = some (.str y)∧Gd y 40 := by
  suffices hh : ∃ y,F__law_spoilt [.d (.str (sT l)),.d (.int v),.no,.no,.no] = some (.rt (.str y))∧Gd y 40 by
    obtain ⟨y,h,k⟩:=hh; exact ⟨y,retD_rt rfl h,k⟩
  have g:=Gd.of hT hl
  have hp : (0 : Int) < (l.length : Nat) + 1 := by lia
  have ln : ∀ δ : Dv,nm 0 δ = some (.str (sT l))→op2 dAdd (fCall dLenS (fCons (nm 0) fNil)) (fC (.int 1)) δ = some (.int ((l.length : Nat) + 1)):=fun δ h => op2_is (x:=.int (l.length : Nat)) (y:=.int 1) (len_is (by lia) h) rfl rfl
  have dv : ∀ (d : Int),0 < d→d.natAbs < 2 ^ 64→∀ δ : Dv,nm 1 δ = some (.int v)→op2 iDiv (nm 1) (fC (.int d)) δ = some (.int (v / d)):=fun d h1 h2 δ h => op2_is (x:=.int v) (y:=.int d) h rfl (div_is h1 h2)
  unfold F__law_spoilt
  generalize ha : v / 8 % ((l.length : Nat) + 1 : Int) = a
  generalize hb : v / 512 % ((l.length : Nat) + 1 : Int) = b
  have s1 : (sSet 2 (op2 iMod (op2 iDiv (nm 1) (fC (.int 8))) (op2 dAdd (fCall dLenS (fCons (nm 0) fNil)) (fC (.int 1))))) [.d (.str (sT l)),.d (.int v),.no,.no,.no] = some (.nx [.d (.str (sT l)),.d (.int v),.d (.int a),.no,.no]):=sSet_is (y:=.int a) (op2_is (x:=.int (v / 8)) (y:=.int ((l.length : Nat) + 1)) (dv 8 (by decide) (by decide) _ rfl) (ln _ rfl) ((mod_is hp).trans (by rw [ha])))
  have s2 : (sSet 3 (op2 iMod (op2 iDiv (nm 1) (fC (.int 512))) (op2 dAdd (fCall dLenS (fCons (nm 0) fNil)) (fC (.int 1))))) [.d (.str (sT l)),.d (.int v),.d (.int a),.no,.no] = some (.nx [.d (.str (sT l)),.d (.int v),.d (.int a),.d (.int b),.no]):=sSet_is (y:=.int b) (op2_is (x:=.int (v / 512)) (y:=.int ((l.length : Nat) + 1)) (dv 512 (by decide) (by decide) _ rfl) (ln _ rfl) ((mod_is hp).trans (by rw [hb])))
  have s3 : (sSet 4 (op2 iMod (nm 1) (fC (.int 8)))) [.d (.str (sT l)),.d (.int v),.d (.int a),.d (.int b),.no] = some (.nx [.d (.str (sT l)),.d (.int v),.d (.int a),.d (.int b),.d (.int (v % 8))]):=sSet_is (y:=.int (v % 8)) (op2_is (x:=.int v) (y:=.int 8) rfl rfl (mod_is (by decide)))
  generalize hD : ([.d (.str (sT l)),.d (.int v),.d (.int a),.d (.int b),.d (.int (v % 8))] : Dv) = D at s3
  have n0 : nm 0 D = some (.str (sT l)) := by rw [← hD]; rfl
  have n1 : nm 1 D = some (.int v) := by rw [← hD]; rfl
  have n2 : nm 2 D = some (.int a) := by rw [← hD]; rfl
  have n3 : nm 3 D = some (.int b) := by rw [← hD]; rfl
  have n4 : nm 4 D = some (.int (v % 8)) := by rw [← hD]; rfl
  have tst : ∀ w : Int,bCmp (dEq false) (nm 4) (fC (.int w)) D = some (decide (v % 8 = w)):=fun w => bCmp_is (x:=.int (v % 8)) (y:=.int w) n4 rfl (eq_ints _ _)
  have a1 : op2 dAdd (nm 2) (fC (.int 1)) D = some (.int (a + 1)):=op2_is (x:=.int a) (y:=.int 1) n2 rfl rfl
  have tT : op2 dSlT (nm 0) (nm 2) D = some (.str (Txt.slice (sT l) none (some a))):=op2_is n0 n2 (slT_is g (by decide) a)
  have tF : op2 dSlF (nm 0) (nm 2) D = some (.str (Txt.slice (sT l) (some a) none)):=op2_is n0 n2 (slF_is g (by decide) a)
  have tG : op2 dSlF (nm 0) (op2 dAdd (nm 2) (fC (.int 1))) D = some (.str (Txt.slice (sT l) (some (a + 1)) none)):=op2_is n0 a1 (slF_is g (by decide) (a + 1))
  have gT:=g.sl none (some a)
  have gF:=g.sl (some a) none
  have gG:=g.sl (some (a + 1)) none
  obtain ⟨y2,e2,g2⟩:=two_is (v / 64)
  obtain ⟨y8,e8,g8⟩:=eight_is (v / 64)
  have t2 : op2 dIx (fC (.str (Str.ofString "[]"))) (op2 iMod (op2 iDiv (nm 1) (fC (.int 64))) (fC (.int 2))) D = some (.str y2):=op2_is (x:=.str (Str.ofString "[]")) (y:=.int (v / 64 % 2)) rfl (op2_is (x:=.int (v / 64)) (y:=.int 2) (dv 64 (by decide) (by decide) _ n1) rfl (mod_is (by decide))) e2
  have t8 : op2 dIx (fC (.str (Str.ofString " (){}0,\n"))) (op2 iMod (op2 iDiv (nm 1) (fC (.int 64))) (fC (.int 8))) D = some (.str y8):=op2_is (x:=.str (Str.ofString " (){}0,\n")) (y:=.int (v / 64 % 8)) rfl (op2_is (x:=.int (v / 64)) (y:=.int 8) (dv 64 (by decide) (by decide) _ n1) rfl (mod_is (by decide))) e8
  have pre : ∀ {r : Option Ou} {F : DF},F D = r→(seqD (sSet 2 (op2 iMod (op2 iDiv (nm 1) (fC (.int 8))) (op2 dAdd (fCall dLenS (fCons (nm 0) fNil)) (fC (.int 1))))) (seqD (sSet 3 (op2 iMod (op2 iDiv (nm 1) (fC (.int 512))) (op2 dAdd (fCall dLenS (fCons (nm 0) fNil)) (fC (.int 1))))) (seqD (sSet 4 (op2 iMod (nm 1) (fC (.int 8)))) F))) [.d (.str (sT l)),.d (.int v),.no,.no,.no] = r:=fun h => seqD_nx s1 (seqD_nx s2 (seqD_nx s3 h))
  by_cases c0 : v % 8 = 0
  · exact ⟨_,pre (seqD_rt (sIf_t ((tst 0).trans (by rw [decide_eq_true c0])) (sRet_is (op2_is (op2_is tT t2 (addS_is gT g2 (by decide))) tF (addS_is (gT.add g2) gF (by decide)))))),⟨Nat.le_trans ((gT.add g2).add gF).len (by decide),((gT.add g2).add gF).chr⟩⟩
  have f0:=(tst 0).trans (by rw [decide_eq_false c0])
  by_cases c1 : v % 8 = 1
  · exact ⟨_,pre (seqD_nx (sIf_f f0 rfl) (seqD_rt (sIf_t ((tst 1).trans (by rw [decide_eq_true c1])) (sRet_is (op2_is tT tG (addS_is gT gG (by decide))))))),⟨Nat.le_trans (gT.add gG).len (by decide),(gT.add gG).chr⟩⟩
  have f1:=(tst 1).trans (by rw [decide_eq_false c1])
  by_cases c2 : v % 8 = 2
  · exact ⟨_,pre (seqD_nx (sIf_f f0 rfl) (seqD_nx (sIf_f f1 rfl) (seqD_rt (sIf_t ((tst 2).trans (by rw [decide_eq_true c2])) (sRet_is (op2_is (op2_is tT t2 (addS_is gT g2 (by decide))) tG (addS_is (gT.add g2) gG (by decide)))))))),⟨Nat.le_trans ((gT.add g2).add gG).len (by decide),((gT.add g2).add gG).chr⟩⟩
  have f2:=(tst 2).trans (by rw [decide_eq_false c2])
  by_cases c3 : v % 8 = 3
  · exact ⟨_,pre (seqD_nx (sIf_f f0 rfl) (seqD_nx (sIf_f f1 rfl) (seqD_nx (sIf_f f2 rfl) (seqD_rt (sIf_t ((tst 3).trans (by rw [decide_eq_true c3])) (sRet_is (op2_is tF tT (addS_is gF gT (by decide))))))))),⟨Nat.le_trans (gF.add gT).len (by decide),(gF.add gT).chr⟩⟩
  have f3:=(tst 3).trans (by rw [decide_eq_false c3])
  by_cases c4 : v % 8 = 4
  · exact ⟨_,pre (seqD_nx (sIf_f f0 rfl) (seqD_nx (sIf_f f1 rfl) (seqD_nx (sIf_f f2 rfl) (seqD_nx (sIf_f f3 rfl) (seqD_rt (sIf_t ((tst 4).trans (by rw [decide_eq_true c4])) (sRet_is (op2_is (op2_is tT t8 (addS_is gT g8 (by decide))) tF (addS_is (gT.add g8) gF (by decide)))))))))),⟨Nat.le_trans ((gT.add g8).add gF).len (by decide),((gT.add g8).add gF).chr⟩⟩
  have f4:=(tst 4).trans (by rw [decide_eq_false c4])
  by_cases c5 : v % 8 = 5
  · have mi : fCall dMinI (fCons (nm 2) (fCons (nm 3) fNil)) D = some (.int (if b < a then b else a)):=fCall_is (xs:=[.int a,.int b]) (fCons_is n2 (fCons_is n3 rfl)) rfl
    have ma : fCall dMaxI (fCons (nm 2) (fCons (nm 3) fNil)) D = some (.int (if b > a then b else a)):=fCall_is (xs:=[.int a,.int b]) (fCons_is n2 (fCons_is n3 rfl)) rfl
    have q1 : op2 dSlT (nm 0) (fCall dMinI (fCons (nm 2) (fCons (nm 3) fNil))) D = some (.str (Txt.slice (sT l) none (some (if b < a then b else a)))):=op2_is n0 mi (slT_is g (by decide) _)
    have q2 : fSlFT (nm 0) (fCall dMinI (fCons (nm 2) (fCons (nm 3) fNil))) (fCall dMaxI (fCons (nm 2) (fCons (nm 3) fNil))) D = some (.str (Txt.slice (sT l) (some (if b < a then b else a)) (some (if b > a then b else a)))) := by
      show (nm 0 D).bind _ = _
      rw [n0]
      show (fCall dMinI _ D).bind _ = _
      rw [mi]
      show (fCall dMaxI _ D).bind _ = _
      rw [ma]
      exact slFT_is g (by decide) _ _
    have h1:=g.sl none (some (if b < a then b else a))
    have h2:=g.sl (some (if b < a then b else a)) (some (if b > a then b else a))
    exact ⟨_,pre (seqD_nx (sIf_f f0 rfl) (seqD_nx (sIf_f f1 rfl) (seqD_nx (sIf_f f2 rfl) (seqD_nx (sIf_f f3 rfl) (seqD_nx (sIf_f f4 rfl) (seqD_rt (sIf_t ((tst 5).trans (by rw [decide_eq_true c5])) (sRet_is (op2_is (op2_is q1 (y:=.str (Str.ofString "[]")) rfl (addS_is h1 gd_two (by decide))) q2 (addS_is (h1.add gd_two) h2 (by decide))))))))))),⟨Nat.le_trans ((h1.add gd_two).add h2).len (by decide),((h1.add gd_two).add h2).chr⟩⟩
  have f5:=(tst 5).trans (by rw [decide_eq_false c5])
  exact ⟨_,pre (seqD_nx (sIf_f f0 rfl) (seqD_nx (sIf_f f1 rfl) (seqD_nx (sIf_f f2 rfl) (seqD_nx (sIf_f f3 rfl) (seqD_nx (sIf_f f4 rfl) (seqD_nx (sIf_f f5 rfl) (sRet_is n0))))))),⟨Nat.le_trans g.len (by decide),g.chr⟩⟩
theorem bAnd_f' {a b : Dv→Option Bool} {δ : Dv} (h : a δ = some false) : bAnd a b δ = some false := by show (a δ).bind _ = _; rw [h]; rfl
theorem bAnd_t' {a b : Dv→Option Bool} {δ : Dv} {q : Option Bool} (h : a δ = some true) (k : b δ = q) : bAnd a b δ = q := by show (a δ).bind _ = q; rw [h]; exact k
theorem kn_cs : ∀ t : Tr,t.knots = cs t + 1
  | .nil => rfl
  | .cons b r => by
    have h1:=kn_cs b
    have h2:=kn_cs r
    show b.knots + r.knots = cs b + cs r + 1 + 1
    lia
theorem grown_in {ps : List Nat} (h : Tr.PsOk ps) (h7 : ps.length≤7) : Tr.grown ps∈tzTo 7 := by
  obtain ⟨h1,h2⟩:=Tr.fine_of h h7
  refine mem_tz h1 ?_
  have h3:=kn_cs (Tr.grown ps)
  have h4 : (txt (Tr.grown ps)).length = 2 * cs (Tr.grown ps) + 2 := by unfold txt; simp [body_len]
  lia
noncomputable abbrev mLaw (C1 C2 : Addr) : List PyData→Option PyData:=m_law mGr m__law_mixed m__law_parents (mLr C1 C2) (mRf C1 C2) mRest m__law_spoilt mLTx (mShown C1)
theorem cells_is {ns : List Int} (hn : ns.length≤63) {δ : Dv} (h : nm 0 δ = some (scrD ns)) : ∃ xs : List Int,op2 dAdd (fCutS (nm 0) oNone (oSome (fC (.int 40)))) (fLst (fCons (fC (.int 0)) fNil)) δ = some (intsD xs)∧xs.length≤64 := by
  have e : fCutS (nm 0) oNone (oSome (fC (.int 40))) δ = some (.list (cutD (ns.map .int) none (some 40))) := by
    show (nm 0 δ).bind _ = _
    rw [h]; rfl
  have c : ∃ ys : List Int,cutD (ns.map PyData.int) none (some 40) = ys.map PyData.int∧ys.length≤63 := by
    unfold cutD
    refine ⟨(ns.drop _).take _,by rw [List.map_take,List.map_drop],?_⟩
    rw [List.length_take,List.length_drop]; lia
  obtain ⟨ys,e2,hl⟩:=c
  refine ⟨ys ++ [0],(op2_is (x:=.list (ys.map PyData.int)) (y:=.list [.int 0]) (by rw [e,e2]) rfl ?_),by simp; lia⟩
  have : (ys.map PyData.int).length + [PyData.int 0].length≤dMax := by rw [List.length_map]; show ys.length + 1≤1000; lia
  have e3 : lAdd (.list (ys.map PyData.int)) (.list [.int 0]) = some (.list (ys.map PyData.int ++ [.int 0])):=if_pos this
  have e4 : dAdd (.list (ys.map PyData.int)) (.list [.int 0]) = lAdd (.list (ys.map PyData.int)) (.list [.int 0]) := by
    unfold dAdd orD
    rw [e3]; rfl
  rw [e4,e3]
  show some (PyData.list (ys.map PyData.int ++ [.int 0])) = some (.list ((ys ++ [0]).map PyData.int))
  rw [List.map_append]; rfl
theorem law_is {C1 C2 : Addr} (hC : C1≠C2) {ns : List Int} (hn : ns.length≤63) : mLaw C1 C2 [scrD ns] = some (.bool true) := by
  obtain ⟨xs,hx,hl⟩:=cells_is hn (δ:=[.d (scrD ns),.no,.no,.no,.no,.no,.no]) rfl
  refine retD_rt rfl ?_
  unfold F_law
  refine seqD_nx (sSet_is hx) ?_
  refine seqD_for (xs:=rngD 0 xs.length) (fun i δ => ∃ l2 l3 l4 l5 l6 : L,δ = [.d (scrD ns),.d (intsD xs),l2,l3,l4,l5,l6]) ?_ ⟨_,_,_,_,_,rfl⟩ ?_ ?_
  · refine (rng_is (j:=(xs.length : Int)) (fCall_is (xs:=[intsD xs]) rfl ?_) (by lia) (by lia)).trans ?_
    · show some (PyData.int ((xs.map PyData.int).length : Nat)) = _
      rw [List.length_map]
    · rw [Int.toNat_natCast]
  · rintro i x δ hi ⟨l2,l3,l4,l5,l6,rfl⟩
    obtain ⟨rfl,hi2⟩:=rng_get hi
    rw [show ((0 : Int) + (i : Nat)) = ((i : Nat) : Int) by lia]
    refine ⟨_,rfl,?_⟩
    obtain ⟨r,hr⟩:=rest_is xs i
    obtain ⟨ps,p1,p2,hp⟩:=par_is r
    have ht:=grown_in p1 p2
    have hg:=mGr_is p1 p2
    generalize Tr.grown ps = t at ht hg
    obtain ⟨tx,tl,_⟩:=tx_tx ht
    have lr:=lr_is hC tx tl
    obtain ⟨v,hv⟩:=mixed_is xs[i] ((i : Int) + 40)
    obtain ⟨y,hy,gy⟩:=spo_is tx tl v
    refine ex_nx (sSet_is (y:=tD t) (fCall_is (xs:=[.list (ps.map fun p => PyData.int (p : Nat))]) (fCons_is (fCall_is (xs:=[.int r,.int 7]) (fCons_is (fCall_is (xs:=[intsD xs,.int (i : Nat)]) rfl hr) rfl) hp) rfl) hg)) ?_
    refine ex_nx (sSet_is (y:=.str (sT (txt t))) (fCall_is (xs:=[tD t]) rfl (ltx_is ht))) ?_
    refine ex_nx (sSet_is (y:=.str (sT (txt t))) (fCall_is (xs:=[tD t]) rfl (by show good (mShown C1) [tD t] = _; unfold good; rw [shown_is C1 ht]))) ?_
    refine ex_nx (sIf_f (bOr_f (bNot_is (b:=true) (bVal_is rfl)) (bOr_f (bCmp_is (x:=.str (sT (txt t))) (y:=.str (sT (txt t))) rfl rfl (ne_tx tx)) (bNot_is (b:=true) (bVal_is (fCall_is (xs:=[.str (sT (txt t))]) rfl lr))))) rfl) ?_
    refine ex_nx (sSet_is (y:=.str y) (fCall_is (xs:=[.str (sT (txt t)),.int v]) (fCons_is rfl (fCons_is (fCall_is (xs:=[.int xs[i],.int ((i : Int) + 40)]) (fCons_is (op2_is (x:=intsD xs) (y:=.int (i : Nat)) rfl rfl (atI_nat (by rw [List.getElem?_map,List.getElem?_eq_getElem hi2]; rfl))) (fCons_is (op2_is (x:=.int (i : Nat)) (y:=.int 40) rfl rfl rfl) rfl)) hv) rfl)) hy)) ?_
    have hyl : y.length≤40:=gy.len
    have sy : y = sT y.cps.toList := by cases y; rfl
    have lny : ∀ δ : Dv,nm 6 δ = some (.str y)→bCmp (iCmp fun i j => decide (i≤j)) (fCall dLenS (fCons (nm 6) fNil)) (fC (.int 14)) δ = some (decide (((y.length : Nat) : Int)≤14)):=fun δ h => bCmp_is (x:=.int (y.length : Nat)) (y:=.int 14) (fCall_is (xs:=[.str y]) (fCons_is h rfl) (by
      show (if y.length≤dMax then some (PyData.int (y.length : Nat)) else none) = _
      rw [if_pos (show y.length≤dMax by unfold dMax; lia)])) rfl rfl
    have last : ∀ l2 : L,∃ δ2,sIf (bAnd (bCmp (dEq true) (nm 3) (op2 dRevT (nm 3) (fNeg (fC (.int 1))))) (bNot (bVal (fCall (mRf C1 C2) (fCons (op2 dRevT (nm 3) (fNeg (fC (.int 1)))) fNil))))) (sRet (fC (.bool false))) sNext [.d (scrD ns),.d (intsD xs),l2,.d (tD t),.d (.str (sT (txt t))),.d (.str (sT (txt t))),.d (.str y)] = some (.nx δ2)∧∃ l2 l3 l4 l5 l6 : L,δ2 = [.d (scrD ns),.d (intsD xs),l2,l3,l4,l5,l6]:=fun l2 => by
      have re : op2 dRevT (nm 3) (fNeg (fC (.int 1))) [.d (scrD ns),.d (intsD xs),l2,.d (tD t),.d (.str (sT (txt t))),.d (.str (sT (txt t))),.d (.str y)] = some (tD (rv t)):=op2_is (x:=tD t) (y:=.int (-1)) rfl rfl (List.map_inj_left.mp rv_D t ht)
      have ne : bCmp (dEq true) (nm 3) (op2 dRevT (nm 3) (fNeg (fC (.int 1)))) [.d (scrD ns),.d (intsD xs),l2,.d (tD t),.d (.str (sT (txt t))),.d (.str (sT (txt t))),.d (.str y)] = some (decide (rv t≠t)) := bCmp_is (x:=tD t) (y:=tD (rv t)) rfl re (List.map_inj_left.mp rv_ne t ht)
      by_cases z : rv t≠t
      · rw [decide_eq_true z] at ne
        have hf:=List.map_inj_left.mp rv_all t (List.mem_filter.mpr ⟨ht,decide_eq_true z⟩)
        exact ⟨_,sIf_f (bAnd_t' ne (bNot_is (b:=true) (bVal_is (fCall_is (xs:=[tD (rv t)]) (fCons_is re rfl) (rf_is C1 C2 hf))))) rfl,_,_,_,_,_,rfl⟩
      · rw [decide_eq_false z] at ne
        exact ⟨_,sIf_f (bAnd_f' ne) rfl,_,_,_,_,_,rfl⟩
    by_cases h14 : y.length≤14
    · have yl : y.cps.toList.length = y.length := by simp [Str.length]
      have ty : Tx y.cps.toList:=⟨by lia,gy.chr⟩
      have ly:=lr_is hC ty (by lia)
      rw [← sy] at ly
      refine ex_nx (sIf_f (bAnd_t' ((lny _ rfl).trans (by rw [decide_eq_true (by lia)])) (bNot_is (b:=true) (bVal_is (fCall_is (xs:=[.str y]) rfl ly)))) rfl) (last _)
    · refine ex_nx (sIf_f (bAnd_f' ((lny _ rfl).trans (by rw [decide_eq_false (by lia)]))) rfl) (last _)
  · rintro δ ⟨l2,l3,l4,l5,l6,rfl⟩
    refine sRet_is ?_
    have l0:=lr_is hC (l:=[]) ⟨by simp,fun c hc => by cases hc⟩ (by simp)
    exact fAnd_t (fCall_is (xs:=[.str (sT [])]) (by show some [PyData.str (Str.ofString "")] = _; rw [show Str.ofString "" = sT [] by kernel_rfl]) l0) (fAnd_t (fCall_is (xs:=[.list []]) rfl (rf_is C1 C2 no_1)) (fCall_is (xs:=[.tuple [.tuple [],.int 0]]) rfl (rf_is C1 C2 no_2)))
def spLaw (K : PySem.W.Frag) : Sp:=fun vs H Q _ => ∃ (a : Addr) (ns : List Int),vs = [.ref a]∧SqL K H a (ns.map V.int)∧ns.length≤63∧∀ H',Q (.bl true) H'
theorem ok_law {P : Program} {w : World} {K : PySem.W.Frag} {mg : Str→Option Value} {base : Heap} {f : Addr} {fd : FuncData} {k : Nat} {C1 C2 : Addr} (hC : C1≠C2) (hK : noLst K = true) (F : FnOk P w K mg base CX0 k f fd ["_law_script"] (spD (mLaw C1 C2))) : FnOk P w K mg base CX0 k f fd ["_law_script"] (spLaw K) :=
  F.imp fun vs H Q E z => by
    obtain ⟨a,ns,rfl,hS,hn,q⟩:=z
    refine ⟨[scrD ns],.bool true,H,law_is hC hn,.cons (du_scr (rdK_of hK hS)) .nil,.refl _,fun v G' H' _ _ _ _ dv => ?_⟩
    rw [Du] at dv
    subst dv
    exact q H'
section
open PySem.W PyProof.Rows PySem.Calls
abbrev pwX : Program:=PySem.Challenge.pw_stepgrove_k78_trees_as_texts
abbrev rwX : OpenLaw:=PySem.Challenge.rw_stepgrove_k78_trees_as_texts
noncomputable abbrev dE (P : Params) (x : String) (t : Nat) (v : Value) : DictEntry:=⟨PyData.keyHash P (Str.ofString x),.str (Str.ofString x) t,v⟩
noncomputable abbrev sV (x : String) (t : Nat) : Value:=.str (Str.ofString x) t
noncomputable abbrev fO (n : String) (i : Nat) (m : String) (t c : Nat) : Obj:=⟨.type "function",none,.func (fnOf n n (defArgs (top i)) (defBody (top i)) (defScope (top i)) .none .none .none (.str (Str.ofString m) t) none (.ref c) .none),#[]⟩
noncomputable abbrev cO (n : String) (t l a k r : Nat) (b : Bool) (r2 : Nat) (v1 v2 v3 v4 : Value) (t2 : Nat) : Obj:=⟨.type "code",none,.fields #[sV n t,sV n (t + 1),sV "/claim/cut.py" (t + 2),.int l 0,.int a 0,.int 0 0,.int 0 0,.int k 0,.ref r,.bool b,.int 181 0,.ref r2,v1,v2,v3,v4,.int t2 0,.int l 0,sV "/claim/cut.py" (t2 + 1)],#[]⟩
noncomputable def kH : Params→Frag:=fun P =>
  (nat_lit 2,⟨.none,none,(.dict #[] 0),#[]⟩) ::
  (nat_lit 3,⟨(.type "dict"),none,(.dict #[dE P "__name__" 165 (sV "law_stepgrove_k78_trees_as_texts" 480),dE P "__doc__" 166 .none,dE P "__package__" 167 .none,dE P "__loader__" 168 (.builtin "__main__.__loader__#opaque"),dE P "__spec__" 169 .none,dE P "__annotations__" 170 (.ref 6),dE P "__builtins__" 171 (.ref 4),dE P "__file__" 173 (sV "/claim/cut.py" 172),dE P "__cached__" 174 .none,dE P "GroveError" 206 (.ref 24),dE P "NoBottom" 222 (.ref 37),dE P "NoTree" 238 (.ref 49),dE P "NoChange" 254 (.ref 61),dE P "NoStart" 270 (.ref 73),dE P "NoTable" 286 (.ref 85),dE P "NoName" 302 (.ref 97),dE P "NoWeighing" 318 (.ref 109),dE P "NotAlike" 334 (.ref 121),dE P "NoParts" 350 (.ref 133),dE P "TooMany" 366 (.ref 145),dE P "NoText" 382 (.ref 157),dE P "NoLine" 398 (.ref 169),dE P "MOST_KNOTS" 402 (.int 7 401),dE P "is_tree" 411 (.ref 178),dE P "trees_of" 422 (.ref 185),dE P "refuse_no_tree" 429 (.ref 192),dE P "in_falling_order" 436 (.ref 199),dE P "trees_one_larger" 447 (.ref 206),dE P "shown_tree" 456 (.ref 213),dE P "read_tree" 464 (.ref 220),dE P "tree_text" 470 (.ref 225),dE P "tree_in" 479 (.ref 232),dE P "_law_cell_at" 489 (.ref 239),dE P "_law_mixed" 498 (.ref 246),dE P "_law_rest" 508 (.ref 253),dE P "_law_parents" 519 (.ref 260),dE P "_law_grown" 525 (.ref 265),dE P "_law_alone" 531 (.ref 270),dE P "_law_text" 537 (.ref 275),dE P "_law_spoilt" 548 (.ref 282),dE P "_law_reader" 560 (.ref 289),dE P "_law_tuples" 568 (.ref 296),dE P "_law_read" 579 (.ref 303),dE P "_law_refused" 588 (.ref 310),dE P "law" 601 (.ref 317)] 45),#[]⟩) ::
  (nat_lit 15,⟨(.type "tuple"),none,(.seq #[(.type "ValueError")] 0),#[]⟩) ::
  (nat_lit 22,⟨(.type "tuple"),none,(.seq #[] 0),#[]⟩) ::
  (nat_lit 23,⟨(.type "dict"),none,(.dict #[dE P "__module__" 196 (sV "stepgrove.errors" 187),dE P "__firstlineno__" 200 (.int 2 199),dE P "__static_attributes__" 201 (.ref 22),dE P "__weakref__" 203 (.ref 25),dE P "__doc__" 204 .none] 3),#[]⟩) ::
  (nat_lit 24,⟨(.type "type"),none,(.cls ⟨Str.ofString "GroveError",[(.type "ValueError")],[(.ref 24),(.type "ValueError"),(.type "Exception"),(.type "BaseException"),(.type "object")],23,Str.ofString "GroveError",true,[],[(.ref 37),(.ref 49),(.ref 61),(.ref 73),(.ref 85),(.ref 97),(.ref 109),(.ref 121),(.ref 133),(.ref 145),(.ref 157),(.ref 169)],false,none,false⟩),#[some (.ref 15),none,some (sV "GroveError" 189),some (sV "GroveError" 197),some (.builtin "ValueError.__new__"),some (.bool true)]⟩) ::
  (nat_lit 25,⟨(.type "getset_descriptor"),none,(.fields #[(sV "__weakref__" 202),(.ref 24),(.builtin "ExceptionGroup.__weakref__"),.none]),#[]⟩) ::
  (nat_lit 28,⟨(.type "tuple"),none,(.seq #[(.ref 24)] 0),#[]⟩) ::
  (nat_lit 35,⟨(.type "tuple"),none,(.seq #[] 0),#[]⟩) ::
  (nat_lit 36,⟨(.type "dict"),none,(.dict #[dE P "__module__" 214 (sV "stepgrove.errors" 187),dE P "__firstlineno__" 218 (.int 4 217),dE P "__static_attributes__" 219 (.ref 35),dE P "__doc__" 220 .none] 2),#[]⟩) ::
  (nat_lit 37,⟨(.type "type"),none,(.cls ⟨Str.ofString "NoBottom",[(.ref 24)],[(.ref 37),(.ref 24),(.type "ValueError"),(.type "Exception"),(.type "BaseException"),(.type "object")],36,Str.ofString "NoBottom",true,[],[],false,none,false⟩),#[some (.ref 28),none,some (sV "NoBottom" 207),some (sV "NoBottom" 215),some (.builtin "ValueError.__new__"),some (.bool true)]⟩) ::
  (nat_lit 40,⟨(.type "tuple"),none,(.seq #[(.ref 24)] 0),#[]⟩) ::
  (nat_lit 47,⟨(.type "tuple"),none,(.seq #[] 0),#[]⟩) ::
  (nat_lit 48,⟨(.type "dict"),none,(.dict #[dE P "__module__" 230 (sV "stepgrove.errors" 187),dE P "__firstlineno__" 234 (.int 6 233),dE P "__static_attributes__" 235 (.ref 47),dE P "__doc__" 236 .none] 2),#[]⟩) ::
  (nat_lit 49,⟨(.type "type"),none,(.cls ⟨Str.ofString "NoTree",[(.ref 24)],[(.ref 49),(.ref 24),(.type "ValueError"),(.type "Exception"),(.type "BaseException"),(.type "object")],48,Str.ofString "NoTree",true,[],[],false,none,false⟩),#[some (.ref 40),none,some (sV "NoTree" 223),some (sV "NoTree" 231),some (.builtin "ValueError.__new__"),some (.bool true)]⟩) ::
  (nat_lit 52,⟨(.type "tuple"),none,(.seq #[(.ref 24)] 0),#[]⟩) ::
  (nat_lit 59,⟨(.type "tuple"),none,(.seq #[] 0),#[]⟩) ::
  (nat_lit 60,⟨(.type "dict"),none,(.dict #[dE P "__module__" 246 (sV "stepgrove.errors" 187),dE P "__firstlineno__" 250 (.int 8 249),dE P "__static_attributes__" 251 (.ref 59),dE P "__doc__" 252 .none] 2),#[]⟩) ::
  (nat_lit 61,⟨(.type "type"),none,(.cls ⟨Str.ofString "NoChange",[(.ref 24)],[(.ref 61),(.ref 24),(.type "ValueError"),(.type "Exception"),(.type "BaseException"),(.type "object")],60,Str.ofString "NoChange",true,[],[],false,none,false⟩),#[some (.ref 52),none,some (sV "NoChange" 239),some (sV "NoChange" 247),some (.builtin "ValueError.__new__"),some (.bool true)]⟩) ::
  (nat_lit 64,⟨(.type "tuple"),none,(.seq #[(.ref 24)] 0),#[]⟩) ::
  (nat_lit 71,⟨(.type "tuple"),none,(.seq #[] 0),#[]⟩) ::
  (nat_lit 72,⟨(.type "dict"),none,(.dict #[dE P "__module__" 262 (sV "stepgrove.errors" 187),dE P "__firstlineno__" 266 (.int 10 265),dE P "__static_attributes__" 267 (.ref 71),dE P "__doc__" 268 .none] 2),#[]⟩) ::
  (nat_lit 73,⟨(.type "type"),none,(.cls ⟨Str.ofString "NoStart",[(.ref 24)],[(.ref 73),(.ref 24),(.type "ValueError"),(.type "Exception"),(.type "BaseException"),(.type "object")],72,Str.ofString "NoStart",true,[],[],false,none,false⟩),#[some (.ref 64),none,some (sV "NoStart" 255),some (sV "NoStart" 263),some (.builtin "ValueError.__new__"),some (.bool true)]⟩) ::
  (nat_lit 76,⟨(.type "tuple"),none,(.seq #[(.ref 24)] 0),#[]⟩) ::
  (nat_lit 83,⟨(.type "tuple"),none,(.seq #[] 0),#[]⟩) ::
  (nat_lit 84,⟨(.type "dict"),none,(.dict #[dE P "__module__" 278 (sV "stepgrove.errors" 187),dE P "__firstlineno__" 282 (.int 12 281),dE P "__static_attributes__" 283 (.ref 83),dE P "__doc__" 284 .none] 2),#[]⟩) ::
  (nat_lit 85,⟨(.type "type"),none,(.cls ⟨Str.ofString "NoTable",[(.ref 24)],[(.ref 85),(.ref 24),(.type "ValueError"),(.type "Exception"),(.type "BaseException"),(.type "object")],84,Str.ofString "NoTable",true,[],[],false,none,false⟩),#[some (.ref 76),none,some (sV "NoTable" 271),some (sV "NoTable" 279),some (.builtin "ValueError.__new__"),some (.bool true)]⟩) ::
  (nat_lit 88,⟨(.type "tuple"),none,(.seq #[(.ref 24)] 0),#[]⟩) ::
  (nat_lit 95,⟨(.type "tuple"),none,(.seq #[] 0),#[]⟩) ::
  (nat_lit 96,⟨(.type "dict"),none,(.dict #[dE P "__module__" 294 (sV "stepgrove.errors" 187),dE P "__firstlineno__" 298 (.int 14 297),dE P "__static_attributes__" 299 (.ref 95),dE P "__doc__" 300 .none] 2),#[]⟩) ::
  (nat_lit 97,⟨(.type "type"),none,(.cls ⟨Str.ofString "NoName",[(.ref 24)],[(.ref 97),(.ref 24),(.type "ValueError"),(.type "Exception"),(.type "BaseException"),(.type "object")],96,Str.ofString "NoName",true,[],[],false,none,false⟩),#[some (.ref 88),none,some (sV "NoName" 287),some (sV "NoName" 295),some (.builtin "ValueError.__new__"),some (.bool true)]⟩) ::
  (nat_lit 100,⟨(.type "tuple"),none,(.seq #[(.ref 24)] 0),#[]⟩) ::
  (nat_lit 107,⟨(.type "tuple"),none,(.seq #[] 0),#[]⟩) ::
  (nat_lit 108,⟨(.type "dict"),none,(.dict #[dE P "__module__" 310 (sV "stepgrove.errors" 187),dE P "__firstlineno__" 314 (.int 16 313),dE P "__static_attributes__" 315 (.ref 107),dE P "__doc__" 316 .none] 2),#[]⟩) ::
  (nat_lit 109,⟨(.type "type"),none,(.cls ⟨Str.ofString "NoWeighing",[(.ref 24)],[(.ref 109),(.ref 24),(.type "ValueError"),(.type "Exception"),(.type "BaseException"),(.type "object")],108,Str.ofString "NoWeighing",true,[],[],false,none,false⟩),#[some (.ref 100),none,some (sV "NoWeighing" 303),some (sV "NoWeighing" 311),some (.builtin "ValueError.__new__"),some (.bool true)]⟩) ::
  (nat_lit 112,⟨(.type "tuple"),none,(.seq #[(.ref 24)] 0),#[]⟩) ::
  (nat_lit 119,⟨(.type "tuple"),none,(.seq #[] 0),#[]⟩) ::
  (nat_lit 120,⟨(.type "dict"),none,(.dict #[dE P "__module__" 326 (sV "stepgrove.errors" 187),dE P "__firstlineno__" 330 (.int 18 329),dE P "__static_attributes__" 331 (.ref 119),dE P "__doc__" 332 .none] 2),#[]⟩) ::
  (nat_lit 121,⟨(.type "type"),none,(.cls ⟨Str.ofString "NotAlike",[(.ref 24)],[(.ref 121),(.ref 24),(.type "ValueError"),(.type "Exception"),(.type "BaseException"),(.type "object")],120,Str.ofString "NotAlike",true,[],[],false,none,false⟩),#[some (.ref 112),none,some (sV "NotAlike" 319),some (sV "NotAlike" 327),some (.builtin "ValueError.__new__"),some (.bool true)]⟩) ::
  (nat_lit 124,⟨(.type "tuple"),none,(.seq #[(.ref 24)] 0),#[]⟩) ::
  (nat_lit 131,⟨(.type "tuple"),none,(.seq #[] 0),#[]⟩) ::
  (nat_lit 132,⟨(.type "dict"),none,(.dict #[dE P "__module__" 342 (sV "stepgrove.errors" 187),dE P "__firstlineno__" 346 (.int 20 345),dE P "__static_attributes__" 347 (.ref 131),dE P "__doc__" 348 .none] 2),#[]⟩) ::
  (nat_lit 133,⟨(.type "type"),none,(.cls ⟨Str.ofString "NoParts",[(.ref 24)],[(.ref 133),(.ref 24),(.type "ValueError"),(.type "Exception"),(.type "BaseException"),(.type "object")],132,Str.ofString "NoParts",true,[],[],false,none,false⟩),#[some (.ref 124),none,some (sV "NoParts" 335),some (sV "NoParts" 343),some (.builtin "ValueError.__new__"),some (.bool true)]⟩) ::
  (nat_lit 136,⟨(.type "tuple"),none,(.seq #[(.ref 24)] 0),#[]⟩) ::
  (nat_lit 143,⟨(.type "tuple"),none,(.seq #[] 0),#[]⟩) ::
  (nat_lit 144,⟨(.type "dict"),none,(.dict #[dE P "__module__" 358 (sV "stepgrove.errors" 187),dE P "__firstlineno__" 362 (.int 22 361),dE P "__static_attributes__" 363 (.ref 143),dE P "__doc__" 364 .none] 2),#[]⟩) ::
  (nat_lit 145,⟨(.type "type"),none,(.cls ⟨Str.ofString "TooMany",[(.ref 24)],[(.ref 145),(.ref 24),(.type "ValueError"),(.type "Exception"),(.type "BaseException"),(.type "object")],144,Str.ofString "TooMany",true,[],[],false,none,false⟩),#[some (.ref 136),none,some (sV "TooMany" 351),some (sV "TooMany" 359),some (.builtin "ValueError.__new__"),some (.bool true)]⟩) ::
  (nat_lit 148,⟨(.type "tuple"),none,(.seq #[(.ref 24)] 0),#[]⟩) ::
  (nat_lit 155,⟨(.type "tuple"),none,(.seq #[] 0),#[]⟩) ::
  (nat_lit 156,⟨(.type "dict"),none,(.dict #[dE P "__module__" 374 (sV "stepgrove.errors" 187),dE P "__firstlineno__" 378 (.int 24 377),dE P "__static_attributes__" 379 (.ref 155),dE P "__doc__" 380 .none] 2),#[]⟩) ::
  (nat_lit 157,⟨(.type "type"),none,(.cls ⟨Str.ofString "NoText",[(.ref 24)],[(.ref 157),(.ref 24),(.type "ValueError"),(.type "Exception"),(.type "BaseException"),(.type "object")],156,Str.ofString "NoText",true,[],[],false,none,false⟩),#[some (.ref 148),none,some (sV "NoText" 367),some (sV "NoText" 375),some (.builtin "ValueError.__new__"),some (.bool true)]⟩) ::
  (nat_lit 160,⟨(.type "tuple"),none,(.seq #[(.ref 24)] 0),#[]⟩) ::
  (nat_lit 167,⟨(.type "tuple"),none,(.seq #[] 0),#[]⟩) ::
  (nat_lit 168,⟨(.type "dict"),none,(.dict #[dE P "__module__" 390 (sV "stepgrove.errors" 187),dE P "__firstlineno__" 394 (.int 26 393),dE P "__static_attributes__" 395 (.ref 167),dE P "__doc__" 396 .none] 2),#[]⟩) ::
  (nat_lit 169,⟨(.type "type"),none,(.cls ⟨Str.ofString "NoLine",[(.ref 24)],[(.ref 169),(.ref 24),(.type "ValueError"),(.type "Exception"),(.type "BaseException"),(.type "object")],168,Str.ofString "NoLine",true,[],[],false,none,false⟩),#[some (.ref 160),none,some (sV "NoLine" 383),some (sV "NoLine" 391),some (.builtin "ValueError.__new__"),some (.bool true)]⟩) ::
  (nat_lit 177,cO "is_tree" 403 30 1 3 172 true 173 .none (.ref 174) (.ref 175) (.ref 176) 409) ::
  (nat_lit 178,fO "is_tree" 16 "stepgrove.trees" 399 177) ::
  (nat_lit 184,cO "trees_of" 412 39 1 3 179 true 180 .none (.ref 181) (.ref 182) (.ref 183) 420) ::
  (nat_lit 185,fO "trees_of" 17 "stepgrove.trees" 399 184) ::
  (nat_lit 191,cO "refuse_no_tree" 423 49 1 3 186 true 187 .none (.ref 188) (.ref 189) (.ref 190) 427) ::
  (nat_lit 192,fO "refuse_no_tree" 18 "stepgrove.trees" 399 191) ::
  (nat_lit 198,cO "in_falling_order" 430 52 1 3 193 true 194 .none (.ref 195) (.ref 196) (.ref 197) 434) ::
  (nat_lit 199,fO "in_falling_order" 19 "stepgrove.trees" 399 198) ::
  (nat_lit 205,cO "trees_one_larger" 437 54 1 3 200 true 201 .none (.ref 202) (.ref 203) (.ref 204) 445) ::
  (nat_lit 206,fO "trees_one_larger" 20 "stepgrove.trees" 399 205) ::
  (nat_lit 212,cO "shown_tree" 450 61 1 3 207 true 208 .none (.ref 209) (.ref 210) (.ref 211) 454) ::
  (nat_lit 213,fO "shown_tree" 22 "stepgrove.texts" 448 212) ::
  (nat_lit 219,cO "read_tree" 457 64 1 3 214 true 215 .none (.ref 216) (.ref 217) (.ref 218) 462) ::
  (nat_lit 220,fO "read_tree" 23 "stepgrove.texts" 448 219) ::
  (nat_lit 224,cO "tree_text" 465 69 1 3 221 true 222 .none .none .none (.ref 223) 468) ::
  (nat_lit 225,fO "tree_text" 24 "stepgrove.texts" 448 224) ::
  (nat_lit 231,cO "tree_in" 471 71 1 3 226 true 227 .none (.ref 228) (.ref 229) (.ref 230) 477) ::
  (nat_lit 232,fO "tree_in" 25 "stepgrove.texts" 448 231) ::
  (nat_lit 238,cO "_law_cell_at" 482 80 2 3 233 true 234 .none (.ref 235) (.ref 236) (.ref 237) 487) ::
  (nat_lit 239,fO "_law_cell_at" 27 "law_stepgrove_k78_trees_as_texts" 480 238) ::
  (nat_lit 245,cO "_law_mixed" 490 84 2 3 240 true 241 .none (.ref 242) (.ref 243) (.ref 244) 496) ::
  (nat_lit 246,fO "_law_mixed" 28 "law_stepgrove_k78_trees_as_texts" 480 245) ::
  (nat_lit 252,cO "_law_rest" 499 88 2 3 247 true 248 .none (.ref 249) (.ref 250) (.ref 251) 506) ::
  (nat_lit 253,fO "_law_rest" 29 "law_stepgrove_k78_trees_as_texts" 480 252) ::
  (nat_lit 259,cO "_law_parents" 509 94 2 3 254 true 255 .none (.ref 256) (.ref 257) (.ref 258) 517) ::
  (nat_lit 260,fO "_law_parents" 30 "law_stepgrove_k78_trees_as_texts" 480 259) ::
  (nat_lit 264,cO "_law_grown" 520 102 1 3 261 true 262 .none .none .none (.ref 263) 523) ::
  (nat_lit 265,fO "_law_grown" 31 "law_stepgrove_k78_trees_as_texts" 480 264) ::
  (nat_lit 269,cO "_law_alone" 526 107 1 3 266 true 267 .none .none .none (.ref 268) 529) ::
  (nat_lit 270,fO "_law_alone" 32 "law_stepgrove_k78_trees_as_texts" 480 269) ::
  (nat_lit 274,cO "_law_text" 532 115 1 3 271 true 272 .none .none .none (.ref 273) 535) ::
  (nat_lit 275,fO "_law_text" 33 "law_stepgrove_k78_trees_as_texts" 480 274) ::
  (nat_lit 281,cO "_law_spoilt" 538 117 2 3 276 true 277 .none (.ref 278) (.ref 279) (.ref 280) 546) ::
  (nat_lit 282,fO "_law_spoilt" 34 "law_stepgrove_k78_trees_as_texts" 480 281) ::
  (nat_lit 288,cO "_law_reader" 549 134 1 3 283 true 284 .none (.ref 285) (.ref 286) (.ref 287) 558) ::
  (nat_lit 289,fO "_law_reader" 35 "law_stepgrove_k78_trees_as_texts" 480 288) ::
  (nat_lit 295,cO "_law_tuples" 561 155 1 3 290 true 291 .none (.ref 292) (.ref 293) (.ref 294) 566) ::
  (nat_lit 296,fO "_law_tuples" 36 "law_stepgrove_k78_trees_as_texts" 480 295) ::
  (nat_lit 302,cO "_law_read" 569 162 1 3 297 true 298 .none (.ref 299) (.ref 300) (.ref 301) 577) ::
  (nat_lit 303,fO "_law_read" 37 "law_stepgrove_k78_trees_as_texts" 480 302) ::
  (nat_lit 309,cO "_law_refused" 580 175 1 3 304 true 305 .none (.ref 306) (.ref 307) (.ref 308) 586) ::
  (nat_lit 310,fO "_law_refused" 38 "law_stepgrove_k78_trees_as_texts" 480 309) ::
  (nat_lit 316,cO "law" 589 182 1 3 311 true 312 .none (.ref 313) (.ref 314) (.ref 315) 599) ::
  (nat_lit 317,fO "law" 39 "law_stepgrove_k78_trees_as_texts" 480 316) :: []
abbrev qX : Program:=view pwX [1,2,3,4,5,6,7,8,9,10,11,12,13,15,16,17,18,19,20,22,23,24,25,27,28,29,30,31,32,33,34,35,36,37,38,39]
noncomputable abbrev hX : Hook:=kHook kH [nat_lit 2,nat_lit 3,nat_lit 15,nat_lit 22,nat_lit 23,nat_lit 24,nat_lit 25,nat_lit 28,nat_lit 35,nat_lit 36,nat_lit 37,nat_lit 40,nat_lit 47,nat_lit 48,nat_lit 49,nat_lit 52,nat_lit 59,nat_lit 60,nat_lit 61,nat_lit 64,nat_lit 71,nat_lit 72,nat_lit 73,nat_lit 76,nat_lit 83,nat_lit 84,nat_lit 85,nat_lit 88,nat_lit 95,nat_lit 96,nat_lit 97,nat_lit 100,nat_lit 107,nat_lit 108,nat_lit 109,nat_lit 112,nat_lit 119,nat_lit 120,nat_lit 121,nat_lit 124,nat_lit 131,nat_lit 132,nat_lit 133,nat_lit 136,nat_lit 143,nat_lit 144,nat_lit 145,nat_lit 148,nat_lit 155,nat_lit 156,nat_lit 157,nat_lit 160,nat_lit 167,nat_lit 168,nat_lit 169,nat_lit 177,nat_lit 178,nat_lit 184,nat_lit 185,nat_lit 191,nat_lit 192,nat_lit 198,nat_lit 199,nat_lit 205,nat_lit 206,nat_lit 212,nat_lit 213,nat_lit 219,nat_lit 220,nat_lit 224,nat_lit 225,nat_lit 231,nat_lit 232,nat_lit 238,nat_lit 239,nat_lit 245,nat_lit 246,nat_lit 252,nat_lit 253,nat_lit 259,nat_lit 260,nat_lit 264,nat_lit 265,nat_lit 269,nat_lit 270,nat_lit 274,nat_lit 275,nat_lit 281,nat_lit 282,nat_lit 288,nat_lit 289,nat_lit 295,nat_lit 296,nat_lit 302,nat_lit 303,nat_lit 309,nat_lit 310,nat_lit 316,nat_lit 317] (fun _ => by kernel_rfl)
noncomputable def dX : DefRec:=⟨Str.ofString "law",defArgs (top 39),defBody (top 39),defScope (top 39),⟨182,0,195,71⟩⟩
theorem saidX : rwX.wellSaid = true:=(congrFun PySem.W.Fast.te9446332074065402090 _).trans (by kernel_rfl)
theorem preX (w : World) (os : OsState) : topGo treeTable pwX w 11 Opn.annB 12 ⟨boot_heap w.params,#[],boot_drawn,boot_toks,os⟩ (topStub pwX) = some (Opn.sA w os,⟨denote treeTable (Opn.cB pwX),Opn.cB pwX,Opn.q0,Opn.bB⟩) := by kernel_rfl
theorem blkX (w : World) (os : OsState) : segRun treeTable pwX w 11 Opn.annB 1 1 (Opn.sA w os) (blockOf (behindTheImports pwX) (Opn.envB pwX) (Opn.cB pwX) Opn.q0 Opn.bB) = some (.next,(Opn.sB w os).abs,Opn.cB pwX,Opn.q0) := by kernel_rfl
theorem finX (w : World) (s : Shared) : topRun treeTable pwX w 11 Opn.annB 2 s (restOf [] (Opn.envB pwX) (Opn.cB pwX) ⟨182,0,195,71⟩ Opn.bB) = some s := by kernel_rfl
theorem segX (w : World) (os : OsState) : Opn.runB pwX 3459 w os = some (.next,Opn.endB pwX 3459 w os,Opn.cB pwX,⟨182,0,195,71⟩) := by kernel_rfl
noncomputable abbrev sX (w : World) (os : OsState) : Shared:=(Opn.endB pwX 3459 w os).abs
theorem okX (w : World) (os : OsState) : (staticsOk (importedModules pwX.main.body) (boot_heap w.params) (sX w os).heap && namesBound pwX (sX w os).heap && gensDone (sX w os) && laidKept (boot_heap w.params) (sX w os).heap) = true := by kernel_rfl
theorem hookX (w : World) (os : OsState) : hX.obs (sX w os) = hX.val w := by kernel_rfl
noncomputable abbrev xtX : Shared→Bool:=fun s => xlAt qX [] s && recOk (RowW.records rwX.row.toRowW) s
theorem seenX (w : World) (os : OsState) : openSeen qX [] (importedModules pwX.main.body) xtX true (sX w os) = openGood qX [] := by kernel_rfl
theorem bootX (w : World) : (fencedOpening treeTable pwX w 7042).map (fun s => (s.heap,s.gens,s.drawn,s.toks)) = some (boot_heap w.params,#[],boot_drawn,boot_toks) := boot_open (p:=pwX) (N:=7042) (by kernel_rfl) (by kernel_rfl) (fun _ => by kernel_rfl) w
theorem leftX : LeftO pwX qX [] xtX hX.obs hX.val 7042:=Opn.left_of (M:=3474) (S:=sX) bootX Opn.sizeB (fun w os => Opn.run_of (preX w os) (blkX w os) (segX w os) (finX w) (by kernel_rfl)) (by kernel_rfl) okX seenX hookX
theorem defX : defOf qX rwX.row.name = some (dX,[]) := by kernel_rfl
theorem theX : pwX.theDef rwX.row.name = some (dX.params,dX.body,dX.scope) := by kernel_rfl
theorem kwX : kwWritten? dX.params.kwonlyargs dX.params.kw_defaults = some [] := by kernel_rfl
theorem chnX : (chainsOk qX && opensWell rwX.row.prog && (frees rwX.row.toRowW && rwX.row.within.isEmpty)) = true := by kernel_rfl
theorem bareX : pwX.bare:=⟨rfl,rfl,rfl,rfl,rfl,by decide +kernel⟩
theorem openX (hw : rwX.row.toRowW.promised) (hc : WalkO qX [] (XL qX []) hX.says rwX.row.toRowW dX [] (fun f vs => PySem.call f vs)) : rwX.Holds :=
  holds_law saidX fun said => holds_open (r:=rwX.row) (q:=qX) (loose:=[]) (Xt:=xtX) (XP:=XL qX []) (Yf:=hX.obs) (Ya:=hX.val) (YP:=hX.says) (d:=dX) (kwd:=[]) (N:=7042) leftX hX.of hX.keeps (fun s e => xl_of s (Bool.and_eq_true_iff.mp e).1) XL.keeps defX theX kwX (fun s e => recFacts_of (Bool.and_eq_true_iff.mp e).2) rfl said chnX bareX hw hc
end
section
open PySem.W
theorem fnX {w : World} {mg : Str→Option Value} {h : Heap} (X : (kH w.params).In h) (G : h.Ns mainGlobals mg) (n : String) (i : Nat) (m : String) (t c f : Nat) (ps : List Str)
    (ha : nsIn (kH w.params) mainGlobals (Str.ofString n) = some (some (.ref f)) := by kernel_rfl) (hl : (kH w.params).lookup f = some (fO n i m t c) := by kernel_rfl) (hc : codeIn (kH w.params) (.ref c) (Str.ofString n) = true := by kernel_rfl) (hk : keepIn (kH w.params) (.ref f) = true := by kernel_rfl)
    (hb : ∀ (kV doc pm : Value) (an : Option Addr) (cdv ct : Value) (us : List Value),us.length = ps.length→bindArgs (fnOf (Str.ofString n) (Str.ofString n) (defArgs (top i)) (defBody (top i)) (defScope (top i)) .none kV doc pm an cdv ct) ⟨us,[]⟩ = pure (ps.zip us) := by first | (exact fun _ _ _ _ _ _ us hl => match us,hl with | [_],_ => rfl) | (exact fun _ _ _ _ _ _ us hl => match us,hl with | [_,_],_ => rfl) | (exact fun _ _ _ _ _ _ us hl => match us,hl with | [_,_,_],_ => rfl) | (exact fun _ _ _ _ _ _ us hl => match us,hl with | [_,_,_,_],_ => rfl) | (exact fun _ _ _ _ _ _ us hl => match us,hl with | [_,_,_,_,_],_ => rfl) | (exact fun _ _ _ _ _ _ us hl => match us,hl with | [],_ => rfl)) :
    Fn (kH w.params) mg (Str.ofString n) (top i) ps f (fnOf (Str.ofString n) (Str.ofString n) (defArgs (top i)) (defBody (top i)) (defScope (top i)) .none .none .none (.str (Str.ofString m) t) none (.ref c) .none) :=
  ⟨fun_mk hl hc hk,(fun_mk (st:=top i) hl hc hk).binds hb,mg_of X G ha⟩
set_option maxHeartbeats 4000000 in
theorem allX (w : World) (mg : Str→Option Value) (fa : Addr) (h : Heap) (X : (kH w.params).In h) (G : h.Ns mainGlobals mg) (hfa : mg "law" = some (.ref fa)) :
    ∃ fd : FuncData,(∀ (s : Shared) (v : Value),BindsTo s fd ⟨[v],[]⟩ [("_law_script",v)])∧∀ base : Heap,(kH w.params).In base→base.Ns mainGlobals mg→FnOk rwX.prog w (kH w.params) mg base CX0 16 fa fd ["_law_script"] (spLaw (kH w.params)) := by
  have e:=hfa.symm.trans (mg_of X G (v:=.ref 317) (by kernel_rfl))
  cases e
  have T_is_tree:=fnX X G "is_tree" 16 "stepgrove.trees" 399 177 178 ["thing"]
  have T_trees_of:=fnX X G "trees_of" 17 "stepgrove.trees" 399 184 185 ["many"]
  have T_refuse_no_tree:=fnX X G "refuse_no_tree" 18 "stepgrove.trees" 399 191 192 ["thing"]
  have T_in_falling_order:=fnX X G "in_falling_order" 19 "stepgrove.trees" 399 198 199 ["boughs"]
  have T_trees_one_larger:=fnX X G "trees_one_larger" 20 "stepgrove.trees" 399 205 206 ["tree"]
  have T_shown_tree:=fnX X G "shown_tree" 22 "stepgrove.texts" 448 212 213 ["tree"]
  have T_read_tree:=fnX X G "read_tree" 23 "stepgrove.texts" 448 219 220 ["text"]
  have T_tree_text:=fnX X G "tree_text" 24 "stepgrove.texts" 448 224 225 ["tree"]
  have T_tree_in:=fnX X G "tree_in" 25 "stepgrove.texts" 448 231 232 ["text"]
  have T__law_cell_at:=fnX X G "_law_cell_at" 27 "law_stepgrove_k78_trees_as_texts" 480 238 239 ["_law_script", "_law_k"]
  have T__law_mixed:=fnX X G "_law_mixed" 28 "law_stepgrove_k78_trees_as_texts" 480 245 246 ["_law_cell", "_law_k"]
  have T__law_rest:=fnX X G "_law_rest" 29 "law_stepgrove_k78_trees_as_texts" 480 252 253 ["_law_script", "_law_k"]
  have T__law_parents:=fnX X G "_law_parents" 30 "law_stepgrove_k78_trees_as_texts" 480 259 260 ["_law_rest_here", "_law_most"]
  have T__law_grown:=fnX X G "_law_grown" 31 "law_stepgrove_k78_trees_as_texts" 480 264 265 ["_law_parents_here"]
  have T__law_alone:=fnX X G "_law_alone" 32 "law_stepgrove_k78_trees_as_texts" 480 269 270 ["_law_error"]
  have T__law_text:=fnX X G "_law_text" 33 "law_stepgrove_k78_trees_as_texts" 480 274 275 ["_law_tree"]
  have T__law_spoilt:=fnX X G "_law_spoilt" 34 "law_stepgrove_k78_trees_as_texts" 480 281 282 ["_law_text_here", "_law_number"]
  have T__law_reader:=fnX X G "_law_reader" 35 "law_stepgrove_k78_trees_as_texts" 480 288 289 ["_law_text_here"]
  have T__law_tuples:=fnX X G "_law_tuples" 36 "law_stepgrove_k78_trees_as_texts" 480 295 296 ["_law_thing"]
  have T__law_read:=fnX X G "_law_read" 37 "law_stepgrove_k78_trees_as_texts" 480 302 303 ["_law_text_here"]
  have T__law_refused:=fnX X G "_law_refused" 38 "law_stepgrove_k78_trees_as_texts" 480 309 310 ["_law_tree"]
  have T_law:=fnX X G "law" 39 "law_stepgrove_k78_trees_as_texts" 480 316 317 ["_law_script"]
  have z_len : mg "len" = none:=mg_none_of X G (by kernel_rfl)
  have z_range : mg "range" = none:=mg_none_of X G (by kernel_rfl)
  have z_abs : mg "abs" = none:=mg_none_of X G (by kernel_rfl)
  have z_isinstance : mg "isinstance" = none:=mg_none_of X G (by kernel_rfl)
  have z_int : mg "int" = none:=mg_none_of X G (by kernel_rfl)
  have z_bool : mg "bool" = none:=mg_none_of X G (by kernel_rfl)
  have z_tuple : mg "tuple" = none:=mg_none_of X G (by kernel_rfl)
  have z_list : mg "list" = none:=mg_none_of X G (by kernel_rfl)
  have z_enumerate : mg "enumerate" = none:=mg_none_of X G (by kernel_rfl)
  have z_sorted : mg "sorted" = none:=mg_none_of X G (by kernel_rfl)
  have z_set : mg "set" = none:=mg_none_of X G (by kernel_rfl)
  have z_min : mg "min" = none:=mg_none_of X G (by kernel_rfl)
  have z_max : mg "max" = none:=mg_none_of X G (by kernel_rfl)
  have z_str : mg "str" = none:=mg_none_of X G (by kernel_rfl)
  have z_ValueError : mg "ValueError" = none:=mg_none_of X G (by kernel_rfl)
  have a_MK : nsIn (kH w.params) mainGlobals "MOST_KNOTS" = some (some (.int 7 401)) := by kernel_rfl
  have a_GroveError : PySem.W.nsIn (kH w.params) mainGlobals "GroveError" = some (some (.ref 24)) := by kernel_rfl
  have a_NoBottom : PySem.W.nsIn (kH w.params) mainGlobals "NoBottom" = some (some (.ref 37)) := by kernel_rfl
  have a_NoTree : PySem.W.nsIn (kH w.params) mainGlobals "NoTree" = some (some (.ref 49)) := by kernel_rfl
  have a_NoChange : PySem.W.nsIn (kH w.params) mainGlobals "NoChange" = some (some (.ref 61)) := by kernel_rfl
  have a_NoStart : PySem.W.nsIn (kH w.params) mainGlobals "NoStart" = some (some (.ref 73)) := by kernel_rfl
  have a_NoTable : PySem.W.nsIn (kH w.params) mainGlobals "NoTable" = some (some (.ref 85)) := by kernel_rfl
  have a_NoName : PySem.W.nsIn (kH w.params) mainGlobals "NoName" = some (some (.ref 97)) := by kernel_rfl
  have a_NoWeighing : PySem.W.nsIn (kH w.params) mainGlobals "NoWeighing" = some (some (.ref 109)) := by kernel_rfl
  have a_NotAlike : PySem.W.nsIn (kH w.params) mainGlobals "NotAlike" = some (some (.ref 121)) := by kernel_rfl
  have a_NoParts : PySem.W.nsIn (kH w.params) mainGlobals "NoParts" = some (some (.ref 133)) := by kernel_rfl
  have a_TooMany : PySem.W.nsIn (kH w.params) mainGlobals "TooMany" = some (some (.ref 145)) := by kernel_rfl
  have a_NoText : PySem.W.nsIn (kH w.params) mainGlobals "NoText" = some (some (.ref 157)) := by kernel_rfl
  have a_NoLine : PySem.W.nsIn (kH w.params) mainGlobals "NoLine" = some (some (.ref 169)) := by kernel_rfl
  have m_GroveError:=PySem.W.mg_of X G a_GroveError
  have m_NoBottom:=PySem.W.mg_of X G a_NoBottom
  have m_NoTree:=PySem.W.mg_of X G a_NoTree
  have m_NoChange:=PySem.W.mg_of X G a_NoChange
  have m_NoStart:=PySem.W.mg_of X G a_NoStart
  have m_NoTable:=PySem.W.mg_of X G a_NoTable
  have m_NoName:=PySem.W.mg_of X G a_NoName
  have m_NoWeighing:=PySem.W.mg_of X G a_NoWeighing
  have m_NotAlike:=PySem.W.mg_of X G a_NotAlike
  have m_NoParts:=PySem.W.mg_of X G a_NoParts
  have m_TooMany:=PySem.W.mg_of X G a_TooMany
  have m_NoText:=PySem.W.mg_of X G a_NoText
  have m_NoLine:=PySem.W.mg_of X G a_NoLine
  have X_NoTree : Exc (kH w.params) mg "NoTree" 49:=⟨m_NoTree,by kernel_rfl⟩
  have be_NoTree : Beneath (kH w.params) 49 24 true:=⟨by kernel_rfl,by kernel_rfl,by kernel_rfl,by kernel_rfl⟩
  have xk_NoTree : ExcK (kH w.params) 49:=⟨by kernel_rfl,by kernel_rfl,by kernel_rfl,by kernel_rfl,by kernel_rfl,by kernel_rfl,by kernel_rfl,by kernel_rfl⟩
  have tV_NoTree : PySem.W.kitOne (kH w.params) (.ref 49) (.type "ValueError") = some true := by kernel_rfl
  have t_NoTree_GroveError : PySem.W.kitOne (kH w.params) (.ref 49) (.ref 24) = some true := by kernel_rfl
  have t_NoTree_NoBottom : PySem.W.kitOne (kH w.params) (.ref 49) (.ref 37) = some false := by kernel_rfl
  have t_NoTree_NoTree : PySem.W.kitOne (kH w.params) (.ref 49) (.ref 49) = some true := by kernel_rfl
  have t_NoTree_NoChange : PySem.W.kitOne (kH w.params) (.ref 49) (.ref 61) = some false := by kernel_rfl
  have t_NoTree_NoStart : PySem.W.kitOne (kH w.params) (.ref 49) (.ref 73) = some false := by kernel_rfl
  have t_NoTree_NoTable : PySem.W.kitOne (kH w.params) (.ref 49) (.ref 85) = some false := by kernel_rfl
  have t_NoTree_NoName : PySem.W.kitOne (kH w.params) (.ref 49) (.ref 97) = some false := by kernel_rfl
  have t_NoTree_NoWeighing : PySem.W.kitOne (kH w.params) (.ref 49) (.ref 109) = some false := by kernel_rfl
  have t_NoTree_NotAlike : PySem.W.kitOne (kH w.params) (.ref 49) (.ref 121) = some false := by kernel_rfl
  have t_NoTree_NoParts : PySem.W.kitOne (kH w.params) (.ref 49) (.ref 133) = some false := by kernel_rfl
  have t_NoTree_TooMany : PySem.W.kitOne (kH w.params) (.ref 49) (.ref 145) = some false := by kernel_rfl
  have t_NoTree_NoText : PySem.W.kitOne (kH w.params) (.ref 49) (.ref 157) = some false := by kernel_rfl
  have t_NoTree_NoLine : PySem.W.kitOne (kH w.params) (.ref 49) (.ref 169) = some false := by kernel_rfl
  have X_NoText : Exc (kH w.params) mg "NoText" 157:=⟨m_NoText,by kernel_rfl⟩
  have be_NoText : Beneath (kH w.params) 157 24 true:=⟨by kernel_rfl,by kernel_rfl,by kernel_rfl,by kernel_rfl⟩
  have xk_NoText : ExcK (kH w.params) 157:=⟨by kernel_rfl,by kernel_rfl,by kernel_rfl,by kernel_rfl,by kernel_rfl,by kernel_rfl,by kernel_rfl,by kernel_rfl⟩
  have tV_NoText : PySem.W.kitOne (kH w.params) (.ref 157) (.type "ValueError") = some true := by kernel_rfl
  have t_NoText_GroveError : PySem.W.kitOne (kH w.params) (.ref 157) (.ref 24) = some true := by kernel_rfl
  have t_NoText_NoBottom : PySem.W.kitOne (kH w.params) (.ref 157) (.ref 37) = some false := by kernel_rfl
  have t_NoText_NoTree : PySem.W.kitOne (kH w.params) (.ref 157) (.ref 49) = some false := by kernel_rfl
  have t_NoText_NoChange : PySem.W.kitOne (kH w.params) (.ref 157) (.ref 61) = some false := by kernel_rfl
  have t_NoText_NoStart : PySem.W.kitOne (kH w.params) (.ref 157) (.ref 73) = some false := by kernel_rfl
  have t_NoText_NoTable : PySem.W.kitOne (kH w.params) (.ref 157) (.ref 85) = some false := by kernel_rfl
  have t_NoText_NoName : PySem.W.kitOne (kH w.params) (.ref 157) (.ref 97) = some false := by kernel_rfl
  have t_NoText_NoWeighing : PySem.W.kitOne (kH w.params) (.ref 157) (.ref 109) = some false := by kernel_rfl
  have t_NoText_NotAlike : PySem.W.kitOne (kH w.params) (.ref 157) (.ref 121) = some false := by kernel_rfl
  have t_NoText_NoParts : PySem.W.kitOne (kH w.params) (.ref 157) (.ref 133) = some false := by kernel_rfl
  have t_NoText_TooMany : PySem.W.kitOne (kH w.params) (.ref 157) (.ref 145) = some false := by kernel_rfl
  have t_NoText_NoText : PySem.W.kitOne (kH w.params) (.ref 157) (.ref 157) = some true := by kernel_rfl
  have t_NoText_NoLine : PySem.W.kitOne (kH w.params) (.ref 157) (.ref 169) = some false := by kernel_rfl
  have bt_NoTree_NoTree : Beneath (kH w.params) 49 49 true:=⟨by kernel_rfl,by kernel_rfl,by kernel_rfl,by kernel_rfl⟩
  have bt_NoText_NoText : Beneath (kH w.params) 157 157 true:=⟨by kernel_rfl,by kernel_rfl,by kernel_rfl,by kernel_rfl⟩
  have hK : noLst (kH w.params) = true := by kernel_rfl
  refine ⟨fnOf (Str.ofString "law") (Str.ofString "law") (defArgs (top 39)) (defBody (top 39)) (defScope (top 39)) .none .none .none (.str (Str.ofString "law_stepgrove_k78_trees_as_texts") 480) none (.ref 316) .none,fun s v => .of_eq rfl,fun base _ _ => ?_⟩
  have m_MOST_KNOTS:=PySem.W.mg_of X G a_MK
  have G_is_tree:=od_is_tree (P:=rwX.prog) (w:=w) (base := base) (k:=0) T_is_tree z_enumerate z_isinstance z_tuple 9
  have G_refuse_no_tree:=ox_refuse_no_tree (P:=rwX.prog) (w:=w) (base := base) (k:=10) T_refuse_no_tree T_is_tree (G_is_tree.mono) X_NoTree
  have G_in_falling_order:=od_in_falling_order (P:=rwX.prog) (w:=w) (base := base) (k:=0) T_in_falling_order z_sorted z_tuple
  have G_trees_one_larger:=od_trees_one_larger (P:=rwX.prog) (w:=w) (base := base) (k:=1) T_trees_one_larger T_in_falling_order (G_in_falling_order.mono) z_enumerate 9
  have G_trees_of:=od_trees_of (P:=rwX.prog) (w:=w) (base := base) (k:=11) T_trees_of T_trees_one_larger (G_trees_one_larger.mono) z_range z_set z_sorted m_MOST_KNOTS
  have G_tree_text:=od_tree_text (P:=rwX.prog) (w:=w) (base := base) (k:=0) T_tree_text 9
  have G_shown_tree:=ox_shown_tree (P:=rwX.prog) (w:=w) (base := base) (k:=11) T_shown_tree T_refuse_no_tree (G_refuse_no_tree.mono) T_tree_text (G_tree_text.mono)
  have G_tree_in:=od_tree_in (P:=rwX.prog) (w:=w) (base := base) (k:=12) T_tree_in T_tree_text (G_tree_text.mono) T_trees_of (G_trees_of.mono) m_MOST_KNOTS
  have G_read_tree:=ox_read_tree (P:=rwX.prog) (w:=w) (base := base) (k:=13) T_read_tree T_tree_in (G_tree_in.mono) X_NoText
  have G__law_text:=od__law_text (P:=rwX.prog) (w:=w) (base := base) (k:=0) T__law_text 9
  have G__law_spoilt:=od__law_spoilt (P:=rwX.prog) (w:=w) (base := base) (k:=0) T__law_spoilt z_len z_max z_min
  have G__law_reader:=od__law_reader (P:=rwX.prog) (w:=w) (base := base) (k:=0) T__law_reader z_int z_len z_range z_tuple 8
  have G__law_tuples:=od__law_tuples (P:=rwX.prog) (w:=w) (base := base) (k:=0) T__law_tuples z_isinstance z_tuple 9
  have G__law_alone:=od__law_alone (P:=rwX.prog) (w:=w) (base := base) (k:=0) T__law_alone z_ValueError z_isinstance z_len m_GroveError m_NoBottom m_NoChange m_NoLine m_NoName m_NoParts m_NoStart m_NoTable m_NoText m_NoTree m_NoWeighing m_NotAlike m_TooMany (kt2_h xk_NoTree xk_NoText t_NoTree_GroveError t_NoText_GroveError) (kt2_h xk_NoTree xk_NoText t_NoTree_NoBottom t_NoText_NoBottom) (kt2_h xk_NoTree xk_NoText t_NoTree_NoChange t_NoText_NoChange) (kt2_h xk_NoTree xk_NoText t_NoTree_NoLine t_NoText_NoLine) (kt2_h xk_NoTree xk_NoText t_NoTree_NoName t_NoText_NoName) (kt2_h xk_NoTree xk_NoText t_NoTree_NoParts t_NoText_NoParts) (kt2_h xk_NoTree xk_NoText t_NoTree_NoStart t_NoText_NoStart) (kt2_h xk_NoTree xk_NoText t_NoTree_NoTable t_NoText_NoTable) (kt2_h xk_NoTree xk_NoText t_NoTree_NoText t_NoText_NoText) (kt2_h xk_NoTree xk_NoText t_NoTree_NoTree t_NoText_NoTree) (kt2_h xk_NoTree xk_NoText t_NoTree_NoWeighing t_NoText_NoWeighing) (kt2_h xk_NoTree xk_NoText t_NoTree_NotAlike t_NoText_NotAlike) (kt2_h xk_NoTree xk_NoText t_NoTree_TooMany t_NoText_TooMany) (kt2_h xk_NoTree xk_NoText tV_NoTree tV_NoText)
  have O_read_tree:=spX_only [157] G_read_tree
  have O_shown_tree:=spX_only [49] G_shown_tree
  have G__law_read:=od__law_read (P:=rwX.prog) (w:=w) (base := base) (k:=14) T__law_read T__law_alone (G__law_alone.mono) T__law_reader (G__law_reader.mono) T__law_tuples (G__law_tuples.mono) T_read_tree (O_read_tree.mono) z_len m_NoText (fun ds C h => by rw [List.mem_singleton.mp (only_in h)]; exact bt_NoText_NoText)
  have G__law_refused:=od__law_refused (P:=rwX.prog) (w:=w) (base := base) (k:=12) T__law_refused T__law_alone (G__law_alone.mono) T_shown_tree (O_shown_tree.mono) m_NoTree (fun ds C h => by rw [List.mem_singleton.mp (only_in h)]; exact bt_NoTree_NoTree)
  have G__law_cell_at:=od__law_cell_at (P:=rwX.prog) (w:=w) (base := base) (k:=0) T__law_cell_at z_len
  have G__law_mixed:=od__law_mixed (P:=rwX.prog) (w:=w) (base := base) (k:=0) T__law_mixed
  have G__law_rest:=od__law_rest (P:=rwX.prog) (w:=w) (base := base) (k:=1) T__law_rest T__law_cell_at (G__law_cell_at.mono) T__law_mixed (G__law_mixed.mono) z_abs
  have G__law_parents:=od__law_parents (P:=rwX.prog) (w:=w) (base := base) (k:=0) T__law_parents z_range
  have G__law_grown:=toGr (ok__law_grown (P:=rwX.prog) (w:=w) (base := base) T__law_grown z_range z_len z_sorted z_tuple)
  have G_law:=od_law (P:=rwX.prog) (w:=w) (base := base) (k:=15) T_law T__law_grown (G__law_grown.mono) T__law_mixed (G__law_mixed.mono) T__law_parents (G__law_parents.mono) T__law_read (G__law_read.mono) T__law_refused (G__law_refused.mono) T__law_rest (G__law_rest.mono) T__law_spoilt (G__law_spoilt.mono) T__law_text (G__law_text.mono) T_shown_tree (G_shown_tree.mono) z_isinstance z_len z_range z_str
  exact ok_law (by decide) hK G_law
theorem walkX : WalkO qX [] (XL qX []) hX.says rwX.row.toRowW dX [] (fun f vs => PySem.call f vs) :=
  L2.walk_of (l:=rwX) (n:=63) (k:=16) (x := "_law_script") (CX:=fun _ => CX0) (K:=kH) (sp:=fun w => spLaw (kH w.params)) rfl (by decide) rfl ⟨rfl,by decide,by decide⟩ (fun w mg h X G H d e => by rw [mg_none_of X G (by kernel_rfl)] at e; cases e) (fun w h Y => kIn_of Y) allX (fun _ _ a ns hl _ hS => ⟨a,ns,rfl,hS,hl,fun _ => rfl⟩) fun _ _ _ _ _ z => z
end
end Q78
open PySem PySem.W PyProof.Rows
set_option maxRecDepth 100000 in
theorem PySem.Challenge.cw_stepgrove_k78_trees_as_texts_holds : PySem.Challenge.rw_stepgrove_k78_trees_as_texts.Holds := by
  refine Q78.openX ?hw Q78.walkX
  w_witness2
#print axioms PySem.Challenge.cw_stepgrove_k78_trees_as_texts_holds
