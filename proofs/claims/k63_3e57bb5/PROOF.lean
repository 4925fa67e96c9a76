import PyProof.Rows.All
import Wide.All
import OpenK.AllK
import Wide.FinOn
import Lean
import PyProof.EqAt
import PyProof.EqKinds
import PyProof.TupleCall
import PySem.Challenge.RW_stepgrove_k63_refused_joins
set_option Elab.async false
set_option linter.all false
set_option maxRecDepth 100000
namespace L2
open PySem PySem.Spec PyProof.Rows
abbrev Key:=Sum Int Str
def keyIs : Key→Value→Bool
  | .inl k,v => Value.isInt k v
  | .inr x,v => Value.isStrOf x v
def keyH (w : World) : Key→Int
  | .inl k => hashInt k
  | .inr x => hashStr w x
theorem keyIs_shape : ∀ {k : Key} {v : Value},keyIs k v = true→(∃ i t,k = Sum.inl i∧v = Value.int i t)∨(∃ x t,k = Sum.inr x∧v = Value.str x t)
  | .inl i,v,h => by
    obtain ⟨t,e⟩:=Value.isInt_shape (k:=i) (v:=v) h
    exact .inl ⟨i,t,rfl,e⟩
  | .inr x,v,h => by
    obtain ⟨t,e⟩:=Value.isStrOf_shape (x:=x) (v:=v) h
    exact .inr ⟨x,t,rfl,e⟩
theorem key_ll (a b : Int) : decide ((Sum.inl a : Key) = Sum.inl b) = (a == b) := by
  by_cases e : a = b
  · subst e; simp
  · have h : ¬ (Sum.inl a : Key) = Sum.inl b:=fun q => e (Sum.inl.inj q)
    rw [decide_eq_false h]
    exact (beq_eq_false_iff_ne.mpr e).symm
theorem key_rr (a b : Str) : decide ((Sum.inr a : Key) = Sum.inr b) = decide (a = b) := by
  by_cases e : a = b
  · subst e; simp
  · have h : ¬ (Sum.inr a : Key) = Sum.inr b:=fun q => e (Sum.inr.inj q)
    rw [decide_eq_false h,decide_eq_false e]
theorem key_lr (a : Int) (b : Str) : decide ((Sum.inl a : Key) = Sum.inr b) = false:=decide_eq_false (fun q => nomatch q)
theorem key_rl (a : Str) (b : Int) : decide ((Sum.inr a : Key) = Sum.inl b) = false:=decide_eq_false (fun q => nomatch q)
def mixKind (prog : Program) (w : World) : PySem.KeyKind prog w Key where
  is:=keyIs
  hash:=keyH w
  inj:=fun v a b ha hb => by
    rcases keyIs_shape ha with ⟨i,t,rfl,rfl⟩ | ⟨x,t,rfl,rfl⟩
    · rcases keyIs_shape hb with ⟨j,u,rfl,e⟩ | ⟨y,u,rfl,e⟩
      · injection e with e1 _; rw [e1]
      · exact nomatch e
    · rcases keyIs_shape hb with ⟨j,u,rfl,e⟩ | ⟨y,u,rfl,e⟩
      · exact nomatch e
      · injection e with e1 _; rw [e1]
  byValue:=fun k v h => by
    rcases keyIs_shape h with ⟨i,t,rfl,rfl⟩ | ⟨x,t,rfl,rfl⟩ <;> rfl
  pyHash:=fun hv h => by
    rcases keyIs_shape hv with ⟨i,t,rfl,rfl⟩ | ⟨x,t,rfl,rfl⟩
    · exact wpAny_pyHash_int h
    · exact wpAny_pyHash_str h
  eqBool:=fun hu hv h => by
    rcases keyIs_shape hu with ⟨i,t,rfl,rfl⟩ | ⟨x,t,rfl,rfl⟩
    · rcases keyIs_shape hv with ⟨j,u,rfl,rfl⟩ | ⟨y,u,rfl,rfl⟩
      · rw [key_ll] at h; exact wpAny_eqBool_int h
      · rw [key_lr] at h; exact SeqAt.EqAt.int_str i t y u _ _ _ _ h
    · rcases keyIs_shape hv with ⟨j,u,rfl,rfl⟩ | ⟨y,u,rfl,rfl⟩
      · rw [key_rl] at h; exact SeqAt.EqAt.str_int x t j u _ _ _ _ h
      · rw [key_rr] at h; exact wpAny_eqBool_str h
  «strs»:=fun k x t v h => by
    rcases keyIs_shape h with ⟨i,u,rfl,e⟩ | ⟨y,u,rfl,e⟩
    · exact nomatch e
    · injection e with e1 _
      subst e1
      cases v <;> rfl
inductive V where
  | non | bl (b : Bool) | int (i : Int) | str (x : Str) | byt (b : Array UInt8) | flt (b : UInt64) | ref (a : Addr) | ty (n : String)
  deriving DecidableEq
def RelV : V→Value→Prop
  | .non,u => u = Value.none
  | .bl b,u => u = Value.bool b
  | .int i,u => ∃ t,u = Value.int i t
  | .str x,u => ∃ t,u = Value.str x t
  | .byt b,u => ∃ t,u = Value.bytes b t
  | .flt b,u => ∃ t,u = Value.float b t
  | .ref a,u => u = Value.ref a
  | .ty n,u => u = Value.type n
abbrev Vals : List V→List Value→Prop:=Paired RelV
theorem Vals.length {xs : List V} {us : List Value} (r : Vals xs us) : xs.length = us.length:=Paired.length r
theorem Vals.get : ∀ {xs : List V} {us : List Value} {i : Nat} {x : V},Vals xs us→xs[i]? = some x→∃ u,us[i]? = some u∧RelV x u
  | _,_,_,_,.nil,e => by simp at e
  | _,_,0,_,.cons r _,e => by simp at e; subst e; exact ⟨_,rfl,r⟩
  | _,_,i + 1,x,.cons _ t,e => by
    obtain ⟨u,h1,h2⟩:=Vals.get (i:=i) (x:=x) t (by simpa using e)
    exact ⟨u,by simpa using h1,h2⟩
theorem Vals.set {x : V} {u : Value} (r : RelV x u) : ∀ {xs : List V} {us : List Value} (i : Nat),Vals xs us→Vals (xs.set i x) (us.set i u)
  | _,_,_,.nil => .nil
  | _,_,0,.cons _ t => .cons r t
  | _,_,i + 1,.cons q t => .cons q (Vals.set r i t)
theorem Vals.append : ∀ {xs ys : List V} {us ws : List Value},Vals xs us→Vals ys ws→Vals (xs ++ ys) (us ++ ws)
  | _,_,_,_,.nil,s => s
  | _,_,_,_,.cons r t,s => .cons r (Vals.append t s)
theorem Vals.take : ∀ {xs : List V} {us : List Value} (n : Nat),Vals xs us→Vals (xs.take n) (us.take n)
  | _,_,0,_ => .nil
  | _,_,_ + 1,.nil => .nil
  | _,_,n + 1,.cons r t => .cons r (Vals.take n t)
theorem Vals.drop : ∀ {xs : List V} {us : List Value} (n : Nat),Vals xs us→Vals (xs.drop n) (us.drop n)
  | _,_,0,r => r
  | _,_,_ + 1,.nil => .nil
  | _,_,n + 1,.cons _ t => Vals.drop n t
def RelO : Option V→Option Value→Prop
  | some v,some u => RelV v u
  | none,none => True
  | _,_ => False
def KV {κ : Type} : List (κ×V)→List (κ×Value)→Prop:=Paired fun (p : κ×V) (q : κ×Value) => p.1 = q.1∧RelV p.2 q.2
def kV : Key→V
  | .inl i => .int i
  | .inr x => .str x
inductive HO where
  | lst (xs : List V)
  | tup (xs : List V)
  | dK (kvs : List (Key×V)) | dT (kvs : List (List Key×V))
  | set (S : Int→Bool) (n : Nat)
  | ins (C dx : Addr) (fs : List (Str×V))
  | own (x : Addr)
  | xd (fs : List (Str×V))
  | met (f x : Addr)
  | rng (lo hi : Int)
  | frz (o : Obj) (u : HO)
  | tbl (ps : Array Value)
  | ext (φ : Heap→Prop)
abbrev Hp:=Addr→Option HO
def upd (H : Hp) (a : Addr) (o : HO) : Hp:=fun b => if b = a then some o else H b
theorem upd_same {H : Hp} {a : Addr} {o : HO} : upd H a o a = some o := by unfold upd; rw [if_pos rfl]
theorem upd_ne {H : Hp} {a b : Addr} {o : HO} (h : b≠a) : upd H a o b = H b := by unfold upd; rw [if_neg h]
theorem ne_of_none {H : Hp} {a b : Addr} {o : HO} (h : H a = some o) (h' : H b = none) : a≠b := by
  intro e; subst e; rw [h] at h'; cases h'
section
variable (P : Program) (w : World)
def ObjOk (H : Hp) (h : Heap) (a : Addr) : HO→Prop
  | .lst xs => xs.length≤sizeLine∧∃ (its : List Value) (n : Nat),Vals xs its∧h.get? a = some { cls:=.type "list",data:=.seq its.toArray n }
  | .tup xs => xs.length≤sizeLine∧∃ its : List Value,Vals xs its∧IsTup h a its.toArray
  | .dK kvs => kvs.length≤sizeLine∧(a == sysModules) = false∧∃ vs,KV kvs vs∧h.DictOf (mixKind P w) a vs
  | .dT kvs => kvs.length≤sizeLine∧(a == sysModules) = false∧∃ xs : List (List Key×Addr×Value),
      Paired (fun (p : List Key×V) (q : List Key×Addr×Value) => p.1 = q.1∧H q.2.1 = some (.tup (p.1.map kV))∧RelV p.2 q.2.2) kvs xs ∧
      ∃ o es ep,h.get? a = some o∧o.ExactDict∧o.data = .dict es ep∧es.toList = xs.map (entryOfKey (tupleKind (mixKind P w)))∧(xs.map (·.1)).Nodup
  | .set S n => h.SetOf (intKind P w) a S n
  | .ins C dx fs => H dx = some (.own a)∧fs.length≤1000∧dx≠a∧h.get? a = some (PySem.W.instObj C dx) ∧
      ∃ mA,h.Ns1 dx mA∧(∀ f,RelO (fs.lookup f) (mA f))∧PySem.Within mA (fs.map (·.1))
  | .own _ => ∃ o,h.get? a = some o
  | .xd fs => ∃ mA,h.Ns1 a mA∧∀ f,RelO (fs.lookup f) (mA f)
  | .rng lo hi => ∃ t u v,h.get? a = some { cls:=.type "range",data:=.fields #[.int lo t,.int hi u,.int 1 v] }
  | .frz o u => h.get? a = some o∧ObjOk H h a u
  | .tbl ps => h.get? a = some { cls:=.none,data:=.fields ps }
  | .met f x => h.get? a = some (PySem.W.methodObj (.ref f) (.ref x))
  | .ext φ => φ h∧(∃ o,h.get? a = some o)∧∀ h1 h2 : Heap,φ h1→(∀ o,h1.get? a = some o→h2.get? a = some o)→φ h2
def HOk (H : Hp) (h : Heap) : Prop:=∀ a o,H a = some o→ObjOk P w H h a o
end
section
variable {P : Program} {w : World} {H H' : Hp} {h h' : Heap} {a : Addr} {o : HO}
theorem ObjOk.lt (x : ObjOk P w H h a o) : a < h.objs.size := by
  cases o with
  | lst xs => obtain ⟨_,_,_,_,e⟩:=x; exact Heap.lt_size e
  | tup xs => obtain ⟨_,_,_,p⟩:=x; exact p.lt
  | dK kvs => obtain ⟨_,_,_,_,o,_,_,e,_⟩:=x; exact Heap.lt_size e
  | dT kvs => obtain ⟨_,_,_,_,o,_,_,e,_⟩:=x; exact Heap.lt_size e
  | set S n => obtain ⟨o,_,_,_,e,_⟩:=x; exact Heap.lt_size e
  | ins C dx fs => obtain ⟨_,_,_,e,_⟩:=x; exact Heap.lt_size e
  | own y => obtain ⟨_,e⟩:=x; exact Heap.lt_size e
  | xd fs => obtain ⟨_,⟨_,_,_,e,_⟩,_⟩:=x; exact Heap.lt_size e
  | rng lo hi => obtain ⟨_,_,_,e⟩:=x; exact Heap.lt_size e
  | frz ob u => obtain ⟨e,_⟩:=x; exact Heap.lt_size e
  | tbl ps => exact Heap.lt_size (show h.get? a = some _ from x)
  | met f y => exact Heap.lt_size (show h.get? a = some _ from x)
  | ext φ => obtain ⟨_,⟨_,e⟩,_⟩:=x; exact Heap.lt_size e
theorem Paired.mapP {α β : Type} {F G : α→β→Prop} : ∀ {l₁ : List α} {l₂ : List β},Paired F l₁ l₂→(∀ a b,F a b→G a b)→Paired G l₁ l₂
  | _,_,.nil,_ => .nil
  | _,_,.cons r t,f => .cons (f _ _ r) (Paired.mapP t f)
theorem ObjOk.stay (x : ObjOk P w H h a o) (k : ∀ b u,(b = a∨H b = some (.own a))→h.get? b = some u→h'.get? b = some u)
    (ho : ∀ b,H b = some (.own a)→H' b = some (.own a)) (ht : ∀ b xs,H b = some (.tup xs)→H' b = some (.tup xs)) : ObjOk P w H' h' a o := by
  induction o with
  | lst xs => obtain ⟨z,its,n,r,e⟩:=x; exact ⟨z,its,n,r,k _ _ (.inl rfl) e⟩
  | tup xs => obtain ⟨z,its,r,ob,e,c⟩:=x; exact ⟨z,its,r,ob,k _ _ (.inl rfl) e,c⟩
  | dK kvs => obtain ⟨z,y,vs,r,ob,es,ep,e,c⟩:=x; exact ⟨z,y,vs,r,ob,es,ep,k _ _ (.inl rfl) e,c⟩
  | dT kvs =>
    obtain ⟨z,y,xs,r,ob,es,ep,e,c⟩:=x
    exact ⟨z,y,xs,Paired.mapP r fun p q z => ⟨z.1,ht _ _ z.2.1,z.2.2⟩,ob,es,ep,k _ _ (.inl rfl) e,c⟩
  | set S n => obtain ⟨ob,es,ep,t,e,c⟩:=x; exact ⟨ob,es,ep,t,k _ _ (.inl rfl) e,c⟩
  | ins C dx fs =>
    obtain ⟨d,z,ne,e,mA,⟨od,es,ep,e2,c⟩,r⟩:=x
    exact ⟨ho _ d,z,ne,k _ _ (.inl rfl) e,mA,⟨od,es,ep,k _ _ (.inr d) e2,c⟩,r⟩
  | own y => obtain ⟨ob,e⟩:=x; exact ⟨ob,k _ _ (.inl rfl) e⟩
  | xd fs => obtain ⟨mA,⟨od,es,ep,e,c⟩,r⟩:=x; exact ⟨mA,⟨od,es,ep,k _ _ (.inl rfl) e,c⟩,r⟩
  | rng lo hi => obtain ⟨t,u,v,e⟩:=x; exact ⟨t,u,v,k _ _ (.inl rfl) e⟩
  | frz ob u ih => obtain ⟨e,q⟩:=x; exact ⟨k _ _ (.inl rfl) e,ih q⟩
  | tbl ps =>
    have e : h.get? a = some { cls:=.none,data:=.fields ps }:=x
    show h'.get? a = some { cls:=.none,data:=.fields ps }
    exact k a _ (.inl rfl) e
  | met f y =>
    have e : h.get? a = some (PySem.W.methodObj (.ref f) (.ref y)):=x
    show h'.get? a = some (PySem.W.methodObj (.ref f) (.ref y))
    exact k a _ (.inl rfl) e
  | ext φ => obtain ⟨p,⟨o,e⟩,st⟩:=x; exact ⟨st _ _ p fun o q => k _ _ (.inl rfl) q,⟨o,k _ _ (.inl rfl) e⟩,st⟩
theorem HOk.lt (x : HOk P w H h) (e : H a = some o) : a < h.objs.size:=(x a o e).lt
theorem HOk.fresh (x : HOk P w H h) (e : h.objs.size≤a) : H a = none := by
  cases q : H a with
  | none => rfl
  | some u => exact absurd (Nat.lt_of_lt_of_le (x.lt q) e) (Nat.lt_irrefl _)
theorem HOk.kept (x : HOk P w H h) (k : ∀ b u,h.get? b = some u→h'.get? b = some u) : HOk P w H h':=fun a o e =>
  (x a o e).stay (fun b u _ q => k b u q) (fun _ q => q) fun _ _ q => q
theorem HOk.laid (x : HOk P w H h) (k : ∀ b u,h.get? b = some u→h'.get? b = some u) (hp : h.objs.size≤a) (new : ObjOk P w (upd H a o) h' a o) : HOk P w (upd H a o) h':=fun b u e => by
  have hn:=x.fresh hp
  by_cases hb : b = a
  · subst hb; rw [upd_same] at e; cases e; exact new
  · rw [upd_ne hb] at e
    exact (x b u e).stay (fun c v _ q => k c v q) (fun c q => by rw [upd_ne (ne_of_none q hn)]; exact q) fun c xs q => by rw [upd_ne (ne_of_none q hn)]; exact q
end
def Rd (H : Hp) (a : Addr) (u : HO) : Prop:=H a = some u∨∃ o,H a = some (.frz o u)
theorem Rd.ok {P : Program} {w : World} {H : Hp} {h : Heap} {a : Addr} {u : HO} (r : Rd H a u) (x : HOk P w H h) : ObjOk P w H h a u := by
  rcases r with r | ⟨o,r⟩
  · exact x a u r
  · obtain ⟨_,q⟩:=x a _ r
    exact q
def Mut : Option HO→Prop
  | some (.lst _) => True
  | some (.dK _) => True
  | some (.dT _) => True
  | some (.set _ _) => True
  | some (.ins _ _ _) => True
  | some (.ext _) => True
  | _ => False
section
variable {P : Program} {w : World} {H : Hp} {h h' : Heap} {x e : Addr} {o' : HO}
theorem HOk.write (ok : HOk P w H h) (mu : Mut (H x)) (he : e = x∨H e = some (.own x)) (k : ∀ b u,b≠e→h.get? b = some u→h'.get? b = some u) (heo : ∃ u,h'.get? e = some u)
    (new : ObjOk P w (upd H x o') h' x o') : HOk P w (upd H x o') h':=fun b u q => by
  have nown : ∀ c y,H c = some (.own y)→c≠x:=fun c y r z => by subst z; rw [r] at mu; exact mu
  have ntup : ∀ c xs,H c = some (.tup xs)→c≠x:=fun c xs r z => by subst z; rw [r] at mu; exact mu
  by_cases hb : b = x
  · subst hb; rw [upd_same] at q; cases q; exact new
  · rw [upd_ne hb] at q
    by_cases hbe : b = e
    · have q' : H b = some (.own x) := by
        rcases he with z | z
        · exact absurd (hbe.trans z) hb
        · rw [hbe]; exact z
      rw [q] at q'; cases q'
      obtain ⟨v,hv⟩:=heo
      exact ⟨v,by rw [hbe]; exact hv⟩
    · refine (ok b u q).stay (fun c v hc r => k c v ?_ r) (fun c r => by rw [upd_ne (nown c b r)]; exact r) fun c xs r => by rw [upd_ne (ntup c xs r)]; exact r
      rcases hc with rfl | hc
      · exact hbe
      · rintro rfl
        rcases he with z | z
        · exact nown c b hc z
        · rw [hc] at z; cases z; exact hb rfl
end
structure Un (fs ex : List Addr) (H H' : Hp) (h h' : Heap) : Prop where
  keep : ∀ b o,h.get? b = some o→H b = none→b ∉ fs→b ∉ ex→h'.get? b = some o
  slot : ∀ b o,h.get? b = some o→H b = none→b∈fs→b ∉ ex→∃ sl,h'.get? b = some { o with slots:=sl }
  free : ∀ b o,h.get? b = some o→H b = none→b ∉ ex→H' b = none
  there : ∀ b o,h.get? b = some o→b ∉ ex→∃ o',h'.get? b = some o'
  tups : ∀ b xs,H b = some (.tup xs)→H' b = some (.tup xs)
  frzs : ∀ b o u,H b = some (.frz o u)→H' b = some (.frz o u)
  tbls : ∀ b ps,H b = some (.tbl ps)→∃ more,H' b = some (.tbl (ps ++ more))
section
variable {fs fs' ex ex' : List Addr} {H H1 H2 : Hp} {h h1 h2 h' : Heap} {a x e : Addr} {o : HO}
theorem Un.any (u : Un fs ex H H1 h h1) {b : Addr} {ob : Obj} (q : h.get? b = some ob) (n : H b = none) (hx : b ∉ ex) : ∃ sl,h1.get? b = some { ob with slots:=sl } := by
  by_cases hb : b∈fs
  · exact u.slot b ob q n hb hx
  · exact ⟨ob.slots,u.keep b ob q n hb hx⟩
theorem Un.kept (k : ∀ b u,h.get? b = some u→h'.get? b = some u) : Un fs ex H H h h' :=
  ⟨fun b ob q _ _ _ => k b ob q,fun b ob q _ _ _ => ⟨ob.slots,k b ob q⟩,fun _ _ _ n _ => n,fun b ob q _ => ⟨ob,k b ob q⟩,fun _ _ q => q,fun _ _ _ q => q,fun _ ps q => ⟨#[],by rw [q]; simp⟩⟩
theorem Un.refl : Un fs ex H H h h:=Un.kept fun _ _ q => q
theorem Un.laid (k : ∀ b u,h.get? b = some u→h'.get? b = some u) (hp : h.objs.size≤a) (hn : H a = none) : Un fs ex H (upd H a o) h h' where
  keep:=fun b u q _ _ _ => k b u q
  slot:=fun b u q _ _ _ => ⟨u.slots,k b u q⟩
  free:=fun b u q n _ => by rw [upd_ne (Nat.ne_of_lt (Nat.lt_of_lt_of_le (Heap.lt_size q) hp))]; exact n
  there:=fun b u q _ => ⟨u,k b u q⟩
  tups:=fun b xs q => by rw [upd_ne (ne_of_none q hn)]; exact q
  frzs:=fun b u xs q => by rw [upd_ne (ne_of_none q hn)]; exact q
  tbls:=fun b ps q => ⟨#[],by rw [upd_ne (ne_of_none q hn),q]; simp⟩
theorem Un.write (mu : Mut (H x)) (he : e = x∨H e = some (.own x)) (k : ∀ b u,b≠e→h.get? b = some u→h'.get? b = some u) (heo : ∃ u,h'.get? e = some u) : Un fs ex H (upd H x o) h h' := by
  have hx : ∀ b,H b = none→b≠x:=fun b n z => by subst z; rw [n] at mu; exact mu
  have hb : ∀ b,H b = none→b≠e:=fun b n z => by
    subst z
    rcases he with r | r
    · exact hx b n r
    · rw [n] at r; cases r
  have hm : ∀ b u,H b = some u→¬ Mut (some u)→b≠x:=fun b u q nm z => by subst z; rw [q] at mu; exact nm mu
  refine ⟨fun b u q n _ _ => k b u (hb b n) q,fun b u q n _ _ => ⟨u.slots,k b u (hb b n) q⟩,fun b u q n _ => by rw [upd_ne (hx b n)]; exact n,fun b u q _ => ?_,
    fun b xs q => by rw [upd_ne (hm b _ q fun z => z)]; exact q,fun b u xs q => by rw [upd_ne (hm b _ q fun z => z)]; exact q,fun b ps q => ⟨#[],by rw [upd_ne (hm b _ q fun z => z),q]; simp⟩⟩
  by_cases hbe : b = e
  · subst hbe; exact heo
  · exact ⟨u,k b u hbe q⟩
end
def trk (h : Heap) (H : Hp) : List Addr:=(List.range h.objs.size).filter fun a => (H a).isSome
def hidT (h : Heap) (H : Hp) : Heap:=PySem.W.hideAll h (trk h H)
theorem hidT_size (h : Heap) (H : Hp) : (hidT h H).objs.size = h.objs.size:=PySem.W.hideAll_size _ _
theorem hidT_get {h : Heap} {H : Hp} {b : Addr} {o : Obj} (e : h.get? b = some o) (n : H b = none) : (hidT h H).get? b = some o :=
  PySem.W.hideAll_get _ e fun hm => by
    have q : (H b).isSome = true:=(List.mem_filter.mp hm).2
    rw [n] at q; simp at q
theorem of_hidT {h : Heap} {H : Hp} {b : Addr} {o : Obj} (e : (hidT h H).get? b = some o) : h.get? b = some o∧H b = none := by
  have e' : h.get? b = some o:=PySem.W.of_hideAll (trk h H) e
  refine ⟨e',?_⟩
  cases q : H b with
  | none => rfl
  | some x =>
    have hm : b∈trk h H:=List.mem_filter.mpr ⟨List.mem_range.mpr (Heap.lt_size e'),by simp [q]⟩
    have z : (hidT h H).get? b = none:=PySem.W.hideAll_none (trk h H) hm
    rw [z] at e; cases e
structure Mod (K : PySem.W.Frag) (mg : Str→Option Value) (base : Heap) : Prop where
  kin : K.In base
  glob : base.Ns mainGlobals mg
  blt : ∃ mb,base.Ns builtinsNs mb∧∀ x : Str,x ≠ "__name__" → mb x = bootBuiltins x
  nolimit : base.NoLimit
structure Cx where
  prog : Program
  w : World
  K : PySem.W.Frag
  mg : Str→Option Value
  base : Heap
  A : Around
  N : List Str
  s₀ : Shared
  H₀ : Hp
  env : Env
  outer : List Env
  stack : List Env
  ex : List Addr
  fn : Str→Bool
  calm : Bool
  pn : List (Addr×Obj)
  xe : Value→Shared→Prop
def frs (l : List Env) : List Addr:=l.filterMap (·.frame)
abbrev Cx.fs (X : Cx) : List Addr:=frs X.outer
def Vis (sc : Scope) (x : Str) : Prop:=sc.names.lookup x = some .local∨sc.names.lookup x = some .cell∨sc.names.lookup x = some .free
def Loc (sc : Scope) (x : Str) : Prop:=sc.names.lookup x = some .local∨sc.names.lookup x = some .cell
def Look (env : Env) (h : Heap) (m : Str→Option Value) (x : Str) (u : Value) : Prop :=
  (env.kindOf x = some .local∧m x = some u)∨((env.kindOf x = some .cell∨env.kindOf x = some .free)∧∃ c,env.cells.lookup x = some c∧h.IsCell c (some u))
structure Cx.Ok (X : Cx) : Prop where
  mod : Mod X.K X.mg X.base
  kind : X.env.scope.kind = .function
  glob : X.env.globals = mainGlobals
  blt : X.env.builtins = builtinsNs
  above : X.s₀.heap.objs.size≤X.env.locals
  inj : ∀ x y c,X.env.cells.lookup x = some c→X.env.cells.lookup y = some c→x = y
  has : ∀ x,(X.env.kindOf x = some .cell∨X.env.kindOf x = some .free)→∃ c,X.env.cells.lookup x = some c
  cab : ∀ x c,X.fn x = true→X.env.cells.lookup x = some c→X.s₀.heap.objs.size≤c
  hd : X.calm = true→X.A.handled = none
  frames : X.A.frames = some X.stack
  stk : X.stack = X.outer∨(X.stack = X.env :: X.outer∧X.env.frame = some X.env.locals)
  exf : ∀ b∈X.ex,b≠X.env.locals∧∀ x c,X.env.cells.lookup x = some c→c≠b
  bs : ∀ b o,X.base.get? b = some o→X.s₀.heap.get? b = some o∧X.H₀ b = none
  bsz : X.base.objs.size≤X.s₀.heap.objs.size
  noex : ∀ b o,X.base.get? b = some o→b ∉ X.ex
  exfs : ∀ b∈X.ex,b ∉ X.fs
  funs : X.s₀.heap.FunFrames X.base X.outer
  frf : ∀ b∈X.fs,X.H₀ b = none
structure Inv (X : Cx) (pins : List (Addr×Obj)) (σ : List (Option V)) (H : Hp) (s : Shared) : Prop where
  ok : X.Ok
  os : s.os = X.s₀.os
  bare : AllBare s.gens
  base : Un X.fs X.ex X.H₀ H X.s₀.heap s.heap
  loc : ∃ m,s.heap.Ns X.env.locals m∧∀ (i : Nat) (x : Str) (v : V),X.N[i]? = some x→σ[i]? = some (some v)→Vis X.env.scope x→∃ u,RelV v u∧Look X.env s.heap m x u
  cell : ∀ x c,X.env.cells.lookup x = some c→∃ v,s.heap.IsCell c v
  free : H X.env.locals = none
  freeC : ∀ x c,X.env.cells.lookup x = some c→H c = none
  pin : ∀ p∈X.pn ++ pins,s.heap.get? p.1 = some p.2∧H p.1 = none∧p.1≠X.env.locals∧p.1 ∉ X.fs∧∀ v,p.2.data≠.cell v
  hok : HOk X.prog X.w H s.heap
  len : σ.length = X.N.length
section
variable {X : Cx} {pins : List (Addr×Obj)} {σ : List (Option V)} {H H' : Hp} {s : Shared} {h' : Heap}
theorem Cx.Ok.nofr (ok : X.Ok) {b : Addr} {o : Obj} (e : X.base.get? b = some o) : b ∉ X.fs:=fun hb => by
  have:=(ok.funs.mem hb).1
  rw [e] at this; cases this
theorem Inv.bs (I : Inv X pins σ H s) : ∀ b o,X.base.get? b = some o→s.heap.get? b = some o∧H b = none:=fun b o e =>
  ⟨I.base.keep b o (I.ok.bs b o e).1 (I.ok.bs b o e).2 (I.ok.nofr e) (I.ok.noex b o e),I.base.free b o (I.ok.bs b o e).1 (I.ok.bs b o e).2 (I.ok.noex b o e)⟩
theorem Inv.bk (I : Inv X pins σ H s) : ∀ b o,X.base.get? b = some o→s.heap.get? b = some o:=fun b o e => (I.bs b o e).1
theorem Inv.mod (I : Inv X pins σ H s) : Mod X.K X.mg X.base:=I.ok.mod
theorem Inv.kIn (I : Inv X pins σ H s) : X.K.In s.heap:=I.ok.mod.kin.keeps I.bk
theorem Inv.lt (I : Inv X pins σ H s) : X.env.locals < s.heap.objs.size:=let ⟨_,hn,_⟩:=I.loc; hn.lt
theorem Inv.sz (I : Inv X pins σ H s) : X.s₀.heap.objs.size≤s.heap.objs.size:=Nat.le_trans I.ok.above (Nat.le_of_lt I.lt)
theorem Inv.nofs (I : Inv X pins σ H s) {a : Addr} (h : s.heap.objs.size≤a) : a ∉ X.fs:=fun hb => by
  obtain ⟨_,o,ho,_⟩:=I.ok.funs.mem hb
  exact absurd (Nat.lt_of_lt_of_le (Heap.lt_size ho) (Nat.le_trans I.sz h)) (Nat.lt_irrefl _)
theorem Inv.cne (I : Inv X pins σ H s) : ∀ x c,X.env.cells.lookup x = some c→c≠X.env.locals:=fun x c e z => by
  obtain ⟨v,o,ho,hd⟩:=I.cell x c e
  obtain ⟨m,⟨o',es,ep,ho',hd',_⟩,_⟩:=I.loc
  rw [z,ho'] at ho; cases ho; rw [hd'] at hd; cases hd
theorem Inv.funs (I : Inv X pins σ H s) : s.heap.FunFrames X.base X.outer := by
  have all : ∀ (l : List Env),(∀ b∈frs l,b∈X.fs)→X.s₀.heap.FunFrames X.base l→s.heap.FunFrames X.base l := by
    intro l
    induction l with
    | nil => intro _ _; trivial
    | cons env r ih =>
      intro hs hl
      obtain ⟨hk,⟨L,o,hf,hn,ho,hd⟩,hr⟩:=hl
      have hL : L∈X.fs:=hs L (by unfold frs; rw [List.filterMap_cons,hf]; exact List.mem_cons_self)
      obtain ⟨sl,e⟩:=I.base.slot L o ho (I.ok.frf L hL) hL fun z => I.ok.exfs L z hL
      exact ⟨hk,⟨L,_,hf,hn,e,hd⟩,ih (fun b hb => hs b (by unfold frs; rw [List.filterMap_cons,hf]; exact List.mem_cons_of_mem _ hb)) hr⟩
  exact all X.outer (fun _ hb => hb) I.ok.funs
theorem Inv.stack (I : Inv X pins σ H s) : s.heap.FunFrames X.base X.stack := by
  rcases I.ok.stk with e | ⟨e,hf⟩
  · rw [e]; exact I.funs
  · rw [e]
    obtain ⟨m,hn,_⟩:=I.loc
    refine .cons (by rw [I.ok.kind]; decide) hf hn ?_ I.funs
    exact Heap.get?_none_of_le (Nat.le_trans I.ok.bsz I.ok.above)
theorem Inv.stkSub (I : Inv X pins σ H s) : ∀ b∈frs X.stack,b∈X.env.locals :: X.fs:=fun b hb => by
  rcases I.ok.stk with e | ⟨e,hf⟩
  · rw [e] at hb; exact List.mem_cons_of_mem _ hb
  · rw [e] at hb
    unfold frs at hb
    rw [List.filterMap_cons,hf] at hb
    exact hb
theorem Inv.stkFree (I : Inv X pins σ H s) : ∀ b∈frs X.stack,H b = none:=fun b hb => by
  rcases List.mem_cons.mp (I.stkSub b hb) with e | hb
  · rw [e]; exact I.free
  · obtain ⟨_,o,ho,_⟩:=I.ok.funs.mem hb
    exact I.base.free b o ho (I.ok.frf b hb) fun z => I.ok.exfs b z hb
theorem Inv.step {g' : Array GenState} {t' : Nat} {d' : Drawn} {ch : List Addr} (I : Inv X pins σ H s)
    (hch : ∀ b∈ch,(b∈X.ex∨X.s₀.heap.objs.size≤b)∧b≠X.env.locals∧(∀ x c,X.env.cells.lookup x = some c→c≠b)∧∀ p∈X.pn ++ pins,p.1≠b)
    (keep : ∀ b o,b≠X.env.locals→b ∉ X.fs→b ∉ ch→s.heap.get? b = some o→H b = none→h'.get? b = some o)
    (slot : ∀ b o,b≠X.env.locals→b∈X.fs→b ∉ ch→s.heap.get? b = some o→H b = none→∃ sl,h'.get? b = some { o with slots:=sl }) (free : ∀ b o,b ∉ ch→s.heap.get? b = some o→H b = none→H' b = none)
    (there : ∀ b o,b ∉ ch→s.heap.get? b = some o→∃ o',h'.get? b = some o')
    (tups : ∀ b xs,H b = some (.tup xs)→H' b = some (.tup xs)) (frzs : ∀ b o u,H b = some (.frz o u)→H' b = some (.frz o u)) (tbls : ∀ b ps,H b = some (.tbl ps)→∃ more,H' b = some (.tbl (ps ++ more)))
    (ns : ∀ m,s.heap.Ns X.env.locals m→h'.Ns X.env.locals m) (hok : HOk X.prog X.w H' h') (hg : AllBare g') :
    Inv X pins σ H' { s with heap:=h',gens:=g',drawn:=d',toks:=t' } := by
  have neL : ∀ b o,X.s₀.heap.get? b = some o→b≠X.env.locals:=fun b o e => Nat.ne_of_lt (Nat.lt_of_lt_of_le (Heap.lt_size e) I.ok.above)
  have neC : ∀ b o,X.s₀.heap.get? b = some o→b ∉ X.ex→b ∉ ch:=fun b o e hx hb => by
    rcases (hch b hb).1 with z | z
    · exact hx z
    · exact absurd (Nat.lt_of_lt_of_le (Heap.lt_size e) z) (Nat.lt_irrefl _)
  have cellK : ∀ x c,X.env.cells.lookup x = some c→∀ v,s.heap.IsCell c v→h'.IsCell c v:=fun x c e v ⟨o,ho,hd⟩ => by
    have nch : c ∉ ch:=fun z => (hch c z).2.2.1 x c e rfl
    by_cases hc : c∈X.fs
    · obtain ⟨sl,q⟩:=slot c o (I.cne x c e) hc nch ho (I.freeC x c e)
      exact ⟨_,q,hd⟩
    · exact ⟨o,keep c o (I.cne x c e) hc nch ho (I.freeC x c e),hd⟩
  refine ⟨I.ok,I.os,hg,⟨fun b o e n hb hx => ?_,fun b o e n hb hx => ?_,fun b o e n hx => ?_,fun b o e hx => ?_,fun b xs e => tups b xs (I.base.tups b xs e),fun b o xs e => frzs b o xs (I.base.frzs b o xs e),fun b ps e => ?_⟩,?_,fun x c e => ?_,?_,fun x c e => ?_,fun p hp => ?_,hok,I.len⟩
  · exact keep b o (neL b o e) hb (neC b o e hx) (I.base.keep b o e n hb hx) (I.base.free b o e n hx)
  · obtain ⟨sl,e1⟩:=I.base.slot b o e n hb hx
    obtain ⟨sl',e2⟩:=slot b _ (neL b o e) hb (neC b o e hx) e1 (I.base.free b o e n hx)
    exact ⟨sl',e2⟩
  · obtain ⟨o',e1⟩:=I.base.there b o e hx
    exact free b o' (neC b o e hx) e1 (I.base.free b o e n hx)
  · obtain ⟨o',e1⟩:=I.base.there b o e hx
    exact there b o' (neC b o e hx) e1
  · obtain ⟨m1,e1⟩:=I.base.tbls b ps e
    obtain ⟨m2,e2⟩:=tbls b _ e1
    exact ⟨m1 ++ m2,by rw [e2,Array.append_assoc]⟩
  · obtain ⟨m,hn,hl⟩:=I.loc
    refine ⟨m,ns m hn,fun i x v e1 e2 e3 => ?_⟩
    obtain ⟨u,r,l⟩:=hl i x v e1 e2 e3
    refine ⟨u,r,?_⟩
    rcases l with l | ⟨k,c,e,z⟩
    · exact .inl l
    · exact .inr ⟨k,c,e,cellK x c e _ z⟩
  · obtain ⟨v,z⟩:=I.cell x c e
    exact ⟨v,cellK x c e v z⟩
  · obtain ⟨m,⟨o,_,_,ho,_⟩,_⟩:=I.loc
    exact free _ o (fun z => (hch _ z).2.1 rfl) ho I.free
  · obtain ⟨v,o,ho,hd⟩:=I.cell x c e
    exact free c o (fun z => (hch c z).2.2.1 x c e rfl) ho (I.freeC x c e)
  · obtain ⟨e,n,ne,nf,d⟩:=I.pin p hp
    have nch : p.1 ∉ ch:=fun z => (hch p.1 z).2.2.2 p hp rfl
    exact ⟨keep p.1 p.2 ne nf nch e n,free p.1 p.2 nch e n,ne,nf,d⟩
theorem Inv.un {t' : Nat} (I : Inv X pins σ H s) (u : Un X.fs [] H H' s.heap h') (hok : HOk X.prog X.w H' h') : Inv X pins σ H' { s with heap:=h',toks:=t' } := by
  obtain ⟨m,⟨o,es,ep,ho,r⟩,_⟩:=id I.loc
  obtain ⟨sl,hL⟩:=u.any ho I.free (by simp)
  exact I.step (g':=s.gens) (d':=s.drawn) (ch:=[]) (fun _ z => nomatch z) (fun b o _ hb _ e n => u.keep b o e n hb (by simp)) (fun b o _ hb _ e n => u.slot b o e n hb (by simp)) (fun b o _ e n => u.free b o e n (by simp)) (fun b o _ e => u.there b o e (by simp)) u.tups u.frzs u.tbls (fun m' hm => by
    obtain ⟨o',es',ep',ho',r'⟩:=hm
    rw [ho] at ho'; cases ho'
    exact ⟨_,es',ep',hL,r'⟩) hok I.bare
theorem Inv.call {g' : Array GenState} {t' : Nat} {d' : Drawn} {ch : List Addr} (I : Inv X pins σ H s) (u : Un (frs X.stack) ch H H' s.heap h') (hok : HOk X.prog X.w H' h') (hg : AllBare g')
    (hch : ∀ b∈ch,(b∈X.ex∨X.s₀.heap.objs.size≤b)∧b≠X.env.locals∧(∀ x c,X.env.cells.lookup x = some c→c≠b)∧∀ p∈X.pn ++ pins,p.1≠b) :
    Inv X pins σ H' { s with heap:=h',gens:=g',drawn:=d',toks:=t' } := by
  obtain ⟨m,⟨o,es,ep,ho,r⟩,_⟩:=id I.loc
  obtain ⟨sl,hL⟩:=u.any ho I.free fun z => (hch _ z).2.1 rfl
  exact I.step (ch:=ch) hch (fun b o hL hb hc e n => u.keep b o e n (fun z => (List.mem_cons.mp (I.stkSub b z)).elim hL hb) hc) (fun b o _ _ hc e n => u.any e n hc) (fun b o hc e n => u.free b o e n hc) (fun b o hc e => u.there b o e hc) u.tups u.frzs u.tbls (fun m' hm => by
    obtain ⟨o',es',ep',ho',r'⟩:=hm
    rw [ho] at ho'; cases ho'
    exact ⟨_,es',ep',hL,r'⟩) hok hg
theorem Inv.turned {t' : Nat} {it : Addr} (I : Inv X pins σ H s) (k : ∀ b o,b≠it→s.heap.get? b = some o→h'.get? b = some o) (hn : H it = none) (hL : it≠X.env.locals)
    (h1 : it∈X.ex∨X.s₀.heap.objs.size≤it) (h2 : ∀ x c,X.env.cells.lookup x = some c→c≠it) (h3 : ∀ p∈X.pn ++ pins,p.1≠it) : Inv X pins σ H { s with heap:=h',toks:=t' } := by
  have nit : ∀ b u,H b = some u→b≠it:=fun b u e z => by rw [z,hn] at e; cases e
  refine I.step (g':=s.gens) (d':=s.drawn) (ch:=[it]) (fun b hb => ?_) (fun b o _ _ hc e _ => k b o (fun z => hc (by simp [z])) e) (fun b o _ _ hc e _ => ⟨o.slots,k b o (fun z => hc (by simp [z])) e⟩) (fun _ _ _ _ n => n)
    (fun b o hc e => ⟨o,k b o (fun z => hc (by simp [z])) e⟩) (fun _ _ e => e) (fun _ _ _ e => e) (fun b ps e => ⟨#[],by rw [e]; simp⟩) (fun m hm => ?_) (fun b u e => ?_) I.bare
  · have e : b = it := by simpa using hb
    subst e
    exact ⟨h1,hL,h2,h3⟩
  · obtain ⟨o,es,ep,ho,r⟩:=hm
    exact ⟨o,es,ep,k _ o (Ne.symm hL) ho,r⟩
  · refine (I.hok b u e).stay (fun c v hc q => k c v ?_ q) (fun _ q => q) fun _ _ q => q
    rcases hc with z | z
    · rw [z]; exact nit b u e
    · exact nit c _ z
theorem Inv.tok (I : Inv X pins σ H s) (t : Nat) : Inv X pins σ H { s with toks:=t }:=I.un (h':=s.heap) (t':=t) Un.refl I.hok
theorem Inv.kept {t' : Nat} (I : Inv X pins σ H s) (k : ∀ b u,s.heap.get? b = some u→h'.get? b = some u) : Inv X pins σ H { s with heap:=h',toks:=t' }:=I.un (Un.kept k) (I.hok.kept k)
theorem Inv.laid {a : Addr} {o : HO} {t' : Nat} (I : Inv X pins σ H s) (k : ∀ b u,s.heap.get? b = some u→h'.get? b = some u) (hp : s.heap.objs.size≤a) (new : ObjOk X.prog X.w (upd H a o) h' a o) :
    Inv X pins σ (upd H a o) { s with heap:=h',toks:=t' }:=I.un (Un.laid k hp (I.hok.fresh hp)) (I.hok.laid k hp new)
theorem Inv.write {x e : Addr} {o : HO} {t' : Nat} (I : Inv X pins σ H s) (mu : Mut (H x)) (he : e = x∨H e = some (.own x)) (k : ∀ b u,b≠e→s.heap.get? b = some u→h'.get? b = some u) (heo : ∃ u,h'.get? e = some u)
    (new : ObjOk X.prog X.w (upd H x o) h' x o) : Inv X pins σ (upd H x o) { s with heap:=h',toks:=t' }:=I.un (Un.write mu he k heo) (I.hok.write mu he k heo new)
theorem Inv.pins_of {pins' : List (Addr×Obj)} (I : Inv X pins σ H s) (h : ∀ p∈pins',s.heap.get? p.1 = some p.2∧H p.1 = none∧p.1≠X.env.locals∧p.1 ∉ X.fs∧∀ v,p.2.data≠.cell v) : Inv X pins' σ H s :=
  ⟨I.ok,I.os,I.bare,I.base,I.loc,I.cell,I.free,I.freeC,fun p hp => (List.mem_append.mp hp).elim (fun z => I.pin p (List.mem_append_left _ z)) (h p),I.hok,I.len⟩
theorem nodup_ix {N : List Str} (hN : N.Nodup) {i j : Nat} {x : Str} (a : N[i]? = some x) (b : N[j]? = some x) : i = j := by
  obtain ⟨h1,e1⟩:=List.getElem?_eq_some_iff.mp a
  obtain ⟨h2,e2⟩:=List.getElem?_eq_some_iff.mp b
  exact (List.getElem_inj hN).mp (e1.trans e2.symm)
theorem store_ok2 {M : Model} {A : Around} {E : Value→Shared→Prop} {i : Nat} {x : Str} {v : V} {u : Value} {Q : Unit→Shared→Prop} (I : Inv X pins σ H s) (hN : X.N.Nodup) (hi : X.N[i]? = some x) (hx : Loc X.env.scope x) (r : RelV v u)
    (h : ∀ s',Inv X pins (σ.set i (some v)) H s'→(∃ a,Heap.SameBut a s.heap s'.heap∧(a = X.env.locals∨X.env.cells.lookup x = some a))→Q () s') (hf : X.fn x = true∨X.env.scope.names.lookup x = some .local := by first | exact .inl rfl | exact .inr rfl | assumption) : wpAny M A (storeName X.env x u) Q E s := by
  obtain ⟨m,hn,hl⟩:=id I.loc
  have hcls : (X.env.scope.kind == .class || (X.env.scope.kind == .module && X.env.locals != X.env.globals)) = false := by rw [I.ok.kind]; rfl
  have hiσ : i < σ.length := by rw [I.len]; exact (List.getElem?_eq_some_iff.mp hi).1
  have cne:=I.cne
  have tracked : ∀ {a : Addr} {h' : Heap},(∃ o,s.heap.get? a = some o∧H a = none)→Heap.SameBut a s.heap h'→HOk X.prog X.w H h':=fun {a h'} ha hs b ob e => by
    obtain ⟨_,_,hfree⟩:=ha
    refine (I.hok b ob e).stay (fun c w' hc q => (hs.2 c ?_).trans q) (fun _ q => q) fun _ _ q => q
    rintro rfl
    rcases hc with rfl | hc
    · rw [hfree] at e; cases e
    · rw [hfree] at hc; cases hc
  rcases hx with hk | hk
  · refine wpAny_storeName_local hk hn (fun h' hn' hs => ?_) hcls
    obtain ⟨oL,_,_,hoL,_⟩:=id hn
    refine h _ ⟨I.ok,I.os,I.bare,⟨fun b o e n hb hx => ?_,fun b o e n hb hx => ?_,I.base.free,fun b o e hx => ?_,I.base.tups,I.base.frzs,I.base.tbls⟩,⟨_,hn',fun j y v' e1 e2 e3 => ?_⟩,fun y c e => ?_,I.free,I.freeC,fun p hp => ?_,tracked ⟨oL,hoL,I.free⟩ hs,by simpa using I.len⟩ ⟨_,hs,.inl rfl⟩
    · exact (hs.2 b (Nat.ne_of_lt (Nat.lt_of_lt_of_le (Heap.lt_size e) I.ok.above))).trans (I.base.keep b o e n hb hx)
    · obtain ⟨sl,e1⟩:=I.base.slot b o e n hb hx
      exact ⟨sl,(hs.2 b (Nat.ne_of_lt (Nat.lt_of_lt_of_le (Heap.lt_size e) I.ok.above))).trans e1⟩
    · obtain ⟨o',e1⟩:=I.base.there b o e hx
      exact ⟨o',(hs.2 b (Nat.ne_of_lt (Nat.lt_of_lt_of_le (Heap.lt_size e) I.ok.above))).trans e1⟩
    · by_cases hj : j = i
      · subst hj
        rw [hi] at e1; cases e1
        rw [List.getElem?_set_self hiσ] at e2
        cases e2
        exact ⟨u,r,.inl ⟨hk,by simp⟩⟩
      · rw [List.getElem?_set_ne (Ne.symm hj)] at e2
        obtain ⟨u',r',q⟩:=hl j y v' e1 e2 e3
        refine ⟨u',r',?_⟩
        rcases q with ⟨k,e⟩ | ⟨k,c,e,z⟩
        · refine .inl ⟨k,?_⟩
          have : y≠x:=fun e => hj (nodup_ix hN e1 (e ▸ hi))
          simp [this,e]
        · exact .inr ⟨k,c,e,z.sameBut hs (cne y c e)⟩
    · obtain ⟨w',z⟩:=I.cell y c e
      exact ⟨w',z.sameBut hs (cne y c e)⟩
    · obtain ⟨e,n,ne,nf,d⟩:=I.pin p hp
      exact ⟨(hs.2 p.1 ne).trans e,n,ne,nf,d⟩
  · have hfn : X.fn x = true := by
      rcases hf with z | z
      · exact z
      · rw [z] at hk; cases hk
    obtain ⟨c,hc⟩:=I.ok.has x (.inl hk)
    obtain ⟨w',z⟩:=I.cell x c hc
    refine wpAny_storeName_cell I.ok.kind hk hc z (fun h' hc' hs => ?_)
    obtain ⟨oc,hoc,hocd⟩:=id z
    refine h { s with heap:=h' } ⟨I.ok,I.os,I.bare,⟨fun b o e n hb hx => ?_,fun b o e n hb hx => ?_,I.base.free,fun b o e hx => ?_,I.base.tups,I.base.frzs,I.base.tbls⟩,⟨m,hn.sameBut hs (Ne.symm (cne x c hc)),fun j y v' e1 e2 e3 => ?_⟩,fun y c' e => ?_,I.free,I.freeC,fun p hp => ?_,tracked ⟨oc,hoc,I.freeC x c hc⟩ hs,by simpa using I.len⟩ ⟨c,hs,.inr hc⟩
    · exact (hs.2 b (Nat.ne_of_lt (Nat.lt_of_lt_of_le (Heap.lt_size e) (I.ok.cab x c hfn hc)))).trans (I.base.keep b o e n hb hx)
    · obtain ⟨sl,e1⟩:=I.base.slot b o e n hb hx
      exact ⟨sl,(hs.2 b (Nat.ne_of_lt (Nat.lt_of_lt_of_le (Heap.lt_size e) (I.ok.cab x c hfn hc)))).trans e1⟩
    · obtain ⟨o',e1⟩:=I.base.there b o e hx
      exact ⟨o',(hs.2 b (Nat.ne_of_lt (Nat.lt_of_lt_of_le (Heap.lt_size e) (I.ok.cab x c hfn hc)))).trans e1⟩
    · by_cases hj : j = i
      · subst hj
        rw [hi] at e1; cases e1
        rw [List.getElem?_set_self hiσ] at e2
        cases e2
        exact ⟨u,r,.inr ⟨.inl hk,c,hc,hc'⟩⟩
      · rw [List.getElem?_set_ne (Ne.symm hj)] at e2
        obtain ⟨u',r',q⟩:=hl j y v' e1 e2 e3
        refine ⟨u',r',?_⟩
        rcases q with q | ⟨k,c',e,z'⟩
        · exact .inl q
        · refine .inr ⟨k,c',e,z'.sameBut hs ?_⟩
          rintro rfl
          exact hj (nodup_ix hN e1 (I.ok.inj _ _ _ e hc ▸ hi))
    · by_cases hcc : c' = c
      · subst hcc; exact ⟨_,hc'⟩
      · obtain ⟨w2,z2⟩:=I.cell y c' e
        exact ⟨w2,z2.sameBut hs hcc⟩
    · obtain ⟨e,n,ne,nf,d⟩:=I.pin p hp
      refine ⟨(hs.2 p.1 ?_).trans e,n,ne,nf,d⟩
      intro q
      rw [q,hoc] at e
      have q' : oc = p.2:=Option.some.inj e
      exact d w' (by rw [← q']; exact hocd)
theorem store_ok {M : Model} {A : Around} {E : Value→Shared→Prop} {i : Nat} {x : Str} {v : V} {u : Value} {Q : Unit→Shared→Prop} (I : Inv X pins σ H s) (hN : X.N.Nodup) (hi : X.N[i]? = some x) (hx : Loc X.env.scope x) (r : RelV v u)
    (h : ∀ s',Inv X pins (σ.set i (some v)) H s'→Q () s') (hf : X.fn x = true∨X.env.scope.names.lookup x = some .local := by first | exact .inl rfl | exact .inr rfl | assumption) : wpAny M A (storeName X.env x u) Q E s :=
  store_ok2 I hN hi hx r (fun s' I' _ => h s' I') hf
theorem Inv.call' {s' : Shared} {ch : List Addr} (I : Inv X pins σ H s) (ho : s'.os = s.os) (u : Un (frs X.stack) ch H H' s.heap s'.heap) (hok : HOk X.prog X.w H' s'.heap) (hg : AllBare s'.gens)
    (hch : ∀ b∈ch,(b∈X.ex∨X.s₀.heap.objs.size≤b)∧b≠X.env.locals∧(∀ x c,X.env.cells.lookup x = some c→c≠b)∧∀ p∈X.pn ++ pins,p.1≠b) : Inv X pins σ H' s' := by
  obtain ⟨h',g',d',t',o'⟩:=s'
  have e : o' = s.os:=ho
  subst e
  exact I.call (g':=g') (t':=t') (d':=d') u hok hg hch
end
abbrev XK:=Value→Option Addr→Hp→Prop
abbrev St:=List (Option V)
abbrev VK:=V→Hp→Prop
abbrev TE:=St→Hp→VK→Prop
abbrev TT:=St→Hp→(Bool→Hp→Prop)→Prop
abbrev TA:=St→Hp→(List V→Hp→Prop)→Prop
structure Ends where
  nx : St→Hp→Prop
  rt : VK
  bk : St→Hp→Prop:=fun _ _ => False
  ct : St→Hp→Prop:=fun _ _ => False
abbrev TS:=Ends→St→Hp→Prop
def EP (X : Cx) (pins : List (Addr×Obj)) (σ : St) (Q : VK) (u : Value) (s' : Shared) : Prop:=∃ v H',Inv X pins σ H' s'∧RelV v u∧Q v H'
def TP (X : Cx) (pins : List (Addr×Obj)) (σ : St) (Q : Bool→Hp→Prop) (b : Bool) (s' : Shared) : Prop:=∃ H',Inv X pins σ H' s'∧Q b H'
def AP (X : Cx) (pins : List (Addr×Obj)) (σ : St) (Q : List V→Hp→Prop) (us : List Value) (s' : Shared) : Prop:=∃ vs H',Inv X pins σ H' s'∧Vals vs us∧Q vs H'
def SP (X : Cx) (pins : List (Addr×Obj)) (D : Ends) (f : Flow) (s' : Shared) : Prop :=
  match f with
  | .next => ∃ σ' H',Inv X pins σ' H' s'∧D.nx σ' H'
  | .brk => ∃ σ' H',Inv X pins σ' H' s'∧D.bk σ' H'
  | .cont => ∃ σ' H',Inv X pins σ' H' s'∧D.ct σ' H'
  | .ret u => ∃ v σ' H',Inv X pins σ' H' s'∧RelV v u∧D.rt v H'
def PE (X : Cx) (e : Expr) (t : TE) : Prop :=
  ∀ (pins : List (Addr×Obj)) (s : Shared) (σ : St) (H : Hp) (Q : VK),Inv X pins σ H s→t σ H Q→wpAny (model X.prog X.w) X.A (eval e X.env) (EP X pins σ Q) X.xe s
def PT (X : Cx) (e : Expr) (t : TT) : Prop :=
  ∀ (pins : List (Addr×Obj)) (s : Shared) (σ : St) (H : Hp) (Q : Bool→Hp→Prop),Inv X pins σ H s→t σ H Q→wpAny (model X.prog X.w) X.A (isTrue e X.env (eval e X.env)) (TP X pins σ Q) X.xe s
def PW (X : Cx) (e : Expr) (t : TT) : Prop :=
  ∀ (whole : Sem Value) (pins : List (Addr×Obj)) (s : Shared) (σ : St) (H : Hp) (Q : Bool→Hp→Prop),Inv X pins σ H s→t σ H Q→wpAny (model X.prog X.w) X.A (isTrue e X.env whole) (TP X pins σ Q) X.xe s
theorem PW.pt {X : Cx} {e : Expr} {t : TT} (h : PW X e t) : PT X e t:=h _
def PA (X : Cx) (es : List Expr) (t : TA) : Prop :=
  ∀ (pos : Pos) (pins : List (Addr×Obj)) (s : Shared) (σ : St) (H : Hp) (Q : List V→Hp→Prop),Inv X pins σ H s→t σ H Q→wpAny (model X.prog X.w) X.A (spliced (backTo pos (starEach es X.env))) (AP X pins σ Q) X.xe s
def PS (X : Cx) (st : Stmt) (t : TS) : Prop :=
  ∀ (pins : List (Addr×Obj)) (s : Shared) (σ : St) (H : Hp) (D : Ends),Inv X pins σ H s→t D σ H→wpAny (model X.prog X.w) X.A (exec st X.env) (SP X pins D) X.xe s
def PSs (X : Cx) (st : List Stmt) (t : TS) : Prop :=
  ∀ (pins : List (Addr×Obj)) (s : Shared) (σ : St) (H : Hp) (D : Ends),Inv X pins σ H s→t D σ H→wpAny (model X.prog X.w) X.A (execs st X.env) (SP X pins D) X.xe s
theorem thn {α : Type} {t : Sem α} {Q Q' : α→Shared→Prop} {M : Model} {A : Around} {E : Value→Shared→Prop} {s : Shared} (h : wpAny M A t Q E s) (hQ : ∀ a s,Q a s→Q' a s) : wpAny M A t Q' E s:=wpAny_mono h hQ fun _ _ x => x
section
variable {X : Cx}
def tVar (i : Nat) : TE:=fun σ H Q => ∃ v,σ[i]? = some (some v)∧Q v H
def tC (v : V) : TE:=fun _ H Q => Q v H
theorem pe_var {i : Nat} {x : Str} {pos : Pos} (hN : X.N[i]? = some x) (hv : Vis X.env.scope x) (hd : (x == ("__debug__" : Str)) = false := by decide) (hcd : (x == ("__classdict__" : Str)) = false := by decide) : PE X (.Name x pos) (tVar i) := by
  intro pins s σ H Q I h
  obtain ⟨v,e,h⟩:=h
  obtain ⟨m,hn,hl⟩:=I.loc
  obtain ⟨u,r,l⟩:=hl i x v hN e hv
  have fin : EP X pins σ Q u s:=⟨v,H,I,r,h⟩
  rcases l with ⟨hk,hm⟩ | ⟨hk,c,hc,hcell⟩
  · exact wpAny_Name (wpAny_loadName_local I.ok.kind hk hn hm fin) hd
  · rcases hk with hk | hk
    · exact wpAny_Name (wpAny_loadName_cell I.ok.kind hk hc hcell fin) hd
    · exact wpAny_Name (wpAny_loadName_free I.ok.kind hk hc hcell fin hcd) hd
theorem pe_int {i j pos} : PE X (.Constant (.int i) j pos) (tC (.int i)):=fun _ _ _ H _ I h => wpAny_Constant_int ⟨.int i,H,I.tok _,⟨_,rfl⟩,h⟩
theorem pe_bl {b j pos} : PE X (.Constant (.bool b) j pos) (tC (.bl b)):=fun _ _ _ H _ I h => Constant_bool ⟨.bl b,H,I,rfl,h⟩
theorem pe_non {j pos} : PE X (.Constant .none j pos) (tC .non):=fun _ _ _ H _ I h => Constant_none ⟨.non,H,I,rfl,h⟩
theorem pe_str {x j pos} : PE X (.Constant (.str x) j pos) (tC (.str x)):=fun _ _ _ H _ I h => Calls.Constant_str ⟨.str x,H,I.tok _,⟨_,rfl⟩,h⟩
def Gl (X : Cx) (x : Str) : Prop:=X.env.kindOf x = some .globalImplicit
theorem ld_glob {E : Value→Shared→Prop} {pins : List (Addr×Obj)} {s : Shared} {σ : St} {H : Hp} {x : Str} {u : Value} {pos : Pos} {Q : Value→Shared→Prop} (I : Inv X pins σ H s) (hg : Gl X x) (hm : X.mg x = some u) (h : Q u s)
    (hd : (x == ("__debug__" : Str)) = false := by decide) : wpAny (model X.prog X.w) X.A (eval (.Name x pos) X.env) Q E s :=
  Calls.Name_function_global I.ok.kind hg (Calls.loadGlobal_global (by rw [I.ok.glob]; exact I.mod.glob.keeps I.bk) hm h) hd
theorem ld_blt {E : Value→Shared→Prop} {pins : List (Addr×Obj)} {s : Shared} {σ : St} {H : Hp} {x : Str} {u : Value} {pos : Pos} {Q : Value→Shared→Prop} (I : Inv X pins σ H s) (hg : Gl X x) (hm : X.mg x = none) (hv : bootBuiltins x = some u) (h : Q u s)
    (hn : x ≠ "__name__" := by decide) (hd : (x == ("__debug__" : Str)) = false := by decide) : wpAny (model X.prog X.w) X.A (eval (.Name x pos) X.env) Q E s := by
  obtain ⟨mb,h1,h2⟩:=I.mod.blt
  exact Calls.Name_function_global I.ok.kind hg (Calls.loadGlobal_builtin (by rw [I.ok.glob]; exact I.mod.glob.keeps I.bk) hm (by rw [I.ok.blt]; exact h1.keeps I.bk) ((h2 x hn).trans hv) h) hd
theorem pe_glob {x : Str} {v : V} {u : Value} {pos : Pos} (hg : Gl X x) (hm : X.mg x = some u) (r : RelV v u) (hd : (x == ("__debug__" : Str)) = false := by decide) : PE X (.Name x pos) (tC v) :=
  fun _ _ _ H _ I h => ld_glob I hg hm ⟨v,H,I,r,h⟩ hd
theorem pe_bltn {x : Str} {v : V} {u : Value} {pos : Pos} (hg : Gl X x) (hm : X.mg x = none) (hv : bootBuiltins x = some u) (r : RelV v u) (hn : x ≠ "__name__" := by decide) (hd : (x == ("__debug__" : Str)) = false := by decide) : PE X (.Name x pos) (tC v) :=
  fun _ _ _ H _ I h => ld_blt I hg hm hv ⟨v,H,I,r,h⟩ hn hd
variable {a b : Expr} {ta tb : TE} {pos : Pos}
def tB (t : TE) : TT:=fun σ H Q => t σ H fun x H1 => ∃ c,x = .bl c∧Q c H1
theorem pt_val {e : Expr} {t : TE} (h : PE X e t) (he : ∀ whole,isTrue e X.env whole = (do let v ← whole; standAt e.pos; holding [v] (truthy v)) := by intro _; rfl) : PT X e (tB t) := by
  intro pins s σ H Q I hw
  refine isTrue_plain (thn (h pins s σ H _ I hw) fun v s1 ⟨x,H1,I1,r1,q1⟩ => ?_) (he _)
  obtain ⟨d,rfl,q⟩:=q1
  cases r1
  exact wpAny_truthy_bool ⟨H1,I1,q⟩
variable {tA tB' : TT} {rest : List Expr}
def tAnd (t u : TT) : TT:=fun σ H Q => t σ H fun c H1 => if c = true then u σ H1 Q else Q false H1
def tOr (t u : TT) : TT:=fun σ H Q => t σ H fun c H1 => if c = true then Q true H1 else u σ H1 Q
def tNot (t : TT) : TT:=fun σ H Q => t σ H fun c H1 => Q (!c) H1
theorem pw_and1 (ha : PT X a tA) : PW X (.BoolOp .And [a] pos) tA := by
  intro wh pins s σ H Q I h
  refine isTrue_and (thn (ha pins s σ H Q I h) fun c s1 e => ?_)
  cases c with
  | true => exact isTrue_and_nil e
  | false => exact e
theorem pw_or1 (ha : PT X a tA) : PW X (.BoolOp .Or [a] pos) tA := by
  intro wh pins s σ H Q I h
  refine isTrue_or (thn (ha pins s σ H Q I h) fun c s1 e => ?_)
  cases c with
  | false => exact isTrue_or_nil e
  | true => exact e
theorem pw_and (ha : PT X a tA) (hb : PW X (.BoolOp .And (b :: rest) pos) tB') : PW X (.BoolOp .And (a :: b :: rest) pos) (tAnd tA tB') := by
  intro wh pins s σ H Q I h
  refine isTrue_and (thn (ha pins s σ H _ I h) fun c s1 ⟨H1,I1,q1⟩ => ?_)
  cases c with
  | true => exact hb wh pins s1 σ H1 Q I1 q1
  | false => exact ⟨H1,I1,q1⟩
theorem pw_or (ha : PT X a tA) (hb : PW X (.BoolOp .Or (b :: rest) pos) tB') : PW X (.BoolOp .Or (a :: b :: rest) pos) (tOr tA tB') := by
  intro wh pins s σ H Q I h
  refine isTrue_or (thn (ha pins s σ H _ I h) fun c s1 ⟨H1,I1,q1⟩ => ?_)
  cases c with
  | true => exact ⟨H1,I1,q1⟩
  | false => exact hb wh pins s1 σ H1 Q I1 q1
theorem pt_not (ha : PT X a tA) : PT X (.UnaryOp .Not a pos) (tNot tA) := by
  intro pins s σ H Q I h
  exact isTrue_not (ha pins s σ H (fun c H1 => Q (!c) H1) I h)
def tAndV (ta tb : TE) : TE:=fun σ H Q => ta σ H fun x H1 => ∃ c,x = .bl c∧if c = true then tb σ H1 Q else Q (.bl false) H1
def tOrV (ta tb : TE) : TE:=fun σ H Q => ta σ H fun x H1 => ∃ c,x = .bl c∧if c = true then Q (.bl true) H1 else tb σ H1 Q
def tNotV (ta : TE) : TE:=fun σ H Q => ta σ H fun x H1 => ∃ c,x = .bl c∧Q (.bl (!c)) H1
theorem pe_one {op} {t : TE} (h : PE X a t) : PE X (.BoolOp op [a] pos) t:=fun pins s σ H Q I hw => BoolOp_one (h pins s σ H Q I hw)
theorem pe_and (ha : PE X a ta) (hb : PE X (.BoolOp .And (b :: rest) pos) tb) : PE X (.BoolOp .And (a :: b :: rest) pos) (tAndV ta tb) := by
  intro pins s σ H Q I h
  refine BoolOp_and (thn (ha pins s σ H _ I h) fun v s1 ⟨x,H1,I1,r1,q1⟩ => ?_)
  obtain ⟨c,rfl,q1⟩:=q1
  cases r1
  refine wpAny_truthy_bool ?_
  cases c with
  | true => exact hb pins s1 σ H1 Q I1 q1
  | false => exact ⟨.bl false,H1,I1,rfl,q1⟩
theorem pe_or (ha : PE X a ta) (hb : PE X (.BoolOp .Or (b :: rest) pos) tb) : PE X (.BoolOp .Or (a :: b :: rest) pos) (tOrV ta tb) := by
  intro pins s σ H Q I h
  refine BoolOp_or (thn (ha pins s σ H _ I h) fun v s1 ⟨x,H1,I1,r1,q1⟩ => ?_)
  obtain ⟨c,rfl,q1⟩:=q1
  cases r1
  refine wpAny_truthy_bool ?_
  cases c with
  | false => exact hb pins s1 σ H1 Q I1 q1
  | true => exact ⟨.bl true,H1,I1,rfl,q1⟩
theorem pe_not (ha : PE X a ta) : PE X (.UnaryOp .Not a pos) (tNotV ta) := by
  intro pins s σ H Q I h
  refine UnaryOp_ (thn (ha pins s σ H _ I h) fun v s1 ⟨x,H1,I1,r1,q1⟩ => ?_)
  obtain ⟨c,rfl,q1⟩:=q1
  cases r1
  exact not_of (wpAny_truthy_bool ⟨.bl (!c),H1,I1,rfl,q1⟩)
end
def SqL (K : PySem.W.Frag) (H : Hp) (a : Addr) (xs : List V) : Prop :=
  Rd H a (.lst xs) ∨
    ∃ (o : Obj) (its : Array Value) (n : Nat),K.lookup a = some o∧o.cls = .type "list" ∧ o.dict = none∧o.data = .seq its n∧its.size≤sizeLine∧Vals xs its.toList
def SqT (K : PySem.W.Frag) (H : Hp) (a : Addr) (xs : List V) : Prop :=
  Rd H a (.tup xs) ∨
    ∃ (o : Obj) (its : Array Value) (n : Nat),K.lookup a = some o∧o.cls = .type "tuple" ∧ o.data = .seq its n∧its.size≤sizeLine∧Vals xs its.toList
def absV : Value→Option V
  | .none => some .non
  | .bool b => some (.bl b)
  | .int i _ => some (.int i)
  | .str x _ => some (.str x)
  | .bytes b _ => some (.byt b)
  | .float b _ => some (.flt b)
  | .ref a => some (.ref a)
  | .type n => some (.ty n)
  | _ => none
theorem RelV.abs {x : V} {u : Value} (r : RelV x u) : absV u = some x := by
  cases x with
  | non => cases r; rfl
  | bl _ => cases r; rfl
  | int _ => obtain ⟨t,rfl⟩:=r; rfl
  | str _ => obtain ⟨t,rfl⟩:=r; rfl
  | byt _ => obtain ⟨t,rfl⟩:=r; rfl
  | flt _ => obtain ⟨t,rfl⟩:=r; rfl
  | ref _ => cases r; rfl
  | ty _ => cases r; rfl
theorem RelV.inj {x y : V} {u : Value} (r : RelV x u) (q : RelV y u) : x = y:=Option.some.inj (r.abs.symm.trans q.abs)
theorem Vals.inj : ∀ {xs ys : List V} {us : List Value},Vals xs us→Vals ys us→xs = ys
  | _,_,_,.nil,.nil => rfl
  | _,_,_,.cons r t,.cons r' t' => by rw [r.inj r',Vals.inj t t']
section
variable {X : Cx} {pins : List (Addr×Obj)} {σ : St} {H : Hp} {s : Shared} {a : Addr} {xs ys : List V}
theorem SqL.of {K : PySem.W.Frag} (h : H a = some (.lst xs)) : SqL K H a xs:=.inl (.inl h)
theorem SqT.of {K : PySem.W.Frag} (h : H a = some (.tup xs)) : SqT K H a xs:=.inl (.inl h)
theorem Inv.list (I : Inv X pins σ H s) (h : SqL X.K H a xs) : ∃ its : List Value,Vals xs its∧PlainL s.heap a its.toArray∧xs.length≤sizeLine := by
  rcases h with h | ⟨o,its,n,hk,hc,hd,hs,hz,r⟩
  · obtain ⟨z,its,n,r,e⟩:=h.ok I.hok
    exact ⟨its,r,⟨_,n,e,rfl,rfl,rfl⟩,z⟩
  · refine ⟨its.toList,r,⟨o,n,I.kIn a o hk,hc,hd,by simpa using hs⟩,?_⟩
    have e:=r.length
    simp only [Array.length_toList] at e
    omega
theorem Inv.tuple (I : Inv X pins σ H s) (h : SqT X.K H a xs) : ∃ its : List Value,Vals xs its∧IsTup s.heap a its.toArray∧xs.length≤sizeLine := by
  rcases h with h | ⟨o,its,n,hk,hc,hs,hz,r⟩
  · obtain ⟨z,its,r,p⟩:=h.ok I.hok
    exact ⟨its,r,p,z⟩
  · refine ⟨its.toList,r,⟨o,I.kIn a o hk,hc,n,by simpa using hs⟩,?_⟩
    have e:=r.length
    simp only [Array.length_toList] at e
    omega
theorem Inv.list_inj (I : Inv X pins σ H s) (h : SqL X.K H a xs) (h' : SqL X.K H a ys) : xs = ys := by
  obtain ⟨its,r,⟨o,n,e,_,_,d⟩,_⟩:=I.list h
  obtain ⟨its',r',⟨o',n',e',_,_,d'⟩,_⟩:=I.list h'
  rw [e] at e'; cases e'
  rw [d] at d'
  injection d' with d1 _
  have : its = its' := by simpa using congrArg Array.toList d1
  subst this
  exact r.inj r'
theorem Inv.tuple_inj (I : Inv X pins σ H s) (h : SqT X.K H a xs) (h' : SqT X.K H a ys) : xs = ys := by
  obtain ⟨its,r,⟨o,e,_,n,d⟩,_⟩:=I.tuple h
  obtain ⟨its',r',⟨o',e',_,n',d'⟩,_⟩:=I.tuple h'
  rw [e] at e'; cases e'
  rw [d] at d'
  injection d' with d1 _
  have : its = its' := by simpa using congrArg Array.toList d1
  subst this
  exact r.inj r'
end
abbrev Cx.wish (X : Cx) (E : Value→Shared→Prop) : Cx:={ X with xe:=E }
abbrev Cx.nox (X : Cx) : Cx:=X.wish fun _ _ => False
theorem Cx.Ok.wish {X : Cx} (ok : X.Ok) (E : Value→Shared→Prop) : (X.wish E).Ok :=
  ⟨ok.mod,ok.kind,ok.glob,ok.blt,ok.above,ok.inj,ok.has,ok.cab,ok.hd,ok.frames,ok.stk,ok.exf,ok.bs,ok.bsz,ok.noex,ok.exfs,ok.funs,ok.frf⟩
theorem Cx.Ok.unwish {X : Cx} {E : Value→Shared→Prop} (ok : (X.wish E).Ok) : X.Ok :=
  ⟨ok.mod,ok.kind,ok.glob,ok.blt,ok.above,ok.inj,ok.has,ok.cab,ok.hd,ok.frames,ok.stk,ok.exf,ok.bs,ok.bsz,ok.noex,ok.exfs,ok.funs,ok.frf⟩
section
variable {X : Cx} {pins : List (Addr×Obj)} {σ : St} {H : Hp} {s : Shared} {E : Value→Shared→Prop}
theorem Inv.wish (I : Inv X pins σ H s) (E : Value→Shared→Prop) : Inv (X.wish E) pins σ H s:=⟨I.ok.wish E,I.os,I.bare,I.base,I.loc,I.cell,I.free,I.freeC,I.pin,I.hok,I.len⟩
theorem Inv.unwish (I : Inv (X.wish E) pins σ H s) : Inv X pins σ H s:=⟨I.ok.unwish,I.os,I.bare,I.base,I.loc,I.cell,I.free,I.freeC,I.pin,I.hok,I.len⟩
theorem SP.unwish {D : Ends} {f : Flow} {s' : Shared} (h : SP (X.wish E) pins D f s') : SP X pins D f s' := by
  cases f with
  | next => obtain ⟨σ',H',I,q⟩:=h; exact ⟨σ',H',I.unwish,q⟩
  | brk => obtain ⟨σ',H',I,q⟩:=h; exact ⟨σ',H',I.unwish,q⟩
  | cont => obtain ⟨σ',H',I,q⟩:=h; exact ⟨σ',H',I.unwish,q⟩
  | ret u => obtain ⟨v,σ',H',I,r,q⟩:=h; exact ⟨v,σ',H',I.unwish,r,q⟩
theorem PSs.nox {st : List Stmt} {t : TS} (h : PSs X.nox st t) : PSs X st t:=fun pins s σ H D I hw =>
  wpAny_mono (h pins s σ H D (I.wish _) hw) (fun _ _ q => q.unwish) fun _ _ z => False.elim z
end
section
variable {X : Cx} {st : Stmt} {rest : List Stmt} {t u : TS} {e : Expr} {te : TE} {pos : Pos}
def tNext : TS:=fun D σ H => D.nx σ H
def tSeq (t u : TS) : TS:=fun D σ H => t { D with nx:=u D } σ H
theorem pss_nil : PSs X [] tNext:=fun _ _ σ H _ I h => wpAny_execs_nil ⟨σ,H,I,h⟩
theorem pss_cons (h1 : PS X st t) (h2 : PSs X rest u) : PSs X (st :: rest) (tSeq t u) := by
  intro pins s σ H D I h
  refine wpAny_execs_cons (thn (h1 pins s σ H { D with nx:=u D } I h) fun f s1 q => ?_)
  cases f with
  | next =>
    obtain ⟨σ',H',I',q⟩:=q
    exact h2 pins s1 σ' H' D I' q
  | ret v => exact q
  | brk => exact q
  | cont => exact q
theorem pss_one (h1 : PS X st t) : PSs X [st] t := by
  intro pins s σ H D I h
  refine wpAny_execs_cons (thn (h1 pins s σ H D I h) fun f s1 q => ?_)
  cases f with
  | next => exact wpAny_execs_nil q
  | ret v => exact q
  | brk => exact q
  | cont => exact q
theorem Inv.quiet {pins : List (Addr×Obj)} {σ : St} {H : Hp} {s : Shared} (I : Inv X pins σ H s) : interactive X.env = false := by simp [interactive,I.ok.kind]
def tDrop (te : TE) : TS:=fun D σ H => te σ H fun _ H1 => D.nx σ H1
theorem ps_expr (he : PE X e te) (hs : swapsWith e none pos.line X.env = pure false := by rfl) : PS X (.Expr e pos) (tDrop te) := by
  intro pins s σ H D I h
  exact wpAny_Expr_any (thn (he pins s σ H _ I h) fun v s1 ⟨x,H1,I1,r1,q1⟩ => ⟨σ,H1,I1,q1⟩) I.quiet hs
def tRet (te : TE) : TS:=fun D σ H => te σ H D.rt
theorem ps_ret (he : PE X e te) : PS X (.Return (some e) pos) (tRet te) := by
  intro pins s σ H D I h
  exact wpAny_Return_some (thn (he pins s σ H _ I h) fun v s1 ⟨x,H1,I1,r1,q1⟩ => ⟨x,σ,H1,I1,r1,q1⟩)
def tIfS (c : TT) (t u : TS) : TS:=fun D σ H => c σ H fun b H1 => if b = true then t D σ H1 else u D σ H1
theorem ps_if {c : Expr} {a b : List Stmt} {tc : TT} (hc : PT X c tc) (ha : PSs X a t) (hb : PSs X b u) : PS X (.If c a b pos) (tIfS tc t u) := by
  intro pins s σ H D I h
  refine wpAny_If (thn (hc pins s σ H _ I h) fun d s1 ⟨H1,I1,q1⟩ => ?_)
  cases d with
  | true => exact ha pins s1 σ H1 D I1 q1
  | false => exact hb pins s1 σ H1 D I1 q1
def tNever : TS:=fun _ _ _ => False
theorem ps_never : PS X st tNever:=fun _ _ _ _ _ _ h => h.elim
end
abbrev TG:=V→St→Hp→(St→Hp→Prop)→Prop
abbrev TGs:=List V→St→Hp→(St→Hp→Prop)→Prop
def PG (X : Cx) (target : Expr) (t : TG) : Prop :=
  ∀ (pins : List (Addr×Obj)) (s : Shared) (σ : St) (H : Hp) (v : V) (u : Value) (Q : St→Hp→Prop),Inv X pins σ H s→RelV v u→t v σ H Q →
    wpAny (model X.prog X.w) X.A (assign target X.env u) (fun _ s' => ∃ σ' H',Inv X pins σ' H' s'∧Q σ' H') X.xe s
def PGs (X : Cx) (ts : List Expr) (t : TGs) : Prop :=
  ∀ (pins : List (Addr×Obj)) (s : Shared) (σ : St) (H : Hp) (vs : List V) (us : List Value) (Q : St→Hp→Prop),Inv X pins σ H s→Vals vs us→t vs σ H Q →
    wpAny (model X.prog X.w) X.A (assignInOrder ((assignEach ts X.env).map (·.2)) us) (fun _ s' => ∃ σ' H',Inv X pins σ' H' s'∧Q σ' H') X.xe s
abbrev TSet:=V→V→V→Hp→(Hp→Prop)→Prop
def PSet (X : Cx) (t : TSet) : Prop :=
  ∀ (pins : List (Addr×Obj)) (s : Shared) (σ : St) (H : Hp) (o i v : V) (ov iv u : Value) (Q : Hp→Prop),Inv X pins σ H s→RelV o ov→RelV i iv→RelV v u→t o i v H Q →
    wpAny (model X.prog X.w) X.A (setItem ov iv u) (fun _ s' => ∃ H',Inv X pins σ H' s'∧Q H') X.xe s
section
variable {X : Cx} {pos : Pos}
def gName (i : Nat) : TG:=fun v σ H Q => Q (σ.set i (some v)) H
theorem pg_name {i : Nat} {x : Str} (hN : X.N.Nodup) (hi : X.N[i]? = some x) (hx : Loc X.env.scope x) (hf : X.fn x = true∨X.env.scope.names.lookup x = some .local := by first | exact .inl rfl | exact .inr rfl | assumption) : PG X (.Name x pos) (gName i) := by
  intro pins s σ H v u Q I r h
  exact wpAny_assign_Name (store_ok I hN hi hx r (fun s' I' => ⟨_,H,I',h⟩) hf)
def gNil : TGs:=fun vs σ H Q => vs = []∧Q σ H
def gCons (t : TG) (u : TGs) : TGs:=fun vs σ H Q => ∃ v r,vs = v :: r∧t v σ H fun σ' H' => u r σ' H' Q
theorem pgs_nil : PGs X [] gNil := by
  intro pins s σ H vs us Q I r h
  obtain ⟨e,h⟩:=h
  subst e
  cases r
  exact assignInOrder_nil ⟨σ,H,I,h⟩
theorem pgs_cons {e : Expr} {es : List Expr} {t : TG} {u : TGs} (h1 : PG X e t) (h2 : PGs X es u)
    (hs : (assignEach (e :: es) X.env).map (·.2) = assign e X.env :: (assignEach es X.env).map (·.2) := by rfl) : PGs X (e :: es) (gCons t u) := by
  intro pins s σ H vs us Q I r h
  obtain ⟨v,vr,e1,h⟩:=h
  subst e1
  cases r with
  | cons r rr =>
    rw [hs]
    refine assignInOrder_cons (thn (h1 pins s σ H _ _ _ I r h) fun _ s1 ⟨σ1,H1,I1,q1⟩ => ?_)
    exact h2 pins s1 σ1 H1 _ _ Q I1 rr q1
def gTup (K : PySem.W.Frag) (n : Nat) (t : TGs) : TG:=fun v σ H Q => ∃ a xs,v = .ref a∧SqT K H a xs∧xs.length = n∧t xs σ H Q
theorem pg_tup {es : List Expr} {k : Nat} {t : TGs} {n : Nat} (hc : X.calm = true) (h : PGs X es t)
    (hn : (assignEach es X.env).length = n := by rfl) (hst : (assignEach es X.env).findIdx? (·.1) = none := by rfl) : PG X (.Tuple es k pos) (gTup X.K n t) := by
  intro pins s σ H v u Q I r hw
  obtain ⟨a,xs,e1,hq,hl,hw⟩:=hw
  subst e1
  cases r
  obtain ⟨its,rv,ht,hz⟩:=I.tuple hq
  refine assign_Tuple_tuple (I.ok.hd hc) ht (by simp [hn,← hl,rv.length]) hst fun h' hx => ?_
  have I1 : Inv X pins σ H { s with heap:=h' }:=I.kept (t':=s.toks) fun b o e => hx b o (Nat.ne_of_lt (Heap.lt_size e)) e
  exact h pins _ σ H xs _ Q I1 (by simpa using rv) hw
def gSub (to ti : TE) (t : TSet) : TG:=fun v σ H Q => to σ H fun o H1 => ti σ H1 fun i H2 => t o i v H2 fun H3 => Q σ H3
theorem pg_sub {o i : Expr} {to ti : TE} {t : TSet} (ho : PE X o to) (hi : PE X i ti) (hs : PSet X t)
    (ha : ∀ v,assign (.Subscript o i pos) X.env v = (do
      let ov ← holding [v] (eval o X.env)
      let iv ← holding [v,ov] (eval i X.env)
      standAt pos
      holding [v,ov,iv] (setItem ov iv v)
      release [v,ov,iv] []) := by intro _; rfl) : PG X (.Subscript o i pos) (gSub to ti t) := by
  intro pins s σ H v u Q I r h
  rw [ha]
  refine wpAny_bind (wpAny_holding (thn (ho pins s σ H _ I h) fun ov s1 ⟨x,H1,I1,r1,q1⟩ => ?_))
  refine wpAny_bind (wpAny_holding (thn (hi pins s1 σ H1 _ I1 q1) fun iv s2 ⟨y,H2,I2,r2,q2⟩ => ?_))
  refine wpAny_bind (wpAny_standAt (wpAny_bind (wpAny_holding (thn (hs pins s2 σ H2 x y v ov iv u _ I2 r1 r2 r q2) fun _ s3 ⟨H3,I3,q3⟩ => ?_))))
  exact wpAny_release ⟨σ,H3,I3,q3⟩
def tAsg (te : TE) (g : TG) : TS:=fun D σ H => te σ H fun x H1 => g x σ H1 D.nx
theorem ps_asg {tg e : Expr} {te : TE} {g : TG} (he : PE X e te) (hg : PG X tg g) (hs : swapsWithSole [tg] e pos.line X.env = pure false := by rfl) (hw : swappedStores [tg] e X.env = pure none := by rfl)
    (h1 : (assignEach [tg] X.env).map (·.2) = [assign tg X.env] := by rfl) : PS X (.Assign [tg] e pos) (tAsg te g) := by
  intro pins s σ H D I h
  refine wpAny_Assign_stores (thn (he pins s σ H _ I h) fun v s1 ⟨x,H1,I1,r1,q1⟩ => ?_) hs hw
  rw [h1]
  exact thn (hg pins s1 σ H1 x v _ I1 r1 q1) fun _ s2 q => q
theorem ps_set {i : Nat} {x : Str} {e : Expr} {te : TE} {pos' : Pos} (hN : X.N.Nodup) (hi : X.N[i]? = some x) (hx : Loc X.env.scope x) (he : PE X e te) (hs : swapsWith e (some (.Name x pos')) pos.line X.env = pure false := by rfl) (hf : X.fn x = true∨X.env.scope.names.lookup x = some .local := by first | exact .inl rfl | exact .inr rfl | assumption) :
    PS X (.Assign [.Name x pos'] e pos) (tAsg te (gName i)) := by
  intro pins s σ H D I h
  refine wpAny_Assign_Name (thn (he pins s σ H _ I h) fun v s1 ⟨y,H1,I1,r1,q1⟩ => ?_) hs
  exact store_ok I1 hN hi hx r1 (fun s2 I2 => ⟨_,H1,I2,q1⟩) hf
def tPar (i j : Nat) (ta : TA) : TS:=fun D σ H => ta σ H fun vs H1 => ∃ v w,vs = [v,w]∧D.nx ((σ.set i (some v)).set j (some w)) H1
theorem ps_par {i j : Nat} {x y : Str} {a b : Expr} {ta : TA} {px py pt : Pos} {kt k2 pt2} (hc : X.calm = true) (hN : X.N.Nodup) (hi : X.N[i]? = some x) (hj : X.N[j]? = some y) (hij : i≠j)
    (hx : X.env.scope.names.lookup x = some .local) (hy : X.env.scope.names.lookup y = some .local) (ha : PA X [a,b] ta)
    (hw : swappedStores [.Tuple [.Name x px,.Name y py] kt pt] (.Tuple [a,b] k2 pt2) X.env = pure (some [x,y]))
    (hs : swapsWithSole [.Tuple [.Name x px,.Name y py] kt pt] (.Tuple [a,b] k2 pt2) pos.line X.env = pure false := by rfl) :
    PS X (.Assign [.Tuple [.Name x px,.Name y py] kt pt] (.Tuple [a,b] k2 pt2) pos) (tPar i j ta) := by
  intro pins s σ H D I h
  rw [exec_Assign_arm]
  refine wpAny_bind (wpAny_standAt ?_)
  rw [hs]
  refine wpAny_bind (wpAny_pure ?_)
  rw [if_neg (by decide)]
  refine wpAny_bind (Tuple_ (thn (ha _ pins s σ H _ I h) fun us s1 ⟨vs,H1,I1,r1,q1⟩ => ?_))
  obtain ⟨v,w,e1,q1⟩:=q1
  subst e1
  obtain ⟨u1,u2,rfl,rv,rw'⟩ : ∃ u1 u2,us = [u1,u2]∧RelV v u1∧RelV w u2 := by
    cases r1 with
    | cons p q =>
      cases q with
      | cons p' q' =>
        cases q'
        exact ⟨_,_,rfl,p,p'⟩
  refine wpAny_newObj_type ?_ (by show 2≤sizeLine; decide)
  have I2 : Inv X pins σ H1 { s1 with heap:=s1.heap.push { cls:=.type "tuple",data:=.seq [u1,u2].toArray } }:=I1.kept (t':=s1.toks) fun b o e => Heap.get?_push_of_some _ e
  rw [hw]
  refine wpAny_bind (wpAny_pure ?_)
  show wpAny (model X.prog X.w) X.A (do rule "assign.swapped-stores"; let items ← unpackItems (.ref s1.heap.objs.size) 2 none; assignInOrder [fun v => bindName X.env y v,fun v => bindName X.env x v] items.reverse; pure Flow.next) _ _ _
  refine wpAny_bind (wpAny_rule (wpAny_bind (unpackItems_tuple (items:=#[u1,u2]) (I.ok.hd hc) (IsTup.new s1.heap _) fun h' hx' => ?_)))
  have I3:=I2.kept (h':=h') (t':=s1.toks) fun b o e => hx' b o (Nat.ne_of_lt (Heap.lt_size e)) e
  show wpAny _ _ (assignInOrder [fun v => bindName X.env y v,fun v => bindName X.env x v] [u2,u1] >>= fun _ => pure Flow.next) _ _ _
  refine wpAny_bind (assignInOrder_cons (wpAny_bindName (store_ok I3 hN hj (.inl hy) rw' (fun s2 I4 => ?_) (.inr hy))))
  refine assignInOrder_cons (wpAny_bindName (store_ok I4 hN hi (.inl hx) rv (fun s3 I5 => assignInOrder_nil (wpAny_pure ?_)) (.inr hx)))
  rw [List.set_comm _ _ (Ne.symm hij)] at I5
  exact ⟨_,H1,I5,q1⟩
end
section
variable {X : Cx} {pos : Pos}
def tWhile (c : TT) (tb : TS) : TS:=fun D σ H => ∃ W : Nat→St→Hp→Prop,(∃ m,W m σ H)∧∀ m σ H,W m σ H →
  c σ H fun b H1 => if b = true then ∃ N : St→Hp→Prop,(∀ σ' H',N σ' H'→∃ m',m' < m∧W m' σ' H')∧tb { D with nx:=N,ct:=N,bk:=D.nx } σ H1 else D.nx σ H1
theorem ps_while {c : Expr} {body : List Stmt} {tc : TT} {tb : TS} (hp : PassesOwn (model X.prog X.w) X.A X.env X.xe) (hc : PT X c tc) (hb : PSs X body tb) : PS X (.While c body [] pos) (tWhile tc tb) := by
  intro pins s σ H D I h
  obtain ⟨W,⟨m0,w0⟩,turn⟩:=h
  refine wpAny_While (codeAny_whileLoop (fun n s' => ∃ σ' H',Inv X pins σ' H' s'∧W n σ' H') ?_ m0 ⟨σ,H,I,w0⟩)
  rintro n s1 ⟨σ1,H1,I1,w1⟩
  refine wpAny_passesOwn hp (thn (hc pins s1 σ1 H1 _ I1 (turn n σ1 H1 w1)) fun b s2 ⟨H2,I2,q2⟩ => ?_)
  cases b with
  | true =>
    obtain ⟨N,hN,q2⟩:=q2
    rw [if_pos rfl]
    refine wpAny_passesOwn hp (thn (hb pins s2 σ1 H2 _ I2 q2) fun f s3 q3 => ?_)
    cases f with
    | next =>
      obtain ⟨σ3,H3,I3,n3⟩:=q3
      obtain ⟨m',hm,w3⟩:=hN σ3 H3 n3
      exact ⟨m',hm,σ3,H3,I3,w3⟩
    | cont =>
      obtain ⟨σ3,H3,I3,n3⟩:=q3
      obtain ⟨m',hm,w3⟩:=hN σ3 H3 n3
      exact ⟨m',hm,σ3,H3,I3,w3⟩
    | brk => exact q3
    | ret v => exact q3
  | false =>
    rw [if_neg Bool.false_ne_true]
    exact wpAny_execs_nil ⟨σ1,H2,I2,q2⟩
end
structure It where
  go : Nat→Hp→Prop
  yld : Nat→Hp→V→Hp→Prop
  stop : Nat→Hp→Prop
def FpOk (X : Cx) (pins : List (Addr×Obj)) (H : Hp) (b : Addr) : Prop :=
  H b = none∧b≠X.env.locals∧b ∉ X.fs∧(b∈X.ex∨X.s₀.heap.objs.size≤b)∧(∀ x c,X.env.cells.lookup x = some c→c≠b)∧∀ p∈X.pn ++ pins,p.1≠b
theorem Inv.fpOk {X : Cx} {pins : List (Addr×Obj)} {σ : St} {H H' : Hp} {s : Shared} {b : Addr} (I : Inv X pins σ H s) (hb : s.heap.objs.size≤b) (hn : H' b = none) : FpOk X pins H' b := by
  refine ⟨hn,Nat.ne_of_gt (Nat.lt_of_lt_of_le I.lt hb),I.nofs hb,.inr (Nat.le_trans I.sz hb),fun x c e z => ?_,fun p hp z => ?_⟩
  · obtain ⟨v,q⟩:=I.cell x c e
    exact absurd (Nat.lt_of_lt_of_le q.lt (by rw [z]; exact hb)) (Nat.lt_irrefl _)
  · exact absurd (Nat.lt_of_lt_of_le (Heap.lt_size (I.pin p hp).1) (by rw [z]; exact hb)) (Nat.lt_irrefl _)
structure Turn (P : Program) (w : World) (K : PySem.W.Frag) (tg : Expr) (J : It) (fp : List Addr) (it : Addr) (tn : Nat→Heap→Prop) : Prop where
  mem : it∈fp
  obj : ∀ i h,tn i h→∀ b∈fp,∃ o,h.get? b = some o∧∀ v,o.data≠.cell v
  keep : ∀ i h h',tn i h→(∀ b∈fp,∀ o,h.get? b = some o→h'.get? b = some o)→tn i h'
  item : ∀ (X : Cx),X.prog = P→X.w = w→X.K = K→X.calm = true→∀ (i : Nat) (pins : List (Addr×Obj)) (s : Shared) (σ : St) (H : Hp) (E : Value→Shared→Prop),Inv X pins σ H s→(∀ b∈fp,FpOk X pins H b)→tn i s.heap→J.go i H →
    wpAny (model P w) X.A (pyNext (.ref it)) (fun r s1 => ∃ u,r = some u ∧
      wpAny (model P w) X.A (letOwnedTupleGo tg (.ref it) u) (fun _ s2 => ∃ x H',Inv X pins σ H' s2∧RelV x u∧J.yld i H x H'∧tn (i + 1) s2.heap∧∀ b∈fp,H' b = none) E s1) E s
  done : ∀ (X : Cx),X.prog = P→X.w = w→X.K = K→X.calm = true→∀ (i : Nat) (pins : List (Addr×Obj)) (s : Shared) (σ : St) (H : Hp) (E : Value→Shared→Prop),Inv X pins σ H s→(∀ b∈fp,FpOk X pins H b)→tn i s.heap→J.stop i H →
    wpAny (model P w) X.A (pyNext (.ref it)) (fun r s1 => r = none∧Inv X pins σ H s1) E s
  self : ∀ (A : Around) (i : Nat) (s : Shared) (Q : Value→Shared→Prop) (E : Value→Shared→Prop),tn i s.heap→Q (.ref it) s→wpAny (model P w) A (pyIter (.ref it)) Q E s
abbrev TI:=St→Hp→(It→Hp→Prop)→Prop
def PIE (X : Cx) (pins : List (Addr×Obj)) (σ : St) (tg : Expr) (R : It→Hp→Prop) (itv : Value) (s2 : Shared) : Prop :=
  ∃ (it : Addr) (fp : List Addr) (tn : Nat→Heap→Prop) (J : It) (H' : Hp),itv = .ref it∧Inv X pins σ H' s2∧Turn X.prog X.w X.K tg J fp it tn∧tn 0 s2.heap∧(∀ b∈fp,FpOk X pins H' b)∧R J H'
def PI (X : Cx) (tg iter : Expr) (wi : TI) : Prop :=
  ∀ (pins : List (Addr×Obj)) (s : Shared) (σ : St) (H : Hp) (R : It→Hp→Prop),Inv X pins σ H s→wi σ H R →
    wpAny (model X.prog X.w) X.A (eval iter X.env) (fun v s1 => wpAny (model X.prog X.w) X.A (pyIter v) (PIE X pins σ tg R) X.xe s1) X.xe s
theorem go_of {M : Model} {A : Around} {E : Value→Shared→Prop} {s : Shared} {tg : Expr} {it : Addr} {u : Value} {o : Obj} {n : String} {vs : Array Value} {Q : Unit→Shared→Prop} (ho : s.heap.get? it = some o) (hc : o.cls = .type n) (hd : o.data = .fields vs)
    (hn : ["enumerate", "zip", "dict_itemiterator", "dict_reverseitemiterator", "odict_iterator", "itertools.zip_longest", "itertools.pairwise"].contains n = false) (hQ : Q () s) : wpAny M A (letOwnedTupleGo tg (.ref it) u) Q E s := by
  unfold letOwnedTupleGo
  cases tg <;> first
    | exact wpAny_pure hQ
    | (cases u <;> first
        | exact wpAny_pure hQ
        | (refine wpAny_bind (wpAny_load ho ?_)
           rw [hc,hd]
           show wpAny M A (if (["enumerate", "zip", "dict_itemiterator", "dict_reverseitemiterator", "odict_iterator", "itertools.zip_longest", "itertools.pairwise"].contains n && vs[0]? == some (rawInt _)) = true then _ else _) Q E s
           rw [if_neg (by intro h; rw [hn,Bool.false_and] at h; cases h)]
           exact wpAny_pure hQ))
def Itl (K : PySem.W.Frag) (a : Addr) : It :=
  ⟨fun i H => ∃ xs x,SqL K H a xs∧xs[i]? = some x,fun i H x H' => H' = H∧∀ xs,SqL K H a xs→xs[i]? = some x,fun i H => ∃ xs,SqL K H a xs∧xs.length≤i⟩
def Itt (K : PySem.W.Frag) (a : Addr) : It :=
  ⟨fun i H => ∃ xs x,SqT K H a xs∧xs[i]? = some x,fun i H x H' => H' = H∧∀ xs,SqT K H a xs→xs[i]? = some x,fun i H => ∃ xs,SqT K H a xs∧xs.length≤i⟩
def Itr (lo : Int) (n : Nat) : It:=⟨fun i _ => i < n,fun i H x H' => H' = H∧x = .int (lo + i),fun i _ => n≤i⟩
theorem turn_list {P : Program} {w : World} {K : PySem.W.Frag} {tg : Expr} (a it : Addr) : Turn P w K tg (Itl K a) [it] it (fun i h => h.IsListIter it a i) where
  mem := by simp
  obj:=fun i h st b hb => by
    have e : b = it := by simpa using hb
    subst e
    obtain ⟨o,e,c,d⟩:=st
    exact ⟨o,e,fun v z => by rw [d] at z; cases z⟩
  keep:=fun i h h' st k => st.at fun o e => k it (by simp) o e
  item := by
    intro X hP hw hK hc i pins s σ H E I hf st hg
    subst hP hw hK
    obtain ⟨xs,x,hq,hx⟩:=hg
    obtain ⟨its,rv,p,hz⟩:=I.list hq
    obtain ⟨u,hu,ru⟩:=rv.get hx
    obtain ⟨f0,f1,f2,f3,f4,f5⟩:=hf it (by simp)
    refine wpAny_pyNext_list_item st p.isList (x:=u) (by simpa using hu) fun h' st' sb => ?_
    have I1 : Inv X pins σ H { s with heap:=h' }:=I.turned (t':=s.toks) (fun b o hb e => (sb.2 b hb).trans e) f0 f1 f3 f4 f5
    obtain ⟨o,e,c,d⟩:=id st'
    exact ⟨u,rfl,go_of (s:={ s with heap:=h' }) e c d (by decide) ⟨x,H,I1,ru,⟨rfl,fun ys hy => by rw [I.list_inj hy hq]; exact hx⟩,st',fun b hb => (hf b hb).1⟩⟩
  done := by
    intro X hP hw hK hc i pins s σ H E I hf st hg
    subst hP hw hK
    obtain ⟨xs,hq,hx⟩:=hg
    obtain ⟨its,rv,p,hz⟩:=I.list hq
    obtain ⟨f0,f1,f2,f3,f4,f5⟩:=hf it (by simp)
    have hl:=rv.length
    exact wpAny_pyNext_list_end (I.ok.hd hc) st p.isList (by simp; omega) fun h' eb => ⟨rfl,I.turned (t':=s.toks) (fun b o hb e => eb b o hb e) f0 f1 f3 f4 f5⟩
  self:=fun _ _ _ _ _ st h => wpAny_pyIter_listiter st h
theorem turn_tuple {P : Program} {w : World} {K : PySem.W.Frag} {tg : Expr} (a it : Addr) : Turn P w K tg (Itt K a) [it] it (fun i h => h.IsTupleIter it a i) where
  mem := by simp
  obj:=fun i h st b hb => by
    have e : b = it := by simpa using hb
    subst e
    obtain ⟨o,e,c,d⟩:=st
    exact ⟨o,e,fun v z => by rw [d] at z; cases z⟩
  keep:=fun i h h' st k => st.at fun o e => k it (by simp) o e
  item := by
    intro X hP hw hK hc i pins s σ H E I hf st hg
    subst hP hw hK
    obtain ⟨xs,x,hq,hx⟩:=hg
    obtain ⟨its,rv,p,hz⟩:=I.tuple hq
    obtain ⟨u,hu,ru⟩:=rv.get hx
    obtain ⟨f0,f1,f2,f3,f4,f5⟩:=hf it (by simp)
    refine wpAny_pyNext_tuple_item st (show s.heap.IsTuple a its.toArray from p) (x:=u) (by simpa using hu) fun h' st' sb => ?_
    have I1 : Inv X pins σ H { s with heap:=h' }:=I.turned (t':=s.toks) (fun b o hb e => (sb.2 b hb).trans e) f0 f1 f3 f4 f5
    obtain ⟨o,e,c,d⟩:=id st'
    exact ⟨u,rfl,go_of (s:={ s with heap:=h' }) e c d (by decide) ⟨x,H,I1,ru,⟨rfl,fun ys hy => by rw [I.tuple_inj hy hq]; exact hx⟩,st',fun b hb => (hf b hb).1⟩⟩
  done := by
    intro X hP hw hK hc i pins s σ H E I hf st hg
    subst hP hw hK
    obtain ⟨xs,hq,hx⟩:=hg
    obtain ⟨its,rv,p,hz⟩:=I.tuple hq
    obtain ⟨f0,f1,f2,f3,f4,f5⟩:=hf it (by simp)
    have hl:=rv.length
    exact wpAny_pyNext_tuple_end (I.ok.hd hc) st (show s.heap.IsTuple a its.toArray from p) (by simp; omega) fun h' eb => ⟨rfl,I.turned (t':=s.toks) (fun b o hb e => eb b o hb e) f0 f1 f3 f4 f5⟩
  self:=fun _ _ _ _ _ st h => wpAny_pyIter_tupleiter st h
theorem turn_range {P : Program} {w : World} {K : PySem.W.Frag} {tg : Expr} (it : Addr) (lo : Int) (n : Nat) : Turn P w K tg (Itr lo n) [it] it (fun i h => IsRangeIter h it (lo + (i : Nat) * 1) ((n : Int) - (i : Nat)) 1) where
  mem := by simp
  obj:=fun i h st b hb => by
    have e : b = it := by simpa using hb
    subst e
    exact ⟨_,st,fun v z => by
      have z' : Data.fields _ = Data.cell v:=z
      cases z'⟩
  keep:=fun i h h' st k => k it (by simp) _ st
  item := by
    intro X hP hw hK hc i pins s σ H E I hf st hg
    subst hP hw hK
    obtain ⟨f0,f1,f2,f3,f4,f5⟩:=hf it (by simp)
    have W:=Walks.range (prog:=X.prog) (w:=X.w) (I.ok.hd hc) it lo 1 n
    refine W.item i s _ _ hg st fun v h' tk hv st' kk => ?_
    obtain ⟨t,rfl⟩:=hv
    have I1 : Inv X pins σ H { s with heap:=h',toks:=tk }:=I.turned (fun b o hb e => kk b o (by simpa using hb) e) f0 f1 f3 f4 f5
    refine ⟨_,rfl,go_of (s:={ s with heap:=h',toks:=tk }) (n := "range_iterator") st' rfl rfl (by decide) ⟨.int (lo + i),H,I1,⟨t,?_⟩,⟨rfl,rfl⟩,st',fun b hb => (hf b hb).1⟩⟩
    rw [Int.mul_one]
  done := by
    intro X hP hw hK hc i pins s σ H E I hf st hg
    subst hP hw hK
    obtain ⟨f0,f1,f2,f3,f4,f5⟩:=hf it (by simp)
    exact wpAny_pyNext_range_end (I.ok.hd hc) st (by have : n≤i:=hg; omega) fun h' eb => ⟨rfl,I.turned (t':=s.toks) (fun b o hb e => eb b o hb e) f0 f1 f3 f4 f5⟩
  self:=fun _ _ _ _ _ st h => wpAny_pyIter_rangeiter st h
section
variable {X : Cx} {tg : Expr}
def iList (K : PySem.W.Frag) (tl : TE) : TI:=fun σ H R => tl σ H fun x H1 => ∃ a,x = .ref a∧(∃ xs,SqL K H1 a xs)∧R (Itl K a) H1
def iTup (K : PySem.W.Frag) (tl : TE) : TI:=fun σ H R => tl σ H fun x H1 => ∃ a,x = .ref a∧(∃ xs,SqT K H1 a xs)∧R (Itt K a) H1
theorem pi_list {l : Expr} {tl : TE} (hl : PE X l tl) : PI X tg l (iList X.K tl) := by
  intro pins s σ H R I h
  refine thn (hl pins s σ H _ I h) fun v s1 ⟨x,H1,I1,r1,q1⟩ => ?_
  obtain ⟨a,e,⟨xs,hq⟩,q⟩:=q1
  subst e
  cases r1
  obtain ⟨its,rv,p,hz⟩:=I1.list hq
  refine wpAny_pyIter_list p.isList ?_
  refine ⟨s1.heap.objs.size,[s1.heap.objs.size],_,_,H1,rfl,I1.kept (t':=s1.toks) fun b o e => Heap.get?_push_of_some _ e,turn_list a _,⟨_,Heap.get?_push_size _ rfl,rfl,rfl⟩,fun b hb => ?_,q⟩
  have e : b = s1.heap.objs.size := by simpa using hb
  subst e
  exact I1.fpOk (Nat.le_refl _) (I1.hok.fresh (Nat.le_refl _))
theorem pi_tup {l : Expr} {tl : TE} (hl : PE X l tl) : PI X tg l (iTup X.K tl) := by
  intro pins s σ H R I h
  refine thn (hl pins s σ H _ I h) fun v s1 ⟨x,H1,I1,r1,q1⟩ => ?_
  obtain ⟨a,e,⟨xs,hq⟩,q⟩:=q1
  subst e
  cases r1
  obtain ⟨its,rv,p,hz⟩:=I1.tuple hq
  refine wpAny_pyIter_tuple (show s1.heap.IsTuple a its.toArray from p) ?_
  refine ⟨s1.heap.objs.size,[s1.heap.objs.size],_,_,H1,rfl,I1.kept (t':=s1.toks) fun b o e => Heap.get?_push_of_some _ e,turn_tuple a _,⟨_,Heap.get?_push_size _ rfl,rfl,rfl⟩,fun b hb => ?_,q⟩
  have e : b = s1.heap.objs.size := by simpa using hb
  subst e
  exact I1.fpOk (Nat.le_refl _) (I1.hok.fresh (Nat.le_refl _))
theorem range_it {pins : List (Addr×Obj)} {σ : St} {H : Hp} {s : Shared} {R : It→Hp→Prop} {E : Value→Shared→Prop} {lo hi : Int} {t u v : Tok} {tk : Nat} (I : Inv X pins σ H s) (h1 : -(2 ^ 62)≤lo) (h2 : lo < 2 ^ 62) (h3 : -(2 ^ 62)≤hi) (h4 : hi < 2 ^ 62)
    (q : R (Itr lo (hi - lo).toNat) H) : wpAny (model X.prog X.w) X.A (pyIter (.ref s.heap.objs.size)) (PIE X pins σ tg R) E { s with heap:=s.heap.push { cls:=.type "range",data:=.fields #[.int lo t,.int hi u,.int 1 v] },toks:=tk } := by
  refine wpAny_pyIter_range (IsRange.new ..) (small_one h1 h2 h3 h4) ?_
  have I1 : Inv X pins σ H { s with heap:=s.heap.push { cls:=.type "range",data:=.fields #[.int lo t,.int hi u,.int 1 v] },toks:=tk }:=I.kept fun b o e => Heap.get?_push_of_some _ e
  refine ⟨(s.heap.push { cls:=.type "range",data:=.fields #[.int lo t,.int hi u,.int 1 v] }).objs.size,[(s.heap.push { cls:=.type "range",data:=.fields #[.int lo t,.int hi u,.int 1 v] }).objs.size],_,_,H,rfl,
    I1.kept (t':=tk) fun b o e => Heap.get?_push_of_some _ e,turn_range _ lo (hi - lo).toNat,?_,fun b hb => ?_,q⟩
  · have e1 : lo + ((0 : Nat) : Int) * 1 = lo := by simp
    have e2 : (((hi - lo).toNat : Nat) : Int) - ((0 : Nat) : Int) = Builtin.Range.rangeSize lo hi 1 := by rw [rangeSize_one]; split <;> omega
    show IsRangeIter _ _ (lo + ((0 : Nat) : Int) * 1) ((((hi - lo).toNat : Nat) : Int) - ((0 : Nat) : Int)) 1
    rw [e1,e2]
    exact Heap.get?_push_size _ rfl
  · have e : b = (s.heap.push { cls:=.type "range",data:=.fields #[.int lo t,.int hi u,.int 1 v] }).objs.size := by simpa using hb
    subst e
    exact I1.fpOk (Nat.le_refl _) (I1.hok.fresh (Nat.le_refl _))
def iRng1 (ta : TA) : TI:=fun σ H R => ta σ H fun vs H1 => ∃ j : Int,vs = [.int j]∧-(2 ^ 62)≤j∧j < 2 ^ 62∧R (Itr 0 j.toNat) H1
theorem pi_range1 {a : Expr} {ta : TA} {p pos : Pos} (hg : Gl X "range") (hm : X.mg "range" = none) (ha : PA X [a] ta) (hs : starEach [a] X.env = [(false,eval a X.env)] := by rfl) : PI X tg (.Call (.Name "range" p) [a] [] pos) (iRng1 ta) := by
  intro pins s σ H R I h
  refine Call_ (ld_blt I hg hm boot_range (PyProof.Rows.callWith_type1 (thn (ha pos pins s σ H _ I h) fun us s1 ⟨vs,H1,I1,r1,q1⟩ => ?_) hs rfl))
  obtain ⟨j,e,q1,q2,q⟩:=q1
  subst e
  cases r1 with
  | cons r rr =>
    cases rr
    obtain ⟨t,rfl⟩:=r
    exact call_range_1 (range_it I1 (by omega) (by omega) q1 q2 (by simpa using q))
def tFor (wi : TI) (g : TG) (tb : TS) : TS:=fun D σ H => wi σ H fun J H1 => ∃ W : Nat→Nat→St→Hp→Prop,(∃ m,W 0 m σ H1)∧∀ i m σ H,W i m σ H →
  (J.stop i H∧D.nx σ H)∨(J.go i H∧∃ N : St→Hp→Prop,(∀ σ' H',N σ' H'→∃ m',m' < m∧W (i + 1) m' σ' H')∧∀ x H',J.yld i H x H'→g x σ H' fun σ2 H2 => tb { D with nx:=N,ct:=N,bk:=D.nx } σ2 H2)
def pinsAt (fp : List Addr) (h : Heap) : List (Addr×Obj):=fp.filterMap fun b => (h.get? b).map fun o => (b,o)
theorem mem_pinsAt {fp : List Addr} {h : Heap} {b : Addr} {o : Obj} (hb : b∈fp) (e : h.get? b = some o) : (b,o)∈pinsAt fp h:=List.mem_filterMap.mpr ⟨b,hb,by rw [e]; rfl⟩
theorem of_pinsAt {fp : List Addr} {h : Heap} {p : Addr×Obj} (hp : p∈pinsAt fp h) : p.1∈fp∧h.get? p.1 = some p.2 := by
  obtain ⟨b,hb,e⟩:=List.mem_filterMap.mp hp
  cases q : h.get? b with
  | none => rw [q] at e; cases e
  | some o =>
    rw [q] at e
    have e' : (b,o) = p:=Option.some.inj e
    subst e'
    exact ⟨hb,q⟩
theorem Inv.pinned {pins : List (Addr×Obj)} {σ : St} {H : Hp} {s : Shared} {fp : List Addr} (I : Inv X pins σ H s) (hf : ∀ b∈fp,FpOk X pins H b) (ho : ∀ b∈fp,∃ o,s.heap.get? b = some o∧∀ v,o.data≠.cell v) : Inv X (pins ++ pinsAt fp s.heap) σ H s :=
  I.pins_of fun p hp => (List.mem_append.mp hp).elim (fun z => I.pin p (List.mem_append_right _ z)) fun z => by
    obtain ⟨hb,e⟩:=of_pinsAt z
    obtain ⟨f0,f1,f2,_⟩:=hf p.1 hb
    obtain ⟨o,e',d⟩:=ho p.1 hb
    rw [e] at e'; cases e'
    exact ⟨e,f0,f1,f2,d⟩
theorem Inv.unpinned {pins pl : List (Addr×Obj)} {σ : St} {H : Hp} {s : Shared} (I : Inv X (pins ++ pl) σ H s) : Inv X pins σ H s:=I.pins_of fun p hp => I.pin p (List.mem_append_right _ (List.mem_append_left _ hp))
theorem ps_for {iter : Expr} {body : List Stmt} {wi : TI} {g : TG} {tb : TS} {pos : Pos} (hp : PassesOwn (model X.prog X.w) X.A X.env X.xe) (hc : X.calm = true) (hi : PI X tg iter wi) (hg : PG X tg g) (hb : PSs X body tb)
    (hs : ∀ x,foldedSetIterable iter X.env x = pure x := by intro _; rfl) : PS X (.For tg iter body [] pos) (tFor wi g tb) := by
  intro pins s σ H D I h
  refine wpAny_For (thn (hi pins s σ H _ I h) fun v s1 h1 => thn h1 fun itv s2 h2 => ?_) hs
  obtain ⟨it,fp,tn,J,H2,e,I2,T,st2,f2,W,⟨m0,w0⟩,turn⟩:=h2
  subst e
  have stat : ∀ {H' : Hp},(∀ b∈fp,H' b = none)→∀ b∈fp,FpOk X pins H' b:=fun hn b hb => ⟨hn b hb,(f2 b hb).2⟩
  refine codeAny_forLoop_any (fun n s' => ∃ i σ' H',Inv X pins σ' H' s'∧tn i s'.heap∧(∀ b∈fp,H' b = none)∧W i n σ' H') ?_ m0 ⟨0,σ,H2,I2,st2,fun b hb => (f2 b hb).1,w0⟩
  rintro n s3 ⟨i,σ3,H3,I3,st3,fr3,w3⟩
  rcases turn i n σ3 H3 w3 with ⟨stop,qn⟩ | ⟨go,N,hN,step⟩
  · refine wpAny_passesOwn hp (thn (T.done X rfl rfl rfl hc i pins s3 σ3 H3 X.xe I3 (stat fr3) st3 stop) fun r s4 ⟨hr,I4⟩ => ?_)
    subst hr
    exact wpAny_execs_nil ⟨σ3,H3,I4,qn⟩
  · refine wpAny_passesOwn hp (thn (T.item X rfl rfl rfl hc i pins s3 σ3 H3 X.xe I3 (stat fr3) st3 go) fun r s4 ⟨u,hr,h4⟩ => ?_)
    subst hr
    refine wpAny_passesOwn hp (thn h4 fun _ s5 ⟨x,H5,I5,r5,y5,st5,fr5⟩ => ?_)
    have I5':=I5.pinned (stat fr5) (T.obj _ _ st5)
    refine wpAny_passesOwn hp (thn (hg _ s5 σ3 H5 x u _ I5' r5 (step x H5 y5)) fun _ s6 ⟨σ6,H6,I6,q6⟩ => ?_)
    refine wpAny_passesOwn hp (thn (hb _ s6 σ6 H6 _ I6 q6) fun f s7 q7 => ?_)
    have again : ∀ {σ7 : St} {H7 : Hp},Inv X (pins ++ pinsAt fp s5.heap) σ7 H7 s7→N σ7 H7→∃ m,m < n∧∃ i σ' H',Inv X pins σ' H' s7∧tn i s7.heap∧(∀ b∈fp,H' b = none)∧W i m σ' H':=fun {σ7 H7} I7 n7 => by
      obtain ⟨m',hm,w7⟩:=hN σ7 H7 n7
      refine ⟨m',hm,i + 1,σ7,H7,I7.unpinned,T.keep _ _ _ st5 fun b hb o e => (I7.pin (b,o) (List.mem_append_right _ (List.mem_append_right _ (mem_pinsAt hb e)))).1,fun b hb => ?_,w7⟩
      obtain ⟨o,e,d⟩:=T.obj _ _ st5 b hb
      exact (I7.pin (b,o) (List.mem_append_right _ (List.mem_append_right _ (mem_pinsAt hb e)))).2.1
    cases f with
    | next => obtain ⟨σ7,H7,I7,n7⟩:=q7; exact again I7 n7
    | cont => obtain ⟨σ7,H7,I7,n7⟩:=q7; exact again I7 n7
    | brk => obtain ⟨σ7,H7,I7,q7⟩:=q7; exact ⟨σ7,H7,I7.unpinned,q7⟩
    | ret v => obtain ⟨x7,σ7,H7,I7,r7,q7⟩:=q7; exact ⟨x7,σ7,H7,I7.unpinned,r7,q7⟩
end
theorem for_list {K : PySem.W.Frag} {a : Addr} {xs : List V} {g : TG} {tb : TS} {D : Ends} {σ : St} {H : Hp} (Pv : Nat→St→Hp→Prop) (h0 : Pv 0 σ H) (hl : ∀ i σ H,i≤xs.length→Pv i σ H→SqL K H a xs)
    (hs : ∀ i x σ H,xs[i]? = some x→Pv i σ H→g x σ H fun σ2 H2 => tb { D with nx:=Pv (i + 1),ct:=Pv (i + 1),bk:=D.nx } σ2 H2) (hd : ∀ σ H,Pv xs.length σ H→D.nx σ H) :
    ∃ W : Nat→Nat→St→Hp→Prop,(∃ m,W 0 m σ H)∧∀ i m σ H,W i m σ H →
      ((Itl K a).stop i H∧D.nx σ H)∨((Itl K a).go i H∧∃ N : St→Hp→Prop,(∀ σ' H',N σ' H'→∃ m',m' < m∧W (i + 1) m' σ' H')∧∀ x H',(Itl K a).yld i H x H'→g x σ H' fun σ2 H2 => tb { D with nx:=N,ct:=N,bk:=D.nx } σ2 H2) := by
  refine ⟨fun i m σ H => m = xs.length - i∧i≤xs.length∧Pv i σ H,⟨xs.length,by simp,Nat.zero_le _,h0⟩,?_⟩
  rintro i m σ H ⟨rfl,hi,p⟩
  have q:=hl i σ H hi p
  by_cases hlt : i < xs.length
  · refine .inr ⟨⟨xs,xs[i],q,by simp [hlt]⟩,Pv (i + 1),fun σ' H' p' => ⟨xs.length - (i + 1),by omega,rfl,hlt,p'⟩,fun x H' y => ?_⟩
    obtain ⟨e,y⟩:=y
    subst e
    exact hs i x σ _ (y xs q) p
  · have e : i = xs.length := by omega
    subst e
    exact .inl ⟨⟨xs,q,Nat.le_refl _⟩,hd σ H p⟩
theorem for_range {lo : Int} {n : Nat} {g : TG} {tb : TS} {D : Ends} {σ : St} {H : Hp} (Pv : Nat→St→Hp→Prop) (h0 : Pv 0 σ H)
    (hs : ∀ i σ H,i < n→Pv i σ H→g (.int (lo + i)) σ H fun σ2 H2 => tb { D with nx:=Pv (i + 1),ct:=Pv (i + 1),bk:=D.nx } σ2 H2) (hd : ∀ σ H,Pv n σ H→D.nx σ H) :
    ∃ W : Nat→Nat→St→Hp→Prop,(∃ m,W 0 m σ H)∧∀ i m σ H,W i m σ H →
      ((Itr lo n).stop i H∧D.nx σ H)∨((Itr lo n).go i H∧∃ N : St→Hp→Prop,(∀ σ' H',N σ' H'→∃ m',m' < m∧W (i + 1) m' σ' H')∧∀ x H',(Itr lo n).yld i H x H'→g x σ H' fun σ2 H2 => tb { D with nx:=N,ct:=N,bk:=D.nx } σ2 H2) := by
  refine ⟨fun i m σ H => m = n - i∧i≤n∧Pv i σ H,⟨n,by simp,Nat.zero_le _,h0⟩,?_⟩
  rintro i m σ H ⟨rfl,hi,p⟩
  by_cases hlt : i < n
  · refine .inr ⟨hlt,Pv (i + 1),fun σ' H' p' => ⟨n - (i + 1),by omega,rfl,hlt,p'⟩,fun x H' y => ?_⟩
    obtain ⟨e,y⟩:=y
    subst e y
    exact hs i σ _ hlt p
  · have e : i = n := by omega
    subst e
    exact .inl ⟨Nat.le_refl _,hd σ H p⟩
theorem while_by {c : TT} {tb : TS} {D : Ends} {σ : St} {H : Hp} (Pv : St→Hp→Prop) (μ : St→Hp→Nat) (h0 : Pv σ H)
    (hs : ∀ σ H,Pv σ H→c σ H fun b H1 => if b = true then tb { D with nx:=fun σ' H' => Pv σ' H'∧μ σ' H' < μ σ H,ct:=fun σ' H' => Pv σ' H'∧μ σ' H' < μ σ H,bk:=D.nx } σ H1 else D.nx σ H1)
    (mono : ∀ σ H Q Q',(∀ b H1,Q b H1→Q' b H1)→c σ H Q→c σ H Q') : tWhile c tb D σ H := by
  refine ⟨fun m σ H => m = μ σ H∧Pv σ H,⟨_,rfl,h0⟩,?_⟩
  rintro m σ H ⟨rfl,p⟩
  refine mono σ H _ _ (fun b H1 q => ?_) (hs σ H p)
  cases b with
  | true => exact ⟨_,fun σ' H' ⟨p',l⟩ => ⟨_,l,rfl,p'⟩,q⟩
  | false => exact q
abbrev R2:=V→V→Hp→VK→Prop
def OpR (X : Cx) (f : Value→Value→Sem Value) (r : R2) : Prop :=
  ∀ (pins : List (Addr×Obj)) (s : Shared) (σ : St) (H : Hp) (x y : V) (v u : Value) (Q : VK),Inv X pins σ H s→RelV x v→RelV y u→r x y H Q →
    wpAny (model X.prog X.w) X.A (f v u) (EP X pins σ Q) X.xe s
def UnR (X : Cx) (f : Value→Sem Value) (r : V→Hp→VK→Prop) : Prop :=
  ∀ (pins : List (Addr×Obj)) (s : Shared) (σ : St) (H : Hp) (x : V) (v : Value) (Q : VK),Inv X pins σ H s→RelV x v→r x H Q →
    wpAny (model X.prog X.w) X.A (f v) (EP X pins σ Q) X.xe s
def CallR (X : Cx) (f : Value) (r : List V→Hp→VK→Prop) : Prop :=
  ∀ (pins : List (Addr×Obj)) (s : Shared) (σ : St) (H : Hp) (xs : List V) (us : List Value) (Q : VK),Inv X pins σ H s→Vals xs us→r xs H Q →
    wpAny (model X.prog X.w) X.A (call f us) (EP X pins σ Q) X.xe s
def tOp (r : R2) (ta tb : TE) : TE:=fun σ H Q => ta σ H fun x H1 => tb σ H1 fun y H2 => r x y H2 Q
def tUn (r : V→Hp→VK→Prop) (ta : TE) : TE:=fun σ H Q => ta σ H fun x H1 => r x H1 Q
def rI (C : Int→Int→Prop) (g : Int→Int→V) : R2:=fun x y H Q => ∃ i j,x = .int i∧y = .int j∧C i j∧Q (g i j) H
def rI0 (g : Int→Int→V) : R2:=fun x y H Q => ∃ i j,x = .int i∧y = .int j∧Q (g i j) H
def rU (g : Int→V) : V→Hp→VK→Prop:=fun x H Q => ∃ i,x = .int i∧Q (g i) H
section
variable {X : Cx} {a b c : Expr} {ta tb tc : TE} {pos : Pos}
theorem binT (ha : PE X a ta) (hb : PE X b tb) {pins : List (Addr×Obj)} {s : Shared} {σ : St} {H : Hp} {R : V→V→Hp→Prop} (I : Inv X pins σ H s)
    (h : ta σ H fun x H1 => tb σ H1 fun y H2 => R x y H2) {Q : Value→Shared→Prop} {f : Value→Value→Sem Value}
    (hf : ∀ v u s2 x y H2,Inv X pins σ H2 s2→RelV x v→RelV y u→R x y H2→wpAny (model X.prog X.w) X.A (f v u) Q X.xe s2) :
    wpAny (model X.prog X.w) X.A (eval a X.env) (fun v s₁ => wpAny (model X.prog X.w) X.A (eval b X.env) (fun u s₂ => wpAny (model X.prog X.w) X.A (f v u) Q X.xe s₂) X.xe s₁) X.xe s := by
  refine thn (ha pins s σ H _ I h) fun v s1 ⟨x,H1,I1,r1,q1⟩ => ?_
  refine thn (hb pins s1 σ H1 _ I1 q1) fun u s2 ⟨y,H2,I2,r2,q2⟩ => ?_
  exact hf v u s2 x y H2 I2 r1 r2 q2
theorem pe_op {op : Operator} {r : R2} (ho : OpR X (binaryOp op) r) (ha : PE X a ta) (hb : PE X b tb) : PE X (.BinOp a op b pos) (tOp r ta tb) := by
  intro pins s σ H Q I h
  exact wpAny_BinOp (binT ha hb I h fun v u s2 x y H2 I2 rx ry q => ho pins s2 σ H2 x y v u Q I2 rx ry q)
theorem pe_un {op : UnaryOp} {r : V→Hp→VK→Prop} (ho : UnR X (unaryOp op) r) (ha : PE X a ta) : PE X (.UnaryOp op a pos) (tUn r ta) := by
  intro pins s σ H Q I h
  exact UnaryOp_ (thn (ha pins s σ H _ I h) fun v s1 ⟨x,H1,I1,r1,q1⟩ => ho pins s1 σ H1 x v Q I1 r1 q1)
theorem opI {f : Value→Value→Sem Value} {C : Int→Int→Prop} {g : Int→Int→Int}
    (rule : ∀ (i j : Int) (t u : Tok) (s : Shared) (Q : Value→Shared→Prop) (E : Value→Shared→Prop),C i j→Q (.int (g i j) s.toks) { s with toks:=s.toks + 1 }→wpAny (model X.prog X.w) X.A (f (.int i t) (.int j u)) Q E s) :
    OpR X f (rI C fun i j => .int (g i j)) := by
  intro pins s σ H x y v u Q I rx ry h
  obtain ⟨i,j,rfl,rfl,hc,q⟩:=h
  obtain ⟨t,rfl⟩:=rx
  obtain ⟨t',rfl⟩:=ry
  exact rule i j t t' s _ _ hc ⟨.int (g i j),H,I.tok _,⟨_,rfl⟩,q⟩
theorem opI0 {f : Value→Value→Sem Value} {g : Int→Int→Int}
    (rule : ∀ (i j : Int) (t u : Tok) (s : Shared) (Q : Value→Shared→Prop) (E : Value→Shared→Prop),Q (.int (g i j) s.toks) { s with toks:=s.toks + 1 }→wpAny (model X.prog X.w) X.A (f (.int i t) (.int j u)) Q E s) :
    OpR X f (rI0 fun i j => .int (g i j)) := by
  intro pins s σ H x y v u Q I rx ry h
  obtain ⟨i,j,rfl,rfl,q⟩:=h
  obtain ⟨t,rfl⟩:=rx
  obtain ⟨t',rfl⟩:=ry
  exact rule i j t t' s _ _ ⟨.int (g i j),H,I.tok _,⟨_,rfl⟩,q⟩
theorem opB0 {f : Value→Value→Sem Value} {g : Int→Int→Bool}
    (rule : ∀ (i j : Int) (t u : Tok) (s : Shared) (Q : Value→Shared→Prop) (E : Value→Shared→Prop),Q (.bool (g i j)) s→wpAny (model X.prog X.w) X.A (f (.int i t) (.int j u)) Q E s) :
    OpR X f (rI0 fun i j => .bl (g i j)) := by
  intro pins s σ H x y v u Q I rx ry h
  obtain ⟨i,j,rfl,rfl,q⟩:=h
  obtain ⟨t,rfl⟩:=rx
  obtain ⟨t',rfl⟩:=ry
  exact rule i j t t' s _ _ ⟨.bl (g i j),H,I,rfl,q⟩
def CDiv (i j : Int) : Prop:=0 < j∧j < 1073741824
def CPow (i j : Int) : Prop:=0≤j∧j≤1000000∧i.natAbs < 2 ^ 64
def CMul (i j : Int) : Prop:=(-(2 ^ 64) < i∧i < 2 ^ 64)∨(-(2 ^ 64) < j∧j < 2 ^ 64)
theorem CMul.ok {i j : Int} (h : CMul i j) : IntMulOk i j := by
  rcases h with ⟨h1,h2⟩ | ⟨h1,h2⟩
  · exact .of_left (intBits_le_64 h1 h2)
  · exact .of_right (intBits_le_64 h1 h2)
theorem op_add : OpR X (binaryOp .Add) (rI0 fun i j => .int (i + j)):=opI0 fun _ _ _ _ _ _ _ q => add_int q
theorem op_sub : OpR X (binaryOp .Sub) (rI0 fun i j => .int (i - j)):=opI0 fun _ _ _ _ _ _ _ q => sub_int q
theorem op_fdiv : OpR X (binaryOp .FloorDiv) (rI CDiv fun i j => .int (i / j)):=opI fun i j _ _ _ _ _ hc q => by
  have h1 : (0 : Int) < j:=hc.1
  have h2 : j < 1073741824:=hc.2
  exact floordiv_int (by omega) (by rw [Int.fdiv_eq_ediv_of_nonneg i (by omega)]; exact q) (.inl (PyProof.noPylong_small (by omega)))
theorem op_mod : OpR X (binaryOp .Mod) (rI (fun _ j => 0 < j) fun i j => .int (i % j)):=opI fun i j _ _ _ _ _ hc q => by
  have h1 : (0 : Int) < j:=hc
  exact mod_int' (by omega) (by rw [Int.fmod_eq_emod_of_nonneg i (by omega)]; exact q)
theorem op_modN : OpR X (binaryOp .Mod) (rI (fun _ j => j≠0) fun i j => .int (i.fmod j)):=opI fun _ _ _ _ _ _ _ hc q => mod_int' hc q
theorem op_pow : OpR X (binaryOp .Pow) (rI CPow fun i j => .int (i ^ j.toNat)):=opI fun _ _ _ _ _ _ _ hc q => pow_int_small hc.1 hc.2.1 hc.2.2 q
theorem unI {f : Value→Sem Value} {g : Int→Int}
    (rule : ∀ (i : Int) (t : Tok) (s : Shared) (Q : Value→Shared→Prop) (E : Value→Shared→Prop),Q (.int (g i) s.toks) { s with toks:=s.toks + 1 }→wpAny (model X.prog X.w) X.A (f (.int i t)) Q E s) :
    UnR X f (rU fun i => .int (g i)) := by
  intro pins s σ H x v Q I rx h
  obtain ⟨i,rfl,q⟩:=h
  obtain ⟨t,rfl⟩:=rx
  exact rule i t s _ _ ⟨.int (g i),H,I.tok _,⟨_,rfl⟩,q⟩
theorem un_neg : UnR X (unaryOp .USub) (rU fun i => .int (-i)):=unI fun _ _ _ _ _ q => neg_int q
end
def scal : V→V→Bool
  | .non,.non => true | .non,.int _ => true | .int _,.non => true | .non,.bl _ => true | .bl _,.non => true | .non,.str _ => true | .str _,.non => true
  | .int _,.int _ => true | .bl _,.bl _ => true | .str _,.str _ => true | .byt _,.byt _ => true
  | .int _,.str _ => true | .str _,.int _ => true | .bl _,.str _ => true | .str _,.bl _ => true
  | _,_ => false
def rEq : R2:=fun x y H Q => scal x y = true∧Q (.bl (decide (x = y))) H
def rNe : R2:=fun x y H Q => scal x y = true∧Q (.bl (!decide (x = y))) H
theorem dec_int {i j : Int} : decide (V.int i = V.int j) = (i == j) := by
  rw [Bool.eq_iff_iff]
  simp
theorem dec_bl {i j : Bool} : decide (V.bl i = V.bl j) = (i == j) := by
  rw [Bool.eq_iff_iff]
  simp
theorem dec_str {i j : Str} : decide (V.str i = V.str j) = (i == j) := by
  rw [Bool.eq_iff_iff]
  simp
theorem dec_byt {i j : Array UInt8} : decide (V.byt i = V.byt j) = (i.toList == j.toList) := by
  rw [Bool.eq_iff_iff]
  cases i
  cases j
  simp
section
variable {X : Cx} {a b c : Expr} {ta tb tc : TE} {pos : Pos}
theorem fin_bl {pins : List (Addr×Obj)} {σ : St} {H : Hp} {s : Shared} {Q : VK} {k k' : Bool} (I : Inv X pins σ H s) (q : Q (.bl k) H) (e : k = k') : EP X pins σ Q (.bool k') s := by
  subst e
  exact ⟨.bl k,H,I,rfl,q⟩
theorem op_eq : OpR X (compareOp .Eq) rEq := by
  intro pins s σ H x y v u Q I rx ry h
  obtain ⟨hs,q⟩:=h
  cases x with
  | non =>
    cases rx
    cases y with
    | non => cases ry; exact PySem.EqNone.eq_none_none (fin_bl I q (by simp))
    | bl j => cases ry; exact PySem.EqNone.eq_none_bool (fin_bl I q (by simp))
    | int j => obtain ⟨t',rfl⟩:=ry; exact PySem.EqNone.eq_none_int (fin_bl I q (by simp))
    | str j => obtain ⟨t',rfl⟩:=ry; exact PySem.EqNone.eq_none_str (fin_bl I q (by simp))
    | _ => exact absurd (show false = true from hs) Bool.false_ne_true
  | bl i =>
    cases rx
    cases y with
    | non => cases ry; exact PySem.EqNone.eq_bool_none (fin_bl I q (by simp))
    | bl j => cases ry; exact eq_bool (fin_bl I q dec_bl)
    | str j => obtain ⟨t',rfl⟩:=ry; exact PySem.EqMixed.eq_bool_str (fin_bl I q (by simp))
    | _ => exact absurd (show false = true from hs) Bool.false_ne_true
  | int i =>
    obtain ⟨t,rfl⟩:=rx
    cases y with
    | non => cases ry; exact PySem.EqNone.eq_int_none (fin_bl I q (by simp))
    | int j => obtain ⟨t',rfl⟩:=ry; exact eq_int (fin_bl I q dec_int)
    | str j => obtain ⟨t',rfl⟩:=ry; exact PySem.EqMixed.eq_int_str (fin_bl I q (by simp))
    | _ => exact absurd (show false = true from hs) Bool.false_ne_true
  | str i =>
    obtain ⟨t,rfl⟩:=rx
    cases y with
    | non => cases ry; exact PySem.EqNone.eq_str_none (fin_bl I q (by simp))
    | bl j => cases ry; exact PySem.EqMixed.eq_str_bool (fin_bl I q (by simp))
    | int j => obtain ⟨t',rfl⟩:=ry; exact PySem.EqMixed.eq_str_int (fin_bl I q (by simp))
    | str j => obtain ⟨t',rfl⟩:=ry; exact eq_str (fin_bl I q dec_str)
    | _ => exact absurd (show false = true from hs) Bool.false_ne_true
  | byt i =>
    obtain ⟨t,rfl⟩:=rx
    cases y with
    | byt j => obtain ⟨t',rfl⟩:=ry; exact PySem.W.eq_bytes (fin_bl I q dec_byt)
    | _ => exact absurd (show false = true from hs) Bool.false_ne_true
  | _ => cases y <;> exact absurd (show false = true from hs) Bool.false_ne_true
theorem op_ne : OpR X (compareOp .NotEq) rNe := by
  intro pins s σ H x y v u Q I rx ry h
  obtain ⟨hs,q⟩:=h
  cases x with
  | non =>
    cases rx
    cases y with
    | non => cases ry; exact PySem.EqNone.ne_none_none (fin_bl I q (by simp))
    | bl j => cases ry; exact PySem.EqNone.ne_none_bool (fin_bl I q (by simp))
    | int j => obtain ⟨t',rfl⟩:=ry; exact PySem.EqNone.ne_none_int (fin_bl I q (by simp))
    | str j => obtain ⟨t',rfl⟩:=ry; exact PySem.EqNone.ne_none_str (fin_bl I q (by simp))
    | _ => exact absurd (show false = true from hs) Bool.false_ne_true
  | bl i =>
    cases rx
    cases y with
    | non => cases ry; exact PySem.EqNone.ne_bool_none (fin_bl I q (by simp))
    | bl j => cases ry; exact ne_bool (fin_bl I q (congrArg not dec_bl))
    | str j => obtain ⟨t',rfl⟩:=ry; exact PySem.EqMixed.ne_bool_str (fin_bl I q (by simp))
    | _ => exact absurd (show false = true from hs) Bool.false_ne_true
  | int i =>
    obtain ⟨t,rfl⟩:=rx
    cases y with
    | non => cases ry; exact PySem.EqNone.ne_int_none (fin_bl I q (by simp))
    | int j => obtain ⟨t',rfl⟩:=ry; exact ne_int (fin_bl I q (congrArg not dec_int))
    | str j => obtain ⟨t',rfl⟩:=ry; exact PySem.EqMixed.ne_int_str (fin_bl I q (by simp))
    | _ => exact absurd (show false = true from hs) Bool.false_ne_true
  | str i =>
    obtain ⟨t,rfl⟩:=rx
    cases y with
    | non => cases ry; exact PySem.EqNone.ne_str_none (fin_bl I q (by simp))
    | bl j => cases ry; exact PySem.EqMixed.ne_str_bool (fin_bl I q (by simp))
    | int j => obtain ⟨t',rfl⟩:=ry; exact PySem.EqMixed.ne_str_int (fin_bl I q (by simp))
    | str j => obtain ⟨t',rfl⟩:=ry; exact ne_str (fin_bl I q (congrArg not dec_str))
    | _ => exact absurd (show false = true from hs) Bool.false_ne_true
  | byt i =>
    obtain ⟨t,rfl⟩:=rx
    cases y with
    | byt j => obtain ⟨t',rfl⟩:=ry; exact PySem.W.ne_bytes (fin_bl I q (congrArg not dec_byt))
    | _ => exact absurd (show false = true from hs) Bool.false_ne_true
  | _ => cases y <;> exact absurd (show false = true from hs) Bool.false_ne_true
theorem op_lt : OpR X (compareOp .Lt) (rI0 fun i j => .bl (decide (i < j))):=opB0 fun _ _ _ _ _ _ _ q => lt_int q
theorem op_gt : OpR X (compareOp .Gt) (rI0 fun i j => .bl (decide (j < i))):=opB0 fun _ _ _ _ _ _ _ q => gt_int q
theorem op_ge : OpR X (compareOp .GtE) (rI0 fun i j => .bl (decide (j≤i))):=opB0 fun _ _ _ _ _ _ _ q => ge_int q
theorem op_notN : OpR X (compareOp .IsNot) (fun x y H Q => y = .non∧Q (.bl (!decide (x = .non))) H) := by
  intro pins s σ H x y v u Q I rx ry h
  obtain ⟨rfl,q⟩:=h
  cases ry
  refine isnot_none_gen (fin_bl I q ?_)
  cases x <;> first
    | (cases rx; rfl)
    | (obtain ⟨t,rfl⟩:=rx; rfl)
theorem OpR.or {f : Value→Value→Sem Value} {r r' : R2} (h : OpR X f r) (h' : OpR X f r') : OpR X f (fun x y H Q => r x y H Q∨r' x y H Q) := by
  intro pins s σ H x y v u Q I rx ry q
  rcases q with q | q
  · exact h pins s σ H x y v u Q I rx ry q
  · exact h' pins s σ H x y v u Q I rx ry q
theorem nomark (b : Expr) {op : CmpOp} (h : op≠.In := by decide) (h2 : op≠.NotIn := by decide) : behindInMarks op b = false := by
  have e1 : (op == CmpOp.In) = false := by cases op <;> first | rfl | exact absurd rfl h
  have e2 : (op == CmpOp.NotIn) = false := by cases op <;> first | rfl | exact absurd rfl h2
  cases b <;> simp [behindInMarks,e1,e2]
theorem pe_cmpR {op : CmpOp} {r : R2} (ho : OpR X (compareOp op) r) (ha : PE X a ta) (hb : PE X b tb) (hm : behindInMarks op b = false) : PE X (.Compare a [op] [b] pos) (tOp r ta tb) := by
  intro pins s σ H Q I h
  exact wpAny_Compare1 (binT ha hb I h fun v u s2 x y H2 I2 rx ry q => ho pins s2 σ H2 x y v u Q I2 rx ry q) hm
def tTest (t : TE) : TT:=fun σ H Q => t σ H fun x H' => ∃ k,x = .bl k∧Q k H'
theorem pt_cmpR {op : CmpOp} {r : R2} (ho : OpR X (compareOp op) r) (ha : PE X a ta) (hb : PE X b tb) (hm : behindInMarks op b = false) : PT X (.Compare a [op] [b] pos) (tTest (tOp r ta tb)) := by
  intro pins s σ H Q I h
  refine wpAny_isTrue_Compare1 (thn (ha pins s σ H _ I h) fun v s1 ⟨x,H1,I1,r1,q1⟩ => thn (hb pins s1 σ H1 _ I1 q1) fun u s2 ⟨y,H2,I2,r2,q2⟩ =>
    thn (ho pins s2 σ H2 x y v u _ I2 r1 r2 q2) fun c s3 ⟨z,H3,I3,r3,k,e,q3⟩ => ?_) hm
  subst e
  cases r3
  exact wpAny_truthy_bool ⟨H3,I3,q3⟩
theorem line63 : (sizeLine : Nat) < 2 ^ 63 := by rw [sizeLine_eq]; decide
theorem op_add_str : OpR X (binaryOp .Add) (fun x y H Q => ∃ i j,x = .str i∧y = .str j∧i.length + j.length≤sizeLine∧Q (.str (i ++ j)) H) := by
  intro pins s σ H x y v u Q I rx ry h
  obtain ⟨i,j,rfl,rfl,hz,q⟩:=h
  obtain ⟨t,rfl⟩:=rx
  obtain ⟨t',rfl⟩:=ry
  exact add_str (fun t' tk => ⟨.str (i ++ j),H,I.tok _,⟨_,rfl⟩,q⟩) hz
theorem vals1 {x : V} {us : List Value} (r : Vals [x] us) : ∃ u,us = [u]∧RelV x u := by
  cases r with
  | cons r1 r2 => cases r2; exact ⟨_,rfl,r1⟩
theorem call_abs : CallR X (.builtin "abs") (fun xs H Q => ∃ i,xs = [.int i]∧Q (.int (if i < 0 then -i else i)) H) := by
  intro pins s σ H xs us Q I r h
  obtain ⟨i,rfl,q⟩:=h
  obtain ⟨u,rfl,t,rfl⟩:=vals1 r
  exact call_abs_int fun u tk => ⟨.int (if i < 0 then -i else i),H,I.tok _,⟨_,rfl⟩,q⟩
theorem call_int1 : CallR X (.type "int") (fun xs H Q => (∃ i,xs = [.int i]∧Q (.int i) H)∨∃ k,xs = [.bl k]∧Q (.int (if k then 1 else 0)) H) := by
  intro pins s σ H xs us Q I r h
  rcases h with ⟨i,rfl,q⟩ | ⟨k,rfl,q⟩
  · obtain ⟨u,rfl,t,rfl⟩:=vals1 r
    exact call_int_int ⟨.int i,H,I,⟨_,rfl⟩,q⟩
  · obtain ⟨u,rfl,r1⟩:=vals1 r
    cases r1
    exact call_int_bool ⟨.int (if k then 1 else 0),H,I.tok _,⟨_,rfl⟩,q⟩
end
structure ObjM (h : Heap) (x dx C : Addr) (mA : Str→Option Value) : Prop where
  obj : h.get? x = some (PySem.W.instObj C dx)
  ns : h.Ns1 dx mA
  ne : dx≠x
theorem lookIn_ns {h : Heap} {dx : Addr} {mA : Str→Option Value} (n : h.Ns1 dx mA) : ∃ od,h.get? dx = some od∧∀ name,PySem.W.lookIn name od = some (mA name) := by
  obtain ⟨o,es,ep,ho,hd,hk,_,hm⟩:=n
  refine ⟨o,ho,fun name => ?_⟩
  have e:=hm name
  unfold nsFind findBy at e
  rw [← Array.find?_toList] at e
  unfold PySem.W.lookIn
  rw [hd]
  dsimp only
  split
  · rename_i y q
    rw [q] at e
    exact congrArg some e
  · rename_i q
    rw [q] at e
    have a : es.toList.any (·.refKey) = false := by
      rw [List.any_eq_false]
      intro y hy
      obtain ⟨z,t,hkey⟩:=hk y (Array.mem_toList_iff.mp hy)
      simp [DictEntry.refKey,hkey]
    have a' : ¬ es.toList.any (·.refKey) = true := by rw [a]; exact Bool.false_ne_true
    rw [if_neg a']
    exact congrArg some e
theorem ObjM.look {h : Heap} {x dx C : Addr} {mA : Str→Option Value} (I : ObjM h x dx C mA) : ∃ od,PySem.W.InstAt h x (PySem.W.instObj C dx) C (some od)∧∀ name,PySem.W.lookIn name od = some (mA name) :=
  let ⟨od,ho,hl⟩:=lookIn_ns I.ns
  ⟨od,⟨I.obj,rfl,rfl,ho⟩,hl⟩
section
variable {P : Program} {w : World} {H H' : Hp} {h h' : Heap} {a C dx : Addr} {fs fs' : List (Str×V)}
theorem ins_get (hok : HOk P w H h) (e : H a = some (.ins C dx fs)) : ∃ mA,ObjM h a dx C mA∧(∀ f,RelO (fs.lookup f) (mA f))∧PySem.Within mA (fs.map (·.1))∧fs.length≤1000∧H dx = some (.own a) := by
  obtain ⟨d,z,ne,ob,mA,n,r,q⟩:=(show ObjOk P w H h a (.ins C dx fs) from hok a _ e)
  exact ⟨mA,⟨ob,n,ne⟩,r,q,z,d⟩
end
structure Cls (K : PySem.W.Frag) (C : Addr) : Prop where
  pg : PySem.W.plainGet K C Str.empty = true
  hd : PySem.W.hasDictIn K C = true
  po : PySem.W.plainOver K C = true
  sa : PySem.W.findIn K (.ref C) "__setattr__" = some (some (.builtin "object.__setattr__"))
theorem Cls.get {K : PySem.W.Frag} {C : Addr} (c : Cls K C) (f : Str) : PySem.W.plainGet K C f = true:=c.pg
section
variable {X : Cx} {pins : List (Addr×Obj)} {σ : St} {H : Hp} {s : Shared} {A : Around} {E : Value→Shared→Prop} {Q : Value→Shared→Prop} {c : Value} {b : Bool}
inductive TyOf (K : PySem.W.Frag) (H : Hp) : V→Value→Prop where
  | non : TyOf K H .non (.type "NoneType")
  | bl (x : Bool) : TyOf K H (.bl x) (.type "bool")
  | int (i : Int) : TyOf K H (.int i) (.type "int")
  | str (x : Str) : TyOf K H (.str x) (.type "str")
  | flt (x : UInt64) : TyOf K H (.flt x) (.type "float")
  | lst {a : Addr} {xs : List V} (e : H a = some (.lst xs)) : TyOf K H (.ref a) (.type "list")
  | frz {a : Addr} {o : Obj} {xs : List V} (e : H a = some (.frz o (.lst xs))) : TyOf K H (.ref a) (.type "list")
  | tup {a : Addr} {xs : List V} (e : H a = some (.tup xs)) : TyOf K H (.ref a) (.type "tuple")
  | dK {a : Addr} {kvs : List (Key×V)} (e : H a = some (.dK kvs)) : TyOf K H (.ref a) (.type "dict")
  | dT {a : Addr} {kvs : List (List Key×V)} (e : H a = some (.dT kvs)) : TyOf K H (.ref a) (.type "dict")
  | ins {a C dx : Addr} {fs : List (Str×V)} (e : H a = some (.ins C dx fs)) (cl : Cls K C) (ha : PySem.W.findIn K (.ref C) "__class__" = some (some (.builtin "object.__class__")))
      (hn : PySem.W.specialIn K (.builtin "object.__class__") "__get__" = some (some (.builtin "getset_descriptor.__get__"))) (htk : PySem.W.takesIn K (.builtin "object.__class__") = some true)
      (hm : PySem.W.mroIn K C (.type "object") = some true) : TyOf K H (.ref a) (.ref C)
theorem isinst_ok {x : V} {u t : Value} (I : Inv X pins σ H s) (rx : RelV x u) (ty : TyOf X.K H x t) (e : PySem.W.kitOne X.K t c = some b) (h : ∀ tk,Q (.bool b) { s with toks:=tk }) :
    wpAny (model X.prog X.w) A (call (.builtin "isinstance") [u,c]) Q E s := by
  cases ty with
  | non => cases (show u = Value.none from rx); exact PySem.W.kia_one PySem.W.kitx_none I.kIn True.intro e (fun z => nomatch z) h
  | bl y => cases (show u = Value.bool y from rx); exact PySem.W.kia_one PySem.W.kitx_bool I.kIn True.intro e (fun z => nomatch z) h
  | int i => obtain ⟨t,q⟩:=(show ∃ t,u = Value.int i t from rx); cases q; exact PySem.W.kia_one PySem.W.kitx_int I.kIn True.intro e (fun z => nomatch z) h
  | str y => obtain ⟨t,q⟩:=(show ∃ t,u = Value.str y t from rx); cases q; exact PySem.W.kia_one PySem.W.kitx_str I.kIn True.intro e (fun z => nomatch z) h
  | flt y => obtain ⟨t,q⟩:=(show ∃ t,u = Value.float y t from rx); cases q; exact PySem.W.kia_one PySem.W.kitx_float I.kIn True.intro e (fun z => nomatch z) h
  | @lst a xs ea =>
    cases (show u = Value.ref a from rx)
    obtain ⟨_,_,n,_,h1⟩:=(show ObjOk X.prog X.w H s.heap a (.lst xs) from I.hok a _ ea)
    exact PySem.W.kia_one PySem.W.kitx_list I.kIn ⟨_,h1,rfl⟩ e (fun z => nomatch z) h
  | @frz a ob xs ea =>
    cases (show u = Value.ref a from rx)
    obtain ⟨_,_,_,n,_,h1⟩:=(show ObjOk X.prog X.w H s.heap a (.frz ob (.lst xs)) from I.hok a _ ea)
    exact PySem.W.kia_one PySem.W.kitx_list I.kIn ⟨_,h1,rfl⟩ e (fun z => nomatch z) h
  | @tup a xs ea =>
    cases (show u = Value.ref a from rx)
    obtain ⟨_,_,_,p⟩:=(show ObjOk X.prog X.w H s.heap a (.tup xs) from I.hok a _ ea)
    obtain ⟨o,h1,h2,_⟩:=p
    exact PySem.W.kia_one PySem.W.kitx_tuple I.kIn ⟨o,h1,h2⟩ e (fun z => nomatch z) h
  | @dK a kvs ea =>
    cases (show u = Value.ref a from rx)
    obtain ⟨_,_,vs,_,p⟩:=(show ObjOk X.prog X.w H s.heap a (.dK kvs) from I.hok a _ ea)
    obtain ⟨o,es,ep,h1,h2,_⟩:=p
    exact PySem.W.kia_one PySem.W.kitx_dict I.kIn ⟨o,h1,h2.1⟩ e (fun z => nomatch z) h
  | @dT a kvs ea =>
    cases (show u = Value.ref a from rx)
    obtain ⟨_,_,xs,_,o,es,ep,h1,h2,_⟩:=(show ObjOk X.prog X.w H s.heap a (.dT kvs) from I.hok a _ ea)
    exact PySem.W.kia_one PySem.W.kitx_dict I.kIn ⟨o,h1,h2.1⟩ e (fun z => nomatch z) h
  | @ins a C dx fs ea cl ha hn htk hm =>
    cases (show u = Value.ref a from rx)
    obtain ⟨mA,O,_⟩:=ins_get I.hok ea
    obtain ⟨od,J,_⟩:=O.look
    exact PySem.W.kia_one (PySem.W.kitx_own (cl.get _) cl.hd ha hn htk hm) I.kIn J e (fun z => nomatch z) h
end
structure Room (k : Nat) (A : Around) : Prop where
  hd : A.handled = none
  dp : A.depth + 3 * k + 5 < recursionLimit
  un : A.units + 16 * k + 200 < cLine
theorem Room.mono {j k : Nat} {A : Around} (r : Room k A) (h : j≤k) : Room j A:=⟨r.hd,by have:=r.dp; omega,by have:=r.un; omega⟩
theorem Room.deeper {k : Nat} {A : Around} (r : Room (k + 1) A) (env : Env) : Room k (A.deeper env) :=
  ⟨r.hd,by have:=r.dp; show A.depth + 1 + 3 * k + 5 < _; omega,by have:=r.un; show A.units + 3 + 16 * k + 200 < _; omega⟩
theorem Room.depth {k : Nat} {A : Around} (r : Room k A) : A.depth < recursionLimit := by have:=r.dp; omega
theorem Room.units {k : Nat} {A : Around} (r : Room k A) : A.units + 64 < cLine := by have:=r.un; omega
def tNil : TA:=fun _ H Q => Q [] H
def tCons (ta : TE) (tr : TA) : TA:=fun σ H Q => ta σ H fun x H1 => tr σ H1 fun xs H2 => Q (x :: xs) H2
section
variable {X : Cx} {e : Expr} {es : List Expr} {te : TE} {t : TA} {pos : Pos}
theorem pa_nil : PA X [] tNil:=fun _ _ _ _ H Q I h => Calls.spliced_nil ⟨[],H,I,.nil,h⟩
theorem pa_cons (ha : PE X e te) (hr : PA X es t) (hs : starEach (e :: es) X.env = (false,eval e X.env) :: starEach es X.env := by rfl) : PA X (e :: es) (tCons te t) := by
  intro pos pins s σ H Q I h
  rw [hs]
  show wpAny _ _ (spliced ((false,eval e X.env) :: backTo pos (starEach es X.env))) _ _ s
  refine Calls.spliced_cons (thn (ha pins s σ H _ I h) fun u s1 ⟨x,H1,I1,r1,q1⟩ => ?_)
  exact thn (hr pos pins s1 σ H1 _ I1 q1) fun us s2 ⟨xs,H2,I2,r2,q2⟩ => ⟨x :: xs,H2,I2,.cons r1 r2,q2⟩
def tTup (t : TA) : TE:=fun σ H Q => t σ H fun xs H1 => xs.length≤sizeLine∧∀ p,H1 p = none→Q (.ref p) (upd H1 p (.tup xs))
def tLst (t : TA) : TE:=fun σ H Q => t σ H fun xs H1 => xs.length≤sizeLine∧∀ p,H1 p = none→Q (.ref p) (upd H1 p (.lst xs))
theorem pe_tup {x1} (h : PA X es t) : PE X (.Tuple es x1 pos) (tTup t) := by
  intro pins s σ H Q I hq
  refine wpAny_Tuple_spliced (thn (h pos pins s σ H _ I hq) fun us s1 ⟨xs,H1,I1,r,z,q⟩ => ⟨by rw [← r.length]; exact z,?_⟩)
  have hf : H1 s1.heap.objs.size = none:=I1.hok.fresh (Nat.le_refl _)
  refine ⟨.ref s1.heap.objs.size,upd H1 s1.heap.objs.size (.tup xs),I1.laid (t':=s1.toks) (fun b u e => Heap.get?_push_of_some _ e) (Nat.le_refl _) ?_,rfl,q _ hf⟩
  exact ⟨z,us,r,⟨_,Heap.get?_push_size _ rfl,rfl,_,rfl⟩⟩
theorem pe_lst (h : PA X es t) : PE X (.List es pos) (tLst t) := by
  intro pins s σ H Q I hq
  refine wpAny_List_spliced (thn (h pos pins s σ H _ I hq) fun us s1 ⟨xs,H1,I1,r,z,q⟩ => ⟨by rw [← r.length]; exact z,?_⟩)
  have hf : H1 s1.heap.objs.size = none:=I1.hok.fresh (Nat.le_refl _)
  refine ⟨.ref s1.heap.objs.size,upd H1 s1.heap.objs.size (.lst xs),I1.laid (t':=s1.toks) (fun b u e => Heap.get?_push_of_some _ e) (Nat.le_refl _) ?_,rfl,q _ hf⟩
  exact ⟨z,us,0,r,Heap.get?_push_size _ rfl⟩
end
abbrev Sp:=List V→Hp→VK→XK→Prop
abbrev CXT:=List Env→Hp→Shared→XK→Value→Shared→Prop
structure Env0 (P : Program) (w : World) (K : PySem.W.Frag) (mg : Str→Option Value) (base : Heap) (A : Around) (outer : List Env) (s : Shared) (H : Hp) : Prop where
  frames : A.frames = some outer
  mod : Mod K mg base
  bs : ∀ b o,base.get? b = some o→s.heap.get? b = some o∧H b = none
  bsz : base.objs.size≤s.heap.objs.size
  funs : s.heap.FunFrames base outer
  frf : ∀ b∈frs outer,H b = none
  hok : HOk P w H s.heap
  bare : AllBare s.gens
def CE (outer : List Env) (P : Program) (w : World) (H : Hp) (s : Shared) (Q : VK) (u : Value) (s' : Shared) : Prop :=
  ∃ v H',s'.os = s.os∧AllBare s'.gens∧Un (frs outer) [] H H' s.heap s'.heap∧HOk P w H' s'.heap∧RelV v u∧Q v H'
def CR (CX : CXT) (outer : List Env) (P : Program) (w : World) (H : Hp) (s : Shared) (Q : VK) (E : XK) (r : Result) (s' : Shared) : Prop :=
  match r with
  | .ok (.ret u) => CE outer P w H s Q u s'
  | .ok _ => False
  | .error e => CX outer H s E e s'
structure FnOk (P : Program) (w : World) (K : PySem.W.Frag) (mg : Str→Option Value) (base : Heap) (CX : CXT) (k : Nat) (f : Addr) (fd : FuncData) (ps : List Str) (sp : Sp) : Prop where
  len : ∀ vs H Q E,sp vs H Q E→vs.length = ps.length
  run : ∀ (A : Around) (outer : List Env) (s : Shared) (H : Hp) (args : Args) (us : List Value) (vs : List V) (Q : VK) (E : XK),Room k A→Env0 P w K mg base A outer s H→BindsTo s fd args (ps.zip us)→Vals vs us→sp vs H Q E →
    codeAny (model P w) A (.call (.ref f) args) (CR CX outer P w H s Q E) s
theorem FnOk.mono {P : Program} {w : World} {K : PySem.W.Frag} {mg : Str→Option Value} {base : Heap} {CX : CXT} {j k : Nat} {f : Addr} {fd : FuncData} {ps : List Str} {sp : Sp} (F : FnOk P w K mg base CX j f fd ps sp) (h : j≤k) :
    FnOk P w K mg base CX k f fd ps sp:=⟨F.len,fun A outer s H args us vs Q E hr => F.run A outer s H args us vs Q E (hr.mono h)⟩
theorem FnOk.imp {P : Program} {w : World} {K : PySem.W.Frag} {mg : Str→Option Value} {base : Heap} {CX : CXT} {k : Nat} {f : Addr} {fd : FuncData} {ps : List Str} {sp sp' : Sp} (F : FnOk P w K mg base CX k f fd ps sp)
    (h : ∀ vs H Q E,sp' vs H Q E→sp vs H Q E) : FnOk P w K mg base CX k f fd ps sp' :=
  ⟨fun vs H Q E q => F.len vs H Q E (h _ _ _ _ q),fun A outer s H args us vs Q E hr he hb hv hs => F.run A outer s H args us vs Q E hr he hb hv (h _ _ _ _ hs)⟩
section
variable {X : Cx} {pins : List (Addr×Obj)} {σ : St} {H : Hp} {s s' : Shared}
theorem Inv.env0 (I : Inv X pins σ H s) : Env0 X.prog X.w X.K X.mg X.base X.A X.stack s H :=
  ⟨I.ok.frames,I.ok.mod,I.bs,Nat.le_trans I.ok.bsz I.sz,I.stack,I.stkFree,I.hok,I.bare⟩
theorem Inv.after {Q : VK} {u : Value} (I : Inv X pins σ H s) (h : CE X.stack X.prog X.w H s Q u s') : EP X pins σ Q u s' := by
  obtain ⟨v,H',os,bare,un,hok,r,q⟩:=h
  obtain ⟨hh,g,d,t,os'⟩:=s'
  obtain rfl : os' = s.os:=os
  exact ⟨v,H',I.call (h':=hh) (g':=g) (d':=d) (t':=t) (ch:=[]) un hok bare (fun b z => absurd z (by simp)),r,q⟩
end
def tCall (sp : Sp) (dvs : List V) (E : XK) (t : TA) : TE:=fun σ H Q => t σ H fun vs H1 => sp (vs ++ dvs) H1 Q E
def Binds (K : PySem.W.Frag) (fd : FuncData) (ps : List Str) (ds : List Value) : Prop :=
  ∀ (s : Shared) (us : List Value),K.In s.heap→(us ++ ds).length = ps.length→BindsTo s fd ⟨us,[]⟩ (ps.zip (us ++ ds))
theorem Binds.all {K : PySem.W.Frag} {fd : FuncData} {ps : List Str} (h : ∀ us : List Value,us.length = ps.length→bindArgs fd ⟨us,[]⟩ = pure (ps.zip us)) : Binds K fd ps []:=fun s us _ hl => by
  rw [List.append_nil] at hl ⊢
  exact .of_eq (h us hl)
def Passes (CX : CXT) (X : Cx) (E : XK) : Prop:=∀ (pins : List (Addr×Obj)) (σ : St) (H : Hp) (s : Shared) (e : Value) (s' : Shared),Inv X pins σ H s→CX X.stack H s E e s'→X.xe e s'
section
variable {X : Cx} {CX : CXT} {k : Nat} {f C : Addr} {fd : FuncData} {ps : List Str} {sp : Sp} {dvs : List V} {ds : List Value} {E : XK} {x m : Str} {p pos apos : Pos} {e o : Expr} {es : List Expr} {ta : TE} {t : TA}
theorem run_fn {pins : List (Addr×Obj)} {σ : St} {H : Hp} {s : Shared} {Q : VK} {us : List Value} {vs : List V} (F : FnOk X.prog X.w X.K X.mg X.base CX k f fd ps sp) (hr : Room k X.A) (hb : Binds X.K fd ps ds) (hd : Vals dvs ds) (hx : Passes CX X E)
    (I : Inv X pins σ H s) (r : Vals vs us) (h : sp (vs ++ dvs) H Q E) : wpAny (model X.prog X.w) X.A (call (.ref f) us) (EP X pins σ Q) X.xe s := by
  have r2 : Vals (vs ++ dvs) (us ++ ds):=r.append hd
  have hl : (us ++ ds).length = ps.length := by rw [← r2.length]; exact F.len _ _ _ _ h
  refine wpAny_call (codeAny_mono (F.run X.A X.stack s H ⟨us,[]⟩ (us ++ ds) (vs ++ dvs) Q E hr I.env0 (hb s us I.kIn hl) r2 h) fun r s' hq => ?_)
  cases r with
  | error e => exact hx pins σ H s e s' I hq
  | ok fl =>
    cases fl with
    | ret u => exact I.after hq
    | next => exact False.elim hq
    | brk => exact False.elim hq
    | cont => exact False.elim hq
theorem pe_call (F : FnOk X.prog X.w X.K X.mg X.base CX k f fd ps sp) (hr : Room k X.A) (hg : Gl X x) (hm : X.mg x = some (.ref f)) (hk : PySem.W.keepIn X.K (.ref f) = true) (hb : Binds X.K fd ps ds) (hd : Vals dvs ds) (hx : Passes CX X E)
    (ha : PA X (e :: es) t) (hdb : (x == ("__debug__" : Str)) = false := by decide) (he : starEach (e :: es) X.env = (false,eval e X.env) :: starEach es X.env := by rfl) (hpl : (backTo pos (starEach es X.env)).any (·.1) = false := by rfl) :
    PE X (.Call (.Name x p) (e :: es) [] pos) (tCall sp dvs E t) := by
  intro pins s σ H Q I h
  refine wpAny_Call_Name_kw (ld_glob I hg hm ?_ hdb)
  refine PySem.W.callWith_K (h₀:=X.base) I.ok.mod.kin hk (thn (ha pos pins s σ H _ I h) fun us s1 ⟨vs,H1,I1,r,q⟩ => ⟨I1.kIn,?_⟩) he hpl
  exact run_fn F hr hb hd hx I1 r q
end
structure FnScope (N P : List Str) (sc : Scope) : Prop where
  kind : sc.kind = .function
  co : sc.isCoroutine = false
  gen : sc.isGenerator = false
  nd : N.Nodup
  pre : N.take P.length = P
  par : ∀ x∈P,sc.names.lookup x = some .local∨sc.names.lookup x = some .cell
  nofree : ∀ y∈sc.names,y.2≠.free
theorem bindL_out {kindOf : Str→Option NameKind} {x : Str} : ∀ {binds : List (Str×Value)} {m : Str→Option Value},(∀ v,(x,v) ∉ binds)→bindL kindOf binds m x = m x
  | [],_,_ => rfl
  | (n,v) :: r,m,h => by
    unfold bindL
    rw [bindL_out fun w hw => h w (List.mem_cons_of_mem _ hw)]
    split
    · have : x≠n := by rintro rfl; exact h v List.mem_cons_self
      simp [this]
    · rfl
theorem bindC_out {kindOf : Str→Option NameKind} {x : Str} : ∀ {binds : List (Str×Value)} {m : Str→Option Value},(∀ v,(x,v) ∉ binds)→bindC kindOf binds m x = m x
  | [],_,_ => rfl
  | (n,v) :: r,m,h => by
    unfold bindC
    rw [bindC_out fun w hw => h w (List.mem_cons_of_mem _ hw)]
    split
    · rfl
    · have : x≠n := by rintro rfl; exact h v List.mem_cons_self
      simp [this]
theorem bindL_get {kindOf : Str→Option NameKind} {x : Str} {v : Value} : ∀ {P : List Str} {vs : List Value} {i : Nat} {m : Str→Option Value},P.Nodup→P[i]? = some x→vs[i]? = some v→kindOf x = some .local →
    bindL kindOf (P.zip vs) m x = some v
  | [],_,_,_,_,h,_,_ => by simp at h
  | _ :: _,[],_,_,_,_,h,_ => by simp at h
  | p :: P,w :: vs,0,m,nd,h1,h2,hk => by
    simp at h1 h2; subst h1; subst h2
    show bindL kindOf ((p,w) :: P.zip vs) m p = _
    unfold bindL
    rw [bindL_out fun v hv => (List.nodup_cons.mp nd).1 (List.of_mem_zip hv).1,if_pos hk]
    simp
  | p :: P,w :: vs,i + 1,m,nd,h1,h2,hk => by
    show bindL kindOf ((p,w) :: P.zip vs) m x = _
    unfold bindL
    exact bindL_get (i:=i) (List.nodup_cons.mp nd).2 (by simpa using h1) (by simpa using h2) hk
theorem bindC_get {kindOf : Str→Option NameKind} {x : Str} {v : Value} : ∀ {P : List Str} {vs : List Value} {i : Nat} {m : Str→Option Value},P.Nodup→P[i]? = some x→vs[i]? = some v→kindOf x≠some .local →
    bindC kindOf (P.zip vs) m x = some v
  | [],_,_,_,_,h,_,_ => by simp at h
  | _ :: _,[],_,_,_,_,h,_ => by simp at h
  | p :: P,w :: vs,0,m,nd,h1,h2,hk => by
    simp at h1 h2; subst h1; subst h2
    show bindC kindOf ((p,w) :: P.zip vs) m p = _
    unfold bindC
    rw [bindC_out fun v hv => (List.nodup_cons.mp nd).1 (List.of_mem_zip hv).1,if_neg hk]
    simp
  | p :: P,w :: vs,i + 1,m,nd,h1,h2,hk => by
    show bindC kindOf ((p,w) :: P.zip vs) m x = _
    unfold bindC
    exact bindC_get (i:=i) (List.nodup_cons.mp nd).2 (by simpa using h1) (by simpa using h2) hk
def start (N : List Str) (vs : List V) : St:=vs.map some ++ List.replicate (N.length - vs.length) none
def cxOf (CX : CXT) (P : Program) (w : World) (K : PySem.W.Frag) (mg : Str→Option Value) (base : Heap) (N : List Str) (qual : Str) (scope : Scope) (f : Addr) (cd : Value) (A : Around) (outer : List Env) (s : Shared) (H : Hp) (E : XK) : Cx where
  prog:=P
  w:=w
  K:=K
  mg:=mg
  base := base
  A:=A.deeper (envOfC qual scope s.heap.objs.size f cd)
  N:=N
  s₀:=s
  H₀:=H
  env:=envOfC qual scope s.heap.objs.size f cd
  outer:=outer
  stack:=envOfC qual scope s.heap.objs.size f cd :: outer
  ex:=[]
  calm:=true
  fn:=fun _ => true
  pn:=[]
  xe:=fun e s' => wpAny (model P w) (A.deeper (envOfC qual scope s.heap.objs.size f cd)) (leaving (envOfC qual scope s.heap.objs.size f cd) e) (fun _ s'' => CX outer H s E e s'') (fun e' s'' => CX outer H s E e' s'') s'
theorem cell_has {sc : Scope} {n : Nat} {x : Str} (h : sc.names.lookup x = some .cell) : ∃ c,(cellsFrom n sc.names []).lookup x = some c := by
  have q:=PySem.W.cellsFrom_some sc.names n [] (.inl h)
  exact Option.isSome_iff_exists.mp q
theorem inv_start {CX : CXT} {P : Program} {w : World} {K : PySem.W.Frag} {mg : Str→Option Value} {base : Heap} {N ps : List Str} {qual : Str} {scope : Scope} {f : Addr} {cd : Value} {A : Around} {outer : List Env} {s s1 : Shared} {H : Hp} {E : XK} {us : List Value} {vs : List V}
    (S : FnScope N ps scope) (hd : A.handled = none) (e0 : Env0 P w K mg base A outer s H) (hl : vs.length = ps.length) (r : Vals vs us)
    (x : InCallC s s.heap.objs.size (bindL (envOfC qual scope s.heap.objs.size f cd).kindOf (ps.zip us) fun _ => none) (cellsFrom (s.heap.objs.size + 1) scope.names []) (bindC (envOfC qual scope s.heap.objs.size f cd).kindOf (ps.zip us) fun _ => none) s1) :
    Inv (cxOf CX P w K mg base N qual scope f cd A outer s H E) [] (start N vs) H s1 := by
  have hpl : ps.length≤N.length := by have:=congrArg List.length S.pre; rw [List.length_take] at this; omega
  obtain ⟨h1,tk,rfl,hk⟩:=x.done
  have noA : ∀ b : Addr,b ∉ (cxOf CX P w K mg base N qual scope f cd A outer s H E).ex:=fun b z => absurd (show b∈([] : List Addr) from z) (by simp)
  refine ⟨⟨e0.mod,S.kind,rfl,rfl,Nat.le_refl _,fun y z c h1 h2 => ?_,fun y hy => ?_,fun y c _ h => ?_,fun _ => hd,Around.frames_deeper e0.frames,.inr ⟨rfl,rfl⟩,fun b z => absurd z (noA b),e0.bs,e0.bsz,fun b _ _ => noA b,fun b z => absurd z (noA b),e0.funs,e0.frf⟩,
    rfl,e0.bare,Un.kept hk,⟨_,x.toInCall.ns,fun i y v h1 h2 h3 => ?_⟩,fun y c h => ⟨_,x.cell y c h⟩,e0.hok.fresh (Nat.le_refl _),fun y c h => ?_,fun p hp => absurd (show p∈([] : List (Addr×Obj)) from hp) (by simp),e0.hok.kept hk,?_⟩
  · exact name_of_addr x.apart (PySem.mem_of_lookup h1) (PySem.mem_of_lookup h2)
  · have hy : scope.names.lookup y = some .cell∨scope.names.lookup y = some .free:=hy
    rcases hy with hy | hy
    · exact cell_has hy
    · exact absurd rfl (S.nofree _ (PySem.mem_of_lookup hy))
  · exact Nat.le_of_lt (x.above y c (PySem.mem_of_lookup h))
  · have hi : i < vs.length := by
      unfold start at h2
      by_cases hi : i < vs.length
      · exact hi
      · rw [List.getElem?_append_right (by simpa using hi)] at h2
        rw [List.getElem?_replicate] at h2
        split at h2 <;> cases h2
    have ha : vs[i]? = some v := by
      unfold start at h2
      rw [List.getElem?_append_left (by simpa using hi),List.getElem?_map] at h2
      cases e : vs[i]? with
      | none => rw [e] at h2; cases h2
      | some a => rw [e] at h2; cases h2; rfl
    obtain ⟨u,hu,rv⟩:=r.get ha
    have hp : ps[i]? = some y := by
      rw [← S.pre,List.getElem?_take_of_lt (by omega)]; exact h1
    have ndP : ps.Nodup := by rw [← S.pre]; exact S.nd.sublist (List.take_sublist _ _)
    refine ⟨u,rv,?_⟩
    rcases S.par y (List.mem_of_getElem? hp) with k | k
    · exact .inl ⟨k,bindL_get ndP hp hu k⟩
    · obtain ⟨c,e⟩:=cell_has (n:=s.heap.objs.size + 1) k
      refine .inr ⟨.inl k,c,e,?_⟩
      have q:=x.cell y c e
      rw [bindC_get ndP hp hu (by show scope.names.lookup y≠_; rw [k]; decide)] at q
      exact q
  · exact e0.hok.fresh (Nat.le_of_lt (x.above y c (PySem.mem_of_lookup h)))
  · unfold start
    show _ = N.length
    rw [List.length_append,List.length_map,List.length_replicate]
    omega
theorem fn_of {CX : CXT} {P : Program} {w : World} {K : PySem.W.Frag} {mg : Str→Option Value} {base : Heap} {k : Nat} {f : Addr} {name qual : Str} {params : Arguments} {body : List Stmt} {scope : Scope} {dV kV doc pm cdv ct oc : Value} {an od : Option Addr}
    {osl : Array (Option Value)} {N ps : List Str} {sp : Sp} (lk : K.lookup f = some ⟨oc,od,.func (PySem.W.fnOf name qual params body scope dV kV doc pm an cdv ct),osl⟩) (hcd : PySem.W.codeIn K cdv qual = true) (S : FnScope N ps scope)
    (len : ∀ vs H Q E,sp vs H Q E→vs.length = ps.length)
    (hbody : ∀ (A : Around) (outer : List Env) (s : Shared) (H : Hp) (vs : List V) (Q : VK) (E : XK),Room k (A.deeper (envOfC qual scope s.heap.objs.size f cdv))→sp vs H Q E →
      ∃ t,PSs (cxOf CX P w K mg base N qual scope f cdv A outer s H E) body t∧t { nx:=fun _ H' => Q .non H',rt:=Q } (start N vs) H) :
    FnOk P w K mg base CX (k + 1) f (PySem.W.fnOf name qual params body scope dV kV doc pm an cdv ct) ps sp := by
  refine ⟨len,fun A outer s H args us vs Q E hr e0 hb r hsp => ?_⟩
  have hl:=len _ _ _ _ hsp
  have KX : K.In s.heap:=e0.mod.kin.keeps fun b o e => (e0.bs b o e).1
  have lim : s.heap.NoLimit:=e0.mod.nolimit.keeps fun b o e => (e0.bs b o e).1
  have hkind : ∀ y∈ps.zip us,scope.names.lookup y.1 = some .local∨(scope.names.lookup y.1 = some .cell∧((cellsFrom (s.heap.objs.size + 1) scope.names []).lookup y.1).isSome = true):=fun ⟨n,v⟩ hy => by
    rcases S.par n (List.of_mem_zip hy).1 with q | q
    · exact .inl q
    · exact .inr ⟨q,PySem.W.cellsFrom_some _ _ _ (.inl q)⟩
  refine codeAny_call_function hr.depth (KX _ _ lk) rfl S.co S.gen rfl (PySem.W.codeRec_of KX hcd) (hb _ _ _ _ ?_)
  refine wpAny_newFunctionEnv_cells S.kind hkind fun env he s1 x => ?_
  subst he
  refine ⟨lim.keeps x.toInCall.keep,codeAny_func ?_⟩
  obtain ⟨t,ht,hq⟩:=hbody A outer s H vs Q E (hr.deeper _) hsp
  have I : Inv (cxOf CX P w K mg base N qual scope f cdv A outer s H E) [] (start N vs) H s1:=inv_start S hr.hd e0 hl r x
  refine wpAny_mono (ht [] s1 (start N vs) H _ I hq) (fun fl s' hs => ?_) fun e s' hs => hs
  have fin : ∀ {σ' : St} {H' : Hp} {v : V} {u : Value},Inv (cxOf CX P w K mg base N qual scope f cdv A outer s H E) [] σ' H' s'→RelV v u→Q v H'→CE outer P w H s Q u s' :=
    fun {σ' H' v u} J rv q => ⟨v,H',J.os,J.bare,J.base,J.hok,rv,q⟩
  cases fl with
  | ret u =>
    obtain ⟨v,σ',H',J,rv,q⟩:=hs
    exact fin J rv q
  | next =>
    obtain ⟨σ',H',J,q⟩:=hs
    exact fin (v:=V.non) (u:=Value.none) J rfl q
  | brk =>
    obtain ⟨_,_,_,q⟩:=hs
    exact False.elim q
  | cont =>
    obtain ⟨_,_,_,q⟩:=hs
    exact False.elim q
section
variable {X : Cx} {x : Str} {p pos : Pos} {e : Expr} {es : List Expr} {t : TA} {id T : String} {r : List V→Hp→VK→Prop}
def tCB (r : List V→Hp→VK→Prop) (t : TA) : TE:=fun σ H Q => t σ H fun vs H1 => r vs H1 Q
theorem pe_callB (hc : CallR X (.builtin id) r) (hg : Gl X x) (hm : X.mg x = none) (hv : bootBuiltins x = some (.builtin id)) (ha : PA X (e :: es) t) (hn : x ≠ "__name__" := by decide) (hdb : (x == ("__debug__" : Str)) = false := by decide)
    (he : starEach (e :: es) X.env = (false,eval e X.env) :: starEach es X.env := by rfl) (hpl : (backTo pos (starEach es X.env)).any (·.1) = false := by rfl) : PE X (.Call (.Name x p) (e :: es) [] pos) (tCB r t) := by
  intro pins s σ H Q I h
  refine wpAny_Call_Name_kw (ld_blt I hg hm hv ?_ hn hdb)
  exact PyProof.Rows.callWith_builtin1 (thn (ha pos pins s σ H _ I h) fun us s1 ⟨vs,H1,I1,r1,q1⟩ => hc pins s1 σ H1 vs us Q I1 r1 q1) he hpl
theorem pe_callTy (hc : CallR X (.type T) r) (hg : Gl X x) (hm : X.mg x = none) (hv : bootBuiltins x = some (.type T)) (ha : PA X (e :: es) t) (hn : x ≠ "__name__" := by decide) (hdb : (x == ("__debug__" : Str)) = false := by decide)
    (he : starEach (e :: es) X.env = (false,eval e X.env) :: starEach es X.env := by rfl) (hpl : (backTo pos (starEach es X.env)).any (·.1) = false := by rfl) : PE X (.Call (.Name x p) (e :: es) [] pos) (tCB r t) := by
  intro pins s σ H Q I h
  refine wpAny_Call_Name_kw (ld_blt I hg hm hv ?_ hn hdb)
  exact PyProof.Rows.callWith_type1 (thn (ha pos pins s σ H _ I h) fun us s1 ⟨vs,H1,I1,r1,q1⟩ => hc pins s1 σ H1 vs us Q I1 r1 q1) he hpl
end
end L2
namespace HT
open PySem PyProof.Rows
section
variable {prog : Program} {w : World} {A : Around} {E : Value→Shared→Prop} {s : Shared}
theorem cat_tup {t b : Addr} {vs ws : List Value} {Q : Value→Shared→Prop} (ht : IsTup s.heap t vs.toArray) (hb : IsTup s.heap b ws.toArray) (hv : vs≠[])
    (h1 : ws = []→Q (.ref t) s) (h2 : ws≠[]→Q (.ref s.heap.objs.size) { s with heap:=s.heap.push { cls:=.type "tuple",data:=.seq (vs ++ ws).toArray } })
    (hsz : vs.length + ws.length≤sizeLine) : wpAny (model prog w) A (binaryOp .Add (.ref t) (.ref b)) Q E s := by
  obtain ⟨⟨cls,dd,data,sl⟩,ho,hc,n,hd⟩:=id ht
  obtain ⟨⟨cls2,dd2,data2,sl2⟩,ho2,hc2,n2,hd2⟩:=id hb
  simp only at hc hd hc2 hd2
  subst hc hd hc2 hd2
  have e : vs.toArray ++ ws.toArray = (vs ++ ws).toArray := by simp
  by_cases hw : ws = []
  · exact concat_meets ⟨_,ho,rfl⟩ ⟨_,ho2,rfl⟩ noFill_tuple_add seq_tuple_add PySem.F.slot_tuple_add PySem.F.entry_tuple_add (PySem.F.args_tuple_add_2 _ _)
      (tuple_addW1 t b vs.toArray ws.toArray n n2 dd dd2 sl sl2 (by simpa using hv) (by simp [hw])) ⟨ho,ho2,h1 hw⟩
  · refine concat_meets ⟨_,ho,rfl⟩ ⟨_,ho2,rfl⟩ noFill_tuple_add seq_tuple_add PySem.F.slot_tuple_add PySem.F.entry_tuple_add (PySem.F.args_tuple_add_2 _ _)
      (tuple_addW2 t b vs.toArray ws.toArray n n2 dd dd2 sl sl2 (by simpa using hv) (by simpa using hw) (by rw [List.size_toArray,List.size_toArray]; exact hsz)) ⟨ho,ho2,?_⟩
    rw [e]
    exact h2 hw
def sIx (n d : Nat) : Option Int→Nat
  | none => d
  | some v => if v < 0 then (v + (n : Int)).toNat else min v.toNat n
theorem sIx_none (n d : Nat) : sIx n d none = d:=rfl
theorem sIx_nat (n d k : Nat) : sIx n d (some (k : Int)) = min k n := by
  show (if (k : Int) < 0 then ((k : Int) + (n : Int)).toNat else min (k : Int).toNat n) = min k n
  rw [if_neg (by omega),Int.toNat_natCast]
theorem sIx_le (n d : Nat) (hd : d≤n) (o : Option Int) : sIx n d o≤n := by
  cases o with
  | none => exact hd
  | some v =>
    show (if v < 0 then (v + (n : Int)).toNat else min v.toNat n)≤n
    by_cases hv : v < 0
    · rw [if_pos hv]; omega
    · rw [if_neg hv]; exact Nat.min_le_right _ _
theorem clip_eq (v : Int) (n d : Nat) : (if v < 0 then max (v + (n : Int)) 0 else min v (n : Int)) = ((sIx n d (some v) : Nat) : Int) := by
  show (if v < 0 then max (v + (n : Int)) 0 else min v (n : Int)) = (((if v < 0 then (v + (n : Int)).toNat else min v.toNat n) : Nat) : Int)
  by_cases hv : v < 0
  · simp only [if_pos hv]; omega
  · simp only [if_neg hv]; omega
theorem adjust_gen (lo hi : Option Int) (n : Nat) : Builtin.Slice.sliceAdjust lo hi 1 (n : Int) = (((sIx n 0 lo : Nat) : Int),((sIx n n hi : Nat) : Int)) := by
  have h1 : ¬ ((1 : Int) < 0) := by omega
  unfold Builtin.Slice.sliceAdjust
  simp only [h1,if_false]
  refine Prod.ext ?_ ?_
  · cases lo with
    | none => rfl
    | some v => exact clip_eq v n 0
  · cases hi with
    | none => rfl
    | some v => exact clip_eq v n n
theorem places_gen (i j : Nat) : Builtin.Slice.slicePlaces (i : Int) (j : Int) 1 = j - i := by
  unfold Builtin.Slice.slicePlaces
  have h1 : (1 : Int) > 0 := by omega
  simp only [h1,if_true,Int.ediv_one]
  split <;> omega
theorem slicePart_ {v : Value} {o : Option Int} {Q : Option Int→Shared→Prop} (p : IsPart v o) (h : Q o s) : wpAny (model prog w) A (Builtin.Slice.slicePartIndex v) Q E s := by
  cases p with
  | none => exact slicePart_none h
  | int i t => exact slicePart_int h
theorem sliceApplied_gen {sl : Addr} {vl vu : Value} {lo hi : Option Int} {n : Nat} {Q : Int×Int×Nat→Shared→Prop} (hs : s.heap.IsSliceOf sl vl vu .none) (pl : IsPart vl lo) (pu : IsPart vu hi)
    (h : Q (((sIx n 0 lo : Nat) : Int),1,sIx n n hi - sIx n 0 lo) s) : wpAny (model prog w) A (Builtin.Slice.sliceApplied (.ref sl) (pure (n : Int))) Q E s := by
  obtain ⟨os,hos,hcs,hds⟩:=id hs
  unfold Builtin.Slice.sliceApplied Builtin.Slice.sliceFields
  refine wpAny_bind (wpAny_bind (wpAny_field hos hds (x:=vl) rfl (wpAny_bind (wpAny_field hos hds (x:=vu) rfl (wpAny_bind (wpAny_field hos hds (x:=.none) rfl (wpAny_pure ?_)))))))
  refine wpAny_bind (slicePart_none ?_)
  show wpAny _ _ (if ((1 : Int) == 0) = true then _ else _) _ _ s
  rw [if_neg (by decide)]
  refine wpAny_bind (slicePart_ pl (wpAny_bind (slicePart_ pu (wpAny_bind (wpAny_pure ?_)))))
  show wpAny _ _ (match Builtin.Slice.sliceAdjust lo hi 1 (n : Int) with | (lo,hi) => pure (lo,(1 : Int),Builtin.Slice.slicePlaces lo hi 1)) _ _ s
  rw [adjust_gen lo hi n]
  show wpAny _ _ (pure (((sIx n 0 lo : Nat) : Int),(1 : Int),Builtin.Slice.slicePlaces ((sIx n 0 lo : Nat) : Int) ((sIx n n hi : Nat) : Int) 1)) _ _ s
  rw [places_gen]
  exact wpAny_pure h
theorem pick_gen (xs : Array Value) (i k : Nat) : ((List.range k).filterMap fun (m : Nat) => xs[((i : Int) + (m : Int) * 1).toNat]?).toArray = ((xs.toList.drop i).take k).toArray := by
  have e : (fun (m : Nat) => xs[((i : Int) + (m : Int) * 1).toNat]?) = fun m => xs[i + m]? := by
    funext m
    have : ((i : Int) + (m : Int) * 1).toNat = i + m := by omega
    rw [this]
  rw [e]
  have:=pick_run xs i k
  rw [List.filterMap_map] at this
  have e2 : ((fun x => xs[x]?) ∘ fun x => i + x) = fun m => xs[i + m]?:=rfl
  rw [e2] at this
  rw [this]
theorem getItem_tuple_cut {t sl : Addr} {items : Array Value} {vl vu : Value} {lo hi : Option Int} {Q : Value→Shared→Prop} (ht : IsTup s.heap t items) (hs : s.heap.IsSliceOf sl vl vu .none) (pl : IsPart vl lo) (pu : IsPart vu hi)
    (hw : ¬ (sIx items.size 0 lo = 0∧sIx items.size items.size hi = items.size))
    (h : Q (.ref s.heap.objs.size) { s with heap:=s.heap.push { cls:=.type "tuple",data:=.seq ((items.toList.drop (sIx items.size 0 lo)).take (sIx items.size items.size hi - sIx items.size 0 lo)).toArray } })
    (hsz : items.size≤sizeLine) : wpAny (model prog w) A (getItem (.ref t) (.ref sl)) Q E s := by
  have htake : sizeOk (.seq ((items.toList.drop (sIx items.size 0 lo)).take (sIx items.size items.size hi - sIx items.size 0 lo)).toArray) := by
    show ((items.toList.drop (sIx items.size 0 lo)).take (sIx items.size items.size hi - sIx items.size 0 lo)).toArray.size≤sizeLine
    rw [List.size_toArray,List.length_take,List.length_drop,Array.length_toList]
    omega
  have hj : sIx items.size items.size hi≤items.size:=sIx_le _ _ (Nat.le_refl _) hi
  obtain ⟨os,hos,hcs,hds⟩:=id hs
  have hTs : s.TypeIs (.ref sl) "slice" := ⟨os,hos,hcs⟩
  unfold getItem
  try with_reducible refine wpAny_holding ?_
  first | refine wpAny_bind (wpAny_pure ?_) | skip
  refine wpAny_bind (wpAny_sequenceKey ht.typeIs (by decide) ?_)
  refine wpAny_bind (wpAny_callSpecial?_slot (name:=Str.ofString "__getitem__") ht.typeIs PyProof.Rows.slot_tuple_getitem
    (wpAny_call_entry PyProof.Rows.slot_tuple_getitem ht.typeIs entry_tuple_getitem ?_ (args_tuple_getitem _ _)))
  show wpAny _ _ (Builtin.Tuple.tupleItemsOf (.ref t) >>= _) _ _ s
  refine wpAny_bind (tupleItemsOf_ ht ?_)
  refine wpAny_bind (wpAny_typeOf hTs ?_)
  rw [if_pos (by decide)]
  refine wpAny_bind (sliceApplied_gen hs pl pu ?_)
  have hno : ¬ ((((sIx items.size 0 lo : Nat) : Int) == 0 && (1 : Int) == 1 && (sIx items.size items.size hi - sIx items.size 0 lo) == items.size) = true) := by
    intro q
    rw [Bool.and_eq_true,Bool.and_eq_true] at q
    have q1 : ((sIx items.size 0 lo : Nat) : Int) = 0:=eq_of_beq q.1.1
    have q2 : sIx items.size items.size hi - sIx items.size 0 lo = items.size:=eq_of_beq q.2
    exact hw ⟨by omega,by omega⟩
  show wpAny _ _ (if (((sIx items.size 0 lo : Nat) : Int) == 0 && (1 : Int) == 1 && (sIx items.size items.size hi - sIx items.size 0 lo) == items.size) = true then _ else _) _ _ s
  rw [if_neg hno,pick_gen]
  first
    | exact wpAny_bind (m:=Builtin.Tuple.tupleExact _) (wpAny_newObj_type (wpAny_pure ⟨_,rfl,wpAny_pure h⟩) htake)
    | exact wpAny_bind (m:=Builtin.Tuple.tupleExact _) (wpAny_newObj_type (wpAny_bind (wpAny_pure (wpAny_pure ⟨_,rfl,wpAny_pure h⟩))) htake)
    | exact wpAny_bind (wpAny_bind (m:=Builtin.Tuple.tupleExact _) (wpAny_newObj_type (wpAny_pure (wpAny_pure ⟨_,rfl,wpAny_pure h⟩)) htake))
    | exact wpAny_bind (wpAny_bind (m:=Builtin.Tuple.tupleExact _) (wpAny_newObj_type (wpAny_pure ⟨_,rfl,wpAny_pure h⟩) htake))
end
end HT
namespace L2
open PySem PySem.Spec PyProof.Rows
abbrev TO:=St→Hp→(Option Int→Hp→Prop)→Prop
def PO (X : Cx) (e : Option Expr) (t : TO) : Prop :=
  ∀ (pins : List (Addr×Obj)) (s : Shared) (σ : St) (H : Hp) (Q : Option Int→Hp→Prop),Inv X pins σ H s→t σ H Q →
    wpAny (model X.prog X.w) X.A (evalPart e X.env) (fun u s' => ∃ o H',Inv X pins σ H' s'∧IsPart u o∧Q o H') X.xe s
def tNoPart : TO:=fun _ H Q => Q none H
def tPart (t : TE) : TO:=fun σ H Q => t σ H fun x H1 => ∃ i,x = .int i∧Q (some i) H1
theorem intsAre_of {ns : List Int} : ∀ {us : List Value},Vals (ns.map V.int) us→IntsAre us ns := by
  induction ns with
  | nil => intro us r; rw [List.map_nil] at r; cases r; exact .nil
  | cons n ns ih =>
    intro us r
    rw [List.map_cons] at r
    cases r with
    | cons r1 r2 =>
      obtain ⟨t,e⟩:=r1
      subst e
      exact .cons n t (ih r2)
section
variable {X : Cx} {e : Expr} {te : TE} {lo hi : Option Expr} {tl th : TO} {pos p2 : Pos}
theorem po_none : PO X none tNoPart := by
  intro pins s σ H Q I h
  rw [evalPart_none]
  exact wpAny_pure ⟨none,H,I,.none,h⟩
theorem po_some (h : PE X e te) : PO X (some e) (tPart te) := by
  intro pins s σ H Q I hw
  rw [evalPart_some]
  refine thn (h pins s σ H _ I hw) fun u s1 ⟨x,H1,I1,r1,q1⟩ => ?_
  obtain ⟨i,rfl,q⟩:=q1
  obtain ⟨t,rfl⟩:=r1
  exact ⟨some i,H1,I1,.int i t,q⟩
def SlR (X : Cx) (r : V→Option Int→Option Int→Hp→VK→Prop) : Prop :=
  ∀ (pins : List (Addr×Obj)) (s : Shared) (σ : St) (H : Hp) (x : V) (v vl vu : Value) (lo hi : Option Int) (sl : Addr) (Q : VK),Inv X pins σ H s→RelV x v→s.heap.IsSliceOf sl vl vu .none→IsPart vl lo→IsPart vu hi→r x lo hi H Q →
    ∃ T id,typeLookup (.type T) "__getitem__" = pure (some (.builtin id))∧s.TypeIs v T∧wpAny (model X.prog X.w) X.A (getItem v (.ref sl)) (EP X pins σ Q) X.xe s
theorem SlR.or {r r' : V→Option Int→Option Int→Hp→VK→Prop} (h : SlR X r) (h' : SlR X r') : SlR X (fun x lo hi H Q => r x lo hi H Q∨r' x lo hi H Q) := by
  intro pins s σ H x v vl vu lo hi sl Q I rx hs pl pu q
  rcases q with q | q
  · exact h pins s σ H x v vl vu lo hi sl Q I rx hs pl pu q
  · exact h' pins s σ H x v vl vu lo hi sl Q I rx hs pl pu q
def tSl (r : V→Option Int→Option Int→Hp→VK→Prop) (te : TE) (tl th : TO) : TE:=fun σ H Q => te σ H fun x H1 => tl σ H1 fun l H2 => th σ H2 fun u H3 => r x l u H3 Q
theorem pe_slice {r : V→Option Int→Option Int→Hp→VK→Prop} (hr : SlR X r) (he : PE X e te) (hl : PO X lo tl) (hu : PO X hi th) : PE X (.Subscript e (.Slice lo hi none p2) pos) (tSl r te tl th) := by
  intro pins s σ H Q I h
  refine Subscript_ (thn (he pins s σ H _ I h) fun v s1 ⟨x,H1,I1,r1,q1⟩ => ?_)
  refine wpAny_Slice (thn (hl pins s1 σ H1 _ I1 q1) fun vl s2 ⟨l,H2,I2,pl,q2⟩ => thn (hu pins s2 σ H2 _ I2 q2) fun vu s3 ⟨u,H3,I3,pu,q3⟩ => ?_)
  rw [evalPart_none]
  refine wpAny_pure ?_
  have I4 : Inv X pins σ H3 { s3 with heap:=s3.heap.push { cls:=.type "slice",data:=.fields #[vl,vu,.none] } }:=I3.kept (t':=s3.toks) fun b ob q => Heap.get?_push_of_some _ q
  obtain ⟨T,id,hT,ht,hg⟩:=hr pins { s3 with heap:=s3.heap.push { cls:=.type "slice",data:=.fields #[vl,vu,.none] } } σ H3 x v vl vu l u s3.heap.objs.size Q I4 r1 (Heap.IsSliceOf.new ..) pl pu q3
  show wpAny (model X.prog X.w) X.A (subscriptTail e (.Slice lo hi none p2) v (.ref s3.heap.objs.size)) (EP X pins σ Q) X.xe { s3 with heap:=s3.heap.push { cls:=.type "slice",data:=.fields #[vl,vu,.none] } }
  exact tail_any (ops:=[.ref s3.heap.objs.size,v]) ht hT hg (by with_unfolding_all rfl)
def cutV (xs : List V) (lo hi : Option Int) : List V:=(xs.drop (HT.sIx xs.length 0 lo)).take (HT.sIx xs.length xs.length hi - HT.sIx xs.length 0 lo)
theorem cutV_length (xs : List V) (lo hi : Option Int) : (cutV xs lo hi).length≤xs.length := by
  unfold cutV
  rw [List.length_take,List.length_drop]
  omega
def rSlT (K : PySem.W.Frag) : V→Option Int→Option Int→Hp→VK→Prop:=fun x lo hi H Q => ∃ a xs,x = .ref a∧SqT K H a xs ∧
  ¬ (HT.sIx xs.length 0 lo = 0∧HT.sIx xs.length xs.length hi = xs.length)∧∀ p,H p = none→Q (.ref p) (upd H p (.tup (cutV xs lo hi)))
theorem sl_tup : SlR X (rSlT X.K) := by
  intro pins s σ H x v vl vu lo hi sl Q I rx hs pl pu h
  obtain ⟨a,xs,rfl,hx,hw,q⟩:=h
  cases rx
  obtain ⟨its,r,ht,hz⟩:=I.tuple hx
  have hlen : its.toArray.size = xs.length := by rw [List.size_toArray]; exact r.length.symm
  refine ⟨"tuple",_,PyProof.Rows.slot_tuple_getitem.lookup,ht.typeIs,?_⟩
  refine HT.getItem_tuple_cut ht hs pl pu (by rw [hlen]; exact hw) ?_ (by rw [hlen]; exact hz)
  rw [hlen]
  refine ⟨.ref s.heap.objs.size,_,I.laid (t':=s.toks) (o:=.tup (cutV xs lo hi)) (fun b ob q => Heap.get?_push_of_some _ q) (Nat.le_refl _) ?_,rfl,q _ (I.hok.fresh (Nat.le_refl _))⟩
  exact ⟨Nat.le_trans (cutV_length xs lo hi) hz,_,(r.drop (HT.sIx xs.length 0 lo)).take (HT.sIx xs.length xs.length hi - HT.sIx xs.length 0 lo),IsTup.new _ _⟩
theorem Vals.nil_iff {xs : List V} {us : List Value} (r : Vals xs us) : us = [] ↔ xs = [] := by
  cases r with
  | nil => simp
  | cons _ _ => simp
end
def ixN (n : Nat) (i : Int) : Option Nat:=if 0≤i then (if i < n then some i.toNat else none) else if -(n : Int)≤i then some (i + n).toNat else none
def atI {α : Type} (xs : List α) (i : Int) : Option α:=(ixN xs.length i).bind fun j => xs[j]?
theorem ixN_seq {n : Nat} {i : Int} {j : Nat} (h : ixN n i = some j) : seqIndex? i n = some j∧j < n∧-(n : Int)≤i∧i < n := by
  unfold ixN at h
  by_cases h0 : 0≤i
  · rw [if_pos h0] at h
    by_cases h1 : i < n
    · rw [if_pos h1] at h
      have e : i.toNat = j:=Option.some.inj h
      exact ⟨by rw [seqIndex_of h0 h1,e],by omega,by omega,h1⟩
    · rw [if_neg h1] at h; cases h
  · rw [if_neg h0] at h
    by_cases h1 : -(n : Int)≤i
    · rw [if_pos h1] at h
      have e : (i + n).toNat = j:=Option.some.inj h
      exact ⟨by rw [seqIndex_neg (by omega) h1,e],by omega,h1,by omega⟩
    · rw [if_neg h1] at h; cases h
theorem atI_get {α : Type} {xs : List α} {i : Int} {v : α} (h : atI xs i = some v) : ∃ j,seqIndex? i xs.length = some j∧xs[j]? = some v∧j < xs.length∧-(xs.length : Int)≤i∧i < xs.length := by
  unfold atI at h
  cases e : ixN xs.length i with
  | none => rw [e] at h; cases h
  | some j =>
    rw [e] at h
    obtain ⟨h1,h2,h3,h4⟩:=ixN_seq e
    exact ⟨j,h1,h,h2,h3,h4⟩
theorem atI_nat {α : Type} {xs : List α} {j : Nat} {v : α} (h : xs[j]? = some v) : atI xs (j : Int) = some v := by
  have hj : j < xs.length:=(List.getElem?_eq_some_iff.mp h).1
  have e : ixN xs.length (j : Int) = some j := by
    unfold ixN
    rw [if_pos (by omega),if_pos (by omega)]; simp
  unfold atI; rw [e]; exact h
def PlainIx (b : Expr) : Prop:=∀ o i,subscripted b false o i = operate [o,i] (getItem o i)
def IxR (X : Cx) (r : R2) : Prop :=
  ∀ (value slice : Expr) (pins : List (Addr×Obj)) (s : Shared) (σ : St) (H : Hp) (x y : V) (v u : Value) (Q : VK),Inv X pins σ H s→RelV x v→RelV y u→r x y H Q →
    subscripted slice false v u = operate [v,u] (getItem v u)→wpAny (model X.prog X.w) X.A (subscriptTail value slice v u) (EP X pins σ Q) X.xe s
def MtR (X : Cx) (id : String) (r : V→List V→Hp→VK→Prop) : Prop :=
  ∀ (pins : List (Addr×Obj)) (s : Shared) (σ : St) (H : Hp) (x : V) (xs : List V) (v : Value) (us : List Value) (Q : VK),Inv X pins σ H s→RelV x v→Vals xs us→r x xs H Q →
    wpAny (model X.prog X.w) X.A (call (.builtin id) (v :: us)) (EP X pins σ Q) X.xe s
section
variable {X : Cx} {a b : Expr} {ta tb : TE} {pos : Pos}
theorem IxR.or {r r' : R2} (h : IxR X r) (h' : IxR X r') : IxR X (fun x y H Q => r x y H Q∨r' x y H Q) := by
  intro value slice pins s σ H x y v u Q I rx ry q hs
  rcases q with q | q
  · exact h value slice pins s σ H x y v u Q I rx ry q hs
  · exact h' value slice pins s σ H x y v u Q I rx ry q hs
theorem pe_ix {r : R2} (hr : IxR X r) (ha : PE X a ta) (hb : PE X b tb) (hs : PlainIx b) : PE X (.Subscript a b pos) (tOp r ta tb) := by
  intro pins s σ H Q I h
  exact Subscript_ (binT ha hb I h fun v u s2 x y H2 I2 rx ry q => hr a b pins s2 σ H2 x y v u Q I2 rx ry q (hs _ _))
def rIxL (K : PySem.W.Frag) : R2:=fun x y H Q => ∃ p xs i v,x = .ref p∧y = .int i∧SqL K H p xs∧atI xs i = some v∧Q v H
def rIxT (K : PySem.W.Frag) : R2:=fun x y H Q => ∃ p xs i v,x = .ref p∧y = .int i∧SqT K H p xs∧atI xs i = some v∧Q v H
def rIxS : R2:=fun x y H Q => ∃ z i c,x = .str z∧y = .int i∧z.length≤sizeLine∧atI z.cps.toList i = some c∧Q (.str ⟨#[c]⟩) H
theorem ix_list : IxR X (rIxL X.K) := by
  intro value slice pins s σ H x y v u Q I rx ry h hs
  obtain ⟨p,xs,i,z,rfl,rfl,hq,he,q⟩:=h
  cases rx
  obtain ⟨t,rfl⟩:=ry
  obtain ⟨its,r,pl,hz⟩:=I.list hq
  obtain ⟨j,h1,h2,h3,h4,h5⟩:=atI_get he
  obtain ⟨w,ew,rw'⟩:=r.get h2
  have hl:=r.length
  have hn:=line63
  have fin : EP X pins σ Q w s:=⟨z,H,I,rw',q⟩
  by_cases h0 : 0≤i
  · have hj : i.toNat = j := by
      rw [seqIndex_of h0 h5] at h1
      exact Option.some.inj h1
    exact item_listR pl.isList h0 (by omega) (by rw [hj]; simpa using ew) fin hs
  · have hj : (i + (its.toArray.size : Int)).toNat = j := by
      rw [seqIndex_neg (by omega) h4] at h1
      rw [List.size_toArray,← hl]
      exact Option.some.inj h1
    exact subscriptTail_builtinR (x:=w) pl.isList.typeIs slot_list_getitem.lookup
      (wpAny_getItem_list_neg (Q:=fun r s' => r = w∧EP X pins σ Q r s') pl.isList (by omega) (by rw [List.size_toArray] <;> omega) (by omega) (by rw [hj]; simpa using ew) ⟨rfl,fin⟩) hs
theorem ix_tup : IxR X (rIxT X.K) := by
  intro value slice pins s σ H x y v u Q I rx ry h hs
  obtain ⟨p,xs,i,z,rfl,rfl,hq,he,q⟩:=h
  cases rx
  obtain ⟨t,rfl⟩:=ry
  obtain ⟨its,r,pl,hz⟩:=I.tuple hq
  obtain ⟨j,h1,h2,h3,h4,h5⟩:=atI_get he
  obtain ⟨w,ew,rw'⟩:=r.get h2
  have hl:=r.length
  have hn:=line63
  have fin : EP X pins σ Q w s:=⟨z,H,I,rw',q⟩
  exact subscriptTail_builtinR (x:=w) pl.typeIs slot_tuple_getitem.lookup
    (getItem_tuple (j:=j) (Q:=fun r s' => r = w∧EP X pins σ Q r s') pl (by omega) (by omega) (by rw [List.size_toArray,← hl]; exact h1) (by simpa using ew) ⟨rfl,fin⟩) hs
theorem ix_str : IxR X rIxS := by
  intro value slice pins s σ H x y v u Q I rx ry h hs
  obtain ⟨z,i,c,rfl,rfl,hz,he,q⟩:=h
  obtain ⟨t,rfl⟩:=rx
  obtain ⟨t',rfl⟩:=ry
  obtain ⟨j,h1,h2,h3,h4,h5⟩:=atI_get he
  have hl : z.cps.toList.length = z.length := by simp [Str.length]
  rw [hl] at h1 h4 h5
  have hn:=line63
  exact tail_any (typeIs_str s z t) slot_str_getitem.lookup (getItem_str (c:=c) (by
    have e1 : decide (i < -(2 ^ 63 : Int)) = false:=decide_eq_false (by omega)
    have e2 : decide (i ≥ 2 ^ 63) = false:=decide_eq_false (by omega)
    rw [e1,e2,Bool.or_false]) (by rw [h1]; simpa using h2) ⟨.str ⟨#[c]⟩,H,I.tok _,⟨_,rfl⟩,q⟩) hs
def rIx (K : PySem.W.Frag) : R2:=fun x y H Q => rIxL K x y H Q∨rIxT K x y H Q∨rIxS x y H Q
theorem ix_seq : IxR X (rIx X.K):=ix_list.or (ix_tup.or ix_str)
theorem mapSeq_set (its : List Value) (n j : Nat) (u : Value) : Obj.mapSeq (·.setIfInBounds j u) { cls:=.type "list",data:=.seq its.toArray n } = { cls:=.type "list",data:=.seq (its.set j u).toArray n } := by
  simp [Obj.mapSeq]
theorem Inv.lst {pins : List (Addr×Obj)} {σ : St} {H : Hp} {s : Shared} {p : Addr} {xs : List V} (I : Inv X pins σ H s) (h : H p = some (.lst xs)) :
    ∃ (its : List Value) (n : Nat),Vals xs its∧s.heap.get? p = some { cls:=.type "list",data:=.seq its.toArray n }∧xs.length≤sizeLine := by
  obtain ⟨z,its,n,r,e⟩:=I.hok p _ h
  exact ⟨its,n,r,e,z⟩
theorem Inv.lstUpd {pins : List (Addr×Obj)} {σ : St} {H : Hp} {s : Shared} {p : Addr} {xs ys : List V} {its its' : List Value} {n n' : Nat} {f : Obj→Obj} (I : Inv X pins σ H s) (h : H p = some (.lst xs))
    (ho : s.heap.get? p = some { cls:=.type "list",data:=.seq its.toArray n }) (hf : f { cls:=.type "list",data:=.seq its.toArray n } = { cls:=.type "list",data:=.seq its'.toArray n' }) (r : Vals ys its') (hz : ys.length≤sizeLine) (t : Nat) :
    Inv X pins σ (upd H p (.lst ys)) { s with heap:=s.heap.update p f,toks:=t } := by
  have e : (s.heap.update p f).get? p = some { cls:=.type "list",data:=.seq its'.toArray n' } := by
    rw [Heap.get?_update_self f ho (by rw [hf] <;> rfl),hf]
  refine I.write (x:=p) (e:=p) (by rw [h]; trivial) (.inl rfl) (fun b u hb q => (Heap.get?_update_other _ _ (Ne.symm hb)).trans q) ⟨_,e⟩ ?_
  exact ⟨hz,its',n',r,e⟩
def rSetL : V→V→V→Hp→(Hp→Prop)→Prop:=fun o i v H Q => ∃ p xs k j,o = .ref p∧i = .int k∧H p = some (.lst xs)∧ixN xs.length k = some j∧Q (upd H p (.lst (xs.set j v)))
theorem set_list : PSet X rSetL := by
  intro pins s σ H o i v ov iv u Q I ro ri rv h
  obtain ⟨p,xs,k,j,rfl,rfl,hp,hj,q⟩:=h
  cases ro
  obtain ⟨t,rfl⟩:=ri
  obtain ⟨its,n,r,ho,hz⟩:=I.lst hp
  obtain ⟨h1,h2,h3,h4⟩:=ixN_seq hj
  have hl:=r.length
  have hn:=line63
  have I' : Inv X pins σ (upd H p (.lst (xs.set j v))) { s with heap:=s.heap.update p (Obj.mapSeq (·.setIfInBounds j u)) } :=
    I.lstUpd hp ho (mapSeq_set its n j u) (r.set rv j) (by rw [List.length_set]; exact hz) s.toks
  by_cases h0 : 0≤k
  · have hk : k.toNat = j := by
      rw [seqIndex_of h0 h4] at h1
      exact Option.some.inj h1
    exact PySem.W.ki_setAt ho h0 (by omega) (by rw [List.size_toArray,← hl]; exact h4) (by rw [hk]; exact ⟨_,I',q⟩)
  · have hk : (k + (its.toArray.size : Int)).toNat = j := by
      rw [seqIndex_neg (by omega) h3] at h1
      rw [List.size_toArray,← hl]
      exact Option.some.inj h1
    exact PySem.W.ki_setBack ho (by omega) (by rw [List.size_toArray,← hl]; exact h3) (by omega) (by rw [hk]; exact ⟨_,I',q⟩)
theorem slice_bounds (lo hi : Option Int) (n : Nat) : (sliceBounds lo hi none n).1 = ((HT.sIx n 0 lo : Nat) : Int)∧(sliceBounds lo hi none n).2.1 = ((HT.sIx n n hi : Nat) : Int)∧(sliceBounds lo hi none n).2.2 = 1 := by
  refine ⟨?_,?_,rfl⟩
  · cases lo with
    | none => simp [sliceBounds,HT.sIx]
    | some i =>
      simp only [sliceBounds,HT.sIx,Option.getD_none,show (1 : Int) > 0 by decide,if_true]
      by_cases h : i < 0
      · simp only [h,if_true] <;> omega
      · simp only [h,if_false] <;> omega
  · cases hi with
    | none => simp [sliceBounds,HT.sIx]
    | some i =>
      simp only [sliceBounds,HT.sIx,Option.getD_none,show (1 : Int) > 0 by decide,if_true]
      by_cases h : i < 0
      · simp only [h,if_true] <;> omega
      · simp only [h,if_false] <;> omega
theorem slicePick_cut (its : List Value) (lo hi : Option Int) : slicePick its.toArray lo hi none = ((its.drop (HT.sIx its.length 0 lo)).take (HT.sIx its.length its.length hi - HT.sIx its.length 0 lo)).toArray := by
  obtain ⟨h1,h2,h3⟩:=slice_bounds lo hi its.toArray.size
  unfold slicePick
  rw [h1,h2,h3]
  simp only [sliceRange_one,pick_run,List.size_toArray] <;> rfl
def rSlL (K : PySem.W.Frag) : V→Option Int→Option Int→Hp→VK→Prop:=fun x lo hi H Q => ∃ a xs,x = .ref a∧SqL K H a xs∧∀ p,H p = none→Q (.ref p) (upd H p (.lst (cutV xs lo hi)))
theorem sl_list : SlR X (rSlL X.K) := by
  intro pins s σ H x v vl vu lo hi sl Q I rx hs pl pu h
  obtain ⟨a,xs,rfl,hx,q⟩:=h
  cases rx
  obtain ⟨its,r,ht,hz⟩:=I.list hx
  have hlen:=r.length
  refine ⟨"list",_,slot_list_getitem.lookup,ht.isList.typeIs,?_⟩
  refine wpAny_getItem_list_slice ht.isList hs pl pu .none (by simp) ?_ (by rw [List.size_toArray] <;> omega)
  rw [slicePick_cut,← hlen]
  refine ⟨.ref s.heap.objs.size,_,I.laid (t':=s.toks) (o:=.lst (cutV xs lo hi)) (fun b ob q => Heap.get?_push_of_some _ q) (Nat.le_refl _) ?_,rfl,q _ (I.hok.fresh (Nat.le_refl _))⟩
  exact ⟨Nat.le_trans (cutV_length xs lo hi) hz,_,0,(r.drop (HT.sIx xs.length 0 lo)).take (HT.sIx xs.length xs.length hi - HT.sIx xs.length 0 lo),Heap.get?_push_size _ rfl⟩
def flatV : V→Bool
  | .non => true
  | .bl _ => true
  | .int _ => true
  | .str _ => true
  | _ => false
def eqV : V→V→Bool
  | .non,.non => true
  | .bl a,.bl b => a == b
  | .bl a,.int b => (if a then 1 else 0) == b
  | .int a,.bl b => a == (if b then 1 else 0)
  | .int a,.int b => a == b
  | .str a,.str b => a == b
  | _,_ => false
theorem eqAt_V {A : Around} {s : Shared} {y x : V} {u v : Value} (ry : RelV y u) (rx : RelV x v) (fy : flatV y = true) (fx : flatV x = true) : SeqAt.EqAt A s u v (eqV y x) := by
  cases y with
  | non =>
    cases ry
    cases x with
    | non => cases rx; exact SeqAt.EqAt.same _
    | bl b => cases rx; exact SeqAt.EqAt.none_bool b
    | int b => obtain ⟨t,rfl⟩:=rx; exact SeqAt.EqAt.none_int b t
    | str b => obtain ⟨t,rfl⟩:=rx; exact SeqAt.EqAt.none_str b t
    | _ => exact absurd (show false = true from fx) Bool.false_ne_true
  | bl a =>
    cases ry
    cases x with
    | non => cases rx; exact SeqAt.EqAt.bool_none a
    | bl b => cases rx; exact SeqAt.EqAt.bool_bool a b
    | int b => obtain ⟨t,rfl⟩:=rx; exact SeqAt.EqAt.bool_int a b t
    | str b => obtain ⟨t,rfl⟩:=rx; exact SeqAt.EqAt.bool_str a b t
    | _ => exact absurd (show false = true from fx) Bool.false_ne_true
  | int a =>
    obtain ⟨t',rfl⟩:=ry
    cases x with
    | non => cases rx; exact SeqAt.EqAt.int_none a t'
    | bl b => cases rx; exact SeqAt.EqAt.int_bool a t' b
    | int b => obtain ⟨t,rfl⟩:=rx; exact SeqAt.EqAt.int_int a t' b t
    | str b => obtain ⟨t,rfl⟩:=rx; exact SeqAt.EqAt.int_str a t' b t
    | _ => exact absurd (show false = true from fx) Bool.false_ne_true
  | str a =>
    obtain ⟨t',rfl⟩:=ry
    cases x with
    | non => cases rx; exact SeqAt.EqAt.str_none a t'
    | bl b => cases rx; exact SeqAt.EqAt.str_bool a t' b
    | int b => obtain ⟨t,rfl⟩:=rx; exact SeqAt.EqAt.str_int a t' b t
    | str b => obtain ⟨t,rfl⟩:=rx; exact SeqAt.EqAt.str_str a t' b t
    | _ => exact absurd (show false = true from fx) Bool.false_ne_true
  | _ => exact absurd (show false = true from fy) Bool.false_ne_true
def eqU (x : V) (u : Value) : Bool:=match u with
  | .none => eqV .non x
  | .bool b => eqV (.bl b) x
  | .int i _ => eqV (.int i) x
  | .str z _ => eqV (.str z) x
  | _ => false
theorem eqU_of {x y : V} {u : Value} (r : RelV y u) (f : flatV y = true) : eqU x u = eqV y x := by
  cases y with
  | non => cases r; rfl
  | bl b => cases r; rfl
  | int i => obtain ⟨t,rfl⟩:=r; rfl
  | str z => obtain ⟨t,rfl⟩:=r; rfl
  | _ => exact absurd (show false = true from f) Bool.false_ne_true
theorem any_eqU {x : V} : ∀ {xs : List V} {us : List Value},Vals xs us→xs.all flatV = true→us.any (eqU x) = xs.any fun y => eqV y x
  | _,_,.nil,_ => rfl
  | y :: xs,u :: us,.cons r t,f => by
    rw [List.all_cons,Bool.and_eq_true] at f
    rw [List.any_cons,List.any_cons,eqU_of r f.1,any_eqU t f.2]
theorem mem_eqAt {A : Around} {s : Shared} {x : V} {v : Value} (rx : RelV x v) (fx : flatV x = true) : ∀ {xs : List V} {us : List Value},Vals xs us→xs.all flatV = true→∀ u∈us,SeqAt.EqAt A s u v (eqU x u)
  | _,_,.nil,_ => fun u hu => by cases hu
  | y :: xs,u :: us,.cons r t,f => fun u' hu => by
    rw [List.all_cons,Bool.and_eq_true] at f
    rcases List.mem_cons.mp hu with rfl | hu
    · rw [eqU_of r f.1]; exact eqAt_V r rx f.1 fx
    · exact mem_eqAt rx fx t f.2 u' hu
def inV (x : V) (xs : List V) : Bool:=xs.any fun y => eqV y x
def rIn (K : PySem.W.Frag) (neg : Bool) : R2:=fun x y H Q => ∃ p xs,y = .ref p∧(SqL K H p xs∨SqT K H p xs)∧flatV x = true∧xs.all flatV = true∧Q (.bl (if neg then !inV x xs else inV x xs)) H
theorem op_notIn_seq : OpR X (compareOp .NotIn) (rIn X.K true) := by
  intro pins s σ H x y v u Q I rx ry h
  obtain ⟨p,xs,rfl,hq,fx,fs,q⟩:=h
  cases ry
  rcases hq with hq | hq
  · obtain ⟨its,r,pl,hz⟩:=I.list hq
    refine SeqAt.notIn_listAt (eqU x) pl.isList (fun w hw => mem_eqAt rx fx r fs w (by simpa using hw)) ⟨.bl _,H,I,rfl,?_⟩
    rw [show its.toArray.any (eqU x) = its.any (eqU x) by simp,any_eqU r fs]
    exact q
  · obtain ⟨its,r,pl,hz⟩:=I.tuple hq
    refine SeqAt.notIn_tupleAt (eqU x) pl (fun w hw => mem_eqAt rx fx r fs w (by simpa using hw)) ⟨.bl _,H,I,rfl,?_⟩
    rw [show its.toArray.any (eqU x) = its.any (eqU x) by simp,any_eqU r fs]
    exact q
theorem call_len_seq : CallR X (.builtin "len") (fun xs H Q => ∃ p ys,xs = [.ref p]∧(SqL X.K H p ys∨SqT X.K H p ys)∧Q (.int ys.length) H) := by
  intro pins s σ H xs us Q I r h
  obtain ⟨p,ys,rfl,hq,q⟩:=h
  obtain ⟨u,rfl,rx⟩:=vals1 r
  cases rx
  have hn:=line63
  rcases hq with hq | hq
  · obtain ⟨its,r',pl,hz⟩:=I.list hq
    have hlen:=r'.length
    exact Calls.call_len_list pl.isList (by simp only [List.size_toArray] <;> omega) ⟨.int ys.length,H,I.tok _,⟨s.toks + 1,by rw [List.size_toArray,hlen]⟩,q⟩
  · obtain ⟨its,r',pl,hz⟩:=I.tuple hq
    have hlen:=r'.length
    exact len_tuple pl (by simp only [List.size_toArray] <;> omega) ⟨.int ys.length,H,I.tok _,⟨s.toks + 1,by rw [List.size_toArray,hlen]⟩,q⟩
theorem CallR.or {f : Value} {r r' : List V→Hp→VK→Prop} (h : CallR X f r) (h' : CallR X f r') : CallR X f (fun xs H Q => r xs H Q∨r' xs H Q) := by
  intro pins s σ H xs us Q I rs q
  rcases q with q | q
  · exact h pins s σ H xs us Q I rs q
  · exact h' pins s σ H xs us Q I rs q
theorem call_list_of : CallR X (.type "list") (fun xs H Q => ∃ p ys,xs = [.ref p]∧(SqL X.K H p ys∨SqT X.K H p ys)∧∀ l,H l = none→Q (.ref l) (upd H l (.lst ys))) := by
  intro pins s σ H xs us Q I r h
  obtain ⟨p,ys,rfl,hq,q⟩:=h
  obtain ⟨u,rfl,rx⟩:=vals1 r
  cases rx
  have fin : ∀ (its : List Value),Vals ys its→ys.length≤sizeLine→∀ (h' : Heap) (c' : Nat),(∀ b o',s.heap.get? b = some o'→h'.get? b = some o') →
      h'.get? s.heap.objs.size = some { cls:=.type "list",dict:=none,data:=.seq its.toArray c',slots:=#[] }→EP X pins σ Q (.ref s.heap.objs.size) { s with heap:=h' }:=fun its r' hz h' c' kp e =>
    ⟨.ref s.heap.objs.size,_,I.laid (t':=s.toks) kp (Nat.le_refl _) (show ObjOk X.prog X.w _ h' _ (.lst ys) from ⟨hz,its,c',r',e⟩),rfl,q _ (I.hok.fresh (Nat.le_refl _))⟩
  rcases hq with hq | hq
  · obtain ⟨its,r',pl,hz⟩:=I.list hq
    have hlen:=r'.length
    obtain ⟨o,ho,hc,n,hd⟩:=pl.isList
    exact call_list_seq p (.inl rfl) ho hc hd (fun h' c' kp e => fin its r' hz h' c' kp e) (by simp only [List.size_toArray] <;> omega)
  · obtain ⟨its,r',pl,hz⟩:=I.tuple hq
    have hlen:=r'.length
    obtain ⟨o,ho,hc,n,hd⟩:=pl
    exact call_list_seq p (.inr rfl) ho hc hd (fun h' c' kp e => fin its r' hz h' c' kp e) (by simp only [List.size_toArray] <;> omega)
theorem call_tuple_of : CallR X (.type "tuple") (fun xs H Q => ∃ p ys,xs = [.ref p]∧((SqL X.K H p ys∧∀ l,H l = none→Q (.ref l) (upd H l (.tup ys)))∨(SqT X.K H p ys∧Q (.ref p) H))) := by
  intro pins s σ H xs us Q I r h
  obtain ⟨p,ys,rfl,h⟩:=h
  obtain ⟨u,rfl,rx⟩:=vals1 r
  cases rx
  rcases h with ⟨hq,q⟩ | ⟨hq,q⟩
  · obtain ⟨its,r',pl,hz⟩:=I.list hq
    have hlen:=r'.length
    refine call_tuple_list pl.isList (fun h' kp => ?_) (by simp only [List.size_toArray] <;> omega)
    have I1 : Inv X pins σ H { s with heap:=h' }:=I.kept (t':=s.toks) kp
    have I2 : Inv X pins σ (upd H h'.objs.size (.tup ys)) { s with heap:=h'.push { cls:=.type "tuple",data:=.seq its.toArray } } :=
      I1.laid (t':=s.toks) (fun b o e => Heap.get?_push_of_some _ e) (Nat.le_refl _) (show ObjOk X.prog X.w _ _ _ (.tup ys) from ⟨hz,its,r',IsTup.new _ _⟩)
    exact ⟨.ref h'.objs.size,_,I2,rfl,q _ (I1.hok.fresh (Nat.le_refl _))⟩
  · obtain ⟨its,r',pl,hz⟩:=I.tuple hq
    exact call_tuple_same pl ⟨.ref p,H,I,rfl,q⟩
def tyV (K : PySem.W.Frag) (T : String) (x : V) (H : Hp) : Prop:=match x with
  | .str _ => T = "str"
  | .int _ => T = "int"
  | .ref p => (T = "list" ∧ ∃ xs,SqL K H p xs)∨(T = "tuple" ∧ ∃ o,K.lookup p = some o∧o.cls = .type "tuple" ∧ o.dict = none) ∨
      (T = "dict" ∧ ((∃ kvs,H p = some (.dK kvs))∨∃ kvs,H p = some (.dT kvs)))∨(T = "set" ∧ ∃ S n,H p = some (.set S n))
  | _ => False
theorem tyV_is {pins : List (Addr×Obj)} {σ : St} {H : Hp} {s : Shared} {T : String} {x : V} {v : Value} (I : Inv X pins σ H s) (r : RelV x v) (ty : tyV X.K T x H) :
    s.TypeIs v T∧∀ a,v = .ref a→∃ ob,s.heap.get? a = some ob∧ob.dict = none := by
  cases x with
  | str z =>
    obtain ⟨t,rfl⟩:=r
    cases (show T = "str" from ty)
    exact ⟨typeIs_str s z t,fun _ e => nomatch e⟩
  | int i =>
    obtain ⟨t,rfl⟩:=r
    cases (show T = "int" from ty)
    exact ⟨typeIs_int s i t,fun _ e => nomatch e⟩
  | ref p =>
    cases r
    rcases ty with ⟨rfl,xs,hq⟩ | ⟨rfl,o,hk,hc,hd⟩ | ⟨rfl,hk⟩ | ⟨rfl,S,n,hk⟩
    · obtain ⟨its,_,pl,_⟩:=I.list hq
      refine ⟨pl.isList.typeIs,fun a e => ?_⟩
      cases e
      obtain ⟨o,n,e,c,hd,_⟩:=pl
      exact ⟨o,e,hd⟩
    · refine ⟨⟨o,I.kIn p o hk,hc⟩,fun a e => ?_⟩
      cases e
      exact ⟨o,I.kIn _ o hk,hd⟩
    · have z : ∃ o,s.heap.get? p = some o∧o.ExactDict := by
        rcases hk with ⟨kvs,hk⟩ | ⟨kvs,hk⟩
        · obtain ⟨_,_,_,_,o,_,_,e,ex,_⟩:=I.hok p _ hk
          exact ⟨o,e,ex⟩
        · obtain ⟨_,_,_,_,o,_,_,e,ex,_⟩:=I.hok p _ hk
          exact ⟨o,e,ex⟩
      obtain ⟨o,e,ex⟩:=z
      refine ⟨⟨o,e,ex.1⟩,fun a e2 => ?_⟩
      cases e2
      exact ⟨o,e,ex.2.1⟩
    · obtain ⟨o,_,_,_,e,ex,_⟩:=I.hok p _ hk
      refine ⟨⟨o,e,ex.1⟩,fun a e2 => ?_⟩
      cases e2
      exact ⟨o,e,ex.2.1⟩
  | _ => exact False.elim ty
def tBM0 (K : PySem.W.Frag) (T : String) (r : V→List V→Hp→VK→Prop) (to : TE) : TE:=fun σ H Q => to σ H fun x H1 => tyV K T x H1∧r x [] H1 Q
def tBM (K : PySem.W.Frag) (T : String) (r : V→List V→Hp→VK→Prop) (to : TE) (t : TA) : TE:=fun σ H Q => to σ H fun x H1 => tyV K T x H1∧t σ H1 fun xs H2 => r x xs H2 Q
variable {o e : Expr} {es : List Expr} {to : TE} {t : TA} {name : Str} {apos cpos : Pos} {T id : String} {r : V→List V→Hp→VK→Prop}
theorem pe_bm0 (pa : PlainAttrs T) (slot : Slot T name id) (hty : typeOf (.builtin id) = pure (.type "method_descriptor")) (hm : MtR X id r) (ho : PE X o to)
    (hbase : attributeBase o name X.env (eval o X.env) = eval o X.env := by rfl) (hline : (apos.endLine == cpos.line) = true := by rfl) : PE X (.Call (.Attribute o name apos) [] [] cpos) (tBM0 X.K T r to) := by
  intro pins s σ H Q I h
  refine wpAny_Call_method0_late hbase hline (thn (ho pins s σ H _ I h) fun v s1 ⟨x,H1,I1,r1,ty,q1⟩ => ?_)
  obtain ⟨h1,h2⟩:=tyV_is I1 r1 ty
  exact ⟨T,id,pa,slot,hty,h1,h2,Calls.callWith_builtin rfl (PySem.evalArgs_none (hm pins s1 σ H1 x [] v [] Q I1 r1 .nil q1))⟩
theorem pe_bm (pa : PlainAttrs T) (slot : Slot T name id) (hty : typeOf (.builtin id) = pure (.type "method_descriptor")) (hm : MtR X id r) (ho : PE X o to) (ha : PA X (e :: es) t)
    (hbase : attributeBase o name X.env (eval o X.env) = eval o X.env := by rfl)
    (hfew : ((backTo cpos (starEach (e :: es) X.env)).all (fun x => !x.1) && (backToKw cpos (keywordEach [] X.env)).all (fun x => x.1.isSome)
      && decide ((e :: es).length + ([] : List Keyword).length + (if ([] : List Keyword).isEmpty then 0 else 1) < 30)) = true := by rfl)
    (hline : (apos.endLine == cpos.line) = true := by rfl) (hs : starEach (e :: es) X.env = (false,eval e X.env) :: starEach es X.env := by rfl) (hplain : (backTo cpos (starEach es X.env)).any (·.1) = false := by rfl) :
    PE X (.Call (.Attribute o name apos) (e :: es) [] cpos) (tBM X.K T r to t) := by
  intro pins s σ H Q I h
  refine wpAny_Call_method_late hbase hfew hline rfl (thn (ho pins s σ H _ I h) fun v s1 ⟨x,H1,I1,r1,ty,q1⟩ => ?_)
  obtain ⟨h1,h2⟩:=tyV_is I1 r1 ty
  refine ⟨T,id,pa,slot,hty,h1,h2,?_⟩
  have hA:=ha cpos pins s1 σ H1 _ I1 q1
  rw [hs] at hA ⊢
  refine Calls.callWith_builtin (by show (false || (backTo cpos (starEach es X.env)).any (·.1)) = false; rw [hplain] <;> rfl) (Calls.evalArgs_plain ?_)
  exact thn hA fun us s2 ⟨vs,H2,I2,r2,q2⟩ => hm pins s2 σ H2 x vs v us Q I2 r1 r2 q2
end
def MtM (X : Cx) (id : String) (r : V→List V→Hp→VK→Prop) : Prop :=
  ∀ (pins : List (Addr×Obj)) (s : Shared) (σ : St) (H : Hp) (x : V) (xs : List V) (v : Value) (us : List Value) (Q : VK),Inv X pins σ H s→RelV x v→Vals xs us→r x xs H Q →
    wpAny (model X.prog X.w) X.A (call (.builtin id) (v :: us)) (EP X pins σ Q) X.xe s
theorem Vals.one : ∀ {x : V} {us : List Value},Vals [x] us→∃ u,us = [u]∧RelV x u
  | _,_,.cons r .nil => ⟨_,rfl,r⟩
theorem Vals.two : ∀ {x y : V} {us : List Value},Vals [x,y] us→∃ u v,us = [u,v]∧RelV x u∧RelV y v
  | _,_,_,.cons r (.cons q .nil) => ⟨_,_,rfl,r,q⟩
theorem Vals.zero : ∀ {us : List Value},Vals [] us→us = []
  | _,.nil => rfl
theorem Vals.dropLast {xs : List V} {us : List Value} (h : Vals xs us) : Vals xs.dropLast us.dropLast := by
  induction h with
  | nil => exact .nil
  | cons r t ih =>
    cases t with
    | nil => exact .nil
    | cons q t' => exact .cons r ih
theorem Vals.rep {xs : List V} {us : List Value} (h : Vals xs us) : ∀ k : Nat,Vals (List.replicate k xs).flatten (List.replicate k us).flatten
  | 0 => .nil
  | k + 1 => by
    rw [List.replicate_succ,List.replicate_succ,List.flatten_cons,List.flatten_cons]
    exact Vals.append h (Vals.rep h k)
theorem erase_last {α : Type} (l : List α) : l.eraseIdx (l.length - 1) = l.dropLast := by
  induction l with
  | nil => rfl
  | cons a r ih =>
    cases r with
    | nil => rfl
    | cons b r =>
      have e : (a :: b :: r).length - 1 = ((b :: r).length - 1) + 1 := by
        have h1 : (a :: b :: r).length = r.length + 2:=rfl
        have h2 : (b :: r).length = r.length + 1:=rfl
        omega
      rw [e,List.eraseIdx_cons_succ,ih]
      all_goals rfl
theorem foldl_rep (its : List Value) : ∀ (k : Nat) (acc : List Value),
    List.foldl (fun x1 x2 => x1 ++ x2) acc.toArray (List.replicate k its.toArray) = (acc ++ (List.replicate k its).flatten).toArray
  | 0,acc => by simp
  | k + 1,acc => by
    have e : acc.toArray ++ its.toArray = (acc ++ its).toArray := by simp
    have e2 : (acc ++ its) ++ (List.replicate k its).flatten = acc ++ (List.replicate (k + 1) its).flatten := by
      rw [List.replicate_succ,List.flatten_cons,List.append_assoc]
    rw [← e2,← foldl_rep its k (acc ++ its),← e,List.replicate_succ,List.foldl_cons]
section
variable {X : Cx} {pins : List (Addr×Obj)} {σ : St} {H : Hp} {s : Shared} {l b : Addr} {xs ys zs : List V}
theorem Inv.lset {its its' : List Value} {n : Nat} {f : Array Value→Array Value} {t' : Nat} (I : Inv X pins σ H s) (hH : H l = some (.lst xs))
    (e : s.heap.get? l = some { cls:=.type "list",data:=.seq its.toArray n }) (hf : f its.toArray = its'.toArray) (hv : Vals ys its') (hz : ys.length≤sizeLine) :
    Inv X pins σ (upd H l (.lst ys)) { s with heap:=s.heap.update l (Obj.mapSeq f),toks:=t' } := by
  have q:=PySem.IsL.update e f
  rw [hf] at q
  refine I.write (x:=l) (e:=l) (by rw [hH]; exact trivial) (.inl rfl) (fun b' u hb hu => (Heap.get?_update_other s.heap (Obj.mapSeq f) (Ne.symm hb)).trans hu) ⟨_,q⟩ ?_
  exact ⟨hz,its',_,hv,q⟩
theorem Inv.lnew {its : List Value} {t' : Nat} (I : Inv X pins σ H s) (hv : Vals ys its) (hz : ys.length≤sizeLine) :
    Inv X pins σ (upd H s.heap.objs.size (.lst ys)) { s with heap:=s.heap.push { cls:=.type "list",data:=.seq its.toArray },toks:=t' } :=
  I.laid (fun _ _ q => Heap.get?_push_of_some _ q) (Nat.le_refl _) ⟨hz,its,0,hv,Heap.get?_push_size _ rfl⟩
theorem Inv.fresh (I : Inv X pins σ H s) : H s.heap.objs.size = none:=I.hok.fresh (Nat.le_refl _)
theorem Inv.lstM (I : Inv X pins σ H s) (hH : H l = some (.lst xs)) : xs.length≤sizeLine∧∃ (its : List Value) (n : Nat),Vals xs its∧xs.length = its.length∧s.heap.get? l = some { cls:=.type "list",data:=.seq its.toArray n } := by
  obtain ⟨z,its,n,r,e⟩:=I.hok l _ hH
  exact ⟨z,its,n,r,r.length,e⟩
theorem notLongL {n : Nat} (h : n≤sizeLine) : Builtin.List.listTooLong n = false := by
  unfold Builtin.List.listTooLong
  exact decide_eq_false (by omega)
end
section
variable {X : Cx}
def rAppend : V→List V→Hp→VK→Prop:=fun x vs H Q => ∃ l xs y,x = .ref l∧vs = [y]∧H l = some (.lst xs)∧xs.length < sizeLine∧Q .non (upd H l (.lst (xs ++ [y])))
theorem mt_append : MtM X "list.append" rAppend := by
  intro pins s σ H x vs v us Q I rx rv h
  obtain ⟨l,xs,y,rfl,rfl,hH,hz,q⟩:=h
  cases rx
  obtain ⟨u,rfl,ru⟩:=rv.one
  obtain ⟨z,its,n,r,hl,e⟩:=I.lstM hH
  refine call_meets F.slot_list_append ⟨_,e,rfl⟩ F.entry_list_append (F.args_list_append_2 _ _) (PySem.list_append l its.toArray n u (by rw [List.size_toArray]; omega)) ⟨e,?_⟩
  refine ⟨.non,_,I.lset (its':=its ++ [u]) hH e (by simp) (r.append (.cons ru .nil)) ?_,rfl,q⟩
  rw [List.length_append,List.length_singleton]
  omega
def rExtend : V→List V→Hp→VK→Prop:=fun x vs H Q => ∃ l b xs zs,x = .ref l∧vs = [.ref b]∧H l = some (.lst xs)∧H b = some (.lst zs)∧xs.length + zs.length≤sizeLine∧Q .non (upd H l (.lst (xs ++ zs)))
theorem mt_extend : MtM X "list.extend" rExtend := by
  intro pins s σ H x vs v us Q I rx rv h
  obtain ⟨l,b,xs,zs,rfl,rfl,hH,hB,hz,q⟩:=h
  cases rx
  obtain ⟨u,rfl,ru⟩:=rv.one
  cases ru
  obtain ⟨z,its,n,r,hl,e⟩:=I.lstM hH
  obtain ⟨z2,its2,n2,r2,hl2,e2⟩:=I.lstM hB
  have hsz : its.toArray.size + its2.toArray.size≤sizeLine := by rw [List.size_toArray,List.size_toArray]; omega
  have hlong : ¬ (!its.toArray.isEmpty && Builtin.List.listTooLong (its.toArray.size + its2.toArray.size)) = true := by
    rw [notLongL hsz,Bool.and_false]
    exact Bool.false_ne_true
  refine call_meets F.slot_list_extend ⟨_,e,rfl⟩ F.entry_list_extend (F.args_list_extend_2 _ _)
    (AutoSeq1.list_extend_list_list_0 l its.toArray n b its2.toArray n2 hlong (by rw [List.size_toArray]; omega) (by omega)) ⟨e,e2,?_⟩
  refine ⟨.non,_,I.lset (its':=its ++ its2) hH e (by simp) (r.append r2) ?_,rfl,q⟩
  rw [List.length_append]
  omega
def rPop : V→List V→Hp→VK→Prop:=fun x vs H Q => ∃ l xs y,x = .ref l∧vs = []∧H l = some (.lst xs)∧xs[xs.length - 1]? = some y∧Q y (upd H l (.lst xs.dropLast))
theorem mt_pop : MtM X "list.pop" rPop := by
  intro pins s σ H x vs v us Q I rx rv h
  obtain ⟨l,xs,y,rfl,rfl,hH,hy,q⟩:=h
  cases rx
  have hus:=rv.zero
  subst hus
  obtain ⟨z,its,n,r,hl,e⟩:=I.lstM hH
  obtain ⟨u,hu,ru⟩:=r.get hy
  have hy' : its.toArray[its.toArray.size - 1]? = some u := by
    show its.toArray[its.length - 1]? = some u
    rw [← Array.getElem?_toList,← hl]
    exact hu
  refine call_meets F.slot_list_pop ⟨_,e,rfl⟩ F.entry_list_pop (F.args_list_pop_1 _) (MeetsSeq.list_pop_last l its.toArray n u hy' (by rw [List.size_toArray]; omega)) ⟨e,?_⟩
  refine ⟨y,_,I.lset (its':=its.dropLast) hH e ?_ r.dropLast ?_,ru,q⟩
  · show its.toArray.eraseIdxIfInBounds (its.toArray.size - 1) = its.dropLast.toArray
    rw [List.size_toArray,List.eraseIdxIfInBounds_toArray,erase_last]
  · rw [List.length_dropLast]
    omega
def rCat : R2:=fun x y H Q => ∃ l b xs zs,x = .ref l∧y = .ref b∧H l = some (.lst xs)∧H b = some (.lst zs)∧xs.length + zs.length≤sizeLine∧∀ p,H p = none→Q (.ref p) (upd H p (.lst (xs ++ zs)))
theorem op_cat : OpR X (binaryOp .Add) rCat := by
  intro pins s σ H x y v u Q I rx ry h
  obtain ⟨l,b,xs,zs,rfl,rfl,hH,hB,hz,q⟩:=h
  cases rx
  cases ry
  obtain ⟨z,its,n,r,hl,e⟩:=I.lstM hH
  obtain ⟨z2,its2,n2,r2,hl2,e2⟩:=I.lstM hB
  refine PySem.P.add_list e e2 ?_ (by rw [List.size_toArray,List.size_toArray]; omega)
  have ea : its.toArray ++ its2.toArray = (its ++ its2).toArray := by simp
  rw [ea]
  exact ⟨.ref _,_,I.lnew (t':=s.toks) (r.append r2) (by rw [List.length_append]; omega),rfl,q _ I.fresh⟩
def rRep : R2:=fun x y H Q => ∃ l k xs,x = .ref l∧y = .int k∧H l = some (.lst xs)∧-(2 ^ 63)≤k∧k < 2 ^ 63∧xs.length * k.toNat≤sizeLine ∧
  ∀ p,H p = none→Q (.ref p) (upd H p (.lst (List.replicate k.toNat xs).flatten))
theorem len_rep {α : Type} (xs : List α) (k : Nat) : (List.replicate k xs).flatten.length = k * xs.length := by
  induction k with
  | zero => simp
  | succ k ih => rw [List.replicate_succ,List.flatten_cons,List.length_append,ih,Nat.succ_mul,Nat.add_comm]
theorem op_rep : OpR X (binaryOp .Mult) rRep := by
  intro pins s σ H x y v u Q I rx ry h
  obtain ⟨l,k,xs,rfl,rfl,hH,h1,h2,hz,q⟩:=h
  cases rx
  obtain ⟨t,rfl⟩:=ry
  obtain ⟨z,its,n,r,hl,e⟩:=I.lstM hH
  have hlen : its.toArray.size * k.toNat≤sizeLine := by rw [List.size_toArray,← hl]; exact hz
  have hcap : ¬ its.toArray.size * k.toNat > (2 ^ 63 - 1) / 8 := by
    have : (sizeLine : Nat)≤(2 ^ 63 - 1) / 8 := by decide
    omega
  have hfit : ¬ (!Builtin.List.listFitsIndex k) = true := by
    rw [fitsIndex_both h1 h2]
    exact Bool.false_ne_true
  have hlong : ¬ Builtin.List.listTooLong (its.toArray.size * k.toNat) = true := by
    rw [notLongL hlen]
    exact Bool.false_ne_true
  have hnew : List.foldl (fun x1 x2 => x1 ++ x2) #[] (List.replicate (if its.toArray.isEmpty = true then 0 else k.toNat) its.toArray) = (List.replicate k.toNat its).flatten.toArray := by
    have f0 : ∀ m : Nat,List.foldl (fun x1 x2 => x1 ++ x2) #[] (List.replicate m its.toArray) = (List.replicate m its).flatten.toArray:=fun m => by
      have:=foldl_rep its m []
      rw [List.nil_append] at this
      exact this
    rw [f0]
    cases its with
    | nil => simp
    | cons a r' => rw [if_neg (by simp)]
  refine wpAny_binaryOp_repeat_ref (T := "list") (U := "int") (by decide) ⟨_,e,rfl⟩ (fun s' => typeIs_int s' k t) noFill_list_mul F.fills_int_mul F.slot_int_rmul repeat_list F.slot_int_index.lookup
    (call_meets F.slot_int_rmul (typeIs_int s k t) F.entry_int_rmul (F.args_int_rmul_2 _ _) (int___rmul___int_list k t l its.toArray n)
      ⟨e,rfl,⟨_,e,rfl⟩,call_meets F.slot_list_mul ⟨_,e,rfl⟩ F.entry_list_mul (F.args_list_mul_2 _ _) (AutoListH.list___mul___list_int_3 l its.toArray n k t hfit hcap hlong) ⟨e,?_⟩⟩)
  rw [hnew]
  exact ⟨.ref _,_,I.lnew (t':=s.toks) (r.rep k.toNat) (by rw [len_rep,Nat.mul_comm]; exact hz),rfl,q _ I.fresh⟩
end
end L2
namespace Att
open PySem PySem.W PySem.Calls PyProof.Rows
theorem ints_of_wellAll {P : Params} {h : Heap} : ∀ (ns : List Int) (vs : List Value),WellAll P h vs (ns.map WData.int)→IntsAre vs ns := by
  intro ns
  induction ns with
  | nil =>
    intro vs w
    rw [List.map_nil] at w
    cases w
    exact .nil
  | cons n ns ih =>
    intro vs w
    rw [List.map_cons] at w
    cases w with
    | cons a b =>
      cases a
      exact .cons _ _ (ih _ b)
theorem script_of {l : OpenLaw} {n : Nat} (hn : l.most = some n) {P : Params} {h : Heap} {args : List WData} {vals : List Value}
    (hpre : l.row.toRowW.claim.pre args = true) (hwl : WellAll P h vals args) :
    ∃ a vs ns,vals = [Value.ref a]∧args = [WData.list (ns.map WData.int)]∧h.get? a = some { cls:=.type "list",data:=.seq vs.toArray }∧IntsAre vs ns∧ns.length≤n := by
  have hsh : WShape.hasAll [] args [.list .int] = true:=(pre_splitW hpre).1
  have hc : l.pre.holds [] { args:=args } = true:=(pre_splitW hpre).2
  obtain ⟨d,r,rfl,h1,h2⟩:=hasAllW_cons hsh
  obtain rfl:=hasAllW_nil h2
  obtain ⟨xs,rfl,h3⟩:=hasW_list h1
  obtain ⟨ns,rfl⟩:=items_int h3
  have hlen : ns.length≤n := by
    unfold OpenLaw.pre at hc
    have h4 : (WTm.not (.lt (.lit (.int (n : Int))) (.len (.arg 0)))).holds [] { args:=[.list (ns.map .int)] } = true := by
      have h4:=(holds_andW hc).1
      rw [hn] at h4
      exact h4
    have h5:=condW_of h4 (w_not (w_lt w_lit (w_len_list (w_arg rfl))))
    rw [List.length_map] at h5
    refine Nat.le_of_not_lt fun q => ?_
    have q' : (n : Int) < ((ns.length : Nat) : Int) := by omega
    first
      | (rw [decide_eq_true q'] at h5; exact absurd h5 (by decide))
      | (simp at h5; omega)
  cases hwl with
  | cons w1 w2 =>
    cases w2
    cases w1 with
    | list ho hall => exact ⟨_,_,ns,rfl,rfl,ho,ints_of_wellAll ns _ hall,hlen⟩
theorem post_true (l : OpenLaw) (args : List WData) : l.row.toRowW.claim.post args (.bool true) args = true :=
  postW_of (r:=l.row.toRowW) (X:=(true == true))
    (show WShape.has [] (.bool true) .bool = true by first | rfl | decide | simp [WShape.has,WShape.arms,WShape.armsAll])
    (show (WTm.eq .res (.lit (.bool true))).value [] { args:=args,res:=some (.bool true),after:=args } = some (.bool (true == true)) from w_eq_bool (w_res rfl) w_lit) rfl
theorem attach_call {l : OpenLaw} {n : Nat} {q : Program} {loose : List Str} {XP : (Str→Option Value)→Heap→Prop} {YP : World→Heap→Prop} {d : DefRec}
    (hn : l.most = some n) (hdf : d.params.defaults = [])
    (call : ∀ (w : World) (s₀ s₁ : Shared) (mg mb : Str→Option Value) (fa : Addr) (o : Obj) (pm cd doc : Value) (a : Addr) (vs : List Value) (ns : List Int),
      Ground q loose [] XP w s₀ mg mb s₁.heap→YP w s₁.heap →
      s₁.heap.get? fa = some o→o.data = .func (docDef d.name d.params d.body d.scope pm cd doc)→s₁.heap.CodeRec cd d.name→mg d.name = some (.ref fa) →
      s₁.heap.get? a = some { cls:=.type "list",data:=.seq vs.toArray }→IntsAre vs ns→ns.length≤n→s₁.gens = #[] →
      codeAny (model l.prog w) callerA (.call (.ref fa) ⟨[.ref a],[]⟩) (fun r s' => r = .ok (.ret (.bool true))∧OldK s₁.heap s'.heap∧s'.os = s₁.os∧AllBare s'.gens) s₁) :
    WalkO q loose XP YP l.row.toRowW d [] (fun f vs => PySem.call f vs) := by
  intro w s₀ s₁ mg mb G Y fa o pm cd doc dV kV ho hd hcd hD hmg hg args vals as hpre hlay hrd hwl hlo
  obtain rfl : dV = .none:=Dflts.none hD hdf
  obtain rfl : kV = .none:=Dflts.noKw hD
  obtain ⟨a,vs,ns,rfl,rfl,hobj,hints,hlen⟩:=script_of hn hpre hwl
  refine enter_call (codeAny_mono (call w s₀ s₁ mg mb fa o pm cd doc a vs ns G Y ho (fd_plain hd) hcd hmg hobj hints hlen hg) fun r s' hq => ?_)
  obtain ⟨rfl,h2,h3,h4⟩:=hq
  exact ⟨.inl ⟨.bool true,.bool true,[],rfl,fun _ => rfl,.bool true,post_true l _,fun _ => ⟨List.Pairwise.nil,fun _ hm => (nomatch hm)⟩⟩,h2,h3,h4⟩
end Att
namespace L2
open PySem PySem.Spec PyProof.Rows
theorem vals_ints : ∀ {vs : List Value} {ns : List Int},IntsAre vs ns→Vals (ns.map V.int) vs
  | _,_,.nil => .nil
  | _,_,.cons n t h => .cons ⟨t,rfl⟩ (vals_ints h)
def Only (H : Hp) : Prop:=∀ b,H b = none∨∃ o xs,H b = some (.frz o (.lst xs))
theorem law_call {P : Program} {w : World} {K : PySem.W.Frag} {mg mb : Str→Option Value} {CX : CXT} {k : Nat} {fa a : Addr} {fd : FuncData} {x : Str} {sp : Sp} {s₁ : Shared} {vs : List Value} {ns : List Int}
    (KX : K.In s₁.heap) (hns : s₁.heap.Ns mainGlobals mg) (hb : s₁.heap.Ns builtinsNs mb) (hbb : ∀ x : Str,x ≠ "__name__" → mb x = bootBuiltins x) (hlim : s₁.heap.NoLimit) (hg : s₁.gens = #[])
    (ha : s₁.heap.get? a = some { cls:=.type "list",data:=.seq vs.toArray }) (hi : IntsAre vs ns) (hl : ns.length≤sizeLine) (hr : Room k callerA)
    (F : ∀ base : Heap,K.In base→base.Ns mainGlobals mg→FnOk P w K mg base CX k fa fd [x] sp) (hbind : ∀ (s : Shared) (u : Value),BindsTo s fd ⟨[u],[]⟩ [(x,u)])
    (hsp : ∀ H : Hp,Only H→SqL K H a (ns.map V.int)→sp [.ref a] H (fun v _ => v = .bl true) fun _ _ _ => False)
    (hCX : ∀ H e s',CX [] H s₁ (fun _ _ _ => False) e s'→False) :
    codeAny (model P w) callerA (.call (.ref fa) ⟨[.ref a],[]⟩) (fun r s' => r = .ok (.ret (.bool true))∧OldK s₁.heap s'.heap∧s'.os = s₁.os∧AllBare s'.gens) s₁ := by
  have rv:=vals_ints hi
  have lenV:=hi.length
  have core : ∀ H : Hp,Only H→SqL K H a (ns.map V.int)→HOk P w H s₁.heap→(∀ b,H b≠none→b = a)→(H a≠none→K.lookup a = none) →
      codeAny (model P w) callerA (.call (.ref fa) ⟨[.ref a],[]⟩) (fun r s' => r = .ok (.ret (.bool true))∧OldK s₁.heap s'.heap∧s'.os = s₁.os∧AllBare s'.gens) s₁ := by
    intro H hO hS hok hA hK
    have base_of : ∀ {b : Addr} {o : Obj},s₁.heap.get? b = some o→H b = none→(hidT s₁.heap H).get? b = some o:=fun e n => hidT_get e n
    have noA : ∀ {b : Addr} {o : Obj} {es : Array DictEntry} {ep : Nat},s₁.heap.get? b = some o→o.data = .dict es ep→H b = none:=fun {b o es ep} e d => by
      cases q : H b with
      | none => rfl
      | some u =>
        have e' : b = a:=hA b (by rw [q]; simp)
        subst e'
        rw [ha] at e; cases e
        have d' : Data.seq vs.toArray _ = Data.dict es ep:=d
        cases d'
    have nsK : ∀ {b : Addr} {m : Str→Option Value},s₁.heap.Ns b m→(hidT s₁.heap H).Ns b m:=fun {b m} ⟨o,es,ep,e,d,r⟩ => ⟨o,es,ep,base_of e (noA e d),d,r⟩
    have hKb : K.In (hidT s₁.heap H):=fun b o e => base_of (KX b o e) (by
      cases q : H b with
      | none => rfl
      | some u =>
        have e' : b = a:=hA b (by rw [q]; simp)
        subst e'
        rw [hK (by rw [q]; simp)] at e; cases e)
    have hM : Mod K mg (hidT s₁.heap H):=⟨hKb,nsK hns,⟨mb,nsK hb,hbb⟩,let ⟨mc,h1,h2⟩:=hlim; ⟨mc,nsK h1,h2⟩⟩
    have e0 : Env0 P w K mg (hidT s₁.heap H) callerA [] s₁ H:=⟨rfl,hM,fun b o e => of_hidT e,Nat.le_of_eq (hidT_size _ _),trivial,fun b hb => absurd (show b∈([] : List Addr) from hb) (by simp),hok,.of_eq hg⟩
    refine codeAny_mono ((F _ hKb (nsK hns)).run callerA [] s₁ H ⟨[.ref a],[]⟩ [.ref a] [.ref a] _ _ hr e0 (hbind s₁ (.ref a)) (.cons rfl .nil) (hsp H hO hS)) fun r s' h => ?_
    cases r with
    | error e => exact (hCX H e s' h).elim
    | ok fl =>
      cases fl with
      | next => exact False.elim h
      | brk => exact False.elim h
      | cont => exact False.elim h
      | ret u =>
        obtain ⟨v,H',os,bare,un,hok',r',q⟩:=h
        have q' : v = .bl true:=q
        subst q'
        obtain rfl : u = Value.bool true:=r'
        refine ⟨rfl,OldK.of_keep fun b o e => ?_,os,bare⟩
        cases q : H b with
        | none => exact un.keep b o e q (by intro z; exact absurd (show b∈([] : List Addr) from z) (by simp)) (by simp)
        | some u =>
          rcases hO b with z | ⟨ob,xs,z⟩
          · rw [q] at z; cases z
          · have z2:=un.frzs b ob _ z
            obtain ⟨e1,_⟩:=hok b _ z
            obtain ⟨e2,_⟩:=hok' b _ z2
            rw [e] at e1; cases e1
            exact e2
  cases hk : K.lookup a with
  | some o =>
    have e:=KX a o hk
    rw [ha] at e
    cases e
    refine core (fun _ => none) (fun _ => .inl rfl) (.inr ⟨_,vs.toArray,_,hk,rfl,rfl,rfl,by rw [List.size_toArray,lenV]; exact hl,by simpa using rv⟩) (fun b u z => by have z' : (none : Option HO) = some u:=z; cases z') (fun b z => absurd rfl z) fun z => absurd rfl z
  | none =>
    refine core (fun b => if b = a then some (.frz { cls:=.type "list",data:=.seq vs.toArray } (.lst (ns.map V.int))) else none) (fun b => ?_) (.inl (.inr ⟨{ cls:=.type "list",data:=.seq vs.toArray },if_pos rfl⟩)) (fun b u z => ?_) (fun b z => ?_) fun _ => hk
    · by_cases hb : b = a
      · exact .inr ⟨_,_,if_pos hb⟩
      · exact .inl (if_neg hb)
    · by_cases hb : b = a
      · have z':=(if_pos hb).symm.trans z
        cases z'
        subst hb
        exact ⟨ha,by rw [List.length_map]; exact hl,vs,_,rv,ha⟩
      · have z':=(if_neg hb).symm.trans z
        cases z'
    · by_cases hb : b = a
      · exact hb
      · exact absurd (if_neg hb) z
theorem walk_of {l : PySem.W.OpenLaw} {n k : Nat} {q : Program} {loose : List Str} {XP : (Str→Option Value)→Heap→Prop} {YP : World→Heap→Prop} {d : DefRec} {K : Params→PySem.W.Frag} {CX : World→CXT} {sp : World→Sp} {x : Str}
    (hn : l.most = some n) (hn2 : n≤sizeLine) (hdf : d.params.defaults = []) (hr : Room k callerA)
    (hY : ∀ (w : World) (h : Heap),YP w h→(K w.params).In h)
    (F : ∀ (w : World) (mg : Str→Option Value) (fa : Addr) (h : Heap),(K w.params).In h→h.Ns mainGlobals mg→mg d.name = some (.ref fa) →
      ∃ fd : FuncData,(∀ (s : Shared) (u : Value),BindsTo s fd ⟨[u],[]⟩ [(x,u)]) ∧
        ∀ base : Heap,(K w.params).In base→base.Ns mainGlobals mg→FnOk l.prog w (K w.params) mg base (CX w) k fa fd [x] (sp w))
    (hsp : ∀ (w : World) (H : Hp) (a : Addr) (ns : List Int),ns.length≤n→Only H→SqL (K w.params) H a (ns.map V.int)→sp w [.ref a] H (fun v _ => v = .bl true) fun _ _ _ => False)
    (hCX : ∀ (w : World) (H : Hp) (s : Shared) (e : Value) (s' : Shared),CX w [] H s (fun _ _ _ => False) e s'→False) :
    PySem.W.WalkO q loose XP YP l.row.toRowW d [] (fun f vs => PySem.call f vs) := by
  refine Att.attach_call hn hdf fun w s₀ s₁ mg mb fa o pm cd doc a vs ns G Y ho hd hcd hmg hobj hints hlen hg => ?_
  have KX:=hY w _ Y
  obtain ⟨fd,hb,hF⟩:=F w mg fa _ KX G.T.g hmg
  exact law_call KX G.T.g G.T.b G.T.builtins G.T.nolimit hg hobj hints (Nat.le_trans hlen hn2) hr hF hb (fun H hO hS => hsp w H a ns hlen hO hS) fun H e s' => hCX w H s₁ e s'
def defArgs (s : Stmt) : Arguments:=match s with
  | .FunctionDef _ a _ _ _ _ _ _ _ _ => a
  | _ => { posonlyargs:=[],args:=[],vararg:=none,kwonlyargs:=[],kw_defaults:=[],kwarg:=none,defaults:=[] }
def defBody (s : Stmt) : List Stmt:=match s with
  | .FunctionDef _ _ b _ _ _ _ _ _ _ => b
  | _ => []
def defScope (s : Stmt) : Scope:=match s with
  | .FunctionDef _ _ _ _ _ _ sc _ _ _ => sc
  | _ => { kind:=.function,names:=[],isGenerator:=false,isCoroutine:=false }
abbrev CX0 : CXT:=fun _ _ _ _ _ _ => False
abbrev E0 : XK:=fun _ _ _ => False
theorem pass0 {X : Cx} : Passes CX0 X E0:=fun _ _ _ _ _ _ _ h => h.elim
structure Fun (K : PySem.W.Frag) (x qual : Str) (st : Stmt) (f : Addr) (fd : FuncData) : Prop where
  ex : ∃ (oc : Value) (od : Option Addr) (kV doc pm : Value) (an : Option Addr) (cdv ct : Value) (osl : Array (Option Value)),
    fd = PySem.W.fnOf x qual (defArgs st) (defBody st) (defScope st) .none kV doc pm an cdv ct∧K.lookup f = some ⟨oc,od,.func fd,osl⟩∧PySem.W.codeIn K cdv qual = true
  kp : PySem.W.keepIn K (.ref f) = true
section
variable {P : Program} {w : World} {K : PySem.W.Frag} {mg : Str→Option Value} {base : Heap}
theorem Fun.ok {x qual : Str} {st : Stmt} {f : Addr} {fd : FuncData} {N ps : List Str} {k : Nat} {sp : Sp} (F : Fun K x qual st f fd) (S : FnScope N ps (defScope st)) (len : ∀ vs H Q E,sp vs H Q E→vs.length = ps.length)
    (hbody : ∀ (cdv : Value) (A : Around) (outer : List Env) (s : Shared) (H : Hp) (vs : List V) (Q : VK) (E : XK),Room k (A.deeper (envOfC qual (defScope st) s.heap.objs.size f cdv))→sp vs H Q E →
      ∃ t,PSs (cxOf CX0 P w K mg base N qual (defScope st) f cdv A outer s H E).nox (defBody st) t∧t { nx:=fun _ H' => Q .non H',rt:=Q } (start N vs) H) : FnOk P w K mg base CX0 (k + 1) f fd ps sp := by
  obtain ⟨oc,od,kV,doc,pm,an,cdv,ct,osl,rfl,lk,hcd⟩:=F.ex
  refine fn_of lk hcd S len fun A outer s H vs Q E hr hsp => ?_
  obtain ⟨t,h,q⟩:=hbody cdv A outer s H vs Q E hr hsp
  exact ⟨t,h.nox,q⟩
theorem Fun.binds {x qual : Str} {st : Stmt} {f : Addr} {fd : FuncData} {ps : List Str} (F : Fun K x qual st f fd)
    (h : ∀ (kV doc pm : Value) (an : Option Addr) (cdv ct : Value) (us : List Value),us.length = ps.length→bindArgs (PySem.W.fnOf x qual (defArgs st) (defBody st) (defScope st) .none kV doc pm an cdv ct) ⟨us,[]⟩ = pure (ps.zip us)) : Binds K fd ps [] := by
  obtain ⟨oc,od,kV,doc,pm,an,cdv,ct,osl,rfl,lk,hcd⟩:=F.ex
  exact .all (h kV doc pm an cdv ct)
theorem fun_mk {x qual : Str} {st : Stmt} {f : Addr} {oc : Value} {od an : Option Addr} {osl : Array (Option Value)} {kV doc pm cdv ct : Value} (l : K.lookup f = some ⟨oc,od,.func (PySem.W.fnOf x qual (defArgs st) (defBody st) (defScope st) .none kV doc pm an cdv ct),osl⟩)
    (c : PySem.W.codeIn K cdv qual = true) (k : PySem.W.keepIn K (.ref f) = true) : Fun K x qual st f (PySem.W.fnOf x qual (defArgs st) (defBody st) (defScope st) .none kV doc pm an cdv ct):=⟨⟨oc,od,kV,doc,pm,an,cdv,ct,osl,rfl,l,c⟩,k⟩
end
theorem small1000 {n : Nat} (h : n≤1000) : n < sizeLine:=Nat.lt_of_le_of_lt h (by decide)
section
variable {X : Cx}
theorem pv (i : Nat) {x : Str} {pos : Pos} (hN : X.N[i]? = some x := by rfl) (hv : Vis X.env.scope x := by first | exact Or.inl rfl | exact Or.inr (Or.inl rfl) | exact Or.inr (Or.inr rfl)) (hd : (x == ("__debug__" : Str)) = false := by decide)
    (hcd : (x == ("__classdict__" : Str)) = false := by decide) : PE X (.Name x pos) (tVar i):=pe_var hN hv hd hcd
end
theorem iteF {A B : Prop} (h : B) : if false = true then A else B := by
  rw [if_neg Bool.false_ne_true]
  exact h
theorem iteT {A B : Prop} (h : A) : if true = true then A else B := by
  rw [if_pos rfl]
  exact h
theorem ite2 {c A B : Prop} [Decidable c] (h1 : c→A) (h2 : ¬ c→B) : if c then A else B := by
  by_cases h : c
  · rw [if_pos h]
    exact h1 h
  · rw [if_neg h]
    exact h2 h
def Same (H H' : Hp) : Prop:=∀ b o,H b = some o→H' b = some o
theorem Same.refl (H : Hp) : Same H H:=fun _ _ h => h
theorem Same.trans {H H1 H2 : Hp} (a : Same H H1) (b : Same H1 H2) : Same H H2:=fun c o h => b c o (a c o h)
theorem Same.seq {K : PySem.W.Frag} {H H' : Hp} {a : Addr} {xs : List V} (e : Same H H') (h : SqL K H a xs) : SqL K H' a xs := by
  rcases h with (h | ⟨o,h⟩) | h
  · exact .inl (.inl (e _ _ h))
  · exact .inl (.inr ⟨o,e _ _ h⟩)
  · exact .inr h
section
variable {X : Cx}
def CMulW (i j : Int) : Prop:=∃ m : Nat,m≤1000000∧i.natAbs < 2 ^ m∧j.natAbs < 2 ^ m
theorem CMulW.ok {i j : Int} (h : CMulW i j) : IntMulOk i j := by
  obtain ⟨m,hm,h1,h2⟩:=h
  exact IntMulOk.of_le (intBits_le_iff.mpr h1) (intBits_le_iff.mpr h2) (by omega)
theorem op_mulW : OpR X (binaryOp .Mult) (rI (fun i j => CMul i j∨CMulW i j) fun i j => .int (i * j)) :=
  opI fun _ _ _ _ _ _ _ hc q => mul_int q (hc.elim (fun z => z.ok) fun z => z.ok)
def CDivW (_i j : Int) : Prop:=j≠0∧∃ m : Nat,m≤9000∧j.natAbs < 2 ^ m
theorem op_fdivW : OpR X (binaryOp .FloorDiv) (rI CDivW fun i j => .int (i.fdiv j)):=opI fun i j _ _ _ _ _ hc q => by
  obtain ⟨h0,m,hm,h1⟩:=hc
  refine floordiv_int h0 q (.inl (PyProof.noPylong_of_log2 ?_))
  have hne : j.natAbs≠0 := by omega
  have : j.natAbs.log2 < m:=(Nat.log2_lt hne).mpr h1
  omega
mutual
def Br (K : PySem.W.Frag) (H : Hp) : PyData→V→Prop
  | .none,v => v = .non
  | .bool b,v => v = .bl b
  | .int i,v => v = .int i
  | .str x,v => v = .str x
  | .tuple ds,v => ∃ a xs,v = .ref a∧SqT K H a xs∧BrAll K H ds xs
  | .list ds,v => ∃ a xs,v = .ref a∧SqL K H a xs∧BrAll K H ds xs
  | .dict _,_ => False
def BrAll (K : PySem.W.Frag) (H : Hp) : List PyData→List V→Prop
  | [],xs => xs = []
  | d :: ds,xs => ∃ x r,xs = x :: r∧Br K H d x∧BrAll K H ds r
end
theorem Same.tup {K : PySem.W.Frag} {H H' : Hp} {a : Addr} {xs : List V} (e : Same H H') (h : SqT K H a xs) : SqT K H' a xs := by
  rcases h with (h | ⟨o,h⟩) | h
  · exact .inl (.inl (e _ _ h))
  · exact .inl (.inr ⟨o,e _ _ h⟩)
  · exact .inr h
mutual
theorem Br.reads {pins : List (Addr×Obj)} {σ : St} {H : Hp} {s : Shared} (I : Inv X pins σ H s) : ∀ {d : PyData} {v : V} {u : Value},Br X.K H d v→RelV v u→∃ as,Reads s.heap u d as
  | .none,_,u,h,r => by rw [Br] at h; subst h; cases r; exact ⟨_,.none⟩
  | .bool b,_,u,h,r => by rw [Br] at h; subst h; cases r; exact ⟨_,.bool b⟩
  | .int i,_,u,h,r => by rw [Br] at h; subst h; obtain ⟨t,rfl⟩:=r; exact ⟨_,.int i t⟩
  | .str x,_,u,h,r => by rw [Br] at h; subst h; obtain ⟨t,rfl⟩:=r; exact ⟨_,.str x t⟩
  | .tuple ds,_,u,h,r => by
    rw [Br] at h
    obtain ⟨a,xs,e1,h1,h2⟩:=h
    subst e1
    cases r
    obtain ⟨its,rv,⟨o,e,c,n,hd⟩,_⟩:=I.tuple h1
    obtain ⟨as,ra⟩:=BrAll.reads I h2 rv
    exact ⟨_,.tuple e c hd (by simpa using ra)⟩
  | .list ds,_,u,h,r => by
    rw [Br] at h
    obtain ⟨a,xs,e1,h1,h2⟩:=h
    subst e1
    cases r
    obtain ⟨its,rv,⟨o,n,e,c,_,hd⟩,_⟩:=I.list h1
    obtain ⟨as,ra⟩:=BrAll.reads I h2 rv
    exact ⟨_,.list e c hd (by simpa using ra)⟩
  | .dict _,_,_,h,_ => by rw [Br] at h; exact h.elim
theorem BrAll.reads {pins : List (Addr×Obj)} {σ : St} {H : Hp} {s : Shared} (I : Inv X pins σ H s) : ∀ {ds : List PyData} {xs : List V} {us : List Value},BrAll X.K H ds xs→Vals xs us→∃ as,ReadsAll s.heap us ds as
  | [],_,us,h,r => by rw [BrAll] at h; subst h; cases r; exact ⟨_,.nil⟩
  | _ :: _,_,us,h,r => by
    rw [BrAll] at h
    obtain ⟨x,q,e1,h1,h2⟩:=h
    subst e1
    cases r with
    | cons r1 r2 =>
      obtain ⟨as,ra⟩:=Br.reads I h1 r1
      obtain ⟨bs,rb⟩:=BrAll.reads I h2 r2
      exact ⟨_,.cons ra rb⟩
end
def rEqD (K : PySem.W.Frag) (neg : Bool) : R2:=fun x y H Q => ∃ d e,Br K H d x∧Br K H e y∧SeqAt.shaped d = true∧SeqAt.shaped e = true∧Q (.bl (if neg then !PyData.eqv d e else PyData.eqv d e)) H
theorem op_eqD (hu : X.A.units + 64 < cLine) : OpR X (compareOp .Eq) (rEqD X.K false) := by
  intro pins s σ H x y v u Q I rx ry h
  obtain ⟨d,e,h1,h2,s1,s2,q⟩:=h
  obtain ⟨as,ra⟩:=Br.reads I h1 rx
  obtain ⟨bs,rb⟩:=Br.reads I h2 ry
  exact eq_dataH ra rb s1 s2 hu ⟨.bl _,H,I,rfl,q⟩
theorem op_neD (hu : X.A.units + 64 < cLine) : OpR X (compareOp .NotEq) (rEqD X.K true) := by
  intro pins s σ H x y v u Q I rx ry h
  obtain ⟨d,e,h1,h2,s1,s2,q⟩:=h
  obtain ⟨as,ra⟩:=Br.reads I h1 rx
  obtain ⟨bs,rb⟩:=Br.reads I h2 ry
  exact ne_dataH ra rb s1 s2 hu ⟨.bl _,H,I,rfl,q⟩
end
end L2
set_option maxHeartbeats 4000000
namespace L2
open PySem PySem.Spec PyProof.Rows
def PIf (X : Cx) (ifs : List Expr) (t : TT) : Prop :=
  ∀ (pins : List (Addr×Obj)) (s : Shared) (σ : St) (H : Hp) (Q : Bool→Hp→Prop),Inv X pins σ H s→t σ H Q →
    wpAny (model X.prog X.w) X.A (forIn ifs true fun c r => if r = true then do let ok ← isTrue c X.env (eval c X.env); pure (ForInStep.yield ok) else pure (ForInStep.yield r)) (TP X pins σ Q) X.xe s
def tNoIf : TT:=fun _ H Q => Q true H
theorem pif_nil {X : Cx} : PIf X [] tNoIf:=fun _ _ σ H _ I h => wpAny_tests_nil ⟨H,I,h⟩
theorem pif_one {X : Cx} {c : Expr} {t : TT} (h : PT X c t) : PIf X [c] t := by
  intro pins s σ H Q I hw
  simp only [List.forIn_cons,List.forIn_nil,if_true]
  refine wpAny_bind (wpAny_bind (thn (h pins s σ H Q I hw) fun b s1 q => ?_))
  exact wpAny_pure (wpAny_pure q)
def frOk (N XN : List Str) (sc xsc : Scope) : List (Option Nat)→Nat→Bool
  | [],_ => true
  | none :: r,i => frOk N XN sc xsc r (i + 1)
  | some j :: r,i => (match N[i]?,XN[j]? with
      | some n,some m => n == m && sc.names.lookup n == some .free && xsc.names.lookup n == some .cell
      | _,_ => false) && frOk N XN sc xsc r (i + 1)
theorem frOk_get {N XN : List Str} {sc xsc : Scope} : ∀ {fr : List (Option Nat)} {k : Nat},frOk N XN sc xsc fr k = true→∀ {i j : Nat},fr[i]? = some (some j) →
    ∃ n,N[k + i]? = some n∧XN[j]? = some n∧sc.names.lookup n = some .free∧xsc.names.lookup n = some .cell
  | [],_,_,i,j,e => by simp at e
  | none :: r,k,h,0,j,e => by simp at e
  | none :: r,k,h,i + 1,j,e => by
    have q:=frOk_get (fr:=r) (k:=k + 1) h (i:=i) (j:=j) (by simpa using e)
    have z : k + (i + 1) = k + 1 + i := by omega
    rw [z]; exact q
  | some j' :: r,k,h,0,j,e => by
    have e' : j' = j := by simpa using e
    subst e'
    rw [frOk,Bool.and_eq_true] at h
    have h1:=h.1
    split at h1
    · rename_i n m hn hm
      simp only [Bool.and_eq_true,beq_iff_eq] at h1
      obtain ⟨⟨rfl,h2⟩,h3⟩:=h1
      exact ⟨n,by simpa using hn,hm,h2,h3⟩
    · cases h1
  | some j' :: r,k,h,i + 1,j,e => by
    rw [frOk,Bool.and_eq_true] at h
    have q:=frOk_get (fr:=r) (k:=k + 1) h.2 (i:=i) (j:=j) (by simpa using e)
    have z : k + (i + 1) = k + 1 + i := by omega
    rw [z]; exact q
def carry (fr : List (Option Nat)) (σ : St) : St:=fr.map fun o => match o with
  | some j => (σ[j]?).join
  | none => none
theorem carry_get {fr : List (Option Nat)} {σ : St} {i : Nat} {v : V} (h : (carry fr σ)[i]? = some (some v)) : ∃ j,fr[i]? = some (some j)∧σ[j]? = some (some v) := by
  unfold carry at h
  rw [List.getElem?_map] at h
  cases e : fr[i]? with
  | none => rw [e] at h; cases h
  | some o =>
    rw [e] at h
    cases o with
    | none => simp at h
    | some j =>
      refine ⟨j,rfl,?_⟩
      simp only [Option.map_some,Option.some.injEq] at h
      cases q : σ[j]? with
      | none => rw [q] at h; cases h
      | some w => rw [q] at h; simp at h; rw [h]
theorem closure_of {env : Env} : ∀ (names : List (Str×NameKind)) (cs : List (Str×Addr)),(∀ x∈names,x.2 = NameKind.free→∃ c,env.cells.lookup x.1 = some c)→(∀ x c,cs.lookup x = some c→env.cells.lookup x = some c) →
    ∃ cl,(forIn names cs (fun (x : Str×NameKind) (r : List (Str×Addr)) => do if (x.2 == NameKind.free) = true then do let a ← cellOf env x.1; pure (ForInStep.yield ((x.1,a) :: r)) else pure (ForInStep.yield r)) : Sem (List (Str×Addr))) = pure cl ∧
      (∀ x c,cl.lookup x = some c→env.cells.lookup x = some c)∧(∀ x,(∃ c,cs.lookup x = some c)→∃ c,cl.lookup x = some c)∧∀ x∈names,x.2 = NameKind.free→∃ c,cl.lookup x.1 = some c
  | [],cs,_,h2 => ⟨cs,rfl,h2,fun _ q => q,fun _ z => (by cases z)⟩
  | (n,k) :: r,cs,h1,h2 => by
    rw [List.forIn_cons]
    by_cases hk : (k == NameKind.free) = true
    · obtain ⟨c,hc⟩:=h1 (n,k) List.mem_cons_self (by simpa using hk)
      have h2' : ∀ x c',((n,c) :: cs).lookup x = some c'→env.cells.lookup x = some c':=fun x c' e => by
        rw [List.lookup_cons] at e
        cases hx : x == n with
        | true => rw [hx] at e; have := beq_iff_eq.mp hx; subst this; simp at e; rw [← e]; exact hc
        | false => rw [hx] at e; exact h2 x c' e
      obtain ⟨cl,q1,q2,q3,q4⟩:=closure_of r ((n,c) :: cs) (fun x hx => h1 x (List.mem_cons_of_mem _ hx)) h2'
      have hn : ∃ c',cl.lookup n = some c':=q3 n ⟨c,by rw [List.lookup_cons,beq_self_eq_true]⟩
      refine ⟨cl,?_,q2,fun x hx => ?_,fun x hx hf => ?_⟩
      · simp only [hk,if_true]
        unfold cellOf
        rw [hc]
        exact q1
      · refine q3 x ?_
        rw [List.lookup_cons]
        cases hxn : x == n with
        | true => exact ⟨c,rfl⟩
        | false => exact hx
      · rcases List.mem_cons.mp hx with e | hx
        · subst e; exact hn
        · exact q4 x hx hf
    · obtain ⟨cl,q1,q2,q3,q4⟩:=closure_of r cs (fun x hx => h1 x (List.mem_cons_of_mem _ hx)) h2
      refine ⟨cl,?_,q2,q3,fun x hx hf => ?_⟩
      · simp only [hk]
        exact q1
      · rcases List.mem_cons.mp hx with e | hx
        · subst e; exact absurd (by simpa using hf) hk
        · exact q4 x hx hf
def cxComp (X : Cx) (scope : Scope) (cl : List (Str×Addr)) (N : List Str) (C : Addr) (s₀ : Shared) (H₀ : Hp) (fp : List Addr) : Cx where
  prog:=X.prog
  w:=X.w
  K:=X.K
  mg:=X.mg
  base:=X.base
  A:=X.A
  N:=N
  s₀:=s₀
  H₀:=H₀
  env:=compEnvC scope cl C X.env
  outer:=X.stack
  stack:=X.stack
  ex:=fp
  fn:=fun _ => false
  calm:=X.calm
  pn:=[]
  xe:=fun _ _ => False
def tComp (wi : TI) (fr : List (Option Nat)) (ix : Nat) (tif : TT) (te : TE) : TE:=fun σ H Q => wi σ H fun J H1 => ∀ D,H1 D = none→∃ W : Nat→Nat→List V→Hp→Prop,(∃ m,W 0 m [] (upd H1 D (.lst []))) ∧
  ∀ i m ys H,W i m ys H→H D = some (.lst ys)∧((J.stop i H∧Q (.ref D) H)∨(J.go i H∧ys.length < sizeLine∧∀ x H',J.yld i H x H' →
    tif ((carry fr σ).set ix (some x)) H' fun b H2 => if b = true then te ((carry fr σ).set ix (some x)) H2 fun y H3 => H3 D = some (.lst ys)∧∃ m',m' < m∧W (i + 1) m' (ys ++ [y]) (upd H3 D (.lst (ys ++ [y])))
      else ∃ m',m' < m∧W (i + 1) m' ys H2))
structure CompScope (scope : Scope) (N : List Str) (x : Str) (ix : Nat) : Prop where
  kind : scope.kind = .function
  cell : ∀ y∈scope.names,y.2≠.cell
  names : ∀ y∈scope.names,y.2 = .local→scope.names.lookup y.1 = some .local
  free : ∀ y∈scope.names,y.2 = .free→scope.names.lookup y.1 = some .free
  loc : scope.names.lookup x = some .local
  nd : N.Nodup
  at_ : N[ix]? = some x
theorem lookup_mem {names : List (Str×NameKind)} {n : Str} {k : NameKind} : names.lookup n = some k→(n,k)∈names := by
  induction names with
  | nil => intro h; cases h
  | cons y r ih =>
    intro h
    obtain ⟨m,j⟩:=y
    rw [List.lookup_cons] at h
    cases e : n == m with
    | true => rw [e] at h; have := beq_iff_eq.mp e; subst this; simp at h; subst h; exact List.mem_cons_self
    | false => rw [e] at h; exact List.mem_cons_of_mem _ (ih h)
theorem relabel_kind {scope : Scope} {env : Env} (hc : ∀ y∈scope.names,y.2≠.cell) {n : Str} (h : (relabel scope env).names.lookup n = some .cell∨(relabel scope env).names.lookup n = some .free) : ∃ k,(n,k)∈scope.names∧k = NameKind.free := by
  have key : ∀ k',(relabel scope env).names.lookup n = some k'→(k' = .cell∨k' = .free)→∃ k,(n,k)∈scope.names∧k = NameKind.free:=fun k' h hk => by
    have hm:=lookup_mem h
    unfold relabel at hm
    obtain ⟨⟨m,k⟩,hy,e⟩:=List.mem_map.mp hm
    dsimp only at e
    by_cases hcond : (k == NameKind.free && env.scope.kind == .function && env.kindOf m == some .cell) = true
    · rw [if_pos hcond] at e
      injection e with e1 e2
      subst e1
      refine ⟨k,hy,?_⟩
      simp only [Bool.and_eq_true,beq_iff_eq] at hcond
      exact hcond.1.1
    · rw [if_neg hcond] at e
      injection e with e1 e2
      subst e1 e2
      rcases hk with rfl | rfl
      · exact absurd rfl (hc _ hy)
      · exact ⟨_,hy,rfl⟩
  rcases h with h | h
  · exact key _ h (.inl rfl)
  · exact key _ h (.inr rfl)
section
variable {X : Cx} {elt iter : Expr} {x : Str} {px pos : Pos} {ifs : List Expr} {scope : Scope} {wi : TI} {fr : List (Option Nat)} {ix : Nat} {tif : TT} {te : TE} {N : List Str}
theorem comp_block {pins : List (Addr×Obj)} {σ : St} {H2 : Hp} {s2 : Shared} {Q : VK} {it : Addr} {fp : List Addr} {tn : Nat→Heap→Prop} {J : It} {cl : List (Str×Addr)} {E : Value→Shared→Prop} {RR : Value→Addr→Result→Shared→Prop}
    (S : CompScope scope N x ix) (hcalm : X.calm = true) (hfr : frOk N X.N scope X.env.scope fr 0 = true) (hlen : fr.length = N.length)
    (hif : ∀ cl C s₀ H₀ fp,PIf (cxComp X scope cl N C s₀ H₀ fp) ifs tif) (he : ∀ cl C s₀ H₀ fp,PE (cxComp X scope cl N C s₀ H₀ fp) elt te)
    (I2 : Inv X pins σ H2 s2) (T : Turn X.prog X.w X.K (.Name x px) J fp it tn) (st2 : tn 0 s2.heap) (f2 : ∀ b∈fp,FpOk X pins H2 b)
    (c1 : ∀ x c,cl.lookup x = some c→X.env.cells.lookup x = some c) (c2 : ∀ x∈scope.names,x.2 = NameKind.free→∃ c,cl.lookup x.1 = some c)
    (W : ∀ D,H2 D = none→∃ W : Nat→Nat→List V→Hp→Prop,(∃ m,W 0 m [] (upd H2 D (.lst []))) ∧
      ∀ i m ys H,W i m ys H→H D = some (.lst ys)∧((J.stop i H∧Q (.ref D) H)∨(J.go i H∧ys.length < sizeLine∧∀ x H',J.yld i H x H' →
        tif ((carry fr σ).set ix (some x)) H' fun b H2 => if b = true then te ((carry fr σ).set ix (some x)) H2 fun y H3 => H3 D = some (.lst ys)∧∃ m',m' < m∧W (i + 1) m' (ys ++ [y]) (upd H3 D (.lst (ys ++ [y])))
          else ∃ m',m' < m∧W (i + 1) m' ys H2)))
    (fin : ∀ (D C : Addr) (s' : Shared) (H' : Hp) m,s'.heap.Ns C m→Q (.ref D) H'→(∀ h',Heap.SameBut C s'.heap h'→Inv X pins σ H' { s' with heap:=h' })→C≠D→(∀ b o,s2.heap.get? b = some o→b≠C)→H' C = none→s2.heap.objs.size≤C→RR (.ref D) C (.ok .next) s') :
    wpAny (model X.prog X.w) X.A (newList []) (fun acc s₃ => wpAny (model X.prog X.w) X.A (newFunctionEnv scope X.env.globals cl [] X.env.qual none .none (some X.env)) (fun cenv s₄ =>
      codeAny (model X.prog X.w) X.A (.compStart (.ListComp elt [⟨.Name x px,iter,ifs,0⟩] scope pos) 0 (.ref it) acc { cenv with scope:=relabel scope X.env }) (RR acc cenv.locals) s₄) E s₃) E s2 := by
  refine wpAny_newObj_type (wpAny_newFunctionEnv S.cell (by intro y hy; simp at hy) (fun h₁ hns₁ hsb₁ => ?_) S.kind)
  dsimp only at hns₁ hsb₁ ⊢
  generalize hHp : s2.heap.push { cls:=.type "list",dict:=none,data:=.seq ([] : List Value).toArray } = Hq at hns₁ hsb₁ ⊢
  have hC : Hq.objs.size = s2.heap.objs.size + 1 := by rw [← hHp,Heap.size_push]
  have hDC : s2.heap.objs.size≠Hq.objs.size := by rw [hC]; exact Nat.ne_of_lt (Nat.lt_succ_self _)
  have below : ∀ b,b < s2.heap.objs.size→b≠Hq.objs.size∧b≠s2.heap.objs.size:=fun b hb => ⟨by rw [hC]; exact Nat.ne_of_lt (Nat.lt_succ_of_lt hb),Nat.ne_of_lt hb⟩
  have old : ∀ b o,s2.heap.get? b = some o→h₁.get? b = some o:=fun b o e => hsb₁.extBut b o (below b (Heap.lt_size e)).1 (Heap.get?_push_of_some _ (hHp ▸ Heap.get?_push_of_some _ e))
  have hacc : h₁.get? s2.heap.objs.size = some { cls:=.type "list",data:=.seq ([] : List Value).toArray }:=hsb₁.extBut _ _ hDC (Heap.get?_push_of_some _ (hHp ▸ Heap.get?_push_size _ rfl))
  have hD2 : H2 s2.heap.objs.size = none:=I2.hok.fresh (Nat.le_refl _)
  have hC2 : H2 Hq.objs.size = none:=I2.hok.fresh (by rw [hC]; exact Nat.le_succ _)
  have fpo : ∀ b∈fp,b < s2.heap.objs.size:=fun b hb => by
    obtain ⟨o,e,_⟩:=T.obj _ _ st2 b hb
    exact Heap.lt_size e
  obtain ⟨W,⟨m0,w0⟩,turn⟩:=W s2.heap.objs.size hD2
  have ok : (cxComp X scope cl N Hq.objs.size s2 H2 fp).Ok := by
    refine ⟨I2.ok.mod,S.kind,I2.ok.glob,I2.ok.blt,by show s2.heap.objs.size≤Hq.objs.size; rw [hC]; exact Nat.le_succ _,?_,?_,?_,fun _ => I2.ok.hd hcalm,I2.ok.frames,.inl rfl,?_,I2.bs,Nat.le_trans I2.ok.bsz I2.sz,?_,?_,I2.stack,I2.stkFree⟩
    · exact fun a b c h1 h2 => I2.ok.inj a b c (c1 _ _ h1) (c1 _ _ h2)
    · intro y hy
      obtain ⟨k,hm,rfl⟩:=relabel_kind S.cell hy
      exact c2 _ hm rfl
    · intro y c hf
      cases hf
    · intro b hb
      refine ⟨(below b (fpo b hb)).1,fun y c e => ?_⟩
      obtain ⟨_,_,_,_,f5,_⟩:=f2 b hb
      exact f5 y c (c1 _ _ e)
    · intro b o e hb
      obtain ⟨_,_,_,f4,_,_⟩:=f2 b hb
      rcases f4 with z | z
      · exact I2.ok.noex b o e z
      · exact absurd (Nat.lt_of_lt_of_le (Heap.lt_size e) (Nat.le_trans I2.ok.bsz z)) (Nat.lt_irrefl _)
    · intro b hb hs
      obtain ⟨_,f1,f3,_⟩:=f2 b hb
      rcases List.mem_cons.mp (I2.stkSub b hs) with z | z
      · exact f1 z
      · exact f3 z
  have I4 : Inv (cxComp X scope cl N Hq.objs.size s2 H2 fp) [] (carry fr σ) (upd H2 s2.heap.objs.size (.lst [])) { s2 with heap:=h₁,toks:=s2.toks + ([] : List (Str×Value)).length } := by
    refine ⟨ok,rfl,I2.bare,Un.laid old (Nat.le_refl _) hD2,⟨_,hns₁,fun i y v h1 h2 h3 => ?_⟩,fun y c e => ?_,?_,fun y c e => ?_,fun p hp => (by cases hp),I2.hok.laid old (Nat.le_refl _) ⟨Nat.zero_le _,[],0,.nil,hacc⟩,?_⟩
    · obtain ⟨j,e1,e2⟩:=carry_get h2
      obtain ⟨n,n1,n2,n3,n4⟩:=frOk_get hfr e1
      rw [Nat.zero_add] at n1
      have : y = n := by
        have h1' : N[i]? = some y:=h1
        rw [h1'] at n1; exact Option.some.inj n1
      subst this
      obtain ⟨m,hn,hl⟩:=I2.loc
      obtain ⟨u,ru,lk⟩:=hl j y v n2 e2 (.inr (.inl n4))
      refine ⟨u,ru,?_⟩
      obtain ⟨c,hc⟩:=c2 _ (lookup_mem n3) rfl
      rcases lk with ⟨k1,_⟩ | ⟨_,c',hc',hcell⟩
      · have k1' : X.env.scope.names.lookup y = some .local:=k1
        rw [n4] at k1'; cases k1'
      · have:=c1 _ _ hc
        rw [hc'] at this; cases this
        refine .inr ⟨?_,c,hc,hcell.keeps old⟩
        rcases h3 with z | z | z
        · obtain ⟨k,hm⟩ : ∃ k,(y,k)∈scope.names∧k = NameKind.local := by
            have hm:=lookup_mem z
            have hm' : (y,NameKind.local)∈(relabel scope X.env).names:=hm
            unfold relabel at hm'
            obtain ⟨⟨m',k⟩,hy,e⟩:=List.mem_map.mp hm'
            dsimp only at e
            by_cases hcond : (k == NameKind.free && X.env.scope.kind == .function && X.env.kindOf m' == some .cell) = true
            · rw [if_pos hcond] at e; injection e with _ e2'; cases e2'
            · rw [if_neg hcond] at e; injection e with e1' e2'; subst e1' e2'; exact ⟨_,hy,rfl⟩
          obtain ⟨hm,rfl⟩:=hm
          have:=S.names _ hm rfl
          rw [n3] at this; cases this
        · exact .inl z
        · exact .inr z
    · obtain ⟨v,z⟩:=I2.cell y c (c1 _ _ e)
      exact ⟨v,z.keeps old⟩
    · show upd H2 s2.heap.objs.size _ Hq.objs.size = none
      rw [upd_ne (Ne.symm hDC)]; exact hC2
    · obtain ⟨v,o,ho,_⟩:=I2.cell y c (c1 _ _ e)
      rw [upd_ne (below c (Heap.lt_size ho)).2]
      exact I2.freeC y c (c1 _ _ e)
    · show (carry fr σ).length = N.length
      unfold carry
      rw [List.length_map]; exact hlen
  have fpX : ∀ (p : List (Addr×Obj)) (H' : Hp),(∀ q∈p,q.1∈fp→False)→(∀ b∈fp,H' b = none)→∀ b∈fp,FpOk (cxComp X scope cl N Hq.objs.size s2 H2 fp) p H' b:=fun p H' hp hn b hb => by
    obtain ⟨_,f1,f3,f4,f5,_⟩:=f2 b hb
    refine ⟨hn b hb,(below b (fpo b hb)).1,fun hs => ok.exfs b hb hs,.inl hb,fun y c e => f5 y c (c1 _ _ e),fun q hq e => ?_⟩
    exact hp q hq (e ▸ hb)
  have hxv : (relabel scope X.env).names.lookup x = some .local:=lookup_relabel_local S.loc
  have loop : ∀ s₃ : Shared,s₃ = { s2 with heap:=h₁,toks:=s2.toks + ([] : List (Str×Value)).length } →
      codeAny (model X.prog X.w) X.A (.compLoop (.ListComp elt [⟨.Name x px,iter,ifs,0⟩] scope pos) 0 (.ref it) (.ref s2.heap.objs.size) (compEnvC scope cl Hq.objs.size X.env)) (RR (.ref s2.heap.objs.size) Hq.objs.size) s₃ := by
    rintro s₃ rfl
    refine codeAny_compLoop_tests (fun n s' => ∃ i ys σ' H',Inv (cxComp X scope cl N Hq.objs.size s2 H2 fp) [] σ' H' s'∧(∀ v,σ'.set ix v = (carry fr σ).set ix v)∧tn i s'.heap∧(∀ b∈fp,H' b = none)∧W i n ys H') ?_ m0
      ⟨0,[],carry fr σ,_,I4,fun _ => rfl,T.keep _ _ _ st2 fun b _ o e => old b o e,fun b hb => by rw [upd_ne (below b (fpo b hb)).2]; exact (f2 b hb).1,w0⟩
    rintro n s3 ⟨i,ys,σ3,H3,I3,hσ,st3,fr3,w3⟩
    obtain ⟨hD3,way⟩:=turn i n ys H3 w3
    rcases way with ⟨stop,qn⟩ | ⟨go,hsz,step⟩
    · refine wpAny_mono (T.done (cxComp X scope cl N Hq.objs.size s2 H2 fp) rfl rfl rfl hcalm i [] s3 σ3 H3 (fun _ _ => False) I3 (fpX [] H3 (fun _ z => by cases z) fr3) st3 stop) (fun r s4 ⟨hr,I5⟩ => ?_) fun _ _ z => z.elim
      subst hr
      obtain ⟨m,hn,_⟩:=id I5.loc
      refine fin _ _ s4 H3 m hn qn (fun h' hs' => ?_) (Ne.symm hDC) (fun b o e => (below b (Heap.lt_size e)).1) I5.free (by rw [hC]; exact Nat.le_succ _)
      have nC : ∀ b u,H3 b = some u→b≠Hq.objs.size:=fun b u e z => by
        have:=I5.free
        rw [show (cxComp X scope cl N Hq.objs.size s2 H2 fp).env.locals = Hq.objs.size from rfl,← z,e] at this
        cases this
      have keepU : Un (frs X.stack) fp H2 H3 s2.heap h' := by
        have u:=I5.base
        refine ⟨fun b o e n hb hx => ?_,fun b o e n hb hx => ?_,fun b o e n hx => u.free b o e n hx,fun b o e hx => ?_,u.tups,u.frzs,u.tbls⟩
        · exact (hs'.2 b (below b (Heap.lt_size e)).1).trans (u.keep b o e n hb hx)
        · obtain ⟨sl,e1⟩:=u.slot b o e n hb hx
          exact ⟨sl,(hs'.2 b (below b (Heap.lt_size e)).1).trans e1⟩
        · obtain ⟨o',e1⟩:=u.there b o e hx
          exact ⟨o',(hs'.2 b (below b (Heap.lt_size e)).1).trans e1⟩
      have hok' : HOk X.prog X.w H3 h':=fun b u e => (I5.hok b u e).stay (fun c v hc q => (hs'.2 c (by
        rcases hc with rfl | hc
        · exact nC _ _ e
        · exact nC _ _ hc)).trans q) (fun _ q => q) fun _ _ q => q
      refine I2.call' (s':={ s4 with heap:=h' }) (ch:=fp) I5.os keepU hok' I5.bare fun b hb => ?_
      obtain ⟨_,f1,_,f4,f5,f6⟩:=f2 b hb
      exact ⟨f4,f1,f5,f6⟩
    · refine wpAny_mono (T.item (cxComp X scope cl N Hq.objs.size s2 H2 fp) rfl rfl rfl hcalm i [] s3 σ3 H3 (fun _ _ => False) I3 (fpX [] H3 (fun _ z => by cases z) fr3) st3 go) (fun r s4 ⟨u,hr,h4⟩ => ?_) fun _ _ z => z.elim
      subst hr
      show wpAny (model X.prog X.w) X.A (letOwnedTupleGo (.Name x px) (.ref it) u >>= fun _ => assign (.Name x px) (compEnvC scope cl Hq.objs.size X.env) u) _ _ s4
      refine wpAny_bind (wpAny_mono h4 (fun _ s5 ⟨xv,H5,I5,r5,y5,st5,fr5⟩ => ?_) fun _ _ z => z.elim)
      have I5':=I5.pinned (fpX [] H5 (fun _ z => by cases z) fr5) (T.obj _ _ st5)
      refine wpAny_assign_Name (store_ok I5' S.nd S.at_ (.inl hxv) r5 (fun s6 I6 => ?_) (.inr hxv))
      rw [hσ] at I6
      refine wpAny_mono (hif _ _ _ _ _ _ s6 _ H5 _ I6 (step xv H5 y5)) (fun b s7 ⟨H7,I7,q7⟩ => ?_) fun _ _ z => z.elim
      have again : ∀ {s8 : Shared} {H8 : Hp} {k : Nat} {zs : List V},Inv (cxComp X scope cl N Hq.objs.size s2 H2 fp) ([] ++ pinsAt fp s5.heap) ((carry fr σ).set ix (some xv)) H8 s8→W (i + 1) k zs H8→k < n →
          ∃ m,m < n∧∃ i ys σ' H',Inv (cxComp X scope cl N Hq.objs.size s2 H2 fp) [] σ' H' s8∧(∀ v,σ'.set ix v = (carry fr σ).set ix v)∧tn i s8.heap∧(∀ b∈fp,H' b = none)∧W i m ys H':=fun {s8 H8 k zs} I8 w8 hk => by
        refine ⟨k,hk,i + 1,zs,_,H8,I8.unpinned,fun v => by rw [List.set_set],T.keep _ _ _ st5 fun b hb o e => (I8.pin (b,o) (List.mem_append_right _ (List.mem_append_right _ (mem_pinsAt hb e)))).1,fun b hb => ?_,w8⟩
        obtain ⟨o,e,d⟩:=T.obj _ _ st5 b hb
        exact (I8.pin (b,o) (List.mem_append_right _ (List.mem_append_right _ (mem_pinsAt hb e)))).2.1
      cases b with
      | false =>
        rw [if_neg Bool.false_ne_true] at q7 ⊢
        obtain ⟨k,hk,w7⟩:=q7
        exact again I7 w7 hk
      | true =>
        rw [if_pos rfl] at q7 ⊢
        refine wpAny_mono (he _ _ _ _ _ _ s7 _ H7 _ I7 q7) (fun yv s8 ⟨y,H8,I8,r8,hD8,k,hk,w8⟩ => ?_) fun _ _ z => z.elim
        refine wpAny_mono (mt_append (X:=cxComp X scope cl N Hq.objs.size s2 H2 fp) _ s8 _ H8 (.ref s2.heap.objs.size) [y] (.ref s2.heap.objs.size) [yv] (fun _ H9 => H9 = upd H8 s2.heap.objs.size (.lst (ys ++ [y]))) I8 rfl (.cons r8 .nil) ⟨_,ys,y,rfl,rfl,hD8,hsz,rfl⟩) (fun _ s9 ⟨_,H9,I9,_,e9⟩ => ?_) fun _ _ z => z.elim
        subst e9
        exact again I9 w8 hk
  exact codeAny_compStart_list (loop _ rfl) (T.self X.A 0 _ _ _ (T.keep _ _ _ st2 fun b _ o e => old b o e) (loop _ rfl))
theorem pe_comp (S : CompScope scope N x ix) (hcalm : X.calm = true) (hfr : frOk N X.N scope X.env.scope fr 0 = true) (hlen : fr.length = N.length) (hfree : ∀ y∈scope.names,y.2 = .free→X.env.scope.names.lookup y.1 = some .cell∨X.env.scope.names.lookup y.1 = some .free)
    (hi : PI X (.Name x px) iter wi) (hif : ∀ cl C s₀ H₀ fp,PIf (cxComp X scope cl N C s₀ H₀ fp) ifs tif) (he : ∀ cl C s₀ H₀ fp,PE (cxComp X scope cl N C s₀ H₀ fp) elt te)
    (hs : ∀ x,foldedSetIterable iter X.env x = pure x := by intro _; rfl) : PE X (.ListComp elt [⟨.Name x px,iter,ifs,0⟩] scope pos) (tComp wi fr ix tif te) := by
  intro pins s σ H Q I hw
  obtain ⟨cl,hclos,c1,_,c2⟩:=closure_of (env:=X.env) scope.names [] (fun y hy hf => I.ok.has y.1 (hfree y hy hf)) (fun y c z => by cases z)
  have hclos' : closureFor scope X.env = pure cl := by
    have e : closureFor scope X.env = ((forIn scope.names [] (fun (x : Str×NameKind) (r : List (Str×Addr)) => do if (x.2 == NameKind.free) = true then do let a ← cellOf X.env x.1; pure (ForInStep.yield ((x.1,a) :: r)) else pure (ForInStep.yield r)) : Sem (List (Str×Addr))) >>= fun cs => pure cs):=rfl
    rw [e,hclos]
    rfl
  rw [eval_ListComp]
  refine wpAny_comprehension_free (use:=none) rfl hs hclos' S.kind S.names (thn (hi pins s σ H _ I hw) fun v s1 h1 => thn h1 fun itv s2 h2 => ?_)
  obtain ⟨it,fp,tn,J,H2,e,I2,T,st2,f2,W⟩:=h2
  subst e
  refine comp_block (RR:=fun acc C => compPost (model X.prog X.w) X.A X.xe none (EP X pins σ Q) acc C) S hcalm hfr hlen hif he I2 T st2 f2 c1 c2 W ?_
  intro D C s' H' m hn q hI _ _ _ _
  exact ⟨m,hn,fun h' hs' => ⟨.ref D,H',hI h' hs',rfl,q⟩⟩
end
end L2
namespace FM
def gi (a b : Int) : Int:=(Int.gcd a b : Int)
theorem gcd_step (a b : Int) : Int.gcd b (a.fmod b) = Int.gcd a b := by
  have e : a.fmod b = a - b * a.fdiv b:=Int.fmod_def a b
  rw [e,Int.gcd_comm a b]
  exact Int.gcd_sub_mul_left_right b a (a.fdiv b)
theorem fmod_less (a b : Int) (hb : b≠0) : (a.fmod b).natAbs < b.natAbs := by
  rcases Int.lt_or_gt_of_ne hb with h | h
  · have h1 : -(a.fmod b) = (-a).fmod (-b) := by
      rw [Int.fmod_def,Int.fmod_def,Int.neg_fdiv_neg]
      have : -b * a.fdiv b = -(b * a.fdiv b):=Int.neg_mul _ _
      omega
    have h2:=Int.fmod_nonneg_of_pos (-a) (show 0 < -b by omega)
    have h3:=Int.fmod_lt_of_pos (-a) (show 0 < -b by omega)
    omega
  · have h2:=Int.fmod_nonneg_of_pos a h
    have h3:=Int.fmod_lt_of_pos a h
    omega
theorem gi_pos {a b : Int} (hb : b≠0) : 0 < gi a b := by
  have : 0 < Int.gcd a b:=Int.gcd_pos_of_ne_zero_right a hb
  unfold gi; omega
theorem gi_le {a b : Int} (hb : b≠0) : (gi a b).natAbs≤b.natAbs := by
  have h : Int.gcd a b ∣ b.natAbs := by
    have:=Int.gcd_dvd_right a b
    exact Int.natAbs_dvd_natAbs.mpr this
  have h2 : 0 < b.natAbs := by omega
  have:=Nat.le_of_dvd h2 h
  unfold gi; omega
def gs (t b : Int) : Int:=if b < 0 then -gi t b else gi t b
theorem gs_ne {t b : Int} (hb : b≠0) : gs t b≠0 := by
  have:=gi_pos (a:=t) hb
  unfold gs; split <;> omega
theorem gs_le {t b : Int} (hb : b≠0) : (gs t b).natAbs≤b.natAbs := by
  have:=gi_le (a:=t) hb
  unfold gs; split <;> omega
theorem fdiv_exact {g x k : Int} (hg : g≠0) (e : x = g * k) : x.fdiv g = k := by
  subst e
  exact Int.mul_fdiv_cancel_left k hg
theorem gi_dvd_left (a b : Int) : gi a b ∣ a:=Int.gcd_dvd_left a b
theorem gi_dvd_right (a b : Int) : gi a b ∣ b:=Int.gcd_dvd_right a b
theorem num_eq {t b : Int} (hb : b≠0) : t.fdiv (gs t b) = (Rat.divInt t b).num := by
  have hp:=gi_pos (a:=t) hb
  obtain ⟨k,hk⟩:=gi_dvd_left t b
  rw [Rat.num_divInt,Int.gcd_comm b t]
  show t.fdiv (gs t b) = b.sign * t / gi t b
  unfold gs
  generalize gi t b = g at hp hk ⊢
  rcases Int.lt_or_gt_of_ne hb with h | h
  · rw [if_pos h,Int.sign_eq_neg_one_of_neg h,fdiv_exact (k:=-k) (by omega) (by rw [hk]; simp [Int.mul_neg,Int.neg_mul])]
    have : -1 * t = g * (-k) := by rw [hk]; simp [Int.mul_neg]
    rw [this,Int.mul_ediv_cancel_left _ (by omega)]
  · rw [if_neg (by omega),Int.sign_eq_one_of_pos h,fdiv_exact (k:=k) (by omega) hk,Int.one_mul,hk,Int.mul_ediv_cancel_left _ (by omega)]
theorem den_eq {t b : Int} (hb : b≠0) : b.fdiv (gs t b) = ((Rat.divInt t b).den : Int) := by
  have hp:=gi_pos (a:=t) hb
  obtain ⟨k,hk⟩:=gi_dvd_right t b
  rw [Rat.den_divInt,if_neg hb,Int.gcd_comm b t]
  have e : (((b.natAbs / Int.gcd t b : Nat)) : Int) = (b.natAbs : Int) / gi t b := by unfold gi; simp
  rw [e]
  unfold gs
  generalize gi t b = g at hp hk ⊢
  rcases Int.lt_or_gt_of_ne hb with h | h
  · rw [if_pos h,fdiv_exact (k:=-k) (by omega) (by rw [Int.neg_mul_neg]; exact hk)]
    have : (b.natAbs : Int) = g * (-k) := by rw [Int.mul_neg,← hk]; omega
    rw [this,Int.mul_ediv_cancel_left _ (by omega)]
  · rw [if_neg (by omega),fdiv_exact (k:=k) (by omega) hk]
    have : (b.natAbs : Int) = g * k := by rw [← hk]; omega
    rw [this,Int.mul_ediv_cancel_left _ (by omega)]
theorem natAbs_fdiv_le' (a b : Int) : (a.fdiv b).natAbs≤a.natAbs := by
  cases a with
  | ofNat n =>
    cases n with
    | zero =>
      have e : Int.fdiv (.ofNat 0) b = 0:=Int.zero_fdiv b
      rw [e]; exact Nat.zero_le _
    | succ k =>
      cases b with
      | ofNat j => exact Nat.div_le_self (k + 1) j
      | negSucc j => exact Nat.succ_le_succ (Nat.div_le_self k (j + 1))
  | negSucc k =>
    cases b with
    | ofNat j =>
      cases j with
      | zero => exact Nat.zero_le _
      | succ j => exact Nat.succ_le_succ (Nat.div_le_self k (j + 1))
    | negSucc j => exact Nat.div_le_self (k + 1) (j + 1)
theorem num_le {t b : Int} (hb : b≠0) : (Rat.divInt t b).num.natAbs≤t.natAbs := by
  rw [← num_eq hb]; exact natAbs_fdiv_le' _ _
theorem den_le {t b : Int} (hb : b≠0) : (Rat.divInt t b).den≤b.natAbs := by
  have h:=natAbs_fdiv_le' b (gs t b)
  rw [den_eq hb] at h
  simpa using h
theorem den_ne (p : Rat) : (p.den : Int)≠0 := by
  have:=p.den_nz
  omega
theorem divInt_self (p : Rat) : Rat.divInt p.num p.den = p:=Rat.num_divInt_den p
theorem sum_eq (p q : Rat) : Rat.divInt (p.num * q.den + q.num * p.den) (p.den * q.den) = p + q := by
  rw [← Rat.divInt_add_divInt _ _ (den_ne p) (den_ne q),divInt_self,divInt_self]
theorem times_eq (p q : Rat) : Rat.divInt (p.num * q.num) (p.den * q.den) = p * q := by
  rw [← Rat.divInt_mul_divInt,divInt_self,divInt_self]
theorem prod_ne (p q : Rat) : (p.den : Int) * q.den≠0:=Int.mul_ne_zero (den_ne p) (den_ne q)
theorem nb_mul {x y : Int} {m n : Nat} (hx : x.natAbs < 2 ^ m) (hy : y.natAbs < 2 ^ n) : (x * y).natAbs < 2 ^ (m + n) := by
  rw [Int.natAbs_mul,Nat.pow_add]
  exact Nat.mul_lt_mul'' hx hy
theorem nb_add {x y : Int} {n : Nat} (hx : x.natAbs < 2 ^ n) (hy : y.natAbs < 2 ^ n) : (x + y).natAbs < 2 ^ (n + 1) := by
  rw [Nat.pow_succ]; omega
theorem nb_mono {x : Nat} {m n : Nat} (hx : x < 2 ^ m) (h : m≤n) : x < 2 ^ n:=Nat.lt_of_lt_of_le hx (Nat.pow_le_pow_right (by decide) h)
def Fits (p : Rat) (n : Nat) : Prop:=p.num.natAbs < 2 ^ n∧p.den < 2 ^ n
theorem Fits.mono {p : Rat} {m n : Nat} (h : Fits p m) (l : m≤n) : Fits p n:=⟨nb_mono h.1 l,nb_mono h.2 l⟩
theorem Fits.d {p : Rat} {n : Nat} (h : Fits p n) : ((p.den : Int)).natAbs < 2 ^ n := by simpa using h.2
theorem Fits.of_div {t b : Int} {n : Nat} (hb : b≠0) (h1 : t.natAbs < 2 ^ n) (h2 : b.natAbs < 2 ^ n) : Fits (Rat.divInt t b) n :=
  ⟨Nat.lt_of_le_of_lt (num_le hb) h1,Nat.lt_of_le_of_lt (den_le hb) h2⟩
theorem sum_top {p q : Rat} {m n : Nat} (h : Fits p m) (k : Fits q n) : (p.num * q.den + q.num * p.den).natAbs < 2 ^ (m + n + 1) :=
  nb_add (nb_mul h.1 k.d) (by have:=nb_mul k.1 h.d; rwa [Nat.add_comm n m] at this)
theorem dd {p q : Rat} {m n : Nat} (h : Fits p m) (k : Fits q n) : ((p.den : Int) * q.den).natAbs < 2 ^ (m + n):=nb_mul h.d k.d
theorem nn {p q : Rat} {m n : Nat} (h : Fits p m) (k : Fits q n) : (p.num * q.num).natAbs < 2 ^ (m + n):=nb_mul h.1 k.1
theorem Fits.sum {p q : Rat} {m n : Nat} (h : Fits p m) (k : Fits q n) : Fits (p + q) (m + n + 1) := by
  rw [← sum_eq]; exact .of_div (prod_ne p q) (sum_top h k) (nb_mono (dd h k) (by omega))
theorem Fits.times {p q : Rat} {m n : Nat} (h : Fits p m) (k : Fits q n) : Fits (p * q) (m + n) := by
  rw [← times_eq]; exact .of_div (prod_ne p q) (nn h k) (dd h k)
end FM
namespace FM
theorem gcd_abs (a b : Int) : Int.gcd (if a < 0 then -a else a) (if b < 0 then -b else b) = Int.gcd a b := by
  split <;> split <;> simp [Int.gcd_neg,Int.neg_gcd]
theorem abs_nonneg (a : Int) : 0≤(if a < 0 then -a else a) := by split <;> omega
theorem gi_end {g a b : Int} (h : Int.gcd g 0 = Int.gcd a b) (h0 : 0≤g) : g = gi a b := by
  unfold gi
  rw [← h,Int.gcd_zero_right]
  omega
theorem fmod_nonneg {g l : Int} (hl : l≠0) (h : 0≤l) : 0≤g.fmod l:=Int.fmod_nonneg_of_pos g (by omega)
end FM
namespace L2
open PySem PySem.Spec PyProof.Rows
structure Fn (K : PySem.W.Frag) (mg : Str→Option Value) (x : Str) (st : Stmt) (ps : List Str) (f : Addr) (fd : FuncData) : Prop where
  F : Fun K x x st f fd
  b : Binds K fd ps []
  m : mg x = some (.ref f)
section
variable {X : Cx} {k : Nat} {f : Addr} {fd : FuncData} {ps : List Str} {sp : Sp} {x : Str} {st : Stmt} {p pos : Pos} {e : Expr} {es : List Expr} {t : TA}
theorem pe_fn (T : Fn X.K X.mg x st ps f fd) (G : FnOk X.prog X.w X.K X.mg X.base CX0 k f fd ps sp) (hr : Room k X.A) (hg : Gl X x) (ha : PA X (e :: es) t)
    (hdb : (x == ("__debug__" : Str)) = false := by decide) (he : starEach (e :: es) X.env = (false,eval e X.env) :: starEach es X.env := by rfl) (hpl : (backTo pos (starEach es X.env)).any (·.1) = false := by rfl) :
    PE X (.Call (.Name x p) (e :: es) [] pos) (tCall sp [] E0 t):=pe_call G hr hg T.m T.F.kp T.b .nil pass0 ha hdb he hpl
end
theorem seq_join {t u : TS} {D : Ends} {σ : St} {H : Hp} (P : St→Hp→Prop) (h1 : ∀ nx : St→Hp→Prop,(∀ σ' H',P σ' H'→nx σ' H')→t { D with nx:=nx } σ H) (h2 : ∀ σ' H',P σ' H'→u D σ' H') : tSeq t u D σ H:=h1 _ h2
theorem sz2 : 2≤sizeLine := by decide
theorem same_new {H : Hp} {p : Addr} (h : H p = none) (o : HO) : Same H (upd H p o):=fun b u q => by rw [upd_ne (ne_of_none q h)]; exact q
def SameBut (l : Addr) (H H' : Hp) : Prop:=∀ b o,b≠l→H b = some o→H' b = some o
theorem SameBut.of {l : Addr} {H H' : Hp} (h : Same H H') : SameBut l H H':=fun b o _ q => h b o q
theorem SameBut.upd {l : Addr} {H : Hp} {o : HO} : SameBut l H (upd H l o):=fun b u n q => by rw [upd_ne n]; exact q
def ratV (p : Rat) : List V:=[.int p.num,.int (p.den : Int)]
def Rt (K : PySem.W.Frag) (H : Hp) (p : Rat) (v : V) : Prop:=∃ a,v = .ref a∧SqT K H a (ratV p)
theorem Rt.of {K : PySem.W.Frag} {H : Hp} {p : Rat} {a : Addr} (h : H a = some (.tup (ratV p))) : Rt K H p (.ref a):=⟨a,rfl,.of h⟩
def ratD (p : Rat) : PyData:=.tuple [.int p.num,.int (p.den : Int)]
theorem mulW {i j : Int} {m n : Nat} (h1 : i.natAbs < 2 ^ m) (h2 : j.natAbs < 2 ^ n) (h : m + n≤1000000) : CMul i j∨CMulW i j :=
  .inr ⟨m + n,h,FM.nb_mono h1 (Nat.le_add_right _ _),FM.nb_mono h2 (Nat.le_add_left _ _)⟩
theorem ObjOk.get {P : Program} {w : World} {H : Hp} {h : Heap} {a : Addr} {o : HO} (x : ObjOk P w H h a o) : ∃ u,h.get? a = some u := by
  cases o with
  | lst xs => obtain ⟨_,_,_,_,e⟩:=x; exact ⟨_,e⟩
  | tup xs => obtain ⟨_,_,_,o,e,_⟩:=x; exact ⟨o,e⟩
  | dK kvs => obtain ⟨_,_,_,_,o,_,_,e,_⟩:=x; exact ⟨o,e⟩
  | dT kvs => obtain ⟨_,_,_,_,o,_,_,e,_⟩:=x; exact ⟨o,e⟩
  | set S n => obtain ⟨o,_,_,_,e,_⟩:=x; exact ⟨o,e⟩
  | ins C dx fs => obtain ⟨_,_,_,e,_⟩:=x; exact ⟨_,e⟩
  | own y => obtain ⟨o,e⟩:=x; exact ⟨o,e⟩
  | xd fs => obtain ⟨_,⟨o,_,_,e,_⟩,_⟩:=x; exact ⟨o,e⟩
  | rng lo hi => obtain ⟨_,_,_,e⟩:=x; exact ⟨_,e⟩
  | frz ob u => obtain ⟨e,_⟩:=x; exact ⟨_,e⟩
  | tbl ps => exact ⟨_,(show h.get? a = some _ from x)⟩
  | met f y => exact ⟨_,(show h.get? a = some _ from x)⟩
  | ext φ => obtain ⟨_,⟨o,e⟩,_⟩:=x; exact ⟨o,e⟩
structure FlyB (P : Program) (w : World) (outer : List Env) (H : Hp) (s : Shared) (ea : Addr) (cls a0 : Value) (H' : Hp) (s' : Shared) (B : Heap) : Prop where
  os : s'.os = s.os
  bare : AllBare s'.gens
  fly : Heap.FlyingW B outer ea cls a0 s'.heap
  keep : ∀ b o,s.heap.get? b = some o→H b = none→b ∉ frs outer→B.get? b = some o
  there : ∀ b o,s.heap.get? b = some o→b ∉ frs outer→∃ o',B.get? b = some o'
  slot : ∀ b o,s.heap.get? b = some o→b∈frs outer→∃ sl,s'.heap.get? b = some { o with slots:=sl }
  free : ∀ b o,s.heap.get? b = some o→H b = none→H' b = none
  tups : ∀ b xs,H b = some (.tup xs)→H' b = some (.tup xs)
  frzs : ∀ b o u,H b = some (.frz o u)→H' b = some (.frz o u)
  tbls : ∀ b ps,H b = some (.tbl ps)→∃ more,H' b = some (.tbl (ps ++ more))
  hok : HOk P w H' B
  new : s.heap.get? ea = none
def CXW (P : Program) (w : World) : CXT:=fun outer H s E e s' => ∃ ea cls a0 H' B,e = .ref ea∧FlyB P w outer H s ea cls a0 H' s' B∧E cls none H'
theorem frs_data {base h : Heap} {l : List Env} (F : h.FunFrames base l) {b : Addr} (hb : b∈frs l) : ∃ o,h.get? b = some o∧∀ vs,o.data≠.fields vs:=(F.mem hb).2
section
variable {P : Program} {w : World} {K : PySem.W.Frag} {mg : Str→Option Value} {base : Heap} {N : List Str} {qual : Str} {scope : Scope} {f : Addr} {cd : Value} {A : Around} {outer : List Env} {s : Shared} {H : Hp} {E : XK}
theorem xe_made {pins : List (Addr×Obj)} {σ : St} {H1 : Hp} {s1 : Shared} {h' : Heap} {ea : Addr} {cls : Value} {args : List Value} (I : Inv (cxOf (CXW P w) P w K mg base N qual scope f cd A outer s H E) pins σ H1 s1)
    (hx : Heap.MadeExcOf s1.heap h' ea cls args) (hE : E cls none H1) : (cxOf (CXW P w) P w K mg base N qual scope f cd A outer s H E).xe (.ref ea) { s1 with heap:=h' } := by
  show wpAny (model P w) (A.deeper (envOfC qual scope s.heap.objs.size f cd)) (leaving (envOfC qual scope s.heap.objs.size f cd) (.ref ea)) _ _ _
  have FF:=I.stack
  have hfr : (A.deeper (envOfC qual scope s.heap.objs.size f cd)).frames = some (envOfC qual scope s.heap.objs.size f cd :: outer):=I.ok.frames
  have hin : ∀ env∈(envOfC qual scope s.heap.objs.size f cd :: outer),∀ b,env.frame = some b→b∈(envOfC qual scope s.heap.objs.size f cd :: outer).filterMap (·.frame):=fun env he b hb => List.mem_filterMap.mpr ⟨env,he,hb⟩
  have notL : ∀ b o,s.heap.get? b = some o→b≠s.heap.objs.size:=fun b o e => Nat.ne_of_lt (Heap.lt_size e)
  have out : ∀ b,b≠s.heap.objs.size→b ∉ frs outer→b ∉ (envOfC qual scope s.heap.objs.size f cd :: outer).filterMap (·.frame):=fun b h1 h2 hm => by
    rcases List.mem_cons.mp (I.stkSub b hm) with z | z
    · exact h1 z
    · exact h2 z
  have outT : ∀ b u,H1 b = some u→b ∉ (envOfC qual scope s.heap.objs.size f cd :: outer).filterMap (·.frame):=fun b u e hm => by
    have:=I.stkFree b hm
    rw [e] at this; cases this
  refine wpAny_leaves_madeW (base:=PySem.W.hideAll s1.heap ((envOfC qual scope s.heap.objs.size f cd :: outer).filterMap (·.frame))) hfr rfl (fun b o q => PySem.W.of_hideAll _ q) (PySem.W.funFrames_hide FF hin) hx fun h2 t fl _ _ up => ?_
  have hokB : HOk P w H1 (PySem.W.hideAll s1.heap ((envOfC qual scope s.heap.objs.size f cd :: outer).filterMap (·.frame))):=fun b u e =>
    (I.hok b u e).stay (fun c v hc q => PySem.W.hideAll_get _ q (by
      rcases hc with rfl | hc
      · exact outT _ _ e
      · exact outT _ _ hc)) (fun _ q => q) fun _ _ q => q
  refine ⟨ea,cls,.ref t,H1,_,rfl,⟨I.os,I.bare,fl,fun b o e n hb => ?_,fun b o e hb => ?_,fun b o e hb => ?_,fun b o e n => I.base.free b o e n (by simp [cxOf]),I.base.tups,I.base.frzs,I.base.tbls,hokB,?_⟩,hE⟩
  · exact PySem.W.hideAll_get _ (I.base.keep b o e n hb (by simp [cxOf])) (out b (notL b o e) hb)
  · obtain ⟨o',e1⟩:=I.base.there b o e (by simp [cxOf])
    exact ⟨o',PySem.W.hideAll_get _ e1 (out b (notL b o e) hb)⟩
  · obtain ⟨sl,e1⟩:=I.base.slot b o e (I.ok.frf b hb) hb (by simp [cxOf])
    obtain ⟨o',e2,hd⟩:=frs_data I.funs hb
    rw [e1] at e2
    cases e2
    obtain ⟨sl',e3⟩:=up b _ (hx.keeps _ _ e1) hd
    exact ⟨sl',e3⟩
  · cases q : s.heap.get? ea with
    | none => rfl
    | some o =>
      obtain ⟨o',e1⟩:=I.base.there ea o q (by simp [cxOf])
      have:=hx.new
      rw [e1] at this; cases this
theorem passW {E' : XK} (hE : ∀ c a H',E' c a H'→E c a H') : Passes (CXW P w) (cxOf (CXW P w) P w K mg base N qual scope f cd A outer s H E) E' := by
  intro pins σ H1 s1 e s2 I ⟨ea,cls,a0,H2,B,ee,F,hq⟩
  subst ee
  show wpAny (model P w) (A.deeper (envOfC qual scope s.heap.objs.size f cd)) (leaving (envOfC qual scope s.heap.objs.size f cd) (.ref ea)) _ _ _
  have notL : ∀ b o,s.heap.get? b = some o→b≠s.heap.objs.size:=fun b o e => Nat.ne_of_lt (Heap.lt_size e)
  have out : ∀ b,b≠s.heap.objs.size→b ∉ frs outer→b ∉ frs (cxOf (CXW P w) P w K mg base N qual scope f cd A outer s H E).stack:=fun b h1 h2 hm => by
    rcases List.mem_cons.mp (I.stkSub b hm) with z | z
    · exact h1 z
    · exact h2 z
  refine wpAny_leaves_onW I.ok.frames rfl F.fly fun h3 fl up => ?_
  refine ⟨ea,cls,a0,H2,B,rfl,⟨F.os.trans I.os,F.bare,fl,fun b o e n hb => ?_,fun b o e hb => ?_,fun b o e hb => ?_,fun b o e n => ?_,fun b xs q => F.tups b xs (I.base.tups b xs q),fun b o u q => F.frzs b o u (I.base.frzs b o u q),fun b ps q => ?_,F.hok,?_⟩,hE _ _ _ hq⟩
  · exact F.keep b o (I.base.keep b o e n hb (by simp [cxOf])) (I.base.free b o e n (by simp [cxOf])) (out b (notL b o e) hb)
  · obtain ⟨o',e1⟩:=I.base.there b o e (by simp [cxOf])
    exact F.there b o' e1 (out b (notL b o e) hb)
  · obtain ⟨sl,e1⟩:=I.base.slot b o e (I.ok.frf b hb) hb (by simp [cxOf])
    have hb' : b∈frs (cxOf (CXW P w) P w K mg base N qual scope f cd A outer s H E).stack := by
      show b∈frs (envOfC qual scope s.heap.objs.size f cd :: outer)
      unfold frs
      rw [List.filterMap_cons]
      exact List.mem_cons_of_mem _ hb
    obtain ⟨sl2,e2⟩:=F.slot b _ e1 hb'
    obtain ⟨o',e3,hd⟩:=frs_data I.funs hb
    rw [e1] at e3
    cases e3
    obtain ⟨sl3,e4⟩:=up b _ e2 hd
    exact ⟨sl3,e4⟩
  · obtain ⟨o',e1⟩:=I.base.there b o e (by simp [cxOf])
    exact F.free b o' e1 (I.base.free b o e n (by simp [cxOf]))
  · obtain ⟨m1,e1⟩:=I.base.tbls b ps q
    obtain ⟨m2,e2⟩:=F.tbls b _ e1
    exact ⟨m1 ++ m2,by rw [e2,Array.append_assoc]⟩
  · cases q : s.heap.get? ea with
    | none => rfl
    | some o =>
      obtain ⟨o',e1⟩:=I.base.there ea o q (by simp [cxOf])
      have:=F.new
      rw [e1] at this; cases this
theorem Fun.okW {x : Str} {st : Stmt} {fd : FuncData} {ps : List Str} {k : Nat} {sp : Sp} (F : Fun K x x st f fd) (S : FnScope N ps (defScope st)) (len : ∀ vs H Q E,sp vs H Q E→vs.length = ps.length)
    (hbody : ∀ (cdv : Value) (A : Around) (outer : List Env) (s : Shared) (H : Hp) (vs : List V) (Q : VK) (E : XK),Room k (A.deeper (envOfC x (defScope st) s.heap.objs.size f cdv))→sp vs H Q E →
      ∃ t,PSs (cxOf (CXW P w) P w K mg base N x (defScope st) f cdv A outer s H E) (defBody st) t∧t { nx:=fun _ H' => Q .non H',rt:=Q } (start N vs) H) : FnOk P w K mg base (CXW P w) (k + 1) f fd ps sp := by
  obtain ⟨oc,od,kV,doc,pm,an,cdv,ct,osl,rfl,lk,hcd⟩:=F.ex
  exact fn_of lk hcd S len fun A outer s H vs Q E hr hsp => hbody cdv A outer s H vs Q E hr hsp
end
structure Exc (K : PySem.W.Frag) (mg : Str→Option Value) (x : Str) (C : Addr) : Prop where
  m : mg x = some (.ref C)
  q : PySem.W.excIn K C [.type "ValueError",.type "Exception",.type "BaseException",.type "object"] "ValueError.__new__" = true
theorem exc_obj {K : PySem.W.Frag} {h : Heap} {C : Addr} {bB : List Value} {nid : String} (kin : K.In h) (hq : PySem.W.excIn K C bB nid = true) :
    ∃ tl N nm qn bs hd sn sub ab col dd k0 k1 k2 k3 k5 mN,h.get? C = some (excClassObj nm qn C N bs tl hd sn sub ab col dd k0 k1 k2 k3 k5 nid)∧h.Ns N mN∧mN "__init__" = none∧OwnTail h bB tl := by
  unfold PySem.W.excIn at hq
  split at hq
  · rename_i dd cd sl lk
    split at hq
    · rename_i C1 tl k0 k1 k2 k3 n1 k5 e1 e2
      simp only [Bool.and_eq_true,beq_iff_eq,Bool.not_eq_true'] at hq
      obtain ⟨⟨⟨⟨⟨y1,y2⟩,y3⟩,y4⟩,y5⟩,y6⟩:=hq
      subst y1 y2
      obtain ⟨nm,bs,mro,N,qn,hd,sn,sub,ab,col,del⟩:=cd
      dsimp only at e1 y3 y5 y6
      subst e1 y3
      have e3 : sl = #[k0,k1,k2,k3,some (.builtin n1),k5] := by
        cases sl with
        | mk l => simp only at e2; rw [e2]
      subst e3
      exact ⟨tl,N,nm,qn,bs,hd,sn,sub,ab,col,dd,k0,k1,k2,k3,k5,_,kin _ _ lk,.of_isNs (PySem.W.isNs_of_in kin y5),PySem.W.nsMap_none_of_in kin y5 y6,PySem.W.tail_of_in kin y4⟩
    · cases hq
  · cases hq
section
variable {X : Cx} {x : Str} {C : Addr} {np cpos pos : Pos} {e : Expr} {te : TE} {E : XK}
def Lets (X : Cx) (E : XK) : Prop:=∀ (pins : List (Addr×Obj)) (σ : St) (H : Hp) (s : Shared) (h' : Heap) (ea : Addr) (cls : Value) (args : List Value),Inv X pins σ H s→Heap.MadeExcOf s.heap h' ea cls args→E cls none H→X.xe (.ref ea) { s with heap:=h' }
def tRaise (C : Addr) (E : XK) (te : TE) : TS:=fun _ σ H => te σ H fun _ H1 => E (.ref C) none H1
theorem ps_raise (T : Exc X.K X.mg x C) (hL : Lets X E) (hcalm : X.calm = true) (hg : Gl X x) (he : PE X e te) (hd : (x == ("__debug__" : Str)) = false := by decide)
    (hst : starEach [e] X.env = [(false,eval e X.env)] := by rfl) : PS X (.Raise (some (.Call (.Name x np) [e] [] cpos)) none pos) (tRaise C E te) := by
  intro pins s σ H D I h
  obtain ⟨tl,N,nm,qn,bs,hdct,sn,sub,ab,col,dd,k0,k1,k2,k3,k5,mN,hC,hN,hni,TL⟩:=exc_obj I.ok.mod.kin T.q
  refine wpAny_Raise_call_subT (C:=C) (nm:=nm) (q:=qn) (N:=N) (bs := bs) (bm:=tl) (hdct:=hdct) (sn:=sn) (sub:=sub) (ab:=ab) (col:=col) (dd:=dd) (k0:=k0) (k1:=k1) (k2:=k2) (k3:=k3) (k5:=k5)
    PySem.F.excBase_ValueError (mN:=mN) (TL.hasType (by decide)) (I.ok.hd hcalm) (by rw [hst]; rfl) hni (ld_glob I hg T.m ⟨rfl,?_⟩ hd)
  rw [hst]
  refine Calls.evalArgs_plain (Calls.spliced_cons (thn (he pins s σ H _ I h) fun u s1 ⟨v,H1,I1,r1,q1⟩ => Calls.spliced_nil ?_))
  exact ⟨rfl,by show 1≤sizeLine; decide,I1.bk _ _ hC,hN.keeps I1.bk,TL.keeps I1.bk,fun h' ea hm => hL pins σ H1 s1 h' ea _ _ I1 hm q1⟩
end
def FlyAt (X : Cx) (pins : List (Addr×Obj)) (σ : St) (E : XK) (e : Value) (s' : Shared) : Prop:=∃ H0 s0,Inv X pins σ H0 s0∧CXW X.prog X.w X.stack H0 s0 E e s'
abbrev TX:=St→Hp→VK→XK→Prop
def PEX (X : Cx) (e : Expr) (t : TX) : Prop :=
  ∀ (pins : List (Addr×Obj)) (s : Shared) (σ : St) (H : Hp) (Q : VK) (E : XK),Inv X pins σ H s→t σ H Q E→wpAny (model X.prog X.w) X.A (eval e X.env) (EP X pins σ Q) (FlyAt X pins σ E) s
section
variable {X : Cx} {k : Nat} {f : Addr} {fd : FuncData} {ps : List Str} {sp : Sp} {x : Str} {st : Stmt} {p pos : Pos} {e : Expr} {es : List Expr} {t : TA}
def tCallX (sp : Sp) (t : TA) : TX:=fun σ H Q E => t σ H fun vs H1 => sp (vs ++ []) H1 Q E
theorem run_fnX {pins : List (Addr×Obj)} {σ : St} {H : Hp} {s : Shared} {Q : VK} {E : XK} {us : List Value} {vs : List V} (F : FnOk X.prog X.w X.K X.mg X.base (CXW X.prog X.w) k f fd ps sp) (hr : Room k X.A) (hb : Binds X.K fd ps [])
    (I : Inv X pins σ H s) (r : Vals vs us) (h : sp (vs ++ []) H Q E) : wpAny (model X.prog X.w) X.A (call (.ref f) us) (EP X pins σ Q) (FlyAt X pins σ E) s := by
  rw [List.append_nil] at h
  have hl : (us ++ []).length = ps.length := by rw [List.append_nil,← r.length]; exact F.len _ _ _ _ h
  have hb':=hb s us I.kIn hl
  rw [List.append_nil] at hb'
  refine wpAny_call (codeAny_mono (F.run X.A X.stack s H ⟨us,[]⟩ us vs Q E hr I.env0 hb' r h) fun r s' hq => ?_)
  cases r with
  | error e => exact ⟨H,s,I,hq⟩
  | ok fl =>
    cases fl with
    | ret u => exact I.after hq
    | next => exact False.elim hq
    | brk => exact False.elim hq
    | cont => exact False.elim hq
theorem pex_fn (T : Fn X.K X.mg x st ps f fd) (G : FnOk X.prog X.w X.K X.mg X.base (CXW X.prog X.w) k f fd ps sp) (hr : Room k X.A) (hg : Gl X x) (ha : PA X.nox (e :: es) t)
    (hdb : (x == ("__debug__" : Str)) = false := by decide) (he : starEach (e :: es) X.env = (false,eval e X.env) :: starEach es X.env := by rfl) (hpl : (backTo pos (starEach es X.env)).any (·.1) = false := by rfl) :
    PEX X (.Call (.Name x p) (e :: es) [] pos) (tCallX sp t) := by
  intro pins s σ H Q E I h
  refine wpAny_Call_Name_kw (ld_glob I hg T.m ?_ hdb)
  refine PySem.W.callWith_K (h₀:=X.base) I.ok.mod.kin T.F.kp (wpAny_mono (ha pos pins s σ H _ (I.wish _) h) (fun us s1 ⟨vs,H1,I1,r,q⟩ => ⟨I1.kIn,?_⟩) fun _ _ z => z.elim) he hpl
  exact run_fnX G hr T.b I1.unwish r q
end
theorem land {X : Cx} {pins : List (Addr×Obj)} {σ : St} {H0 H' : Hp} {s0 s' : Shared} {ea : Addr} {cls a0 : Value} {B : Heap} (I : Inv X pins σ H0 s0) (F : FlyB X.prog X.w X.stack H0 s0 ea cls a0 H' s' B)
    {h' : Heap} {tk : Nat} (st : B.StaysIn h') (up : s'.heap.UpToSlots h') : Inv X pins σ H' { s' with heap:=h',toks:=tk } := by
  have fdat : ∀ b o,s0.heap.get? b = some o→b∈frs X.stack→∃ sl,h'.get? b = some { o with slots:=sl }:=fun b o e hb => by
    obtain ⟨sl,e1⟩:=F.slot b o e hb
    obtain ⟨o',e2,hd⟩:=frs_data I.stack hb
    rw [e] at e2; cases e2
    obtain ⟨sl',e3⟩:=up b _ e1 hd
    exact ⟨sl',e3⟩
  refine I.call' (s':={ s' with heap:=h',toks:=tk }) (ch:=[]) F.os ⟨fun b o e n hb _ => st b o (F.keep b o e n hb),fun b o e n hb _ => fdat b o e hb,fun b o e n _ => F.free b o e n,fun b o e _ => ?_,F.tups,F.frzs,F.tbls⟩ (F.hok.kept st) F.bare fun b z => absurd z (by simp)
  by_cases hb : b∈frs X.stack
  · obtain ⟨sl,e1⟩:=fdat b o e hb
    exact ⟨_,e1⟩
  · obtain ⟨o',e1⟩:=F.there b o e hb
    exact ⟨o',st _ _ e1⟩
def excO (ea : Addr) (cls : Value) : HO:=.ext fun h => ∃ o vs,h.get? ea = some o∧o.cls = cls∧o.data = .fields vs
theorem track {X : Cx} {pins : List (Addr×Obj)} {σ : St} {H0 H' : Hp} {s0 s' s6 : Shared} {ea : Addr} {cls a0 : Value} {B : Heap} (I : Inv X pins σ H0 s0) (F : FlyB X.prog X.w X.stack H0 s0 ea cls a0 H' s' B)
    (I6 : Inv X pins σ H' s6) (ho : ∃ o vs,s6.heap.get? ea = some o∧o.cls = cls∧o.data = .fields vs) : H' ea = none∧Inv X pins σ (upd H' ea (excO ea cls)) s6 := by
  have hn : H' ea = none := by
    cases q : H' ea with
    | none => rfl
    | some u =>
      obtain ⟨o,e⟩:=(F.hok ea u q).get
      rw [F.fly.2.1] at e; cases e
  have ne : ∀ b o,s0.heap.get? b = some o→b≠ea:=fun b o e z => by rw [z,F.new] at e; cases e
  have up : ∀ b,b≠ea→upd H' ea (excO ea cls) b = H' b:=fun b z => upd_ne z
  have neT : ∀ b u,H' b = some u→b≠ea:=fun b u e z => by rw [z,hn] at e; cases e
  refine ⟨hn,I6.ok,I6.os,I6.bare,⟨I6.base.keep,I6.base.slot,fun b o e n hx => ?_,I6.base.there,fun b xs e => ?_,fun b o u e => ?_,fun b ps e => ?_⟩,I6.loc,I6.cell,?_,fun y c e => ?_,fun p hp => ?_,fun b u e => ?_,I6.len⟩
  · obtain ⟨o',e1⟩:=I.base.there b o e hx
    rw [up b (ne b o' e1)]; exact I6.base.free b o e n hx
  · have:=I6.base.tups b xs e
    rw [up b (neT _ _ this)]; exact this
  · have:=I6.base.frzs b o u e
    rw [up b (neT _ _ this)]; exact this
  · obtain ⟨m,e1⟩:=I6.base.tbls b ps e
    exact ⟨m,by rw [up b (neT _ _ e1)]; exact e1⟩
  · obtain ⟨m,⟨o,_,_,e,_⟩,_⟩:=I.loc
    rw [up _ (ne _ o e)]; exact I6.free
  · obtain ⟨v,o,e1,_⟩:=I.cell y c e
    rw [up _ (ne _ o e1)]; exact I6.freeC y c e
  · obtain ⟨e1,e2,e3⟩:=I6.pin p hp
    have e0:=(I.pin p hp).1
    exact ⟨e1,by rw [up _ (ne _ _ e0)]; exact e2,e3⟩
  · by_cases hb : b = ea
    · subst hb
      rw [upd_same] at e
      cases e
      obtain ⟨o,vs,e1,e2,e3⟩:=ho
      exact ⟨⟨o,vs,e1,e2,e3⟩,⟨o,e1⟩,fun h1 h2 ⟨o1,vs1,q1,q2⟩ k => ⟨o1,vs1,k _ q1,q2⟩⟩
    · rw [up b hb] at e
      exact (I6.hok b u e).stay (fun c v _ q => q) (fun c q => by rw [up c (neT _ _ q)]; exact q) fun c xs q => by rw [up c (neT _ _ q)]; exact q
structure Beneath (K : PySem.W.Frag) (C G : Addr) (b : Bool) : Prop where
  cl : (PySem.W.clsIn K G).isSome = true
  ty : PySem.W.typeIn K (.ref G) = some (.type "type")
  ex : PySem.W.subIn K (.ref G) (.type "BaseException") = some true
  sub : PySem.W.subIn K (.ref C) (.ref G) = some b
theorem excMatch {M : Model} {A : Around} {E : Value→Shared→Prop} {s : Shared} {K : PySem.W.Frag} {e C G : Addr} {oe : Obj} {b : Bool} {Q : Bool→Shared→Prop} (X : K.In s.heap) (he : s.heap.get? e = some oe) (hc : oe.cls = .ref C) (B : Beneath K C G b)
    (h : Q b s) : wpAny M A (excMatches (.ref e) (.ref G)) Q E s := by
  have l1 : PySem.W.Looks M s.heap (isInstance (.ref G) (.type "tuple")) false:=(PySem.W.looks_typeIn X B.ty).andThen (PySem.W.Looks.of_pure tc_notTuple)
  have l2 : PySem.W.Looks M s.heap (isType (.ref G)) true := by
    have z:=B.cl
    unfold PySem.W.clsIn at z
    split at z
    · rename_i c' d' cd' sl' ho
      intro A' Q' E' s' k q
      unfold isType loadHead
      exact wpAny_bind (wpAny_loadPart (k _ _ (X _ _ ho)) (wpAny_pure q))
    · cases z
  have l3 : PySem.W.Looks M s.heap (isSubtype (.ref G) (.type "BaseException")) true:=PySem.W.looks_subIn X B.ex
  have l4 : PySem.W.Looks M s.heap (typeOf (.ref e)) (.ref C):=hc ▸ (PySem.W.Looks.ld he).andThen .now
  have l5 : PySem.W.Looks M s.heap (isSubtype (.ref C) (.ref G)) b:=PySem.W.looks_subIn X B.sub
  obtain ⟨hp,g,d,tk,os⟩:=s
  unfold excMatches isExcClass
  refine wpAny_bind (l1.at ?_)
  simp only [Bool.false_eq_true,if_false]
  refine wpAny_bind (wpAny_pure ?_)
  simp only [List.forIn_cons,List.forIn_nil]
  refine wpAny_bind (wpAny_bind (wpAny_bind (wpAny_bind (l2.at ?_))))
  simp only [if_true]
  refine l3.at ?_
  simp only [Bool.not_true,Bool.false_eq_true,if_false]
  refine wpAny_pure (wpAny_pure (wpAny_bind (l4.at (wpAny_bind (wpAny_bind (wpAny_bind (l5.at ?_)))))))
  cases b with
  | true =>
    simp only [if_true]
    exact wpAny_pure (wpAny_pure (wpAny_pure h))
  | false =>
    simp only [Bool.false_eq_true,if_false]
    exact wpAny_pure (wpAny_pure (wpAny_pure h))
def Cx.held (X : Cx) (ea : Addr) : Cx:={ X with A:=X.A.mark (some (.ref ea)),calm:=false,xe:=fun _ _ => False }
theorem Inv.held {X : Cx} {pins : List (Addr×Obj)} {σ : St} {H : Hp} {s : Shared} (I : Inv X pins σ H s) (ea : Addr) : Inv (X.held ea) pins σ H s :=
  ⟨⟨I.ok.mod,I.ok.kind,I.ok.glob,I.ok.blt,I.ok.above,I.ok.inj,I.ok.has,I.ok.cab,fun z => (by cases z),I.ok.frames,I.ok.stk,I.ok.exf,I.ok.bs,I.ok.bsz,I.ok.noex,I.ok.exfs,I.ok.funs,I.ok.frf⟩,I.os,I.bare,I.base,I.loc,I.cell,I.free,I.freeC,I.pin,I.hok,I.len⟩
theorem Inv.unheld {X : Cx} {pins : List (Addr×Obj)} {σ : St} {H : Hp} {s : Shared} {ea : Addr} (ok : X.Ok) (I : Inv (X.held ea) pins σ H s) : Inv X pins σ H s :=
  ⟨ok,I.os,I.bare,I.base,I.loc,I.cell,I.free,I.freeC,I.pin,I.hok,I.len⟩
theorem goes {X : Cx} {pins : List (Addr×Obj)} {σ : St} {H : Hp} {s : Shared} {M : Model} {A : Around} {E : Value→Shared→Prop} {i : Nat} {n : Str} {pos : Pos} {Q : Unit→Shared→Prop} (I : Inv X pins σ H s) (hN : X.N.Nodup) (hi : X.N[i]? = some n)
    (hl : X.env.scope.names.lookup n = some .local) (h : ∀ s',Inv X pins (σ.set i none) H s'→Q () s') : wpAny M A (do bindName X.env n .none; unbindBehindTheSuite X.env n pos) Q E s := by
  obtain ⟨m,hn,hlk⟩:=id I.loc
  have hcls : (X.env.scope.kind == .class || (X.env.scope.kind == .module && X.env.locals != X.env.globals)) = false := by rw [I.ok.kind]; rfl
  refine wpAny_nameGoes_keeps hl hn hcls fun h' v hn' hs => h _ ?_
  have hiS : i < σ.length := by rw [I.len]; exact (List.getElem?_eq_some_iff.mp hi).1
  obtain ⟨oL,_,_,hoL,_⟩:=id hn
  have tr : HOk X.prog X.w H h':=fun b ob e => (I.hok b ob e).stay (fun c w' hc q => (hs.2 c (by
    rintro rfl
    rcases hc with hc | hc
    · rw [← hc,I.free] at e; cases e
    · rw [I.free] at hc; cases hc)).trans q) (fun _ q => q) fun _ _ q => q
  refine ⟨I.ok,I.os,I.bare,⟨fun b o e n hb hx => ?_,fun b o e n hb hx => ?_,I.base.free,fun b o e hx => ?_,I.base.tups,I.base.frzs,I.base.tbls⟩,⟨_,hn',fun j y v' e1 e2 e3 => ?_⟩,fun y c e => ?_,I.free,I.freeC,fun p hp => ?_,tr,by simpa using I.len⟩
  · exact (hs.2 b (Nat.ne_of_lt (Nat.lt_of_lt_of_le (Heap.lt_size e) I.ok.above))).trans (I.base.keep b o e n hb hx)
  · obtain ⟨sl,e1⟩:=I.base.slot b o e n hb hx
    exact ⟨sl,(hs.2 b (Nat.ne_of_lt (Nat.lt_of_lt_of_le (Heap.lt_size e) I.ok.above))).trans e1⟩
  · obtain ⟨o',e1⟩:=I.base.there b o e hx
    exact ⟨o',(hs.2 b (Nat.ne_of_lt (Nat.lt_of_lt_of_le (Heap.lt_size e) I.ok.above))).trans e1⟩
  · by_cases hj : j = i
    · subst hj
      rw [List.getElem?_set_self hiS] at e2
      cases e2
    · rw [List.getElem?_set_ne (Ne.symm hj)] at e2
      obtain ⟨u',r',q⟩:=hlk j y v' e1 e2 e3
      refine ⟨u',r',?_⟩
      rcases q with ⟨k,e⟩ | ⟨k,c,e,z⟩
      · refine .inl ⟨k,?_⟩
        have : y≠n:=fun e => hj (nodup_ix hN e1 (e ▸ hi))
        simp [this,e]
      · exact .inr ⟨k,c,e,z.sameBut hs (I.cne y c e)⟩
  · obtain ⟨w',z⟩:=I.cell y c e
    exact ⟨w',z.sameBut hs (I.cne y c e)⟩
  · obtain ⟨e,n',ne,nf,d⟩:=I.pin p hp
    exact ⟨(hs.2 p.1 ne).trans e,n',ne,nf,d⟩
open PySem PySem.Spec PyProof.Rows PySem.Builtin.ObjectAttr PySem.Builtin.Getset_descriptor
structure ExcK (K : PySem.W.Frag) (C : Addr) : Prop where
  cl : (PySem.W.clsIn K C).isSome = true
  ga : PySem.W.findIn K (.ref C) "__getattribute__" = some (some (.builtin "BaseException.__getattribute__"))
  gh : PySem.W.findIn K (.ref C) "__getattr__" = some none
  at_ : PySem.W.findIn K (.ref C) "__class__" = some (some (.builtin "object.__class__"))
  gt : PySem.W.specialIn K (.builtin "object.__class__") "__get__" = some (some (.builtin "getset_descriptor.__get__"))
  tk : PySem.W.takesIn K (.builtin "object.__class__") = some true
  ob : PySem.W.mroIn K C (.type "object") = some true
  be : PySem.W.mroIn K C (.type "BaseException") = some true
def excAt (x C : Addr) (h : Heap) : Prop:=∃ o vs,h.get? x = some o∧o.cls = .ref C∧o.data = .fields vs
theorem excAt.ty {x C : Addr} {h : Heap} (p : excAt x C h) (M : Model) : PySem.W.Looks M h (typeOf (.ref x)) (.ref C) := by
  obtain ⟨o,_,e,c,_⟩:=p
  exact c ▸ (PySem.W.Looks.ld e).andThen .now
theorem clsLooks {K : PySem.W.Frag} {C : Addr} {h : Heap} (X : K.In h) (z : (PySem.W.clsIn K C).isSome = true) (M : Model) : PySem.W.Looks M h (isType (.ref C)) true := by
  unfold PySem.W.clsIn at z
  split at z
  · rename_i c' d' cd' sl' ho
    intro A' Q' E' s' k q
    exact wpAny_bind (wpAny_loadPart (k _ _ (X _ _ ho)) (wpAny_pure q))
  · cases z
section
variable {prog : Program} {w : World} {A : Around} {E : Value→Shared→Prop} {K : PySem.W.Frag} {x C : Addr} {h : Heap} {g : Array GenState} {d : Drawn} {t : Nat} {os : OsState}
theorem exc_find (X : K.In h) (F : ExcK K C) (M : Model) : PySem.W.Looks M h (find (.ref x) (.ref C) "__class__") (.bind (.builtin "getset_descriptor.__get__") (.builtin "object.__class__")) := by
  have a1:=PySem.W.looks_findIn (M:=M) X F.at_
  have a2 : PySem.W.Looks M h (getOf (some (.builtin "object.__class__"))) (some (.builtin "getset_descriptor.__get__")):=PySem.W.looks_specialIn X F.gt
  have a3:=PySem.W.looks_takesIn (M:=M) X F.tk
  exact a1.andThen (a2.andThen ((show PySem.W.Looks M h (dataDescriptor? (some (.builtin "object.__class__")) (some (.builtin "getset_descriptor.__get__"))) (some (.builtin "getset_descriptor.__get__",.builtin "object.__class__")) from a3.andThen .now).andThen (PySem.W.Looks.tag .now)))
theorem exc_get {tp : Value} {R : Result→Shared→Prop} (X : K.In h) (F : ExcK K C) (p : excAt x C h) (hR : R (.ok (.ret (.ref C))) ⟨h,g,d,t,os⟩) :
    codeAny (model prog w) A (.call (.builtin "getset_descriptor.__get__") ⟨[.builtin "object.__class__",.ref x,tp],[]⟩) R ⟨h,g,d,t,os⟩ := by
  have b0:=p.ty (model prog w)
  have b1:=PySem.W.looks_mroIn (M:=model prog w) X F.ob
  refine codeAny_call_builtin PySem.W.KF.slot_gs.plain PySem.W.KF.entry_gs ?_
  refine PySem.W.KF.slot_gs.check _ _ _ _ _ _ _ _ PySem.W.KF.type_class (PySem.W.KF.args_gs _ _ _) ?_
  unfold Builtin.«getset_descriptor.__get__» descrGet
  rw [PySem.W.dga_obj]; refine wpAny_bind (wpAny_pure ?_)
  unfold descrGetter descrCheckInstance descrNameAndClass isInstance
  simp only [PySem.W.KF.owner_class]
  repeat lk
  refine ⟨Code.quiet_builtin _ (by decide +kernel),codeAny_builtin PySem.W.KF.entry_class ?_⟩
  unfold Builtin.«object.__class__» shownTypeOf
  repeat lk
  exact hR
theorem exc_entry {tk : Tok} {Q : Fin→Shared→Prop} (X : K.In h) (F : ExcK K C) (p : excAt x C h) (hQ : Q (.done (.ret (.ref C))) ⟨h,g,d,t,os⟩) :
    wpAny (model prog w) A (Builtin.«object.__getattribute__» ⟨[.ref x,.str "__class__" tk],[]⟩) Q E ⟨h,g,d,t,os⟩ := by
  have b0:=p.ty (model prog w)
  have b1:=exc_find (x:=x) X F (model prog w)
  unfold Builtin.«object.__getattribute__»
  repeat lk
  refine wpAny_run (exc_get X F p ?_)
  exact wpAny_pure (wpAny_pure hQ)
theorem exc_check {nameV : Value} {Q : Unit→Shared→Prop} (X : K.In h) (F : ExcK K C) (p : excAt x C h) (hQ : Q () ⟨h,g,d,t,os⟩) :
    wpAny (model prog w) A (checkBuiltinCall "BaseException.__getattribute__" ⟨[.ref x,nameV],[]⟩) Q E ⟨h,g,d,t,os⟩ := by
  have c1 : builtinKind "BaseException.__getattribute__" = some .slot := by decide +kernel
  have c2 : splitId "BaseException.__getattribute__" = some ("BaseException", "__getattribute__") := by decide +kernel
  have c3:=PySem.F.args_bexc_ga (.ref x) nameV
  have b0:=p.ty (model prog w)
  have b1:=PySem.W.looks_mroIn (M:=model prog w) X F.be
  simp only [checkBuiltinCall,c1,c2]
  refine wpAny_bind ?_
  unfold isInstance
  repeat lk
  exact hQ
theorem exc_class {Q : Option Value→Shared→Prop} (X : K.In h) (F : ExcK K C) (p : excAt x C h) (hQ : Q (some (.ref C)) ⟨h,g,d,t + 1,os⟩) :
    wpAny (model prog w) A (getAttr? (.ref x) "__class__") Q E ⟨h,g,d,t,os⟩ := by
  have b0:=p.ty (model prog w)
  have b1:=PySem.W.looks_findIn (M:=model prog w) X F.ga
  have b2:=PySem.W.looks_findIn (M:=model prog w) X F.gh
  unfold getAttr? getAttrBy? getAttrBy
  refine wpAny_bind (wpAny_mkText (wpAny_bind (wpAny_attempt (wpAny_holding (wpAny_bind (b0.at (wpAny_bind (b1.at ?_))))))))
  have c2 : (Value.builtin "BaseException.__getattribute__" == Value.builtin "object.__getattribute__") = false := by decide +kernel
  have c1 : ¬ ((onTheHeap (Value.ref C) && Value.builtin "BaseException.__getattribute__" == Value.builtin "object.__getattribute__") = true) := by rw [c2,Bool.and_false]; exact Bool.false_ne_true
  show wpAny _ _ (if (onTheHeap (Value.ref C) && Value.builtin "BaseException.__getattribute__" == Value.builtin "object.__getattribute__") = true then _ else _) _ _ _
  rw [if_neg c1]
  unfold getAttrByItsOwn
  refine wpAny_bind (show wpAny _ _ (typeLookup (Value.ref C) "__getattr__") _ _ _ from b2.at ?_)
  refine wpAny_bind (wpAny_attempt (wpAny_holding ?_))
  show wpAny _ _ (boundAndCalled _ _ _) _ _ _
  unfold boundAndCalled
  have f3:=(PySem.F.excAttr_ValueError).ga.bind (.ref x)
  refine wpAny_bind (wpAny_of_eq f3 ?_)
  refine wpAny_call (codeAny_call_builtin (PySem.F.excAttr_ValueError).ga.plain PySem.F.entry_bexc_ga (exc_check X F p (exc_entry X F p ?_)))
  exact wpAny_pure (wpAny_pure hQ)
end
theorem kitx_exc {K : PySem.W.Frag} {x C : Addr} (F : ExcK K C) : PySem.W.KitX K (.ref x) (.ref C) (excAt x C) where
  ty:=fun M h _ p => p.ty M
  it:=fun M h X _ => clsLooks X F.cl M
  ne:=fun h tp dd its n sl X htp => by
    have z:=F.cl
    refine Bool.eq_false_iff.mpr fun q => ?_
    have e : C = tp:=Value.ref.inj (beq_iff_eq.mp q)
    subst e
    unfold PySem.W.clsIn at z
    split at z
    · rename_i c' d' cd' sl' ho
      have y:=(X _ _ ho).symm.trans htp
      cases y
    · cases z
  ca:=fun {prog w A E Q s} X p k => by
    obtain ⟨h,g,d,t,os⟩:=s
    exact exc_class X F p k
def clsV : V→Value
  | .ref C => .ref C
  | .ty n => .type n
  | _ => .none
theorem clsV_of {c : V} {u : Value} (r : RelV c u) (h : clsV c≠.none) : u = clsV c := by
  cases c with
  | ref C => exact r
  | ty n => exact r
  | _ => exact absurd rfl h
section
variable {X : Cx}
def rIsi (K : PySem.W.Frag) : List V→Hp→VK→Prop:=fun xs H Q => ∃ x c t b,xs = [x,c]∧clsV c≠.none∧TyOf K H x t∧PySem.W.kitOne K t (clsV c) = some b∧Q (.bl b) H
theorem call_isi : CallR X (.builtin "isinstance") (rIsi X.K) := by
  intro pins s σ H xs us Q I r h
  obtain ⟨x,c,t,b,rfl,hc,ty,e,q⟩:=h
  obtain ⟨u,v,rfl,r1,r2⟩:=r.two
  rw [clsV_of r2 hc]
  exact isinst_ok I r1 ty e fun tk => ⟨.bl b,H,I.tok tk,rfl,q⟩
def rIsiE (K : PySem.W.Frag) : List V→Hp→VK→Prop:=fun xs H Q => ∃ ea C c b,xs = [.ref ea,c]∧clsV c≠.none∧H ea = some (excO ea (.ref C))∧ExcK K C∧PySem.W.kitOne K (.ref C) (clsV c) = some b∧Q (.bl b) H
theorem call_isiE : CallR X (.builtin "isinstance") (rIsiE X.K) := by
  intro pins s σ H xs us Q I r h
  obtain ⟨ea,C,c,b,rfl,hc,he,F,e,q⟩:=h
  obtain ⟨u,v,rfl,r1,r2⟩:=r.two
  rw [clsV_of r2 hc]
  cases (show u = Value.ref ea from r1)
  obtain ⟨p,_,_⟩:=(show ObjOk X.prog X.w H s.heap ea (excO ea (.ref C)) from I.hok ea _ he)
  exact PySem.W.kia_one (kitx_exc F) I.kIn p e (fun z => nomatch z) fun tk => ⟨.bl b,H,I.tok tk,rfl,q⟩
end
theorem kit_tt (K : PySem.W.Frag) : PySem.W.kitOne K (.type "tuple") (.type "tuple") = some true:=rfl
theorem kit_ii (K : PySem.W.Frag) : PySem.W.kitOne K (.type "int") (.type "int") = some true:=rfl
theorem kit_bb (K : PySem.W.Frag) : PySem.W.kitOne K (.type "bool") (.type "bool") = some true:=rfl
theorem kit_ib (K : PySem.W.Frag) : PySem.W.kitOne K (.type "int") (.type "bool") = some false := by kernel_rfl
theorem kit_bi (K : PySem.W.Frag) : PySem.W.kitOne K (.type "bool") (.type "int") = some true := by kernel_rfl
theorem kit_lt (K : PySem.W.Frag) : PySem.W.kitOne K (.type "list") (.type "tuple") = some false := by kernel_rfl
theorem kit_tl (K : PySem.W.Frag) : PySem.W.kitOne K (.type "tuple") (.type "list") = some false := by kernel_rfl
theorem kit_ll (K : PySem.W.Frag) : PySem.W.kitOne K (.type "list") (.type "list") = some true:=rfl
theorem kit_it (K : PySem.W.Frag) : PySem.W.kitOne K (.type "int") (.type "tuple") = some false := by kernel_rfl
theorem kit_bt (K : PySem.W.Frag) : PySem.W.kitOne K (.type "bool") (.type "tuple") = some false := by kernel_rfl
theorem kit_nt (K : PySem.W.Frag) : PySem.W.kitOne K (.type "NoneType") (.type "tuple") = some false := by kernel_rfl
theorem kit_st (K : PySem.W.Frag) : PySem.W.kitOne K (.type "str") (.type "tuple") = some false := by kernel_rfl
theorem kit_ti (K : PySem.W.Frag) : PySem.W.kitOne K (.type "tuple") (.type "int") = some false := by kernel_rfl
theorem kit_li (K : PySem.W.Frag) : PySem.W.kitOne K (.type "list") (.type "int") = some false := by kernel_rfl
theorem kit_ni (K : PySem.W.Frag) : PySem.W.kitOne K (.type "NoneType") (.type "int") = some false := by kernel_rfl
theorem kit_si (K : PySem.W.Frag) : PySem.W.kitOne K (.type "str") (.type "int") = some false := by kernel_rfl
theorem kit_il (K : PySem.W.Frag) : PySem.W.kitOne K (.type "int") (.type "list") = some false := by kernel_rfl
theorem kit_bl (K : PySem.W.Frag) : PySem.W.kitOne K (.type "bool") (.type "list") = some false := by kernel_rfl
theorem kit_nl (K : PySem.W.Frag) : PySem.W.kitOne K (.type "NoneType") (.type "list") = some false := by kernel_rfl
theorem kit_sl (K : PySem.W.Frag) : PySem.W.kitOne K (.type "str") (.type "list") = some false := by kernel_rfl
def freeOk (xsc : Scope) (names : List (Str×NameKind)) : Bool:=names.all fun y => y.2 != .free || xsc.names.lookup y.1 == some .cell || xsc.names.lookup y.1 == some .free
theorem freeOk_of {xsc : Scope} {names : List (Str×NameKind)} (h : freeOk xsc names = true) : ∀ y∈names,y.2 = .free→xsc.names.lookup y.1 = some .cell∨xsc.names.lookup y.1 = some .free:=fun y hy hf => by
  have q:=List.all_eq_true.mp h y hy
  rw [hf] at q
  simp only [bne_self_eq_false,Bool.false_or,Bool.or_eq_true,beq_iff_eq] at q
  exact q
def compScopeOk (scope : Scope) (N : List Str) (x : Str) (ix : Nat) : Bool :=
  scope.kind == .function && (scope.names.all fun y => y.2 != .cell && (y.2 != .local || scope.names.lookup y.1 == some .local) && (y.2 != .free || scope.names.lookup y.1 == some .free)) && scope.names.lookup x == some .local && decide N.Nodup && N[ix]? == some x
theorem compScope_of {scope : Scope} {N : List Str} {x : Str} {ix : Nat} (h : compScopeOk scope N x ix = true) : CompScope scope N x ix := by
  unfold compScopeOk at h
  simp only [Bool.and_eq_true,beq_iff_eq,decide_eq_true_eq,List.all_eq_true,bne_iff_ne,Bool.or_eq_true] at h
  obtain ⟨⟨⟨⟨h1,h2⟩,h3⟩,h4⟩,h5⟩:=h
  exact ⟨h1,fun y hy => (h2 y hy).1.1,fun y hy hl => (h2 y hy).1.2.resolve_left fun z => z hl,fun y hy hl => (h2 y hy).2.resolve_left fun z => z hl,h3,h4,h5⟩
section
variable {X : Cx} {elt iter : Expr} {x : Str} {px pos : Pos} {ifs : List Expr} {scope : Scope} {wi : TI} {tif : TT} {te : TE}
theorem pe_compr (N : List Str) (ix : Nat) (fr : List (Option Nat)) (hi : PI X (.Name x px) iter wi) (hif : ∀ cl C s₀ H₀ fp,PIf (cxComp X scope cl N C s₀ H₀ fp) ifs tif) (he : ∀ cl C s₀ H₀ fp,PE (cxComp X scope cl N C s₀ H₀ fp) elt te)
    (h1 : compScopeOk scope N x ix = true := by decide +kernel) (h2 : X.calm = true := by rfl) (h3 : frOk N X.N scope X.env.scope fr 0 = true := by rfl) (h4 : fr.length = N.length := by rfl) (h5 : freeOk X.env.scope scope.names = true := by rfl)
    (hs : ∀ x,foldedSetIterable iter X.env x = pure x := by intro _; rfl) : PE X (.ListComp elt [⟨.Name x px,iter,ifs,0⟩] scope pos) (tComp wi fr ix tif te) :=
  pe_comp (compScope_of h1) h2 h3 h4 (freeOk_of h5) hi hif he hs
end
section
variable {X : Cx} {k : Nat} {f : Addr} {fd : FuncData} {ps : List Str} {sp : Sp} {x : Str} {st : Stmt} {p pos : Pos} {e : Expr} {es : List Expr} {t : TA} {E : XK}
theorem pe_fnW (T : Fn X.K X.mg x st ps f fd) (G : FnOk X.prog X.w X.K X.mg X.base (CXW X.prog X.w) k f fd ps sp) (hr : Room k X.A) (hg : Gl X x) (hP : Passes (CXW X.prog X.w) X E) (ha : PA X (e :: es) t)
    (hdb : (x == ("__debug__" : Str)) = false := by decide) (he : starEach (e :: es) X.env = (false,eval e X.env) :: starEach es X.env := by rfl) (hpl : (backTo pos (starEach es X.env)).any (·.1) = false := by rfl) :
    PE X (.Call (.Name x p) (e :: es) [] pos) (tCall sp [] E t):=pe_call G hr hg T.m T.F.kp T.b .nil hP ha hdb he hpl
end
end L2
namespace ET
open PySem
section
variable {prog : Program} {w : World} {A : Around} {E : Value→Shared→Prop} {s : Shared}
theorem next_item {it t : Addr} {i : Nat} {items} {x : Value} {Q : Value→Shared→Prop} (hit : s.heap.IsTupleIter it t i) (ht : s.heap.IsTuple t items) (hx : items[i]? = some x)
    (hQ : ∀ h',h'.IsTupleIter it t (i + 1)→Heap.SameBut it s.heap h'→Q x { s with heap:=h' }) : wpAny (model prog w) A (Builtin.SmallTypes.nextOf (.ref it)) Q E s := by
  obtain ⟨o,ho,hc,hd⟩:=id hit
  obtain ⟨ol,hol,_,nl,hdl⟩:=ht
  unfold Builtin.SmallTypes.nextOf
  refine wpAny_bind (wpAny_callSpecial?_slot (name:=Str.ofString "__next__") hit.typeIs F.slot_tuple_iterator_next
    (wpAny_call_entry F.slot_tuple_iterator_next hit.typeIs F.entry_tuple_iterator_next ?_ (F.args_tuple_iterator_next_1 _)))
  show wpAny _ _ (field (.ref it) 0 >>= _) _ _ s
  refine wpAny_bind (wpAny_field ho hd (x:=.ref t) rfl ?_)
  show wpAny _ _ (if (Value.ref t == Value.none) = true then _ else _) _ _ s
  rw [if_neg (show ¬ ((Value.ref t == Value.none) = true) from Bool.false_ne_true)]
  show wpAny _ _ (field (.ref it) 1 >>= _) _ _ s
  refine wpAny_bind (wpAny_field ho hd (x:=.int i 0) rfl ?_)
  show wpAny _ _ (seqItems? (.ref t) >>= _) _ _ s
  refine wpAny_bind (wpAny_seqItems hol hdl ?_)
  simp only [Int.toNat_natCast,hx]
  refine wpAny_bind (wpAny_setField ho hd (by simp) (wpAny_pure ⟨x,rfl,wpAny_pure (hQ _ ?_ (Heap.SameBut.update ..))⟩))
  exact ⟨_,Heap.get?_update_self _ ho (Obj.isFreed_of_fields (Obj.data_mapFields hd _)),(Obj.cls_mapFields ..).trans hc,by
    rw [Obj.data_mapFields hd]; simp [rawInt]⟩
theorem next_end {it t : Addr} {i : Nat} {items} {Q : Value→Shared→Prop} (hh : A.handled = none) (hit : s.heap.IsTupleIter it t i) (ht : s.heap.IsTuple t items) (hx : items[i]? = none)
    (hE : ∀ h' e,Heap.ExtBut it s.heap h'→(∃ o,h'.get? e = some o∧o.cls = .type "StopIteration")→E (.ref e) { s with heap:=h' }) : wpAny (model prog w) A (Builtin.SmallTypes.nextOf (.ref it)) Q E s := by
  obtain ⟨o,ho,hc,hd⟩:=id hit
  obtain ⟨ol,hol,_,nl,hdl⟩:=ht
  unfold Builtin.SmallTypes.nextOf
  refine wpAny_bind (wpAny_callSpecial?_slot (name:=Str.ofString "__next__") hit.typeIs F.slot_tuple_iterator_next
    (wpAny_call_entry F.slot_tuple_iterator_next hit.typeIs F.entry_tuple_iterator_next ?_ (F.args_tuple_iterator_next_1 _)))
  show wpAny _ _ (field (.ref it) 0 >>= _) _ _ s
  refine wpAny_bind (wpAny_field ho hd (x:=.ref t) rfl ?_)
  show wpAny _ _ (if (Value.ref t == Value.none) = true then _ else _) _ _ s
  rw [if_neg (show ¬ ((Value.ref t == Value.none) = true) from Bool.false_ne_true)]
  show wpAny _ _ (field (.ref it) 1 >>= _) _ _ s
  refine wpAny_bind (wpAny_field ho hd (x:=.int i 0) rfl ?_)
  show wpAny _ _ (seqItems? (.ref t) >>= _) _ _ s
  refine wpAny_bind (wpAny_seqItems hol hdl ?_)
  simp only [Int.toNat_natCast,hx]
  refine wpAny_bind (wpAny_rule (wpAny_bind (wpAny_setField ho hd (by simp) ?_)))
  show wpAny _ _ (newExc (.type "StopIteration") [] >>= _) _ _ _
  refine wpAny_bind ?_
  simp only [newExc,newTuple]
  refine wpAny_bind (wpAny_newObj_type ?_ (by size_fits))
  refine wpAny_bind (m:=firstArgMember _ _) (wpAny_of_eq (a:=Value.none) (by first | rfl | (simp only [firstArgMember]; rfl)) ?_)
  refine wpAny_newObj_type ?_ (by size_fits)
  simp only [raiseNew]
  refine wpAny_bind (wpAny_handled ?_)
  first | rw [show A.in1.handled = none from hh] | rw [hh]
  refine wpAny_bind (wpAny_pure (wpAny_throw ?_))
  exact hE _ _ (((Heap.SameBut.update ..).extBut.push _).push _) ⟨_,Heap.get?_push_size _ rfl,rfl⟩
end
theorem draws {prog : Program} {w : World} {A : Around} (hh : A.handled = none) (it a : Addr) (its : List Value) (hne : a≠it) :
    Draws prog w A it [it,a] its.length (fun i x => its[i]? = some x) (fun i h => h.IsTupleIter it a i∧h.IsTuple a its.toArray) where
  live:=fun i h st => let ⟨o,e,_⟩:=st.1; ⟨o,e⟩
  frame:=fun i h h' st k => by
    obtain ⟨⟨o,e,r⟩,o2,e2,r2⟩:=st
    exact ⟨⟨o,k it (by simp) o e,r⟩,o2,k a (by simp) o2 e2,r2⟩
  item:=fun i s Q E hi st hQ => next_item st.1 st.2 (x:=its[i]) (by simp [hi]) fun h' st' sb =>
    hQ _ h' s.toks (by simp [hi]) ⟨st',let ⟨o,e,r⟩:=st.2; ⟨o,(sb.2 a hne).trans e,r⟩⟩ sb
  done:=fun s Q E st hE => next_end hh st.1 st.2 (by simp) hE
end ET
namespace L2
open PySem PySem.Spec PyProof.Rows
def CW (Pv : Nat→List V→Hp→Prop) (n : Nat) (D : Addr) : Nat→Nat→List V→Hp→Prop:=fun i m ys H => m = n - i∧i≤n∧H D = some (.lst ys)∧Pv i ys H
theorem cw_next {Pv : Nat→List V→Hp→Prop} {n i : Nat} {D : Addr} {ys : List V} {y : V} {H : Hp} (hi : i < n) (p : Pv (i + 1) (ys ++ [y]) (upd H D (.lst (ys ++ [y])))) : ∃ m',m' < n - i∧CW Pv n D (i + 1) m' (ys ++ [y]) (upd H D (.lst (ys ++ [y]))) :=
  ⟨n - (i + 1),by omega,rfl,hi,upd_same,p⟩
theorem cw_skip {Pv : Nat→List V→Hp→Prop} {n i : Nat} {D : Addr} {ys : List V} {H : Hp} (hi : i < n) (hD : H D = some (.lst ys)) (p : Pv (i + 1) ys H) : ∃ m',m' < n - i∧CW Pv n D (i + 1) m' ys H:=⟨n - (i + 1),by omega,rfl,hi,hD,p⟩
theorem comp_by {J : It} {n : Nat} {D : Addr} {H1 : Hp} {fr : List (Option Nat)} {σ : St} {ix : Nat} {tif : TT} {te : TE} {G : Hp→Prop} (Pv : Nat→List V→Hp→Prop) (h0 : Pv 0 [] (upd H1 D (.lst [])))
    (hgo : ∀ i ys H,i < n→Pv i ys H→H D = some (.lst ys)→J.go i H∧ys.length < sizeLine∧∀ x H',J.yld i H x H' →
      tif ((carry fr σ).set ix (some x)) H' fun b H2 => if b = true then te ((carry fr σ).set ix (some x)) H2 fun y H3 => H3 D = some (.lst ys)∧∃ m',m' < n - i∧CW Pv n D (i + 1) m' (ys ++ [y]) (upd H3 D (.lst (ys ++ [y])))
        else ∃ m',m' < n - i∧CW Pv n D (i + 1) m' ys H2)
    (hstop : ∀ ys H,Pv n ys H→H D = some (.lst ys)→J.stop n H∧G H) :
    ∃ W : Nat→Nat→List V→Hp→Prop,(∃ m,W 0 m [] (upd H1 D (.lst []))) ∧
      ∀ i m ys H,W i m ys H→H D = some (.lst ys)∧((J.stop i H∧G H)∨(J.go i H∧ys.length < sizeLine∧∀ x H',J.yld i H x H' →
        tif ((carry fr σ).set ix (some x)) H' fun b H2 => if b = true then te ((carry fr σ).set ix (some x)) H2 fun y H3 => H3 D = some (.lst ys)∧∃ m',m' < m∧W (i + 1) m' (ys ++ [y]) (upd H3 D (.lst (ys ++ [y])))
          else ∃ m',m' < m∧W (i + 1) m' ys H2)) := by
  refine ⟨CW Pv n D,⟨n,by simp,Nat.zero_le _,upd_same,h0⟩,?_⟩
  rintro i m ys H ⟨rfl,hi,hH,p⟩
  refine ⟨hH,?_⟩
  by_cases hlt : i < n
  · exact .inr (hgo i ys H hlt p hH)
  · have e : i = n := by omega
    subst e
    exact .inl (hstop ys H p hH)
section
variable {X : Cx}
theorem call_sum (hc : X.calm = true) : CallR X (.builtin "sum") (fun xs H Q => ∃ (p : Addr) (ns : List Int),xs = [.ref p]∧SqL X.K H p (ns.map V.int)∧Q (.int ns.sum) H) := by
  intro pins s σ H xs us Q I r h
  obtain ⟨p,ns,rfl,hq,q⟩:=h
  obtain ⟨u,rfl,r1⟩:=r.one
  cases r1
  obtain ⟨its,rv,pl,hz⟩:=I.list hq
  have hi:=intsAre_of rv
  obtain ⟨xs,hx⟩:=hi.allInts.items
  have hl' : s.heap.IsList p (intItems xs):=hx ▸ pl.isList
  refine sum_intListG (I.ok.hd hc) hl' fun h' tk t' hk => ?_
  have e1 : ns = xs.toList.map (·.1) := by
    rw [← nums_intItems,← hx]
    exact (show numsOf its.toArray.toList = ns from hi.numsOf).symm
  have e2 : preSum (numAt xs) xs.size = ns.sum := by
    rw [preSum_eq,List.take_of_length_le (by simp),e1]
  rw [e2]
  exact ⟨.int _,H,I.kept (t':=tk) hk,⟨t',rfl⟩,q⟩
end
mutual
def Dt (l : Addr) (H : Hp) : PyData→V→Prop
  | .none,v => v = .non
  | .bool b,v => v = .bl b
  | .int i,v => v = .int i
  | .str x,v => v = .str x
  | .tuple ds,v => ∃ (a : Addr) (xs : List V),v = .ref a∧a≠l∧H a = some (.tup xs)∧DtAll l H ds xs
  | .list ds,v => ∃ (a : Addr) (xs : List V),v = .ref a∧a≠l∧H a = some (.lst xs)∧DtAll l H ds xs
  | .dict _,_ => False
def DtAll (l : Addr) (H : Hp) : List PyData→List V→Prop
  | [],xs => xs = []
  | d :: ds,xs => ∃ x r,xs = x :: r∧Dt l H d x∧DtAll l H ds r
end
mutual
theorem Dt.but {l : Addr} {H H' : Hp} (e : SameBut l H H') : ∀ {d : PyData} {v : V},Dt l H d v→Dt l H' d v
  | .none,_,h => by rw [Dt] at h ⊢; exact h
  | .bool _,_,h => by rw [Dt] at h ⊢; exact h
  | .int _,_,h => by rw [Dt] at h ⊢; exact h
  | .str _,_,h => by rw [Dt] at h ⊢; exact h
  | .tuple _,_,h => by
    rw [Dt] at h ⊢
    obtain ⟨a,xs,e1,n,h1,h2⟩:=h
    exact ⟨a,xs,e1,n,e _ _ n h1,DtAll.but e h2⟩
  | .list _,_,h => by
    rw [Dt] at h ⊢
    obtain ⟨a,xs,e1,n,h1,h2⟩:=h
    exact ⟨a,xs,e1,n,e _ _ n h1,DtAll.but e h2⟩
  | .dict _,_,h => by rw [Dt] at h; exact h.elim
theorem DtAll.but {l : Addr} {H H' : Hp} (e : SameBut l H H') : ∀ {ds : List PyData} {xs : List V},DtAll l H ds xs→DtAll l H' ds xs
  | [],_,h => by rw [DtAll] at h ⊢; exact h
  | _ :: _,_,h => by
    rw [DtAll] at h ⊢
    obtain ⟨x,r,e1,h1,h2⟩:=h
    exact ⟨x,r,e1,Dt.but e h1,DtAll.but e h2⟩
end
theorem Dt.same {l : Addr} {H H' : Hp} {d : PyData} {v : V} (h : Dt l H d v) (e : Same H H') : Dt l H' d v:=Dt.but (.of e) h
theorem DtAll.same {l : Addr} {H H' : Hp} {d : List PyData} {v : List V} (h : DtAll l H d v) (e : Same H H') : DtAll l H' d v:=DtAll.but (.of e) h
theorem DtAll.len {l : Addr} {H : Hp} : ∀ {ds : List PyData} {xs : List V},DtAll l H ds xs→xs.length = ds.length
  | [],_,h => by rw [DtAll] at h; rw [h]; rfl
  | _ :: _,_,h => by
    rw [DtAll] at h
    obtain ⟨x,r,rfl,_,h2⟩:=h
    rw [List.length_cons,List.length_cons,DtAll.len h2]
theorem DtAll.get {l : Addr} {H : Hp} : ∀ {ds : List PyData} {xs : List V} {i : Nat} {v : V},DtAll l H ds xs→xs[i]? = some v→∃ d,ds[i]? = some d∧Dt l H d v
  | [],_,i,v,h,e => by rw [DtAll] at h; subst h; simp at e
  | d :: ds,_,i,v,h,e => by
    rw [DtAll] at h
    obtain ⟨x,r,rfl,h1,h2⟩:=h
    cases i with
    | zero => simp at e; subst e; exact ⟨d,rfl,h1⟩
    | succ i =>
      obtain ⟨c,q1,q2⟩:=h2.get (i:=i) (v:=v) (by simpa using e)
      exact ⟨c,by simpa using q1,q2⟩
theorem DtAll.nil {l : Addr} {H : Hp} : DtAll l H [] [] := by rw [DtAll]
theorem DtAll.cons {l : Addr} {H : Hp} {d : PyData} {ds : List PyData} {x : V} {xs : List V} (h : Dt l H d x) (k : DtAll l H ds xs) : DtAll l H (d :: ds) (x :: xs) := by
  rw [DtAll]; exact ⟨x,xs,rfl,h,k⟩
theorem DtAll.app {l : Addr} {H : Hp} : ∀ {ds es : List PyData} {xs ys : List V},DtAll l H ds xs→DtAll l H es ys→DtAll l H (ds ++ es) (xs ++ ys)
  | [],_,_,_,h,k => by rw [DtAll] at h; subst h; exact k
  | d :: ds,es,_,ys,h,k => by
    rw [DtAll] at h
    obtain ⟨x,r,rfl,h1,h2⟩:=h
    exact .cons h1 (h2.app k)
theorem Dt.int {l : Addr} {H : Hp} {i : Int} : Dt l H (.int i) (.int i) := by rw [Dt]
theorem Dt.bool {l : Addr} {H : Hp} {b : Bool} : Dt l H (.bool b) (.bl b) := by rw [Dt]
theorem Dt.non {l : Addr} {H : Hp} : Dt l H .none .non := by rw [Dt]
theorem Dt.str {l : Addr} {H : Hp} {x : Str} : Dt l H (.str x) (.str x) := by rw [Dt]
theorem Dt.tup {l a : Addr} {H : Hp} {ds : List PyData} {xs : List V} (n : a≠l) (h : H a = some (.tup xs)) (k : DtAll l H ds xs) : Dt l H (.tuple ds) (.ref a) := by rw [Dt]; exact ⟨a,xs,rfl,n,h,k⟩
theorem Dt.lst {l a : Addr} {H : Hp} {ds : List PyData} {xs : List V} (n : a≠l) (h : H a = some (.lst xs)) (k : DtAll l H ds xs) : Dt l H (.list ds) (.ref a) := by rw [Dt]; exact ⟨a,xs,rfl,n,h,k⟩
def Ok (n : Nat) (d : PyData) : Prop:=d.canLay0 = true∧d.depth≤n
def OkAll (n : Nat) (ds : List PyData) : Prop:=PyData.canLayAll0 ds = true∧PyData.depthAll ds≤n
theorem Ok.shaped {n : Nat} {d : PyData} (h : Ok n d) (hn : n≤64) : SeqAt.shaped d = true := by
  unfold SeqAt.shaped
  rw [h.1,Bool.true_and]
  exact decide_eq_true (Nat.le_trans h.2 hn)
theorem Ok.tup {n : Nat} {ds : List PyData} (h : OkAll n ds) : Ok (n + 1) (.tuple ds):=⟨by simp only [PyData.canLay0]; exact h.1,by simp only [PyData.depth]; exact Nat.succ_le_succ h.2⟩
theorem Ok.lst {n : Nat} {ds : List PyData} (h : OkAll n ds) : Ok (n + 1) (.list ds):=⟨by simp only [PyData.canLay0]; exact h.1,by simp only [PyData.depth]; exact Nat.succ_le_succ h.2⟩
theorem Ok.int {n : Nat} {i : Int} : Ok n (.int i):=⟨by simp [PyData.canLay0],by simp [PyData.depth]⟩
theorem Ok.non {n : Nat} : Ok n .none:=⟨by simp [PyData.canLay0],by simp [PyData.depth]⟩
theorem Ok.str {n : Nat} {x : Str} (h : PyData.strOk x = true) : Ok n (.str x):=⟨by simp [PyData.canLay0,h],by simp [PyData.depth]⟩
theorem Ok.mono {m n : Nat} {d : PyData} (h : Ok m d) (l : m≤n) : Ok n d:=⟨h.1,Nat.le_trans h.2 l⟩
mutual
theorem eqv_self : ∀ d : PyData,d.canLay0 = true→PyData.eqv d d = true
  | .none,_ => by simp [PyData.eqv]
  | .bool _,_ => by simp [PyData.eqv]
  | .int _,_ => by simp [PyData.eqv]
  | .str _,_ => by simp [PyData.eqv]
  | .tuple ds,h => by simp only [PyData.eqv]; exact eqvAll_self ds (by simpa only [PyData.canLay0] using h)
  | .list ds,h => by simp only [PyData.eqv]; exact eqvAll_self ds (by simpa only [PyData.canLay0] using h)
  | .dict _,h => by simp [PyData.canLay0] at h
theorem eqvAll_self : ∀ ds : List PyData,PyData.canLayAll0 ds = true→PyData.eqvAll ds ds = true
  | [],_ => by simp [PyData.eqvAll]
  | d :: ds,h => by
    simp only [PyData.canLayAll0,Bool.and_eq_true] at h
    simp only [PyData.eqvAll,eqv_self d h.1,eqvAll_self ds h.2,Bool.and_self]
end
def tyOf : PyData→String
  | .none => "NoneType"
  | .bool _ => "bool"
  | .int _ => "int"
  | .str _ => "str"
  | .tuple _ => "tuple"
  | .list _ => "list"
  | .dict _ => "dict"
theorem Dt.ty {K : PySem.W.Frag} {l : Addr} {H : Hp} : ∀ {d : PyData} {v : V},Dt l H d v→TyOf K H v (.type (tyOf d))
  | .none,_,h => by rw [Dt] at h; subst h; exact .non
  | .bool _,_,h => by rw [Dt] at h; subst h; exact .bl _
  | .int _,_,h => by rw [Dt] at h; subst h; exact .int _
  | .str _,_,h => by rw [Dt] at h; subst h; exact .str _
  | .tuple _,_,h => by rw [Dt] at h; obtain ⟨a,xs,rfl,_,h1,_⟩:=h; exact .tup h1
  | .list _,_,h => by rw [Dt] at h; obtain ⟨a,xs,rfl,_,h1,_⟩:=h; exact .lst h1
  | .dict _,_,h => by rw [Dt] at h; exact h.elim
def isTupD : PyData→Bool
  | .tuple _ => true
  | _ => false
def isLstD : PyData→Bool
  | .list _ => true
  | _ => false
def isIntD : PyData→Bool
  | .int _ => true
  | .bool _ => true
  | _ => false
def isBoolD : PyData→Bool
  | .bool _ => true
  | _ => false
theorem kit_tupD (K : PySem.W.Frag) : ∀ d : PyData,(∀ kv,d≠.dict kv)→PySem.W.kitOne K (.type (tyOf d)) (.type "tuple") = some (isTupD d)
  | .none,_ => kit_nt K
  | .bool _,_ => kit_bt K
  | .int _,_ => kit_it K
  | .str _,_ => kit_st K
  | .tuple _,_ => kit_tt K
  | .list _,_ => kit_lt K
  | .dict kv,h => absurd rfl (h kv)
theorem kit_lstD (K : PySem.W.Frag) : ∀ d : PyData,(∀ kv,d≠.dict kv)→PySem.W.kitOne K (.type (tyOf d)) (.type "list") = some (isLstD d)
  | .none,_ => kit_nl K
  | .bool _,_ => kit_bl K
  | .int _,_ => kit_il K
  | .str _,_ => kit_sl K
  | .tuple _,_ => kit_tl K
  | .list _,_ => kit_ll K
  | .dict kv,h => absurd rfl (h kv)
theorem kit_nb (K : PySem.W.Frag) : PySem.W.kitOne K (.type "NoneType") (.type "bool") = some false := by kernel_rfl
theorem kit_sb (K : PySem.W.Frag) : PySem.W.kitOne K (.type "str") (.type "bool") = some false := by kernel_rfl
theorem kit_tb (K : PySem.W.Frag) : PySem.W.kitOne K (.type "tuple") (.type "bool") = some false := by kernel_rfl
theorem kit_lb (K : PySem.W.Frag) : PySem.W.kitOne K (.type "list") (.type "bool") = some false := by kernel_rfl
theorem kit_intD (K : PySem.W.Frag) : ∀ d : PyData,(∀ kv,d≠.dict kv)→PySem.W.kitOne K (.type (tyOf d)) (.type "int") = some (isIntD d)
  | .none,_ => kit_ni K
  | .bool _,_ => kit_bi K
  | .int _,_ => kit_ii K
  | .str _,_ => kit_si K
  | .tuple _,_ => kit_ti K
  | .list _,_ => kit_li K
  | .dict kv,h => absurd rfl (h kv)
theorem kit_boolD (K : PySem.W.Frag) : ∀ d : PyData,(∀ kv,d≠.dict kv)→PySem.W.kitOne K (.type (tyOf d)) (.type "bool") = some (isBoolD d)
  | .none,_ => kit_nb K
  | .bool _,_ => kit_bb K
  | .int _,_ => kit_ib K
  | .str _,_ => kit_sb K
  | .tuple _,_ => kit_tb K
  | .list _,_ => kit_lb K
  | .dict kv,h => absurd rfl (h kv)
theorem Dt.nodict {l : Addr} {H : Hp} {d : PyData} {v : V} (h : Dt l H d v) : ∀ kv,d≠.dict kv:=fun kv z => by subst z; rw [Dt] at h; exact h
end L2
namespace L2
open PySem PySem.Spec PyProof.Rows
section
variable {X : Cx}
def rCatA : R2:=fun x y H Q => ∃ a b xs ys,x = .ref a∧y = .ref b∧H a = some (.tup xs)∧H b = some (.tup ys)∧xs.length + ys.length≤sizeLine∧∀ p H',Same H H'→H' p = some (.tup (xs ++ ys))→Q (.ref p) H'
theorem op_catA : OpR X (binaryOp .Add) rCatA := by
  intro pins s σ H x y v u Q I rx ry h
  obtain ⟨a,b,xs,ys,rfl,rfl,ha,hb,hz,q⟩:=h
  cases rx
  cases ry
  obtain ⟨its,r1,p1,_⟩:=I.tuple (SqT.of (K:=X.K) ha)
  obtain ⟨its2,r2,p2,_⟩:=I.tuple (SqT.of (K:=X.K) hb)
  by_cases hv : its = []
  · have hx:=r1.nil_iff.mp hv
    subst hv hx
    obtain ⟨⟨cls,dd,data,sl⟩,ho,hc,n,hd⟩:=id p1
    obtain ⟨⟨cls2,dd2,data2,sl2⟩,ho2,hc2,n2,hd2⟩:=id p2
    simp only at hc hd hc2 hd2
    subst hc hd hc2 hd2
    exact concat_meets ⟨_,ho,rfl⟩ ⟨_,ho2,rfl⟩ noFill_tuple_add seq_tuple_add PySem.F.slot_tuple_add PySem.F.entry_tuple_add (PySem.F.args_tuple_add_2 _ _)
      (tuple_addW0 a b _ _ n n2 dd dd2 sl sl2 (by simp)) ⟨ho,ho2,⟨.ref b,H,I,rfl,q b H (.refl H) (by simpa using hb)⟩⟩
  · refine HT.cat_tup p1 p2 hv (fun z => ?_) (fun z => ?_) (by rw [← r1.length,← r2.length]; exact hz)
    · have hy:=r2.nil_iff.mp z
      subst hy
      exact ⟨.ref a,H,I,rfl,q a H (.refl H) (by simpa using ha)⟩
    · refine ⟨.ref s.heap.objs.size,_,I.laid (t':=s.toks) (o:=.tup (xs ++ ys)) (fun b ob q => Heap.get?_push_of_some _ q) (Nat.le_refl _) ?_,rfl,q _ _ (same_new (I.hok.fresh (Nat.le_refl _)) _) upd_same⟩
      exact ⟨by rw [List.length_append]; exact hz,_,r1.append r2,IsTup.new _ _⟩
end
section
variable {P : Program} {w : World} {K : PySem.W.Frag} {mg : Str→Option Value} {base : Heap} {NN : List Str} {qual : Str} {fsc : Scope} {f : Addr} {cd : Value} {A : Around} {outer : List Env} {s : Shared} {H : Hp} {E : XK}
  {elt iter : Expr} {x : Str} {px pos : Pos} {ifs : List Expr} {scope : Scope} {wi : TI} {fr : List (Option Nat)} {ix : Nat} {tif : TT} {te : TE} {N : List Str} {pins pins0 : List (Addr×Obj)} {σ σ0 : St}
end
end L2
namespace Tim
open PySem PyProof.Rows
section pure
variable (N : Nat) (lt : Nat→Nat→Bool)
end pure
section
variable {prog : Program} {w : World} {A : Around} {E : Value→Shared→Prop} {s : Shared} {N : Nat} {lt : Nat→Nat→Bool} {κ : SortKind} {it : Nat→Keyed}
variable {p : Array Nat} {pend : Array (Nat×Nat×Nat)} {g : Nat}
section pure
variable (N : Nat) (lt : Nat→Nat→Bool) (a b : Array Nat)
end pure
section pure
variable (N : Nat) (lt : Nat→Nat→Bool)
end pure
end
end Tim
set_option maxHeartbeats 0
set_option maxHeartbeats 4000000
namespace ZT
open PySem PyProof.Rows
structure Apart (z TI TO i1 i2 : Addr) (f1 f2 : List Addr) : Prop where
  a1 : TI≠z∧TI≠TO∧TI≠i1∧TI≠i2
  a2 : TO≠z∧TO≠i1∧TO≠i2
  a3 : i1≠z∧i2≠z∧i1≠i2
  b1 : z ∉ f1∧TO ∉ f1∧i2 ∉ f1
  b2 : z ∉ f2∧TO ∉ f2∧i1 ∉ f2
section
variable {prog : Program} {w : World} {A : Around} {E : Value→Shared→Prop} {s : Shared} {z TI TO i1 i2 : Addr} {f1 f2 : List Addr} {n1 n2 k : Nat} {P1 P2 : Nat→Value→Prop} {S1 S2 : Nat→Heap→Prop} {a b : Value}
theorem keep_in {f : List Addr} {x : Addr} {h h' : Heap} (hx : x ∉ f) (e : Heap.SameBut x h h') : ∀ c∈f,∀ o,h.get? c = some o→h'.get? c = some o:=fun c hc o q => (e.2 c fun y => hx (y ▸ hc)).trans q
theorem item {Q : Value→Shared→Prop} (D1 : Draws prog w A i1 f1 n1 P1 S1) (D2 : Draws prog w A i2 f2 n2 P2 S2) (ap : Apart z TI TO i1 i2 f1 f2) (hz : IsZip s.heap z TI TO .none) (hI : IsPair s.heap TI (.ref i1) (.ref i2)) (hO : IsPair s.heap TO a b)
    (t1 : S1 k s.heap) (t2 : S2 k s.heap) (l1 : k < n1) (l2 : k < n2)
    (q : ∀ x y h' tk,P1 k x→P2 k y→IsZip h' z TI TO (rawInt s.heap.objs.size)→IsPair h' TO x y→S1 (k + 1) h'→S2 (k + 1) h'→IsPair h' s.heap.objs.size x y→h'.objs.size = s.heap.objs.size + 1 →
      (∀ c o,c≠z→c≠TO→c≠i1→c≠i2→s.heap.get? c = some o→h'.get? c = some o)→Q (.ref s.heap.objs.size) { s with heap:=h',toks:=tk }) :
    wpAny (model prog w) A (Builtin.«zip.__next__» ⟨[.ref z],[]⟩) (fun fin s' => ∃ v,fin = .done (.ret v)∧Q v s') E s := by
  obtain ⟨⟨c1,c2,c3,c4⟩,⟨c5,c6,c7⟩,⟨c8,c9,c10⟩,⟨d1,d2,d3⟩,d4,d5,d6⟩:=ap
  show wpAny _ _ (field (.ref z) 2 >>= _) _ _ _
  refine wpAny_bind (wpAny_field hz rfl (x:=.bool false) rfl ?_)
  show wpAny _ _ (field (.ref z) 3 >>= _) _ _ _
  refine wpAny_bind (wpAny_field hz rfl (x:=.ref TI) rfl (wpAny_bind (wpAny_seqItems hI rfl ?_)))
  show wpAny _ _ (Builtin.SmallTypes.ownedTupleIsFree (.ref z) >>= _) _ _ _
  unfold Builtin.SmallTypes.ownedTupleIsFree
  refine wpAny_bind (wpAny_bind (wpAny_field hz rfl (x:=.none) rfl (wpAny_pure ?_)))
  simp only [if_true]
  refine wpAny_bind (wpAny_rule (wpAny_bind (wpAny_field hz rfl (x:=.ref TO) rfl (wpAny_bind (wpAny_setField_rec hz (by simp) fun g1 z1 m1 => wpAny_bind ?_)))))
  have m1 : Heap.SameBut z s.heap g1:=m1
  have z1 : IsZip g1 z TI TO .ellipsis:=z1
  simp only [List.zipIdx_cons,List.zipIdx_nil,List.forIn_cons,List.forIn_nil]
  refine wpAny_bind (wpAny_bind (wpAny_onRaise ?_))
  show wpAny _ _ (Builtin.SmallTypes.nextOf (.ref i1) >>= _) _ _ _
  refine wpAny_bind (D1.item k _ _ _ l1 (D1.frame _ _ _ t1 (keep_in d1 m1)) fun x g2 tk2 p1 u1 m2 => wpAny_pure ?_)
  have o2 : IsPair g2 TO a b:=(m2.2 _ c6).trans ((m1.2 _ c5).trans hO)
  refine wpAny_bind (wpAny_seqItems o2 rfl (wpAny_bind (wpAny_updateSeq_pair o2 fun g3 o3 m3 => wpAny_bind (wpAny_letGo (wpAny_pure ?_)))))
  have o3 : IsPair g3 TO x b:=o3
  have t2' : S2 k g3:=D2.frame _ _ _ (D2.frame _ _ _ (D2.frame _ _ _ t2 (keep_in d4 m1)) (keep_in d6 m2)) (keep_in d5 m3)
  refine wpAny_bind (wpAny_bind (wpAny_onRaise ?_))
  show wpAny _ _ (Builtin.SmallTypes.nextOf (.ref i2) >>= _) _ _ _
  refine wpAny_bind (D2.item k _ _ _ l2 t2' fun y g4 tk4 p2 u2 m4 => wpAny_pure ?_)
  have m3 : Heap.SameBut TO g2 g3:=m3
  have m4 : Heap.SameBut i2 g3 g4:=m4
  have o4 : IsPair g4 TO x b:=(m4.2 _ c7).trans o3
  refine wpAny_bind (wpAny_seqItems o4 rfl (wpAny_bind (wpAny_updateSeq_pair o4 fun g5 o5 m5 => wpAny_bind (wpAny_letGo (wpAny_pure (wpAny_pure ?_))))))
  have m5 : Heap.SameBut TO g4 g5:=m5
  have o5 : IsPair g5 TO x y:=o5
  refine wpAny_bind (wpAny_seqItems o5 rfl (wpAny_bind (wpAny_newTuple ?_)))
  have m2 : Heap.SameBut i1 g1 g2:=m2
  have sz : g5.objs.size = s.heap.objs.size := by rw [m5.1,m4.1,m3.1,m2.1,m1.1]
  have z5 : IsZip g5 z TI TO .ellipsis:=(m5.2 _ c5.symm).trans ((m4.2 _ c9.symm).trans ((m3.2 _ c5.symm).trans ((m2.2 _ c8.symm).trans z1)))
  have kp : ∀ c o,c≠z→c≠TO→c≠i1→c≠i2→s.heap.get? c = some o→g5.get? c = some o:=fun c o e1 e2 e3 e4 e => (m5.2 _ e2).trans ((m4.2 _ e4).trans ((m3.2 _ e2).trans ((m2.2 _ e3).trans ((m1.2 _ e1).trans e))))
  have v1 : S1 (k + 1) g5:=D1.frame _ _ _ (D1.frame _ _ _ (D1.frame _ _ _ u1 (keep_in d2 m3)) (keep_in d3 m4)) (keep_in d2 m5)
  have v2 : S2 (k + 1) g5:=D2.frame _ _ _ u2 (keep_in d5 m5)
  show wpAny _ _ (Builtin.SmallTypes.ownedTupleHandOut (.ref z) (.ref g5.objs.size) >>= _) _ _ _
  unfold Builtin.SmallTypes.ownedTupleHandOut
  have z6 : IsZip (g5.push { cls:=.type "tuple",data:=.seq #[x,y] }) z TI TO .ellipsis:=Heap.get?_push_of_some _ z5
  refine wpAny_bind (wpAny_bind (wpAny_setField_rec z6 (by simp) fun g7 z7 m7 => wpAny_setField_rec (show IsZip g7 z TI TO (rawInt g5.objs.size) from z7) (by simp) fun g8 z8 m8 => ?_))
  have z8 : IsZip g8 z TI TO (rawInt g5.objs.size):=z8
  have up : ∀ c o,c≠z→(g5.push { cls:=.type "tuple",data:=.seq #[x,y] }).get? c = some o→g8.get? c = some o:=fun c o e1 e => (m8.2 _ e1).trans ((m7.2 _ e1).trans e)
  have zl : z < g5.objs.size:=Heap.lt_size z5
  refine wpAny_pure ⟨_,rfl,?_⟩
  show Q (.ref g5.objs.size) _
  have fin:=q x y g8 tk4 p1 p2 (by rw [← sz]; exact z8) (up _ _ c5 (Heap.get?_push_of_some _ o5)) (D1.frame _ _ _ v1 fun c hc o e => up c o (fun y => d1 (y ▸ hc)) (Heap.get?_push_of_some _ e)) (D2.frame _ _ _ v2 fun c hc o e => up c o (fun y => d4 (y ▸ hc)) (Heap.get?_push_of_some _ e))
    (by rw [← sz]; exact up _ _ (Nat.ne_of_gt zl) (Heap.get?_push_size _ rfl)) (by rw [← sz,m8.1,m7.1,Heap.size_push]) fun c o e1 e2 e3 e4 e => up c o e1 (Heap.get?_push_of_some _ (kp c o e1 e2 e3 e4 e))
  rw [sz]
  exact fin
theorem ended {Q : Fin→Shared→Prop} (D1 : Draws prog w A i1 f1 n1 P1 S1) (D2 : Draws prog w A i2 f2 n2 P2 S2) (ap : Apart z TI TO i1 i2 f1 f2) (hz : IsZip s.heap z TI TO .none) (hI : IsPair s.heap TI (.ref i1) (.ref i2)) (hO : IsPair s.heap TO a b)
    (t1 : S1 k s.heap) (t2 : S2 k s.heap) (he : k = n1∨(k < n1∧k = n2))
    (q : ∀ h' e tk,(∀ c o,c≠z→c≠TO→c≠i1→c≠i2→s.heap.get? c = some o→h'.get? c = some o)→(∃ o,h'.get? e = some o∧o.cls = .type "StopIteration")→E (.ref e) { s with heap:=h',toks:=tk }) :
    wpAny (model prog w) A (Builtin.«zip.__next__» ⟨[.ref z],[]⟩) Q E s := by
  obtain ⟨⟨c1,c2,c3,c4⟩,⟨c5,c6,c7⟩,⟨c8,c9,c10⟩,⟨d1,d2,d3⟩,d4,d5,d6⟩:=ap
  show wpAny _ _ (field (.ref z) 2 >>= _) _ _ _
  refine wpAny_bind (wpAny_field hz rfl (x:=.bool false) rfl ?_)
  show wpAny _ _ (field (.ref z) 3 >>= _) _ _ _
  refine wpAny_bind (wpAny_field hz rfl (x:=.ref TI) rfl (wpAny_bind (wpAny_seqItems hI rfl ?_)))
  show wpAny _ _ (Builtin.SmallTypes.ownedTupleIsFree (.ref z) >>= _) _ _ _
  unfold Builtin.SmallTypes.ownedTupleIsFree
  refine wpAny_bind (wpAny_bind (wpAny_field hz rfl (x:=.none) rfl (wpAny_pure ?_)))
  simp only [if_true]
  refine wpAny_bind (wpAny_rule (wpAny_bind (wpAny_field hz rfl (x:=.ref TO) rfl (wpAny_bind (wpAny_setField_rec hz (by simp) fun g1 z1 m1 => wpAny_bind ?_)))))
  have m1 : Heap.SameBut z s.heap g1:=m1
  have z1 : IsZip g1 z TI TO .ellipsis:=z1
  simp only [List.zipIdx_cons,List.zipIdx_nil,List.forIn_cons,List.forIn_nil]
  refine wpAny_bind (wpAny_bind (wpAny_onRaise ?_))
  show wpAny _ _ (Builtin.SmallTypes.nextOf (.ref i1) >>= _) _ _ _
  have t1':=D1.frame _ _ _ t1 (keep_in d1 m1)
  rcases he with he | ⟨he1,he2⟩
  · rw [he] at t1'
    refine wpAny_bind (D1.done _ _ _ t1' fun g2 e m2 ho => ?_)
    obtain ⟨o,ho,hc⟩:=ho
    have z2 : IsZip g2 z TI TO .ellipsis:=m2 _ _ c8.symm z1
    have ez : e≠z:=fun y => by subst y; rw [z2] at ho; cases ho; simp at hc
    exact wpAny_setField_rec z2 (by simp) fun g3 _ m3 => q g3 e _ (fun c o e1 e2 e3 e4 y => (m3.2 _ e1).trans (m2 _ _ e3 ((m1.2 _ e1).trans y))) ⟨o,(m3.2 _ ez).trans ho,hc⟩
  · refine wpAny_bind (D1.item k _ _ _ he1 t1' fun x g2 tk2 p1 u1 m2 => wpAny_pure ?_)
    have o2 : IsPair g2 TO a b:=(m2.2 _ c6).trans ((m1.2 _ c5).trans hO)
    refine wpAny_bind (wpAny_seqItems o2 rfl (wpAny_bind (wpAny_updateSeq_pair o2 fun g3 o3 m3 => wpAny_bind (wpAny_letGo (wpAny_pure ?_)))))
    have t2' : S2 k g3:=D2.frame _ _ _ (D2.frame _ _ _ (D2.frame _ _ _ t2 (keep_in d4 m1)) (keep_in d6 m2)) (keep_in d5 m3)
    rw [he2] at t2'
    have m2 : Heap.SameBut i1 g1 g2:=m2
    have m3 : Heap.SameBut TO g2 g3:=m3
    refine wpAny_bind (wpAny_bind (wpAny_onRaise ?_))
    show wpAny _ _ (Builtin.SmallTypes.nextOf (.ref i2) >>= _) _ _ _
    refine wpAny_bind (D2.done _ _ _ t2' fun g4 e m4 ho => ?_)
    obtain ⟨o,ho,hc⟩:=ho
    have z4 : IsZip g4 z TI TO .ellipsis:=m4 _ _ c9.symm ((m3.2 _ c5.symm).trans ((m2.2 _ c8.symm).trans z1))
    have ez : e≠z:=fun y => by subst y; rw [z4] at ho; cases ho; simp at hc
    exact wpAny_setField_rec z4 (by simp) fun g5 _ m5 => q g5 e _ (fun c o e1 e2 e3 e4 y => (m5.2 _ e1).trans (m4 _ _ e4 ((m3.2 _ e2).trans ((m2.2 _ e3).trans ((m1.2 _ e1).trans y))))) ⟨o,(m5.2 _ ez).trans ho,hc⟩
theorem next_item {Q : Option Value→Shared→Prop} (D1 : Draws prog w A.in1 i1 f1 n1 P1 S1) (D2 : Draws prog w A.in1 i2 f2 n2 P2 S2) (ap : Apart z TI TO i1 i2 f1 f2) (hz : IsZip s.heap z TI TO .none) (hI : IsPair s.heap TI (.ref i1) (.ref i2)) (hO : IsPair s.heap TO a b)
    (t1 : S1 k s.heap) (t2 : S2 k s.heap) (l1 : k < n1) (l2 : k < n2)
    (q : ∀ x y h' tk,P1 k x→P2 k y→IsZip h' z TI TO (rawInt s.heap.objs.size)→IsPair h' TO x y→S1 (k + 1) h'→S2 (k + 1) h'→IsPair h' s.heap.objs.size x y→h'.objs.size = s.heap.objs.size + 1 →
      (∀ c o,c≠z→c≠TO→c≠i1→c≠i2→s.heap.get? c = some o→h'.get? c = some o)→Q (some (.ref s.heap.objs.size)) { s with heap:=h',toks:=tk }) :
    wpAny (model prog w) A (pyNext (.ref z)) Q E s := by
  have hT : s.TypeIs (.ref z) "zip" := ⟨_,hz,rfl⟩
  unfold pyNext
  exact wpAny_bind (wpAny_attempt (wpAny_callSpecial?_slot (name:=Str.ofString "__next__") hT F.slot_zip_next
    (wpAny_call_entry F.slot_zip_next hT F.entry_zip_next (item D1 D2 ap hz hI hO t1 t2 l1 l2 fun x y h' tk r1 r2 r3 r4 r5 r6 r7 r8 r9 => wpAny_pure (q x y h' tk r1 r2 r3 r4 r5 r6 r7 r8 r9)) (F.args_zip_next_1 _))))
theorem next_end {Q : Option Value→Shared→Prop} (D1 : Draws prog w A.in1 i1 f1 n1 P1 S1) (D2 : Draws prog w A.in1 i2 f2 n2 P2 S2) (ap : Apart z TI TO i1 i2 f1 f2) (hz : IsZip s.heap z TI TO .none) (hI : IsPair s.heap TI (.ref i1) (.ref i2)) (hO : IsPair s.heap TO a b)
    (t1 : S1 k s.heap) (t2 : S2 k s.heap) (he : k = n1∨(k < n1∧k = n2))
    (q : ∀ h' tk,(∀ c o,c≠z→c≠TO→c≠i1→c≠i2→s.heap.get? c = some o→h'.get? c = some o)→Q none { s with heap:=h',toks:=tk }) :
    wpAny (model prog w) A (pyNext (.ref z)) Q E s := by
  have hT : s.TypeIs (.ref z) "zip" := ⟨_,hz,rfl⟩
  unfold pyNext
  refine wpAny_bind (wpAny_attempt (wpAny_callSpecial?_slot (name:=Str.ofString "__next__") hT F.slot_zip_next
    (wpAny_call_entry F.slot_zip_next hT F.entry_zip_next (ended D1 D2 ap hz hI hO t1 t2 he fun h' e tk kp ho => ?_) (F.args_zip_next_1 _))))
  obtain ⟨o,ho,hc⟩:=ho
  exact wpAny_bind (wpAny_isInstance (T := "StopIteration") (b:=true) ⟨o,ho,hc⟩ isSubtype_stop (wpAny_pure (q _ _ kp)))
end
end ZT
namespace ZT
open PySem PyProof.Rows
def Sq (b : Bool) (h : Heap) (l : Addr) (xs : List Value) : Prop:=if b then h.IsTuple l xs.toArray else h.IsList l xs.toArray
def itO (b : Bool) (l : Addr) : Obj:=if b then { cls:=.type "tuple_iterator",data:=.fields #[.ref l,.int 0 0] } else { cls:=.type "list_iterator",data:=.fields #[.ref l,.int 0 0] }
def It1 (b : Bool) (h : Heap) (it l : Addr) (k : Nat) : Prop:=if b then h.IsTupleIter it l k else h.IsListIter it l k
theorem Sq.push {b : Bool} {h : Heap} {l : Addr} {xs : List Value} (o : Obj) (x : Sq b h l xs) : Sq b (h.push o) l xs := by
  cases b with
  | true => obtain ⟨u,e,r⟩:=(show h.IsTuple l xs.toArray from x); exact (show (h.push o).IsTuple l xs.toArray from ⟨u,Heap.get?_push_of_some _ e,r⟩)
  | false => obtain ⟨u,e,r⟩:=(show h.IsList l xs.toArray from x); exact (show (h.push o).IsList l xs.toArray from ⟨u,Heap.get?_push_of_some _ e,r⟩)
section
variable {prog : Program} {w : World} {A : Around} {E : Value→Shared→Prop} {s : Shared}
theorem iter_sq {b : Bool} {l : Addr} {xs : List Value} {Q : Value→Shared→Prop} (x : Sq b s.heap l xs) (h : Q (.ref s.heap.objs.size) { s with heap:=s.heap.push (itO b l) }) : wpAny (model prog w) A (pyIter (.ref l)) Q E s := by
  cases b with
  | true => exact wpAny_pyIter_tuple x h
  | false => exact wpAny_pyIter_list x h
theorem draws_sq (hh : A.handled = none) (b : Bool) (it l : Addr) (xs : List Value) (hne : l≠it) : Draws prog w A it [it,l] xs.length (fun i v => xs[i]? = some v) (fun i h => It1 b h it l i∧Sq b h l xs) := by
  cases b with
  | true => exact ET.draws hh it l xs hne
  | false =>
    have:=Draws.list (prog:=prog) (w:=w) hh it l hne xs.toArray
    simpa [It1,Sq] using this
def zh (b1 b2 : Bool) (h : Heap) (l1 l2 : Addr) : Heap :=
  ((((h.push (itO b1 l1)).push (itO b2 l2)).push { cls:=.type "tuple",data:=.seq #[.ref h.objs.size,.ref (h.push (itO b1 l1)).objs.size] }).push { cls:=.type "tuple",data:=.seq #[.none,.none] }).push
    { cls:=.type "zip",data:=.fields #[.none,.bool false,.bool false,.ref ((h.push (itO b1 l1)).push (itO b2 l2)).objs.size,.ref (((h.push (itO b1 l1)).push (itO b2 l2)).push { cls:=.type "tuple",data:=.seq #[.ref h.objs.size,.ref (h.push (itO b1 l1)).objs.size] }).objs.size] }
theorem new_zip (b1 b2 : Bool) (l1 l2 : Addr) (xs ys : List Value) :
    Meets (Builtin.«zip.__new__» ⟨[.type "zip",.ref l1,.ref l2],[]⟩) (fun _ R s => Sq b1 s.heap l1 xs∧Sq b2 s.heap l2 ys ∧
      R (.ok (.ret (.ref ((((s.heap.push (itO b1 l1)).push (itO b2 l2)).push { cls:=.type "tuple",data:=.seq #[.ref s.heap.objs.size,.ref (s.heap.push (itO b1 l1)).objs.size] }).push { cls:=.type "tuple",data:=.seq #[.none,.none] }).objs.size)) ) { s with heap:=zh b1 b2 s.heap l1 l2 }) :=
  .of_wp fun prog w A R s h => by
    obtain ⟨hp,g,d,tk,os⟩:=s; obtain ⟨h1,h2,h⟩:=h
    have hsub:=sub_zip
    have i1 : ∀ (A : Around) (E : Value→Shared→Prop) (Q : Value→Shared→Prop),Q (.ref hp.objs.size) ⟨hp.push (itO b1 l1),g,d,tk,os⟩→wpAny (model prog w) A (pyIter (.ref l1)) Q E ⟨hp,g,d,tk,os⟩:=fun A E Q q => iter_sq (s:=⟨hp,g,d,tk,os⟩) h1 q
    have i2 : ∀ (A : Around) (E : Value→Shared→Prop) (Q : Value→Shared→Prop),Q (.ref (hp.push (itO b1 l1)).objs.size) ⟨(hp.push (itO b1 l1)).push (itO b2 l2),g,d,tk,os⟩→wpAny (model prog w) A (pyIter (.ref l2)) Q E ⟨hp.push (itO b1 l1),g,d,tk,os⟩:=fun A E Q q => iter_sq (s:=⟨hp.push (itO b1 l1),g,d,tk,os⟩) (h2.push _) q
    wp_walk using i1,i2
    exact ⟨_,rfl,h⟩
theorem call_zip {b1 b2 : Bool} {l1 l2 : Addr} {xs ys : List Value} {Q : Value→Shared→Prop} (h1 : Sq b1 s.heap l1 xs) (h2 : Sq b2 s.heap l2 ys)
    (h : ∀ h',IsZip h' (s.heap.objs.size + 4) (s.heap.objs.size + 2) (s.heap.objs.size + 3) .none→IsPair h' (s.heap.objs.size + 2) (.ref s.heap.objs.size) (.ref (s.heap.objs.size + 1))→IsPair h' (s.heap.objs.size + 3) .none .none →
      It1 b1 h' s.heap.objs.size l1 0→It1 b2 h' (s.heap.objs.size + 1) l2 0→(∀ c o,s.heap.get? c = some o→h'.get? c = some o)→Q (.ref (s.heap.objs.size + 4)) { s with heap:=h' }) :
    wpAny (model prog w) A (call (.type "zip") [.ref l1,.ref l2]) Q E s := by
  refine callType_new F.called_zip (by decide) (F.typeCall_zip_2 _ _) (F.newCall_zip_2 _ _) (fun obj => F.args_object_init_3 obj _ _) F.entry_zip_new (new_zip b1 b2 l1 l2 xs ys) ⟨h1,h2,?_⟩
  have n1 : (s.heap.push (itO b1 l1)).objs.size = s.heap.objs.size + 1:=Heap.size_push ..
  have up : ∀ (g : Heap) (o : Obj) (c : Addr) (u : Obj),g.get? c = some u→(g.push o).get? c = some u:=fun g o c u e => Heap.get?_push_of_some _ e
  have a0 : (s.heap.push (itO b1 l1)).get? s.heap.objs.size = some (itO b1 l1):=Heap.get?_push_size _ (by cases b1 <;> rfl)
  generalize hg1 : s.heap.push (itO b1 l1) = g1 at n1 a0
  have k1 : ∀ c o,s.heap.get? c = some o→g1.get? c = some o:=fun c o e => by rw [← hg1]; exact up _ _ _ _ e
  have n2 : (g1.push (itO b2 l2)).objs.size = s.heap.objs.size + 2 := by rw [Heap.size_push,n1]
  have a1 : (g1.push (itO b2 l2)).get? (s.heap.objs.size + 1) = some (itO b2 l2) := by rw [← n1]; exact Heap.get?_push_size _ (by cases b2 <;> rfl)
  generalize hg2 : g1.push (itO b2 l2) = g2 at n2 a1
  have k2 : ∀ c o,g1.get? c = some o→g2.get? c = some o:=fun c o e => by rw [← hg2]; exact up _ _ _ _ e
  have n3 : (g2.push { cls:=.type "tuple",data:=.seq #[.ref s.heap.objs.size,.ref (s.heap.objs.size + 1)] }).objs.size = s.heap.objs.size + 3 := by rw [Heap.size_push,n2]
  have a2 : IsPair (g2.push { cls:=.type "tuple",data:=.seq #[.ref s.heap.objs.size,.ref (s.heap.objs.size + 1)] }) (s.heap.objs.size + 2) (.ref s.heap.objs.size) (.ref (s.heap.objs.size + 1)) := by rw [← n2]; exact Heap.get?_push_size _ rfl
  generalize hg3 : g2.push { cls:=.type "tuple",data:=.seq #[.ref s.heap.objs.size,.ref (s.heap.objs.size + 1)] } = g3 at n3 a2
  have k3 : ∀ c o,g2.get? c = some o→g3.get? c = some o:=fun c o e => by rw [← hg3]; exact up _ _ _ _ e
  have n4 : (g3.push { cls:=.type "tuple",data:=.seq #[.none,.none] }).objs.size = s.heap.objs.size + 4 := by rw [Heap.size_push,n3]
  have a3 : IsPair (g3.push { cls:=.type "tuple",data:=.seq #[.none,.none] }) (s.heap.objs.size + 3) .none .none := by rw [← n3]; exact Heap.get?_push_size _ rfl
  generalize hg4 : g3.push { cls:=.type "tuple",data:=.seq #[.none,.none] } = g4 at n4 a3
  have k4 : ∀ c o,g3.get? c = some o→g4.get? c = some o:=fun c o e => by rw [← hg4]; exact up _ _ _ _ e
  have ez : zh b1 b2 s.heap l1 l2 = g4.push { cls:=.type "zip",data:=.fields #[.none,.bool false,.bool false,.ref (s.heap.objs.size + 2),.ref (s.heap.objs.size + 3)] } := by
    unfold zh
    rw [hg1,hg2,n1,hg3,hg4,n2,n3]
  have a4 : IsZip (g4.push { cls:=.type "zip",data:=.fields #[.none,.bool false,.bool false,.ref (s.heap.objs.size + 2),.ref (s.heap.objs.size + 3)] }) (s.heap.objs.size + 4) (s.heap.objs.size + 2) (s.heap.objs.size + 3) .none := by rw [← n4]; exact Heap.get?_push_size _ rfl
  rw [n1,hg3,hg4,n4,ez]
  show _∧_
  have k5 : ∀ c o,g4.get? c = some o→(g4.push { cls:=.type "zip",data:=.fields #[.none,.bool false,.bool false,.ref (s.heap.objs.size + 2),.ref (s.heap.objs.size + 3)] }).get? c = some o:=fun c o e => up _ _ _ _ e
  refine ⟨⟨_,a4,rfl⟩,h _ a4 (k5 _ _ (k4 _ _ a2)) (k5 _ _ a3) ?_ ?_ fun c o e => k5 _ _ (k4 _ _ (k3 _ _ (k2 _ _ (k1 _ _ e))))⟩
  · have:=k5 _ _ (k4 _ _ (k3 _ _ (k2 _ _ a0)))
    cases b1 with
    | true => exact ⟨_,this,rfl,rfl⟩
    | false => exact ⟨_,this,rfl,rfl⟩
  · have:=k5 _ _ (k4 _ _ (k3 _ _ a1))
    cases b2 with
    | true => exact ⟨_,this,rfl,rfl⟩
    | false => exact ⟨_,this,rfl,rfl⟩
end
end ZT
namespace L2
open PySem PySem.Spec PyProof.Rows
def SqH (b : Bool) (H : Hp) (a : Addr) (xs : List V) : Prop:=if b then H a = some (.tup xs) else H a = some (.lst xs)
theorem SqH.inj {b : Bool} {H : Hp} {a : Addr} {xs ys : List V} (h : SqH b H a xs) (k : SqH b H a ys) : xs = ys := by
  cases b with
  | true => have h : H a = some (.tup xs):=h; have k : H a = some (.tup ys):=k; rw [h] at k; cases k; rfl
  | false => have h : H a = some (.lst xs):=h; have k : H a = some (.lst ys):=k; rw [h] at k; cases k; rfl
theorem SqH.none {b : Bool} {H : Hp} {a c : Addr} {xs : List V} (h : SqH b H a xs) (k : H c = none) : a≠c:=fun z => by
  subst z
  cases b with
  | true => have h : H a = some (.tup xs):=h; rw [k] at h; cases h
  | false => have h : H a = some (.lst xs):=h; rw [k] at h; cases h
theorem SqH.raw {X : Cx} {pins : List (Addr×Obj)} {σ : St} {H : Hp} {s : Shared} (I : Inv X pins σ H s) {b : Bool} {a : Addr} {xs : List V} (h : SqH b H a xs) : ∃ its,Vals xs its∧ZT.Sq b s.heap a its := by
  cases b with
  | true =>
    obtain ⟨its,rv,p,_⟩:=I.tuple (SqT.of (K:=X.K) (show H a = some (.tup xs) from h))
    exact ⟨its,rv,p⟩
  | false =>
    obtain ⟨its,rv,p,_⟩:=I.list (SqL.of (K:=X.K) (show H a = some (.lst xs) from h))
    exact ⟨its,rv,p.isList⟩
def Itz (b1 b2 : Bool) (a1 a2 : Addr) : It :=
  ⟨fun i H => ∃ xs x ys y,SqH b1 H a1 xs∧SqH b2 H a2 ys∧xs[i]? = some x∧ys[i]? = some y,
   fun i H v H' => ∃ p x y,v = .ref p∧H p = none∧H' = upd H p (.tup [x,y])∧(∀ xs,SqH b1 H a1 xs→xs[i]? = some x)∧∀ ys,SqH b2 H a2 ys→ys[i]? = some y,
   fun i H => ∃ xs ys,SqH b1 H a1 xs∧SqH b2 H a2 ys∧(i = xs.length∨(i < xs.length∧i = ys.length))⟩
def tnZ (b1 b2 : Bool) (a1 a2 z TI TO i1 i2 : Addr) : Nat→Heap→Prop:=fun i h => IsZip h z TI TO .none∧IsPair h TI (.ref i1) (.ref i2)∧(∃ a b,IsPair h TO a b)∧ZT.It1 b1 h i1 a1 i∧ZT.It1 b2 h i2 a2 i
theorem it1_obj {b : Bool} {h : Heap} {it l : Addr} {k : Nat} (x : ZT.It1 b h it l k) : ∃ o,h.get? it = some o∧∀ v,o.data≠.cell v := by
  cases b with
  | true => obtain ⟨o,e,_,d⟩:=(show h.IsTupleIter it l k from x); exact ⟨o,e,fun v z => by rw [d] at z; cases z⟩
  | false => obtain ⟨o,e,_,d⟩:=(show h.IsListIter it l k from x); exact ⟨o,e,fun v z => by rw [d] at z; cases z⟩
theorem it1_keep {b : Bool} {h h' : Heap} {it l : Addr} {k : Nat} (x : ZT.It1 b h it l k) (e : ∀ o,h.get? it = some o→h'.get? it = some o) : ZT.It1 b h' it l k := by
  cases b with
  | true => obtain ⟨o,q,r⟩:=(show h.IsTupleIter it l k from x); exact (show h'.IsTupleIter it l k from ⟨o,e _ q,r⟩)
  | false => obtain ⟨o,q,r⟩:=(show h.IsListIter it l k from x); exact (show h'.IsListIter it l k from ⟨o,e _ q,r⟩)
theorem turn_zip {P : Program} {w : World} {K : PySem.W.Frag} {elts : List Expr} {x1} {pos : Pos} {b1 b2 : Bool} {a1 a2 z TI TO i1 i2 : Addr} (ne : [z,TI,TO,i1,i2].Nodup) :
    Turn P w K (.Tuple elts x1 pos) (Itz b1 b2 a1 a2) [z,TI,TO,i1,i2] z (tnZ b1 b2 a1 a2 z TI TO i1 i2) where
  mem := by simp
  obj:=fun i h st b hb => by
    obtain ⟨h1,h2,⟨u,v,h3⟩,h4,h5⟩:=st
    have hb : b = z∨b = TI∨b = TO∨b = i1∨b = i2 := by simpa using hb
    rcases hb with rfl | rfl | rfl | rfl | rfl
    · exact ⟨_,h1,fun v y => by cases y⟩
    · exact ⟨_,h2,fun v y => by cases y⟩
    · exact ⟨_,h3,fun v y => by cases y⟩
    · exact it1_obj h4
    · exact it1_obj h5
  keep:=fun i h h' st k => by
    obtain ⟨h1,h2,⟨u,v,h3⟩,h4,h5⟩:=st
    exact ⟨k z (by simp) _ h1,k TI (by simp) _ h2,⟨u,v,k TO (by simp) _ h3⟩,it1_keep h4 fun o e => k i1 (by simp) o e,it1_keep h5 fun o e => k i2 (by simp) o e⟩
  item := by
    intro X hP hw hK hc i pins s σ H E I hf st hg
    subst hP hw hK
    obtain ⟨xs,x,ys,y,q1,q2,hx,hy⟩:=hg
    obtain ⟨us,rv1,p1⟩:=q1.raw I
    obtain ⟨vs,rv2,p2⟩:=q2.raw I
    obtain ⟨u,hu,ru⟩:=rv1.get hx
    obtain ⟨v,hv,rv⟩:=rv2.get hy
    obtain ⟨t1,t2,⟨ta,tb,t3⟩,t4,t5⟩:=st
    have e1 : ∀ b∈[z,TI,TO,i1,i2],a1≠b:=fun b hb => q1.none (hf b hb).1
    have e2 : ∀ b∈[z,TI,TO,i1,i2],a2≠b:=fun b hb => q2.none (hf b hb).1
    simp only [List.nodup_cons,List.mem_cons,List.not_mem_nil,or_false,not_or] at ne
    obtain ⟨⟨n1,n2,n3,n4⟩,⟨n5,n6,n7⟩,⟨n8,n9⟩,n10,_⟩:=ne
    have ap : ZT.Apart z TI TO i1 i2 [i1,a1] [i2,a2]:=⟨⟨Ne.symm n1,n5,n6,n7⟩,⟨Ne.symm n2,n8,n9⟩,⟨Ne.symm n3,Ne.symm n4,n10⟩,
      ⟨by simp [n3,Ne.symm (e1 z (by simp))],by simp [n8,Ne.symm (e1 TO (by simp))],by simp [Ne.symm n10,Ne.symm (e1 i2 (by simp))]⟩,⟨by simp [n4,Ne.symm (e2 z (by simp))],by simp [n9,Ne.symm (e2 TO (by simp))],by simp [n10,Ne.symm (e2 i1 (by simp))]⟩⟩
    refine ZT.next_item (ZT.draws_sq (prog:=X.prog) (w:=X.w) (A:=X.A.in1) (I.ok.hd hc) b1 i1 a1 us (e1 i1 (by simp))) (ZT.draws_sq (prog:=X.prog) (w:=X.w) (A:=X.A.in1) (I.ok.hd hc) b2 i2 a2 vs (e2 i2 (by simp))) ap t1 t2 t3 ⟨t4,p1⟩ ⟨t5,p2⟩ (List.getElem?_eq_some_iff.mp hu).1 (List.getElem?_eq_some_iff.mp hv).1
      fun u' v' h' tk r1 r2 r3 r4 r5 r6 r7 r8 r9 => ⟨_,rfl,wpAny_letOwnedTupleGo_zip (s:={ s with heap:=h',toks:=tk }) r3 fun h'' z'' sb => ?_⟩
    rw [hu] at r1
    rw [hv] at r2
    cases r1
    cases r2
    have keep : ∀ b o,b ∉ [z,TI,TO,i1,i2]→s.heap.get? b = some o→h''.get? b = some o:=fun b o hb q => by
      simp only [List.mem_cons,List.not_mem_nil,or_false,not_or] at hb
      exact (sb.2 b hb.1).trans (r9 b o hb.1 hb.2.2.1 hb.2.2.2.1 hb.2.2.2.2 q)
    have lt : ∀ b∈[z,TI,TO,i1,i2],b < s.heap.objs.size:=fun b hb => by
      have hb : b = z∨b = TI∨b = TO∨b = i1∨b = i2 := by simpa using hb
      rcases hb with rfl | rfl | rfl | rfl | rfl
      · exact Heap.lt_size t1
      · exact Heap.lt_size t2
      · exact Heap.lt_size t3
      · obtain ⟨o,e,_⟩:=it1_obj t4; exact Heap.lt_size e
      · obtain ⟨o,e,_⟩:=it1_obj t5; exact Heap.lt_size e
    have hTn : H s.heap.objs.size = none:=I.hok.fresh (Nat.le_refl _)
    have hT'' : h''.get? s.heap.objs.size = some { cls:=.type "tuple",data:=.seq #[u,v] }:=(sb.2 _ (Nat.ne_of_gt (lt z (by simp)))).trans r7
    have neT : ∀ b o,s.heap.get? b = some o→b≠s.heap.objs.size:=fun b o q => Nat.ne_of_lt (Heap.lt_size q)
    have trk : ∀ b o,H b = some o→b ∉ [z,TI,TO,i1,i2]:=fun b o q hb => by rw [(hf b hb).1] at q; cases q
    refine ⟨.ref s.heap.objs.size,upd H s.heap.objs.size (.tup [x,y]),?_,rfl,⟨_,x,y,rfl,hTn,rfl,fun zs hz => by rw [hz.inj q1]; exact hx,fun zs hz => by rw [hz.inj q2]; exact hy⟩,⟨z'',?_,⟨u,v,?_⟩,?_,?_⟩,fun b hb => ?_⟩
    · show Inv X pins σ _ { s with heap:=h'',gens:=s.gens,drawn:=s.drawn,toks:=tk }
      refine I.step (h':=h'') (g':=s.gens) (d':=s.drawn) (t':=tk) (ch:=[z,TI,TO,i1,i2]) (fun b hb => ?_) (fun b o _ _ hc q _ => keep b o hc q) (fun b o _ _ hc q _ => ⟨o.slots,keep b o hc q⟩)
        (fun b o _ q n => by rw [upd_ne (neT b o q)]; exact n) (fun b o hc q => ⟨o,keep b o hc q⟩) (fun b ys q => by rw [upd_ne (ne_of_none q hTn)]; exact q) (fun b o u q => by rw [upd_ne (ne_of_none q hTn)]; exact q)
        (fun b ps q => ⟨#[],by rw [upd_ne (ne_of_none q hTn),q]; simp⟩) (fun m hm => ?_) (fun b o q => ?_) I.bare
      · obtain ⟨_,f1,_,f3,f4,f5⟩:=hf b hb
        exact ⟨f3,f1,f4,f5⟩
      · obtain ⟨o,es,ep,ho,r⟩:=hm
        exact ⟨o,es,ep,keep _ o (fun hb => (hf _ hb).2.1 rfl) ho,r⟩
      · by_cases hb : b = s.heap.objs.size
        · subst hb
          rw [upd_same] at q
          cases q
          exact ⟨sz2,[u,v],.cons ru (.cons rv .nil),_,hT'',rfl,_,rfl⟩
        · rw [upd_ne hb] at q
          refine (I.hok b o q).stay (fun c w hc r => keep c w ?_ r) (fun c r => by rw [upd_ne (ne_of_none r hTn)]; exact r) fun c ys r => by rw [upd_ne (ne_of_none r hTn)]; exact r
          rcases hc with rfl | hc
          · exact trk _ _ q
          · exact trk _ _ hc
    · exact (sb.2 _ (Ne.symm n1)).trans (r9 _ _ (Ne.symm n1) n5 n6 n7 t2)
    · exact (sb.2 _ (Ne.symm n2)).trans r4
    · exact it1_keep r5.1 fun o e => (sb.2 _ (Ne.symm n3)).trans e
    · exact it1_keep r6.1 fun o e => (sb.2 _ (Ne.symm n4)).trans e
    · rw [upd_ne (Nat.ne_of_lt (lt b hb))]
      exact (hf b hb).1
  done := by
    intro X hP hw hK hc i pins s σ H E I hf st hg
    subst hP hw hK
    obtain ⟨xs,ys,q1,q2,he⟩:=hg
    obtain ⟨us,rv1,p1⟩:=q1.raw I
    obtain ⟨vs,rv2,p2⟩:=q2.raw I
    obtain ⟨t1,t2,⟨ta,tb,t3⟩,t4,t5⟩:=st
    have e1 : ∀ b∈[z,TI,TO,i1,i2],a1≠b:=fun b hb => q1.none (hf b hb).1
    have e2 : ∀ b∈[z,TI,TO,i1,i2],a2≠b:=fun b hb => q2.none (hf b hb).1
    simp only [List.nodup_cons,List.mem_cons,List.not_mem_nil,or_false,not_or] at ne
    obtain ⟨⟨n1,n2,n3,n4⟩,⟨n5,n6,n7⟩,⟨n8,n9⟩,n10,_⟩:=ne
    have ap : ZT.Apart z TI TO i1 i2 [i1,a1] [i2,a2]:=⟨⟨Ne.symm n1,n5,n6,n7⟩,⟨Ne.symm n2,n8,n9⟩,⟨Ne.symm n3,Ne.symm n4,n10⟩,
      ⟨by simp [n3,Ne.symm (e1 z (by simp))],by simp [n8,Ne.symm (e1 TO (by simp))],by simp [Ne.symm n10,Ne.symm (e1 i2 (by simp))]⟩,⟨by simp [n4,Ne.symm (e2 z (by simp))],by simp [n9,Ne.symm (e2 TO (by simp))],by simp [n10,Ne.symm (e2 i1 (by simp))]⟩⟩
    have he' : i = us.length∨(i < us.length∧i = vs.length) := by rw [← rv1.length,← rv2.length]; exact he
    refine ZT.next_end (ZT.draws_sq (prog:=X.prog) (w:=X.w) (A:=X.A.in1) (I.ok.hd hc) b1 i1 a1 us (e1 i1 (by simp))) (ZT.draws_sq (prog:=X.prog) (w:=X.w) (A:=X.A.in1) (I.ok.hd hc) b2 i2 a2 vs (e2 i2 (by simp))) ap t1 t2 t3 ⟨t4,p1⟩ ⟨t5,p2⟩ he' fun h' tk kp => ⟨rfl,?_⟩
    have keep : ∀ b o,b ∉ [z,TI,TO,i1,i2]→s.heap.get? b = some o→h'.get? b = some o:=fun b o hb q => by
      simp only [List.mem_cons,List.not_mem_nil,or_false,not_or] at hb
      exact kp b o hb.1 hb.2.2.1 hb.2.2.2.1 hb.2.2.2.2 q
    have trk : ∀ b o,H b = some o→b ∉ [z,TI,TO,i1,i2]:=fun b o q hb => by rw [(hf b hb).1] at q; cases q
    show Inv X pins σ _ { s with heap:=h',gens:=s.gens,drawn:=s.drawn,toks:=tk }
    refine I.step (h':=h') (g':=s.gens) (d':=s.drawn) (t':=tk) (ch:=[z,TI,TO,i1,i2]) (fun b hb => ?_) (fun b o _ _ hc q _ => keep b o hc q) (fun b o _ _ hc q _ => ⟨o.slots,keep b o hc q⟩)
        (fun b o _ q n => n) (fun b o hc q => ⟨o,keep b o hc q⟩) (fun b ys q => q) (fun b o u q => q)
        (fun b ps q => ⟨#[],by rw [q]; simp⟩) (fun m hm => ?_) (fun b o q => ?_) I.bare
    · obtain ⟨_,f1,_,f3,f4,f5⟩:=hf b hb
      exact ⟨f3,f1,f4,f5⟩
    · obtain ⟨o,es,ep,ho,r⟩:=hm
      exact ⟨o,es,ep,keep _ o (fun hb => (hf _ hb).2.1 rfl) ho,r⟩
    · refine (I.hok b o q).stay (fun c w hc r => keep c w ?_ r) (fun c r => r) fun c ys r => r
      rcases hc with rfl | hc
      · exact trk _ _ q
      · exact trk _ _ hc
  self:=fun _ _ _ _ _ st h => wpAny_pyIter_zip st.1 h
def iZip (ta : TA) : TI:=fun σ H R => ta σ H fun vs H1 => ∃ (b1 b2 : Bool) (a1 a2 : Addr),vs = [.ref a1,.ref a2]∧(∃ xs,SqH b1 H1 a1 xs)∧(∃ ys,SqH b2 H1 a2 ys)∧R (Itz b1 b2 a1 a2) H1
theorem pi_zip {X : Cx} {elts : List Expr} {x1} {tpos : Pos} {a b : Expr} {ta : TA} {p pos : Pos} (hg : Gl X "zip") (hm : X.mg "zip" = none) (ha : PA X [a,b] ta) (hs : starEach [a,b] X.env = [(false,eval a X.env),(false,eval b X.env)] := by rfl) (hs2 : starEach [b] X.env = [(false,eval b X.env)] := by rfl) :
    PI X (.Tuple elts x1 tpos) (.Call (.Name "zip" p) [a,b] [] pos) (iZip ta) := by
  intro pins s σ H R I h
  refine Call_ (ld_blt I hg hm boot_zip (PyProof.Rows.callWith_type1 (thn (ha pos pins s σ H _ I h) fun us s1 ⟨vs,H1,I1,r1,q1⟩ => ?_) (by rw [hs,hs2]) (by rw [hs2]; rfl)))
  obtain ⟨b1,b2,l1,l2,e,⟨xs,h1⟩,⟨ys,h2⟩,q⟩:=q1
  subst e
  cases r1 with
  | cons r rr =>
    cases rr with
    | cons r' rr =>
      cases rr
      cases r
      cases r'
      obtain ⟨us,_,p1⟩:=h1.raw I1
      obtain ⟨vs,_,p2⟩:=h2.raw I1
      refine ZT.call_zip p1 p2 fun h' z1 z2 z3 z4 z5 hk => wpAny_pyIter_zip z1 ?_
      have I2 : Inv X pins σ H1 { s1 with heap:=h' }:=I1.kept (t':=s1.toks) hk
      refine ⟨_,[s1.heap.objs.size + 4,s1.heap.objs.size + 2,s1.heap.objs.size + 3,s1.heap.objs.size,s1.heap.objs.size + 1],_,_,H1,rfl,I2,turn_zip ?_,⟨z1,z2,⟨_,_,z3⟩,z4,z5⟩,fun b hb => ?_,q⟩
      · simp
      have hb' : s1.heap.objs.size≤b := by
        have hb2 : b = s1.heap.objs.size + 4∨b = s1.heap.objs.size + 2∨b = s1.heap.objs.size + 3∨b = s1.heap.objs.size∨b = s1.heap.objs.size + 1 := by simpa using hb
        rcases hb2 with h | h | h | h | h <;> rw [h] <;> first | exact Nat.le_refl _ | exact Nat.le_add_right _ _
      exact I1.fpOk hb' (I1.hok.fresh hb')
def ItE (K : PySem.W.Frag) (a : Addr) : It :=
  ⟨fun i H => ∃ xs x,SqL K H a xs∧xs[i]? = some x,fun i H v H' => ∃ p x,v = .ref p∧H p = none∧H' = upd H p (.tup [.int i,x])∧∀ xs,SqL K H a xs→xs[i]? = some x,fun i H => ∃ xs,SqL K H a xs∧xs.length = i⟩
theorem turn_enumL {P : Program} {w : World} {K : PySem.W.Frag} {elts : List Expr} {x1} {pos : Pos} (a e it : Addr) (hne : e≠it) :
    Turn P w K (.Tuple elts x1 pos) (ItE K a) [e,it] e (fun i h => (∃ old,IsEnum h e it (i : Nat) old)∧h.IsListIter it a i) where
  mem := by simp
  obj:=fun i h st b hb => by
    rcases List.mem_cons.mp hb with rfl | hb
    · obtain ⟨⟨old,q⟩,_⟩:=st
      exact ⟨_,q,fun v z => by cases z⟩
    · have e2 : b = it := by simpa using hb
      subst e2
      obtain ⟨_,o,q,c,d⟩:=st
      exact ⟨o,q,fun v z => by rw [d] at z; cases z⟩
  keep:=fun i h h' st k => by
    obtain ⟨⟨old,q⟩,o,q2,r⟩:=st
    exact ⟨⟨old,k e (by simp) _ q⟩,o,k it (by simp) _ q2,r⟩
  item := by
    intro X hP hw hK hc i pins s σ H E I hf st hg
    subst hP hw hK
    obtain ⟨xs,x,hq,hx⟩:=hg
    obtain ⟨its,rv,pL,hz⟩:=I.list hq
    have p:=pL.isList
    obtain ⟨u,hu,ru⟩:=rv.get hx
    obtain ⟨⟨old,he⟩,hit⟩:=st
    have hai : a≠it:=fun z => by
      obtain ⟨o,e1,c1,_⟩:=p
      obtain ⟨o2,e2,c2,_⟩:=hit
      rw [z,e2] at e1; cases e1
      rw [c1] at c2; exact absurd c2 (by decide)
    have hae : a≠e:=fun z => by
      obtain ⟨o,e1,c1,_⟩:=p
      rw [z,he] at e1; cases e1
      exact absurd (show Value.type "enumerate" = Value.type "list" from c1) (by decide)
    have hlt : i < its.length:=(List.getElem?_eq_some_iff.mp hu).1
    have hE0:=hf e (by simp)
    have hI0:=hf it (by simp)
    refine wpAny_pyNext_enum_itemD (Draws.list (prog:=X.prog) (w:=X.w) (A:=X.A.in1) (I.ok.hd hc) it a hai its.toArray) he ⟨hit,p⟩ (by simpa using hlt) hne (by simp [hne,Ne.symm hae]) fun y h' tk hy ho hs' hT hsz hk => ⟨_,rfl,wpAny_letOwnedTupleGo_enum (s:={ s with heap:=h',toks:=tk + 1 }) ho fun h'' he'' sb => ?_⟩
    have hyu : y = u := by
      have hy : its[i]? = some y := by simpa using hy
      rw [hu] at hy; exact (Option.some.inj hy).symm
    subst hyu
    have keep : ∀ b o,b≠e→b≠it→s.heap.get? b = some o→h''.get? b = some o:=fun b o h1 h2 q => (sb.2 b h1).trans (hk b o h1 h2 q)
    have hTe : s.heap.objs.size≠e:=Nat.ne_of_gt (Heap.lt_size he)
    have hTi : s.heap.objs.size≠it:=let ⟨_,q,_⟩:=hit; Nat.ne_of_gt (Heap.lt_size q)
    have hT'' : h''.get? s.heap.objs.size = some { cls:=.type "tuple",data:=.seq #[.int i tk,y] }:=(sb.2 _ hTe).trans hT
    have hTn : H s.heap.objs.size = none:=I.hok.fresh (Nat.le_refl _)
    have neT : ∀ b o,s.heap.get? b = some o→b≠s.heap.objs.size:=fun b o q => Nat.ne_of_lt (Heap.lt_size q)
    have trk : ∀ b o,H b = some o→b≠e∧b≠it:=fun b o q => ⟨(fun z => by rw [z,hE0.1] at q; cases q),(fun z => by rw [z,hI0.1] at q; cases q)⟩
    refine ⟨.ref s.heap.objs.size,upd H s.heap.objs.size (.tup [.int i,x]),?_,rfl,⟨_,x,rfl,hTn,rfl,fun ys hy => by rw [I.list_inj hy hq]; exact hx⟩,⟨⟨_,by simpa using he''⟩,?_⟩,fun b hb => ?_⟩
    · show Inv X pins σ _ { s with heap:=h'',gens:=s.gens,drawn:=s.drawn,toks:=tk + 1 }
      refine I.step (h':=h'') (g':=s.gens) (d':=s.drawn) (t':=tk + 1) (ch:=[e,it]) (fun b hb => ?_) (fun b o _ _ hc q _ => keep b o (fun z => hc (by simp [z])) (fun z => hc (by simp [z])) q) (fun b o _ _ hc q _ => ⟨o.slots,keep b o (fun z => hc (by simp [z])) (fun z => hc (by simp [z])) q⟩)
        (fun b o _ q n => by rw [upd_ne (neT b o q)]; exact n) (fun b o hc q => ⟨o,keep b o (fun z => hc (by simp [z])) (fun z => hc (by simp [z])) q⟩) (fun b ys q => by rw [upd_ne (ne_of_none q hTn)]; exact q) (fun b o u q => by rw [upd_ne (ne_of_none q hTn)]; exact q)
        (fun b ps q => ⟨#[],by rw [upd_ne (ne_of_none q hTn),q]; simp⟩) (fun m hm => ?_) (fun b o q => ?_) I.bare
      · rcases List.mem_cons.mp hb with rfl | hb
        · exact ⟨hE0.2.2.2.1,hE0.2.1,hE0.2.2.2.2.1,hE0.2.2.2.2.2⟩
        · have e2 : b = it := by simpa using hb
          subst e2
          exact ⟨hI0.2.2.2.1,hI0.2.1,hI0.2.2.2.2.1,hI0.2.2.2.2.2⟩
      · obtain ⟨o,es,ep,ho,r⟩:=hm
        exact ⟨o,es,ep,keep _ o (Ne.symm hE0.2.1) (Ne.symm hI0.2.1) ho,r⟩
      · by_cases hb : b = s.heap.objs.size
        · subst hb
          rw [upd_same] at q
          cases q
          exact ⟨sz2,[.int i tk,y],.cons ⟨tk,rfl⟩ (.cons ru .nil),_,hT'',rfl,_,rfl⟩
        · rw [upd_ne hb] at q
          refine (I.hok b o q).stay (fun c v hc r => keep c v ?_ ?_ r) (fun c r => by rw [upd_ne (ne_of_none r hTn)]; exact r) fun c ys r => by rw [upd_ne (ne_of_none r hTn)]; exact r
          · rcases hc with rfl | hc
            · exact (trk _ _ q).1
            · exact (trk _ _ hc).1
          · rcases hc with rfl | hc
            · exact (trk _ _ q).2
            · exact (trk _ _ hc).2
    · obtain ⟨⟨o,q,r⟩,_⟩:=hs'
      exact ⟨o,(sb.2 it (Ne.symm hne)).trans q,r⟩
    · rcases List.mem_cons.mp hb with rfl | hb
      · rw [upd_ne (Ne.symm hTe)]; exact hE0.1
      · have e2 : b = it := by simpa using hb
        subst e2
        rw [upd_ne (Ne.symm hTi)]; exact hI0.1
  done := by
    intro X hP hw hK hc i pins s σ H E I hf st hg
    subst hP hw hK
    obtain ⟨xs,hq,hx⟩:=hg
    obtain ⟨its,rv,pL,hz⟩:=I.list hq
    have p:=pL.isList
    obtain ⟨⟨old,he⟩,hit⟩:=st
    have hai : a≠it:=fun z => by
      obtain ⟨o,e1,c1,_⟩:=p
      obtain ⟨o2,e2,c2,_⟩:=hit
      rw [z,e2] at e1; cases e1
      rw [c1] at c2; exact absurd c2 (by decide)
    have hl : its.length = i := by rw [← rv.length]; exact hx
    subst hl
    obtain ⟨f0,f1,f2,f3,f4,f5⟩:=hf it (by simp)
    exact wpAny_pyNext_enum_endD (Draws.list (prog:=X.prog) (w:=X.w) (A:=X.A.in1) (I.ok.hd hc) it a hai its.toArray) he ⟨hit,p⟩ fun h' eb => ⟨rfl,I.turned (t':=s.toks) (fun b o hb q => eb b o hb q) f0 f1 f3 f4 f5⟩
  self:=fun _ _ _ _ _ st h => by
    obtain ⟨⟨old,he⟩,_⟩:=st
    exact wpAny_pyIter_enum he h
def iEnumL (K : PySem.W.Frag) (ta : TA) : TI:=fun σ H R => ta σ H fun vs H1 => ∃ a,vs = [.ref a]∧(∃ xs,SqL K H1 a xs)∧R (ItE K a) H1
theorem pi_enumL {X : Cx} {elts : List Expr} {x1} {tpos : Pos} {a : Expr} {ta : TA} {p pos : Pos} (hg : Gl X "enumerate") (hm : X.mg "enumerate" = none) (ha : PA X [a] ta) (hs : starEach [a] X.env = [(false,eval a X.env)] := by rfl) :
    PI X (.Tuple elts x1 tpos) (.Call (.Name "enumerate" p) [a] [] pos) (iEnumL X.K ta) := by
  intro pins s σ H R I h
  refine Call_ (ld_blt I hg hm boot_enumerate (PyProof.Rows.callWith_type1 (thn (ha pos pins s σ H _ I h) fun us s1 ⟨vs,H1,I1,r1,q1⟩ => ?_) hs rfl))
  obtain ⟨t,e,⟨xs,hq⟩,q⟩:=q1
  subst e
  cases r1 with
  | cons r rr =>
    cases rr
    cases r
    obtain ⟨its,rv,p',hz⟩:=I1.list hq
    refine call_enumerate_list (show s1.heap.IsList t its.toArray from p'.isList) fun h' he hit hsz hk => wpAny_pyIter_enum he ?_
    have I2 : Inv X pins σ H1 { s1 with heap:=h' }:=I1.kept (t':=s1.toks) hk
    have hn : s1.heap.objs.size + 1≠s1.heap.objs.size := by omega
    refine ⟨s1.heap.objs.size + 1,[s1.heap.objs.size + 1,s1.heap.objs.size],_,_,H1,rfl,I2,turn_enumL t _ _ hn,⟨⟨_,he⟩,hit⟩,fun b hb => ?_,q⟩
    have hb' : s1.heap.objs.size≤b := by
      have hb2 : b = s1.heap.objs.size + 1∨b = s1.heap.objs.size := by simpa using hb
      rcases hb2 with z | z
      · rw [z]; exact Nat.le_succ _
      · rw [z]; exact Nat.le_refl _
    exact I1.fpOk hb' (I1.hok.fresh hb')
theorem for_enumL {K : PySem.W.Frag} {a : Addr} {xs : List V} {g : TG} {tb : TS} {D : Ends} {σ : St} {H : Hp} (Pv : Nat→St→Hp→Prop) (h0 : Pv 0 σ H) (hl : ∀ i σ H,i≤xs.length→Pv i σ H→SqL K H a xs)
    (hs : ∀ i x σ H,xs[i]? = some x→Pv i σ H→∀ p,H p = none→g (.ref p) σ (upd H p (.tup [.int (i : Nat),x])) fun σ2 H2 => tb { D with nx:=Pv (i + 1),ct:=Pv (i + 1),bk:=D.nx } σ2 H2) (hd : ∀ σ H,Pv xs.length σ H→D.nx σ H) :
    ∃ W : Nat→Nat→St→Hp→Prop,(∃ m,W 0 m σ H)∧∀ i m σ H,W i m σ H →
      ((ItE K a).stop i H∧D.nx σ H)∨((ItE K a).go i H∧∃ N : St→Hp→Prop,(∀ σ' H',N σ' H'→∃ m',m' < m∧W (i + 1) m' σ' H')∧∀ x H',(ItE K a).yld i H x H'→g x σ H' fun σ2 H2 => tb { D with nx:=N,ct:=N,bk:=D.nx } σ2 H2) := by
  refine ⟨fun i m σ H => m = xs.length - i∧i≤xs.length∧Pv i σ H,⟨xs.length,by simp,Nat.zero_le _,h0⟩,?_⟩
  rintro i m σ H ⟨rfl,hi,p⟩
  have q:=hl i σ H hi p
  by_cases hlt : i < xs.length
  · refine .inr ⟨⟨xs,xs[i],q,by simp [hlt]⟩,Pv (i + 1),fun σ' H' p' => ⟨xs.length - (i + 1),by omega,rfl,hlt,p'⟩,fun x H' y => ?_⟩
    obtain ⟨pp,x',rfl,hn,rfl,y⟩:=y
    exact hs i x' σ _ (y xs q) p pp hn
  · have e : i = xs.length := by omega
    subst e
    exact .inl ⟨⟨xs,q,rfl⟩,hd σ H p⟩
section
variable {X : Cx} {scope : Scope} {cl : List (Str×Addr)} {N : List Str} {C : Addr} {s₀ : Shared} {H₀ : Hp} {fp : List Addr}
theorem call_list_ofC : CallR (cxComp X scope cl N C s₀ H₀ fp) (.type "list") (fun xs H Q => ∃ p ys,xs = [.ref p]∧(SqL X.K H p ys∨SqT X.K H p ys)∧∀ l,H l = none→Q (.ref l) (upd H l (.lst ys))):=call_list_of
end
end L2
namespace L2
open PySem PySem.Spec PyProof.Rows
section
variable {X : Cx}
theorem call_sumT (hc : X.calm = true) : CallR X (.builtin "sum") (fun xs H Q => ∃ (p : Addr) (ns : List Int),xs = [.ref p]∧SqT X.K H p (ns.map V.int)∧Q (.int ns.sum) H) := by
  intro pins s σ H xs us Q I r h
  obtain ⟨p,ns,rfl,hq,q⟩:=h
  obtain ⟨u,rfl,r1⟩:=r.one
  cases r1
  obtain ⟨its,rv,pl,hz⟩:=I.tuple hq
  have hi:=intsAre_of rv
  obtain ⟨xs,hx⟩:=hi.allInts.items
  have hl' : s.heap.IsTuple p (intItems xs):=hx ▸ pl
  have hlt : p < s.heap.objs.size := by obtain ⟨_,e,_⟩:=hl'; exact Heap.lt_size e
  have e1 : ns = xs.toList.map (·.1) := by
    rw [← nums_intItems,← hx]
    exact (show numsOf its.toArray.toList = ns from hi.numsOf).symm
  have e2 : preSum (numAt xs) xs.size = ns.sum := by
    rw [preSum_eq,List.take_of_length_le (by simp),e1]
  refine call_sum_walkG (wpAny_pyIter_tuple hl' ?_)
  refine ⟨_,[_,p],[_],_,_,_,numAt xs,rfl,Walks.tuple (A:=X.A.in1) (I.ok.hd hc) _ p (Nat.ne_of_lt hlt) (intItems xs),
    ⟨⟨_,Heap.get?_push_size _ rfl,rfl,rfl⟩,hl'.push _⟩,fun c hcc => ?_,(fun _ _ => intItems_at),fun h' tk t' hk => ?_⟩
  · show c < (s.heap.push _).objs.size
    rw [Heap.size_push]
    rcases List.mem_cons.mp hcc with rfl | hcc
    · exact Nat.lt_succ_self _
    · rw [List.mem_singleton.mp hcc]
      exact Nat.lt_succ_of_lt hlt
  · have e3 : preSum (numAt xs) (intItems xs).size = ns.sum := by
      rw [← e2]
      simp [intItems]
    rw [e3]
    exact ⟨.int _,H,I.kept (t':=tk) (PyProof.Rows.LSm.kept_iter hk),⟨t',rfl⟩,q⟩
end
end L2
set_option maxHeartbeats 1000000
namespace L2
open PySem PySem.Spec PyProof.Rows
theorem Rd.same {H H' : Hp} {a : Addr} {u : HO} (e : Same H H') (h : Rd H a u) : Rd H' a u := by
  rcases h with h | ⟨o,h⟩
  · exact .inl (e _ _ h)
  · exact .inr ⟨o,e _ _ h⟩
mutual
def Du (H : Hp) : PyData→V→Prop
  | .none,v => v = .non
  | .bool b,v => v = .bl b
  | .int i,v => v = .int i
  | .str x,v => v = .str x
  | .tuple ds,v => ∃ a xs,v = .ref a∧H a = some (.tup xs)∧DuA H ds xs
  | .list ds,v => ∃ a xs,v = .ref a∧H a = some (.lst xs)∧DuA H ds xs
  | .dict kv,v => (∃ ea C : Addr,kv = [(.int (C : Nat),.none)]∧v = .ref ea∧H ea = some (excO ea (.ref C)))∨∃ (a : Addr) (ns : List Int),kv = [(.none,.list (ns.map .int))]∧v = .ref a∧Rd H a (.lst (ns.map V.int))
def DuA (H : Hp) : List PyData→List V→Prop
  | [],xs => xs = []
  | d :: ds,xs => ∃ x r,xs = x :: r∧Du H d x∧DuA H ds r
end
mutual
theorem Du.same {H H' : Hp} (e : Same H H') : ∀ {d : PyData} {v : V},Du H d v→Du H' d v
  | .none,_,h => by rw [Du] at h ⊢; exact h
  | .bool _,_,h => by rw [Du] at h ⊢; exact h
  | .int _,_,h => by rw [Du] at h ⊢; exact h
  | .str _,_,h => by rw [Du] at h ⊢; exact h
  | .tuple _,_,h => by
    rw [Du] at h ⊢
    obtain ⟨a,xs,e1,h1,h2⟩:=h
    exact ⟨a,xs,e1,e _ _ h1,DuA.same e h2⟩
  | .list _,_,h => by
    rw [Du] at h ⊢
    obtain ⟨a,xs,e1,h1,h2⟩:=h
    exact ⟨a,xs,e1,e _ _ h1,DuA.same e h2⟩
  | .dict _,_,h => by
    rw [Du] at h ⊢
    rcases h with ⟨ea,C,e1,e2,h1⟩ | ⟨a,ns,e1,e2,h1⟩
    · exact .inl ⟨ea,C,e1,e2,e _ _ h1⟩
    · exact .inr ⟨a,ns,e1,e2,h1.same e⟩
theorem DuA.same {H H' : Hp} (e : Same H H') : ∀ {ds : List PyData} {xs : List V},DuA H ds xs→DuA H' ds xs
  | [],_,h => by rw [DuA] at h ⊢; exact h
  | _ :: _,_,h => by
    rw [DuA] at h ⊢
    obtain ⟨x,r,e1,h1,h2⟩:=h
    exact ⟨x,r,e1,Du.same e h1,DuA.same e h2⟩
end
mutual
theorem Du.br {K : PySem.W.Frag} {H : Hp} : ∀ {d : PyData} {v : V},d.canLay0 = true→Du H d v→Br K H d v
  | .none,_,_,h => by rw [Du] at h; rw [Br]; exact h
  | .bool _,_,_,h => by rw [Du] at h; rw [Br]; exact h
  | .int _,_,_,h => by rw [Du] at h; rw [Br]; exact h
  | .str _,_,_,h => by rw [Du] at h; rw [Br]; exact h
  | .tuple _,_,c,h => by
    rw [Du] at h; rw [Br]
    obtain ⟨a,xs,e1,h1,h2⟩:=h
    exact ⟨a,xs,e1,SqT.of h1,DuA.br (by simp only [PyData.canLay0,Bool.and_eq_true] at c; first | exact c | exact c.2 | exact c.1) h2⟩
  | .list _,_,c,h => by
    rw [Du] at h; rw [Br]
    obtain ⟨a,xs,e1,h1,h2⟩:=h
    exact ⟨a,xs,e1,SqL.of h1,DuA.br (by simp only [PyData.canLay0,Bool.and_eq_true] at c; first | exact c | exact c.2 | exact c.1) h2⟩
  | .dict _,_,c,h => by simp [PyData.canLay0] at c
theorem DuA.br {K : PySem.W.Frag} {H : Hp} : ∀ {ds : List PyData} {xs : List V},PyData.canLayAll0 ds = true→DuA H ds xs→BrAll K H ds xs
  | [],_,_,h => by rw [DuA] at h; rw [BrAll]; exact h
  | _ :: _,_,c,h => by
    rw [DuA] at h; rw [BrAll]
    obtain ⟨x,r,e1,h1,h2⟩:=h
    simp only [PyData.canLayAll0,Bool.and_eq_true] at c
    exact ⟨x,r,e1,Du.br c.1 h1,DuA.br c.2 h2⟩
end
theorem DuA.nil {H : Hp} : DuA H [] [] := by rw [DuA]
theorem DuA.cons {H : Hp} {d : PyData} {ds : List PyData} {x : V} {xs : List V} (h : Du H d x) (k : DuA H ds xs) : DuA H (d :: ds) (x :: xs) := by rw [DuA]; exact ⟨x,xs,rfl,h,k⟩
theorem DuA.un {H : Hp} {d : PyData} {ds : List PyData} {xs : List V} (h : DuA H (d :: ds) xs) : ∃ x r,xs = x :: r∧Du H d x∧DuA H ds r := by rw [DuA] at h; exact h
theorem DuA.nil_eq {H : Hp} {xs : List V} (h : DuA H [] xs) : xs = [] := by rw [DuA] at h; exact h
theorem DuA.len {H : Hp} : ∀ {ds : List PyData} {xs : List V},DuA H ds xs→xs.length = ds.length
  | [],_,h => by rw [h.nil_eq]; rfl
  | _ :: _,_,h => by obtain ⟨x,r,rfl,_,h2⟩:=h.un; simp [h2.len]
theorem DuA.get {H : Hp} : ∀ {ds : List PyData} {xs : List V} {i : Nat} {d : PyData},DuA H ds xs→ds[i]? = some d→∃ v,xs[i]? = some v∧Du H d v
  | [],_,i,_,_,e => by simp at e
  | _ :: _,_,0,_,h,e => by
    obtain ⟨x,r,rfl,h1,_⟩:=h.un
    simp at e; subst e
    exact ⟨x,rfl,h1⟩
  | _ :: _,_,i + 1,_,h,e => by
    obtain ⟨x,r,rfl,_,h2⟩:=h.un
    obtain ⟨v,k1,k2⟩:=h2.get (i:=i) (by simpa using e)
    exact ⟨v,by simpa using k1,k2⟩
theorem DuA.back {H : Hp} {ds : List PyData} {xs : List V} {i : Nat} {v : V} (h : DuA H ds xs) (e : xs[i]? = some v) : ∃ d,ds[i]? = some d∧Du H d v := by
  have hl:=h.len
  have hi : i < ds.length := by rw [← hl]; exact (List.getElem?_eq_some_iff.mp e).1
  have hd : ds[i]? = some ds[i] := by simp [hi]
  obtain ⟨w,k1,k2⟩:=h.get hd
  rw [e] at k1; cases k1
  exact ⟨_,hd,k2⟩
theorem DuA.app {H : Hp} : ∀ {ds es : List PyData} {xs ys : List V},DuA H ds xs→DuA H es ys→DuA H (ds ++ es) (xs ++ ys)
  | [],_,_,_,h,k => by rw [h.nil_eq]; exact k
  | _ :: _,_,_,_,h,k => by obtain ⟨x,r,rfl,h1,h2⟩:=h.un; exact .cons h1 (h2.app k)
theorem DuA.take {H : Hp} : ∀ {ds : List PyData} {xs : List V} (i : Nat),DuA H ds xs→DuA H (ds.take i) (xs.take i)
  | _,_,0,_ => by rw [List.take_zero,List.take_zero]; exact .nil
  | [],_,i + 1,h => by rw [h.nil_eq]; exact .nil
  | _ :: _,_,i + 1,h => by obtain ⟨x,r,rfl,h1,h2⟩:=h.un; exact .cons h1 (h2.take i)
theorem DuA.drop {H : Hp} : ∀ {ds : List PyData} {xs : List V} (i : Nat),DuA H ds xs→DuA H (ds.drop i) (xs.drop i)
  | _,_,0,h => h
  | [],_,i + 1,h => by rw [h.nil_eq]; exact .nil
  | _ :: _,_,i + 1,h => by obtain ⟨x,r,rfl,h1,h2⟩:=h.un; exact h2.drop i
inductive Oc where
  | lst (xs : List PyData) | dic (kvs : List (List Key×PyData))
inductive L where
  | no | d (x : PyData) | own (c : Oc)
abbrev Dv:=List L
def KvOk (G : Hp) : List (List Key×PyData)→List (List Key×V)→Prop
  | [],r => r = []
  | q :: t,r => ∃ v r',r = (q.1,v) :: r'∧Du G q.2 v∧KvOk G t r'
theorem KvOk.same {G G' : Hp} (e : Same G G') : ∀ {t : List (List Key×PyData)} {r : List (List Key×V)},KvOk G t r→KvOk G' t r
  | [],r,h => h
  | q :: t,r,h => by
    obtain ⟨v,r',rfl,h1,h2⟩:=h
    exact ⟨v,r',rfl,h1.same e,KvOk.same e h2⟩
def OcOk (G : Hp) : Oc→HO→Prop
  | .lst xs,o => ∃ ys,o = .lst ys∧DuA G xs ys
  | .dic kvs,o => ∃ r,o = .dT r∧KvOk G kvs r
theorem OcOk.same {G G' : Hp} {c : Oc} {o : HO} (h : OcOk G c o) (e : Same G G') : OcOk G' c o := by
  cases c with
  | lst xs => obtain ⟨ys,h1,h2⟩:=h; exact ⟨ys,h1,h2.same e⟩
  | dic kvs => obtain ⟨ys,h1,h2⟩:=h; exact ⟨ys,h1,h2.same e⟩
theorem OcOk.ntup {G : Hp} {c : Oc} {xs : List V} (h : OcOk G c (.tup xs)) : False := by
  cases c with
  | lst xs => obtain ⟨ys,h1,h2⟩:=h; cases h1
  | dic kvs => obtain ⟨ys,h1,h2⟩:=h; cases h1
def Nw (G0 H0 G : Hp) : Prop:=∀ a o,G a = some o→G0 a = some o∨H0 a = none∨∃ xs,o = HO.tup xs
structure Rw (G0 H0 G H : Hp) (σ : St) (δ : Dv) (ts : List (PyData×V)) : Prop where
  ext : Same G0 G
  new : Nw G0 H0 G
  ins : Same G H
  keep : Same H0 H
  len : σ.length = δ.length
  dat : ∀ (i : Nat) (x : PyData),δ[i]? = some (L.d x)→∃ v,σ[i]? = some (some v)∧Du G x v
  own : ∀ (i : Nat) (xs : Oc),δ[i]? = some (L.own xs)→∃ (a : Addr) (ys : HO),σ[i]? = some (some (V.ref a))∧G a = none∧H0 a = none∧H a = some ys∧OcOk G xs ys
  apart : ∀ (i j : Nat) (xs ys : Oc),i≠j→δ[i]? = some (L.own xs)→δ[j]? = some (L.own ys)→σ[i]?≠σ[j]?
  tmp : ∀ p∈ts,Du G p.1 p.2
def DE (X : Cx) (e : Expr) (f : Dv→Option PyData) : Prop:=∃ t,PE X e t∧∀ δ x,f δ = some x→∀ G0 H0 G H σ ts (Q : VK),Rw G0 H0 G H σ δ ts→(∀ v G' H',Rw G0 H0 G' H' σ δ ((x,v) :: ts)→Q v H')→t σ H Q
def DA (X : Cx) (es : List Expr) (f : Dv→Option (List PyData)) : Prop:=∃ t,PA X es t∧∀ δ xs,f δ = some xs→∀ G0 H0 G H σ ts (Q : List V→Hp→Prop),Rw G0 H0 G H σ δ ts→(∀ vs G' H',Rw G0 H0 G' H' σ δ (xs.zip vs ++ ts)→vs.length = xs.length→Q vs H')→t σ H Q
def DT (X : Cx) (e : Expr) (f : Dv→Option Bool) : Prop:=∃ t,PT X e t∧∀ δ b,f δ = some b→∀ G0 H0 G H σ ts (Q : Bool→Hp→Prop),Rw G0 H0 G H σ δ ts→(∀ G' H',Rw G0 H0 G' H' σ δ ts→Q b H')→t σ H Q
section
variable {G0 H0 G H : Hp} {σ : St} {δ : Dv} {ts : List (PyData×V)}
theorem Rw.drop {p : PyData×V} (r : Rw G0 H0 G H σ δ (p :: ts)) : Rw G0 H0 G H σ δ ts:={ r with tmp:=fun q hq => r.tmp q (.tail _ hq) }
theorem Rw.less {us : List (PyData×V)} (r : Rw G0 H0 G H σ δ ts) (h : ∀ p∈us,p∈ts) : Rw G0 H0 G H σ δ us:={ r with tmp:=fun q hq => r.tmp q (h q hq) }
theorem Rw.put {x : PyData} {v : V} (r : Rw G0 H0 G H σ δ ts) (h : Du G x v) : Rw G0 H0 G H σ δ ((x,v) :: ts):={ r with tmp:=fun q hq => by rcases List.mem_cons.mp hq with rfl | hq; exact h; exact r.tmp q hq }
theorem Rw.newObj {p : Addr} {o : HO} (r : Rw G0 H0 G H σ δ ts) (hp : H p = none) : Rw G0 H0 (upd G p o) (upd H p o) σ δ ts := by
  have hG : G p = none := by
    cases q : G p with
    | none => rfl
    | some u => rw [r.ins _ _ q] at hp; cases hp
  have h0 : H0 p = none := by
    cases q : H0 p with
    | none => rfl
    | some u => rw [r.keep _ _ q] at hp; cases hp
  have e : Same G (upd G p o):=same_new hG o
  refine ⟨r.ext.trans e,fun a u h => ?_,fun a u h => ?_,r.keep.trans (same_new hp o),r.len,fun i x h => ?_,fun i xs h => ?_,r.apart,fun q hq => (r.tmp q hq).same e⟩
  · by_cases ha : a = p
    · subst ha; exact .inr (.inl h0)
    · rw [upd_ne ha] at h; exact r.new _ _ h
  · by_cases ha : a = p
    · subst ha; rw [upd_same] at h ⊢; exact h
    · rw [upd_ne ha] at h ⊢; exact r.ins _ _ h
  · obtain ⟨v,k1,k2⟩:=r.dat i x h
    exact ⟨v,k1,k2.same e⟩
  · obtain ⟨a,ys,k1,k2,k3,k4,k5⟩:=r.own i xs h
    have ha : a≠p:=fun z => by subst z; rw [k4] at hp; cases hp
    exact ⟨a,ys,k1,by rw [upd_ne ha]; exact k2,k3,by rw [upd_ne ha]; exact k4,k5.same e⟩
theorem Rw.anyTup {p : Addr} {xs : List V} {H' : Hp} (r : Rw G0 H0 G H σ δ ts) (e : Same H H') (hp : H' p = some (.tup xs)) : Rw G0 H0 (upd G p (.tup xs)) H' σ δ ts := by
  have e1 : Same G (upd G p (.tup xs)):=fun a o h => by
    by_cases ha : a = p
    · subst ha
      have:=e _ _ (r.ins _ _ h)
      rw [hp] at this; rw [upd_same]; exact this
    · rw [upd_ne ha]; exact h
  refine ⟨r.ext.trans e1,fun a u h => ?_,fun a u h => ?_,r.keep.trans e,r.len,fun i x h => ?_,fun i xs h => ?_,r.apart,fun q hq => (r.tmp q hq).same e1⟩
  · by_cases ha : a = p
    · subst ha; rw [upd_same] at h; cases h; exact .inr (.inr ⟨_,rfl⟩)
    · rw [upd_ne ha] at h; exact r.new _ _ h
  · by_cases ha : a = p
    · subst ha; rw [upd_same] at h; rw [hp]; exact h
    · rw [upd_ne ha] at h; exact e _ _ (r.ins _ _ h)
  · obtain ⟨v,k1,k2⟩:=r.dat i x h
    exact ⟨v,k1,k2.same e1⟩
  · obtain ⟨a,ys,k1,k2,k3,k4,k5⟩:=r.own i xs h
    have ha : a≠p:=fun z => by subst z; rw [e _ _ k4] at hp; cases hp; exact k5.ntup
    exact ⟨a,ys,k1,by rw [upd_ne ha]; exact k2,k3,e _ _ k4,k5.same e1⟩
theorem Rw.lift {G' H' : Hp} (r : Rw G0 H0 G H σ δ ts) (h1 : Same G G') (h2 : Nw G H G') (h3 : Same G' H') (h4 : Same H H') : Rw G0 H0 G' H' σ δ ts := by
  refine ⟨r.ext.trans h1,fun a o h => ?_,h3,r.keep.trans h4,r.len,fun i x h => ?_,fun i xs h => ?_,r.apart,fun q hq => (r.tmp q hq).same h1⟩
  · rcases h2 a o h with k | k | k
    · exact r.new a o k
    · right; left
      cases q : H0 a with
      | none => rfl
      | some u => rw [r.keep _ _ q] at k; cases k
    · exact .inr (.inr k)
  · obtain ⟨v,k1,k2⟩:=r.dat i x h
    exact ⟨v,k1,k2.same h1⟩
  · obtain ⟨a,ys,k1,k2,k3,k4,k5⟩:=r.own i xs h
    refine ⟨a,ys,k1,?_,k3,h4 _ _ k4,k5.same h1⟩
    cases q : G' a with
    | none => rfl
    | some u =>
      rcases h2 a u q with z | z | ⟨xs',z⟩
      · rw [k2] at z; cases z
      · rw [k4] at z; cases z
      · have:=h3 _ _ q
        rw [h4 _ _ k4,z] at this; cases this; exact k5.ntup.elim
end
section
variable {X : Cx} {a b c e : Expr} {es : List Expr} {f g h : Dv→Option PyData} {pos : Pos}
theorem de_int {i j pos} : DE X (.Constant (.int i) j pos) (fun _ => some (.int i)):=⟨_,pe_int,fun δ x h G0 H0 G H σ ts Q r k => by cases h; exact k _ _ _ (r.put (by rw [Du]))⟩
theorem de_bl {i j pos} : DE X (.Constant (.bool i) j pos) (fun _ => some (.bool i)):=⟨_,pe_bl,fun δ x h G0 H0 G H σ ts Q r k => by cases h; exact k _ _ _ (r.put (by rw [Du]))⟩
theorem de_non {j pos} : DE X (.Constant .none j pos) (fun _ => some .none):=⟨_,pe_non,fun δ x h G0 H0 G H σ ts Q r k => by cases h; exact k _ _ _ (r.put (by rw [Du]))⟩
theorem de_str {i j pos} : DE X (.Constant (.str i) j pos) (fun _ => some (.str i)):=⟨_,pe_str,fun δ x h G0 H0 G H σ ts Q r k => by cases h; exact k _ _ _ (r.put (by rw [Du]))⟩
def nm (i : Nat) (δ : Dv) : Option PyData:=match δ[i]? with | some (.d x) => some x | _ => none
theorem nm_eq {i : Nat} {δ : Dv} {x : PyData} (h : nm i δ = some x) : δ[i]? = some (.d x) := by
  unfold nm at h
  split at h
  · rename_i y e; cases h; exact e
  · cases h
theorem de_var {i : Nat} {x : Str} (h : PE X (.Name x pos) (tVar i)) : DE X (.Name x pos) (nm i):=⟨_,h,fun δ y hy G0 H0 G H σ ts Q r k => by
  obtain ⟨v,h1,h2⟩:=r.dat _ _ (nm_eq hy)
  exact ⟨v,h1,k _ _ _ (r.put h2)⟩⟩
def op2 (o : PyData→PyData→Option PyData) (f g : Dv→Option PyData) (δ : Dv) : Option PyData:=(f δ).bind fun x => (g δ).bind fun y => o x y
def DOp (X : Cx) (m : Value→Value→Sem Value) (o : PyData→PyData→Option PyData) : Prop:=∃ r : R2,OpR X m r∧∀ x y z,o x y = some z→∀ G0 H0 G H σ δ ts u v (Q : VK),Rw G0 H0 G H σ δ ts→Du G x u→Du G y v→(∀ w G' H',Rw G0 H0 G' H' σ δ ((z,w) :: ts)→Q w H')→r u v H Q
theorem two {x y : PyData} {f g : Dv→Option PyData} {δ : Dv} {o : PyData→PyData→Option PyData} {z : PyData} (h : op2 o f g δ = some z) : ∃ x y,f δ = some x∧g δ = some y∧o x y = some z := by
  unfold op2 at h
  obtain ⟨x,h1,h2⟩:=Option.bind_eq_some_iff.mp h
  obtain ⟨y,h3,h4⟩:=Option.bind_eq_some_iff.mp h2
  exact ⟨x,y,h1,h3,h4⟩
theorem de_op {op : Operator} {o : PyData→PyData→Option PyData} (ho : DOp X (binaryOp op) o) (ha : DE X a f) (hb : DE X b g) : DE X (.BinOp a op b pos) (op2 o f g) := by
  obtain ⟨r,hr,kr⟩:=ho
  obtain ⟨ta,pa,ka⟩:=ha
  obtain ⟨tb,pb,kb⟩:=hb
  refine ⟨_,pe_op hr pa pb,fun δ z hz G0 H0 G H σ ts Q R0 k => ?_⟩
  obtain ⟨x,y,h1,h2,h3⟩:=two (x:=.none) (y:=.none) hz
  refine ka δ x h1 G0 H0 G H σ ts _ R0 fun u G1 H1 R1 => ?_
  refine kb δ y h2 G0 H0 G1 H1 σ _ _ R1 fun v G2 H2 R2 => ?_
  exact kr x y z h3 G0 H0 G2 H2 σ δ ts u v Q (R2.drop.drop) (R2.tmp (x,u) (.tail _ (.head _))) (R2.tmp (y,v) (.head _)) k
theorem de_cmp {op : CmpOp} {o : PyData→PyData→Option PyData} (ho : DOp X (compareOp op) o) (ha : DE X a f) (hb : DE X b g) (hm : behindInMarks op b = false) : DE X (.Compare a [op] [b] pos) (op2 o f g) := by
  obtain ⟨r,hr,kr⟩:=ho
  obtain ⟨ta,pa,ka⟩:=ha
  obtain ⟨tb,pb,kb⟩:=hb
  refine ⟨_,pe_cmpR hr pa pb hm,fun δ z hz G0 H0 G H σ ts Q R0 k => ?_⟩
  obtain ⟨x,y,h1,h2,h3⟩:=two (x:=.none) (y:=.none) hz
  refine ka δ x h1 G0 H0 G H σ ts _ R0 fun u G1 H1 R1 => ?_
  refine kb δ y h2 G0 H0 G1 H1 σ _ _ R1 fun v G2 H2 R2 => ?_
  exact kr x y z h3 G0 H0 G2 H2 σ δ ts u v Q (R2.drop.drop) (R2.tmp (x,u) (.tail _ (.head _))) (R2.tmp (y,v) (.head _)) k
end
section
variable {X : Cx}
def orD (o o' : PyData→PyData→Option PyData) (x y : PyData) : Option PyData:=match o x y with | some z => some z | none => o' x y
theorem DOp.or {m : Value→Value→Sem Value} {o o' : PyData→PyData→Option PyData} (h : DOp X m o) (h' : DOp X m o') : DOp X m (orD o o') := by
  obtain ⟨r,hr,kr⟩:=h
  obtain ⟨r',hr',kr'⟩:=h'
  refine ⟨_,OpR.or hr hr',fun x y z hz G0 H0 G H σ δ ts u v Q R0 du dv k => ?_⟩
  unfold orD at hz
  split at hz
  · rename_i z' e
    cases hz
    exact .inl (kr x y z e G0 H0 G H σ δ ts u v Q R0 du dv k)
  · exact .inr (kr' x y z hz G0 H0 G H σ δ ts u v Q R0 du dv k)
theorem dop_int {m : Value→Value→Sem Value} {C : Int→Int→Prop} {gv : Int→Int→V} {o : Int→Int→Option PyData} (ho : OpR X m (rI C gv)) (hC : ∀ i j z,o i j = some z→C i j∧∀ H,Du H z (gv i j)) :
    DOp X m (fun x y => match x,y with | .int i,.int j => o i j | _,_ => none) := by
  refine ⟨_,ho,fun x y z hz G0 H0 G H σ δ ts u v Q R0 du dv k => ?_⟩
  dsimp only at hz
  split at hz
  · rename_i i j
    rw [Du] at du dv
    obtain ⟨h1,h2⟩:=hC i j z hz
    exact ⟨i,j,du,dv,h1,k _ _ _ (R0.put (h2 _))⟩
  · cases hz
theorem dop_int0 {m : Value→Value→Sem Value} {gv : Int→Int→V} {o : Int→Int→PyData} (ho : OpR X m (rI0 gv)) (hC : ∀ i j H,Du H (o i j) (gv i j)) :
    DOp X m (fun x y => match x,y with | .int i,.int j => some (o i j) | _,_ => none) := by
  refine ⟨_,ho,fun x y z hz G0 H0 G H σ δ ts u v Q R0 du dv k => ?_⟩
  dsimp only at hz
  split at hz
  · rename_i i j
    cases hz
    rw [Du] at du dv
    exact ⟨i,j,du,dv,k _ _ _ (R0.put (hC _ _ _))⟩
  · cases hz
def dMax : Nat:=1000
theorem dMax_lt {n : Nat} (h : n≤dMax) : n < sizeLine:=small1000 h
theorem dMax_le {n : Nat} (h : n≤dMax) : n≤sizeLine:=Nat.le_of_lt (small1000 h)
def iAdd : PyData→PyData→Option PyData:=fun x y => match x,y with | .int i,.int j => some (.int (i + j)) | _,_ => none
def iSub : PyData→PyData→Option PyData:=fun x y => match x,y with | .int i,.int j => some (.int (i - j)) | _,_ => none
def fitI (n : Nat) (i : Int) : Bool:=decide (i.natAbs < 2 ^ n)
def mulOk (i j : Int) : Bool:=fitI 64 i || fitI 64 j || (fitI 9000 i && fitI 9000 j)
def iMul : PyData→PyData→Option PyData:=fun x y => match x,y with | .int i,.int j => (if mulOk i j = true then some (.int (i * j)) else none) | _,_ => none
def iDiv : PyData→PyData→Option PyData:=fun x y => match x,y with | .int i,.int j => (if j≠0∧fitI 9000 j = true then some (.int (i.fdiv j)) else none) | _,_ => none
def iMod : PyData→PyData→Option PyData:=fun x y => match x,y with | .int i,.int j => (if j≠0 then some (.int (i.fmod j)) else none) | _,_ => none
def iPow : PyData→PyData→Option PyData:=fun x y => match x,y with | .int i,.int j => (if 0≤j∧j≤1000∧fitI 64 i = true then some (.int (i ^ j.toNat)) else none) | _,_ => none
theorem do_iAdd : DOp X (binaryOp .Add) iAdd:=dop_int0 op_add fun _ _ _ => by rw [Du]
theorem do_iSub : DOp X (binaryOp .Sub) iSub:=dop_int0 op_sub fun _ _ _ => by rw [Du]
theorem fit64 {i : Int} (h : fitI 64 i = true) : -(2 ^ 64) < i∧i < 2 ^ 64 := by
  have:=of_decide_eq_true h
  omega
theorem do_iMul : DOp X (binaryOp .Mult) iMul:=dop_int (o:=fun i j => if mulOk i j = true then some (.int (i * j)) else none) op_mulW fun i j z h => by
  split at h
  · rename_i q
    cases h
    refine ⟨?_,fun _ => by rw [Du]⟩
    unfold mulOk at q
    rw [Bool.or_eq_true,Bool.or_eq_true,Bool.and_eq_true] at q
    rcases q with (q | q) | q
    · exact .inl (.inl (fit64 q))
    · exact .inl (.inr (fit64 q))
    · exact .inr ⟨9000,by decide,of_decide_eq_true q.1,of_decide_eq_true q.2⟩
  · cases h
theorem do_iDiv : DOp X (binaryOp .FloorDiv) iDiv:=dop_int (o:=fun i j => if j≠0∧fitI 9000 j = true then some (.int (i.fdiv j)) else none) op_fdivW fun i j z h => by
  split at h
  · rename_i q
    cases h
    exact ⟨⟨q.1,9000,Nat.le_refl _,of_decide_eq_true q.2⟩,fun _ => by rw [Du]⟩
  · cases h
theorem do_iMod : DOp X (binaryOp .Mod) iMod:=dop_int (o:=fun i j => if j≠0 then some (.int (i.fmod j)) else none) op_modN fun i j z h => by
  split at h
  · rename_i q
    cases h
    exact ⟨q,fun _ => by rw [Du]⟩
  · cases h
theorem do_iPow : DOp X (binaryOp .Pow) iPow:=dop_int (o:=fun i j => if 0≤j∧j≤1000∧fitI 64 i = true then some (.int (i ^ j.toNat)) else none) op_pow fun i j z h => by
  split at h
  · rename_i q
    cases h
    exact ⟨⟨q.1,by omega,of_decide_eq_true q.2.2⟩,fun _ => by rw [Du]⟩
  · cases h
def iCmp (p : Int→Int→Bool) : PyData→PyData→Option PyData:=fun x y => match x,y with | .int i,.int j => some (.bool (p i j)) | _,_ => none
theorem do_lt : DOp X (compareOp .Lt) (iCmp fun i j => decide (i < j)):=dop_int0 (o:=fun i j => .bool (decide (i < j))) op_lt fun _ _ _ => by rw [Du]
theorem do_gt : DOp X (compareOp .Gt) (iCmp fun i j => decide (j < i)):=dop_int0 (o:=fun i j => .bool (decide (j < i))) op_gt fun _ _ _ => by rw [Du]
def lAdd : PyData→PyData→Option PyData:=fun x y => match x,y with | .list a,.list b => (if a.length + b.length≤dMax then some (.list (a ++ b)) else none) | _,_ => none
theorem do_lAdd : DOp X (binaryOp .Add) lAdd := by
  refine ⟨_,op_cat,fun x y z hz G0 H0 G H σ δ ts u v Q R0 du dv k => ?_⟩
  unfold lAdd at hz
  split at hz
  · rename_i a b
    split at hz
    · rename_i hl
      cases hz
      rw [Du] at du dv
      obtain ⟨p,xs,rfl,h1,h2⟩:=du
      obtain ⟨q,ys,rfl,h3,h4⟩:=dv
      refine ⟨p,q,xs,ys,rfl,rfl,R0.ins _ _ h1,R0.ins _ _ h3,dMax_le (by rw [h2.len,h4.len]; exact hl),fun l hl' => ?_⟩
      have R1:=R0.newObj (o:=.lst (xs ++ ys)) hl'
      refine k _ _ _ (R1.put ?_)
      rw [Du]
      have e : Same G (upd G l (.lst (xs ++ ys))):=fun a o h => by
        have:=R0.ins _ _ h
        rw [upd_ne (ne_of_none this hl')]; exact h
      exact ⟨l,xs ++ ys,rfl,upd_same,(h2.same e).app (h4.same e)⟩
    · cases hz
  · cases hz
def tAdd' : PyData→PyData→Option PyData:=fun x y => match x,y with | .tuple a,.tuple b => (if a.length + b.length≤dMax then some (.tuple (a ++ b)) else none) | _,_ => none
theorem do_tAdd : DOp X (binaryOp .Add) tAdd' := by
  refine ⟨_,op_catA,fun x y z hz G0 H0 G H σ δ ts u v Q R0 du dv k => ?_⟩
  unfold tAdd' at hz
  split at hz
  · rename_i a b
    split at hz
    · rename_i hl
      cases hz
      rw [Du] at du dv
      obtain ⟨p,xs,rfl,h1,h2⟩:=du
      obtain ⟨q,ys,rfl,h3,h4⟩:=dv
      refine ⟨p,q,xs,ys,rfl,rfl,R0.ins _ _ h1,R0.ins _ _ h3,dMax_le (by rw [h2.len,h4.len]; exact hl),fun l H' e hp => ?_⟩
      have R1:=R0.anyTup e hp
      refine k _ _ _ (R1.put ?_)
      rw [Du]
      have e1 : Same G (upd G l (.tup (xs ++ ys))):=fun a o h => by
        by_cases ha : a = l
        · subst ha
          have:=e _ _ (R0.ins _ _ h)
          rw [hp] at this; rw [upd_same]; exact this
        · rw [upd_ne ha]; exact h
      exact ⟨l,xs ++ ys,rfl,upd_same,(h2.same e1).app (h4.same e1)⟩
    · cases hz
  · cases hz
def sAdd : PyData→PyData→Option PyData:=fun x y => match x,y with | .str a,.str b => (if a.length + b.length≤dMax then some (.str (a ++ b)) else none) | _,_ => none
theorem do_sAdd : DOp X (binaryOp .Add) sAdd := by
  refine ⟨_,op_add_str,fun x y z hz G0 H0 G H σ δ ts u v Q R0 du dv k => ?_⟩
  unfold sAdd at hz
  split at hz
  · rename_i a b
    split at hz
    · rename_i hl
      cases hz
      rw [Du] at du dv
      exact ⟨a,b,du,dv,dMax_le hl,k _ _ _ (R0.put (by rw [Du]))⟩
    · cases hz
  · cases hz
def dAdd : PyData→PyData→Option PyData:=orD iAdd (orD lAdd (orD tAdd' sAdd))
theorem do_add : DOp X (binaryOp .Add) dAdd:=do_iAdd.or (do_lAdd.or (do_tAdd.or do_sAdd))
def lRep : PyData→PyData→Option PyData:=fun x y => match x,y with | .list a,.int k => (if a.length * k.toNat≤dMax∧-1000000≤k∧k≤1000000 then some (.list (List.replicate k.toNat a).flatten) else none) | _,_ => none
theorem DuA.rep {H : Hp} {ds : List PyData} {xs : List V} (h : DuA H ds xs) : ∀ n,DuA H (List.replicate n ds).flatten (List.replicate n xs).flatten
  | 0 => .nil
  | n + 1 => by rw [List.replicate_succ,List.replicate_succ,List.flatten_cons,List.flatten_cons]; exact h.app (h.rep n)
theorem do_lRep : DOp X (binaryOp .Mult) lRep := by
  refine ⟨_,op_rep,fun x y z hz G0 H0 G H σ δ ts u v Q R0 du dv k => ?_⟩
  unfold lRep at hz
  split at hz
  · rename_i a n
    split at hz
    · rename_i hl
      cases hz
      rw [Du] at du; rw [Du] at dv
      obtain ⟨p,xs,rfl,h1,h2⟩:=du
      subst dv
      refine ⟨p,n,xs,rfl,rfl,R0.ins _ _ h1,by omega,by omega,dMax_le (by rw [h2.len]; exact hl.1),fun l hl' => ?_⟩
      have R1:=R0.newObj (o:=.lst (List.replicate n.toNat xs).flatten) hl'
      refine k _ _ _ (R1.put ?_)
      rw [Du]
      have e : Same G (upd G l (.lst (List.replicate n.toNat xs).flatten)):=fun a o h => by
        have:=R0.ins _ _ h
        rw [upd_ne (ne_of_none this hl')]; exact h
      exact ⟨l,_,rfl,upd_same,(h2.same e).rep _⟩
    · cases hz
  · cases hz
def dMul : PyData→PyData→Option PyData:=orD iMul lRep
theorem do_mul : DOp X (binaryOp .Mult) dMul:=do_iMul.or do_lRep
theorem canLay_of {d : PyData} (h : SeqAt.shaped d = true) : d.canLay0 = true := by unfold SeqAt.shaped at h; rw [Bool.and_eq_true] at h; exact h.1
def dEq (neg : Bool) : PyData→PyData→Option PyData:=fun x y => if SeqAt.shaped x = true∧SeqAt.shaped y = true then some (.bool (if neg then !PyData.eqv x y else PyData.eqv x y)) else none
theorem do_eqG {m : Value→Value→Sem Value} {neg : Bool} (ho : OpR X m (rEqD X.K neg)) : DOp X m (dEq neg) := by
  refine ⟨_,ho,fun x y z hz G0 H0 G H σ δ ts u v Q R0 du dv k => ?_⟩
  unfold dEq at hz
  split at hz
  · rename_i hs
    cases hz
    exact ⟨x,y,(du.same R0.ins).br (canLay_of hs.1),(dv.same R0.ins).br (canLay_of hs.2),hs.1,hs.2,k _ _ _ (R0.put (by rw [Du]))⟩
  · cases hz
theorem do_eq (hu : X.A.units + 64 < cLine) : DOp X (compareOp .Eq) (dEq false):=do_eqG (op_eqD hu)
theorem do_ne (hu : X.A.units + 64 < cLine) : DOp X (compareOp .NotEq) (dEq true):=do_eqG (op_neD hu)
def PyData.isNo : PyData→Bool
  | .none => true
  | _ => false
theorem du_non {H : Hp} : ∀ {x : PyData} {u : V},Du H x u→decide (u = .non) = PyData.isNo x
  | .none,u,h => by rw [Du] at h; subst h; rfl
  | .bool _,u,h => by rw [Du] at h; subst h; rfl
  | .int _,u,h => by rw [Du] at h; subst h; rfl
  | .str _,u,h => by rw [Du] at h; subst h; rfl
  | .tuple _,u,h => by rw [Du] at h; obtain ⟨a,xs,rfl,_⟩:=h; rfl
  | .list _,u,h => by rw [Du] at h; obtain ⟨a,xs,rfl,_⟩:=h; rfl
  | .dict _,u,h => by rw [Du] at h; rcases h with ⟨ea,C,_,rfl,_⟩ | ⟨a,ns,_,rfl,_⟩ <;> rfl
def dIs (neg : Bool) : PyData→PyData→Option PyData:=fun x y => match y with
  | .none => some (.bool (if neg then !PyData.isNo x else PyData.isNo x))
  | _ => none
theorem do_isnot : DOp X (compareOp .IsNot) (dIs true) := by
  refine ⟨_,op_notN,fun x y z hz G0 H0 G H σ δ ts u v Q R0 du dv k => ?_⟩
  unfold dIs at hz
  split at hz
  · cases hz
    rw [Du] at dv
    refine ⟨dv,?_⟩
    rw [du_non du]
    exact k _ _ _ (R0.put (by rw [Du]; rfl))
  · cases hz
end
section
variable {X : Cx} {a b c e : Expr} {es : List Expr} {f g h : Dv→Option PyData} {pos p : Pos}
def asB : PyData→Option Bool
  | .bool b => some b
  | _ => none
def asI : PyData→Option Int
  | .int b => some b
  | _ => none
theorem asB_eq {x : PyData} {b : Bool} (h : asB x = some b) : x = .bool b := by
  unfold asB at h; split at h
  · cases h; rfl
  · cases h
theorem asI_eq {x : PyData} {b : Int} (h : asI x = some b) : x = .int b := by
  unfold asI at h; split at h
  · cases h; rfl
  · cases h
theorem de_neg (ha : DE X a f) : DE X (.UnaryOp .USub a pos) (fun δ => (f δ).bind fun x => (asI x).map fun i => .int (-i)) := by
  obtain ⟨ta,pa,ka⟩:=ha
  refine ⟨_,pe_un un_neg pa,fun δ z hz G0 H0 G H σ ts Q R0 k => ?_⟩
  obtain ⟨x,h1,h2⟩:=Option.bind_eq_some_iff.mp hz
  obtain ⟨i,h3,rfl⟩:=Option.map_eq_some_iff.mp h2
  have:=asI_eq h3; subst this
  refine ka δ _ h1 G0 H0 G H σ ts _ R0 fun u G1 H1 R1 => ?_
  have:=R1.tmp _ (.head _)
  rw [Du] at this
  exact ⟨i,this,k _ _ _ (R1.drop.put (by rw [Du]))⟩
theorem de_one {op} (ha : DE X a f) : DE X (.BoolOp op [a] pos) f := by
  obtain ⟨ta,pa,ka⟩:=ha
  exact ⟨_,pe_one pa,ka⟩
theorem de_or {rest : List Expr} (ha : DE X a f) (hb : DE X (.BoolOp .Or (b :: rest) pos) g) : DE X (.BoolOp .Or (a :: b :: rest) pos) (fun δ => (f δ).bind fun x => (asB x).bind fun c => if c = true then some (.bool true) else g δ) := by
  obtain ⟨ta,pa,ka⟩:=ha
  obtain ⟨tb,pb,kb⟩:=hb
  refine ⟨_,pe_or pa pb,fun δ z hz G0 H0 G H σ ts Q R0 k => ?_⟩
  obtain ⟨x,h1,h2⟩:=Option.bind_eq_some_iff.mp hz
  obtain ⟨i,h3,h4⟩:=Option.bind_eq_some_iff.mp h2
  have:=asB_eq h3; subst this
  refine ka δ _ h1 G0 H0 G H σ ts _ R0 fun u G1 H1 R1 => ?_
  have hu:=R1.tmp _ (.head _)
  rw [Du] at hu
  refine ⟨i,hu,?_⟩
  split
  · rename_i hc
    rw [if_pos hc] at h4; cases h4
    exact k _ _ _ (R1.drop.put (by rw [Du]))
  · rename_i hc
    rw [if_neg hc] at h4
    exact kb δ z h4 G0 H0 G1 H1 σ ts Q R1.drop k
variable {fa fb : Dv→Option Bool}
def DW (X : Cx) (e : Expr) (f : Dv→Option Bool) : Prop:=∃ t,PW X e t∧∀ δ b,f δ = some b→∀ G0 H0 G H σ ts (Q : Bool→Hp→Prop),Rw G0 H0 G H σ δ ts→(∀ G' H',Rw G0 H0 G' H' σ δ ts→Q b H')→t σ H Q
theorem DW.dt (h : DW X e fa) : DT X e fa:=let ⟨t,p,k⟩:=h; ⟨t,p.pt,k⟩
theorem dt_cmp {op : CmpOp} {o : PyData→PyData→Option PyData} (ho : DOp X (compareOp op) o) (ha : DE X a f) (hb : DE X b g) (hm : behindInMarks op b = false) : DT X (.Compare a [op] [b] pos) (fun δ => (op2 o f g δ).bind asB) := by
  obtain ⟨r,hr,kr⟩:=ho
  obtain ⟨ta,pa,ka⟩:=ha
  obtain ⟨tb,pb,kb⟩:=hb
  refine ⟨_,pt_cmpR hr pa pb hm,fun δ z hz G0 H0 G H σ ts Q R0 k => ?_⟩
  obtain ⟨q,h0,h4⟩:=Option.bind_eq_some_iff.mp hz
  have:=asB_eq h4; subst this
  obtain ⟨x,y,h1,h2,h3⟩:=two (x:=.none) (y:=.none) h0
  refine ka δ x h1 G0 H0 G H σ ts _ R0 fun u G1 H1 R1 => ?_
  refine kb δ y h2 G0 H0 G1 H1 σ _ _ R1 fun v G2 H2 R2 => ?_
  refine kr x y _ h3 G0 H0 G2 H2 σ δ ts u v _ (R2.drop.drop) (R2.tmp (x,u) (.tail _ (.head _))) (R2.tmp (y,v) (.head _)) fun w G3 H3 R3 => ?_
  have hu:=R3.tmp _ (.head _)
  rw [Du] at hu
  exact ⟨z,hu,k _ _ R3.drop⟩
theorem dt_val (ha : DE X e f) (he : ∀ whole,isTrue e X.env whole = (do let v ← whole; standAt e.pos; holding [v] (truthy v)) := by intro _; rfl) : DT X e (fun δ => (f δ).bind asB) := by
  obtain ⟨ta,pa,ka⟩:=ha
  refine ⟨_,pt_val pa he,fun δ z hz G0 H0 G H σ ts Q R0 k => ?_⟩
  obtain ⟨q,h0,h4⟩:=Option.bind_eq_some_iff.mp hz
  have:=asB_eq h4; subst this
  refine ka δ _ h0 G0 H0 G H σ ts _ R0 fun u G1 H1 R1 => ?_
  have hu:=R1.tmp _ (.head _)
  rw [Du] at hu
  exact ⟨z,hu,k _ _ R1.drop⟩
theorem dt_not (ha : DT X a fa) : DT X (.UnaryOp .Not a pos) (fun δ => (fa δ).map fun c => !c) := by
  obtain ⟨ta,pa,ka⟩:=ha
  refine ⟨_,pt_not pa,fun δ z hz G0 H0 G H σ ts Q R0 k => ?_⟩
  obtain ⟨i,h3,rfl⟩:=Option.map_eq_some_iff.mp hz
  exact ka δ _ h3 G0 H0 G H σ ts _ R0 fun G1 H1 R1 => k _ _ R1
theorem dw_one {op : BoolOp} (ha : DT X a fa) : DW X (.BoolOp op [a] pos) fa := by
  obtain ⟨ta,pa,ka⟩:=ha
  cases op
  · exact ⟨_,pw_and1 pa,ka⟩
  · exact ⟨_,pw_or1 pa,ka⟩
theorem dw_and {rest : List Expr} (ha : DT X a fa) (hb : DW X (.BoolOp .And (b :: rest) pos) fb) : DW X (.BoolOp .And (a :: b :: rest) pos) (fun δ => (fa δ).bind fun c => if c = true then fb δ else some false) := by
  obtain ⟨ta,pa,ka⟩:=ha
  obtain ⟨tb,pb,kb⟩:=hb
  refine ⟨_,pw_and pa pb,fun δ z hz G0 H0 G H σ ts Q R0 k => ?_⟩
  obtain ⟨i,h3,h4⟩:=Option.bind_eq_some_iff.mp hz
  refine ka δ _ h3 G0 H0 G H σ ts _ R0 fun G1 H1 R1 => ?_
  split
  · rename_i hc
    rw [if_pos hc] at h4
    exact kb δ z h4 G0 H0 G1 H1 σ ts Q R1 k
  · rename_i hc
    rw [if_neg hc] at h4; cases h4
    exact k _ _ R1
theorem dw_or {rest : List Expr} (ha : DT X a fa) (hb : DW X (.BoolOp .Or (b :: rest) pos) fb) : DW X (.BoolOp .Or (a :: b :: rest) pos) (fun δ => (fa δ).bind fun c => if c = true then some true else fb δ) := by
  obtain ⟨ta,pa,ka⟩:=ha
  obtain ⟨tb,pb,kb⟩:=hb
  refine ⟨_,pw_or pa pb,fun δ z hz G0 H0 G H σ ts Q R0 k => ?_⟩
  obtain ⟨i,h3,h4⟩:=Option.bind_eq_some_iff.mp hz
  refine ka δ _ h3 G0 H0 G H σ ts _ R0 fun G1 H1 R1 => ?_
  split
  · rename_i hc
    rw [if_pos hc] at h4; cases h4
    exact k _ _ R1
  · rename_i hc
    rw [if_neg hc] at h4
    exact kb δ z h4 G0 H0 G1 H1 σ ts Q R1 k
variable {fs : Dv→Option (List PyData)}
theorem da_nil : DA X [] (fun _ => some []):=⟨_,pa_nil,fun δ xs h G0 H0 G H σ ts Q R0 k => by cases h; exact k [] G H (by simpa using R0) rfl⟩
theorem da_cons (ha : DE X e f) (hr : DA X es fs) (hs : starEach (e :: es) X.env = (false,eval e X.env) :: starEach es X.env := by rfl) : DA X (e :: es) (fun δ => (f δ).bind fun x => (fs δ).map fun xs => x :: xs) := by
  obtain ⟨ta,pa,ka⟩:=ha
  obtain ⟨tr,pr,kr⟩:=hr
  refine ⟨_,pa_cons pa pr hs,fun δ z hz G0 H0 G H σ ts Q R0 k => ?_⟩
  obtain ⟨x,h1,h2⟩:=Option.bind_eq_some_iff.mp hz
  obtain ⟨xs,h3,rfl⟩:=Option.map_eq_some_iff.mp h2
  refine ka δ x h1 G0 H0 G H σ ts _ R0 fun u G1 H1 R1 => ?_
  refine kr δ xs h3 G0 H0 G1 H1 σ _ _ R1 fun vs G2 H2 R2 hl => ?_
  refine k (u :: vs) G2 H2 (R2.less fun q hq => ?_) (by simp [hl])
  simp only [List.zip_cons_cons,List.cons_append,List.mem_cons,List.mem_append] at hq ⊢
  rcases hq with h | h | h
  · exact .inr (.inl h)
  · exact .inl h
  · exact .inr (.inr h)
theorem duA_of {G : Hp} : ∀ {xs : List PyData} {vs : List V},vs.length = xs.length→(∀ q∈xs.zip vs,Du G q.1 q.2)→DuA G xs vs
  | [],vs,hl,_ => by rw [List.eq_nil_of_length_eq_zero hl]; exact .nil
  | x :: xs,[],hl,_ => by simp at hl
  | x :: xs,v :: vs,hl,h => .cons (h (x,v) (by simp)) (duA_of (by simpa using hl) fun q hq => h q (by simp [hq]))
theorem Rw.args {G0 H0 G H : Hp} {σ : St} {δ : Dv} {ts : List (PyData×V)} {xs : List PyData} {vs : List V} (r : Rw G0 H0 G H σ δ (xs.zip vs ++ ts)) (hl : vs.length = xs.length) : DuA G xs vs∧Rw G0 H0 G H σ δ ts :=
  ⟨duA_of hl fun q hq => r.tmp q (List.mem_append_left _ hq),r.less fun q hq => List.mem_append_right _ hq⟩
theorem Rw.newL {G0 H0 G H : Hp} {σ : St} {δ : Dv} {ts : List (PyData×V)} {xs : List PyData} {vs : List V} {p : Addr} (r : Rw G0 H0 G H σ δ ts) (d : DuA G xs vs) (hp : H p = none) : Rw G0 H0 (upd G p (.lst vs)) (upd H p (.lst vs)) σ δ ((.list xs,.ref p) :: ts) := by
  refine (r.newObj hp).put ?_
  have e : Same G (upd G p (.lst vs)):=fun a o h => by rw [upd_ne (ne_of_none (r.ins _ _ h) hp)]; exact h
  rw [Du]
  exact ⟨p,vs,rfl,upd_same,d.same e⟩
theorem Rw.newT {G0 H0 G H : Hp} {σ : St} {δ : Dv} {ts : List (PyData×V)} {xs : List PyData} {vs : List V} {p : Addr} (r : Rw G0 H0 G H σ δ ts) (d : DuA G xs vs) (hp : H p = none) : Rw G0 H0 (upd G p (.tup vs)) (upd H p (.tup vs)) σ δ ((.tuple xs,.ref p) :: ts) := by
  refine (r.newObj hp).put ?_
  have e : Same G (upd G p (.tup vs)):=fun a o h => by rw [upd_ne (ne_of_none (r.ins _ _ h) hp)]; exact h
  rw [Du]
  exact ⟨p,vs,rfl,upd_same,d.same e⟩
def few (xs : List PyData) : Option (List PyData):=if xs.length≤dMax then some xs else none
theorem few_eq {xs ys : List PyData} (h : few xs = some ys) : xs = ys∧xs.length≤dMax := by
  unfold few at h; split at h
  · rename_i q; cases h; exact ⟨rfl,q⟩
  · cases h
theorem de_tup {x1} (ha : DA X es fs) : DE X (.Tuple es x1 pos) (fun δ => ((fs δ).bind few).map .tuple) := by
  obtain ⟨ta,pa,ka⟩:=ha
  refine ⟨_,pe_tup pa,fun δ z hz G0 H0 G H σ ts Q R0 k => ?_⟩
  obtain ⟨ys,h1,rfl⟩:=Option.map_eq_some_iff.mp hz
  obtain ⟨xs,h2,h3⟩:=Option.bind_eq_some_iff.mp h1
  obtain ⟨rfl,hl⟩:=few_eq h3
  refine ka δ _ h2 G0 H0 G H σ ts _ R0 fun vs G1 H1 R1 hv => ?_
  obtain ⟨d,R2⟩:=R1.args hv
  exact ⟨dMax_le (by rw [hv]; exact hl),fun q hq => k _ _ _ (R2.newT d hq)⟩
theorem de_lst (ha : DA X es fs) : DE X (.List es pos) (fun δ => ((fs δ).bind few).map .list) := by
  obtain ⟨ta,pa,ka⟩:=ha
  refine ⟨_,pe_lst pa,fun δ z hz G0 H0 G H σ ts Q R0 k => ?_⟩
  obtain ⟨ys,h1,rfl⟩:=Option.map_eq_some_iff.mp hz
  obtain ⟨xs,h2,h3⟩:=Option.bind_eq_some_iff.mp h1
  obtain ⟨rfl,hl⟩:=few_eq h3
  refine ka δ _ h2 G0 H0 G H σ ts _ R0 fun vs G1 H1 R1 hv => ?_
  obtain ⟨d,R2⟩:=R1.args hv
  exact ⟨dMax_le (by rw [hv]; exact hl),fun q hq => k _ _ _ (R2.newL d hq)⟩
theorem DuA.atI {H : Hp} {ds : List PyData} {xs : List V} {i : Int} {d : PyData} (h : DuA H ds xs) (e : atI ds i = some d) : ∃ v,atI xs i = some v∧Du H d v := by
  unfold L2.atI at e ⊢
  rw [h.len]
  obtain ⟨j,h1,h2⟩:=Option.bind_eq_some_iff.mp e
  obtain ⟨v,h3,h4⟩:=h.get h2
  exact ⟨v,by rw [h1]; exact h3,h4⟩
theorem duA_intsG {G : Hp} : ∀ ns : List Int,DuA G (ns.map .int) (ns.map V.int)
  | [] => .nil
  | n :: ns => .cons (by rw [Du]) (duA_intsG ns)
def dIx : PyData→PyData→Option PyData:=fun x y => match x,y with
  | .list xs,.int i => atI xs i
  | .tuple xs,.int i => atI xs i
  | .dict [(.none,.list xs)],.int i => atI xs i
  | .str z,.int i => if z.length≤dMax then (atI z.cps.toList i).map fun c => .str ⟨#[c]⟩ else none
  | _,_ => none
theorem de_ix (ha : DE X a f) (hb : DE X b g) (hs : PlainIx b) : DE X (.Subscript a b pos) (op2 dIx f g) := by
  obtain ⟨ta,pa,ka⟩:=ha
  obtain ⟨tb,pb,kb⟩:=hb
  refine ⟨_,pe_ix ix_seq pa pb hs,fun δ z hz G0 H0 G H σ ts Q R0 k => ?_⟩
  obtain ⟨x,y,h1,h2,h3⟩:=two (x:=.none) (y:=.none) hz
  refine ka δ x h1 G0 H0 G H σ ts _ R0 fun u G1 H1 R1 => ?_
  refine kb δ y h2 G0 H0 G1 H1 σ _ _ R1 fun v G2 H2 R2 => ?_
  have du:=R2.tmp (x,u) (.tail _ (.head _))
  have dv:=R2.tmp (y,v) (.head _)
  unfold dIx at h3
  split at h3
  · rw [Du] at du; rw [Du] at dv
    obtain ⟨p,xs,rfl,h4,h5⟩:=du
    obtain ⟨w,h6,h7⟩:=h5.atI h3
    exact .inl ⟨p,xs,_,w,rfl,dv,SqL.of (R2.ins _ _ h4),h6,k _ _ _ (R2.drop.drop.put h7)⟩
  · rw [Du] at du; rw [Du] at dv
    obtain ⟨p,xs,rfl,h4,h5⟩:=du
    obtain ⟨w,h6,h7⟩:=h5.atI h3
    exact .inr (.inl ⟨p,xs,_,w,rfl,dv,SqT.of (R2.ins _ _ h4),h6,k _ _ _ (R2.drop.drop.put h7)⟩)
  · rw [Du] at du; rw [Du] at dv
    rcases du with ⟨ea,C,e1,_⟩ | ⟨p,ns,e1,rfl,h4⟩
    · simp at e1
    · obtain rfl : _ = ns.map PyData.int := by simpa using e1
      obtain ⟨w,h6,h7⟩:=(duA_intsG (G:=_) ns).atI h3
      exact .inl ⟨p,_,_,w,rfl,dv,.inl (h4.same R2.ins),h6,k _ _ _ (R2.drop.drop.put h7)⟩
  · rw [Du] at du; rw [Du] at dv
    split at h3
    · rename_i hl
      obtain ⟨ch,h6,rfl⟩:=Option.map_eq_some_iff.mp h3
      exact .inr (.inr ⟨_,_,ch,du,dv,dMax_le hl,h6,k _ _ _ (R2.drop.drop.put (by rw [Du]))⟩)
    · cases h3
  · cases h3
end
def spD (g : List PyData→Option PyData) : Sp:=fun vs H Q _ => ∃ ds x G,g ds = some x∧DuA G ds vs∧Same G H∧∀ v G' H',Same G G'→Nw G H G'→Same G' H'→Same H H'→Du G' x v→Q v H'
section
variable {X : Cx} {a b c e : Expr} {es : List Expr} {f g h : Dv→Option PyData} {fs : Dv→Option (List PyData)} {pos p : Pos}
theorem de_call {k : Nat} {fA : Addr} {fd : FuncData} {ps : List Str} {m : List PyData→Option PyData} {x : Str} {st : Stmt} (T : Fn X.K X.mg x st ps fA fd) (F : FnOk X.prog X.w X.K X.mg X.base CX0 k fA fd ps (spD m)) (hr : Room k X.A) (hg : Gl X x) (ha : DA X (e :: es) fs)
    (hdb : (x == ("__debug__" : Str)) = false := by decide) (he : starEach (e :: es) X.env = (false,eval e X.env) :: starEach es X.env := by rfl) (hpl : (backTo pos (starEach es X.env)).any (·.1) = false := by rfl) :
    DE X (.Call (.Name x p) (e :: es) [] pos) (fun δ => (fs δ).bind m) := by
  obtain ⟨ta,pa,ka⟩:=ha
  refine ⟨_,pe_fn T F hr hg pa hdb he hpl,fun δ z hz G0 H0 G H σ ts Q R0 k => ?_⟩
  obtain ⟨xs,h1,h2⟩:=Option.bind_eq_some_iff.mp hz
  refine ka δ _ h1 G0 H0 G H σ ts _ R0 fun vs G1 H1 R1 hv => ?_
  obtain ⟨d,R2⟩:=R1.args hv
  refine ⟨xs,z,G1,h2,by rw [List.append_nil]; exact d,R2.ins,fun v G' H' h3 h4 h5 h6 h7 => ?_⟩
  exact k _ _ _ ((R2.lift h3 h4 h5 h6).put h7)
def DCall (X : Cx) (v : Value) (o : List PyData→Option PyData) : Prop:=∃ r,CallR X v r∧∀ xs z,o xs = some z→∀ G0 H0 G H σ δ ts us (Q : VK),Rw G0 H0 G H σ δ ts→DuA G xs us→(∀ w G' H',Rw G0 H0 G' H' σ δ ((z,w) :: ts)→Q w H')→r us H Q
theorem de_callB {x : Str} {id : String} {o : List PyData→Option PyData} (hc : DCall X (.builtin id) o) (hg : Gl X x) (hm : X.mg x = none) (hv : bootBuiltins x = some (.builtin id)) (ha : DA X (e :: es) fs) (hn : x ≠ "__name__" := by decide) (hdb : (x == ("__debug__" : Str)) = false := by decide)
    (he : starEach (e :: es) X.env = (false,eval e X.env) :: starEach es X.env := by rfl) (hpl : (backTo pos (starEach es X.env)).any (·.1) = false := by rfl) : DE X (.Call (.Name x p) (e :: es) [] pos) (fun δ => (fs δ).bind o) := by
  obtain ⟨r,hr,kr⟩:=hc
  obtain ⟨ta,pa,ka⟩:=ha
  refine ⟨_,pe_callB hr hg hm hv pa hn hdb he hpl,fun δ z hz G0 H0 G H σ ts Q R0 k => ?_⟩
  obtain ⟨xs,h1,h2⟩:=Option.bind_eq_some_iff.mp hz
  refine ka δ _ h1 G0 H0 G H σ ts _ R0 fun vs G1 H1 R1 hv => ?_
  obtain ⟨d,R2⟩:=R1.args hv
  exact kr xs z h2 G0 H0 G1 H1 σ δ ts vs Q R2 d k
theorem de_callTy {x : Str} {T : String} {o : List PyData→Option PyData} (hc : DCall X (.type T) o) (hg : Gl X x) (hm : X.mg x = none) (hv : bootBuiltins x = some (.type T)) (ha : DA X (e :: es) fs) (hn : x ≠ "__name__" := by decide) (hdb : (x == ("__debug__" : Str)) = false := by decide)
    (he : starEach (e :: es) X.env = (false,eval e X.env) :: starEach es X.env := by rfl) (hpl : (backTo pos (starEach es X.env)).any (·.1) = false := by rfl) : DE X (.Call (.Name x p) (e :: es) [] pos) (fun δ => (fs δ).bind o) := by
  obtain ⟨r,hr,kr⟩:=hc
  obtain ⟨ta,pa,ka⟩:=ha
  refine ⟨_,pe_callTy hr hg hm hv pa hn hdb he hpl,fun δ z hz G0 H0 G H σ ts Q R0 k => ?_⟩
  obtain ⟨xs,h1,h2⟩:=Option.bind_eq_some_iff.mp hz
  refine ka δ _ h1 G0 H0 G H σ ts _ R0 fun vs G1 H1 R1 hv => ?_
  obtain ⟨d,R2⟩:=R1.args hv
  exact kr xs z h2 G0 H0 G1 H1 σ δ ts vs Q R2 d k
theorem DuA.un1 {H : Hp} {d : PyData} {xs : List V} (h : DuA H [d] xs) : ∃ x,xs = [x]∧Du H d x := by
  obtain ⟨x,r,rfl,h1,h2⟩:=h.un
  rw [h2.nil_eq]; exact ⟨x,rfl,h1⟩
theorem DuA.un2 {H : Hp} {d e : PyData} {xs : List V} (h : DuA H [d,e] xs) : ∃ x y,xs = [x,y]∧Du H d x∧Du H e y := by
  obtain ⟨x,r,rfl,h1,h2⟩:=h.un
  obtain ⟨y,rfl,h3⟩:=h2.un1; exact ⟨x,y,rfl,h1,h3⟩
def dLen : List PyData→Option PyData
  | [.list xs] => some (.int xs.length)
  | [.tuple xs] => some (.int xs.length)
  | [.dict [(.none,.list xs)]] => some (.int xs.length)
  | _ => none
theorem dc_len : DCall X (.builtin "len") dLen := by
  refine ⟨_,call_len_seq,fun xs z hz G0 H0 G H σ δ ts us Q R0 d k => ?_⟩
  unfold dLen at hz
  split at hz
  · cases hz
    obtain ⟨u,rfl,du⟩:=d.un1
    rw [Du] at du
    obtain ⟨p,ys,rfl,h4,h5⟩:=du
    refine ⟨p,ys,rfl,.inl (SqL.of (R0.ins _ _ h4)),?_⟩
    rw [h5.len]
    exact k _ _ _ (R0.put (by rw [Du]))
  · cases hz
    obtain ⟨u,rfl,du⟩:=d.un1
    rw [Du] at du
    obtain ⟨p,ys,rfl,h4,h5⟩:=du
    refine ⟨p,ys,rfl,.inr (SqT.of (R0.ins _ _ h4)),?_⟩
    rw [h5.len]
    exact k _ _ _ (R0.put (by rw [Du]))
  · cases hz
    obtain ⟨u,rfl,du⟩:=d.un1
    rw [Du] at du
    rcases du with ⟨ea,C,e1,_⟩ | ⟨p,ns,e1,rfl,h4⟩
    · simp at e1
    · obtain rfl : _ = ns.map PyData.int := by simpa using e1
      refine ⟨p,_,rfl,.inl (.inl (h4.same R0.ins)),?_⟩
      rw [List.length_map] at k ⊢
      exact k _ _ _ (R0.put (by rw [Du]))
  · cases hz
def dTupleOf : List PyData→Option PyData
  | [.list xs] => some (.tuple xs)
  | [.tuple xs] => some (.tuple xs)
  | _ => none
theorem dc_tuple : DCall X (.type "tuple") dTupleOf := by
  refine ⟨_,call_tuple_of,fun xs z hz G0 H0 G H σ δ ts us Q R0 d k => ?_⟩
  unfold dTupleOf at hz
  split at hz
  · cases hz
    obtain ⟨u,rfl,du⟩:=d.un1
    rw [Du] at du
    obtain ⟨p,ys,rfl,h4,h5⟩:=du
    exact ⟨p,ys,rfl,.inl ⟨SqL.of (R0.ins _ _ h4),fun l hl => k _ _ _ (R0.newT h5 hl)⟩⟩
  · cases hz
    obtain ⟨u,rfl,du⟩:=d.un1
    have du':=du
    rw [Du] at du
    obtain ⟨p,ys,rfl,h4,h5⟩:=du
    exact ⟨p,ys,rfl,.inr ⟨SqT.of (R0.ins _ _ h4),k _ _ _ (R0.put du')⟩⟩
  · cases hz
def dListOf : List PyData→Option PyData
  | [.list xs] => some (.list xs)
  | [.tuple xs] => some (.list xs)
  | _ => none
theorem dc_list : DCall X (.type "list") dListOf := by
  refine ⟨_,call_list_of,fun xs z hz G0 H0 G H σ δ ts us Q R0 d k => ?_⟩
  unfold dListOf at hz
  split at hz
  · cases hz
    obtain ⟨u,rfl,du⟩:=d.un1
    rw [Du] at du
    obtain ⟨p,ys,rfl,h4,h5⟩:=du
    exact ⟨p,ys,rfl,.inl (SqL.of (R0.ins _ _ h4)),fun l hl => k _ _ _ (R0.newL h5 hl)⟩
  · cases hz
    obtain ⟨u,rfl,du⟩:=d.un1
    rw [Du] at du
    obtain ⟨p,ys,rfl,h4,h5⟩:=du
    exact ⟨p,ys,rfl,.inr (SqT.of (R0.ins _ _ h4)),fun l hl => k _ _ _ (R0.newL h5 hl)⟩
  · cases hz
end
inductive Ou where
  | nx (δ : Dv) | rt (x : PyData) | bk (δ : Dv) | ct (δ : Dv) | rn (xs : List PyData)
def Fin (G0 H0 : Hp) (D : Ends) : Ou→Prop
  | .nx δ => ∀ σ G H,Rw G0 H0 G H σ δ []→D.nx σ H
  | .rt x => ∀ v G H,Same G0 G→Nw G0 H0 G→Same G H→Same H0 H→Du G x v→D.rt v H
  | .bk δ => ∀ σ G H,Rw G0 H0 G H σ δ []→D.bk σ H
  | .ct δ => ∀ σ G H,Rw G0 H0 G H σ δ []→D.ct σ H
  | .rn xs => ∀ a ys G H,Same G0 G→Nw G0 H0 G→Same G H→Same H0 H→H0 a = none→G a = none→H a = some (.lst ys)→DuA G xs ys→D.rt (.ref a) H
abbrev DF:=Dv→Option Ou
def DS (X : Cx) (st : Stmt) (F : DF) : Prop:=∃ t,PS X st t∧∀ δ r,F δ = some r→∀ G0 H0 G H σ D,Rw G0 H0 G H σ δ []→Fin G0 H0 D r→t D σ H
def DSs (X : Cx) (st : List Stmt) (F : DF) : Prop:=∃ t,PSs X st t∧∀ δ r,F δ = some r→∀ G0 H0 G H σ D,Rw G0 H0 G H σ δ []→Fin G0 H0 D r→t D σ H
def seqD (F1 F2 : DF) (δ : Dv) : Option Ou:=match F1 δ with
  | some (.nx δ') => F2 δ'
  | o => o
section
variable {X : Cx} {a b c e : Expr} {es : List Expr} {f g h : Dv→Option PyData} {fs : Dv→Option (List PyData)} {fa : Dv→Option Bool} {pos p : Pos} {st : Stmt} {sts sts' : List Stmt} {F F1 F2 : DF}
theorem dss_nil : DSs X [] (fun δ => some (.nx δ)):=⟨_,pss_nil,fun δ r h G0 H0 G H σ D R k => by cases h; exact k _ _ _ R⟩
theorem dss_cons (h1 : DS X st F1) (h2 : DSs X sts F2) : DSs X (st :: sts) (seqD F1 F2) := by
  obtain ⟨t1,p1,k1⟩:=h1
  obtain ⟨t2,p2,k2⟩:=h2
  refine ⟨_,pss_cons p1 p2,fun δ r h G0 H0 G H σ D R k => ?_⟩
  unfold seqD at h
  split at h
  · rename_i δ' e1
    exact k1 δ _ e1 G0 H0 G H σ _ R fun σ' G' H' R' => k2 δ' r h G0 H0 G' H' σ' D R' k
  · rename_i hne
    refine k1 δ r h G0 H0 G H σ _ R ?_
    cases r with
    | nx δ' => exact absurd h (hne δ')
    | rt x => exact k
    | bk δ' => exact k
    | ct δ' => exact k
    | rn xs => exact k
theorem dss_one (h1 : DS X st F1) : DSs X [st] F1 := by
  obtain ⟨t1,p1,k1⟩:=h1
  exact ⟨_,pss_one p1,k1⟩
theorem ds_ret (he : DE X e f) : DS X (.Return (some e) pos) (fun δ => (f δ).map .rt) := by
  obtain ⟨t,p,k⟩:=he
  refine ⟨_,ps_ret p,fun δ r h G0 H0 G H σ D R q => ?_⟩
  obtain ⟨x,h1,rfl⟩:=Option.map_eq_some_iff.mp h
  exact k δ x h1 G0 H0 G H σ [] _ R fun v G' H' R' => q v G' H' R'.ext R'.new R'.ins R'.keep (R'.tmp _ (.head _))
theorem ds_if (hc : DT X c fa) (h1 : DSs X sts F1) (h2 : DSs X sts' F2) : DS X (.If c sts sts' pos) (fun δ => (fa δ).bind fun c => if c = true then F1 δ else F2 δ) := by
  obtain ⟨tc,pc,kc⟩:=hc
  obtain ⟨t1,p1,k1⟩:=h1
  obtain ⟨t2,p2,k2⟩:=h2
  refine ⟨_,ps_if pc p1 p2,fun δ r h G0 H0 G H σ D R q => ?_⟩
  obtain ⟨i,h3,h4⟩:=Option.bind_eq_some_iff.mp h
  refine kc δ i h3 G0 H0 G H σ [] _ R fun G' H' R' => ?_
  split
  · rename_i hc
    rw [if_pos hc] at h4
    exact k1 δ r h4 G0 H0 G' H' σ D R' q
  · rename_i hc
    rw [if_neg hc] at h4
    exact k2 δ r h4 G0 H0 G' H' σ D R' q
end
section
variable {G0 H0 G H : Hp} {σ : St} {δ : Dv} {ts : List (PyData×V)}
theorem Rw.setD {i : Nat} {x : PyData} {v : V} (r : Rw G0 H0 G H σ δ ((x,v) :: ts)) : Rw G0 H0 G H (σ.set i (some v)) (δ.set i (.d x)) ts := by
  have hl:=r.len
  refine ⟨r.ext,r.new,r.ins,r.keep,by simp [hl],fun j y h => ?_,fun j ys h => ?_,fun j l ys zs hjl h1 h2 => ?_,fun q hq => r.tmp q (.tail _ hq)⟩
  · by_cases hj : i = j
    · subst hj
      by_cases hi : i < δ.length
      · rw [List.getElem?_set_self hi] at h
        cases h
        exact ⟨v,by rw [List.getElem?_set_self (by omega)],r.tmp _ (.head _)⟩
      · rw [List.getElem?_eq_none (by simp; omega)] at h; cases h
    · rw [List.getElem?_set_ne hj] at h
      obtain ⟨w,k1,k2⟩:=r.dat j y h
      exact ⟨w,by rw [List.getElem?_set_ne hj]; exact k1,k2⟩
  · by_cases hj : i = j
    · subst hj
      by_cases hi : i < δ.length
      · rw [List.getElem?_set_self hi] at h; cases h
      · rw [List.getElem?_eq_none (by simp; omega)] at h; cases h
    · rw [List.getElem?_set_ne hj] at h
      obtain ⟨w,k1,k2,k3⟩:=r.own j ys h
      exact ⟨w,k1,by rw [List.getElem?_set_ne hj]; exact k2,k3⟩
  · have nj : i≠j:=fun z => by
      subst z
      by_cases hi : i < δ.length
      · rw [List.getElem?_set_self hi] at h1; cases h1
      · rw [List.getElem?_eq_none (by simp; omega)] at h1; cases h1
    have nl : i≠l:=fun z => by
      subst z
      by_cases hi : i < δ.length
      · rw [List.getElem?_set_self hi] at h2; cases h2
      · rw [List.getElem?_eq_none (by simp; omega)] at h2; cases h2
    rw [List.getElem?_set_ne nj] at h1 ⊢
    rw [List.getElem?_set_ne nl] at h2 ⊢
    exact r.apart j l ys zs hjl h1 h2
end
section
variable {X : Cx} {e : Expr} {f : Dv→Option PyData} {pos p : Pos}
theorem ds_set {i : Nat} {x : Str} {pos' : Pos} (hN : X.N.Nodup) (hi : X.N[i]? = some x) (hx : Loc X.env.scope x) (he : DE X e f) (hs : swapsWith e (some (.Name x pos')) pos.line X.env = pure false := by rfl) (hf : X.fn x = true∨X.env.scope.names.lookup x = some .local := by first | exact .inl rfl | exact .inr rfl | assumption) :
    DS X (.Assign [.Name x pos'] e pos) (fun δ => (f δ).map fun y => .nx (δ.set i (.d y))) := by
  obtain ⟨t,p,k⟩:=he
  refine ⟨_,ps_set hN hi hx p hs hf,fun δ r h G0 H0 G H σ D R q => ?_⟩
  obtain ⟨y,h1,rfl⟩:=Option.map_eq_some_iff.mp h
  exact k δ y h1 G0 H0 G H σ [] _ R fun v G' H' R' => q _ _ _ R'.setD
end
section
variable {G0 H0 G H : Hp} {σ : St} {δ : Dv} {ts : List (PyData×V)}
theorem Rw.base (r : Rw G0 H0 G H σ δ ts) : Rw G H0 G H σ δ ts:={ r with ext:=Same.refl G,new:=fun _ _ h => .inl h }
theorem Nw.trans {G1 G2 : Hp} (a : Nw G0 H0 G1) (b : Nw G1 H0 G2) : Nw G0 H0 G2:=fun c o h => by
  rcases b c o h with z | z | z
  · exact a c o z
  · exact .inr (.inl z)
  · exact .inr (.inr z)
theorem Rw.unbase {G' H' : Hp} {σ' : St} {δ' : Dv} {ts' : List (PyData×V)} (r : Rw G0 H0 G H σ δ ts) (q : Rw G H0 G' H' σ' δ' ts') : Rw G0 H0 G' H' σ' δ' ts':={ q with ext:=r.ext.trans q.ext,new:=r.new.trans q.new }
def frz (i : Nat) (δ : Dv) : Dv:=match δ[i]? with
  | some (.own (.lst xs)) => δ.set i (.d (.list xs))
  | _ => δ
theorem Rw.frz (i : Nat) (r : Rw G0 H0 G H σ δ ts) : ∃ G',Rw G0 H0 G' H σ (L2.frz i δ) ts := by
  unfold L2.frz
  split
  · rename_i xs hi
    obtain ⟨a,_,k1,k2,k3,k4,⟨ys,rfl,k5⟩⟩:=r.own i _ hi
    have e : Same G (upd G a (.lst ys)):=same_new k2 _
    have hlt : i < δ.length:=(List.getElem?_eq_some_iff.mp hi).1
    refine ⟨upd G a (.lst ys),r.ext.trans e,fun b o h => ?_,fun b o h => ?_,r.keep,by simp [r.len],fun j y h => ?_,fun j zs h => ?_,fun j l us ws hjl h1 h2 => ?_,fun q hq => (r.tmp q hq).same e⟩
    · by_cases hb : b = a
      · subst hb; exact .inr (.inl k3)
      · rw [upd_ne hb] at h; exact r.new _ _ h
    · by_cases hb : b = a
      · subst hb; rw [upd_same] at h; rw [k4]; exact h
      · rw [upd_ne hb] at h; exact r.ins _ _ h
    · by_cases hj : i = j
      · subst hj
        rw [List.getElem?_set_self hlt] at h
        cases h
        refine ⟨.ref a,k1,?_⟩
        rw [Du]
        exact ⟨a,ys,rfl,upd_same,k5.same e⟩
      · rw [List.getElem?_set_ne hj] at h
        obtain ⟨w,m1,m2⟩:=r.dat j y h
        exact ⟨w,m1,m2.same e⟩
    · by_cases hj : i = j
      · subst hj; rw [List.getElem?_set_self hlt] at h; cases h
      · rw [List.getElem?_set_ne hj] at h
        obtain ⟨b,us,m1,m2,m3,m4,m5⟩:=r.own j zs h
        have nb : b≠a:=fun z => by subst z; exact r.apart i j _ zs hj hi h (by rw [k1,m1])
        exact ⟨b,us,m1,by rw [upd_ne nb]; exact m2,m3,m4,m5.same e⟩
    · have nj : i≠j:=fun z => by subst z; rw [List.getElem?_set_self hlt] at h1; cases h1
      have nl : i≠l:=fun z => by subst z; rw [List.getElem?_set_self hlt] at h2; cases h2
      rw [List.getElem?_set_ne nj] at h1
      rw [List.getElem?_set_ne nl] at h2
      exact r.apart j l us ws hjl h1 h2
  · exact ⟨G,r⟩
theorem Rw.setOwn {i : Nat} {xs : Oc} {ys : HO} {a : Addr} (r : Rw G0 H0 G H σ δ ts) (d : OcOk G xs ys) (ha : H a = none) : Rw G0 H0 G (upd H a ys) (σ.set i (some (.ref a))) (δ.set i (.own xs)) ts := by
  have hG : G a = none := by
    cases q : G a with
    | none => rfl
    | some u => rw [r.ins _ _ q] at ha; cases ha
  have h0 : H0 a = none := by
    cases q : H0 a with
    | none => rfl
    | some u => rw [r.keep _ _ q] at ha; cases ha
  have e : Same H (upd H a ys):=same_new ha _
  have hl:=r.len
  have other : ∀ (j : Nat) (zs : Oc),i≠j→(δ.set i (.own xs))[j]? = some (L.own zs)→δ[j]? = some (L.own zs):=fun j zs hj h => by rw [List.getElem?_set_ne hj] at h; exact h
  have nota : ∀ (j : Nat) (zs : Oc),δ[j]? = some (L.own zs)→σ[j]?≠some (some (V.ref a)):=fun j zs h z => by
    obtain ⟨b,us,m1,m2,m3,m4,m5⟩:=r.own j zs h
    rw [z] at m1; cases m1
    rw [m4] at ha; cases ha
  refine ⟨r.ext,r.new,r.ins.trans e,r.keep.trans e,by simp [hl],fun j y h => ?_,fun j zs h => ?_,fun j l us ws hjl h1 h2 => ?_,r.tmp⟩
  · by_cases hj : i = j
    · subst hj
      by_cases hi : i < δ.length
      · rw [List.getElem?_set_self hi] at h; cases h
      · rw [List.getElem?_eq_none (by simp; omega)] at h; cases h
    · rw [List.getElem?_set_ne hj] at h
      obtain ⟨w,m1,m2⟩:=r.dat j y h
      exact ⟨w,by rw [List.getElem?_set_ne hj]; exact m1,m2⟩
  · by_cases hj : i = j
    · subst hj
      by_cases hi : i < δ.length
      · rw [List.getElem?_set_self hi] at h; cases h
        exact ⟨a,ys,by rw [List.getElem?_set_self (by omega)],hG,h0,upd_same,d⟩
      · rw [List.getElem?_eq_none (by simp; omega)] at h; cases h
    · have h:=other j zs hj h
      obtain ⟨b,us,m1,m2,m3,m4,m5⟩:=r.own j zs h
      exact ⟨b,us,by rw [List.getElem?_set_ne hj]; exact m1,m2,m3,e _ _ m4,m5⟩
  · by_cases hj : i = j
    · subst hj
      have hl2 : i≠l:=hjl
      have h2:=other l ws hl2 h2
      by_cases hi : i < δ.length
      · rw [List.getElem?_set_self (by omega),List.getElem?_set_ne hl2]
        exact fun z => nota l ws h2 z.symm
      · rw [List.getElem?_eq_none (by simp; omega)] at h1; cases h1
    · have h1:=other j us hj h1
      by_cases hk : i = l
      · subst hk
        by_cases hi : i < δ.length
        · rw [List.getElem?_set_self (by omega),List.getElem?_set_ne hj]
          exact fun z => nota j us h1 z
        · rw [List.getElem?_eq_none (by simp; omega)] at h2; cases h2
      · have h2:=other l ws hk h2
        rw [List.getElem?_set_ne hj,List.getElem?_set_ne hk]
        exact r.apart j l us ws hjl h1 h2
theorem Rw.chOwn {i : Nat} {xs xs' : Oc} {ys : HO} {a : Addr} (r : Rw G0 H0 G H σ δ ts) (hi : δ[i]? = some (.own xs)) (ha : σ[i]? = some (some (.ref a))) (d : OcOk G xs' ys) : Rw G0 H0 G (upd H a ys) σ (δ.set i (.own xs')) ts := by
  obtain ⟨a',ys0,k1,k2,k3,k4,k5⟩:=r.own i xs hi
  rw [ha] at k1; cases k1
  have hlt : i < δ.length:=(List.getElem?_eq_some_iff.mp hi).1
  have hl:=r.len
  refine ⟨r.ext,r.new,fun b o h => ?_,fun b o h => ?_,by simp [hl],fun j y h => ?_,fun j zs h => ?_,fun j l us ws hjl h1 h2 => ?_,r.tmp⟩
  · rw [upd_ne (fun z => by subst z; rw [k2] at h; cases h)]; exact r.ins _ _ h
  · rw [upd_ne (fun z => by subst z; rw [k3] at h; cases h)]; exact r.keep _ _ h
  · by_cases hj : i = j
    · subst hj; rw [List.getElem?_set_self hlt] at h; cases h
    · rw [List.getElem?_set_ne hj] at h; exact r.dat j y h
  · by_cases hj : i = j
    · subst hj; rw [List.getElem?_set_self hlt] at h; cases h
      exact ⟨a,ys,ha,k2,k3,upd_same,d⟩
    · rw [List.getElem?_set_ne hj] at h
      obtain ⟨b,us,m1,m2,m3,m4,m5⟩:=r.own j zs h
      have nb : b≠a:=fun z => by subst z; exact r.apart i j xs zs hj hi h (by rw [ha,m1])
      exact ⟨b,us,m1,m2,m3,by rw [upd_ne nb]; exact m4,m5⟩
  · have f : ∀ (j : Nat) (us : Oc),(δ.set i (.own xs'))[j]? = some (L.own us)→∃ us',δ[j]? = some (L.own us'):=fun j us h => by
      by_cases hj : i = j
      · subst hj; exact ⟨xs,hi⟩
      · rw [List.getElem?_set_ne hj] at h; exact ⟨us,h⟩
    obtain ⟨us',h1⟩:=f j us h1
    obtain ⟨ws',h2⟩:=f l ws h2
    exact r.apart j l us' ws' hjl h1 h2
end
section
variable {X : Cx} {a b c e : Expr} {es : List Expr} {f g h : Dv→Option PyData} {fs : Dv→Option (List PyData)} {fa : Dv→Option Bool} {pos p : Pos} {st : Stmt} {sts sts' : List Stmt} {F F1 F2 : DF}
theorem ds_frz (i : Nat) (h1 : DS X st F) : DS X st (fun δ => F (frz i δ)) := by
  obtain ⟨t,p,k⟩:=h1
  refine ⟨t,p,fun δ r h G0 H0 G H σ D R q => ?_⟩
  obtain ⟨G',R'⟩:=R.frz i
  exact k _ r h G0 H0 G' H σ D R' q
theorem ds_own {i : Nat} {x : Str} {pos' lp : Pos} (hN : X.N.Nodup) (hi : X.N[i]? = some x) (hx : Loc X.env.scope x) (ha : DA X es fs) (hs : swapsWith (.List es lp) (some (.Name x pos')) pos.line X.env = pure false := by rfl) (hf : X.fn x = true∨X.env.scope.names.lookup x = some .local := by first | exact .inl rfl | exact .inr rfl | assumption) :
    DS X (.Assign [.Name x pos'] (.List es lp) pos) (fun δ => ((fs δ).bind few).map fun ys => .nx (δ.set i (.own (.lst ys)))) := by
  obtain ⟨t,p,k⟩:=ha
  refine ⟨_,ps_set hN hi hx (pe_lst p) hs hf,fun δ r h G0 H0 G H σ D R q => ?_⟩
  obtain ⟨y,h1,rfl⟩:=Option.map_eq_some_iff.mp h
  obtain ⟨xs,h2,h3⟩:=Option.bind_eq_some_iff.mp h1
  obtain ⟨rfl,hl⟩:=few_eq h3
  refine k δ _ h2 G0 H0 G H σ [] _ R fun vs G1 H1 R1 hv => ?_
  obtain ⟨d,R2⟩:=R1.args hv
  exact ⟨dMax_le (by rw [hv]; exact hl),fun l hl' => q _ _ _ (R2.setOwn ⟨_,rfl,d⟩ hl')⟩
def ow (i : Nat) (δ : Dv) : Option (List PyData):=match δ[i]? with
  | some (.own (.lst xs)) => some xs
  | _ => none
theorem ow_eq {i : Nat} {δ : Dv} {xs : List PyData} (h : ow i δ = some xs) : δ[i]? = some (.own (.lst xs)) := by
  unfold ow at h
  split at h
  · rename_i y e; cases h; exact e
  · cases h
theorem ds_append {i : Nat} {x : Str} {np ap cp : Pos} (hv : PE X (.Name x np) (tVar i)) (he : DE X e f)
    (hP : ∀ {to : TE} {t : TA},PE X (.Name x np) to→PA X [e] t→PS X (.Expr (.Call (.Attribute (.Name x np) "append" ap) [e] [] cp) pos) (tDrop (tBM X.K "list" rAppend to t))) (hs1 : starEach [e] X.env = (false,eval e X.env) :: starEach [] X.env := by rfl) :
    DS X (.Expr (.Call (.Attribute (.Name x np) "append" ap) [e] [] cp) pos) (fun δ => (f δ).bind fun y => (ow i δ).bind fun xs => if xs.length < dMax then some (.nx (δ.set i (.own (.lst (xs ++ [y]))))) else none) := by
  obtain ⟨t,p,k⟩:=he
  refine ⟨_,hP hv (pa_cons p pa_nil hs1),fun δ r h G0 H0 G H σ D R q => ?_⟩
  obtain ⟨y,h1,h2⟩:=Option.bind_eq_some_iff.mp h
  obtain ⟨xs,h3,h4⟩:=Option.bind_eq_some_iff.mp h2
  split at h4
  · rename_i hl
    cases h4
    have hi:=ow_eq h3
    obtain ⟨a,_,k1,k2,k3,k4,⟨ys,rfl,k5⟩⟩:=R.own i _ hi
    refine ⟨.ref a,k1,.inl ⟨rfl,ys,SqL.of k4⟩,?_⟩
    refine k δ y h1 G0 H0 G H σ [] _ R fun u G1 H1 R1 => ?_
    obtain ⟨a',_,m1,m2,m3,m4,⟨zs,rfl,m5⟩⟩:=R1.own i _ hi
    rw [k1] at m1; cases m1
    refine ⟨a,zs,u,rfl,rfl,m4,dMax_lt (by rw [m5.len]; omega),?_⟩
    exact q _ _ _ (R1.drop.chOwn hi k1 ⟨_,rfl,m5.app (.cons (R1.tmp _ (.head _)) .nil)⟩)
  · cases h4
theorem ds_extend {i : Nat} {x : Str} {np ap cp : Pos} (hv : PE X (.Name x np) (tVar i)) (he : DE X e f)
    (hP : ∀ {to : TE} {t : TA},PE X (.Name x np) to→PA X [e] t→PS X (.Expr (.Call (.Attribute (.Name x np) "extend" ap) [e] [] cp) pos) (tDrop (tBM X.K "list" rExtend to t))) (hs1 : starEach [e] X.env = (false,eval e X.env) :: starEach [] X.env := by rfl) :
    DS X (.Expr (.Call (.Attribute (.Name x np) "extend" ap) [e] [] cp) pos) (fun δ => (f δ).bind fun y => (ow i δ).bind fun xs => match y with | .list zs => (if xs.length + zs.length≤dMax then some (.nx (δ.set i (.own (.lst (xs ++ zs))))) else none) | _ => none) := by
  obtain ⟨t,p,k⟩:=he
  refine ⟨_,hP hv (pa_cons p pa_nil hs1),fun δ r h G0 H0 G H σ D R q => ?_⟩
  obtain ⟨y,h1,h2⟩:=Option.bind_eq_some_iff.mp h
  obtain ⟨xs,h3,h4⟩:=Option.bind_eq_some_iff.mp h2
  split at h4
  · rename_i zs
    split at h4
    · rename_i hl
      cases h4
      have hi:=ow_eq h3
      obtain ⟨a,_,k1,k2,k3,k4,⟨ys,rfl,k5⟩⟩:=R.own i _ hi
      refine ⟨.ref a,k1,.inl ⟨rfl,ys,SqL.of k4⟩,?_⟩
      refine k δ _ h1 G0 H0 G H σ [] _ R fun u G1 H1 R1 => ?_
      obtain ⟨a',_,m1,m2,m3,m4,⟨us,rfl,m5⟩⟩:=R1.own i _ hi
      rw [k1] at m1; cases m1
      have du:=R1.tmp _ (.head _)
      rw [Du] at du
      obtain ⟨b,ws,rfl,n1,n2⟩:=du
      refine ⟨a,b,us,ws,rfl,rfl,m4,R1.ins _ _ n1,dMax_le (by rw [m5.len,n2.len]; exact hl),?_⟩
      exact q _ _ _ (R1.drop.chOwn hi k1 ⟨_,rfl,m5.app n2⟩)
    · cases h4
  · cases h4
theorem de_lenOwn {i : Nat} {x : Str} {np : Pos} (hv : PE X (.Name x np) (tVar i)) (hg : Gl X "len") (hm : X.mg "len" = none) (hs1 : starEach [.Name x np] X.env = (false,eval (.Name x np) X.env) :: starEach [] X.env := by rfl) (hpl : (backTo pos (starEach [] X.env)).any (·.1) = false := by rfl) :
    DE X (.Call (.Name "len" p) [.Name x np] [] pos) (fun δ => (ow i δ).map fun xs => .int xs.length) := by
  refine ⟨_,pe_callB call_len_seq hg hm PySem.boot_len (pa_cons hv pa_nil hs1) (by decide) (by decide) hs1 hpl,fun δ z hz G0 H0 G H σ ts Q R0 k => ?_⟩
  obtain ⟨xs,h1,rfl⟩:=Option.map_eq_some_iff.mp hz
  obtain ⟨a,_,k1,k2,k3,k4,⟨ys,rfl,k5⟩⟩:=R0.own i _ (ow_eq h1)
  refine ⟨.ref a,k1,a,ys,rfl,.inl (SqL.of k4),?_⟩
  rw [k5.len]
  exact k _ _ _ (R0.put (by rw [Du]))
theorem de_ixOwn {i : Nat} {x : Str} {np : Pos} (hv : PE X (.Name x np) (tVar i)) (hb : DE X b g) (hs : PlainIx b) : DE X (.Subscript (.Name x np) b pos) (fun δ => (g δ).bind fun y => (ow i δ).bind fun xs => (asI y).bind fun k => atI xs k) := by
  obtain ⟨tb,pb,kb⟩:=hb
  refine ⟨_,pe_ix ix_list hv pb hs,fun δ z hz G0 H0 G H σ ts Q R0 k => ?_⟩
  obtain ⟨y,h1,h2⟩:=Option.bind_eq_some_iff.mp hz
  obtain ⟨xs,h3,h4⟩:=Option.bind_eq_some_iff.mp h2
  obtain ⟨j,h5,h6⟩:=Option.bind_eq_some_iff.mp h4
  have:=asI_eq h5; subst this
  obtain ⟨a,_,k1,k2,k3,k4,⟨ys,rfl,k5⟩⟩:=R0.own i _ (ow_eq h3)
  refine ⟨.ref a,k1,?_⟩
  refine kb δ _ h1 G0 H0 G H σ ts _ R0 fun v G1 H1 R1 => ?_
  have dv:=R1.tmp _ (.head _)
  rw [Du] at dv
  obtain ⟨a',_,m1,m2,m3,m4,⟨us,rfl,m5⟩⟩:=R1.own i _ (ow_eq h3)
  rw [k1] at m1; cases m1
  obtain ⟨w,h7,h8⟩:=m5.atI h6
  exact ⟨a,us,j,w,rfl,dv,SqL.of m4,h7,k _ _ _ (R1.drop.put h8)⟩
end
structure ItOk (J : It) (xs : List PyData) (G : Hp) : Prop where
  stop : ∀ H,Same G H→J.stop xs.length H
  go : ∀ (i : Nat) (d : PyData) H,xs[i]? = some d→Same G H→J.go i H
  yld : ∀ (i : Nat) (d : PyData) H x H',xs[i]? = some d→Same G H→J.yld i H x H'→∀ Gc,Same G Gc→Same Gc H→∃ Gc',Same Gc Gc'∧Nw Gc H Gc'∧Same Gc' H'∧Same H H'∧Du Gc' d x
theorem Nw.refl {G H : Hp} : Nw G H G:=fun _ _ h => .inl h
theorem it_list {K : PySem.W.Frag} {G : Hp} {a : Addr} {ys : List V} {xs : List PyData} (ha : G a = some (.lst ys)) (d : DuA G xs ys) : ItOk (Itl K a) xs G where
  stop:=fun H e => ⟨ys,SqL.of (e _ _ ha),by rw [d.len]; exact Nat.le_refl _⟩
  go:=fun i x H hx e => by
    obtain ⟨v,h1,_⟩:=d.get hx
    exact ⟨ys,v,SqL.of (e _ _ ha),h1⟩
  yld:=fun i x H v H' hx e y Gc e1 e2 => by
    obtain ⟨rfl,y⟩:=y
    have h1:=y ys (SqL.of (e _ _ ha))
    obtain ⟨x',h2,h3⟩:=d.back h1
    rw [hx] at h2; cases h2
    exact ⟨Gc,Same.refl _,Nw.refl,e2,Same.refl _,h3.same e1⟩
theorem it_tup {K : PySem.W.Frag} {G : Hp} {a : Addr} {ys : List V} {xs : List PyData} (ha : G a = some (.tup ys)) (d : DuA G xs ys) : ItOk (Itt K a) xs G where
  stop:=fun H e => ⟨ys,SqT.of (e _ _ ha),by rw [d.len]; exact Nat.le_refl _⟩
  go:=fun i x H hx e => by
    obtain ⟨v,h1,_⟩:=d.get hx
    exact ⟨ys,v,SqT.of (e _ _ ha),h1⟩
  yld:=fun i x H v H' hx e y Gc e1 e2 => by
    obtain ⟨rfl,y⟩:=y
    have h1:=y ys (SqT.of (e _ _ ha))
    obtain ⟨x',h2,h3⟩:=d.back h1
    rw [hx] at h2; cases h2
    exact ⟨Gc,Same.refl _,Nw.refl,e2,Same.refl _,h3.same e1⟩
def rngD (lo : Int) (n : Nat) : List PyData:=(List.range n).map fun k => .int (lo + (k : Nat))
theorem it_rng {G : Hp} {lo : Int} {n : Nat} : ItOk (Itr lo n) (rngD lo n) G where
  stop:=fun H e => by show n≤_; simp [rngD]
  go:=fun i x H hx e => by
    have:=(List.getElem?_eq_some_iff.mp hx).1
    show i < n
    simpa [rngD] using this
  yld:=fun i x H v H' hx e y Gc e1 e2 => by
    obtain ⟨rfl,rfl⟩:=y
    unfold rngD at hx
    rw [List.getElem?_map] at hx
    obtain ⟨k,h1,rfl⟩:=Option.map_eq_some_iff.mp hx
    have hk : k = i := by
      have:=(List.getElem?_eq_some_iff.mp h1).1
      rw [List.getElem?_range (by simpa using this)] at h1
      cases h1; rfl
    subst hk
    exact ⟨Gc,Same.refl _,Nw.refl,e2,Same.refl _,by rw [Du]⟩
theorem pair_new {Gc H : Hp} {p : Addr} {d1 d2 : PyData} {v1 v2 : V} (e2 : Same Gc H) (hp : H p = none) (h1 : Du Gc d1 v1) (h2 : Du Gc d2 v2) :
    ∃ Gc',Same Gc Gc'∧Nw Gc H Gc'∧Same Gc' (upd H p (.tup [v1,v2]))∧Same H (upd H p (.tup [v1,v2]))∧Du Gc' (.tuple [d1,d2]) (.ref p) := by
  have hG : Gc p = none := by
    cases q : Gc p with
    | none => rfl
    | some u => rw [e2 _ _ q] at hp; cases hp
  have e : Same Gc (upd Gc p (.tup [v1,v2])):=same_new hG _
  refine ⟨upd Gc p (.tup [v1,v2]),e,fun a o h => ?_,fun a o h => ?_,same_new hp _,?_⟩
  · by_cases ha : a = p
    · subst ha; exact .inr (.inl hp)
    · rw [upd_ne ha] at h; exact .inl h
  · by_cases ha : a = p
    · subst ha; rw [upd_same] at h ⊢; exact h
    · rw [upd_ne ha] at h ⊢; exact e2 _ _ h
  · rw [Du]; exact ⟨p,[v1,v2],rfl,upd_same,.cons (h1.same e) (.cons (h2.same e) .nil)⟩
def zipD (xs ys : List PyData) : List PyData:=(xs.zip ys).map fun q => .tuple [q.1,q.2]
theorem zipD_get {xs ys : List PyData} {i : Nat} {d : PyData} (h : (zipD xs ys)[i]? = some d) : ∃ x y,xs[i]? = some x∧ys[i]? = some y∧d = .tuple [x,y] := by
  unfold zipD at h
  rw [List.getElem?_map] at h
  obtain ⟨q,h1,rfl⟩:=Option.map_eq_some_iff.mp h
  obtain ⟨k1,k2⟩:=List.getElem?_zip_eq_some.mp h1
  exact ⟨q.1,q.2,k1,k2,rfl⟩
theorem it_zip {G : Hp} {b1 b2 : Bool} {a1 a2 : Addr} {us vs : List V} {xs ys : List PyData} (h1 : G a1 = some (if b1 then .tup us else .lst us)) (h2 : G a2 = some (if b2 then .tup vs else .lst vs)) (d1 : DuA G xs us) (d2 : DuA G ys vs) : ItOk (Itz b1 b2 a1 a2) (zipD xs ys) G where
  stop:=fun H e => by
    have k1:=e _ _ h1
    have k2:=e _ _ h2
    refine ⟨us,vs,?_,?_,?_⟩
    · cases b1 <;> simpa [SqH] using k1
    · cases b2 <;> simpa [SqH] using k2
    · rw [d1.len,d2.len]; simp [zipD]; omega
  go:=fun i x H hx e => by
    obtain ⟨x1,x2,k1,k2,rfl⟩:=zipD_get hx
    obtain ⟨v1,k3,_⟩:=d1.get k1
    obtain ⟨v2,k4,_⟩:=d2.get k2
    have m1:=e _ _ h1
    have m2:=e _ _ h2
    refine ⟨us,v1,vs,v2,?_,?_,k3,k4⟩
    · cases b1 <;> simpa [SqH] using m1
    · cases b2 <;> simpa [SqH] using m2
  yld:=fun i x H v H' hx e y Gc e1 e2 => by
    obtain ⟨x1,x2,k1,k2,rfl⟩:=zipD_get hx
    obtain ⟨p,v1,v2,rfl,hp,rfl,y1,y2⟩:=y
    have m1:=e _ _ h1
    have m2:=e _ _ h2
    have z1:=y1 us (by cases b1 <;> simpa [SqH] using m1)
    have z2:=y2 vs (by cases b2 <;> simpa [SqH] using m2)
    obtain ⟨w1,n1,n2⟩:=d1.back z1
    obtain ⟨w2,n3,n4⟩:=d2.back z2
    rw [k1] at n1; cases n1
    rw [k2] at n3; cases n3
    exact pair_new e2 hp (n2.same e1) (n4.same e1)
def DI (X : Cx) (tg iter : Expr) (f : Dv→Option (List PyData)) : Prop:=∃ wi,PI X tg iter wi∧∀ δ xs,f δ = some xs→∀ G0 H0 G H σ ts (R : It→Hp→Prop),Rw G0 H0 G H σ δ ts→(∀ J G' H',Rw G0 H0 G' H' σ δ ts→ItOk J xs G'→R J H')→wi σ H R
section
variable {X : Cx} {tg a b c e : Expr} {es : List Expr} {f g h : Dv→Option PyData} {fs : Dv→Option (List PyData)} {fa : Dv→Option Bool} {pos p : Pos} {st : Stmt} {sts sts' : List Stmt} {F F1 F2 : DF}
theorem PI.or {wi wi' : TI} (h : PI X tg e wi) (h' : PI X tg e wi') : PI X tg e (fun σ H R => wi σ H R∨wi' σ H R):=fun pins s σ H R I q => by
  rcases q with q | q
  · exact h pins s σ H R I q
  · exact h' pins s σ H R I q
def seqOf : PyData→Option (List PyData)
  | .list xs => some xs
  | .tuple xs => some xs
  | _ => none
theorem di_seq (he : DE X e f) : DI X tg e (fun δ => (f δ).bind seqOf) := by
  obtain ⟨t,p,k⟩:=he
  refine ⟨_,(pi_list p).or (pi_tup p),fun δ xs h G0 H0 G H σ ts R R0 q => ?_⟩
  obtain ⟨x,h1,h2⟩:=Option.bind_eq_some_iff.mp h
  unfold seqOf at h2
  split at h2
  · cases h2
    left
    refine k δ _ h1 G0 H0 G H σ ts _ R0 fun v G' H' R' => ?_
    have du:=R'.tmp _ (.head _)
    rw [Du] at du
    obtain ⟨a,ys,rfl,n1,n2⟩:=du
    exact ⟨a,rfl,⟨ys,SqL.of (R'.ins _ _ n1)⟩,q _ _ _ R'.drop (it_list n1 n2)⟩
  · cases h2
    right
    refine k δ _ h1 G0 H0 G H σ ts _ R0 fun v G' H' R' => ?_
    have du:=R'.tmp _ (.head _)
    rw [Du] at du
    obtain ⟨a,ys,rfl,n1,n2⟩:=du
    exact ⟨a,rfl,⟨ys,SqT.of (R'.ins _ _ n1)⟩,q _ _ _ R'.drop (it_tup n1 n2)⟩
  · cases h2
def rng1 : List PyData→Option (List PyData)
  | [.int j] => if -1000000≤j∧j≤1000000 then some (rngD 0 j.toNat) else none
  | _ => none
theorem di_range1 (hg : Gl X "range") (hm : X.mg "range" = none) (ha : DA X [a] fs) (hs : starEach [a] X.env = [(false,eval a X.env)] := by rfl) : DI X tg (.Call (.Name "range" p) [a] [] pos) (fun δ => (fs δ).bind rng1) := by
  obtain ⟨t,p,k⟩:=ha
  refine ⟨_,pi_range1 hg hm p hs,fun δ xs h G0 H0 G H σ ts R R0 q => ?_⟩
  obtain ⟨x,h1,h2⟩:=Option.bind_eq_some_iff.mp h
  refine k δ _ h1 G0 H0 G H σ ts _ R0 fun vs G' H' R' hv => ?_
  obtain ⟨d,R2⟩:=R'.args hv
  unfold rng1 at h2
  split at h2
  · split at h2
    · cases h2
      obtain ⟨u,rfl,du⟩:=d.un1
      rw [Du] at du; subst du
      exact ⟨_,rfl,by omega,by omega,q _ _ _ R2 it_rng⟩
    · cases h2
  · cases h2
def zip2 : List PyData→Option (List PyData)
  | [x,y] => (seqOf x).bind fun xs => (seqOf y).map fun ys => zipD xs ys
  | _ => none
theorem seq_at {G : Hp} {x : PyData} {v : V} {xs : List PyData} (h : Du G x v) (e : seqOf x = some xs) : ∃ (b : Bool) (a : Addr) (ys : List V),v = .ref a∧G a = some (if b then .tup ys else .lst ys)∧DuA G xs ys := by
  unfold seqOf at e
  split at e
  · cases e
    rw [Du] at h
    obtain ⟨a,ys,rfl,n1,n2⟩:=h
    exact ⟨false,a,ys,rfl,n1,n2⟩
  · cases e
    rw [Du] at h
    obtain ⟨a,ys,rfl,n1,n2⟩:=h
    exact ⟨true,a,ys,rfl,n1,n2⟩
  · cases e
theorem di_zip {elts : List Expr} {x1} {tpos : Pos} (hg : Gl X "zip") (hm : X.mg "zip" = none) (ha : DA X [a,b] fs) (hs : starEach [a,b] X.env = [(false,eval a X.env),(false,eval b X.env)] := by rfl) (hs2 : starEach [b] X.env = [(false,eval b X.env)] := by rfl) :
    DI X (.Tuple elts x1 tpos) (.Call (.Name "zip" p) [a,b] [] pos) (fun δ => (fs δ).bind zip2) := by
  obtain ⟨t,p,k⟩:=ha
  refine ⟨_,pi_zip hg hm p hs hs2,fun δ xs h G0 H0 G H σ ts R R0 q => ?_⟩
  obtain ⟨x,h1,h2⟩:=Option.bind_eq_some_iff.mp h
  refine k δ _ h1 G0 H0 G H σ ts _ R0 fun vs G' H' R' hv => ?_
  obtain ⟨d,R2⟩:=R'.args hv
  unfold zip2 at h2
  split at h2
  · obtain ⟨xs1,h3,h4⟩:=Option.bind_eq_some_iff.mp h2
    obtain ⟨ys1,h5,rfl⟩:=Option.map_eq_some_iff.mp h4
    obtain ⟨u,v,rfl,du,dv⟩:=d.un2
    obtain ⟨b1,a1,us,rfl,n1,n2⟩:=seq_at du h3
    obtain ⟨b2,a2,ws,rfl,m1,m2⟩:=seq_at dv h5
    have s1:=R2.ins _ _ n1
    have s2:=R2.ins _ _ m1
    exact ⟨b1,b2,a1,a2,rfl,⟨us,by cases b1 <;> simpa [SqH] using s1⟩,⟨ws,by cases b2 <;> simpa [SqH] using s2⟩,q _ _ _ R2 (it_zip n1 m1 n2 m2)⟩
  · cases h2
def DG (X : Cx) (tg : Expr) (set : PyData→Dv→Option Dv) : Prop:=∃ g,PG X tg g∧∀ δ x δ',set x δ = some δ'→∀ G0 H0 G H σ v (Q : St→Hp→Prop),Rw G0 H0 G H σ δ [(x,v)]→(∀ σ' G' H',Rw G0 H0 G' H' σ' δ' []→Q σ' H')→g v σ H Q
theorem dg_name {i : Nat} {x : Str} (h : PG X (.Name x pos) (gName i)) : DG X (.Name x pos) (fun y δ => some (δ.set i (.d y))) :=
  ⟨_,h,fun δ y δ' e G0 H0 G H σ v Q R k => by cases e; exact k _ _ _ R.setD⟩
def set2 (i j : Nat) (y : PyData) (δ : Dv) : Option Dv:=match y with
  | .tuple [u,v] => some ((δ.set i (.d u)).set j (.d v))
  | _ => none
theorem dg_two {x y : Str} {i j : Nat} {px py : Pos} {k1} (h : PG X (.Tuple [.Name x px,.Name y py] k1 pos) (gTup X.K 2 (gCons (gName i) (gCons (gName j) gNil)))) : DG X (.Tuple [.Name x px,.Name y py] k1 pos) (set2 i j) := by
  refine ⟨_,h,fun δ z δ' e G0 H0 G H σ v Q R k => ?_⟩
  unfold set2 at e
  split at e
  · cases e
    have du:=R.tmp _ (.head _)
    rw [Du] at du
    obtain ⟨a,ys,rfl,n1,n2⟩:=du
    obtain ⟨w1,w2,rfl,m1,m2⟩:=n2.un2
    refine ⟨a,[w1,w2],rfl,SqT.of (R.ins _ _ n1),rfl,w1,[w2],rfl,w2,[],rfl,rfl,?_⟩
    exact k _ _ _ (((R.drop.put m2).put m1).setD.setD)
  · cases e
def forD (set : PyData→Dv→Option Dv) (body : DF) : List PyData→Dv→Option Ou
  | [],δ => some (.nx δ)
  | x :: xs,δ => match (set x δ).bind body with
    | some (.nx δ') => forD set body xs δ'
    | some (.ct δ') => forD set body xs δ'
    | some (.bk δ') => some (.nx δ')
    | some (.rt v) => some (.rt v)
    | some (.rn v) => some (.rn v)
    | none => none
theorem ds_for {set : PyData→Dv→Option Dv} (hp : PassesOwn (model X.prog X.w) X.A X.env X.xe) (hc : X.calm = true) (hi : DI X tg e fs) (hg : DG X tg set) (hb : DSs X sts F) (hs : ∀ x,foldedSetIterable e X.env x = pure x := by intro _; rfl) :
    DS X (.For tg e sts [] pos) (fun δ => (fs δ).bind fun xs => forD set F xs δ) := by
  obtain ⟨wi,pi,ki⟩:=hi
  obtain ⟨g,pg,kg⟩:=hg
  obtain ⟨tb,pb,kb⟩:=hb
  refine ⟨_,ps_for hp hc pi pg pb hs,fun δ r h G0 H0 G H σ D R q => ?_⟩
  obtain ⟨xs,h1,h2⟩:=Option.bind_eq_some_iff.mp h
  refine ki δ xs h1 G0 H0 G H σ [] _ R fun J Ga Ha Ra it => ?_
  refine ⟨fun i m σ' H' => m = xs.length - i∧i≤xs.length∧∃ δ' G',forD set F (xs.drop i) δ' = some r∧Rw G0 H0 G' H' σ' δ' []∧Same Ga G',⟨xs.length,by simp,Nat.zero_le _,δ,Ga,by simpa using h2,Ra,Same.refl _⟩,?_⟩
  rintro i m σ1 H1 ⟨rfl,hi,δ1,G1,f1,R1,s1⟩
  have sH : Same Ga H1:=s1.trans R1.ins
  by_cases hlt : i < xs.length
  · right
    have hx : xs[i]? = some xs[i] := by simp [hlt]
    refine ⟨it.go i _ H1 hx sH,fun σ' H' => i + 1≤xs.length∧∃ δ' G',forD set F (xs.drop (i + 1)) δ' = some r∧Rw G0 H0 G' H' σ' δ' []∧Same Ga G',fun σ' H' n => ⟨xs.length - (i + 1),by omega,rfl,n⟩,fun x H' y => ?_⟩
    obtain ⟨G2,e1,e2,e3,e4,e5⟩:=it.yld i _ H1 x H' hx sH y G1 s1 R1.ins
    have R2:=(R1.lift e1 e2 e3 e4).put e5
    have s2:=s1.trans e1
    rw [List.drop_eq_getElem_cons hlt] at f1
    unfold forD at f1
    cases hb2 : (set xs[i] δ1).bind F with
    | none => rw [hb2] at f1; cases f1
    | some o =>
      obtain ⟨δ2,k1,k2⟩:=Option.bind_eq_some_iff.mp hb2
      rw [hb2] at f1
      have R2b:=R2.base
      refine kg δ1 _ δ2 k1 G2 H0 G2 H' σ1 x _ R2b fun σ3 G3 H3 R3 => ?_
      refine kb δ2 o k2 G2 H0 G3 H3 σ3 _ R3 ?_
      cases o with
      | nx δ3 => exact fun σ4 G4 H4 R4 => ⟨hlt,δ3,G4,f1,R2.drop.unbase R4,s2.trans R4.ext⟩
      | ct δ3 => exact fun σ4 G4 H4 R4 => ⟨hlt,δ3,G4,f1,R2.drop.unbase R4,s2.trans R4.ext⟩
      | bk δ3 => cases f1; exact fun σ4 G4 H4 R4 => q σ4 G4 H4 (R2.drop.unbase R4)
      | rt v => cases f1; exact fun w G4 H4 h1 h2 h3 h4 h5 => q w G4 H4 (R2.ext.trans h1) (R2.new.trans h2) h3 h4 h5
      | rn v => cases f1; exact fun w ys G4 H4 h1 h2 => q w ys G4 H4 (R2.ext.trans h1) (R2.new.trans h2)
  · left
    have e : i = xs.length := by omega
    subst e
    refine ⟨it.stop H1 sH,?_⟩
    rw [List.drop_length] at f1
    unfold forD at f1
    cases f1
    exact q _ _ _ R1
end
def tD (f : Dv→Option PyData) : TE:=fun σ H Q => ∃ δ x G0 H0 G ts,f δ = some x∧Rw G0 H0 G H σ δ ts∧∀ v G' H',Rw G0 H0 G' H' σ δ ((x,v) :: ts)→Q v H'
def tDT (f : Dv→Option Bool) : TT:=fun σ H Q => ∃ δ x G0 H0 G ts,f δ = some x∧Rw G0 H0 G H σ δ ts∧∀ G' H',Rw G0 H0 G' H' σ δ ts→Q x H'
theorem DE.pe {X : Cx} {e : Expr} {f : Dv→Option PyData} (h : DE X e f) : PE X e (tD f) := by
  obtain ⟨t,p,k⟩:=h
  intro pins s σ H Q I q
  obtain ⟨δ,x,G0,H0,G,ts,h1,h2,h3⟩:=q
  exact p pins s σ H Q I (k δ x h1 G0 H0 G H σ ts Q h2 h3)
theorem DT.pt {X : Cx} {e : Expr} {f : Dv→Option Bool} (h : DT X e f) : PT X e (tDT f) := by
  obtain ⟨t,p,k⟩:=h
  intro pins s σ H Q I q
  obtain ⟨δ,x,G0,H0,G,ts,h1,h2,h3⟩:=q
  exact p pins s σ H Q I (k δ x h1 G0 H0 G H σ ts Q h2 h3)
def DIf (X : Cx) (ifs : List Expr) (f : Dv→Option Bool) : Prop:=PIf X ifs (tDT f)
theorem dif_nil {X : Cx} : DIf X [] (fun _ => some true) := by
  intro pins s σ H Q I q
  obtain ⟨δ,x,G0,H0,G,ts,h1,h2,h3⟩:=q
  cases h1
  exact pif_nil pins s σ H Q I (h3 _ _ h2)
theorem dif_one {X : Cx} {c : Expr} {f : Dv→Option Bool} (h : DT X c f) : DIf X [c] f:=pif_one h.pt
def carryD (fr : List (Option Nat)) (δ : Dv) : Dv:=fr.map fun o => match o with
  | some j => (match δ[j]? with | some (.d x) => .d x | _ => .no)
  | none => .no
theorem Rw.inner {G0 H0 G H : Hp} {σ : St} {δ : Dv} {ts : List (PyData×V)} (fr : List (Option Nat)) (r : Rw G0 H0 G H σ δ ts) : Rw G H G H (carry fr σ) (carryD fr δ) ts := by
  have key : ∀ (i : Nat) (l : L),(carryD fr δ)[i]? = some l→∃ o,fr[i]? = some o∧l = (match o with | some j => (match δ[j]? with | some (.d x) => .d x | _ => .no) | none => .no):=fun i l h => by
    unfold carryD at h
    rw [List.getElem?_map] at h
    obtain ⟨o,h1,rfl⟩:=Option.map_eq_some_iff.mp h
    exact ⟨o,h1,rfl⟩
  have noown : ∀ (i : Nat) (xs : Oc),(carryD fr δ)[i]?≠some (L.own xs):=fun i xs h => by
    obtain ⟨o,_,h2⟩:=key i _ h
    split at h2
    · split at h2 <;> cases h2
    · cases h2
  refine ⟨Same.refl _,Nw.refl,r.ins,Same.refl _,by simp [carry,carryD],fun i x h => ?_,fun i xs h => absurd h (noown i xs),fun i j xs ys _ h => absurd h (noown i xs),r.tmp⟩
  obtain ⟨o,h1,h2⟩:=key i _ h
  split at h2
  · rename_i j
    split at h2
    · rename_i y hy
      cases h2
      obtain ⟨v,k1,k2⟩:=r.dat j _ hy
      refine ⟨v,?_,k2⟩
      unfold carry
      rw [List.getElem?_map,h1]
      simp [k1]
    · cases h2
  · cases h2
theorem Rw.other {G0 H0 G H : Hp} {σ : St} {δ : Dv} {ts : List (PyData×V)} {D : Addr} {o : HO} (r : Rw G0 H0 G H σ δ ts) (hG : G D = none) (h0 : H0 D = none) (ho : ∀ (i : Nat) (xs : Oc),δ[i]? = some (L.own xs)→σ[i]?≠some (some (V.ref D))) : Rw G0 H0 G (upd H D o) σ δ ts := by
  refine ⟨r.ext,r.new,fun a u h => ?_,fun a u h => ?_,r.len,r.dat,fun i xs h => ?_,r.apart,r.tmp⟩
  · rw [upd_ne (fun z => by subst z; rw [hG] at h; cases h)]; exact r.ins _ _ h
  · rw [upd_ne (fun z => by subst z; rw [h0] at h; cases h)]; exact r.keep _ _ h
  · obtain ⟨a,ys,k1,k2,k3,k4,k5⟩:=r.own i xs h
    exact ⟨a,ys,k1,k2,k3,by rw [upd_ne (fun z => by subst z; exact ho i xs h k1)]; exact k4,k5⟩
theorem Rw.adopt {G0 H0 G H : Hp} {σ : St} {δ : Dv} {ts : List (PyData×V)} {D : Addr} {ys : List V} (r : Rw G0 H0 G H σ δ ts) (hD : H D = some (.lst ys)) (hG : G D = none) (h0 : H0 D = none) (ho : ∀ (i : Nat) (xs : Oc),δ[i]? = some (L.own xs)→σ[i]?≠some (some (V.ref D))) : Rw G0 H0 (upd G D (.lst ys)) H σ δ ts := by
  have e : Same G (upd G D (.lst ys)):=same_new hG _
  refine ⟨r.ext.trans e,fun a u h => ?_,fun a u h => ?_,r.keep,r.len,fun i x h => ?_,fun i xs h => ?_,r.apart,fun q hq => (r.tmp q hq).same e⟩
  · by_cases ha : a = D
    · subst ha; exact .inr (.inl h0)
    · rw [upd_ne ha] at h; exact r.new _ _ h
  · by_cases ha : a = D
    · subst ha; rw [upd_same] at h; rw [hD]; exact h
    · rw [upd_ne ha] at h; exact r.ins _ _ h
  · obtain ⟨v,k1,k2⟩:=r.dat i x h
    exact ⟨v,k1,k2.same e⟩
  · obtain ⟨a,zs,k1,k2,k3,k4,k5⟩:=r.own i xs h
    have ha : a≠D:=fun z => by subst z; exact ho i xs h k1
    exact ⟨a,zs,k1,by rw [upd_ne ha]; exact k2,k3,k4,k5.same e⟩
def oneD (set : PyData→Dv→Option Dv) (tif : Dv→Option Bool) (f : Dv→Option PyData) (δ : Dv) (x : PyData) : Option (Option PyData) :=
  (set x δ).bind fun δ1 => (tif δ1).bind fun b => if b = true then (f δ1).map some else some none
def collect (one : PyData→Option (Option PyData)) : List PyData→Option (List PyData)
  | [] => some []
  | x :: xs => (one x).bind fun o => (collect one xs).map fun r => o.toList ++ r
def compL (set : PyData→Dv→Option Dv) (tif : Dv→Option Bool) (f : Dv→Option PyData) (fr : List (Option Nat)) (fs : Dv→Option (List PyData)) (δ : Dv) : Option (List PyData) :=
  (fs δ).bind fun xs => (collect (oneD set tif f (carryD fr δ)) xs).bind few
def compD (set : PyData→Dv→Option Dv) (tif : Dv→Option Bool) (f : Dv→Option PyData) (fr : List (Option Nat)) (fs : Dv→Option (List PyData)) (δ : Dv) : Option PyData :=
  (compL set tif f fr fs δ).map .list
structure CompInv (G0 H0 Ga : Hp) (σ : St) (δ : Dv) (ts : List (PyData×V)) (one : PyData→Option (Option PyData)) (xs full : List PyData) (D : Addr) (i : Nat) (ys : List V) (H : Hp) : Prop where
  ex : ∃ G done rest,Rw G0 H0 G H σ δ ts∧Same Ga G∧G D = none∧collect one (xs.drop i) = some rest∧done ++ rest = full∧DuA G done ys
  h0 : H0 D = none
  ap : ∀ (j : Nat) (us : Oc),δ[j]? = some (L.own us)→σ[j]?≠some (some (V.ref D))
theorem notD {G0 H0 G H : Hp} {D : Addr} {ys : List V} (hG : G0 D = none) (hD : H0 D = some (.lst ys)) (n : Nw G0 H0 G) (e : Same G H) (k : Same H0 H) : G D = none := by
  cases q : G D with
  | none => rfl
  | some o =>
    rcases n _ _ q with z | z | ⟨us,z⟩
    · rw [hG] at z; cases z
    · rw [hD] at z; cases z
    · have:=e _ _ q
      rw [k _ _ hD,z] at this; cases this
section
variable {X : Cx} {elt iter : Expr} {x y : Str} {px py tp pos : Pos} {tk : Nat} {ifs : List Expr} {scope : Scope} {fs : Dv→Option (List PyData)} {tif : Dv→Option Bool} {f : Dv→Option PyData}
def set1 (i : Nat) (y : PyData) (δ : Dv) : Option Dv:=some (δ.set i (.d y))
theorem comp_readN {wi : TI} {ix : Nat} {fr : List (Option Nat)} (ki : ∀ (δ : Dv) (xs : List PyData),fs δ = some xs→∀ (G0 H0 G H : Hp) (σ : St) (ts : List (PyData×V)) (R : It→Hp→Prop),Rw G0 H0 G H σ δ ts→(∀ J G' H',Rw G0 H0 G' H' σ δ ts→ItOk J xs G'→R J H')→wi σ H R) {δ : Dv} {zs : List PyData} (hz : compL (set1 ix) tif f fr fs δ = some zs) {G0 H0 G H : Hp} {σ : St} {ts : List (PyData×V)} {Q : VK} (R0 : Rw G0 H0 G H σ δ ts) (k : ∀ D ys G' H',Rw G0 H0 G' H' σ δ ts→H' D = some (.lst ys)→G' D = none→H0 D = none→(∀ (j : Nat) (us : Oc),δ[j]? = some (L.own us)→σ[j]?≠some (some (V.ref D)))→DuA G' zs ys→Q (.ref D) H') :
    tComp wi fr ix (tDT tif) (tD f) σ H Q := by
  unfold compL at hz
  obtain ⟨xs,m2,m3⟩:=Option.bind_eq_some_iff.mp hz
  obtain ⟨full,m4,m5⟩:=Option.bind_eq_some_iff.mp m3
  obtain ⟨rfl,hfew⟩:=few_eq m5
  refine ki δ xs m2 G0 H0 G H σ ts _ R0 fun J Ga Ha Ra it D hD => ?_
  have hGD : Ga D = none := by
    cases q : Ga D with
    | none => rfl
    | some u => rw [Ra.ins _ _ q] at hD; cases hD
  have hHD : H0 D = none := by
    cases q : H0 D with
    | none => rfl
    | some u => rw [Ra.keep _ _ q] at hD; cases hD
  have hap : ∀ (j : Nat) (us : Oc),δ[j]? = some (L.own us)→σ[j]?≠some (some (V.ref D)):=fun j us h z => by
    obtain ⟨a,ys,k1,k2,k3,k4,k5⟩:=Ra.own j us h
    rw [z] at k1; cases k1
    rw [k4] at hD; cases hD
  refine comp_by (n:=xs.length) (CompInv G0 H0 Ga σ δ ts (oneD (set1 ix) tif f (carryD fr δ)) xs full D) ⟨⟨Ga,[],full,Ra.other hGD hHD hap,Same.refl _,hGD,by simpa using m4,rfl,.nil⟩,hHD,hap⟩ ?_ ?_
  · rintro i ys H1 hlt ⟨⟨G1,done,rest,R1,s1,g1,c1,e1,d1⟩,_,_⟩ hD1
    have hx : xs[i]? = some xs[i] := by simp [hlt]
    have sH:=s1.trans R1.ins
    have hyl : ys.length < sizeLine:=dMax_lt (by
      rw [d1.len]
      have : done.length≤full.length := by rw [← e1]; simp
      omega)
    refine ⟨it.go i _ H1 hx sH,hyl,fun v H' y => ?_⟩
    obtain ⟨G2,n1,n2,n3,n4,n5⟩:=it.yld i _ H1 v H' hx sH y G1 s1 R1.ins
    have R2:=R1.lift n1 n2 n3 n4
    have hD2:=n4 _ _ hD1
    have g2 : G2 D = none:=notD g1 hD1 n2 n3 n4
    rw [List.drop_eq_getElem_cons hlt] at c1
    unfold collect at c1
    obtain ⟨o,c2,c3⟩:=Option.bind_eq_some_iff.mp c1
    obtain ⟨rest',c4,rfl⟩:=Option.map_eq_some_iff.mp c3
    unfold oneD set1 at c2
    simp only [Option.bind_some] at c2
    obtain ⟨b,c5,c6⟩:=Option.bind_eq_some_iff.mp c2
    have Ri:=((R2.inner fr).put n5).setD (i:=ix)
    have Ri0 : Rw G2 H' G2 H' ((carry fr σ).set ix (some v)) ((carryD fr δ).set ix (.d xs[i])) []:=Ri.less fun q hq => by cases hq
    refine ⟨_,b,G2,H',G2,[],c5,Ri0,fun G3 H3 R3 => ?_⟩
    have R3o:=R2.lift R3.ext R3.new R3.ins R3.keep
    have hD3:=R3.keep _ _ hD2
    have g3 : G3 D = none:=notD g2 hD2 R3.new R3.ins R3.keep
    dsimp only
    split
    · rename_i hb
      rw [if_pos hb] at c6
      obtain ⟨w,c7,rfl⟩:=Option.map_eq_some_iff.mp c6
      refine ⟨_,w,G2,H',G3,[],c7,R3,fun u G4 H4 R4 => ?_⟩
      have R4o:=R2.lift R4.ext R4.new R4.ins R4.keep
      have hD4:=R4.keep _ _ hD2
      have g4 : G4 D = none:=notD g2 hD2 R4.new R4.ins R4.keep
      refine ⟨hD4,cw_next hlt ⟨⟨G4,done ++ [w],rest',R4o.other g4 hHD hap,s1.trans (n1.trans R4.ext),g4,c4,by simpa using e1,(d1.same (n1.trans R4.ext)).app (.cons (R4.tmp _ (.head _)) .nil)⟩,hHD,hap⟩⟩
    · rename_i hb
      rw [if_neg hb] at c6
      cases c6
      exact cw_skip hlt hD3 ⟨⟨G3,done,rest',R3o,s1.trans (n1.trans R3.ext),g3,c4,by simpa using e1,d1.same (n1.trans R3.ext)⟩,hHD,hap⟩
  · rintro ys H1 ⟨⟨G1,done,rest,R1,s1,g1,c1,e1,d1⟩,_,_⟩ hD1
    refine ⟨it.stop H1 (s1.trans R1.ins),?_⟩
    rw [List.drop_length] at c1
    cases c1
    rw [List.append_nil] at e1
    subst e1
    exact k _ _ _ _ R1 hD1 g1 hHD hap d1
theorem comp_read {wi : TI} {ix : Nat} {fr : List (Option Nat)} (ki : ∀ (δ : Dv) (xs : List PyData),fs δ = some xs→∀ (G0 H0 G H : Hp) (σ : St) (ts : List (PyData×V)) (R : It→Hp→Prop),Rw G0 H0 G H σ δ ts→(∀ J G' H',Rw G0 H0 G' H' σ δ ts→ItOk J xs G'→R J H')→wi σ H R) {δ : Dv} {z : PyData} (hz : compD (set1 ix) tif f fr fs δ = some z) {G0 H0 G H : Hp} {σ : St} {ts : List (PyData×V)} {Q : VK} (R0 : Rw G0 H0 G H σ δ ts) (k : ∀ v G' H',Rw G0 H0 G' H' σ δ ((z,v) :: ts)→Q v H') :
    tComp wi fr ix (tDT tif) (tD f) σ H Q := by
  unfold compD at hz
  obtain ⟨full,m1,rfl⟩:=Option.map_eq_some_iff.mp hz
  refine comp_readN ki m1 R0 fun D ys G1 H1 R1 hD1 g1 hHD hap d1 => ?_
  have e : Same G1 (upd G1 D (.lst ys)):=same_new g1 _
  have R2:=R1.adopt hD1 g1 hHD hap
  refine k _ _ _ (R2.put ?_)
  rw [Du]
  exact ⟨D,ys,rfl,upd_same,d1.same e⟩
theorem de_comp (N : List Str) (ix : Nat) (fr : List (Option Nat)) (hi : DI X (.Name x px) iter fs) (hif : ∀ cl C s₀ H₀ fp,DIf (cxComp X scope cl N C s₀ H₀ fp) ifs tif) (he : ∀ cl C s₀ H₀ fp,DE (cxComp X scope cl N C s₀ H₀ fp) elt f)
    (h1 : compScopeOk scope N x ix = true := by decide +kernel) (h2 : X.calm = true := by rfl) (h3 : frOk N X.N scope X.env.scope fr 0 = true := by rfl) (h4 : fr.length = N.length := by rfl) (h5 : freeOk X.env.scope scope.names = true := by rfl)
    (hs : ∀ x,foldedSetIterable iter X.env x = pure x := by intro _; rfl) : DE X (.ListComp elt [⟨.Name x px,iter,ifs,0⟩] scope pos) (compD (set1 ix) tif f fr fs) := by
  obtain ⟨wi,pi,ki⟩:=hi
  exact ⟨_,pe_compr N ix fr pi hif (fun cl C s₀ H₀ fp => (he cl C s₀ H₀ fp).pe) h1 h2 h3 h4 h5 hs,fun δ z hz G0 H0 G H σ ts Q R0 k => comp_read ki hz R0 k⟩
end
section
variable {X : Cx} {elt iter : Expr} {x y : Str} {px py tp pos : Pos} {tk : Nat} {ifs : List Expr} {scope : Scope} {fs : Dv→Option (List PyData)} {tif : Dv→Option Bool} {f : Dv→Option PyData}
def iniD (N : List Str) (ds : List PyData) : Dv:=ds.map .d ++ List.replicate (N.length - ds.length) .no
def retD (ps N : List Str) (F : DF) (ds : List PyData) : Option PyData:=if ds.length = ps.length then (match F (iniD N ds) with
  | some (.rt x) => some x
  | some (.nx _) => some .none
  | some (.rn xs) => some (.list xs)
  | _ => none) else none
theorem Rw.start {N : List Str} {ds : List PyData} {vs : List V} {G H : Hp} (d : DuA G ds vs) (e : Same G H) : Rw G H G H (start N vs) (iniD N ds) [] := by
  have hl:=d.len
  refine ⟨Same.refl _,Nw.refl,e,Same.refl _,by simp [L2.start,iniD,hl],fun i x h => ?_,fun i xs h => ?_,fun i j xs ys _ h => ?_,fun q hq => by cases hq⟩
  · unfold iniD at h
    by_cases hi : i < ds.length
    · rw [List.getElem?_append_left (by simpa using hi),List.getElem?_map] at h
      obtain ⟨y,h1,h2⟩:=Option.map_eq_some_iff.mp h
      cases h2
      obtain ⟨v,h3,h4⟩:=d.get h1
      refine ⟨v,?_,h4⟩
      unfold L2.start
      rw [List.getElem?_append_left (by simp; omega),List.getElem?_map,h3]; rfl
    · rw [List.getElem?_append_right (by simpa using hi),List.getElem?_replicate] at h
      split at h <;> cases h
  · unfold iniD at h
    by_cases hi : i < ds.length
    · rw [List.getElem?_append_left (by simpa using hi),List.getElem?_map] at h
      obtain ⟨y,h1,h2⟩:=Option.map_eq_some_iff.mp h
      cases h2
    · rw [List.getElem?_append_right (by simpa using hi),List.getElem?_replicate] at h
      split at h <;> cases h
  · unfold iniD at h
    by_cases hi : i < ds.length
    · rw [List.getElem?_append_left (by simpa using hi),List.getElem?_map] at h
      obtain ⟨y,h1,h2⟩:=Option.map_eq_some_iff.mp h
      cases h2
    · rw [List.getElem?_append_right (by simpa using hi),List.getElem?_replicate] at h
      split at h <;> cases h
theorem keepL {G H G' H' : Hp} {a : Addr} {ys : List V} {xs : List PyData} (m1 : Same G G') (m2 : Nw G H G') (m3 : Same G' H') (m5 : H a = none) (m6 : G' a = none) (m7 : H' a = some (.lst ys)) (m8 : DuA G' xs ys) :
    Same G (upd G' a (.lst ys))∧Nw G H (upd G' a (.lst ys))∧Same (upd G' a (.lst ys)) H'∧Du (upd G' a (.lst ys)) (.list xs) (.ref a) := by
  refine ⟨m1.trans (same_new m6 _),fun b o hb => ?_,fun b o hb => ?_,?_⟩
  · by_cases z : b = a
    · subst z; exact .inr (.inl m5)
    · rw [upd_ne z] at hb; exact m2 _ _ hb
  · by_cases z : b = a
    · subst z; rw [upd_same] at hb; rw [m7]; exact hb
    · rw [upd_ne z] at hb; exact m3 _ _ hb
  · rw [Du]; exact ⟨a,ys,rfl,upd_same,m8.same (same_new m6 _)⟩
theorem okD {P : Program} {w : World} {K : PySem.W.Frag} {mg : Str→Option Value} {base : Heap} {x : Str} {st : Stmt} {fA : Addr} {fd : FuncData} {N ps : List Str} {k : Nat} {F : DF} (T : Fn K mg x st ps fA fd) (S : FnScope N ps (defScope st))
    (hb : ∀ (cdv : Value) (A : Around) (outer : List Env) (s : Shared) (H : Hp) (E : XK),Room k (A.deeper (envOfC x (defScope st) s.heap.objs.size fA cdv))→DSs (cxOf CX0 P w K mg base N x (defScope st) fA cdv A outer s H E).nox (defBody st) F) :
    FnOk P w K mg base CX0 (k + 1) fA fd ps (spD (retD ps N F)) := by
  refine T.F.ok S (fun vs H Q E h => ?_) fun cdv A outer s H vs Q E hr h => ?_
  · obtain ⟨ds,y,G,h1,h2,_⟩:=h
    unfold retD at h1
    split at h1
    · rename_i hl; rw [h2.len]; exact hl
    · cases h1
  · obtain ⟨ds,y,G,h1,h2,h3,h4⟩:=h
    obtain ⟨t,p,kk⟩:=hb cdv A outer s H E hr
    refine ⟨t,p,?_⟩
    unfold retD at h1
    split at h1
    · split at h1
      · rename_i z e1
        cases h1
        exact kk _ _ e1 G H G H _ _ (Rw.start h2 h3) fun v G' H' m1 m2 m3 m4 m5 => h4 v G' H' m1 m2 m3 m4 m5
      · rename_i δ e1
        cases h1
        exact kk _ _ e1 G H G H _ _ (Rw.start h2 h3) fun σ' G' H' R => h4 .non G' H' R.ext R.new R.ins R.keep (by rw [Du])
      · rename_i xs e1
        cases h1
        exact kk _ _ e1 G H G H _ _ (Rw.start h2 h3) fun a ys G' H' m1 m2 m3 m4 m5 m6 m7 m8 => let ⟨n1,n2,n3,n4⟩:=keepL m1 m2 m3 m5 m6 m7 m8; h4 _ _ H' n1 n2 n3 m4 n4
      · cases h1
    · cases h1
end
section
variable {X : Cx} {tg a b c e : Expr} {es : List Expr} {f g h : Dv→Option PyData} {fs : Dv→Option (List PyData)} {fa : Dv→Option Bool} {pos p p2 : Pos} {st : Stmt} {sts sts' : List Stmt} {F F1 F2 : DF}
theorem de_globI {x : Str} {i : Int} {tk : Tok} (hg : Gl X x) (hm : X.mg x = some (.int i tk)) (hd : (x == ("__debug__" : Str)) = false := by decide) : DE X (.Name x pos) (fun _ => some (.int i)) :=
  ⟨_,pe_glob (v:=.int i) hg hm ⟨tk,rfl⟩ hd,fun δ x h G0 H0 G H σ ts Q r k => by cases h; exact k _ _ _ (r.put (by rw [Du]))⟩
def whileD (fa : Dv→Option Bool) (F : DF) : Nat→Dv→Option Ou
  | 0,_ => none
  | n + 1,δ => (fa δ).bind fun b => if b = true then (match F δ with
    | some (.nx δ') => whileD fa F n δ'
    | some (.ct δ') => whileD fa F n δ'
    | some (.bk δ') => some (.nx δ')
    | some (.rt v) => some (.rt v)
    | some (.rn v) => some (.rn v)
    | none => none) else some (.nx δ)
theorem ds_while (n : Nat) (hp : PassesOwn (model X.prog X.w) X.A X.env X.xe) (hc : DT X c fa) (hb : DSs X sts F) : DS X (.While c sts [] pos) (whileD fa F n) := by
  obtain ⟨tc,pc,kc⟩:=hc
  obtain ⟨tb,pb,kb⟩:=hb
  refine ⟨_,ps_while hp pc pb,fun δ r h G0 H0 G H σ D R q => ?_⟩
  refine ⟨fun m σ' H' => ∃ δ' G',whileD fa F m δ' = some r∧Rw G0 H0 G' H' σ' δ' [],⟨n,δ,G,h,R⟩,?_⟩
  rintro m σ1 H1 ⟨δ1,G1,f1,R1⟩
  cases m with
  | zero => cases f1
  | succ m =>
    unfold whileD at f1
    obtain ⟨b,h1,h2⟩:=Option.bind_eq_some_iff.mp f1
    refine kc δ1 b h1 G0 H0 G1 H1 σ1 [] _ R1 fun G2 H2 R2 => ?_
    dsimp only
    split
    · rename_i hb
      rw [if_pos hb] at h2
      refine ⟨fun σ' H' => ∃ δ' G',whileD fa F m δ' = some r∧Rw G0 H0 G' H' σ' δ' [],fun σ' H' z => ⟨m,Nat.lt_succ_self m,z⟩,?_⟩
      cases e : F δ1 with
      | none => rw [e] at h2; cases h2
      | some o =>
        rw [e] at h2
        refine kb δ1 o e G0 H0 G2 H2 σ1 _ R2 ?_
        cases o with
        | nx δ3 => exact fun σ4 G4 H4 R4 => ⟨δ3,G4,h2,R4⟩
        | ct δ3 => exact fun σ4 G4 H4 R4 => ⟨δ3,G4,h2,R4⟩
        | bk δ3 => cases h2; exact q
        | rt v => cases h2; exact q
        | rn v => cases h2; exact q
    · rename_i hb
      rw [if_neg hb] at h2
      cases h2
      exact q _ _ _ R2
def DO (X : Cx) (o : Option Expr) (f : Dv→Option (Option Int)) : Prop:=∃ t,PO X o t∧∀ δ x,f δ = some x→∀ G0 H0 G H σ ts (Q : Option Int→Hp→Prop),Rw G0 H0 G H σ δ ts→(∀ G' H',Rw G0 H0 G' H' σ δ ts→Q x H')→t σ H Q
variable {fo fu : Dv→Option (Option Int)} {lo hi : Option Expr}
theorem do_none : DO X none (fun _ => some none):=⟨_,po_none,fun δ x h G0 H0 G H σ ts Q r k => by cases h; exact k _ _ r⟩
theorem do_some (he : DE X e f) : DO X (some e) (fun δ => (f δ).bind fun x => (asI x).map some) := by
  obtain ⟨t,p,k⟩:=he
  refine ⟨_,po_some p,fun δ z h G0 H0 G H σ ts Q r q => ?_⟩
  obtain ⟨x,h1,h2⟩:=Option.bind_eq_some_iff.mp h
  obtain ⟨i,h3,rfl⟩:=Option.map_eq_some_iff.mp h2
  have:=asI_eq h3; subst this
  refine k δ _ h1 G0 H0 G H σ ts _ r fun v G' H' R' => ?_
  have hv:=R'.tmp _ (.head _)
  rw [Du] at hv
  exact ⟨i,hv,q _ _ R'.drop⟩
def cutD (xs : List PyData) (lo hi : Option Int) : List PyData:=(xs.drop (HT.sIx xs.length 0 lo)).take (HT.sIx xs.length xs.length hi - HT.sIx xs.length 0 lo)
theorem DuA.cut {H : Hp} {ds : List PyData} {xs : List V} (h : DuA H ds xs) (lo hi : Option Int) : DuA H (cutD ds lo hi) (cutV xs lo hi) := by
  unfold cutD cutV
  rw [h.len]
  exact (h.drop _).take _
def dCut (x : PyData) (lo hi : Option Int) : Option PyData:=match x with
  | .list xs => some (.list (cutD xs lo hi))
  | .tuple xs => if ¬ (HT.sIx xs.length 0 lo = 0∧HT.sIx xs.length xs.length hi = xs.length) then some (.tuple (cutD xs lo hi)) else none
  | _ => none
theorem de_slice (he : DE X e f) (hl : DO X lo fo) (hh : DO X hi fu) : DE X (.Subscript e (.Slice lo hi none p2) pos) (fun δ => (f δ).bind fun x => (fo δ).bind fun l => (fu δ).bind fun u => dCut x l u) := by
  obtain ⟨te,pe,ke⟩:=he
  obtain ⟨tl,pl,kl⟩:=hl
  obtain ⟨th,ph,kh⟩:=hh
  refine ⟨_,pe_slice (sl_list.or sl_tup) pe pl ph,fun δ z hz G0 H0 G H σ ts Q R0 k => ?_⟩
  obtain ⟨x,h1,h2⟩:=Option.bind_eq_some_iff.mp hz
  obtain ⟨l,h3,h4⟩:=Option.bind_eq_some_iff.mp h2
  obtain ⟨u,h5,h6⟩:=Option.bind_eq_some_iff.mp h4
  refine ke δ x h1 G0 H0 G H σ ts _ R0 fun v G1 H1 R1 => ?_
  refine kl δ l h3 G0 H0 G1 H1 σ _ _ R1 fun G2 H2 R2 => ?_
  refine kh δ u h5 G0 H0 G2 H2 σ _ _ R2 fun G3 H3 R3 => ?_
  have du:=R3.tmp _ (.head _)
  unfold dCut at h6
  split at h6
  · cases h6
    rw [Du] at du
    obtain ⟨a,ys,rfl,n1,n2⟩:=du
    exact .inl ⟨a,ys,rfl,SqL.of (R3.ins _ _ n1),fun q hq => k _ _ _ (R3.drop.newL (n2.cut l u) hq)⟩
  · split at h6
    · rename_i hc
      cases h6
      rw [Du] at du
      obtain ⟨a,ys,rfl,n1,n2⟩:=du
      exact .inr ⟨a,ys,rfl,SqT.of (R3.ins _ _ n1),by rw [n2.len]; exact hc,fun q hq => k _ _ _ (R3.drop.newT (n2.cut l u) hq)⟩
    · cases h6
  · cases h6
def asIs : List PyData→Option (List Int)
  | [] => some []
  | .int i :: r => (asIs r).map fun l => i :: l
  | _ :: _ => none
theorem DuA.ints {H : Hp} : ∀ {ds : List PyData} {xs : List V} {ns : List Int},DuA H ds xs→asIs ds = some ns→xs = ns.map V.int
  | [],xs,ns,h,e => by cases e; rw [h.nil_eq]; rfl
  | .int i :: r,xs,ns,h,e => by
    unfold asIs at e
    obtain ⟨l,h1,rfl⟩:=Option.map_eq_some_iff.mp e
    obtain ⟨x,q,rfl,k1,k2⟩:=h.un
    rw [Du] at k1; subst k1
    rw [List.map_cons,k2.ints h1]
  | .none :: _,_,_,_,e => by cases e
  | .bool _ :: _,_,_,_,e => by cases e
  | .str _ :: _,_,_,_,e => by cases e
  | .tuple _ :: _,_,_,_,e => by cases e
  | .list _ :: _,_,_,_,e => by cases e
  | .dict _ :: _,_,_,_,e => by cases e
def dSum : List PyData→Option PyData
  | [.list xs] => (asIs xs).map fun ns => .int ns.sum
  | [.tuple xs] => (asIs xs).map fun ns => .int ns.sum
  | _ => none
theorem dc_sum (hc : X.calm = true) : DCall X (.builtin "sum") dSum := by
  refine ⟨_,(call_sum hc).or (call_sumT hc),fun xs z hz G0 H0 G H σ δ ts us Q R0 d k => ?_⟩
  unfold dSum at hz
  split at hz
  · obtain ⟨ns,h1,rfl⟩:=Option.map_eq_some_iff.mp hz
    obtain ⟨u,rfl,du⟩:=d.un1
    rw [Du] at du
    obtain ⟨q,ys,rfl,h4,h5⟩:=du
    refine .inl ⟨q,ns,rfl,by rw [← h5.ints h1]; exact SqL.of (R0.ins _ _ h4),k _ _ _ (R0.put (by rw [Du]))⟩
  · obtain ⟨ns,h1,rfl⟩:=Option.map_eq_some_iff.mp hz
    obtain ⟨u,rfl,du⟩:=d.un1
    rw [Du] at du
    obtain ⟨q,ys,rfl,h4,h5⟩:=du
    refine .inr ⟨q,ns,rfl,by rw [← h5.ints h1]; exact SqT.of (R0.ins _ _ h4),k _ _ _ (R0.put (by rw [Du]))⟩
  · cases hz
def dInt : List PyData→Option PyData
  | [.int i] => some (.int i)
  | [.bool b] => some (.int (if b then 1 else 0))
  | _ => none
theorem dc_int : DCall X (.type "int") dInt := by
  refine ⟨_,call_int1,fun xs z hz G0 H0 G H σ δ ts us Q R0 d k => ?_⟩
  unfold dInt at hz
  split at hz
  · cases hz
    obtain ⟨u,rfl,du⟩:=d.un1
    rw [Du] at du; subst du
    exact .inl ⟨_,rfl,k _ _ _ (R0.put (by rw [Du]))⟩
  · cases hz
    obtain ⟨u,rfl,du⟩:=d.un1
    rw [Du] at du; subst du
    exact .inr ⟨_,rfl,k _ _ _ (R0.put (by rw [Du]))⟩
  · cases hz
end
open PySem
abbrev fC (x : PyData) : Dv→Option PyData:=fun _ => some x
abbrev fNeg (f : Dv→Option PyData) : Dv→Option PyData:=fun δ => (f δ).bind fun x => (asI x).map fun i => .int (-i)
abbrev fOr (f g : Dv→Option PyData) : Dv→Option PyData:=fun δ => (f δ).bind fun x => (asB x).bind fun c => if c = true then some (.bool true) else g δ
abbrev fNil : Dv→Option (List PyData):=fun _ => some []
abbrev fCons (f : Dv→Option PyData) (fs : Dv→Option (List PyData)) : Dv→Option (List PyData):=fun δ => (f δ).bind fun x => (fs δ).map fun xs => x :: xs
abbrev fTup (fs : Dv→Option (List PyData)) : Dv→Option PyData:=fun δ => ((fs δ).bind few).map .tuple
abbrev fLst (fs : Dv→Option (List PyData)) : Dv→Option PyData:=fun δ => ((fs δ).bind few).map .list
abbrev fCall (m : List PyData→Option PyData) (fs : Dv→Option (List PyData)) : Dv→Option PyData:=fun δ => (fs δ).bind m
abbrev fLenOwn (i : Nat) : Dv→Option PyData:=fun δ => (ow i δ).map fun xs => .int xs.length
abbrev fIxOwn (i : Nat) (g : Dv→Option PyData) : Dv→Option PyData:=fun δ => (g δ).bind fun y => (ow i δ).bind fun xs => (asI y).bind fun k => atI xs k
abbrev oNone : Dv→Option (Option Int):=fun _ => some none
abbrev oSome (f : Dv→Option PyData) : Dv→Option (Option Int):=fun δ => (f δ).bind fun x => (asI x).map some
abbrev fCut (f : Dv→Option PyData) (fo fu : Dv→Option (Option Int)) : Dv→Option PyData:=fun δ => (f δ).bind fun x => (fo δ).bind fun l => (fu δ).bind fun u => dCut x l u
abbrev bVal (f : Dv→Option PyData) : Dv→Option Bool:=fun δ => (f δ).bind asB
abbrev bCmp (o : PyData→PyData→Option PyData) (f g : Dv→Option PyData) : Dv→Option Bool:=fun δ => (op2 o f g δ).bind asB
abbrev bNot (f : Dv→Option Bool) : Dv→Option Bool:=fun δ => (f δ).map fun c => !c
abbrev bAnd (f g : Dv→Option Bool) : Dv→Option Bool:=fun δ => (f δ).bind fun c => if c = true then g δ else some false
abbrev bOr (f g : Dv→Option Bool) : Dv→Option Bool:=fun δ => (f δ).bind fun c => if c = true then some true else g δ
abbrev iSeq (f : Dv→Option PyData) : Dv→Option (List PyData):=fun δ => (f δ).bind seqOf
abbrev iCall (m : List PyData→Option (List PyData)) (fs : Dv→Option (List PyData)) : Dv→Option (List PyData):=fun δ => (fs δ).bind m
abbrev bYes : Dv→Option Bool:=fun _ => some true
abbrev setN (i : Nat) : PyData→Dv→Option Dv:=fun y δ => some (δ.set i (.d y))
abbrev sNext : DF:=fun δ => some (.nx δ)
abbrev sRet (f : Dv→Option PyData) : DF:=fun δ => (f δ).map .rt
abbrev sIf (c : Dv→Option Bool) (F G : DF) : DF:=fun δ => (c δ).bind fun c => if c = true then F δ else G δ
abbrev sSet (i : Nat) (f : Dv→Option PyData) : DF:=fun δ => (f δ).map fun y => .nx (δ.set i (.d y))
abbrev sOwn (i : Nat) (fs : Dv→Option (List PyData)) : DF:=fun δ => ((fs δ).bind few).map fun ys => .nx (δ.set i (.own (.lst ys)))
abbrev sApp (i : Nat) (f : Dv→Option PyData) : DF:=fun δ => (f δ).bind fun y => (ow i δ).bind fun xs => if xs.length < dMax then some (.nx (δ.set i (.own (.lst (xs ++ [y]))))) else none
abbrev sExt (i : Nat) (f : Dv→Option PyData) : DF:=fun δ => (f δ).bind fun y => (ow i δ).bind fun xs => match y with | .list zs => (if xs.length + zs.length≤dMax then some (.nx (δ.set i (.own (.lst (xs ++ zs))))) else none) | _ => none
abbrev sFor (fs : Dv→Option (List PyData)) (set : PyData→Dv→Option Dv) (F : DF) : DF:=fun δ => (fs δ).bind fun xs => forD set F xs δ
abbrev sFrz (i : Nat) (F : DF) : DF:=fun δ => F (frz i δ)
theorem spD_imp {P : Program} {w : World} {K : PySem.W.Frag} {mg : Str→Option Value} {base : Heap} {CX : CXT} {k : Nat} {f : Addr} {fd : FuncData} {ps : List Str} {sp : Sp} {m : List PyData→Option PyData} (F : FnOk P w K mg base CX k f fd ps sp)
    (h : ∀ ds x,m ds = some x→∀ (G H : Hp) (vs : List V) (Q : VK) (E : XK),DuA G ds vs→Same G H→(∀ v G' H',Same G G'→Nw G H G'→Same G' H'→Same H H'→Du G' x v→Q v H')→sp vs H Q E) : FnOk P w K mg base CX k f fd ps (spD m) :=
  F.imp fun vs H Q E z => by
    obtain ⟨ds,x,G,h1,h2,h3,h4⟩:=z
    exact h ds x h1 G H vs Q E h2 h3 h4
section
variable {X : Cx} {a b c e : Expr} {es : List Expr} {f g h : Dv→Option PyData} {fs : Dv→Option (List PyData)} {fa : Dv→Option Bool} {pos p : Pos}
abbrev sPut (i : Nat) (f g : Dv→Option PyData) : DF:=fun δ => (f δ).bind fun y => (g δ).bind fun k => (ow i δ).bind fun xs => (asI k).bind fun n => (ixN xs.length n).map fun j => .nx (δ.set i (.own (.lst (xs.set j y))))
theorem DuA.set {H : Hp} {d : PyData} {v : V} (hd : Du H d v) : ∀ {ds : List PyData} {xs : List V} (j : Nat),DuA H ds xs→DuA H (ds.set j d) (xs.set j v)
  | [],_,_,h => by rw [h.nil_eq]; exact .nil
  | _ :: _,_,0,h => by obtain ⟨x,r,rfl,_,h2⟩:=h.un; exact .cons hd h2
  | _ :: _,_,j + 1,h => by obtain ⟨x,r,rfl,h1,h2⟩:=h.un; exact .cons h1 (DuA.set hd j h2)
theorem ds_put {i : Nat} {x : Str} {np sp : Pos} (hv : PE X (.Name x np) (tVar i)) (hk : DE X a g) (he : DE X e f)
    (hP : ∀ {te to ti : TE},PE X e te→PE X (.Name x np) to→PE X a ti→PS X (.Assign [.Subscript (.Name x np) a sp] e pos) (tAsg te (gSub to ti rSetL))) : DS X (.Assign [.Subscript (.Name x np) a sp] e pos) (sPut i f g) := by
  obtain ⟨te,pe,ke⟩:=he
  obtain ⟨tk,pk,kk⟩:=hk
  refine ⟨_,hP pe hv pk,fun δ r h G0 H0 G H σ D R q => ?_⟩
  obtain ⟨y,h1,h2⟩:=Option.bind_eq_some_iff.mp h
  obtain ⟨n,h3,h4⟩:=Option.bind_eq_some_iff.mp h2
  obtain ⟨xs,h5,h6⟩:=Option.bind_eq_some_iff.mp h4
  obtain ⟨m,h7,h8⟩:=Option.bind_eq_some_iff.mp h6
  obtain ⟨j,h9,rfl⟩:=Option.map_eq_some_iff.mp h8
  have:=asI_eq h7; subst this
  have hi:=ow_eq h5
  refine ke δ y h1 G0 H0 G H σ [] _ R fun u G1 H1 R1 => ?_
  obtain ⟨ad,_,k1,k2,k3,k4,⟨ys,rfl,k5⟩⟩:=R1.own i _ hi
  refine ⟨.ref ad,k1,?_⟩
  refine kk δ _ h3 G0 H0 G1 H1 σ _ _ R1 fun v G2 H2 R2 => ?_
  have dv:=R2.tmp (.int m,v) (.head _)
  rw [Du] at dv
  obtain ⟨ad',_,m1,m2,m3,m4,⟨zs,rfl,m5⟩⟩:=R2.own i _ hi
  rw [k1] at m1; cases m1
  refine ⟨ad,zs,m,j,rfl,dv,m4,by rw [m5.len]; exact h9,?_⟩
  exact q _ _ _ (R2.drop.drop.chOwn hi k1 ⟨_,rfl,m5.set (R2.tmp (y,u) (.tail _ (.head _))) j⟩)
end
section
variable {G0 H0 G H : Hp} {σ : St} {δ : Dv} {ts : List (PyData×V)}
theorem Rw.on {H' : Hp} (r : Rw G0 H0 G H σ δ ts) (e : Same H H') : Rw G0 H0 G H' σ δ ts:=r.lift (Same.refl _) Nw.refl (r.ins.trans e) e
end
section
variable {F F1 F2 : DF} {δ δ' : Dv} {r : Option Ou} {c : Dv→Option Bool} {f g : Dv→Option PyData} {fs : Dv→Option (List PyData)}
theorem seqD_nx (h : F1 δ = some (.nx δ')) (k : F2 δ' = r) : seqD F1 F2 δ = r := by unfold seqD; rw [h]; exact k
theorem seqD_rt {x : PyData} (h : F1 δ = some (.rt x)) : seqD F1 F2 δ = some (.rt x) := by unfold seqD; rw [h]
theorem sIf_t (h : c δ = some true) (k : F1 δ = r) : sIf c F1 F2 δ = r := by show (c δ).bind _ = r; rw [h]; exact k
theorem sIf_f (h : c δ = some false) (k : F2 δ = r) : sIf c F1 F2 δ = r := by show (c δ).bind _ = r; rw [h]; exact k
theorem sSet_is {i : Nat} {y : PyData} (h : f δ = some y) : sSet i f δ = some (.nx (δ.set i (.d y))) := by show (f δ).map _ = _; rw [h]; rfl
theorem sRet_is {y : PyData} (h : f δ = some y) : sRet f δ = some (.rt y) := by show (f δ).map _ = _; rw [h]; rfl
theorem op2_is {o : PyData→PyData→Option PyData} {x y : PyData} {z : Option PyData} (h1 : f δ = some x) (h2 : g δ = some y) (h3 : o x y = z) : op2 o f g δ = z := by unfold op2; rw [h1,h2]; exact h3
theorem fCall_is {m : List PyData→Option PyData} {xs : List PyData} {z : Option PyData} (h1 : fs δ = some xs) (h2 : m xs = z) : fCall m fs δ = z := by show (fs δ).bind m = z; rw [h1]; exact h2
theorem fCons_is {x : PyData} {xs : List PyData} (h1 : f δ = some x) (h2 : fs δ = some xs) : fCons f fs δ = some (x :: xs) := by show (f δ).bind _ = _; rw [h1]; show (fs δ).map _ = _; rw [h2]; rfl
theorem fLst_is {xs : List PyData} (h : fs δ = some xs) (hl : xs.length≤dMax) : fLst fs δ = some (.list xs) := by show ((fs δ).bind few).map _ = _; rw [h]; show (few xs).map _ = _; unfold few; rw [if_pos hl]; rfl
theorem fTup_is {xs : List PyData} (h : fs δ = some xs) (hl : xs.length≤dMax) : fTup fs δ = some (.tuple xs) := by show ((fs δ).bind few).map _ = _; rw [h]; show (few xs).map _ = _; unfold few; rw [if_pos hl]; rfl
theorem bCmp_is {o : PyData→PyData→Option PyData} {x y : PyData} {b : Bool} (h1 : f δ = some x) (h2 : g δ = some y) (h3 : o x y = some (.bool b)) : bCmp o f g δ = some b := by show (op2 o f g δ).bind asB = _; rw [op2_is h1 h2 h3]; rfl
theorem bOr_f {a b : Dv→Option Bool} {q : Option Bool} (h : a δ = some false) (k : b δ = q) : bOr a b δ = q := by show (a δ).bind _ = q; rw [h]; exact k
theorem bOr_t {a b : Dv→Option Bool} (h : a δ = some true) : bOr a b δ = some true := by show (a δ).bind _ = _; rw [h]; rfl
theorem bNot_is {a : Dv→Option Bool} {b : Bool} (h : a δ = some b) : bNot a δ = some (!b) := by show (a δ).map _ = _; rw [h]; rfl
theorem bVal_is {b : Bool} (h : f δ = some (.bool b)) : bVal f δ = some b := by show (f δ).bind asB = _; rw [h]; rfl
theorem forD_inv {set : PyData→Dv→Option Dv} (Iv : Nat→Dv→Prop) : ∀ (xs : List PyData) (δ : Dv) (n : Nat),Iv n δ→(∀ (i : Nat) (x : PyData) (δ : Dv),xs[i]? = some x→Iv (n + i) δ→∃ δ1 δ2,set x δ = some δ1∧F δ1 = some (.nx δ2)∧Iv (n + i + 1) δ2) →
    ∃ δ',forD set F xs δ = some (.nx δ')∧Iv (n + xs.length) δ'
  | [],δ,n,h,_ => ⟨δ,rfl,h⟩
  | x :: xs,δ,n,h,k => by
    obtain ⟨δ1,δ2,h1,h2,h3⟩:=k 0 x δ rfl h
    obtain ⟨δ',h4,h5⟩:=forD_inv Iv xs δ2 (n + 1) h3 fun i y δ hy hv => by
      have:=k (i + 1) y δ (by simpa using hy) (by rw [show n + (i + 1) = n + 1 + i by omega]; exact hv)
      rw [show n + (i + 1) + 1 = n + 1 + i + 1 by omega] at this
      exact this
    refine ⟨δ',?_,by rw [List.length_cons,show n + (xs.length + 1) = n + 1 + xs.length by omega]; exact h5⟩
    unfold forD
    rw [h1,Option.bind_some,h2]
    exact h4
theorem sFor_inv {set : PyData→Dv→Option Dv} {xs : List PyData} (Iv : Nat→Dv→Prop) (hx : fs δ = some xs) (h0 : Iv 0 δ) (hs : ∀ (i : Nat) (x : PyData) (δ : Dv),xs[i]? = some x→Iv i δ→∃ δ1 δ2,set x δ = some δ1∧F δ1 = some (.nx δ2)∧Iv (i + 1) δ2) :
    ∃ δ',sFor fs set F δ = some (.nx δ')∧Iv xs.length δ' := by
  obtain ⟨δ',h1,h2⟩:=forD_inv (F:=F) (set:=set) Iv xs δ 0 h0 fun i x δ hx hv => by
    have:=hs i x δ hx (by simpa using hv)
    simpa using this
  refine ⟨δ',?_,by simpa using h2⟩
  show (fs δ).bind _ = _
  rw [hx]; exact h1
theorem collect_map {one : PyData→Option (Option PyData)} {g : PyData→PyData} : ∀ {xs : List PyData},(∀ x∈xs,one x = some (some (g x)))→collect one xs = some (xs.map g)
  | [],_ => rfl
  | x :: xs,h => by
    unfold collect
    rw [h x (.head _),Option.bind_some,collect_map fun y hy => h y (.tail _ hy)]
    rfl
theorem comp_map {ix : Nat} {fr : List (Option Nat)} {xs : List PyData} {g : PyData→PyData} (hx : fs δ = some xs) (hl : xs.length≤dMax) (h : ∀ x∈xs,f ((carryD fr δ).set ix (.d x)) = some (g x)) : compD (set1 ix) bYes f fr fs δ = some (.list (xs.map g)) := by
  unfold compD compL
  rw [hx,Option.bind_some,collect_map (g:=g) fun x hx => ?_,Option.bind_some,few,if_pos (by rw [List.length_map]; exact hl)]
  · rfl
  · unfold oneD set1
    rw [Option.bind_some]
    show (some true).bind _ = _
    rw [Option.bind_some,if_pos rfl,h x hx]
    rfl
end
theorem retD_rt {ps N : List Str} {F : DF} {ds : List PyData} {x : PyData} (hl : ds.length = ps.length) (h : F (iniD N ds) = some (.rt x)) : retD ps N F ds = some x := by unfold retD; rw [if_pos hl,h]
theorem rng_get {lo : Int} {n i : Nat} {x : PyData} (h : (rngD lo n)[i]? = some x) : x = .int (lo + (i : Nat))∧i < n := by
  unfold rngD at h
  rw [List.getElem?_map] at h
  obtain ⟨j,hj,rfl⟩:=Option.map_eq_some_iff.mp h
  have hl:=(List.getElem?_eq_some_iff.mp hj).1
  rw [List.getElem?_range (by simpa using hl)] at hj
  cases hj
  exact ⟨rfl,by simpa using hl⟩
theorem rng_is {δ : Dv} {f : Dv→Option PyData} {j : Int} (h : f δ = some (.int j)) (h0 : -1000000≤j) (h1 : j≤1000000) : iCall rng1 (fCons f fNil) δ = some (rngD 0 j.toNat) := by
  show (fCons f fNil δ).bind rng1 = _
  rw [fCons_is h (show fNil δ = some [] from rfl)]
  exact if_pos ⟨h0,h1⟩
theorem fit_of {n : Nat} {i : Int} (h : i.natAbs < 2 ^ n) : fitI n i = true:=decide_eq_true h
theorem mod_is {i j : Int} (h : 0 < j) : iMod (.int i) (.int j) = some (.int (i % j)) := by
  show (if j≠0 then some (PyData.int (i.fmod j)) else none) = _
  rw [if_pos (by omega),Int.fmod_eq_emod_of_nonneg _ (by omega)]
theorem pow_is {i : Int} {n : Nat} (hn : n≤1000) (hi : fitI 64 i = true) : iPow (.int i) (.int (n : Int)) = some (.int (i ^ n)) := by
  show (if 0≤(n : Int)∧(n : Int)≤1000∧fitI 64 i = true then some (PyData.int (i ^ (n : Int).toNat)) else none) = _
  rw [if_pos ⟨by omega,by omega,hi⟩,Int.toNat_natCast]
def excD (C : Addr) : PyData:=.dict [(.int (C : Nat),.none)]
def noLst (K : PySem.W.Frag) : Bool:=K.all fun p => match p.2.cls with | .type n => n != "list" | _ => true
abbrev Xr:=PyData ⊕ Addr
def spX (g : List PyData→Option Xr) : Sp:=fun vs H Q E => ∃ ds r G,g ds = some r∧DuA G ds vs∧Same G H∧match r with
  | .inl x => ∀ v G' H',Same G G'→Nw G H G'→Same G' H'→Same H H'→Du G' x v→Q v H'
  | .inr C => ∀ H',Same H H'→E (.ref C) none H'
abbrev OuX:=Ou ⊕ Addr
abbrev DFX:=Dv→Option OuX
def FinX (G0 H0 : Hp) (D : Ends) (E : XK) : OuX→Prop
  | .inl o => Fin G0 H0 D o
  | .inr C => ∀ H',Same H0 H'→E (.ref C) none H'
def DX (X : Cx) (E : XK) (st : Stmt) (F : DFX) : Prop:=∃ t,PS X st t∧∀ δ r,F δ = some r→∀ G0 H0 G H σ D,Rw G0 H0 G H σ δ []→FinX G0 H0 D E r→t D σ H
def DXs (X : Cx) (E : XK) (sts : List Stmt) (F : DFX) : Prop:=∃ t,PSs X sts t∧∀ δ r,F δ = some r→∀ G0 H0 G H σ D,Rw G0 H0 G H σ δ []→FinX G0 H0 D E r→t D σ H
section
variable {X : Cx} {E : XK} {a b c e : Expr} {es : List Expr} {f g h : Dv→Option PyData} {fs : Dv→Option (List PyData)} {fa : Dv→Option Bool} {pos p : Pos} {st : Stmt} {sts sts' : List Stmt} {F F1 F2 : DF} {J J1 J2 : DFX}
theorem pss_nox' {t : TS} (h : PSs X.nox sts t) : PSs X sts t:=fun pins s σ H D I k => wpAny_mono (h pins s σ H D (I.wish _) k) (fun _ _ z => z.unwish) fun _ _ z => z.elim
theorem ps_nox {t : TS} (h : PS X.nox st t) : PS X st t:=fun pins s σ H D I k => wpAny_mono (h pins s σ H D (I.wish _) k) (fun _ _ z => z.unwish) fun _ _ z => z.elim
theorem pe_nox {t : TE} (h : PE X.nox e t) : PE X e t:=fun pins s σ H Q I k => wpAny_mono (h pins s σ H Q (I.wish _) k) (fun _ _ ⟨v,H',I',r,q⟩ => ⟨v,H',I'.unwish,r,q⟩) fun _ _ z => z.elim
theorem pt_nox {t : TT} (h : PT X.nox e t) : PT X e t:=fun pins s σ H Q I k => wpAny_mono (h pins s σ H Q (I.wish _) k) (fun _ _ ⟨H',I',q⟩ => ⟨H',I'.unwish,q⟩) fun _ _ z => z.elim
theorem pa_nox {t : TA} (h : PA X.nox es t) : PA X es t:=fun p pins s σ H Q I k => wpAny_mono (h p pins s σ H Q (I.wish _) k) (fun _ _ ⟨v,H',I',r,q⟩ => ⟨v,H',I'.unwish,r,q⟩) fun _ _ z => z.elim
abbrev xOf (F : DF) : DFX:=fun δ => (F δ).map .inl
theorem dx_of (h : DS X.nox st F) : DX X E st (xOf F) := by
  obtain ⟨t,p,k⟩:=h
  refine ⟨t,ps_nox p,fun δ r h G0 H0 G H σ D R q => ?_⟩
  obtain ⟨o,h1,rfl⟩:=Option.map_eq_some_iff.mp h
  exact k δ o h1 G0 H0 G H σ D R q
theorem dxs_of (h : DSs X.nox sts F) : DXs X E sts (xOf F) := by
  obtain ⟨t,p,k⟩:=h
  refine ⟨t,pss_nox' p,fun δ r h G0 H0 G H σ D R q => ?_⟩
  obtain ⟨o,h1,rfl⟩:=Option.map_eq_some_iff.mp h
  exact k δ o h1 G0 H0 G H σ D R q
def seqX (J1 J2 : DFX) (δ : Dv) : Option OuX:=match J1 δ with
  | some (.inl (.nx δ')) => J2 δ'
  | o => o
theorem dxs_nil : DXs X E [] (fun δ => some (.inl (.nx δ))):=⟨_,pss_nil,fun δ r h G0 H0 G H σ D R k => by cases h; exact k _ _ _ R⟩
theorem dxs_one (h : DX X E st J) : DXs X E [st] J := by
  obtain ⟨t,p,k⟩:=h
  exact ⟨t,pss_one p,k⟩
theorem dxs_cons (h1 : DX X E st J1) (h2 : DXs X E sts J2) : DXs X E (st :: sts) (seqX J1 J2) := by
  obtain ⟨t1,p1,k1⟩:=h1
  obtain ⟨t2,p2,k2⟩:=h2
  refine ⟨_,pss_cons p1 p2,fun δ r h G0 H0 G H σ D R q => ?_⟩
  unfold seqX at h
  split at h
  · rename_i δ' e1
    exact k1 δ _ e1 G0 H0 G H σ _ R fun σ' G' H' R' => k2 δ' r h G0 H0 G' H' σ' D R' q
  · rename_i o hn
    cases r with
    | inr C => exact k1 δ _ h G0 H0 G H σ _ R q
    | inl o' =>
      cases o' with
      | nx δ' => exact absurd h (hn δ')
      | rt x => exact k1 δ _ h G0 H0 G H σ _ R q
      | bk x => exact k1 δ _ h G0 H0 G H σ _ R q
      | ct x => exact k1 δ _ h G0 H0 G H σ _ R q
      | rn x => exact k1 δ _ h G0 H0 G H σ _ R q
abbrev xIf (c : Dv→Option Bool) (J1 J2 : DFX) : DFX:=fun δ => (c δ).bind fun b => if b = true then J1 δ else J2 δ
theorem dx_if (hc : DT X.nox c fa) (h1 : DXs X E sts J1) (h2 : DXs X E sts' J2) : DX X E (.If c sts sts' pos) (xIf fa J1 J2) := by
  obtain ⟨tc,pc,kc⟩:=hc
  obtain ⟨t1,p1,k1⟩:=h1
  obtain ⟨t2,p2,k2⟩:=h2
  refine ⟨_,ps_if (pt_nox pc) p1 p2,fun δ r h G0 H0 G H σ D R q => ?_⟩
  obtain ⟨b,h3,h4⟩:=Option.bind_eq_some_iff.mp h
  refine kc δ _ h3 G0 H0 G H σ [] _ R fun G1 H1 R1 => ?_
  split
  · rename_i hb
    rw [if_pos hb] at h4
    exact k1 δ r h4 G0 H0 G1 H1 σ D R1 q
  · rename_i hb
    rw [if_neg hb] at h4
    exact k2 δ r h4 G0 H0 G1 H1 σ D R1 q
abbrev xRaise (C : Addr) (f : Dv→Option PyData) : DFX:=fun δ => (f δ).map fun _ => .inr C
theorem dx_raise {x : Str} {C : Addr} {np cpos : Pos} (T : Exc X.K X.mg x C) (hL : Lets X E) (he : DE X.nox e f) (hcalm : X.calm = true := by rfl) (hg : Gl X x := by rfl) (hd : (x == ("__debug__" : Str)) = false := by decide)
    (hst : starEach [e] X.env = [(false,eval e X.env)] := by rfl) : DX X E (.Raise (some (.Call (.Name x np) [e] [] cpos)) none pos) (xRaise C f) := by
  obtain ⟨t,p,k⟩:=he
  refine ⟨_,ps_raise T hL hcalm hg (pe_nox p) hd hst,fun δ r h G0 H0 G H σ D R q => ?_⟩
  obtain ⟨y,h1,rfl⟩:=Option.map_eq_some_iff.mp h
  exact k δ y h1 G0 H0 G H σ [] _ R fun v G' H' R' => q _ R'.keep
theorem call_x {k : Nat} {m : List PyData→Option Xr} {ta : TA} (ka : ∀ δ xs,fs δ = some xs→∀ G0 H0 G H σ ts (Q : List V→Hp→Prop),Rw G0 H0 G H σ δ ts→(∀ vs G' H',Rw G0 H0 G' H' σ δ (xs.zip vs ++ ts)→vs.length = xs.length→Q vs H')→ta σ H Q)
    {δ : Dv} {r : Xr} (hz : (fs δ).bind m = some r) {G0 H0 G H : Hp} {σ : St} {Q : VK} {E' : XK} (R : Rw G0 H0 G H σ δ []) (q1 : ∀ x,r = .inl x→∀ v G' H',Rw G0 H0 G' H' σ δ [(x,v)]→Q v H') (q2 : ∀ C,r = .inr C→∀ G' H',Rw G0 H0 G' H' σ δ []→E' (.ref C) none H') :
    ta σ H fun vs H1 => spX m (vs ++ []) H1 Q E' := by
  obtain ⟨xs,h1,h2⟩:=Option.bind_eq_some_iff.mp hz
  refine ka δ _ h1 G0 H0 G H σ [] _ R fun vs G1 H1 R1 hv => ?_
  obtain ⟨d,R2⟩:=R1.args hv
  refine ⟨xs,r,G1,h2,by rw [List.append_nil]; exact d,R2.ins,?_⟩
  cases r with
  | inl x => exact fun v G' H' h3 h4 h5 h6 h7 => q1 x rfl _ _ _ ((R2.lift h3 h4 h5 h6).put h7)
  | inr C => exact fun H' h => q2 C rfl _ _ (R2.on h)
section
variable {k : Nat} {fA : Addr} {fd : FuncData} {ps : List Str} {m : List PyData→Option Xr} {x : Str} {st' : Stmt}
abbrev xCall (m : List PyData→Option Xr) (fs : Dv→Option (List PyData)) (nx : PyData→Dv→Ou) : DFX:=fun δ => ((fs δ).bind m).map fun r => match r with
  | .inl x => .inl (nx x δ)
  | .inr C => .inr C
theorem dx_call (T : Fn X.K X.mg x st' ps fA fd) (F : FnOk X.prog X.w X.K X.mg X.base (CXW X.prog X.w) k fA fd ps (spX m)) (hr : Room k X.A) (hP : Passes (CXW X.prog X.w) X E) (ha : DA X.nox (e :: es) fs)
    {pos2 : Pos} (hP2 : ∀ {t : TE},PE X (.Call (.Name x p) (e :: es) [] pos) t→PS X (.Expr (.Call (.Name x p) (e :: es) [] pos) pos2) (tDrop t))
    (hg : Gl X x := by rfl) (hdb : (x == ("__debug__" : Str)) = false := by decide) (he : starEach (e :: es) X.env = (false,eval e X.env) :: starEach es X.env := by rfl) (hpl : (backTo pos (starEach es X.env)).any (·.1) = false := by rfl) :
    DX X E (.Expr (.Call (.Name x p) (e :: es) [] pos) pos2) (xCall m fs fun _ δ => .nx δ) := by
  obtain ⟨ta,pa,ka⟩:=ha
  refine ⟨_,hP2 (pe_fnW T F hr hg hP (pa_nox pa) hdb he hpl),fun δ r h G0 H0 G H σ D R q => ?_⟩
  obtain ⟨z,h1,rfl⟩:=Option.map_eq_some_iff.mp h
  refine call_x (k:=k) ka h1 R (fun x hx v G' H' R' => ?_) (fun C hC G' H' R' => ?_)
  · subst hx; exact q _ _ _ R'.drop
  · subst hC; exact q _ R'.keep
theorem dx_set {i : Nat} {y : Str} {pos' pos2 : Pos} (T : Fn X.K X.mg x st' ps fA fd) (F : FnOk X.prog X.w X.K X.mg X.base (CXW X.prog X.w) k fA fd ps (spX m)) (hr : Room k X.A) (hP : Passes (CXW X.prog X.w) X E) (ha : DA X.nox (e :: es) fs)
    (hN : X.N.Nodup) (hx : Loc X.env.scope y) (hi : X.N[i]? = some y := by rfl) (hg : Gl X x := by rfl)
    (hdb : (x == ("__debug__" : Str)) = false := by decide) (he : starEach (e :: es) X.env = (false,eval e X.env) :: starEach es X.env := by rfl) (hpl : (backTo pos (starEach es X.env)).any (·.1) = false := by rfl)
    (hs : swapsWith (.Call (.Name x p) (e :: es) [] pos) (some (.Name y pos')) pos2.line X.env = pure false := by rfl) (hf : X.fn y = true∨X.env.scope.names.lookup y = some .local := by first | exact .inl rfl | exact .inr rfl | assumption) :
    DX X E (.Assign [.Name y pos'] (.Call (.Name x p) (e :: es) [] pos) pos2) (xCall m fs fun z δ => .nx (δ.set i (.d z))) := by
  obtain ⟨ta,pa,ka⟩:=ha
  refine ⟨_,ps_set hN hi hx (pe_fnW T F hr hg hP (pa_nox pa) hdb he hpl) hs hf,fun δ r h G0 H0 G H σ D R q => ?_⟩
  obtain ⟨z,h1,rfl⟩:=Option.map_eq_some_iff.mp h
  refine call_x (k:=k) ka h1 R (fun x hx v G' H' R' => ?_) (fun C hC G' H' R' => ?_)
  · subst hx; exact q _ _ _ R'.setD
  · subst hC; exact q _ R'.keep
end
end
theorem Rw.setNo {G0 H0 G H : Hp} {σ : St} {δ : Dv} {ts : List (PyData×V)} (k : Nat) (o : Option V) (r : Rw G0 H0 G H σ δ ts) : Rw G0 H0 G H (σ.set k o) (δ.set k .no) ts := by
  have ne : ∀ (j : Nat) (l : L),l≠.no→(δ.set k .no)[j]? = some l→k≠j∧δ[j]? = some l:=fun j l hl h => by
    by_cases hj : k = j
    · subst hj
      by_cases hi : k < δ.length
      · rw [List.getElem?_set_self hi] at h; cases h; exact absurd rfl hl
      · rw [List.getElem?_eq_none (by simp; omega)] at h; cases h
    · rw [List.getElem?_set_ne hj] at h; exact ⟨hj,h⟩
  refine ⟨r.ext,r.new,r.ins,r.keep,by simp [r.len],fun j y h => ?_,fun j zs h => ?_,fun j l us ws hjl h1 h2 => ?_,r.tmp⟩
  · obtain ⟨n,h⟩:=ne j _ (by simp) h
    obtain ⟨w,m1,m2⟩:=r.dat j y h
    exact ⟨w,by rw [List.getElem?_set_ne n]; exact m1,m2⟩
  · obtain ⟨n,h⟩:=ne j _ (by simp) h
    obtain ⟨b,us,m1,m2⟩:=r.own j zs h
    exact ⟨b,us,by rw [List.getElem?_set_ne n]; exact m1,m2⟩
  · obtain ⟨n1,h1⟩:=ne j _ (by simp) h1
    obtain ⟨n2,h2⟩:=ne l _ (by simp) h2
    rw [List.getElem?_set_ne n1,List.getElem?_set_ne n2]
    exact r.apart j l us ws hjl h1 h2
section
variable {X : Cx} {E : XK} {a b c e : Expr} {es : List Expr} {f g h : Dv→Option PyData} {fs : Dv→Option (List PyData)} {fa : Dv→Option Bool} {pos p : Pos}
def isxD (T : Addr→Option Bool) : PyData→Option PyData
  | .dict [(.int C,.none)] => (T C.toNat).map .bool
  | _ => none
abbrev fIsx (T : Addr→Option Bool) (f : Dv→Option PyData) : Dv→Option PyData:=fun δ => (f δ).bind (isxD T)
theorem de_isx {T : Addr→Option Bool} {cv : V} {xT : Str} {p1 p2 : Pos} (hk : ∀ C b,T C = some b→ExcK X.K C∧PySem.W.kitOne X.K (.ref C) (clsV cv) = some b) (hn : clsV cv≠.none) (hg : Gl X "isinstance") (hm : X.mg "isinstance" = none) (hT : PE X (.Name xT p2) (tC cv)) (ha : DE X a f)
    (hs1 : starEach [a,.Name xT p2] X.env = (false,eval a X.env) :: starEach [.Name xT p2] X.env := by rfl) (hpl : (backTo pos (starEach [.Name xT p2] X.env)).any (·.1) = false := by rfl) :
    DE X (.Call (.Name "isinstance" p1) [a,.Name xT p2] [] pos) (fIsx T f) := by
  obtain ⟨ta,pa,ka⟩:=ha
  refine ⟨_,pe_callB call_isiE hg hm PyProof.Rows.boot_isinstance (pa_cons pa (pa_cons hT pa_nil) hs1) (by decide) (by decide) hs1 hpl,fun δ z hz G0 H0 G H σ ts Q R0 k => ?_⟩
  obtain ⟨x,h1,h2⟩:=Option.bind_eq_some_iff.mp hz
  unfold isxD at h2
  split at h2
  · rename_i C
    obtain ⟨bb,h3,rfl⟩:=Option.map_eq_some_iff.mp h2
    refine ka δ _ h1 G0 H0 G H σ ts _ R0 fun u G1 H1 R1 => ?_
    have du:=R1.tmp _ (.head _)
    rw [Du] at du
    rcases du with ⟨ea,C',e1,rfl,h4⟩ | ⟨_,_,e1,_⟩
    case inr => simp at e1
    have : C = (C' : Nat) := by simpa using e1
    subst this
    obtain ⟨k1,k2⟩:=hk _ _ h3
    rw [Int.toNat_natCast] at k1 k2
    exact ⟨ea,C',cv,bb,rfl,hn,R1.ins _ _ h4,k1,k2,k _ _ _ (R1.drop.put (by rw [Du]))⟩
  · cases h2
end
def retX (ps N : List Str) (J : DFX) (ds : List PyData) : Option Xr:=if ds.length = ps.length then (match J (iniD N ds) with
  | some (.inl (.rt x)) => some (.inl x)
  | some (.inl (.nx _)) => some (.inl .none)
  | some (.inl (.rn xs)) => some (.inl (.list xs))
  | some (.inr C) => some (.inr C)
  | _ => none) else none
section
variable {P : Program} {w : World} {K : PySem.W.Frag} {mg : Str→Option Value} {base : Heap} {x : Str} {st : Stmt} {fA : Addr} {fd : FuncData} {N ps : List Str} {k : Nat}
theorem letsX {qual : Str} {scope : Scope} {cd : Value} {A : Around} {outer : List Env} {s : Shared} {H : Hp} {E : XK} :
    Lets (cxOf (CXW P w) P w K mg base N qual scope fA cd A outer s H E) E:=fun _ _ _ _ _ _ _ _ I hx hE => xe_made I hx hE
theorem passX {qual : Str} {scope : Scope} {cd : Value} {A : Around} {outer : List Env} {s : Shared} {H : Hp} {E : XK} : Passes (CXW P w) (cxOf (CXW P w) P w K mg base N qual scope fA cd A outer s H E) E:=passW fun _ _ _ z => z
theorem okX {J : DFX} (T : Fn K mg x st ps fA fd) (S : FnScope N ps (defScope st))
    (hb : ∀ (cdv : Value) (A : Around) (outer : List Env) (s : Shared) (H : Hp) (E : XK),Room k (A.deeper (envOfC x (defScope st) s.heap.objs.size fA cdv))→DXs (cxOf (CXW P w) P w K mg base N x (defScope st) fA cdv A outer s H E) E (defBody st) J) :
    FnOk P w K mg base (CXW P w) (k + 1) fA fd ps (spX (retX ps N J)) := by
  refine T.F.okW S (fun vs H Q E h => ?_) fun cdv A outer s H vs Q E hr h => ?_
  · obtain ⟨ds,y,G,h1,h2,_⟩:=h
    unfold retX at h1
    split at h1
    · rename_i hl; rw [h2.len]; exact hl
    · cases h1
  · obtain ⟨ds,y,G,h1,h2,h3,h4⟩:=h
    obtain ⟨t,p,kk⟩:=hb cdv A outer s H E hr
    refine ⟨t,p,?_⟩
    unfold retX at h1
    split at h1
    · split at h1
      · rename_i z e1
        cases h1
        exact kk _ _ e1 G H G H _ _ (Rw.start h2 h3) fun v G' H' m1 m2 m3 m4 m5 => h4 v G' H' m1 m2 m3 m4 m5
      · rename_i δ e1
        cases h1
        exact kk _ _ e1 G H G H _ _ (Rw.start h2 h3) fun σ' G' H' R => h4 .non G' H' R.ext R.new R.ins R.keep (by rw [Du])
      · rename_i xs e1
        cases h1
        exact kk _ _ e1 G H G H _ _ (Rw.start h2 h3) fun a ys G' H' m1 m2 m3 m4 m5 m6 m7 m8 => let ⟨n1,n2,n3,n4⟩:=keepL m1 m2 m3 m5 m6 m7 m8; h4 _ _ H' n1 n2 n3 m4 n4
      · rename_i C e1
        cases h1
        exact kk _ _ e1 G H G H _ _ (Rw.start h2 h3) h4
      · cases h1
    · cases h1
end
abbrev sRetL (fs : Dv→Option (List PyData)) : DF:=fun δ => (fs δ).map .rn
section
variable {X : Cx} {elt iter : Expr} {x y : Str} {px py tp pos spos : Pos} {tk : Nat} {ifs : List Expr} {scope : Scope} {fs : Dv→Option (List PyData)} {tif : Dv→Option Bool} {f : Dv→Option PyData}
theorem ds_retC (N : List Str) (ix : Nat) (fr : List (Option Nat)) (hi : DI X (.Name x px) iter fs) (hif : ∀ cl C s₀ H₀ fp,DIf (cxComp X scope cl N C s₀ H₀ fp) ifs tif) (he : ∀ cl C s₀ H₀ fp,DE (cxComp X scope cl N C s₀ H₀ fp) elt f)
    (h1 : compScopeOk scope N x ix = true := by decide +kernel) (h2 : X.calm = true := by rfl) (h3 : frOk N X.N scope X.env.scope fr 0 = true := by rfl) (h4 : fr.length = N.length := by rfl) (h5 : freeOk X.env.scope scope.names = true := by rfl)
    (hs : ∀ x,foldedSetIterable iter X.env x = pure x := by intro _; rfl) : DS X (.Return (some (.ListComp elt [⟨.Name x px,iter,ifs,0⟩] scope pos)) spos) (sRetL (compL (set1 ix) tif f fr fs)) := by
  obtain ⟨wi,pi,ki⟩:=hi
  refine ⟨_,ps_ret (pe_compr N ix fr pi hif (fun cl C s₀ H₀ fp => (he cl C s₀ H₀ fp).pe) h1 h2 h3 h4 h5 hs),fun δ r h G0 H0 G H σ D R q => ?_⟩
  obtain ⟨zs,m1,rfl⟩:=Option.map_eq_some_iff.mp h
  exact comp_readN ki m1 R fun D' ys G' H' R' n1 n2 n3 n4 n5 => q _ _ _ _ R'.ext R'.new R'.ins R'.keep n3 n2 n1 n5
end
section
variable {P : Program} {w : World} {K : PySem.W.Frag} {mg : Str→Option Value} {base : Heap} {x : Str} {st : Stmt} {fA : Addr} {fd : FuncData} {N ps : List Str} {k : Nat}
theorem retD_rn {F : DF} {ds xs : List PyData} (hl : ds.length = ps.length) (h : F (iniD N ds) = some (.rn xs)) : retD ps N F ds = some (.list xs) := by unfold retD; rw [if_pos hl,h]
theorem retX_rt {J : DFX} {ds : List PyData} {y : PyData} (hl : ds.length = ps.length) (h : J (iniD N ds) = some (.inl (.rt y))) : retX ps N J ds = some (.inl y) := by unfold retX; rw [if_pos hl,h]
theorem retX_nx {J : DFX} {ds : List PyData} {δ : Dv} (hl : ds.length = ps.length) (h : J (iniD N ds) = some (.inl (.nx δ))) : retX ps N J ds = some (.inl .none) := by unfold retX; rw [if_pos hl,h]
theorem retX_no {J : DFX} {ds : List PyData} {C : Addr} (hl : ds.length = ps.length) (h : J (iniD N ds) = some (.inr C)) : retX ps N J ds = some (.inr C) := by unfold retX; rw [if_pos hl,h]
end
section
variable {J J1 J2 : DFX} {δ δ' : Dv} {r : Option OuX} {c : Dv→Option Bool} {fs : Dv→Option (List PyData)} {m : List PyData→Option Xr} {ds xs : List PyData} {f : Dv→Option PyData} {fr : List (Option Nat)} {g : PyData→PyData}
theorem seqX_nx (h : J1 δ = some (.inl (.nx δ'))) (k : J2 δ' = r) : seqX J1 J2 δ = r := by unfold seqX; rw [h]; exact k
theorem seqX_no {C : Addr} (h : J1 δ = some (.inr C)) : seqX J1 J2 δ = some (.inr C) := by unfold seqX; rw [h]
theorem xIf_t (h : c δ = some true) (k : J1 δ = r) : xIf c J1 J2 δ = r := by show (c δ).bind _ = r; rw [h]; exact k
theorem xIf_f (h : c δ = some false) (k : J2 δ = r) : xIf c J1 J2 δ = r := by show (c δ).bind _ = r; rw [h]; exact k
theorem xCall_in {nx : PyData→Dv→Ou} {y : PyData} (h : fs δ = some ds) (k : m ds = some (.inl y)) : xCall m fs nx δ = some (.inl (nx y δ)) := by show ((fs δ).bind m).map _ = _; rw [h]; show (m ds).map _ = _; rw [k]; rfl
theorem xCall_no {nx : PyData→Dv→Ou} {C : Addr} (h : fs δ = some ds) (k : m ds = some (.inr C)) : xCall m fs nx δ = some (.inr C) := by show ((fs δ).bind m).map _ = _; rw [h]; show (m ds).map _ = _; rw [k]; rfl
theorem compL_map {ix : Nat} (hx : fs δ = some xs) (hl : xs.length≤dMax) (h : ∀ x∈xs,f ((carryD fr δ).set ix (.d x)) = some (g x)) : compL (set1 ix) bYes f fr fs δ = some (xs.map g) := by
  have:=comp_map hx hl h
  unfold compD at this
  obtain ⟨ys,h1,h2⟩:=Option.map_eq_some_iff.mp this
  cases h2
  exact h1
end
def only (cs : List Addr) (m : List PyData→Option Xr) (ds : List PyData) : Option Xr:=match m ds with
  | some (.inr C) => if C∈cs then some (.inr C) else none
  | r => r
theorem only_in {cs : List Addr} {m : List PyData→Option Xr} {ds : List PyData} {C : Addr} (h : only cs m ds = some (.inr C)) : C∈cs := by
  unfold only at h
  split at h
  · split at h
    · rename_i hc; cases h; exact hc
    · cases h
  · rename_i n; exact absurd h (n C)
theorem only_no {cs : List Addr} {m : List PyData→Option Xr} {ds : List PyData} {C : Addr} (h : m ds = some (.inr C)) (hc : C∈cs) : only cs m ds = some (.inr C) := by unfold only; rw [h]; exact if_pos hc
theorem only_is {cs : List Addr} {m : List PyData→Option Xr} {ds : List PyData} {x : PyData} (h : m ds = some (.inl x)) : only cs m ds = some (.inl x) := by unfold only; rw [h]
theorem spX_only {P : Program} {w : World} {K : PySem.W.Frag} {mg : Str→Option Value} {base : Heap} {CX : CXT} {k : Nat} {f : Addr} {fd : FuncData} {ps : List Str} {m : List PyData→Option Xr} (cs : List Addr) (F : FnOk P w K mg base CX k f fd ps (spX m)) : FnOk P w K mg base CX k f fd ps (spX (only cs m)) :=
  F.imp fun vs H Q E z => by
    obtain ⟨ds,r,G,h1,h2⟩:=z
    refine ⟨ds,r,G,?_,h2⟩
    unfold only at h1
    split at h1
    · rename_i C e
      split at h1
      · cases h1; exact e
      · cases h1
    · exact h1
section
variable {δ : Dv} {fs : Dv→Option (List PyData)} {ds xs : List PyData}
theorem add_l {a b : List PyData} (h : a.length + b.length≤dMax) : dAdd (.list a) (.list b) = some (.list (a ++ b)) := by
  show orD iAdd (orD lAdd (orD tAdd' sAdd)) (.list a) (.list b) = _
  have : lAdd (.list a) (.list b) = some (.list (a ++ b)):=if_pos h
  unfold orD
  show (match lAdd (.list a) (.list b) with | some z => some z | none => _) = _
  rw [this]
theorem cut_hi (xs : List PyData) (p : Nat) : cutD xs none (some (p : Int)) = xs.take p := by
  unfold cutD
  rw [HT.sIx_none,HT.sIx_nat,List.drop_zero,Nat.sub_zero]
  by_cases h : p≤xs.length
  · rw [Nat.min_eq_left h]
  · rw [Nat.min_eq_right (by omega),List.take_of_length_le (Nat.le_refl _),List.take_of_length_le (by omega)]
theorem cut_lo (xs : List PyData) (p : Nat) : cutD xs (some (p : Int)) none = xs.drop p := by
  unfold cutD
  rw [HT.sIx_none,HT.sIx_nat]
  by_cases h : p≤xs.length
  · rw [Nat.min_eq_left h,List.take_of_length_le (by rw [List.length_drop]; omega)]
  · rw [Nat.min_eq_right (by omega),Nat.sub_self,List.take_zero,List.drop_of_length_le (by omega)]
end
section
variable {F F1 F2 : DF} {δ δ' : Dv} {fs : Dv→Option (List PyData)} {xs : List PyData} {set : PyData→Dv→Option Dv} {r : Option Ou}
theorem ex_nx {Q : Dv→Prop} (h : F1 δ = some (.nx δ')) (k : ∃ δ2,F2 δ' = some (.nx δ2)∧Q δ2) : ∃ δ2,seqD F1 F2 δ = some (.nx δ2)∧Q δ2:=let ⟨δ2,a,b⟩:=k; ⟨δ2,seqD_nx h a,b⟩
theorem for_ex (Iv : Nat→Dv→Prop) (hx : fs δ = some xs) (h0 : Iv 0 δ) (hs : ∀ (i : Nat) (x : PyData) (δ : Dv),xs[i]? = some x→Iv i δ→∃ δ1,set x δ = some δ1∧∃ δ2,F δ1 = some (.nx δ2)∧Iv (i + 1) δ2) :
    ∃ δ',sFor fs set F δ = some (.nx δ')∧Iv xs.length δ':=sFor_inv Iv hx h0 fun i x δ a b => let ⟨δ1,c,δ2,e,g⟩:=hs i x δ a b; ⟨δ1,δ2,c,e,g⟩
theorem seqD_for (Iv : Nat→Dv→Prop) (hx : fs δ = some xs) (h0 : Iv 0 δ) (hs : ∀ (i : Nat) (x : PyData) (δ : Dv),xs[i]? = some x→Iv i δ→∃ δ1,set x δ = some δ1∧∃ δ2,F δ1 = some (.nx δ2)∧Iv (i + 1) δ2)
    (k : ∀ δ',Iv xs.length δ'→F2 δ' = r) : seqD (sFor fs set F) F2 δ = r := by
  obtain ⟨δ',h1,h2⟩:=for_ex Iv hx h0 hs
  exact seqD_nx h1 (k δ' h2)
theorem for_exQ {Q : Dv→Prop} (Iv : Nat→Dv→Prop) (hx : fs δ = some xs) (h0 : Iv 0 δ) (hs : ∀ (i : Nat) (x : PyData) (δ : Dv),xs[i]? = some x→Iv i δ→∃ δ1,set x δ = some δ1∧∃ δ2,F δ1 = some (.nx δ2)∧Iv (i + 1) δ2) (hq : ∀ δ,Iv xs.length δ→Q δ) :
    ∃ δ',sFor fs set F δ = some (.nx δ')∧Q δ':=let ⟨δ',a,b⟩:=for_ex Iv hx h0 hs; ⟨δ',a,hq _ b⟩
theorem if_ex {c : Dv→Option Bool} {Q : Dv→Prop} (h : c δ = some false) (k : ∃ δ2,F2 δ = some (.nx δ2)∧Q δ2) : ∃ δ2,sIf c F1 F2 δ = some (.nx δ2)∧Q δ2:=let ⟨δ2,a,b⟩:=k; ⟨δ2,sIf_f h a,b⟩
end
abbrev XrL:=List PyData ⊕ Addr
def DEX (X : Cx) (E : XK) (e : Expr) (f : Dv→Option Xr) : Prop:=∃ t,PE X e t∧∀ δ r,f δ = some r→∀ G0 H0 G H σ ts (Q : VK),Rw G0 H0 G H σ δ ts→(∀ x,r = .inl x→∀ v G' H',Rw G0 H0 G' H' σ δ ((x,v) :: ts)→Q v H')→(∀ C,r = .inr C→∀ H',Same H0 H'→E (.ref C) none H')→t σ H Q
def DAX (X : Cx) (E : XK) (es : List Expr) (f : Dv→Option XrL) : Prop:=∃ t,PA X es t∧∀ δ r,f δ = some r→∀ G0 H0 G H σ ts (Q : List V→Hp→Prop),Rw G0 H0 G H σ δ ts→(∀ xs,r = .inl xs→∀ vs G' H',Rw G0 H0 G' H' σ δ (xs.zip vs ++ ts)→vs.length = xs.length→Q vs H')→(∀ C,r = .inr C→∀ H',Same H0 H'→E (.ref C) none H')→t σ H Q
section
variable {X : Cx} {E : XK} {a b c e : Expr} {es : List Expr} {f : Dv→Option PyData} {fx : Dv→Option Xr} {gx : Dv→Option XrL} {fs : Dv→Option (List PyData)} {pos p : Pos}
abbrev aOf (f : Dv→Option (List PyData)) : Dv→Option XrL:=fun δ => (f δ).map .inl
theorem dax_of (h : DA X.nox es fs) : DAX X E es (aOf fs) := by
  obtain ⟨t,p,k⟩:=h
  refine ⟨t,pa_nox p,fun δ r h G0 H0 G H σ ts Q R q1 q2 => ?_⟩
  obtain ⟨o,h1,rfl⟩:=Option.map_eq_some_iff.mp h
  exact k δ o h1 G0 H0 G H σ ts Q R (q1 o rfl)
def consX (fx : Dv→Option Xr) (gx : Dv→Option XrL) (δ : Dv) : Option XrL:=match fx δ with
  | some (.inl x) => (match gx δ with
    | some (.inl xs) => some (.inl (x :: xs))
    | some (.inr C) => some (.inr C)
    | none => none)
  | some (.inr C) => some (.inr C)
  | none => none
theorem dax_cons (ha : DEX X E e fx) (hr : DAX X E es gx) (hs : starEach (e :: es) X.env = (false,eval e X.env) :: starEach es X.env := by rfl) : DAX X E (e :: es) (consX fx gx) := by
  obtain ⟨ta,pa,ka⟩:=ha
  obtain ⟨tr,pr,kr⟩:=hr
  refine ⟨_,pa_cons pa pr hs,fun δ r hz G0 H0 G H σ ts Q R q1 q2 => ?_⟩
  unfold consX at hz
  cases hf : fx δ with
  | none => rw [hf] at hz; cases hz
  | some u =>
    rw [hf] at hz
    cases u with
    | inr C =>
      cases hz
      exact ka δ _ hf G0 H0 G H σ ts _ R (fun x hx => by cases hx) fun C' hC => by cases hC; exact q2 C rfl
    | inl x =>
      refine ka δ _ hf G0 H0 G H σ ts _ R (fun x' hx v G1 H1 R1 => ?_) (fun C hC => by cases hC)
      cases hx
      cases hg : gx δ with
      | none => rw [hg] at hz; cases hz
      | some w =>
        rw [hg] at hz
        refine kr δ _ hg G0 H0 G1 H1 σ _ _ R1 (fun xs hxs vs G2 H2 R2 hl => ?_) (fun C hC H' h' => ?_)
        · subst hxs
          cases hz
          refine q1 _ rfl (v :: vs) G2 H2 (R2.less fun q hq => ?_) (by simp [hl])
          simp only [List.zip_cons_cons,List.cons_append,List.mem_cons,List.mem_append] at hq ⊢
          rcases hq with h | h | h
          · exact .inr (.inl h)
          · exact .inl h
          · exact .inr (.inr h)
        · subst hC
          cases hz
          exact q2 C rfl H' h'
def mapX (gx : Dv→Option XrL) (m : List PyData→Option Xr) (δ : Dv) : Option Xr:=match gx δ with
  | some (.inl xs) => m xs
  | some (.inr C) => some (.inr C)
  | none => none
theorem dex_lst {lp : Pos} (ha : DAX X E es gx) : DEX X E (.List es lp) (mapX gx fun xs => (few xs).map fun ys => .inl (.list ys)) := by
  obtain ⟨ta,pa,ka⟩:=ha
  refine ⟨_,pe_lst pa,fun δ r hz G0 H0 G H σ ts Q R q1 q2 => ?_⟩
  unfold mapX at hz
  cases hg : gx δ with
  | none => rw [hg] at hz; cases hz
  | some w =>
    rw [hg] at hz
    refine ka δ _ hg G0 H0 G H σ ts _ R (fun xs hxs vs G1 H1 R1 hv => ?_) (fun C hC H' h' => ?_)
    · subst hxs
      obtain ⟨ys,h1,rfl⟩:=Option.map_eq_some_iff.mp hz
      obtain ⟨rfl,hl⟩:=few_eq h1
      obtain ⟨d,R2⟩:=R1.args hv
      exact ⟨dMax_le (by rw [hv]; exact hl),fun q hq => q1 _ rfl _ _ _ (R2.newL d hq)⟩
    · subst hC
      cases hz
      exact q2 C rfl H' h'
theorem dex_call {k : Nat} {fA : Addr} {fd : FuncData} {ps : List Str} {m : List PyData→Option Xr} {x : Str} {st' : Stmt} (T : Fn X.K X.mg x st' ps fA fd) (F : FnOk X.prog X.w X.K X.mg X.base (CXW X.prog X.w) k fA fd ps (spX m)) (hr : Room k X.A) (hP : Passes (CXW X.prog X.w) X E) (ha : DAX X E (e :: es) gx)
    (hg : Gl X x := by rfl) (hdb : (x == ("__debug__" : Str)) = false := by decide) (he : starEach (e :: es) X.env = (false,eval e X.env) :: starEach es X.env := by rfl) (hpl : (backTo pos (starEach es X.env)).any (·.1) = false := by rfl) :
    DEX X E (.Call (.Name x p) (e :: es) [] pos) (mapX gx m) := by
  obtain ⟨ta,pa,ka⟩:=ha
  refine ⟨_,pe_fnW T F hr hg hP pa hdb he hpl,fun δ r hz G0 H0 G H σ ts Q R q1 q2 => ?_⟩
  unfold mapX at hz
  cases hg : gx δ with
  | none => rw [hg] at hz; cases hz
  | some w =>
    rw [hg] at hz
    refine ka δ _ hg G0 H0 G H σ ts _ R (fun xs hxs vs G1 H1 R1 hv => ?_) (fun C hC H' h' => ?_)
    · subst hxs
      obtain ⟨d,R2⟩:=R1.args hv
      refine ⟨xs,r,G1,hz,by rw [List.append_nil]; exact d,R2.ins,?_⟩
      cases r with
      | inl y => exact fun v G' H' h3 h4 h5 h6 h7 => q1 y rfl _ _ _ ((R2.lift h3 h4 h5 h6).put h7)
      | inr C => exact fun H' h => q2 C rfl H' (R2.keep.trans h)
    · subst hC
      cases hz
      exact q2 C rfl H' h'
abbrev xE (fx : Dv→Option Xr) (nx : PyData→Dv→Ou) : DFX:=fun δ => (fx δ).map fun r => match r with
  | .inl x => .inl (nx x δ)
  | .inr C => .inr C
theorem dx_retE (he : DEX X E e fx) : DX X E (.Return (some e) pos) (xE fx fun x _ => .rt x) := by
  obtain ⟨t,p,k⟩:=he
  refine ⟨_,ps_ret p,fun δ r h G0 H0 G H σ D R q => ?_⟩
  obtain ⟨z,h1,rfl⟩:=Option.map_eq_some_iff.mp h
  refine k δ z h1 G0 H0 G H σ [] _ R (fun x hx v G' H' R' => ?_) (fun C hC H' h' => ?_)
  · subst hx; exact q _ _ _ R'.ext R'.new R'.ins R'.keep (R'.tmp _ (.head _))
  · subst hC; exact q _ h'
end
def forX (set : PyData→Dv→Option Dv) (J : DFX) : List PyData→Dv→Option OuX
  | [],δ => some (.inl (.nx δ))
  | x :: xs,δ => match (set x δ).bind J with
    | some (.inl (.nx δ')) => forX set J xs δ'
    | some (.inl (.ct δ')) => forX set J xs δ'
    | some (.inl (.bk δ')) => some (.inl (.nx δ'))
    | some (.inl (.rt v)) => some (.inl (.rt v))
    | some (.inl (.rn v)) => some (.inl (.rn v))
    | some (.inr C) => some (.inr C)
    | none => none
abbrev xFor (fs : Dv→Option (List PyData)) (set : PyData→Dv→Option Dv) (J : DFX) : DFX:=fun δ => (fs δ).bind fun xs => forX set J xs δ
theorem dx_for {X : Cx} {E : XK} {tg e : Expr} {sts : List Stmt} {pos : Pos} {fs : Dv→Option (List PyData)} {J : DFX} {set : PyData→Dv→Option Dv} (hp : PassesOwn (model X.prog X.w) X.A X.env X.xe) (hc : X.calm = true) (hi : DI X tg e fs) (hg : DG X tg set) (hb : DXs X E sts J) (hs : ∀ x,foldedSetIterable e X.env x = pure x := by intro _; rfl) :
    DX X E (.For tg e sts [] pos) (xFor fs set J) := by
  obtain ⟨wi,pi,ki⟩:=hi
  obtain ⟨g,pg,kg⟩:=hg
  obtain ⟨tb,pb,kb⟩:=hb
  refine ⟨_,ps_for hp hc pi pg pb hs,fun δ r h G0 H0 G H σ D R q => ?_⟩
  obtain ⟨xs,h1,h2⟩:=Option.bind_eq_some_iff.mp h
  refine ki δ xs h1 G0 H0 G H σ [] _ R fun J' Ga Ha Ra it => ?_
  refine ⟨fun i m σ' H' => m = xs.length - i∧i≤xs.length∧∃ δ' G',forX set J (xs.drop i) δ' = some r∧Rw G0 H0 G' H' σ' δ' []∧Same Ga G',⟨xs.length,by simp,Nat.zero_le _,δ,Ga,by simpa using h2,Ra,Same.refl _⟩,?_⟩
  rintro i m σ1 H1 ⟨rfl,hi,δ1,G1,f1,R1,s1⟩
  have sH : Same Ga H1:=s1.trans R1.ins
  by_cases hlt : i < xs.length
  · right
    have hx : xs[i]? = some xs[i] := by simp [hlt]
    refine ⟨it.go i _ H1 hx sH,fun σ' H' => i + 1≤xs.length∧∃ δ' G',forX set J (xs.drop (i + 1)) δ' = some r∧Rw G0 H0 G' H' σ' δ' []∧Same Ga G',fun σ' H' n => ⟨xs.length - (i + 1),by omega,rfl,n⟩,fun x H' y => ?_⟩
    obtain ⟨G2,e1,e2,e3,e4,e5⟩:=it.yld i _ H1 x H' hx sH y G1 s1 R1.ins
    have R2:=(R1.lift e1 e2 e3 e4).put e5
    have s2:=s1.trans e1
    rw [List.drop_eq_getElem_cons hlt] at f1
    unfold forX at f1
    cases hb2 : (set xs[i] δ1).bind J with
    | none => rw [hb2] at f1; cases f1
    | some o =>
      obtain ⟨δ2,k1,k2⟩:=Option.bind_eq_some_iff.mp hb2
      rw [hb2] at f1
      have R2b:=R2.base
      refine kg δ1 _ δ2 k1 G2 H0 G2 H' σ1 x _ R2b fun σ3 G3 H3 R3 => ?_
      refine kb δ2 o k2 G2 H0 G3 H3 σ3 _ R3 ?_
      cases o with
      | inr C => cases f1; exact q
      | inl o =>
        cases o with
        | nx δ3 => exact fun σ4 G4 H4 R4 => ⟨hlt,δ3,G4,f1,R2.drop.unbase R4,s2.trans R4.ext⟩
        | ct δ3 => exact fun σ4 G4 H4 R4 => ⟨hlt,δ3,G4,f1,R2.drop.unbase R4,s2.trans R4.ext⟩
        | bk δ3 => cases f1; exact fun σ4 G4 H4 R4 => q σ4 G4 H4 (R2.drop.unbase R4)
        | rt v => cases f1; exact fun w G4 H4 h1 h2 h3 h4 h5 => q w G4 H4 (R2.ext.trans h1) (R2.new.trans h2) h3 h4 h5
        | rn v => cases f1; exact fun w ys G4 H4 h1 h2 => q w ys G4 H4 (R2.ext.trans h1) (R2.new.trans h2)
  · left
    have e : i = xs.length := by omega
    subst e
    refine ⟨it.stop H1 sH,?_⟩
    rw [List.drop_length] at f1
    unfold forX at f1
    cases f1
    exact q _ _ _ R1
section
variable {δ δ' : Dv} {fx : Dv→Option Xr} {gx : Dv→Option XrL} {m : List PyData→Option Xr} {xs : List PyData} {r : Option Xr} {fs : Dv→Option (List PyData)} {set : PyData→Dv→Option Dv} {J : DFX}
theorem consX_in {x : PyData} (h : fx δ = some (.inl x)) (k : gx δ = some (.inl xs)) : consX fx gx δ = some (.inl (x :: xs)) := by unfold consX; rw [h,k]
theorem consX_no {C : Addr} (h : fx δ = some (.inr C)) : consX fx gx δ = some (.inr C) := by unfold consX; rw [h]
theorem mapX_in (h : gx δ = some (.inl xs)) (k : m xs = r) : mapX gx m δ = r := by unfold mapX; rw [h]; exact k
theorem mapX_no {C : Addr} (h : gx δ = some (.inr C)) : mapX gx m δ = some (.inr C) := by unfold mapX; rw [h]
theorem xE_in {nx : PyData→Dv→Ou} {y : PyData} (h : fx δ = some (.inl y)) : xE fx nx δ = some (.inl (nx y δ)) := by show (fx δ).map _ = _; rw [h]; rfl
theorem xE_no {nx : PyData→Dv→Ou} {C : Addr} (h : fx δ = some (.inr C)) : xE fx nx δ = some (.inr C) := by show (fx δ).map _ = _; rw [h]; rfl
theorem aOf_is (h : fs δ = some xs) : aOf fs δ = some (.inl xs) := by show (fs δ).map _ = _; rw [h]; rfl
theorem forX_all (Iv : Dv→Prop) (hs : ∀ x∈xs,∀ δ,Iv δ→∃ δ1 δ2,set x δ = some δ1∧J δ1 = some (.inl (.nx δ2))∧Iv δ2) (h0 : Iv δ) : ∃ δ',forX set J xs δ = some (.inl (.nx δ'))∧Iv δ' := by
  induction xs generalizing δ with
  | nil => exact ⟨δ,rfl,h0⟩
  | cons x xs ih =>
    obtain ⟨δ1,δ2,h1,h2,h3⟩:=hs x (.head _) δ h0
    obtain ⟨δ',h4,h5⟩:=ih (fun y hy => hs y (.tail _ hy)) h3
    refine ⟨δ',?_,h5⟩
    unfold forX
    rw [h1,Option.bind_some,h2]
    exact h4
theorem forX_no {C : Addr} (Iv : Dv→Prop) (hs : ∀ x∈xs,∀ δ,Iv δ→∃ δ1,set x δ = some δ1∧((∃ δ2,J δ1 = some (.inl (.nx δ2))∧Iv δ2)∨J δ1 = some (.inr C))) (hx : ∃ x∈xs,∀ δ,Iv δ→∃ δ1,set x δ = some δ1∧J δ1 = some (.inr C)) (h0 : Iv δ) : forX set J xs δ = some (.inr C) := by
  induction xs generalizing δ with
  | nil => obtain ⟨x,hx,_⟩:=hx; cases hx
  | cons x xs ih =>
    obtain ⟨δ1,h1,h2⟩:=hs x (.head _) δ h0
    unfold forX
    rw [h1,Option.bind_some]
    rcases h2 with ⟨δ2,h2,h3⟩ | h2
    · rw [h2]
      refine ih (fun y hy => hs y (.tail _ hy)) ?_ h3
      obtain ⟨y,hy,k⟩:=hx
      rcases List.mem_cons.mp hy with rfl | hy
      · obtain ⟨δ1',k1,k2⟩:=k δ h0
        rw [h1] at k1; cases k1
        rw [h2] at k2; cases k2
      · exact ⟨y,hy,k⟩
    · rw [h2]
end
end L2
set_option maxHeartbeats 2000000
namespace L2
open PySem PySem.Spec PyProof.Rows
inductive HdOk (X : Cx) (C ea : Addr) (k : Nat) : List ExceptHandler→TS→Prop
  | hit {x n : Str} {G : Addr} {np hpos : Pos} {b0 : Stmt} {suite : List Stmt} {rest : List ExceptHandler} {t : TS} (hg : Gl X x) (hm : X.mg x = some (.ref G)) (hd : (x == ("__debug__" : Str)) = false) (hB : Beneath X.K C G true) (hk : X.N[k]? = some n) (hln : X.env.scope.names.lookup n = some .local) (hb : PSs (X.held ea) (b0 :: suite) t) :
      HdOk X C ea k (.ExceptHandler (some (.Name x np)) (some n) (b0 :: suite) hpos :: rest) t
  | miss {x n : Str} {G : Addr} {np hpos : Pos} {b0 : Stmt} {suite : List Stmt} {rest : List ExceptHandler} {t : TS} (hg : Gl X x) (hm : X.mg x = some (.ref G)) (hd : (x == ("__debug__" : Str)) = false) (hB : Beneath X.K C G false) (r : HdOk X C ea k rest t) :
      HdOk X C ea k (.ExceptHandler (some (.Name x np)) (some n) (b0 :: suite) hpos :: rest) t
def endsH (D : Ends) (k : Nat) : Ends:={ nx:=fun σ' H2 => D.nx (σ'.set k none) H2,rt:=fun _ _ => False }
section
variable {X : Cx} {pins : List (Addr×Obj)} {σ : St} {D : Ends}
theorem handledH {H0 H' : Hp} {s0 s1 : Shared} {ea C : Addr} {a0 : Value} {B : Heap} {k : Nat} {h5 : Heap} (hN : X.N.Nodup) (hcalm : X.calm = true) (I : Inv X pins σ H0 s0) (F : FlyB X.prog X.w X.stack H0 s0 ea (.ref C) a0 H' s1 B) {rest' : List Env} (hrest : X.stack = X.env :: rest') (hfr : X.env.frame = some X.env.locals)
    (fl5 : Heap.FlyingW B (X.env :: rest') ea (.ref C) a0 h5) (up05 : s1.heap.UpToSlots h5) (I5 : Inv X pins σ H' { s1 with heap:=h5,toks:=s1.toks }) :
    ∀ {hs : List ExceptHandler} {t : TS},HdOk X C ea k hs t→(H' ea = none→t (endsH D k) (σ.set k (some (.ref ea))) (upd H' ea (excO ea (.ref C))))→wpAny (model X.prog X.w) X.A (handleBy (.ref ea) X.env hs) (SP X pins D) X.xe { s1 with heap:=h5,toks:=s1.toks } := by
  obtain ⟨ob,hob,hobc⟩:=fl5.there
  intro hs t hok q
  induction hok with
  | miss hg hm hd hB r ih =>
    refine wpAny_handleBy_cons (codeAny_handlers_test (ld_glob (I5.held ea) hg hm ?_ hd)) (by intro q; cases q)
    exact excMatch (K:=X.K) I5.kIn hob hobc hB (ih q)
  | @hit x n G np hpos b0 suite rest t hg hm hd hB hk hln hb =>
    refine wpAny_handleBy_cons (codeAny_handlers_test (ld_glob (I5.held ea) hg hm ?_ hd)) (by intro q; cases q)
    refine excMatch (K:=X.K) I5.kIn hob hobc hB (codeAny_handlers_suite_as ?_)
    refine lands_againW fl5 fun h6 fl6 up6 => ?_
    have I6 : Inv X pins σ H' { s1 with heap:=h6,toks:=s1.toks }:=land I F fl6.1 (up05.trans up6)
    obtain ⟨oe,ws,e1,e2,e3,_⟩:=fl6.first
    obtain ⟨hfree,I7⟩:=track I F I6 ⟨oe,ws,e1,e2,e3⟩
    refine store_ok (X:=X.held ea) (I7.held ea) hN hk (.inl hln) (v:=.ref ea) rfl (fun s8 I8 => ?_) (.inr hln)
    refine wpAny_mono (hb pins s8 _ _ (endsH D k) I8 (q hfree)) (fun fl s9 h9 => ?_) fun _ _ z => z.elim
    cases fl with
    | next =>
      obtain ⟨σ9,H9,I9,e9⟩:=h9
      exact goes (I9.unheld I.ok) hN hk hln fun s' I' => ⟨_,_,I',e9⟩
    | brk => obtain ⟨_,_,_,z⟩:=h9; exact z.elim
    | cont => obtain ⟨_,_,_,z⟩:=h9; exact z.elim
    | ret v => obtain ⟨_,_,_,_,_,z⟩:=h9; exact z.elim
def tTryH (X : Cx) (k : Nat) (hs : List ExceptHandler) (t : TX) : TS:=fun D σ H => t σ H (fun _ H1 => D.nx σ H1) fun cls _ H' => ∃ C,cls = .ref C∧∀ ea,∃ tb,HdOk X C ea k hs tb∧(H' ea = none→tb (endsH D k) (σ.set k (some (.ref ea))) (upd H' ea (excO ea cls)))
theorem ps_tryH {e : Expr} {t : TX} {k : Nat} {h0 : ExceptHandler} {hs : List ExceptHandler} {spos pos : Pos} (he : PEX X e t) (hN : X.N.Nodup) (hcalm : X.calm = true) (hstk : ∃ rest,X.stack = X.env :: rest) (hfr : X.env.frame = some X.env.locals)
    (hse : swapsWith e none spos.line X.env = pure false := by rfl) : PS X (.Try [.Expr e spos] (h0 :: hs) [] [] pos) (tTryH X k (h0 :: hs) t) := by
  intro pins s σ H D I h
  refine wpAny_Try_except (wpAny_execs_cons (wpAny_Expr_any (wpAny_mono (he pins s σ H _ _ I h) (fun v s1 ⟨w,H1,I1,r1,q1⟩ => ?_) fun ev s1 hf => ?_) I.quiet hse))
  · exact wpAny_execs_nil (wpAny_execs_nil ⟨_,H1,I1,q1⟩)
  · obtain ⟨H0,s0,I,ea,cls,a0,H',B,ee,F,C,hc,q⟩:=hf
    subst ee hc
    obtain ⟨rest,hrest⟩:=hstk
    have F1:=F.fly
    rw [hrest] at F1
    have hfrm : X.A.frames = some (X.env :: rest) := by rw [← hrest]; exact I.ok.frames
    refine wpAny_looks_onW hfrm hfr F1 fun h4 held4 up4 => ?_
    refine wpAny_landsW held4 fun h5 fl5 up5 => ?_
    have up05:=up4.trans up5
    have I5 : Inv X pins σ H' { s1 with heap:=h5,toks:=s1.toks }:=land I F fl5.1 up05
    obtain ⟨tb,q1,q2⟩:=q ea
    exact handledH hN hcalm I F hrest hfr fl5 up05 I5 q1 q2
end
def DHs (X : Cx) (C ea : Addr) (k : Nat) (hs : List ExceptHandler) (F : DF) : Prop:=∃ tb,HdOk X C ea k hs tb∧∀ δ r,F δ = some r→∀ G0 H0 G H σ D,Rw G0 H0 G H σ δ []→Fin G0 H0 D r→tb D σ H
section
variable {X : Cx} {C ea : Addr} {k : Nat} {x n : Str} {G : Addr} {np hpos : Pos} {b0 : Stmt} {suite : List Stmt} {rest : List ExceptHandler} {F : DF}
theorem dh_hit (hm : X.mg x = some (.ref G)) (hB : Beneath X.K C G true) (hb : DSs (X.held ea) (b0 :: suite) F) (hg : Gl X x := by rfl) (hd : (x == ("__debug__" : Str)) = false := by decide) (hk : X.N[k]? = some n := by rfl) (hln : X.env.scope.names.lookup n = some .local := by rfl) :
    DHs X C ea k (.ExceptHandler (some (.Name x np)) (some n) (b0 :: suite) hpos :: rest) F:=let ⟨t,p,q⟩:=hb; ⟨t,.hit hg hm hd hB hk hln p,q⟩
theorem dh_miss (hm : X.mg x = some (.ref G)) (hB : Beneath X.K C G false) (r : DHs X C ea k rest F) (hg : Gl X x := by rfl) (hd : (x == ("__debug__" : Str)) = false := by decide) :
    DHs X C ea k (.ExceptHandler (some (.Name x np)) (some n) (b0 :: suite) hpos :: rest) F:=let ⟨t,p,q⟩:=r; ⟨t,.miss hg hm hd hB p,q⟩
end
def endH (k : Nat) : Ou→Option Ou
  | .nx δ => some (.nx (δ.set k .no))
  | _ => none
abbrev sTryH (k : Nat) (m : List PyData→Option Xr) (fs : Dv→Option (List PyData)) (Fh : Addr→DF) : DF:=fun δ => ((fs δ).bind m).bind fun r => match r with
  | .inl _ => some (.nx δ)
  | .inr C => (Fh C (δ.set k (.d (excD C)))).bind (endH k)
section
variable {X : Cx} {e : Expr} {es : List Expr} {fs : Dv→Option (List PyData)} {pos p : Pos}
theorem ds_tryH {kk k : Nat} {fA : Addr} {fd : FuncData} {ps : List Str} {m : List PyData→Option Xr} {x : Str} {st' : Stmt} {h0 : ExceptHandler} {hs : List ExceptHandler} {spos tp : Pos} {Fh : Addr→DF} (T : Fn X.K X.mg x st' ps fA fd) (F : FnOk X.prog X.w X.K X.mg X.base (CXW X.prog X.w) kk fA fd ps (spX m)) (hr : Room kk X.A) (ha : DA X.nox (e :: es) fs)
    (hN : X.N.Nodup) (hH : ∀ ds C,m ds = some (.inr C)→∀ ea,DHs X C ea k (h0 :: hs) (Fh C))
    (hcalm : X.calm = true := by rfl) (hstk : ∃ rest,X.stack = X.env :: rest := by exact ⟨_,rfl⟩) (hfr : X.env.frame = some X.env.locals := by rfl) (hg : Gl X x := by rfl) (hdb : (x == ("__debug__" : Str)) = false := by decide) (he : starEach (e :: es) X.env = (false,eval e X.env) :: starEach es X.env := by rfl) (hpl : (backTo pos (starEach es X.env)).any (·.1) = false := by rfl)
    (hse : swapsWith (.Call (.Name x p) (e :: es) [] pos) none spos.line X.env = pure false := by rfl) :
    DS X (.Try [.Expr (.Call (.Name x p) (e :: es) [] pos) spos] (h0 :: hs) [] [] tp) (sTryH k m fs Fh) := by
  obtain ⟨ta,pa,ka⟩:=ha
  refine ⟨_,ps_tryH (k:=k) (pex_fn T F hr hg pa hdb he hpl) hN hcalm hstk hfr hse,fun δ r h G0 H0 G H σ D R q => ?_⟩
  obtain ⟨w,h1,h2⟩:=Option.bind_eq_some_iff.mp h
  have h1':=h1
  obtain ⟨ds,_,hm⟩:=Option.bind_eq_some_iff.mp h1'
  refine call_x (k:=kk) ka h1 R (fun x hx v G' H' R' => ?_) (fun C hC G' H' R' => ?_)
  · subst hx; cases h2; exact q _ _ _ R'.drop
  · subst hC
    refine ⟨C,rfl,fun ea => ?_⟩
    obtain ⟨tb,p1,p2⟩:=hH ds C hm ea
    refine ⟨tb,p1,fun hea => ?_⟩
    obtain ⟨o,h3,h4⟩:=Option.bind_eq_some_iff.mp h2
    have R2:=R'.newObj (o:=excO ea (.ref C)) hea
    have de : Du (upd G' ea (excO ea (.ref C))) (excD C) (.ref ea) := by unfold excD; rw [Du]; exact .inl ⟨ea,C,rfl,rfl,upd_same⟩
    refine p2 _ o h3 G0 H0 _ _ _ _ ((R2.put de).setD) ?_
    cases o with
    | nx δ' => cases h4; exact fun σ4 G4 H4 R4 => q _ _ _ (R4.setNo k none)
    | rt v => cases h4
    | bk v => cases h4
    | ct v => cases h4
    | rn v => cases h4
theorem sTryH_in {k : Nat} {δ : Dv} {ds : List PyData} {m : List PyData→Option Xr} {Fh : Addr→DF} {y : PyData} (h : fs δ = some ds) (q : m ds = some (.inl y)) : sTryH k m fs Fh δ = some (.nx δ) := by show ((fs δ).bind m).bind _ = _; rw [h]; show (m ds).bind _ = _; rw [q]; rfl
theorem sTryH_no {k : Nat} {δ δ' : Dv} {ds : List PyData} {m : List PyData→Option Xr} {Fh : Addr→DF} {C : Addr} (h : fs δ = some ds) (q : m ds = some (.inr C)) (z : Fh C (δ.set k (.d (excD C))) = some (.nx δ')) : sTryH k m fs Fh δ = some (.nx (δ'.set k .no)) := by
  show ((fs δ).bind m).bind _ = _
  rw [h]
  show (m ds).bind _ = _
  rw [q]
  show (Fh C (δ.set k (.d (excD C)))).bind (endH k) = _
  rw [z]; rfl
end
end L2
set_option maxHeartbeats 1000000
namespace L2
open PySem PySem.Spec PyProof.Rows
def dIn (neg : Bool) : PyData→PyData→Option PyData:=fun x y => match x with
  | .int i => (seqOf y).bind fun ds => (asIs ds).map fun ns => .bool (if neg then !(ns.contains i) else ns.contains i)
  | _ => none
theorem flat_ints (ns : List Int) : (ns.map V.int).all flatV = true := by
  rw [List.all_eq_true]
  intro x hx
  obtain ⟨i,_,rfl⟩:=List.mem_map.mp hx
  rfl
theorem inV_ints (i : Int) : ∀ ns : List Int,inV (.int i) (ns.map V.int) = ns.contains i
  | [] => rfl
  | n :: ns => by
    have ih:=inV_ints i ns
    unfold inV at ih ⊢
    rw [List.map_cons,List.any_cons,ih,List.contains_cons]
    congr 1
    show (n == i) = (i == n)
    rw [Bool.eq_iff_iff,beq_iff_eq,beq_iff_eq]
    exact eq_comm
section
variable {X : Cx}
theorem do_inG {m : Value→Value→Sem Value} {neg : Bool} (ho : OpR X m (rIn X.K neg)) : DOp X m (dIn neg) := by
  refine ⟨_,ho,fun x y z hz G0 H0 G H σ δ ts u v Q R0 du dv k => ?_⟩
  unfold dIn at hz
  split at hz
  · rename_i i
    obtain ⟨ds,h1,h2⟩:=Option.bind_eq_some_iff.mp hz
    obtain ⟨ns,h3,rfl⟩:=Option.map_eq_some_iff.mp h2
    rw [Du] at du
    subst du
    obtain ⟨b,a,ys,rfl,n1,n2⟩:=seq_at dv h1
    have e:=n2.ints h3
    subst e
    have n1:=R0.ins _ _ n1
    refine ⟨a,_,rfl,?_,rfl,flat_ints ns,?_⟩
    · cases b
      · exact .inl (SqL.of (by simpa using n1))
      · exact .inr (SqT.of (by simpa using n1))
    · rw [inV_ints]
      exact k _ _ _ (R0.put (by rw [Du]))
  · cases hz
theorem do_notin : DOp X (compareOp .NotIn) (dIn true):=do_inG op_notIn_seq
end
abbrev sOwnCut (i : Nat) (f : Dv→Option PyData) (fo fu : Dv→Option (Option Int)) : DF:=fun δ => (f δ).bind fun x => (fo δ).bind fun l => (fu δ).bind fun u => match x with
  | .list xs => some (.nx (δ.set i (.own (.lst (cutD xs l u)))))
  | _ => none
theorem ds_ownCut {X : Cx} {e : Expr} {lo hi : Option Expr} {f : Dv→Option PyData} {fo fu : Dv→Option (Option Int)} {i : Nat} {y : Str} {pos pos' p2 sp : Pos} (he : DE X e f) (hl : DO X lo fo) (hh : DO X hi fu) (hN : X.N.Nodup) (hi' : X.N[i]? = some y) (hx : Loc X.env.scope y) (hs : swapsWith (.Subscript e (.Slice lo hi none p2) sp) (some (.Name y pos')) pos.line X.env = pure false := by rfl) (hf : X.fn y = true∨X.env.scope.names.lookup y = some .local := by first | exact .inl rfl | exact .inr rfl | assumption) :
    DS X (.Assign [.Name y pos'] (.Subscript e (.Slice lo hi none p2) sp) pos) (sOwnCut i f fo fu) := by
  obtain ⟨te,pe,ke⟩:=he
  obtain ⟨tl,pl,kl⟩:=hl
  obtain ⟨th,ph,kh⟩:=hh
  refine ⟨_,ps_set hN hi' hx (pe_slice sl_list pe pl ph) hs hf,fun δ r hz G0 H0 G H σ D R q => ?_⟩
  obtain ⟨x,h1,h2⟩:=Option.bind_eq_some_iff.mp hz
  obtain ⟨l,h3,h4⟩:=Option.bind_eq_some_iff.mp h2
  obtain ⟨u,h5,h6⟩:=Option.bind_eq_some_iff.mp h4
  refine ke δ x h1 G0 H0 G H σ [] _ R fun v G1 H1 R1 => ?_
  refine kl δ l h3 G0 H0 G1 H1 σ _ _ R1 fun G2 H2 R2 => ?_
  refine kh δ u h5 G0 H0 G2 H2 σ _ _ R2 fun G3 H3 R3 => ?_
  have du:=R3.tmp _ (.head _)
  split at h6
  · cases h6
    rw [Du] at du
    obtain ⟨a,ys,rfl,n1,n2⟩:=du
    exact ⟨a,ys,rfl,SqL.of (R3.ins _ _ n1),fun p hp => q _ _ _ (R3.drop.setOwn ⟨_,rfl,n2.cut l u⟩ hp)⟩
  · cases h6
end L2
set_option maxHeartbeats 4000000
namespace Opn
open PySem PySem.W PyProof.Rows PySem.Calls
noncomputable def q0 : Pos:=⟨0,0,0,0⟩
noncomputable def o11 : Obj:={ cls:=.type "tuple",data:=.seq #[] }
noncomputable def o12 : Obj:={ cls:=.none,data:=.fields #[] }
noncomputable def o13 : Obj:={ cls:=.type "code",data:=.fields #[.str (Str.ofString "<module>") 182,.str (Str.ofString "<module>") 183,.str (Str.ofString "/claim/cut.py") 184,.int 1 0,.int 0 0,.int 0 0,.int 0 0,.int 0 0,.ref 11,.bool false,.int 181 0,.ref 12,.none,.none,.none,.none,.int 185 0,.int 1 0,.str (Str.ofString "/claim/cut.py") 186] }
noncomputable def o14 : Obj:={ cls:=.type "frame",slots:=#[some (.ref 13),some (.ref 3),some (.ref 3),none,some (.str (Str.ofString "__main__") 164),none,some (.ref 0)] }
noncomputable def objsB (P : Params) : List Obj:=(boot_heap P).objs.toList ++ [o11,o12,o13,o14]
noncomputable def nN (P : Params) (o : Params→Obj) (l r : BT) : BT:=.node (o P) l r
noncomputable def lN (P : Params) (o : Params→Obj) : BT:=.node (o P) .nil .nil
noncomputable def treeB (P : Params) : BT :=
  nN P boot_o_0 (nN P boot_o_1 (nN P boot_o_3 (lN P boot_o_7) (.node o11 .nil .nil)) (nN P boot_o_5 (lN P boot_o_9) (.node o13 .nil .nil)))
    (nN P boot_o_2 (nN P boot_o_4 (lN P boot_o_8) (.node o12 .nil .nil)) (nN P boot_o_6 (lN P boot_o_10) (.node o14 .nil .nil)))
noncomputable def lifeB : Life:=Life.mk [] [] [] 0 [] [] false #[] [] 0 false false false 0 [2000,10,10] false 0 true [] [] 0 false
noncomputable def sA (w : World) (os : OsState) : Shared:=⟨⟨⟨objsB w.params⟩,lifeB⟩,#[],boot_drawn,187,os⟩
noncomputable def sB (w : World) (os : OsState) : SharedT:=⟨treeB w.params,15,lifeB,#[],boot_drawn,187,os⟩
noncomputable def envB (p : Program) : Env:={ scope:=p.main.scope,locals:=mainNs,globals:=mainNs,cells:=[],code:=.ref 13,frame:=some 14 }
noncomputable def cB (p : Program) : Code:=.body (behindTheImports p) (envB p)
noncomputable abbrev annB : Option Value:=some (.ref 6)
noncomputable abbrev bB : List Frame:=[topFrame q0]
noncomputable def runB (p : Program) (M : Nat) (w : World) (os : OsState) : Option (Flow×SharedT×Code×Pos) :=
  PySem.W.Fast.tw10110043849684766642 PySem.W.Fast.tw14364793385576792824 p w 11 annB 1 M (sB w os) (piecesOf (behindTheImports p) (envB p) (cB p) q0 bB)
noncomputable def endB (p : Program) (M : Nat) (w : World) (os : OsState) : SharedT:=match runB p M w os with | some (_,s,_) => s | none => sB w os
theorem runB_eq {p : Program} {M : Nat} {w : World} {os : OsState} {r : Option (Flow×SharedT×Code×Pos)} (h : runB p M w os = r) :
    segRunT treeTable p w 11 annB 1 M (sB w os) (piecesOf (behindTheImports p) (envB p) (cB p) q0 bB) = r := by
  have e : segRunT treeTable = PySem.W.Fast.tw10110043849684766642 PySem.W.Fast.tw14364793385576792824:=congr PySem.W.Fast.te10110043849684766642 PySem.W.Fast.te14364793385576792824
  rw [e]; exact h
theorem run_of {p : Program} {M M0 : Nat} {posE : Pos} {w : World} {os : OsState}
    (pre : topGo treeTable p w 11 annB 12 ⟨boot_heap w.params,#[],boot_drawn,boot_toks,os⟩ (topStub p) = some (sA w os,⟨denote treeTable (cB p),cB p,q0,bB⟩))
    (blk : segRun treeTable p w 11 annB 1 1 (sA w os) (blockOf (behindTheImports p) (envB p) (cB p) q0 bB) = some (.next,(sB w os).abs,cB p,q0))
    (seg : runB p M w os = some (.next,endB p M w os,cB p,posE))
    (fin : ∀ s,topRun treeTable p w 11 annB 2 s (restOf [] (envB p) (cB p) posE bB) = some s) (hM : M0 = 12 + (1 + (M + 2))) :
    topRun treeTable p w 11 annB M0 ⟨boot_heap w.params,#[],boot_drawn,boot_toks,os⟩ (topStub p) = some (endB p M w os).abs := by
  subst hM
  refine go_top pre (piece_block blk ?_)
  have h:=piece_app (rest:=[]) (segRun_of (runB_eq seg)) (fin _)
  rw [List.append_nil] at h
  exact h
theorem left_of {p q : Program} {loose : List Str} {Xt : Shared→Bool} {α : Type} {Yf : Shared→α} {Ya : World→α} {N M : Nat} {S : World→OsState→Shared}
    (open_ : ∀ w : World,(fencedOpening treeTable p w N).map (fun s => (s.heap,s.gens,s.drawn,s.toks)) = some (boot_heap w.params,#[],boot_drawn,boot_toks))
    (size : ∀ w : World,((boot_heap w.params).isNs mainGlobals && (#[] : Array GenState).size == 0,(boot_heap w.params).objs.size,(boot_heap w.params).nsMap mainGlobals "__annotations__") = (true,11,annB))
    (run : ∀ w os,topRun treeTable p w 11 annB M ⟨boot_heap w.params,#[],boot_drawn,boot_toks,os⟩ (topStub p) = some (S w os)) (le : Nat.ble M N = true)
    (ok : ∀ w os,(staticsOk (importedModules p.main.body) (boot_heap w.params) (S w os).heap && namesBound p (S w os).heap && gensDone (S w os) && laidKept (boot_heap w.params) (S w os).heap) = true)
    (seen : ∀ w os,openSeen q loose (importedModules p.main.body) Xt true (S w os) = openGood q loose)
    (hY : ∀ w os,Yf (S w os) = Ya w) : LeftO p q loose Xt Yf Ya N:=fun w => by
  obtain ⟨⟨h,gs,d,k,os⟩,e,e'⟩:=Option.map_eq_some_iff.mp (open_ w)
  obtain ⟨rfl,rfl,rfl,rfl⟩ : h = boot_heap w.params∧gs = #[]∧d = boot_drawn∧k = boot_toks := by simpa using e'
  obtain ⟨z1,z2,z3⟩ : _∧_∧_ := by simpa only [Prod.mk.injEq] using size w
  have l1:=ok w os
  have r:=topRun_mono (N - M) _ _ _ _ (run w os)
  rw [show M + (N - M) = N by have:=Nat.le_of_ble_eq_true le; omega] at r
  have t : topFrom treeTable p w N ⟨boot_heap w.params,#[],boot_drawn,boot_toks,os⟩ = some (S w os) := by
    unfold topFrom
    dsimp only
    rw [z1,z2,z3,r]
    show (match staticsOk (importedModules p.main.body) (boot_heap w.params) (S w os).heap && namesBound p (S w os).heap && gensDone (S w os) && laidKept (boot_heap w.params) (S w os).heap with | true => _ | false => _) = _
    rw [l1]
  unfold openEnds
  rw [e]
  show (topFrom treeTable p w N _).map _ = _
  rw [t]
  exact congrArg some (Prod.ext (seen w os) (hY w os))
theorem sizeB (w : World) : ((boot_heap w.params).isNs mainGlobals && (#[] : Array GenState).size == 0,(boot_heap w.params).objs.size,(boot_heap w.params).nsMap mainGlobals "__annotations__") = (true,11,annB) := by kernel_rfl
end Opn
namespace Q63
open PySem L2
def top (i : Nat) : Stmt:=PySem.Challenge.pw_stepgrove_k63_refused_joins.main.body.getD i (.Pass ⟨0,0,0,0⟩)
abbrev s_fraction_of : Stmt:=top 15
abbrev s_frac_times : Stmt:=top 16
abbrev s_is_fraction : Stmt:=top 17
abbrev s_are_fractions : Stmt:=top 18
abbrev s_is_whole : Stmt:=top 19
abbrev s_greatest_divisor : Stmt:=top 20
abbrev s_power_of : Stmt:=top 21
abbrev s_is_table : Stmt:=top 24
abbrev s_refuse_no_table : Stmt:=top 25
abbrev s_are_rows : Stmt:=top 26
abbrev s_table_behind : Stmt:=top 29
abbrev s_table_shrunk : Stmt:=top 30
abbrev s_table_mixed : Stmt:=top 31
abbrev s_table_sharpened : Stmt:=top 32
abbrev s_refuse_too_many_rows : Stmt:=top 33
abbrev s_scaled : Stmt:=top 34
abbrev s__law_cell_at : Stmt:=top 36
abbrev s__law_mixed : Stmt:=top 37
abbrev s__law_rest : Stmt:=top 38
abbrev s__law_ratio : Stmt:=top 39
abbrev s__law_sum : Stmt:=top 40
abbrev s__law_table : Stmt:=top 42
abbrev s__law_copy : Stmt:=top 43
abbrev s__law_alone : Stmt:=top 46
abbrev s__law_spoilt : Stmt:=top 47
abbrev s__law_asked : Stmt:=top 48
abbrev s__law_refusal : Stmt:=top 49
abbrev s__law_long : Stmt:=top 50
abbrev s_law : Stmt:=top 51
theorem nnt {n : String} : clsV (.ty n)≠.none:=fun z => nomatch z
def spGd : Sp:=fun vs H Q _ => ∃ a b,vs = [.int a,.int b]∧Q (.int (FM.gi a b)) H
def spFr : Sp:=fun vs H Q _ => ∃ t b m,vs = [.int t,.int b]∧b≠0∧m≤9000∧b.natAbs < 2 ^ m∧∀ l H',Same H H'→H' l = some (.tup (ratV (Rat.divInt t b)))→Q (.ref l) H'
def spOp (K : PySem.W.Frag) (op : Rat→Rat→Rat) (ok : Rat→Prop) : Sp:=fun vs H Q _ => ∃ v w p q n,vs = [v,w]∧Rt K H p v∧Rt K H q w∧FM.Fits p n∧FM.Fits q n∧n≤4000∧ok q ∧
  ∀ l H',Same H H'→H' l = some (.tup (ratV (op p q)))→Q (.ref l) H'
section
variable {P : Program} {w : World} {K : PySem.W.Frag} {mg : Str→Option Value} {base : Heap} {f g : Addr} {fd gd : FuncData}
theorem sc_greatest_divisor : FnScope ["one", "other", "greater", "lesser", "rest"] ["one", "other"] (defScope s_greatest_divisor):=⟨rfl,rfl,rfl,by decide +kernel,rfl,by decide +kernel,by decide +kernel⟩
def mu3 (σ : St) : Nat:=match σ[3]? with | some (some (V.int l)) => l.natAbs | _ => 0
theorem ok_greatest_divisor (F : Fn K mg "greatest_divisor" s_greatest_divisor ["one", "other"] f fd) (z_abs : mg "abs" = none) : FnOk P w K mg base CX0 1 f fd ["one", "other"] spGd := by
  have sc:=sc_greatest_divisor
  refine F.F.ok (k:=0) sc (fun vs H Q E h => ?_) (fun cdv A outer s H vs Q E hr h => ?_)
  · obtain ⟨a,b,rfl,_⟩:=h
    rfl
  obtain ⟨a,b,rfl,q⟩:=h
  refine ⟨_,(pss_cons (ps_set (i:=2) sc.nd rfl (Or.inl rfl) (pe_callB call_abs rfl z_abs PyProof.Rows.boot_abs (pa_cons (pv 0) pa_nil)))
  (pss_cons (ps_set (i:=3) sc.nd rfl (Or.inl rfl) (pe_callB call_abs rfl z_abs PyProof.Rows.boot_abs (pa_cons (pv 1) pa_nil)))
  (pss_cons (ps_while PassesOwn.never (pt_cmpR op_ne (pv 3) pe_int (nomark _))
    (pss_cons (ps_set (i:=4) sc.nd rfl (Or.inl rfl) (pe_op op_modN (pv 2) (pv 3)))
    (pss_cons (ps_set (i:=2) sc.nd rfl (Or.inl rfl) (pv 3))
    (pss_one (ps_set (i:=3) sc.nd rfl (Or.inl rfl) (pv 4))))))
  (pss_one (ps_ret (pv 2)))))),?_⟩
  refine ⟨_,rfl,_,rfl,_,rfl,_,rfl,?_⟩
  refine while_by (fun σ H' => ∃ g l r,σ = [some (.int a),some (.int b),some (.int g),some (.int l),r]∧H = H'∧Int.gcd g l = Int.gcd a b∧0≤g∧0≤l) (fun σ _ => mu3 σ) ?_ ?_ ?_
  · exact ⟨_,_,_,rfl,rfl,FM.gcd_abs a b,FM.abs_nonneg a,FM.abs_nonneg b⟩
  · rintro σ H' ⟨g,l,r,rfl,rfl,hg,h0,h1⟩
    refine ⟨_,rfl,rfl,_,rfl,ite2 (fun c => ?_) (fun c => ?_)⟩
    · have hl : l≠0:=fun z => by subst z; simp at c
      refine ⟨_,rfl,_,rfl,_,_,rfl,rfl,hl,_,rfl,_,rfl,⟨_,_,_,rfl,rfl,?_,h1,FM.fmod_nonneg hl h1⟩,?_⟩
      · rw [FM.gcd_step]; exact hg
      · exact FM.fmod_less g l hl
    · have hl : l = 0 := by simpa using c
      subst hl
      refine ⟨_,rfl,?_⟩
      rw [FM.gi_end hg h0]
      exact q
  · exact fun σ H Q Q' hq ⟨v,e,s,k,e2,q⟩ => ⟨v,e,s,k,e2,hq _ _ q⟩
theorem sc_fraction_of : FnScope ["top", "bottom", "shared"] ["top", "bottom"] (defScope s_fraction_of):=⟨rfl,rfl,rfl,by decide +kernel,rfl,by decide +kernel,by decide +kernel⟩
theorem ok_fraction_of (F : Fn K mg "fraction_of" s_fraction_of ["top", "bottom"] f fd) (T_greatest_divisor : Fn K mg "greatest_divisor" s_greatest_divisor ["one", "other"] g gd)
    (G_greatest_divisor : FnOk P w K mg base CX0 1 g gd ["one", "other"] spGd) : FnOk P w K mg base CX0 2 f fd ["top", "bottom"] spFr := by
  have sc:=sc_fraction_of
  refine F.F.ok (k:=1) sc (fun vs H Q E h => ?_) (fun cdv A outer s H vs Q E hr h => ?_)
  · obtain ⟨t,b,m,rfl,_⟩:=h
    rfl
  obtain ⟨t,b,m,rfl,hb,hm,hs,q⟩:=h
  refine ⟨_,(pss_cons (ps_if (pt_cmpR op_eq (pv 1) pe_int (nomark _))
    (pss_one ps_never)
    pss_nil)
  (pss_cons (ps_set (i:=2) sc.nd rfl (Or.inl rfl) (pe_fn T_greatest_divisor G_greatest_divisor hr rfl (pa_cons (pv 0) (pa_cons (pv 1) pa_nil))))
  (pss_cons (ps_if (pt_cmpR op_lt (pv 1) pe_int (nomark _))
    (pss_one (ps_set (i:=2) sc.nd rfl (Or.inl rfl) (pe_un un_neg (pv 2))))
    pss_nil)
  (pss_one (ps_ret (pe_tup (pa_cons (pe_op op_fdivW (pv 0) (pv 2)) (pa_cons (pe_op op_fdivW (pv 1) (pv 2)) pa_nil)))))))),?_⟩
  refine ⟨_,rfl,rfl,_,rfl,ite2 (fun c => absurd c (by simpa using hb)) (fun _ => ?_)⟩
  refine ⟨_,rfl,_,rfl,t,b,rfl,?_⟩
  try dsimp only [gName]
  refine seq_join (fun σ' H' => σ' = [some (.int t),some (.int b),some (.int (FM.gs t b))]∧H = H') (fun nx hn => ?_) ?_
  · refine ⟨_,rfl,_,_,rfl,rfl,_,rfl,ite2 (fun c => ?_) (fun c => ?_)⟩
    · have c' : b < 0:=of_decide_eq_true c
      refine ⟨_,rfl,_,rfl,hn _ _ ⟨?_,rfl⟩⟩
      unfold FM.gs
      rw [if_pos c']
      rfl
    · have c' : ¬ b < 0:=of_decide_eq_false (Bool.eq_false_iff.mpr c)
      refine hn _ _ ⟨?_,rfl⟩
      unfold FM.gs
      rw [if_neg c']
      rfl
  · rintro σ' H' ⟨rfl,rfl⟩
    have h0 : FM.gs t b≠0:=FM.gs_ne hb
    have h1 : (FM.gs t b).natAbs < 2 ^ m:=Nat.lt_of_le_of_lt (FM.gs_le hb) hs
    refine ⟨_,rfl,_,rfl,_,_,rfl,rfl,⟨h0,m,hm,h1⟩,_,rfl,_,rfl,_,_,rfl,rfl,⟨h0,m,hm,h1⟩,sz2,fun p hp => ?_⟩
    refine q p _ (same_new hp _) ?_
    rw [upd_same]
    show some (HO.tup [V.int (t.fdiv (FM.gs t b)),V.int (b.fdiv (FM.gs t b))]) = _
    rw [FM.num_eq hb,FM.den_eq hb]
    rfl
theorem sc_frac_times : FnScope ["one", "other"] ["one", "other"] (defScope s_frac_times):=⟨rfl,rfl,rfl,by decide +kernel,rfl,by decide +kernel,by decide +kernel⟩
theorem ok_frac_times (F : Fn K mg "frac_times" s_frac_times ["one", "other"] f fd) (T_fraction_of : Fn K mg "fraction_of" s_fraction_of ["top", "bottom"] g gd)
    (G_fraction_of : FnOk P w K mg base CX0 2 g gd ["top", "bottom"] spFr) : FnOk P w K mg base CX0 3 f fd ["one", "other"] (spOp K (fun p q => p * q) (fun _ => True)) := by
  have sc:=sc_frac_times
  refine F.F.ok (k:=2) sc (fun vs H Q E h => ?_) (fun cdv A outer s H vs Q E hr h => ?_)
  · obtain ⟨v,w,p,q,n,rfl,_⟩:=h
    rfl
  obtain ⟨v,w,p,q,n,rfl,⟨a,rfl,sp⟩,⟨b,rfl,sq⟩,hp,hq,hn,hok,k⟩:=h
  refine ⟨_,(pss_one (ps_ret (pe_fn T_fraction_of G_fraction_of hr rfl (pa_cons (pe_op op_mulW (pe_ix ix_tup (pv 0) pe_int (fun _ _ => rfl)) (pe_ix ix_tup (pv 1) pe_int (fun _ _ => rfl))) (pa_cons (pe_op op_mulW (pe_ix ix_tup (pv 0) pe_int (fun _ _ => rfl)) (pe_ix ix_tup (pv 1) pe_int (fun _ _ => rfl))) pa_nil))))),?_⟩
  refine ⟨_,rfl,_,_,_,_,rfl,rfl,sp,rfl,_,rfl,_,_,_,_,rfl,rfl,sq,rfl,_,_,rfl,rfl,mulW hp.1 hq.1 (by omega),_,rfl,_,_,_,_,rfl,rfl,sp,rfl,_,rfl,_,_,_,_,rfl,rfl,sq,rfl,_,_,rfl,rfl,mulW hp.d hq.d (by omega),_,_,n + n,rfl,FM.prod_ne p q,by omega,FM.dd hp hq,fun l H' e1 e2 => ?_⟩
  exact k l H' e1 (by rw [FM.times_eq p q] at e2; exact e2)
end
theorem mulC {i j : Int} (h1 : -18446744073709551616 < j) (h2 : j < 18446744073709551616) : CMul i j∨CMulW i j:=.inl (.inr ⟨h1,h2⟩)
def spCell (K : PySem.W.Frag) : Sp:=fun vs H Q _ => ∃ (a : Addr) (ns : List Int) (k : Int),vs = [.ref a,.int k]∧SqL K H a (ns.map V.int)∧0≤k∧∀ c : Int,Q (.int c) H
def spMixT : Sp:=fun vs H Q _ => ∃ c k,vs = [.int c,.int k]∧∀ r : Int,0≤r→r < 2147483587→Q (.int r) H
section
variable {P : Program} {w : World} {K : PySem.W.Frag} {mg : Str→Option Value} {base : Heap} {f g g1 g2 g3 g4 : Addr} {fd gd gd1 gd2 gd3 gd4 : FuncData}
theorem sc__law_cell_at : FnScope ["_law_script", "_law_k"] ["_law_script", "_law_k"] (defScope s__law_cell_at):=⟨rfl,rfl,rfl,by decide +kernel,rfl,by decide +kernel,by decide +kernel⟩
theorem ok__law_cell_at (F : Fn K mg "_law_cell_at" s__law_cell_at ["_law_script", "_law_k"] f fd) (z_len : mg "len" = none) : FnOk P w K mg base CX0 1 f fd ["_law_script", "_law_k"] (spCell K) := by
  have sc:=sc__law_cell_at
  refine F.F.ok (k:=0) sc (fun vs H Q E h => ?_) (fun cdv A outer s H vs Q E hr h => ?_)
  · obtain ⟨a,ns,k,rfl,_⟩:=h
    rfl
  obtain ⟨a,ns,k,rfl,hS,h0,q⟩:=h
  refine ⟨_,(pss_cons (ps_if (pt_cmpR op_lt (pv 1) (pe_callB call_len_seq rfl z_len PySem.boot_len (pa_cons (pv 0) pa_nil)) (nomark _))
    (pss_one (ps_ret (pe_ix ix_list (pv 0) (pv 1) (fun _ _ => rfl))))
    pss_nil)
  (pss_one (ps_ret pe_int))),?_⟩
  refine ⟨_,rfl,_,rfl,a,_,rfl,.inl hS,_,_,rfl,rfl,_,rfl,ite2 (fun c => ?_) (fun _ => q _)⟩
  have c' : k < (((ns.map V.int).length : Nat) : Int):=of_decide_eq_true c
  rw [List.length_map] at c'
  have hk : k.toNat < ns.length := by omega
  have hat : atI (ns.map V.int) k = some (.int ns[k.toNat]) := by
    have z:=atI_nat (xs:=ns.map V.int) (j:=k.toNat) (v:=.int ns[k.toNat]) (by rw [List.getElem?_map,List.getElem?_eq_getElem hk]; rfl)
    rwa [show ((k.toNat : Nat) : Int) = k by omega] at z
  exact ⟨_,rfl,_,rfl,a,_,_,_,rfl,rfl,hS,hat,q _⟩
theorem sc__law_mixed : FnScope ["_law_cell", "_law_k", "_law_number"] ["_law_cell", "_law_k"] (defScope s__law_mixed):=⟨rfl,rfl,rfl,by decide +kernel,rfl,by decide +kernel,by decide +kernel⟩
theorem ok__law_mixed (F : Fn K mg "_law_mixed" s__law_mixed ["_law_cell", "_law_k"] f fd) : FnOk P w K mg base CX0 1 f fd ["_law_cell", "_law_k"] spMixT := by
  have sc:=sc__law_mixed
  refine F.F.ok (k:=0) sc (fun vs H Q E h => ?_) (fun cdv A outer s H vs Q E hr h => ?_)
  · obtain ⟨a,b,rfl,_⟩:=h
    rfl
  obtain ⟨c,k,rfl,q⟩:=h
  refine ⟨_,(pss_cons (ps_set (i:=2) sc.nd rfl (Or.inl rfl) (pe_op op_mod (pe_op op_add (pe_op op_add (pe_op op_mulW (pe_op op_mod (pv 0) pe_int) pe_int) (pe_op op_mulW (pv 1) pe_int)) pe_int) pe_int))
  (pss_cons (ps_set (i:=2) sc.nd rfl (Or.inl rfl) (pe_op op_mod (pe_op op_mulW (pv 2) (pv 2)) pe_int))
  (pss_one (ps_ret (pe_op op_mod (pe_op op_mulW (pv 2) (pv 2)) pe_int))))),?_⟩
  refine ⟨_,rfl,_,_,rfl,rfl,(by show (0 : Int) < 2147483647; decide),_,_,rfl,rfl,mulC (by decide) (by decide),_,rfl,_,_,rfl,rfl,mulC (by decide) (by decide),_,_,rfl,rfl,_,_,rfl,rfl,_,_,rfl,rfl,(by show (0 : Int) < 2147483647; decide),?_⟩
  generalize (c % 2147483647 * 48271 + k * 69621 + 11) = z
  have z0 : 0≤z % 2147483647:=Int.emod_nonneg _ (by decide)
  have z1 : z % 2147483647 < 2147483647:=Int.emod_lt_of_pos _ (by decide)
  refine ⟨_,rfl,_,rfl,_,_,rfl,rfl,mulC (by omega) (by omega),_,_,rfl,rfl,(by show (0 : Int) < 2147483629; decide),?_⟩
  generalize (z % 2147483647 * (z % 2147483647)) = y
  have y0 : 0≤y % 2147483629:=Int.emod_nonneg _ (by decide)
  have y1 : y % 2147483629 < 2147483629:=Int.emod_lt_of_pos _ (by decide)
  refine ⟨_,rfl,_,rfl,_,_,rfl,rfl,mulC (by omega) (by omega),_,_,rfl,rfl,(by show (0 : Int) < 2147483587; decide),?_⟩
  exact q _ (Int.emod_nonneg _ (by decide)) (Int.emod_lt_of_pos _ (by decide))
theorem sc__law_rest : FnScope ["_law_script", "_law_k", "_law_cell", "_law_big"] ["_law_script", "_law_k"] (defScope s__law_rest):=⟨rfl,rfl,rfl,by decide +kernel,rfl,by decide +kernel,by decide +kernel⟩
theorem ok__law_rest (F : Fn K mg "_law_rest" s__law_rest ["_law_script", "_law_k"] f fd) (T__law_cell_at : Fn K mg "_law_cell_at" s__law_cell_at ["_law_script", "_law_k"] g1 gd1) (T__law_mixed : Fn K mg "_law_mixed" s__law_mixed ["_law_cell", "_law_k"] g2 gd2)
    (G__law_cell_at : FnOk P w K mg base CX0 1 g1 gd1 ["_law_script", "_law_k"] (spCell K)) (G__law_mixed : FnOk P w K mg base CX0 1 g2 gd2 ["_law_cell", "_law_k"] spMixT) (z_abs : mg "abs" = none) : FnOk P w K mg base CX0 2 f fd ["_law_script", "_law_k"] (spCell K) := by
  have sc:=sc__law_rest
  refine F.F.ok (k:=1) sc (fun vs H Q E h => ?_) (fun cdv A outer s H vs Q E hr h => ?_)
  · obtain ⟨a,ns,k,rfl,_⟩:=h
    rfl
  obtain ⟨a,ns,k,rfl,hS,h0,q⟩:=h
  refine ⟨_,(pss_cons (ps_set (i:=2) sc.nd rfl (Or.inl rfl) (pe_fn T__law_cell_at G__law_cell_at hr rfl (pa_cons (pv 0) (pa_cons (pv 1) pa_nil))))
  (pss_cons (ps_if (pt_cmpR op_ge (pe_callB call_abs rfl z_abs PyProof.Rows.boot_abs (pa_cons (pv 2) pa_nil)) (pe_op op_pow pe_int pe_int) (nomark _))
    (pss_one (ps_ret (pv 2)))
    pss_nil)
  (pss_cons (ps_set (i:=3) sc.nd rfl (Or.inl rfl) (pe_op op_add (pe_fn T__law_mixed G__law_mixed hr rfl (pa_cons (pv 2) (pa_cons (pv 1) pa_nil))) (pe_op op_mulW (pe_fn T__law_mixed G__law_mixed hr rfl (pa_cons (pv 2) (pa_cons (pe_op op_add (pv 1) pe_int) pa_nil))) pe_int)))
  (pss_one (ps_ret (pe_op op_add (pv 3) (pe_op op_mulW (pe_op op_mulW (pe_fn T__law_mixed G__law_mixed hr rfl (pa_cons (pv 2) (pa_cons (pe_op op_add (pv 1) pe_int) pa_nil))) pe_int) pe_int))))))),?_⟩
  refine ⟨_,rfl,_,rfl,a,ns,k,rfl,hS,h0,fun c => ?_⟩
  refine ⟨_,rfl,_,rfl,_,_,rfl,rfl,⟨by decide,by decide,by decide⟩,_,_,rfl,rfl,_,rfl,ite2 (fun _ => ⟨_,rfl,q _⟩) (fun _ => ?_)⟩
  refine ⟨_,rfl,_,rfl,_,_,rfl,fun r1 a1 b1 => ⟨_,rfl,_,rfl,_,_,rfl,rfl,_,_,rfl,fun r2 a2 b2 => ⟨_,_,rfl,rfl,mulC (by decide) (by decide),_,_,rfl,rfl,?_⟩⟩⟩
  exact ⟨_,rfl,_,rfl,_,rfl,_,_,rfl,rfl,_,_,rfl,fun r3 a3 b3 => ⟨_,_,rfl,rfl,mulC (by decide) (by decide),_,_,rfl,rfl,mulC (by decide) (by decide),_,_,rfl,rfl,q _⟩⟩
end
def isFrD : PyData→Bool
  | .tuple [.int a,.int b] => decide (1≤b) && (FM.gi a b == 1)
  | _ => false
theorem isFrD_of {ds : List PyData} (h : ds.length≠2∨∃ d0 d1,ds = [d0,d1]∧((isIntD d0 && !isBoolD d0) = false∨(isIntD d1 && !isBoolD d1) = false)) : isFrD (.tuple ds) = false := by
  rcases h with h | ⟨d0,d1,rfl,h⟩
  · match ds,h with
    | [],_ => rfl
    | [a],_ => cases a <;> rfl
    | [_,_],h => exact absurd rfl h
    | a :: b :: _ :: _,_ => cases a <;> first | rfl | (cases b <;> rfl)
  · cases d0 <;> first | rfl | (cases d1 <;> first | rfl | (exfalso; rcases h with h | h <;> exact absurd h (by simp [isIntD,isBoolD])))
def spIsWh : Sp:=fun vs H Q _ => ∃ l d v,vs = [v]∧Dt l H d v∧Q (.bl (isIntD d && !isBoolD d)) H
def spIsFr : Sp:=fun vs H Q _ => ∃ l d v,vs = [v]∧Dt l H d v∧Q (.bl (isFrD d)) H
theorem whole_int {d : PyData} (h : (isIntD d && !isBoolD d) = true) : ∃ i,d = .int i := by
  cases d <;> first | exact ⟨_,rfl⟩ | (exact absurd h (by simp [isIntD,isBoolD])) | (rename_i b; cases b <;> exact absurd h (by decide))
section
variable {P : Program} {w : World} {K : PySem.W.Frag} {mg : Str→Option Value} {base : Heap} {f g g1 g2 g3 g4 g5 : Addr} {fd gd gd1 gd2 gd3 gd4 gd5 : FuncData}
theorem sc_is_whole : FnScope ["thing"] ["thing"] (defScope s_is_whole):=⟨rfl,rfl,rfl,by decide +kernel,rfl,by decide +kernel,by decide +kernel⟩
theorem ok_is_whole (F : Fn K mg "is_whole" s_is_whole ["thing"] f fd) (z_isinstance : mg "isinstance" = none) (z_int : mg "int" = none) (z_bool : mg "bool" = none) : FnOk P w K mg base CX0 1 f fd ["thing"] spIsWh := by
  have sc:=sc_is_whole
  refine F.F.ok (k:=0) sc (fun vs H Q E h => ?_) (fun cdv A outer s H vs Q E hr h => ?_)
  · obtain ⟨l,d,v,rfl,_⟩:=h
    rfl
  obtain ⟨l,d,v,rfl,hd,q⟩:=h
  refine ⟨_,(pss_one (ps_ret (pe_and (pe_callB call_isi rfl z_isinstance PyProof.Rows.boot_isinstance (pa_cons (pv 0) (pa_cons (pe_bltn (v:=.ty "int") rfl z_int PyProof.Rows.boot_int rfl) pa_nil))) (pe_one (pe_not (pe_callB call_isi rfl z_isinstance PyProof.Rows.boot_isinstance (pa_cons (pv 0) (pa_cons (pe_bltn (v:=.ty "bool") rfl z_bool PyProof.Rows.boot_bool rfl) pa_nil)))))))),?_⟩
  refine ⟨_,rfl,_,_,_,_,rfl,nnt,hd.ty,kit_intD K d hd.nodict,_,rfl,ite2 (fun c => ⟨_,rfl,_,_,_,_,rfl,nnt,hd.ty,kit_boolD K d hd.nodict,_,rfl,?_⟩) (fun c => ?_)⟩
  · rw [c,Bool.true_and] at q; exact q
  · rw [Bool.eq_false_iff.mpr c,Bool.false_and] at q; exact q
theorem sc_is_fraction : FnScope ["thing"] ["thing"] (defScope s_is_fraction):=⟨rfl,rfl,rfl,by decide +kernel,rfl,by decide +kernel,by decide +kernel⟩
theorem ok_is_fraction (F : Fn K mg "is_fraction" s_is_fraction ["thing"] f fd) (T_is_whole : Fn K mg "is_whole" s_is_whole ["thing"] g1 gd1) (T_greatest_divisor : Fn K mg "greatest_divisor" s_greatest_divisor ["one", "other"] g2 gd2)
    (G_is_whole : FnOk P w K mg base CX0 1 g1 gd1 ["thing"] spIsWh) (G_greatest_divisor : FnOk P w K mg base CX0 1 g2 gd2 ["one", "other"] spGd) (z_isinstance : mg "isinstance" = none) (z_tuple : mg "tuple" = none) (z_len : mg "len" = none) : FnOk P w K mg base CX0 2 f fd ["thing"] spIsFr := by
  have sc:=sc_is_fraction
  refine F.F.ok (k:=1) sc (fun vs H Q E h => ?_) (fun cdv A outer s H vs Q E hr h => ?_)
  · obtain ⟨l,d,v,rfl,_⟩:=h
    rfl
  obtain ⟨l,d,v,rfl,hd,q⟩:=h
  refine ⟨_,(pss_cons (ps_if (PW.pt (pw_or (pt_not (pt_val (pe_callB call_isi rfl z_isinstance PyProof.Rows.boot_isinstance (pa_cons (pv 0) (pa_cons (pe_bltn (v:=.ty "tuple") rfl z_tuple PyProof.Rows.boot_tuple rfl) pa_nil))))) (pw_or1 (pt_cmpR op_ne (pe_callB call_len_seq rfl z_len PySem.boot_len (pa_cons (pv 0) pa_nil)) pe_int (nomark _)))))
    (pss_one (ps_ret pe_bl))
    pss_nil)
  (pss_cons (ps_if (PW.pt (pw_or (pt_not (pt_val (pe_fn T_is_whole G_is_whole hr rfl (pa_cons (pe_ix ix_tup (pv 0) pe_int (fun _ _ => rfl)) pa_nil)))) (pw_or1 (pt_not (pt_val (pe_fn T_is_whole G_is_whole hr rfl (pa_cons (pe_ix ix_tup (pv 0) pe_int (fun _ _ => rfl)) pa_nil)))))))
    (pss_one (ps_ret pe_bl))
    pss_nil)
  (pss_one (ps_ret (pe_and (pe_cmpR op_ge (pe_ix ix_tup (pv 0) pe_int (fun _ _ => rfl)) pe_int (nomark _)) (pe_one (pe_cmpR op_eq (pe_fn T_greatest_divisor G_greatest_divisor hr rfl (pa_cons (pe_ix ix_tup (pv 0) pe_int (fun _ _ => rfl)) (pa_cons (pe_ix ix_tup (pv 0) pe_int (fun _ _ => rfl)) pa_nil))) pe_int (nomark _)))))))),?_⟩
  refine ⟨_,rfl,_,_,_,_,rfl,nnt,hd.ty,kit_tupD K d hd.nodict,_,rfl,?_⟩
  have no : isTupD d = false→isFrD d = false:=fun z => by cases d <;> first | rfl | exact absurd z (by simp [isTupD])
  by_cases ht : isTupD d = true
  · rw [ht]
    obtain ⟨ds,rfl⟩ : ∃ ds,d = .tuple ds := by cases d <;> first | exact ⟨_,rfl⟩ | exact absurd ht (by simp [isTupD])
    rw [Dt] at hd
    obtain ⟨a,xs,rfl,na,ha,hx⟩:=hd
    have hlen:=hx.len
    have s1 : SqT K H a xs:=SqT.of ha
    refine iteF ⟨_,rfl,a,xs,rfl,.inr s1,rfl,_,rfl,ite2 (fun c => ?_) (fun c => ?_)⟩
    · have : ds.length≠2 := by
        rw [← hlen]
        intro z
        rw [z] at c
        exact absurd c (by decide)
      rw [isFrD_of (.inl this)] at q
      exact q
    · have h2 : xs.length = 2 := by
        by_cases z : xs.length = 2
        · exact z
        · exfalso
          refine c ?_
          have : ¬ (V.int (xs.length : Nat) = V.int 2) := by simp; omega
          rw [decide_eq_false this]; rfl
      obtain ⟨d0,d1,rfl⟩ : ∃ d0 d1,ds = [d0,d1] := by
        match ds,(show ds.length = 2 by omega) with
        | [x,y],_ => exact ⟨x,y,rfl⟩
      rw [DtAll] at hx
      obtain ⟨x0,r,rfl,hx0,hx⟩:=hx
      rw [DtAll] at hx
      obtain ⟨x1,r,rfl,hx1,hx⟩:=hx
      rw [DtAll] at hx
      subst hx
      refine ⟨_,rfl,_,_,_,_,rfl,rfl,s1,rfl,l,d0,x0,rfl,hx0,_,rfl,ite2 (fun c0 => ?_) (fun c0 => ?_)⟩
      · rw [isFrD_of (.inr ⟨d0,d1,rfl,.inl (by simp at c0; rcases c0 with c | c <;> simp [c])⟩)] at q
        exact q
      refine ⟨_,rfl,_,_,_,_,rfl,rfl,s1,rfl,l,d1,x1,rfl,hx1,_,rfl,ite2 (fun c1 => ?_) (fun c1 => ?_)⟩
      · rw [isFrD_of (.inr ⟨d0,d1,rfl,.inr (by simp at c1; rcases c1 with c | c <;> simp [c])⟩)] at q
        exact q
      obtain ⟨i,rfl⟩:=whole_int (d:=d0) (by simpa using c0)
      obtain ⟨j,rfl⟩:=whole_int (d:=d1) (by simpa using c1)
      rw [Dt] at hx0 hx1
      subst hx0 hx1
      refine ⟨_,rfl,_,_,_,_,rfl,rfl,s1,rfl,_,_,rfl,rfl,_,rfl,ite2 (fun c => ?_) (fun c => ?_)⟩
      · refine ⟨_,rfl,_,_,_,_,rfl,rfl,s1,rfl,_,rfl,_,_,_,_,rfl,rfl,s1,rfl,i,j,rfl,rfl,?_⟩
        have hj : 1≤j := by have:=of_decide_eq_true c; omega
        have e : isFrD (.tuple [.int i,.int j]) = decide (V.int (FM.gi i j) = V.int 1) := by
          rw [isFrD,decide_eq_true hj,Bool.true_and,Bool.eq_iff_iff]
          simp
        rw [e] at q
        exact q
      · have hj : ¬ 1≤j:=fun z => c (decide_eq_true (by omega))
        have e : isFrD (.tuple [.int i,.int j]) = false := by rw [isFrD,decide_eq_false hj,Bool.false_and]
        rw [e] at q
        exact q
  · rw [Bool.eq_false_iff.mpr ht]
    rw [no (Bool.eq_false_iff.mpr ht)] at q
    exact iteT (iteT q)
end
def areFrD : PyData→Bool
  | .list ds => ds.all isFrD
  | _ => false
def lenD : PyData→Nat
  | .list ds => ds.length
  | _ => 0
def rowAt (ds : List PyData) (i : Nat) : Bool:=match ds[i]? with
  | some d => areFrD d && decide (lenD d = i)
  | none => true
def rowsOk (ds : List PyData) : Bool:=(List.range ds.length).all (rowAt ds)
def areRowsD : PyData→Bool
  | .list ds => decide (1≤ds.length) && (decide (ds.length≤40) && rowsOk ds)
  | _ => false
def isTabD : PyData→Bool
  | .tuple [r,l] => areRowsD r && (areFrD l && decide (lenD l = lenD r))
  | _ => false
theorem areFrD_no {d : PyData} (h : isLstD d = false) : areFrD d = false := by cases d <;> first | rfl | exact absurd h (by simp [isLstD])
theorem areRowsD_no {d : PyData} (h : isLstD d = false) : areRowsD d = false := by cases d <;> first | rfl | exact absurd h (by simp [isLstD])
theorem isTabD_no {d : PyData} (h : isTupD d = false) : isTabD d = false := by cases d <;> first | rfl | exact absurd h (by simp [isTupD])
theorem isTabD_len {ds : List PyData} (h : ds.length≠2) : isTabD (.tuple ds) = false := by
  match ds,h with
  | [],_ => rfl
  | [_],_ => rfl
  | [_,_],h => exact absurd rfl h
  | _ :: _ :: _ :: _,_ => rfl
theorem isLst_of {d : PyData} (h : isLstD d = true) : ∃ ds,d = .list ds := by cases d <;> first | exact ⟨_,rfl⟩ | exact absurd h (by simp [isLstD])
theorem isTup_of {d : PyData} (h : isTupD d = true) : ∃ ds,d = .tuple ds := by cases d <;> first | exact ⟨_,rfl⟩ | exact absurd h (by simp [isTupD])
theorem areFrD_lst {d : PyData} (h : areFrD d = true) : isLstD d = true := by cases d <;> first | rfl | exact absurd h (by simp [areFrD])
theorem areRowsD_lst {d : PyData} (h : areRowsD d = true) : isLstD d = true := by cases d <;> first | rfl | exact absurd h (by simp [areRowsD])
theorem rowsOk_of {ds : List PyData} (h : ∀ j,j < ds.length→rowAt ds j = true) : rowsOk ds = true := by
  unfold rowsOk
  rw [List.all_eq_true]
  intro j hj
  exact h j (List.mem_range.mp hj)
theorem rowsOk_no {ds : List PyData} {i : Nat} (hi : i < ds.length) (h : rowAt ds i = false) : rowsOk ds = false := by
  refine Bool.eq_false_iff.mpr fun z => ?_
  unfold rowsOk at z
  rw [List.all_eq_true] at z
  rw [z i (List.mem_range.mpr hi)] at h
  cases h
theorem rowAt_eq {ds : List PyData} {i : Nat} {d : PyData} (h : ds[i]? = some d) : rowAt ds i = (areFrD d && decide (lenD d = i)) := by unfold rowAt; rw [h]
def spAreFr : Sp:=fun vs H Q _ => ∃ l d v,vs = [v]∧Dt l H d v∧Q (.bl (areFrD d)) H
def spRows : Sp:=fun vs H Q _ => ∃ l d v,vs = [v]∧Dt l H d v∧∀ H',Same H H'→Q (.bl (areRowsD d)) H'
def spIsTab : Sp:=fun vs H Q _ => ∃ l d v,vs = [v]∧Dt l H d v∧∀ H',Same H H'→Q (.bl (isTabD d)) H'
section
variable {P : Program} {w : World} {K : PySem.W.Frag} {mg : Str→Option Value} {base : Heap} {f g g1 g2 g3 g4 g5 : Addr} {fd gd gd1 gd2 gd3 gd4 gd5 : FuncData}
theorem sc_are_fractions : FnScope ["thing", "part"] ["thing"] (defScope s_are_fractions):=⟨rfl,rfl,rfl,by decide +kernel,rfl,by decide +kernel,by decide +kernel⟩
theorem ok_are_fractions (F : Fn K mg "are_fractions" s_are_fractions ["thing"] f fd) (T_is_fraction : Fn K mg "is_fraction" s_is_fraction ["thing"] g1 gd1)
    (G_is_fraction : FnOk P w K mg base CX0 2 g1 gd1 ["thing"] spIsFr) (z_isinstance : mg "isinstance" = none) (z_list : mg "list" = none) : FnOk P w K mg base CX0 3 f fd ["thing"] spAreFr := by
  have sc:=sc_are_fractions
  refine F.F.ok (k:=2) sc (fun vs H Q E h => ?_) (fun cdv A outer s H vs Q E hr h => ?_)
  · obtain ⟨l,d,v,rfl,_⟩:=h
    rfl
  obtain ⟨l,d,v,rfl,hd,q⟩:=h
  refine ⟨_,(pss_cons (ps_if (pt_not (pt_val (pe_callB call_isi rfl z_isinstance PyProof.Rows.boot_isinstance (pa_cons (pv 0) (pa_cons (pe_bltn (v:=.ty "list") rfl z_list PyProof.Rows.boot_list rfl) pa_nil)))))
    (pss_one (ps_ret pe_bl))
    pss_nil)
  (pss_cons (ps_for PassesOwn.never rfl (pi_list (pv 0)) (pg_name (i:=1) sc.nd rfl (Or.inl rfl))
    (pss_one (ps_if (pt_not (pt_val (pe_fn T_is_fraction G_is_fraction hr rfl (pa_cons (pv 1) pa_nil))))
      (pss_one (ps_ret pe_bl))
      pss_nil)))
  (pss_one (ps_ret pe_bl)))),?_⟩
  refine ⟨_,rfl,_,_,_,_,rfl,nnt,hd.ty,kit_lstD K d hd.nodict,_,rfl,?_⟩
  by_cases hL : isLstD d = false
  · rw [hL]
    rw [areFrD_no hL] at q
    exact iteT q
  have hL : isLstD d = true := by simpa using hL
  rw [hL]
  refine iteF ?_
  obtain ⟨ds,rfl⟩:=isLst_of hL
  rw [Dt] at hd
  obtain ⟨a,xs,rfl,na,ha,ht⟩:=hd
  have hlen:=ht.len
  refine ⟨_,rfl,a,rfl,⟨_,SqL.of ha⟩,for_list (xs:=xs) (fun i σ H' => ∃ r1,σ = [some (.ref a),r1]∧H = H'∧∀ j c,j < i→ds[j]? = some c→isFrD c = true) ?_ ?_ ?_ ?_⟩
  · exact ⟨_,rfl,rfl,fun j c h => absurd h (Nat.not_lt_zero _)⟩
  · rintro i σ H' _ ⟨r1,rfl,rfl,_⟩
    exact SqL.of ha
  · rintro i x σ H' hx ⟨r1,rfl,rfl,hf⟩
    obtain ⟨c,hc,tc⟩:=ht.get hx
    refine ⟨_,rfl,l,c,x,rfl,tc,_,rfl,ite2 (fun b => ?_) (fun b => ?_)⟩
    · have hb : isFrD c = false := by simpa using b
      have e : areFrD (.list ds) = false:=Bool.eq_false_iff.mpr fun z => by
        rw [areFrD,List.all_eq_true] at z
        rw [z c (List.mem_of_getElem? hc)] at hb
        cases hb
      rw [e] at q
      exact q
    · have hb : isFrD c = true := by simpa using b
      refine ⟨_,rfl,rfl,fun j e hj he => ?_⟩
      by_cases z : j = i
      · subst z; rw [hc] at he; cases he; exact hb
      · exact hf j e (by omega) he
  · rintro σ H' ⟨r1,rfl,rfl,hf⟩
    have e : areFrD (.list ds) = true := by
      rw [areFrD,List.all_eq_true]
      intro c hc
      obtain ⟨j,hj⟩:=List.getElem?_of_mem hc
      exact hf j c (by rw [hlen]; exact (List.getElem?_eq_some_iff.mp hj).1) hj
    rw [e] at q
    exact q
theorem sc_are_rows : FnScope ["thing", "k", "row"] ["thing"] (defScope s_are_rows):=⟨rfl,rfl,rfl,by decide +kernel,rfl,by decide +kernel,by decide +kernel⟩
theorem ok_are_rows {tk : Tok} (F : Fn K mg "are_rows" s_are_rows ["thing"] f fd) (T_are_fractions : Fn K mg "are_fractions" s_are_fractions ["thing"] g1 gd1)
    (G_are_fractions : FnOk P w K mg base CX0 3 g1 gd1 ["thing"] spAreFr) (m_MOST_ROWS : mg "MOST_ROWS" = some (.int 40 tk)) (z_isinstance : mg "isinstance" = none) (z_list : mg "list" = none) (z_len : mg "len" = none) (z_enumerate : mg "enumerate" = none) : FnOk P w K mg base CX0 4 f fd ["thing"] spRows := by
  have sc:=sc_are_rows
  refine F.F.ok (k:=3) sc (fun vs H Q E h => ?_) (fun cdv A outer s H vs Q E hr h => ?_)
  · obtain ⟨l,d,v,rfl,_⟩:=h
    rfl
  obtain ⟨l,d,v,rfl,hd,q⟩:=h
  refine ⟨_,(pss_cons (ps_if (PW.pt (pw_or (pt_not (pt_val (pe_callB call_isi rfl z_isinstance PyProof.Rows.boot_isinstance (pa_cons (pv 0) (pa_cons (pe_bltn (v:=.ty "list") rfl z_list PyProof.Rows.boot_list rfl) pa_nil))))) (pw_or (pt_cmpR op_lt (pe_callB call_len_seq rfl z_len PySem.boot_len (pa_cons (pv 0) pa_nil)) pe_int (nomark _)) (pw_or1 (pt_cmpR op_gt (pe_callB call_len_seq rfl z_len PySem.boot_len (pa_cons (pv 0) pa_nil)) (pe_glob (v:=.int 40) rfl m_MOST_ROWS ⟨_,rfl⟩) (nomark _))))))
    (pss_one (ps_ret pe_bl))
    pss_nil)
  (pss_cons (ps_for PassesOwn.never rfl (pi_enumL rfl z_enumerate (pa_cons (pv 0) pa_nil)) (pg_tup rfl (pgs_cons (pg_name (i:=1) sc.nd rfl (Or.inl rfl)) (pgs_cons (pg_name (i:=2) sc.nd rfl (Or.inl rfl)) pgs_nil)))
    (pss_one (ps_if (PW.pt (pw_or (pt_not (pt_val (pe_fn T_are_fractions G_are_fractions hr rfl (pa_cons (pv 2) pa_nil)))) (pw_or1 (pt_cmpR op_ne (pe_callB call_len_seq rfl z_len PySem.boot_len (pa_cons (pv 2) pa_nil)) (pv 1) (nomark _)))))
      (pss_one (ps_ret pe_bl))
      pss_nil)))
  (pss_one (ps_ret pe_bl)))),?_⟩
  refine ⟨_,rfl,_,_,_,_,rfl,nnt,hd.ty,kit_lstD K d hd.nodict,_,rfl,?_⟩
  by_cases hL : isLstD d = false
  · rw [hL]
    have:=q H (.refl H)
    rw [areRowsD_no hL] at this
    exact iteT (iteT this)
  have hL : isLstD d = true := by simpa using hL
  rw [hL]
  refine iteF ?_
  obtain ⟨ds,rfl⟩:=isLst_of hL
  rw [Dt] at hd
  obtain ⟨a,xs,rfl,na,ha,ht⟩:=hd
  have hlen:=ht.len
  refine ⟨_,rfl,a,xs,rfl,.inl (SqL.of ha),_,_,rfl,rfl,_,rfl,ite2 (fun c => ?_) (fun c => ?_)⟩
  · have e : areRowsD (.list ds) = false := by
      have : ¬ 1≤ds.length := by rw [← hlen]; have:=of_decide_eq_true c; omega
      rw [areRowsD,decide_eq_false this,Bool.false_and]
    have:=q H (.refl H)
    rw [e] at this
    exact iteT this
  have h1 : 1≤ds.length := by rw [← hlen]; have:=of_decide_eq_false (Bool.eq_false_iff.mpr c); omega
  refine ⟨_,rfl,a,xs,rfl,.inl (SqL.of ha),_,_,rfl,rfl,_,rfl,ite2 (fun c => ?_) (fun c => ?_)⟩
  · have e : areRowsD (.list ds) = false := by
      have : ¬ ds.length≤40 := by rw [← hlen]; have:=of_decide_eq_true c; omega
      rw [areRowsD,decide_eq_false this,Bool.false_and,Bool.and_false]
    have:=q H (.refl H)
    rw [e] at this
    exact this
  have h2 : ds.length≤40 := by rw [← hlen]; have:=of_decide_eq_false (Bool.eq_false_iff.mpr c); omega
  have e : areRowsD (.list ds) = rowsOk ds := by rw [areRowsD,decide_eq_true h1,decide_eq_true h2,Bool.true_and,Bool.true_and]
  rw [e] at q
  refine ⟨_,rfl,a,rfl,⟨_,SqL.of ha⟩,for_enumL (xs:=xs) (fun i σ H' => ∃ r1 r2,σ = [some (.ref a),r1,r2]∧Same H H'∧∀ j,j < i→rowAt ds j = true) ?_ ?_ ?_ ?_⟩
  · exact ⟨_,_,rfl,.refl _,fun j h => absurd h (Nat.not_lt_zero _)⟩
  · rintro i σ H' _ ⟨r1,r2,rfl,e,_⟩
    exact SqL.of (e _ _ ha)
  · rintro i x σ H0 hx ⟨r1,r2,rfl,e0,hf⟩ p hp
    obtain ⟨c,hc,tc⟩:=ht.get hx
    have hi : i < ds.length:=(List.getElem?_eq_some_iff.mp hc).1
    have s1:=same_new hp (.tup [.int (i : Nat),x])
    have e1:=e0.trans s1
    have hp' : (upd H0 p (.tup [.int (i : Nat),x])) p = some (.tup [.int (i : Nat),x]):=upd_same
    generalize upd H0 p (.tup [.int (i : Nat),x]) = H1 at s1 e1 hp'
    have tc:=tc.same e1
    refine ⟨p,_,rfl,SqT.of hp',rfl,_,_,rfl,_,_,rfl,rfl,?_⟩
    refine ⟨_,rfl,l,c,x,rfl,tc,_,rfl,ite2 (fun b => ?_) (fun b => ?_)⟩
    · have hb : areFrD c = false := by simpa using b
      have:=q H1 e1
      rw [rowsOk_no hi (by rw [rowAt_eq hc,hb,Bool.false_and])] at this
      exact iteT this
    have hb : areFrD c = true := by simpa using b
    obtain ⟨cs,rfl⟩:=isLst_of (areFrD_lst hb)
    rw [Dt] at tc
    obtain ⟨b,ys,rfl,nb,hb',hy⟩:=tc
    refine ⟨_,rfl,b,ys,rfl,.inl (SqL.of hb'),_,rfl,rfl,_,rfl,ite2 (fun z => ?_) (fun z => ?_)⟩
    · have hne : ¬ lenD (.list cs) = i := by
        rw [lenD,← hy.len]
        intro zz
        rw [zz] at z
        simp at z
      have:=q H1 e1
      rw [rowsOk_no hi (by rw [rowAt_eq hc,hb,decide_eq_false hne,Bool.and_false])] at this
      exact this
    · have hne : lenD (.list cs) = i := by
        rw [lenD,← hy.len]
        by_cases zz : ys.length = i
        · exact zz
        · exfalso
          refine z ?_
          have : ¬ (V.int (ys.length : Nat) = V.int (i : Nat)) := by simp; omega
          rw [decide_eq_false this]; rfl
      refine ⟨_,_,rfl,e1,fun j hj => ?_⟩
      by_cases zz : j = i
      · subst zz; rw [rowAt_eq hc,hb,decide_eq_true hne,Bool.and_self]
      · exact hf j (by omega)
  · rintro σ H' ⟨r1,r2,rfl,e1,hf⟩
    have:=q H' e1
    rw [rowsOk_of fun j hj => hf j (by rw [hlen]; exact hj)] at this
    exact this
theorem sc_is_table : FnScope ["thing"] ["thing"] (defScope s_is_table):=⟨rfl,rfl,rfl,by decide +kernel,rfl,by decide +kernel,by decide +kernel⟩
theorem ok_is_table (F : Fn K mg "is_table" s_is_table ["thing"] f fd) (T_are_rows : Fn K mg "are_rows" s_are_rows ["thing"] g1 gd1) (T_are_fractions : Fn K mg "are_fractions" s_are_fractions ["thing"] g2 gd2)
    (G_are_rows : FnOk P w K mg base CX0 4 g1 gd1 ["thing"] spRows) (G_are_fractions : FnOk P w K mg base CX0 4 g2 gd2 ["thing"] spAreFr) (z_isinstance : mg "isinstance" = none) (z_tuple : mg "tuple" = none) (z_len : mg "len" = none) : FnOk P w K mg base CX0 5 f fd ["thing"] spIsTab := by
  have sc:=sc_is_table
  refine F.F.ok (k:=4) sc (fun vs H Q E h => ?_) (fun cdv A outer s H vs Q E hr h => ?_)
  · obtain ⟨l,d,v,rfl,_⟩:=h
    rfl
  obtain ⟨l,d,v,rfl,hd,q⟩:=h
  refine ⟨_,(pss_cons (ps_if (PW.pt (pw_or (pt_not (pt_val (pe_callB call_isi rfl z_isinstance PyProof.Rows.boot_isinstance (pa_cons (pv 0) (pa_cons (pe_bltn (v:=.ty "tuple") rfl z_tuple PyProof.Rows.boot_tuple rfl) pa_nil))))) (pw_or1 (pt_cmpR op_ne (pe_callB call_len_seq rfl z_len PySem.boot_len (pa_cons (pv 0) pa_nil)) pe_int (nomark _)))))
    (pss_one (ps_ret pe_bl))
    pss_nil)
  (pss_one (ps_ret (pe_and (pe_fn T_are_rows G_are_rows hr rfl (pa_cons (pe_ix ix_tup (pv 0) pe_int (fun _ _ => rfl)) pa_nil)) (pe_and (pe_fn T_are_fractions G_are_fractions hr rfl (pa_cons (pe_ix ix_tup (pv 0) pe_int (fun _ _ => rfl)) pa_nil)) (pe_one (pe_cmpR op_eq (pe_callB call_len_seq rfl z_len PySem.boot_len (pa_cons (pe_ix ix_tup (pv 0) pe_int (fun _ _ => rfl)) pa_nil)) (pe_callB call_len_seq rfl z_len PySem.boot_len (pa_cons (pe_ix ix_tup (pv 0) pe_int (fun _ _ => rfl)) pa_nil)) (nomark _)))))))),?_⟩
  refine ⟨_,rfl,_,_,_,_,rfl,nnt,hd.ty,kit_tupD K d hd.nodict,_,rfl,?_⟩
  by_cases hL : isTupD d = false
  · rw [hL]
    have:=q H (.refl H)
    rw [isTabD_no hL] at this
    exact iteT (iteT this)
  have hL : isTupD d = true := by simpa using hL
  rw [hL]
  refine iteF ?_
  obtain ⟨ds,rfl⟩:=isTup_of hL
  rw [Dt] at hd
  obtain ⟨a,xs,rfl,na,ha,hx⟩:=hd
  have hlen:=hx.len
  have s1 : SqT K H a xs:=SqT.of ha
  refine ⟨_,rfl,a,xs,rfl,.inr s1,rfl,_,rfl,ite2 (fun c => ?_) (fun c => ?_)⟩
  · have : ds.length≠2 := by
      rw [← hlen]
      intro z
      rw [z] at c
      exact absurd c (by decide)
    have q:=q H (.refl H)
    rw [isTabD_len this] at q
    exact q
  have h2 : xs.length = 2 := by
    by_cases z : xs.length = 2
    · exact z
    · exfalso
      refine c ?_
      have : ¬ (V.int (xs.length : Nat) = V.int 2) := by simp; omega
      rw [decide_eq_false this]; rfl
  obtain ⟨d0,d1,rfl⟩ : ∃ d0 d1,ds = [d0,d1] := by
    match ds,(show ds.length = 2 by omega) with
    | [x,y],_ => exact ⟨x,y,rfl⟩
  rw [DtAll] at hx
  obtain ⟨x0,r,rfl,hx0,hx⟩:=hx
  rw [DtAll] at hx
  obtain ⟨x1,r,rfl,hx1,hx⟩:=hx
  rw [DtAll] at hx
  subst hx
  rw [isTabD] at q
  refine ⟨_,rfl,_,_,_,_,rfl,rfl,s1,rfl,l,d0,x0,rfl,hx0,fun H1 e1 => ⟨_,rfl,ite2 (fun c0 => ?_) (fun c0 => ?_)⟩⟩
  · rw [c0] at q
    refine ⟨_,rfl,_,_,_,_,rfl,rfl,e1.tup s1,rfl,l,d1,x1,rfl,hx1.same e1,_,rfl,ite2 (fun c1 => ?_) (fun c1 => ?_)⟩
    · rw [c1] at q
      obtain ⟨r0,rfl⟩:=isLst_of (areRowsD_lst c0)
      obtain ⟨r1,rfl⟩:=isLst_of (areFrD_lst c1)
      have hx0:=hx0.same e1
      have hx1:=hx1.same e1
      rw [Dt] at hx0 hx1
      obtain ⟨a0,y0,rfl,_,ha0,hy0⟩:=hx0
      obtain ⟨a1,y1,rfl,_,ha1,hy1⟩:=hx1
      refine ⟨_,rfl,_,_,_,_,rfl,rfl,e1.tup s1,rfl,a1,y1,rfl,.inl (SqL.of ha1),_,rfl,_,_,_,_,rfl,rfl,e1.tup s1,rfl,a0,y0,rfl,.inl (SqL.of ha0),rfl,?_⟩
      have:=q H1 e1
      rw [Bool.true_and,Bool.true_and,lenD,lenD,← hy0.len,← hy1.len] at this
      have e : decide (V.int (y1.length : Nat) = V.int (y0.length : Nat)) = decide (y1.length = y0.length) := by
        rw [Bool.eq_iff_iff]; simp; omega
      rw [← e] at this
      exact this
    · rw [Bool.eq_false_iff.mpr c1,Bool.false_and,Bool.and_false] at q
      exact q H1 e1
  · rw [Bool.eq_false_iff.mpr c0,Bool.false_and] at q
    exact q H1 e1
end
mutual
theorem dt_fresh {l p : Addr} {H : Hp} (hp : H p = none) : ∀ {d : PyData} {v : V},Dt l H d v→Dt p H d v
  | .none,_,h => by rw [Dt] at h ⊢; exact h
  | .bool _,_,h => by rw [Dt] at h ⊢; exact h
  | .int _,_,h => by rw [Dt] at h ⊢; exact h
  | .str _,_,h => by rw [Dt] at h ⊢; exact h
  | .tuple _,_,h => by
    rw [Dt] at h ⊢
    obtain ⟨a,xs,e1,n,h1,h2⟩:=h
    exact ⟨a,xs,e1,ne_of_none h1 hp,h1,dtAll_fresh hp h2⟩
  | .list _,_,h => by
    rw [Dt] at h ⊢
    obtain ⟨a,xs,e1,n,h1,h2⟩:=h
    exact ⟨a,xs,e1,ne_of_none h1 hp,h1,dtAll_fresh hp h2⟩
  | .dict _,_,h => by rw [Dt] at h; exact h.elim
theorem dtAll_fresh {l p : Addr} {H : Hp} (hp : H p = none) : ∀ {ds : List PyData} {xs : List V},DtAll l H ds xs→DtAll p H ds xs
  | [],_,h => by rw [DtAll] at h ⊢; exact h
  | _ :: _,_,h => by
    rw [DtAll] at h ⊢
    obtain ⟨x,r,e1,h1,h2⟩:=h
    exact ⟨x,r,e1,dt_fresh hp h1,dtAll_fresh hp h2⟩
end
def DU (H : Hp) (d : PyData) (v : V) : Prop:=∃ N : Nat,∀ l,N≤l→Dt l H d v
def DUs (H : Hp) (ds : List PyData) (xs : List V) : Prop:=∃ N : Nat,∀ l,N≤l→DtAll l H ds xs
theorem DU.same {H H' : Hp} {d : PyData} {v : V} (h : DU H d v) (e : Same H H') : DU H' d v:=let ⟨N,k⟩:=h; ⟨N,fun l hl => (k l hl).same e⟩
theorem DUs.same {H H' : Hp} {d : List PyData} {v : List V} (h : DUs H d v) (e : Same H H') : DUs H' d v:=let ⟨N,k⟩:=h; ⟨N,fun l hl => (k l hl).same e⟩
theorem DU.int {H : Hp} {i : Int} : DU H (.int i) (.int i):=⟨0,fun _ _ => .int⟩
theorem DU.bool {H : Hp} {i : Bool} : DU H (.bool i) (.bl i):=⟨0,fun _ _ => .bool⟩
theorem DU.non {H : Hp} : DU H .none .non:=⟨0,fun _ _ => .non⟩
theorem DU.str {H : Hp} {x : Str} : DU H (.str x) (.str x):=⟨0,fun _ _ => .str⟩
theorem DUs.nil {H : Hp} : DUs H [] []:=⟨0,fun _ _ => .nil⟩
theorem DUs.cons {H : Hp} {d : PyData} {ds : List PyData} {x : V} {xs : List V} (h : DU H d x) (k : DUs H ds xs) : DUs H (d :: ds) (x :: xs) :=
  let ⟨N,a⟩:=h; let ⟨M,b⟩:=k; ⟨max N M,fun l hl => .cons (a l (by omega)) (b l (by omega))⟩
theorem DUs.app {H : Hp} {ds es : List PyData} {xs ys : List V} (h : DUs H ds xs) (k : DUs H es ys) : DUs H (ds ++ es) (xs ++ ys) :=
  let ⟨N,a⟩:=h; let ⟨M,b⟩:=k; ⟨max N M,fun l hl => (a l (by omega)).app (b l (by omega))⟩
theorem DUs.len {H : Hp} {ds : List PyData} {xs : List V} (h : DUs H ds xs) : xs.length = ds.length:=let ⟨N,a⟩:=h; (a N (Nat.le_refl _)).len
theorem DUs.get {H : Hp} {ds : List PyData} {xs : List V} {i : Nat} {d : PyData} (h : DUs H ds xs) (e : ds[i]? = some d) : ∃ v,xs[i]? = some v∧DU H d v := by
  have hl:=h.len
  have hi : i < xs.length := by rw [hl]; exact (List.getElem?_eq_some_iff.mp e).1
  have hx : xs[i]? = some xs[i] := by simp [hi]
  obtain ⟨N,a⟩:=h
  refine ⟨xs[i],hx,N,fun l hl => ?_⟩
  obtain ⟨d',h1,h2⟩:=(a l hl).get hx
  rw [e] at h1; cases h1
  exact h2
theorem DU.lst {H : Hp} {a : Addr} {ds : List PyData} {xs : List V} (h : H a = some (.lst xs)) (k : DUs H ds xs) : DU H (.list ds) (.ref a) :=
  let ⟨N,b⟩:=k; ⟨max N (a + 1),fun l hl => .lst (Nat.ne_of_lt (show a < l from Nat.lt_of_lt_of_le (Nat.lt_succ_self a) (Nat.le_trans (Nat.le_max_right _ _) hl))) h (b l (by omega))⟩
theorem DU.tup {H : Hp} {a : Addr} {ds : List PyData} {xs : List V} (h : H a = some (.tup xs)) (k : DUs H ds xs) : DU H (.tuple ds) (.ref a) :=
  let ⟨N,b⟩:=k; ⟨max N (a + 1),fun l hl => .tup (Nat.ne_of_lt (show a < l from Nat.lt_of_lt_of_le (Nat.lt_succ_self a) (Nat.le_trans (Nat.le_max_right _ _) hl))) h (b l (by omega))⟩
theorem DU.unL {H : Hp} {ds : List PyData} {v : V} (h : DU H (.list ds) v) : ∃ a xs,v = .ref a∧H a = some (.lst xs)∧DUs H ds xs := by
  obtain ⟨N,b⟩:=h
  have h0 := b N (Nat.le_refl _)
  rw [Dt] at h0
  obtain ⟨a,xs,rfl,_,ha,_⟩:=h0
  refine ⟨a,xs,rfl,ha,N,fun l hl => ?_⟩
  have h1 := b l hl
  rw [Dt] at h1
  obtain ⟨a',xs',e,_,ha',hx'⟩:=h1
  cases e
  rw [ha] at ha'; cases ha'
  exact hx'
theorem DU.unT {H : Hp} {ds : List PyData} {v : V} (h : DU H (.tuple ds) v) : ∃ a xs,v = .ref a∧H a = some (.tup xs)∧DUs H ds xs := by
  obtain ⟨N,b⟩:=h
  have h0 := b N (Nat.le_refl _)
  rw [Dt] at h0
  obtain ⟨a,xs,rfl,_,ha,_⟩:=h0
  refine ⟨a,xs,rfl,ha,N,fun l hl => ?_⟩
  have h1 := b l hl
  rw [Dt] at h1
  obtain ⟨a',xs',e,_,ha',hx'⟩:=h1
  cases e
  rw [ha] at ha'; cases ha'
  exact hx'
theorem DUs.un2 {H : Hp} {d e : PyData} {xs : List V} (h : DUs H [d,e] xs) : ∃ x y,xs = [x,y]∧DU H d x∧DU H e y := by
  obtain ⟨x,h1,h2⟩:=h.get (i:=0) rfl
  obtain ⟨y,h3,h4⟩:=h.get (i:=1) rfl
  have:=h.len
  match xs,this with
  | [a,b],_ =>
    simp at h1 h3
    subst h1 h3
    exact ⟨a,b,rfl,h2,h4⟩
mutual
theorem dt_du {c : Addr} {H : Hp} : ∀ {d : PyData} {v : V},Dt c H d v→DU H d v
  | .none,_,h => by rw [Dt] at h; subst h; exact .non
  | .bool _,_,h => by rw [Dt] at h; subst h; exact .bool
  | .int _,_,h => by rw [Dt] at h; subst h; exact .int
  | .str _,_,h => by rw [Dt] at h; subst h; exact .str
  | .tuple _,_,h => by
    rw [Dt] at h
    obtain ⟨a,xs,rfl,n,h1,h2⟩:=h
    exact .tup h1 (dtAll_du h2)
  | .list _,_,h => by
    rw [Dt] at h
    obtain ⟨a,xs,rfl,n,h1,h2⟩:=h
    exact .lst h1 (dtAll_du h2)
  | .dict _,_,h => by rw [Dt] at h; exact h.elim
theorem dtAll_du {c : Addr} {H : Hp} : ∀ {ds : List PyData} {xs : List V},DtAll c H ds xs→DUs H ds xs
  | [],_,h => by rw [DtAll] at h; subst h; exact .nil
  | _ :: _,_,h => by
    rw [DtAll] at h
    obtain ⟨x,r,rfl,h1,h2⟩:=h
    exact .cons (dt_du h1) (dtAll_du h2)
end
theorem DU.ints {H : Hp} {ps : List Int} {v : V} (h : DU H (.tuple (ps.map .int)) v) : ∃ a,v = .ref a∧H a = some (.tup (ps.map V.int)) := by
  obtain ⟨a,xs,rfl,ha,hx⟩:=h.unT
  refine ⟨a,rfl,?_⟩
  rw [ha]
  congr 2
  obtain ⟨N,b⟩:=hx
  have := b N (Nat.le_refl _)
  clear b ha h
  induction ps generalizing xs with
  | nil => rw [List.map_nil,DtAll] at this; exact this
  | cons p ps ih =>
    rw [List.map_cons,DtAll] at this
    obtain ⟨x,r,rfl,h1,h2⟩:=this
    rw [Dt] at h1
    subst h1
    rw [List.map_cons,ih r h2]
section
variable {P : Program} {w : World} {K : PySem.W.Frag} {mg : Str→Option Value} {base : Heap} {f g : Addr} {fd gd : FuncData}
theorem sc__law_ratio : FnScope ["_law_top", "_law_bottom", "_law_one", "_law_other"] ["_law_top", "_law_bottom"] (defScope s__law_ratio):=⟨rfl,rfl,rfl,by decide +kernel,rfl,by decide +kernel,by decide +kernel⟩
theorem ok__law_ratio (F : Fn K mg "_law_ratio" s__law_ratio ["_law_top", "_law_bottom"] f fd) (z_abs : mg "abs" = none) : FnOk P w K mg base CX0 1 f fd ["_law_top", "_law_bottom"] spFr := by
  have sc:=sc__law_ratio
  refine F.F.ok (k:=0) sc (fun vs H Q E h => ?_) (fun cdv A outer s H vs Q E hr h => ?_)
  · obtain ⟨t,b,m,rfl,_⟩:=h
    rfl
  obtain ⟨t,b,m,rfl,hb,hm,hs,q⟩:=h
  refine ⟨_,(pss_cons (ps_set (i:=2) sc.nd rfl (Or.inl rfl) (pe_callB call_abs rfl z_abs PyProof.Rows.boot_abs (pa_cons (pv 0) pa_nil)))
  (pss_cons (ps_set (i:=3) sc.nd rfl (Or.inl rfl) (pe_callB call_abs rfl z_abs PyProof.Rows.boot_abs (pa_cons (pv 1) pa_nil)))
  (pss_cons (ps_while PassesOwn.never (pt_cmpR op_gt (pv 3) pe_int (nomark _))
    (pss_one (ps_par (i:=2) (j:=3) rfl sc.nd rfl rfl (by decide) rfl rfl (pa_cons (pv 3) (pa_cons (pe_op op_modN (pv 2) (pv 3)) pa_nil)) rfl)))
  (pss_cons (ps_if (pt_cmpR op_lt (pv 1) pe_int (nomark _))
    (pss_one (ps_set (i:=2) sc.nd rfl (Or.inl rfl) (pe_op op_sub pe_int (pv 2))))
    pss_nil)
  (pss_one (ps_ret (pe_tup (pa_cons (pe_op op_fdivW (pv 0) (pv 2)) (pa_cons (pe_op op_fdivW (pv 1) (pv 2)) pa_nil))))))))),?_⟩
  refine ⟨_,rfl,_,rfl,_,rfl,_,rfl,?_⟩
  refine while_by (fun σ H' => ∃ g l,σ = [some (.int t),some (.int b),some (.int g),some (.int l)]∧H = H'∧Int.gcd g l = Int.gcd t b∧0≤g∧0≤l) (fun σ _ => mu3 σ) ?_ ?_ ?_
  · exact ⟨_,_,rfl,rfl,FM.gcd_abs t b,FM.abs_nonneg t,FM.abs_nonneg b⟩
  · rintro σ H' ⟨g,l,rfl,rfl,hg,h0,h1⟩
    refine ⟨_,rfl,_,_,rfl,rfl,_,rfl,ite2 (fun c => ?_) (fun c => ?_)⟩
    · have hl' : 0 < l:=of_decide_eq_true c
      have hl : l≠0 := by omega
      refine ⟨_,rfl,_,rfl,_,rfl,_,_,rfl,rfl,hl,_,_,rfl,⟨_,_,rfl,rfl,?_,h1,FM.fmod_nonneg hl h1⟩,?_⟩
      · rw [FM.gcd_step]; exact hg
      · exact FM.fmod_less g l hl
    · have hl' : ¬ 0 < l:=of_decide_eq_false (Bool.eq_false_iff.mpr c)
      have hl : l = 0 := by omega
      subst hl
      rw [FM.gi_end hg h0]
      try dsimp only [gName]
      refine seq_join (fun σ' H' => σ' = [some (.int t),some (.int b),some (.int (FM.gs t b)),some (.int 0)]∧H = H') (fun nx hn => ?_) ?_
      · refine ⟨_,rfl,_,_,rfl,rfl,_,rfl,ite2 (fun c => ?_) (fun c => ?_)⟩
        · have c' : b < 0:=of_decide_eq_true c
          refine ⟨_,rfl,_,_,rfl,rfl,hn _ _ ⟨?_,rfl⟩⟩
          show [some (V.int t),some (V.int b),some (V.int (0 - FM.gi t b)),some (V.int 0)] = _
          unfold FM.gs
          rw [if_pos c',Int.zero_sub]
        · have c' : ¬ b < 0:=of_decide_eq_false (Bool.eq_false_iff.mpr c)
          refine hn _ _ ⟨?_,rfl⟩
          unfold FM.gs
          rw [if_neg c']
      · rintro σ' H' ⟨rfl,rfl⟩
        have h0 : FM.gs t b≠0:=FM.gs_ne hb
        have h1 : (FM.gs t b).natAbs < 2 ^ m:=Nat.lt_of_le_of_lt (FM.gs_le hb) hs
        refine ⟨_,rfl,_,rfl,_,_,rfl,rfl,⟨h0,m,hm,h1⟩,_,rfl,_,rfl,_,_,rfl,rfl,⟨h0,m,hm,h1⟩,sz2,fun p hp => ?_⟩
        refine q p _ (same_new hp _) ?_
        rw [upd_same]
        show some (HO.tup [V.int (t.fdiv (FM.gs t b)),V.int (b.fdiv (FM.gs t b))]) = _
        rw [FM.num_eq hb,FM.den_eq hb]
        rfl
  · exact fun σ H Q Q' hq ⟨v,e,i,j,e1,e2,k,e3,q⟩ => ⟨v,e,i,j,e1,e2,k,e3,hq _ _ q⟩
theorem sc__law_sum : FnScope ["_law_one", "_law_other"] ["_law_one", "_law_other"] (defScope s__law_sum):=⟨rfl,rfl,rfl,by decide +kernel,rfl,by decide +kernel,by decide +kernel⟩
theorem ok__law_sum (F : Fn K mg "_law_sum" s__law_sum ["_law_one", "_law_other"] f fd) (T__law_ratio : Fn K mg "_law_ratio" s__law_ratio ["_law_top", "_law_bottom"] g gd)
    (G__law_ratio : FnOk P w K mg base CX0 2 g gd ["_law_top", "_law_bottom"] spFr) : FnOk P w K mg base CX0 3 f fd ["_law_one", "_law_other"] (spOp K (fun p q => p + q) (fun _ => True)) := by
  have sc:=sc__law_sum
  refine F.F.ok (k:=2) sc (fun vs H Q E h => ?_) (fun cdv A outer s H vs Q E hr h => ?_)
  · obtain ⟨v,w,p,q,n,rfl,_⟩:=h
    rfl
  obtain ⟨v,w,p,q,n,rfl,⟨a,rfl,sp⟩,⟨b,rfl,sq⟩,hp,hq,hn,hok,k⟩:=h
  refine ⟨_,(pss_one (ps_ret (pe_fn T__law_ratio G__law_ratio hr rfl (pa_cons (pe_op op_add (pe_op op_mulW (pe_ix ix_tup (pv 0) pe_int (fun _ _ => rfl)) (pe_ix ix_tup (pv 1) pe_int (fun _ _ => rfl))) (pe_op op_mulW (pe_ix ix_tup (pv 1) pe_int (fun _ _ => rfl)) (pe_ix ix_tup (pv 0) pe_int (fun _ _ => rfl)))) (pa_cons (pe_op op_mulW (pe_ix ix_tup (pv 0) pe_int (fun _ _ => rfl)) (pe_ix ix_tup (pv 1) pe_int (fun _ _ => rfl))) pa_nil))))),?_⟩
  refine ⟨_,rfl,_,_,_,_,rfl,rfl,sp,rfl,_,rfl,_,_,_,_,rfl,rfl,sq,rfl,_,_,rfl,rfl,mulW hp.1 hq.d (by omega),_,rfl,_,_,_,_,rfl,rfl,sq,rfl,_,rfl,_,_,_,_,rfl,rfl,sp,rfl,_,_,rfl,rfl,mulW hq.1 hp.d (by omega),_,_,rfl,rfl,_,rfl,_,_,_,_,rfl,rfl,sp,rfl,_,rfl,_,_,_,_,rfl,rfl,sq,rfl,_,_,rfl,rfl,mulW hp.d hq.d (by omega),_,_,n + n,rfl,FM.prod_ne p q,by omega,FM.dd hp hq,fun l H' e1 e2 => ?_⟩
  exact k l H' e1 (by rw [FM.sum_eq p q] at e2; exact e2)
end
theorem du_l {p : Addr} {H H' : Hp} {xs : List V} {ds : List PyData} (hH : upd H p (.lst xs) = H') (hp : H p = none) (k : DUs H ds xs) : Same H H'∧DU H' (.list ds) (.ref p)∧H' p = some (.lst xs) := by
  subst hH
  have es:=same_new hp (.lst xs)
  exact ⟨es,.lst upd_same (k.same es),upd_same⟩
theorem rat_fr (r : Rat) : isFrD (ratD r) = true := by
  have h:=r.den_nz
  have k:=r.reduced
  rw [ratD,isFrD,decide_eq_true (show (1 : Int)≤(r.den : Int) by omega),Bool.true_and]
  rw [beq_iff_eq]
  unfold FM.gi
  unfold Nat.Coprime at k
  rw [show r.num.gcd (r.den : Int) = 1 from k]
  rfl
theorem sz60 {i n : Nat} (h : i < n) (hn : n≤60) : i < sizeLine:=Nat.lt_of_lt_of_le (show i < 60 by omega) (by rw [sizeLine_eq]; decide)
theorem sz60' {n : Nat} (hn : n≤60) : n≤sizeLine:=Nat.le_trans hn (by rw [sizeLine_eq]; decide)
structure Tb where
  rs : List (List Rat)
  ls : List Rat
def fracsD (r : List Rat) : List PyData:=r.map ratD
def rowD (r : List Rat) : PyData:=.list (fracsD r)
def rowsD (rs : List (List Rat)) : List PyData:=rs.map rowD
def tabD (t : Tb) : PyData:=.tuple [.list (rowsD t.rs),.list (fracsD t.ls)]
structure Tb.Ok (m : Nat) (t : Tb) : Prop where
  one : 1≤t.rs.length
  most : t.rs.length≤m
  last : t.ls.length = t.rs.length
  row : ∀ (i : Nat) r,t.rs[i]? = some r→r.length = i
theorem fracs_fr (r : List Rat) : ∀ e∈fracsD r,isFrD e = true:=fun e he => by
  obtain ⟨q,_,rfl⟩:=List.mem_map.mp he
  exact rat_fr q
theorem fracs_len (r : List Rat) : (fracsD r).length = r.length:=List.length_map _
theorem rows_len (r : List (List Rat)) : (rowsD r).length = r.length:=List.length_map _
theorem Tb.Ok.lens {m : Nat} {t : Tb} (h : t.Ok m) : ∀ r∈t.rs,r.length < t.rs.length:=fun r hr => by
  obtain ⟨i,hi⟩:=List.getElem?_of_mem hr
  rw [h.row i r hi]
  exact (List.getElem?_eq_some_iff.mp hi).1
theorem Tb.Ok.is {m : Nat} (hm : m≤40) {t : Tb} (h : t.Ok m) : isTabD (tabD t) = true := by
  have h1:=h.one
  have h2:=h.most
  rw [tabD,isTabD,areRowsD,lenD,lenD,rows_len,fracs_len,decide_eq_true h1,decide_eq_true (show t.rs.length≤40 by omega),decide_eq_true h.last,areFrD,Bool.true_and,Bool.true_and,Bool.and_true,List.all_eq_true.mpr (fracs_fr _),Bool.and_true]
  refine rowsOk_of fun j hj => ?_
  rw [rows_len] at hj
  have hr : t.rs[j]? = some t.rs[j] := by simp [hj]
  rw [rowAt_eq (d:=rowD t.rs[j]) (by rw [rowsD,List.getElem?_map,hr]; rfl),rowD,lenD,fracs_len,decide_eq_true (h.row j _ hr),areFrD,Bool.and_true,List.all_eq_true.mpr (fracs_fr _)]
def Tb.behind (a b : Tb) : Tb:=⟨a.rs ++ b.rs.map (a.ls ++ ·),a.ls ++ b.ls⟩
theorem Tb.Ok.behind {m n : Nat} {a b : Tb} (h : a.Ok m) (k : b.Ok n) : (a.behind b).Ok (m + n) := by
  have h1:=h.one
  have h2:=h.most
  have k2:=k.most
  refine ⟨?_,?_,?_,fun i r hr => ?_⟩
  · simp [Tb.behind]; omega
  · simp [Tb.behind]; omega
  · simp [Tb.behind,h.last,k.last]
  · unfold Tb.behind at hr
    simp only at hr
    by_cases hi : i < a.rs.length
    · rw [List.getElem?_append_left hi] at hr
      exact h.row i r hr
    · rw [List.getElem?_append_right (by omega),List.getElem?_map] at hr
      cases hb : b.rs[i - a.rs.length]? with
      | none => rw [hb] at hr; cases hr
      | some z =>
        rw [hb] at hr
        cases hr
        rw [List.length_append,h.last,k.row _ _ hb]
        omega
mutual
theorem dt_both {l c : Addr} {H H' : Hp} (e : SameBut c H H') : ∀ {d : PyData} {v : V},Dt l H d v→Dt c H d v→Dt l H' d v
  | .none,_,h,_ => by rw [Dt] at h ⊢; exact h
  | .bool _,_,h,_ => by rw [Dt] at h ⊢; exact h
  | .int _,_,h,_ => by rw [Dt] at h ⊢; exact h
  | .str _,_,h,_ => by rw [Dt] at h ⊢; exact h
  | .tuple _,_,h,k => by
    rw [Dt] at h k ⊢
    obtain ⟨a,xs,e1,n,h1,h2⟩:=h
    obtain ⟨a',xs',e1',n',h1',h2'⟩:=k
    subst e1
    cases e1'
    rw [h1] at h1'
    cases h1'
    exact ⟨a,xs,rfl,n,e _ _ n' h1,dtAll_both e h2 h2'⟩
  | .list _,_,h,k => by
    rw [Dt] at h k ⊢
    obtain ⟨a,xs,e1,n,h1,h2⟩:=h
    obtain ⟨a',xs',e1',n',h1',h2'⟩:=k
    subst e1
    cases e1'
    rw [h1] at h1'
    cases h1'
    exact ⟨a,xs,rfl,n,e _ _ n' h1,dtAll_both e h2 h2'⟩
  | .dict _,_,h,_ => by rw [Dt] at h; exact h.elim
theorem dtAll_both {l c : Addr} {H H' : Hp} (e : SameBut c H H') : ∀ {ds : List PyData} {xs : List V},DtAll l H ds xs→DtAll c H ds xs→DtAll l H' ds xs
  | [],_,h,_ => by rw [DtAll] at h ⊢; exact h
  | _ :: _,_,h,k => by
    rw [DtAll] at h k ⊢
    obtain ⟨x,r,e1,h1,h2⟩:=h
    obtain ⟨x',r',e1',h1',h2'⟩:=k
    subst e1
    cases e1'
    exact ⟨x,r,rfl,dt_both e h1 h1',dtAll_both e h2 h2'⟩
end
theorem DUs.unC {H : Hp} {d : PyData} {ds : List PyData} {xs : List V} (h : DUs H (d :: ds) xs) : ∃ x r,xs = x :: r∧DU H d x∧DUs H ds r := by
  obtain ⟨N,b⟩:=h
  have h0 := b N (Nat.le_refl _)
  rw [DtAll] at h0
  obtain ⟨x,r,rfl,_,_⟩:=h0
  refine ⟨x,r,rfl,⟨N,fun l hl => ?_⟩,⟨N,fun l hl => ?_⟩⟩
  · have := b l hl
    rw [DtAll] at this
    obtain ⟨_,_,e,h1,_⟩:=this
    cases e
    exact h1
  · have := b l hl
    rw [DtAll] at this
    obtain ⟨_,_,e,_,h1⟩:=this
    cases e
    exact h1
theorem DU.rat {H : Hp} {q : Rat} {v : V} (h : DU H (ratD q) v) : ∃ p,v = .ref p∧H p = some (.tup (ratV q)):=h.ints (ps:=[q.num,(q.den : Int)])
theorem du_rat {H : Hp} {q : Rat} {p : Addr} (h : H p = some (.tup (ratV q))) : DU H (ratD q) (.ref p):=.tup h (.cons .int (.cons .int .nil))
theorem fracs_at {c : Addr} {zs : List V} {H : Hp} (hc : H c = some (.lst zs)) : ∀ {qs : List Rat} {xs : List V},DUs H (fracsD qs) xs→DtAll c H (fracsD qs) xs
  | [],xs,h => by
    have:=h.len
    rw [show fracsD [] = [] from rfl,List.length_nil] at this
    rw [List.eq_nil_of_length_eq_zero this]
    exact .nil
  | q :: qs,xs,h => by
    obtain ⟨x,r,rfl,h1,h2⟩:=DUs.unC h
    obtain ⟨p,rfl,hp⟩:=h1.rat
    exact .cons (.tup (fun z => by subst z; rw [hp] at hc; cases hc) hp (.cons .int (.cons .int .nil))) (fracs_at hc h2)
theorem fracs_but {c : Addr} {zs : List V} {H H' : Hp} (hc : H c = some (.lst zs)) (e : SameBut c H H') {qs : List Rat} {xs : List V} (h : DUs H (fracsD qs) xs) : DUs H' (fracsD qs) xs:=dtAll_du (.but e (fracs_at hc h))
theorem row_at {c a : Addr} {zs xs : List V} {H : Hp} {qs : List Rat} (hc : H c = some (.lst zs)) (n : a≠c) (ha : H a = some (.lst xs)) (h : DUs H (fracsD qs) xs) : Dt c H (rowD qs) (.ref a):=.lst n ha (fracs_at hc h)
theorem DUs.set {H : Hp} {d : PyData} {v : V} (hv : DU H d v) : ∀ {ds : List PyData} {xs : List V} {j : Nat},DUs H ds xs→DUs H (ds.set j d) (xs.set j v)
  | [],xs,j,h => by
    have:=h.len
    rw [List.length_nil] at this
    rw [List.eq_nil_of_length_eq_zero this]
    exact .nil
  | e :: es,xs,j,h => by
    obtain ⟨x,r,rfl,h1,h2⟩:=h.unC
    cases j with
    | zero => exact .cons hv h2
    | succ j => exact .cons h1 (DUs.set (j:=j) hv h2)
theorem DU.tab {H : Hp} {t : Tb} {v : V} (h : DU H (tabD t) v) : ∃ p R L xs ys,v = .ref p∧H p = some (.tup [.ref R,.ref L])∧H R = some (.lst xs)∧DUs H (rowsD t.rs) xs∧H L = some (.lst ys)∧DUs H (fracsD t.ls) ys := by
  obtain ⟨p,zs,rfl,hp,h1⟩:=h.unT
  obtain ⟨x,y,rfl,h2,h3⟩:=h1.un2
  obtain ⟨R,xs,rfl,hR,h4⟩:=h2.unL
  obtain ⟨L,ys,rfl,hL,h5⟩:=h3.unL
  exact ⟨p,R,L,xs,ys,rfl,hp,hR,h4,hL,h5⟩
theorem du_tab {H : Hp} {t : Tb} {p R L : Addr} {xs ys : List V} (hp : H p = some (.tup [.ref R,.ref L])) (hR : H R = some (.lst xs)) (h4 : DUs H (rowsD t.rs) xs) (hL : H L = some (.lst ys)) (h5 : DUs H (fracsD t.ls) ys) : DU H (tabD t) (.ref p) :=
  .tup hp (.cons (.lst hR h4) (.cons (.lst hL h5) .nil))
theorem rows_get {H : Hp} {rs : List (List Rat)} {xs : List V} {i : Nat} {r : List Rat} (h : DUs H (rowsD rs) xs) (hr : rs[i]? = some r) : ∃ a ys,xs[i]? = some (.ref a)∧H a = some (.lst ys)∧DUs H (fracsD r) ys := by
  obtain ⟨v,h1,h2⟩:=h.get (i:=i) (d:=rowD r) (by rw [rowsD,List.getElem?_map,hr]; rfl)
  obtain ⟨a,ys,rfl,h3,h4⟩:=h2.unL
  exact ⟨a,ys,h1,h3,h4⟩
def Made (H0 : Hp) (D : Addr) (rs : List (List Rat)) (i : Nat) (ys : List V) (H : Hp) : Prop :=
  Same H0 H∧ys.length = i∧DtAll D H (rowsD (rs.take i)) ys∧∀ y∈ys,∃ a zs,y = .ref a∧a≠D∧H0 a = none∧H a = some (.lst zs)
theorem made_0 {H0 : Hp} {D : Addr} {rs : List (List Rat)} (hD : H0 D = none) : Made H0 D rs 0 [] (upd H0 D (.lst [])):=⟨same_new hD _,rfl,.nil,fun _ z => (List.not_mem_nil z).elim⟩
theorem made_step {H0 H : Hp} {D l : Addr} {rs : List (List Rat)} {i : Nat} {ys zs : List V} {r : List Rat} (hD : H0 D = none) (m : Made H0 D rs i ys H) (hH : H D = some (.lst ys)) (hr : rs[i]? = some r) (hl : H l = none) (hz : DUs H (fracsD r) zs) :
    upd H l (.lst zs) D = some (.lst ys)∧Made H0 D rs (i + 1) (ys ++ [.ref l]) (upd (upd H l (.lst zs)) D (.lst (ys ++ [.ref l]))) := by
  obtain ⟨e,hyl,d,n⟩:=m
  have nl : l≠D:=fun z => by subst z; rw [hH] at hl; cases hl
  have e1:=same_new hl (.lst zs)
  have hl1 : upd H l (.lst zs) l = some (.lst zs):=upd_same
  generalize upd H l (.lst zs) = H1 at e1 hl1
  have hD1:=e1 _ _ hH
  have hl0 : H0 l = none := by
    cases hx : H0 l with
    | none => rfl
    | some o => have:=e _ _ hx; rw [hl] at this; cases this
  refine ⟨hD1,fun b o z => ?_,by simp [hyl],?_,fun y hy => ?_⟩
  · rw [upd_ne (ne_of_none z hD)]
    exact e1 _ _ (e _ _ z)
  · rw [List.take_add_one,hr,rowsD,List.map_append]
    exact .but .upd ((d.same e1).app (.cons (row_at hD1 nl hl1 (hz.same e1)) .nil))
  · rcases List.mem_append.mp hy with hy | hy
    · obtain ⟨a,ws,rfl,na,h0,h1⟩:=n y hy
      exact ⟨a,ws,rfl,na,h0,by rw [upd_ne na]; exact e1 _ _ h1⟩
    · rw [List.mem_singleton.mp hy]
      exact ⟨l,zs,rfl,nl,hl0,by rw [upd_ne nl]; exact hl1⟩
theorem fracs_app (a b : List Rat) : fracsD (a ++ b) = fracsD a ++ fracsD b:=List.map_append
def spPow : Sp:=fun vs H Q _ => ∃ (b : Int) (p k : Nat),vs = [.int b,.int p]∧b.natAbs < 2 ^ k∧k * p≤4000∧Q (.int (b ^ p)) H
theorem pow_nb {b : Int} {k e p : Nat} (hb : b.natAbs < 2 ^ k) (he : e≤p) : (b ^ e).natAbs < 2 ^ (k * p + 1) := by
  rw [Int.natAbs_pow]
  have h1 : b.natAbs ^ e≤(2 ^ k) ^ e:=Nat.pow_le_pow_left (Nat.le_of_lt hb) e
  rw [← Nat.pow_mul] at h1
  exact Nat.lt_of_le_of_lt h1 (Nat.pow_lt_pow_right (by decide) (Nat.lt_succ_of_le (Nat.mul_le_mul_left k he)))
def mu4 (σ : St) : Nat:=match σ[4]? with | some (some (V.int l)) => l.natAbs | _ => 0
section
variable {P : Program} {w : World} {K : PySem.W.Frag} {mg : Str→Option Value} {base : Heap} {f g g1 g2 : Addr} {fd gd gd1 gd2 : FuncData}
theorem sc_power_of : FnScope ["base", "power", "product", "square", "left"] ["base", "power"] (defScope s_power_of):=⟨rfl,rfl,rfl,by decide +kernel,rfl,by decide +kernel,by decide +kernel⟩
theorem ok_power_of (F : Fn K mg "power_of" s_power_of ["base", "power"] f fd) : FnOk P w K mg base CX0 1 f fd ["base", "power"] spPow := by
  have sc:=sc_power_of
  refine F.F.ok (k:=0) sc (fun vs H Q E h => ?_) (fun cdv A outer s H vs Q E hr h => ?_)
  · obtain ⟨b,p,k,rfl,_⟩:=h
    rfl
  obtain ⟨b,p,k,rfl,hb,hk,q⟩:=h
  refine ⟨_,(pss_cons (ps_set (i:=2) sc.nd rfl (Or.inl rfl) pe_int)
  (pss_cons (ps_set (i:=3) sc.nd rfl (Or.inl rfl) (pv 0))
  (pss_cons (ps_set (i:=4) sc.nd rfl (Or.inl rfl) (pv 1))
  (pss_cons (ps_while PassesOwn.never (pt_cmpR op_gt (pv 4) pe_int (nomark _))
    (pss_cons (ps_if (pt_cmpR op_eq (pe_op op_mod (pv 4) pe_int) pe_int (nomark _))
      (pss_one (ps_set (i:=2) sc.nd rfl (Or.inl rfl) (pe_op op_mulW (pv 2) (pv 3))))
      pss_nil)
    (pss_cons (ps_set (i:=4) sc.nd rfl (Or.inl rfl) (pe_op op_fdiv (pv 4) pe_int))
    (pss_one (ps_if (pt_cmpR op_gt (pv 4) pe_int (nomark _))
      (pss_one (ps_set (i:=3) sc.nd rfl (Or.inl rfl) (pe_op op_mulW (pv 3) (pv 3))))
      pss_nil)))))
  (pss_one (ps_ret (pv 2))))))),?_⟩
  refine ⟨_,rfl,_,rfl,?_⟩
  refine while_by (fun σ H' => ∃ e f l : Nat,σ = [some (.int b),some (.int p),some (.int (b ^ e)),some (.int (b ^ f)),some (.int l)]∧H = H'∧e + f * l = p) (fun σ _ => mu4 σ) ?_ ?_ ?_
  · refine ⟨0,1,p,?_,rfl,by omega⟩
    rw [Int.pow_zero,Int.pow_succ,Int.pow_zero,Int.one_mul]
    rfl
  · rintro σ H' ⟨e,f,l,rfl,rfl,he⟩
    refine ⟨_,rfl,_,_,rfl,rfl,_,rfl,ite2 (fun c => ?_) (fun c => ?_)⟩
    · have hl : 0 < l := by have:=of_decide_eq_true c; omega
      have hfp : f≤p := by
        have : f * 1≤f * l:=Nat.mul_le_mul_left f hl
        omega
      try dsimp only [gName]
      refine seq_join (fun σ' H' => ∃ e' : Nat,σ' = [some (.int b),some (.int p),some (.int (b ^ e')),some (.int (b ^ f)),some (.int l)]∧H = H'∧e' + f * (2 * (l / 2)) = p) (fun nx hnx => ?_) ?_
      · refine ⟨_,rfl,_,_,rfl,rfl,(by show (0 : Int) < 2; decide),rfl,_,rfl,ite2 (fun c => ?_) (fun c => ?_)⟩
        · have hodd : l % 2 = 1 := by have : ((l : Int) % 2) = 1 := by simpa using c
                                      omega
          refine ⟨_,rfl,_,rfl,_,_,rfl,rfl,mulW (pow_nb hb (show e≤p by omega)) (pow_nb hb hfp) (by omega),hnx _ _ ⟨e + f,?_,rfl,?_⟩⟩
          · show [some (V.int b),some (V.int p),some (V.int (b ^ e * b ^ f)),some (V.int (b ^ f)),some (V.int l)] = _
            rw [← Int.pow_add]
          · have : l = 2 * (l / 2) + 1 := by omega
            rw [← he]
            conv => rhs; rw [this,Nat.mul_add,Nat.mul_one]
            omega
        · have hev : l % 2 = 0 := by have : ¬ ((l : Int) % 2) = 1 := by simpa using c
                                     omega
          refine hnx _ _ ⟨e,rfl,rfl,?_⟩
          rw [show 2 * (l / 2) = l by omega]; exact he
      · rintro σ' _ ⟨e',rfl,rfl,he'⟩
        refine ⟨_,rfl,_,_,rfl,rfl,⟨by decide,by decide⟩,?_⟩
        have el : ((l : Int) / 2) = ((l / 2 : Nat) : Int) := by omega
        refine ⟨_,rfl,_,_,rfl,rfl,_,rfl,ite2 (fun c => ?_) (fun c => ?_)⟩
        · refine ⟨_,rfl,_,rfl,_,_,rfl,rfl,mulW (pow_nb hb hfp) (pow_nb hb hfp) (by omega),⟨e',f + f,l / 2,?_,rfl,?_⟩,?_⟩
          · show [some (V.int b),some (V.int p),some (V.int (b ^ e')),some (V.int (b ^ f * b ^ f)),some (V.int ((l : Int) / 2))] = _
            rw [el,← Int.pow_add]
          · rw [← he',← Nat.two_mul,Nat.mul_assoc,Nat.mul_left_comm]
          · show ((l : Int) / 2).natAbs < ((l : Nat) : Int).natAbs
            omega
        · refine ⟨⟨e',f,l / 2,?_,rfl,?_⟩,?_⟩
          · show [some (V.int b),some (V.int p),some (V.int (b ^ e')),some (V.int (b ^ f)),some (V.int ((l : Int) / 2))] = _
            rw [el]
          · have : l / 2 = 0 := by have:=of_decide_eq_false (Bool.eq_false_iff.mpr c); omega
            rw [this] at he' ⊢
            simpa using he'
          · show ((l : Int) / 2).natAbs < ((l : Nat) : Int).natAbs
            omega
    · have hl : l = 0 := by have:=of_decide_eq_false (Bool.eq_false_iff.mpr c); omega
      subst hl
      rw [Nat.mul_zero,Nat.add_zero] at he
      subst he
      exact ⟨_,rfl,q⟩
  · exact fun σ H Q Q' hq ⟨v,e,s,k,e2,e3,e4,q1,q2⟩ => ⟨v,e,s,k,e2,e3,e4,q1,hq _ _ q2⟩
end
mutual
theorem du_DU {H : Hp} : ∀ {d : PyData} {v : V},d.canLay0 = true→Du H d v→DU H d v
  | .none,_,_,h => by rw [Du] at h; subst h; exact .non
  | .bool _,_,_,h => by rw [Du] at h; subst h; exact .bool
  | .int _,_,_,h => by rw [Du] at h; subst h; exact .int
  | .str _,_,_,h => by rw [Du] at h; subst h; exact .str
  | .tuple _,_,c,h => by
    rw [Du] at h
    obtain ⟨a,xs,rfl,h1,h2⟩:=h
    exact .tup h1 (duA_DUs (by simpa only [PyData.canLay0] using c) h2)
  | .list _,_,c,h => by
    rw [Du] at h
    obtain ⟨a,xs,rfl,h1,h2⟩:=h
    exact .lst h1 (duA_DUs (by simpa only [PyData.canLay0] using c) h2)
  | .dict _,_,c,h => by simp [PyData.canLay0] at c
theorem duA_DUs {H : Hp} : ∀ {ds : List PyData} {xs : List V},PyData.canLayAll0 ds = true→DuA H ds xs→DUs H ds xs
  | [],_,_,h => by rw [h.nil_eq]; exact .nil
  | _ :: _,_,c,h => by
    obtain ⟨x,r,rfl,h1,h2⟩:=h.un
    simp only [PyData.canLayAll0,Bool.and_eq_true] at c
    exact .cons (du_DU c.1 h1) (duA_DUs c.2 h2)
end
mutual
theorem dt_Du {l : Addr} {H : Hp} : ∀ {d : PyData} {v : V},Dt l H d v→Du H d v
  | .none,_,h => by rw [Dt] at h; rw [Du]; exact h
  | .bool _,_,h => by rw [Dt] at h; rw [Du]; exact h
  | .int _,_,h => by rw [Dt] at h; rw [Du]; exact h
  | .str _,_,h => by rw [Dt] at h; rw [Du]; exact h
  | .tuple _,_,h => by
    rw [Dt] at h; rw [Du]
    obtain ⟨a,xs,rfl,n,h1,h2⟩:=h
    exact ⟨a,xs,rfl,h1,dtA_DuA h2⟩
  | .list _,_,h => by
    rw [Dt] at h; rw [Du]
    obtain ⟨a,xs,rfl,n,h1,h2⟩:=h
    exact ⟨a,xs,rfl,h1,dtA_DuA h2⟩
  | .dict _,_,h => by rw [Dt] at h; exact h.elim
theorem dtA_DuA {l : Addr} {H : Hp} : ∀ {ds : List PyData} {xs : List V},DtAll l H ds xs→DuA H ds xs
  | [],_,h => by rw [DtAll] at h; subst h; exact .nil
  | _ :: _,_,h => by
    rw [DtAll] at h
    obtain ⟨x,r,rfl,h1,h2⟩:=h
    exact .cons (dt_Du h1) (dtA_DuA h2)
end
theorem DU.du {H : Hp} {d : PyData} {v : V} (h : DU H d v) : Du H d v:=let ⟨N,k⟩:=h; dt_Du (k N (Nat.le_refl _))
theorem tellT {G H H' : Hp} {l : Addr} {vs : List V} {ds : List PyData} (e0 : Same G H) (e : Same H H') (hl : H' l = some (.tup vs)) (d : DuA G ds vs) : ∃ G',Same G G'∧Nw G H G'∧Same G' H'∧Du G' (.tuple ds) (.ref l) := by
  have e1 : Same G (upd G l (.tup vs)):=fun a o h => by
    by_cases ha : a = l
    · subst ha
      have:=e _ _ (e0 _ _ h)
      rw [hl] at this; rw [upd_same]; exact this
    · rw [upd_ne ha]; exact h
  refine ⟨upd G l (.tup vs),e1,fun a u h => ?_,fun a u h => ?_,?_⟩
  · by_cases ha : a = l
    · subst ha; rw [upd_same] at h; cases h; exact .inr (.inr ⟨_,rfl⟩)
    · rw [upd_ne ha] at h; exact .inl h
  · by_cases ha : a = l
    · subst ha; rw [upd_same] at h; rw [hl]; exact h
    · rw [upd_ne ha] at h; exact e _ _ (e0 _ _ h)
  · rw [Du]; exact ⟨l,vs,rfl,upd_same,d.same e1⟩
theorem duA_ints {G : Hp} : ∀ ps : List Int,DuA G (ps.map .int) (ps.map V.int)
  | [] => .nil
  | p :: ps => .cons (by rw [Du]) (duA_ints ps)
section
variable {P : Program} {w : World} {K : PySem.W.Frag} {mg : Str→Option Value} {base : Heap} {CX : CXT} {k : Nat} {f : Addr} {fd : FuncData} {ps : List Str}
def mB (q : PyData→Bool) : List PyData→Option PyData
  | [d] => if d.canLay0 = true then some (.bool (q d)) else none
  | _ => none
theorem mB_is {q : PyData→Bool} {d : PyData} (h : d.canLay0 = true) : mB q [d] = some (.bool (q d)):=if_pos h
theorem mB_v {q : PyData→Bool} {d : PyData} {b : Bool} (h : d.canLay0 = true) (e : q d = b) : mB q [d] = some (.bool b):=(mB_is h).trans (by rw [e])
theorem toB {sp : Sp} {q : PyData→Bool} (F : FnOk P w K mg base CX k f fd ps sp) (h : ∀ (l : Addr) d v H Q E,Dt l H d v→(∀ H',Same H H'→Q (.bl (q d)) H')→sp [v] H Q E) : FnOk P w K mg base CX k f fd ps (spD (mB q)) :=
  spD_imp F fun ds x hm G H vs Q E d e kk => by
    unfold mB at hm
    split at hm
    · split at hm
      · rename_i dd hc
        cases hm
        obtain ⟨v,rfl,d1⟩:=d.un1
        obtain ⟨N,b⟩:=du_DU hc (d1.same e)
        exact h N _ v H Q E (b N (Nat.le_refl _)) fun H' e' => kk _ G H' (.refl _) Nw.refl (e.trans e') e' (by rw [Du])
      · cases hm
    · cases hm
end
theorem can_ints : ∀ ps : List Int,PyData.canLayAll0 (ps.map .int) = true
  | [] => by simp [PyData.canLayAll0]
  | p :: ps => by rw [List.map_cons]; simp only [PyData.canLayAll0,PyData.canLay0]; rw [can_ints ps]; rfl
theorem canAll_of {ds : List PyData} (h : ∀ d∈ds,d.canLay0 = true) : PyData.canLayAll0 ds = true := by
  induction ds with
  | nil => simp [PyData.canLayAll0]
  | cons d ds ih => simp only [PyData.canLayAll0]; rw [h d (.head _),ih fun e he => h e (.tail _ he)]; rfl
theorem can_l {ds : List PyData} (h : ∀ d∈ds,d.canLay0 = true) : (PyData.list ds).canLay0 = true := by simp only [PyData.canLay0]; exact canAll_of h
theorem can_t {ds : List PyData} (h : ∀ d∈ds,d.canLay0 = true) : (PyData.tuple ds).canLay0 = true := by simp only [PyData.canLay0]; exact canAll_of h
theorem nback {H H' : Hp} {a : Addr} (e : Same H H') (h : H' a = none) : H a = none := by
  cases hx : H a with
  | none => rfl
  | some o => have:=e _ _ hx; rw [h] at this; cases this
theorem fracs_get {H : Hp} {qs : List Rat} {xs : List V} {i : Nat} {x : V} (h : DUs H (fracsD qs) xs) (hx : xs[i]? = some x) : ∃ q p,x = .ref p∧qs[i]? = some q∧H p = some (.tup (ratV q)) := by
  have hl:=h.len
  rw [fracs_len] at hl
  have hi : i < qs.length := by rw [← hl]; exact (List.getElem?_eq_some_iff.mp hx).1
  have hq : qs[i]? = some qs[i] := by simp [hi]
  obtain ⟨v,h1,h2⟩:=h.get (i:=i) (d:=ratD qs[i]) (by rw [fracsD,List.getElem?_map,hq]; rfl)
  rw [hx] at h1
  cases h1
  obtain ⟨p,rfl,hp⟩:=h2.rat
  exact ⟨_,p,rfl,hq,hp⟩
def newT (R L : Addr) (H H' : Hp) : Hp:=fun b => match H' b with
  | some (.tup xs) => some (.tup xs)
  | some o => if H b = none∧b≠R∧b≠L then some o else none
  | none => none
theorem newT_t {R L a : Addr} {H H' : Hp} {xs : List V} (h : H' a = some (.tup xs)) : newT R L H H' a = some (.tup xs) := by unfold newT; rw [h]
theorem newT_l {R L a : Addr} {H H' : Hp} {xs : List V} (h : H' a = some (.lst xs)) (h0 : H a = none) (h1 : a≠R) (h2 : a≠L) : newT R L H H' a = some (.lst xs) := by unfold newT; rw [h]; exact if_pos ⟨h0,h1,h2⟩
theorem newT_no {R L a : Addr} {H H' : Hp} {xs : List V} (h : H' a = some (.lst xs)) (k : a = R∨a = L) : newT R L H H' a = none := by
  unfold newT; rw [h]
  refine if_neg fun z => ?_
  rcases k with k | k
  · exact z.2.1 k
  · exact z.2.2 k
theorem newT_in {R L : Addr} {H H' : Hp} : Same (newT R L H H') H':=fun a o h => by
  unfold newT at h
  cases e : H' a with
  | none => rw [e] at h; cases h
  | some u =>
    rw [e] at h
    cases u with
    | tup xs => exact h
    | _ =>
      simp only at h
      split at h
      · exact h
      · cases h
theorem newT_new {R L : Addr} {H H' : Hp} {a : Addr} {o : HO} (h : newT R L H H' a = some o) : H a = none∨∃ xs,o = .tup xs := by
  unfold newT at h
  split at h
  · cases h; exact .inr ⟨_,rfl⟩
  · split at h
    · rename_i z; exact .inl z.1
    · cases h
  · cases h
theorem fracs_newT {R L : Addr} {H H' : Hp} : ∀ {qs : List Rat} {xs : List V},DUs H' (fracsD qs) xs→DuA (newT R L H H') (fracsD qs) xs
  | [],xs,h => by
    have:=h.len
    have e : xs = []:=List.eq_nil_of_length_eq_zero (by simpa [fracsD] using this)
    rw [e]; exact .nil
  | q :: qs,xs,h => by
    obtain ⟨x,r,rfl,h1,h2⟩:=DUs.unC (d:=ratD q) (ds:=fracsD qs) h
    obtain ⟨p,rfl,hp⟩:=h1.rat
    refine .cons ?_ (fracs_newT h2)
    unfold ratD
    rw [Du]
    exact ⟨p,_,rfl,newT_t hp,duA_ints [q.num,(q.den : Int)]⟩
theorem rows_newT {R L : Addr} {H H' : Hp} : ∀ {rs : List (List Rat)} {xs : List V},DUs H' (rowsD rs) xs→(∀ y∈xs,∃ a zs,y = .ref a∧a≠R∧a≠L∧H a = none∧H' a = some (.lst zs))→DuA (newT R L H H') (rowsD rs) xs
  | [],xs,h,_ => by
    have:=h.len
    have e : xs = []:=List.eq_nil_of_length_eq_zero (by simpa [rowsD] using this)
    rw [e]; exact .nil
  | q :: qs,xs,h,k => by
    obtain ⟨x,r,rfl,h1,h2⟩:=DUs.unC (d:=rowD q) (ds:=rowsD qs) h
    obtain ⟨a,zs,rfl,n1,n2,n3,n4⟩:=k _ (.head _)
    obtain ⟨a',zs',e,ha,hz⟩:=DU.unL (ds:=fracsD q) h1
    cases e
    rw [n4] at ha; cases ha
    refine .cons ?_ (rows_newT h2 fun y hy => k y (.tail _ hy))
    unfold rowD
    rw [Du]
    exact ⟨a,zs,rfl,newT_l n4 n3 n1 n2,fracs_newT hz⟩
def spCopyN : Sp:=fun vs H Q _ => ∃ (v : V) (a : Tb) (m : Nat),vs = [v]∧DU H (tabD a) v∧a.Ok m∧m≤40∧∀ (p R L : Addr) xs ys H',Same H H'→H R = none→H L = none→R≠L→H' p = some (.tup [.ref R,.ref L])→H' R = some (.lst xs)→H' L = some (.lst ys)→DuA (newT R L H H') (rowsD a.rs) xs→DuA (newT R L H H') (fracsD a.ls) ys→Q (.ref p) H'
section
variable {P : Program} {w : World} {K : PySem.W.Frag} {mg : Str→Option Value} {base : Heap} {f g g1 g2 g3 : Addr} {fd gd gd1 gd2 gd3 : FuncData}
theorem sc__law_copy : FnScope ["_law_table_here"] ["_law_table_here"] (defScope s__law_copy):=⟨rfl,rfl,rfl,by decide +kernel,rfl,by decide +kernel,by decide +kernel⟩
theorem ok__law_copy (F : Fn K mg "_law_copy" s__law_copy ["_law_table_here"] f fd) (z_list : mg "list" = none) : FnOk P w K mg base CX0 1 f fd ["_law_table_here"] spCopyN := by
  have sc:=sc__law_copy
  refine F.F.ok (k:=0) sc (fun vs H Q E h => ?_) (fun cdv A outer s H vs Q E hr h => ?_)
  · obtain ⟨v,a,m,rfl,_⟩:=h
    rfl
  obtain ⟨v,a,m,rfl,da,oa,hm,q⟩:=h
  refine ⟨_,(pss_one (ps_ret (pe_tup (pa_cons (pe_compr [".0", "_law_row_here"] 1 [none,none] (pi_list (pe_ix ix_tup (pv 0) pe_int (fun _ _ => rfl))) (fun _ _ _ _ _ => pif_nil) (fun _ _ _ _ _ => (pe_callTy call_list_ofC rfl z_list PyProof.Rows.boot_list (pa_cons (pv 1) pa_nil)))) (pa_cons (pe_callTy call_list_of rfl z_list PyProof.Rows.boot_list (pa_cons (pe_ix ix_tup (pv 0) pe_int (fun _ _ => rfl)) pa_nil)) pa_nil))))),?_⟩
  obtain ⟨p1,R1,L1,xs1,ys1,rfl,hp1,hR1,dR1,hL1,dL1⟩:=da.tab
  have l1 : xs1.length = a.rs.length := by rw [dR1.len,rows_len]
  have ma:=oa.most
  refine ⟨_,rfl,_,_,_,_,rfl,rfl,SqT.of hp1,rfl,R1,rfl,⟨_,SqL.of hR1⟩,fun D hD => comp_by (n:=xs1.length) (Made H D a.rs) (made_0 hD) ?_ ?_⟩
  · rintro i ys H5 hi mk hD5
    have e5:=mk.1
    have hr : a.rs[i]? = some (a.rs[i]'(by omega)):=List.getElem?_eq_getElem _
    obtain ⟨r,zs,g1,g2,g3⟩:=rows_get dR1 hr
    refine ⟨⟨xs1,.ref r,SqL.of (e5 _ _ hR1),g1⟩,sz60 (n:=60) (by rw [mk.2.1]; omega) (by decide),fun x H' y => ?_⟩
    obtain ⟨rfl,y⟩:=y
    have hx:=y xs1 (SqL.of (e5 _ _ hR1))
    rw [g1] at hx
    cases hx
    unfold tNoIf
    refine iteT ⟨_,rfl,r,zs,rfl,.inl (SqL.of (e5 _ _ g2)),fun l hl => ?_⟩
    obtain ⟨k1,k2⟩:=made_step hD mk hD5 hr hl (g3.same e5)
    exact ⟨k1,cw_next hi k2⟩
  rintro zs1 H5 ⟨e5,zl1,d5,n5⟩ hD5
  refine ⟨⟨xs1,SqL.of (e5 _ _ hR1),Nat.le_refl _⟩,?_⟩
  rw [l1,List.take_length] at d5
  have d5:=dtAll_du d5
  refine ⟨_,rfl,_,_,_,_,rfl,rfl,SqT.of (e5 _ _ hp1),rfl,L1,ys1,rfl,.inl (SqL.of (e5 _ _ hL1)),fun L hL => ?_⟩
  generalize hH : upd _ L _ = H8
  obtain ⟨e8,_,h8⟩:=du_l hH hL (dL1.same e5)
  clear hH
  refine ⟨sz60' (show 2≤60 by decide),fun t ht => ?_⟩
  have e9:=same_new ht (.tup [V.ref D,V.ref L])
  have h9 : upd H8 t (.tup [V.ref D,V.ref L]) t = some (.tup [V.ref D,V.ref L]):=upd_same
  generalize upd H8 t (.tup [V.ref D,V.ref L]) = H9 at e9 h9
  have nDL : D≠L:=fun z => by subst z; rw [hD5] at hL; cases hL
  have E:=e5.trans (e8.trans e9)
  have hLn : H L = none:=nback e5 hL
  refine q t D L zs1 ys1 H9 E hD hLn nDL h9 (e9 _ _ (e8 _ _ hD5)) (e9 _ _ h8) (rows_newT (d5.same (e8.trans e9)) fun y hy => ?_) (fracs_newT (dL1.same E))
  obtain ⟨b,ws,rfl,nb,hb0,hb1⟩:=n5 y hy
  exact ⟨b,ws,rfl,nb,fun z => (by subst z; rw [hL] at hb1; cases hb1),hb0,e9 _ _ (e8 _ _ hb1)⟩
end
def Small (t : Tb) : Prop:=(∀ r∈t.rs,∀ q∈r,FM.Fits q 60)∧∀ q∈t.ls,FM.Fits q 60
def spTab60 : Sp:=fun vs H Q _ => ∃ (x : Int) (most : Nat),vs = [.int x,.int most]∧1≤most∧most≤5∧∀ v H' t,Same H H'→DU H' (tabD t) v→t.Ok most→Small t→Q v H'
def Rows (H0 : Hp) (R : Addr) (H : Hp) (i : Nat) : Prop:=∃ rs xs,H R = some (.lst xs)∧DtAll R H (rowsD rs) xs∧rs.length = i∧(∀ (j : Nat) r,rs[j]? = some r→r.length = j)∧(∀ r∈rs,∀ q∈r,FM.Fits q 60) ∧
  (i≠0→∃ rs0 xs0 qs ys A,rs = rs0 ++ [qs]∧xs = xs0 ++ [.ref A]∧H0 A = none∧A≠R∧H A = some (.lst ys)∧DUs H (fracsD qs) ys∧(∀ q∈qs,FM.Fits q 3)∧DtAll R H (rowsD rs0) xs0∧DtAll A H (rowsD rs0) xs0)
theorem rows_0 {H0 : Hp} {R : Addr} {H : Hp} (h : H R = some (.lst [])) : Rows H0 R H 0:=⟨[],[],h,.nil,rfl,fun j r z => by simp at z,fun r z => (List.not_mem_nil z).elim,fun z => absurd rfl z⟩
theorem rows_step {R A : Addr} {H0 H2 H' : Hp} {xs ys : List V} {rs : List (List Rat)} {qs : List Rat} {i : Nat} (hR : H2 R = some (.lst xs)) (d : DtAll R H2 (rowsD rs) xs) (hl : rs.length = i) (hj : ∀ (j : Nat) r,rs[j]? = some r→r.length = j)
    (hf : ∀ r∈rs,∀ q∈r,FM.Fits q 60) (hA0 : H0 A = none) (hA : H2 A = none) (e : Same H2 H') (hA' : H' A = some (.lst ys)) (dy : DUs H' (fracsD qs) ys) (hq : qs.length = i) (hqf : ∀ q∈qs,FM.Fits q 3) :
    Rows H0 R (upd H' R (.lst (xs ++ [.ref A]))) (i + 1) := by
  have nA : A≠R:=fun z => by subst z; rw [hR] at hA; cases hA
  have hR':=e _ _ hR
  have dR:=d.same e
  have dA:=(dtAll_fresh hA d).same e
  have u : SameBut R H' (upd H' R (.lst (xs ++ [.ref A]))):=.upd
  refine ⟨rs ++ [qs],xs ++ [.ref A],upd_same,?_,by simp [hl],fun j r hr => ?_,fun r hr q hq => ?_,fun _ => ⟨rs,xs,qs,ys,A,rfl,rfl,hA0,nA,by rw [upd_ne nA]; exact hA',fracs_but hR' u dy,hqf,dR.but u,dtAll_both u dA dR⟩⟩
  · rw [rowsD,List.map_append]
    exact .but u (dR.app (.cons (row_at hR' nA hA' dy) .nil))
  · by_cases z : j < rs.length
    · rw [List.getElem?_append_left z] at hr
      exact hj j r hr
    · rw [List.getElem?_append_right (by omega)] at hr
      have:=(List.getElem?_eq_some_iff.mp hr).1
      rw [List.length_singleton] at this
      rw [show j - rs.length = 0 by omega] at hr
      cases hr
      omega
  · rcases List.mem_append.mp hr with hr | hr
    · exact hf r hr q hq
    · rw [List.mem_singleton.mp hr] at hq
      exact (hqf q hq).mono (by decide)
theorem cut_mem {xs : List V} {lo hi : Option Int} {x : V} (h : x∈cutV xs lo hi) : x∈xs:=List.mem_of_mem_drop (List.mem_of_mem_take h)
theorem fits_neg {p : Rat} {n : Nat} (h : FM.Fits p n) : FM.Fits (-p) n := by
  refine ⟨?_,?_⟩
  · rw [Rat.neg_num,Int.natAbs_neg]; exact h.1
  · rw [Rat.neg_den]; exact h.2
theorem rat_neg (p : Rat) : [V.int (0 - p.num),V.int (p.den : Int)] = ratV (-p) := by
  rw [ratV,Rat.neg_num,Rat.neg_den,Int.zero_sub]
theorem rat_0 : [V.int 0,V.int 1] = ratV 0:=rfl
theorem rat_1 : [V.int 1,V.int 1] = ratV 1:=rfl
theorem fits_0 : FM.Fits 0 4:=⟨by decide,by decide⟩
theorem fits_1 : FM.Fits 1 4:=⟨by decide,by decide⟩
section
variable {P : Program} {w : World} {K : PySem.W.Frag} {mg : Str→Option Value} {base : Heap} {f g g1 g2 g3 : Addr} {fd gd gd1 gd2 gd3 : FuncData}
theorem sc__law_table : FnScope ["_law_rest_here", "_law_most", "_law_many", "_law_mode", "_law_rows", "_law_k", "_law_row_here", "_law_j", "_law_last", "_law_total", "_law_part"] ["_law_rest_here", "_law_most"] (defScope s__law_table):=⟨rfl,rfl,rfl,by decide +kernel,rfl,by decide +kernel,by decide +kernel⟩
theorem ok__law_table (F : Fn K mg "_law_table" s__law_table ["_law_rest_here", "_law_most"] f fd) (T__law_ratio : Fn K mg "_law_ratio" s__law_ratio ["_law_top", "_law_bottom"] g1 gd1) (T__law_sum : Fn K mg "_law_sum" s__law_sum ["_law_one", "_law_other"] g2 gd2)
    (G__law_ratio : FnOk P w K mg base CX0 3 g1 gd1 ["_law_top", "_law_bottom"] spFr) (G__law_sum : FnOk P w K mg base CX0 3 g2 gd2 ["_law_one", "_law_other"] (spOp K (fun p q => p + q) (fun _ => True))) (z_range : mg "range" = none) : FnOk P w K mg base CX0 4 f fd ["_law_rest_here", "_law_most"] spTab60 := by
  have sc:=sc__law_table
  refine F.F.ok (k:=3) sc (fun vs H Q E h => ?_) (fun cdv A outer s H vs Q E hr h => ?_)
  · obtain ⟨x,most,rfl,_⟩:=h
    rfl
  obtain ⟨x,most,rfl,hm1,hm5,q⟩:=h
  refine ⟨_,(pss_cons (ps_set (i:=2) sc.nd rfl (Or.inl rfl) (pe_op op_add pe_int (pe_op op_modN (pv 0) (pv 1))))
  (pss_cons (ps_set (i:=3) sc.nd rfl (Or.inl rfl) (pe_op op_mod (pe_op op_fdivW (pv 0) (pv 1)) pe_int))
  (pss_cons (ps_set (i:=0) sc.nd rfl (Or.inl rfl) (pe_op op_fdivW (pv 0) (pe_op op_mulW pe_int (pv 1))))
  (pss_cons (ps_set (i:=4) sc.nd rfl (Or.inl rfl) (pe_lst pa_nil))
  (pss_cons (ps_for PassesOwn.never rfl (pi_range1 rfl z_range (pa_cons (pe_op op_add (pv 2) pe_int) pa_nil)) (pg_name (i:=5) sc.nd rfl (Or.inl rfl))
    (pss_cons (ps_set (i:=6) sc.nd rfl (Or.inl rfl) (pe_lst pa_nil))
    (pss_cons (ps_for PassesOwn.never rfl (pi_range1 rfl z_range (pa_cons (pv 5) pa_nil)) (pg_name (i:=7) sc.nd rfl (Or.inl rfl))
      (pss_cons (ps_expr (pe_bm PySem.F.plainAttrs_list PySem.F.slot_list_append PySem.F.type_list_append mt_append (pv 6) (pa_cons (pe_fn T__law_ratio G__law_ratio hr rfl (pa_cons (pe_op op_sub (pe_op op_mod (pv 0) pe_int) pe_int) (pa_cons (pe_op op_add pe_int (pe_op op_mod (pe_op op_fdiv (pv 0) pe_int) pe_int)) pa_nil))) pa_nil)))
      (pss_one (ps_set (i:=0) sc.nd rfl (Or.inl rfl) (pe_op op_fdiv (pv 0) pe_int)))))
    (pss_one (ps_expr (pe_bm PySem.F.plainAttrs_list PySem.F.slot_list_append PySem.F.type_list_append mt_append (pv 4) (pa_cons (pv 6) pa_nil)))))))
  (pss_cons (ps_set (i:=8) sc.nd rfl (Or.inl rfl) (pe_bm0 PySem.F.plainAttrs_list PySem.F.slot_list_pop PySem.F.type_list_pop mt_pop (pv 4)))
  (pss_cons (ps_if (pt_cmpR op_gt (pv 3) pe_int (nomark _))
    (pss_cons (ps_set (i:=9) sc.nd rfl (Or.inl rfl) (pe_tup (pa_cons pe_int (pa_cons pe_int pa_nil))))
    (pss_cons (ps_for PassesOwn.never rfl (pi_list (pe_slice sl_list (pv 8) po_none (po_some (pe_un un_neg pe_int)))) (pg_name (i:=10) sc.nd rfl (Or.inl rfl))
      (pss_one (ps_set (i:=9) sc.nd rfl (Or.inl rfl) (pe_fn T__law_sum G__law_sum hr rfl (pa_cons (pv 9) (pa_cons (pv 10) pa_nil))))))
    (pss_one (ps_asg (pe_fn T__law_sum G__law_sum hr rfl (pa_cons (pe_tup (pa_cons pe_int (pa_cons pe_int pa_nil))) (pa_cons (pe_tup (pa_cons (pe_op op_sub pe_int (pe_ix ix_tup (pv 9) pe_int (fun _ _ => rfl))) (pa_cons (pe_ix ix_tup (pv 9) pe_int (fun _ _ => rfl)) pa_nil))) pa_nil))) (pg_sub (pv 8) (pe_un un_neg pe_int) set_list)))))
    pss_nil)
  (pss_one (ps_ret (pe_tup (pa_cons (pv 4) (pa_cons (pv 8) pa_nil)))))))))))),?_⟩
  have m0 : (most : Int)≠0 := by omega
  refine ⟨_,rfl,_,rfl,_,_,rfl,rfl,m0,_,_,rfl,rfl,?_⟩
  obtain ⟨many,hn1,hn5,em⟩ : ∃ many : Nat,1≤many∧many≤most∧1 + x.fmod most = (many : Int) := by
    have e:=Int.fmod_eq_emod_of_nonneg x (show (0 : Int)≤(most : Int) by omega)
    have a:=Int.emod_nonneg x m0
    have b:=Int.emod_lt_of_pos x (show (0 : Int) < (most : Int) by omega)
    exact ⟨(1 + x.fmod most).toNat,by omega,by omega,by omega⟩
  rw [show ((fun i j : Int => V.int (i + j)) 1 (x.fmod most)) = V.int (many : Int) from congrArg V.int em]
  refine ⟨_,rfl,_,rfl,_,_,rfl,rfl,⟨m0,8,by decide,by omega⟩,_,_,rfl,rfl,(by show (0 : Int) < 4; decide),?_⟩
  obtain ⟨md,hmd⟩ : ∃ md,md = x.fdiv most % 4:=⟨_,rfl⟩
  refine ⟨_,rfl,_,rfl,_,_,rfl,rfl,mulC (by omega) (by omega),_,_,rfl,rfl,⟨by omega,8,by decide,by omega⟩,?_⟩
  refine ⟨sz60' (show 0≤60 by decide),fun R hR => ?_⟩
  have e1:=same_new hR (.lst [])
  have hR1 : upd H R (.lst []) R = some (.lst []):=upd_same
  generalize upd H R (.lst []) = H1 at e1 hR1
  refine ⟨_,rfl,_,_,rfl,rfl,(many : Int) + 1,rfl,by omega,by omega,for_range (n:=((many : Int) + 1).toNat) (fun i σ H' => ∃ (y : Int) (r5 r6 r7 : Option V),σ = [some (.int y),some (.int most),some (.int many),some (.int md),some (.ref R),r5,r6,r7,none,none,none]∧Same H H'∧Rows H R H' i) ?_ ?_ ?_⟩
  · subst hmd
    exact ⟨_,_,_,_,rfl,e1,rows_0 hR1⟩
  · rintro i σ H2 hi ⟨y,r5,r6,r7,rfl,e2,rs,xs,hR2,dx,hrl,hrj,hrf,_⟩
    refine ⟨sz60' (show 0≤60 by decide),fun A hA => ?_⟩
    have e3:=same_new hA (.lst [])
    have hA3 : upd H2 A (.lst []) A = some (.lst []):=upd_same
    generalize upd H2 A (.lst []) = H3 at e3 hA3
    refine ⟨_,rfl,0 + (i : Int),rfl,by omega,by omega,for_range (n:=(0 + (i : Int)).toNat) (fun j σ H' => ∃ (y : Int) (r7 : Option V),σ = [some (.int y),some (.int most),some (.int many),some (.int md),some (.ref R),some (.int (0 + (i : Int))),some (.ref A),r7,none,none,none]∧Same H2 H'∧∃ qs ys,H' A = some (.lst ys)∧DUs H' (fracsD qs) ys∧qs.length = j∧∀ q∈qs,FM.Fits q 3) ?_ ?_ ?_⟩
    · exact ⟨_,_,rfl,e3,[],[],hA3,.nil,rfl,fun _ z => (List.not_mem_nil z).elim⟩
    · rintro j σ H4 hj ⟨y,r7,rfl,e4,qs,ys,hA4,dy,hql,hqf⟩
      have hyl : ys.length = j := by rw [dy.len,fracs_len,hql]
      refine ⟨_,rfl,.inl ⟨rfl,_,SqL.of hA4⟩,_,rfl,_,_,rfl,rfl,(by show (0 : Int) < 13; decide),_,_,rfl,rfl,_,rfl,_,_,rfl,rfl,⟨by decide,by decide⟩,_,_,rfl,rfl,(by show (0 : Int) < 6; decide),_,_,rfl,rfl,?_⟩
      refine ⟨y % 13 - 6,1 + y / 13 % 6,3,rfl,by omega,by decide,by omega,fun l H5 e5 hl => ?_⟩
      have hA5:=e5 _ _ hA4
      have ft : FM.Fits (Rat.divInt (y % 13 - 6) (1 + y / 13 % 6)) 3:=.of_div (by omega) (by omega) (by omega)
      refine ⟨A,ys,_,rfl,rfl,hA5,sz60 (n:=60) (by omega) (by decide),?_⟩
      refine ⟨_,rfl,_,_,rfl,rfl,⟨by decide,by decide⟩,_,_,rfl,fun b o zz => ?_,qs ++ [Rat.divInt (y % 13 - 6) (1 + y / 13 % 6)],ys ++ [.ref l],upd_same,?_,by simp [hql],fun q' hq' => ?_⟩
      · rw [upd_ne (ne_of_none zz hA)]
        exact e5 _ _ (e4 _ _ zz)
      · have dn : DUs H5 (fracsD (qs ++ [Rat.divInt (y % 13 - 6) (1 + y / 13 % 6)])) (ys ++ [.ref l]) := by
          rw [fracs_app]
          exact (dy.same e5).app (.cons (du_rat hl) .nil)
        exact fracs_but hA5 .upd dn
      · rcases List.mem_append.mp hq' with h | h
        · exact hqf _ h
        · rw [List.mem_singleton.mp h]; exact ft
    · rintro σ H4 ⟨y,r7,rfl,e4,qs,ys,hA4,dy,hql,hqf⟩
      have hxl : xs.length = i := by rw [dx.len,rows_len,hrl]
      have hR4:=e4 _ _ hR2
      refine ⟨_,rfl,.inl ⟨rfl,_,SqL.of hR4⟩,_,rfl,R,xs,_,rfl,rfl,hR4,sz60 (n:=60) (by omega) (by decide),?_⟩
      refine ⟨_,_,_,_,rfl,fun b o zz => ?_,rows_step hR2 dx hrl hrj hrf (nback e2 hA) hA e4 hA4 dy (by omega) hqf⟩
      rw [upd_ne (ne_of_none zz hR)]
      exact e4 _ _ (e2 _ _ zz)
  rintro σ H2 ⟨y,r5,r6,r7,rfl,e2,rs,xs,hR2,dx,hrl,hrj,hrf,hlast⟩
  obtain ⟨rs0,xs0,qs,ys,A,rfl,rfl,hAn,nA,hA2,dy,hqf,d0,dA⟩:=hlast (by omega)
  have hl0 : rs0.length = many := by simp at hrl; omega
  have hx0 : xs0.length = many := by rw [d0.len,rows_len,hl0]
  have hql : qs.length = many:=hrj many qs (by rw [List.getElem?_append_right (by omega),hl0,Nat.sub_self]; rfl)
  have hyl : ys.length = many := by rw [dy.len,fracs_len,hql]
  refine ⟨_,rfl,.inl ⟨rfl,_,SqL.of hR2⟩,R,xs0 ++ [.ref A],.ref A,rfl,rfl,hR2,by simp,?_⟩
  rw [List.dropLast_concat]
  have u : SameBut R H2 (upd H2 R (.lst xs0)):=.upd
  have hR3 : upd H2 R (.lst xs0) R = some (.lst xs0):=upd_same
  have e3 : Same H (upd H2 R (.lst xs0)):=fun b o zz => by rw [upd_ne (ne_of_none zz hR)]; exact e2 _ _ zz
  have hA3 : upd H2 R (.lst xs0) A = some (.lst ys) := by rw [upd_ne nA]; exact hA2
  have dy:=fracs_but hR2 u dy
  have dA:=dtAll_both u dA d0
  have d0:=d0.but u
  clear dx hR2 hA2 e2 u
  generalize upd H2 R (.lst xs0) = H3 at hR3 e3 hA3 dy dA d0
  have ok : ∀ ls : List Rat,ls.length = many→(Tb.mk rs0 ls).Ok most:=fun ls hls => ⟨by show 1≤rs0.length; omega,by show rs0.length≤most; omega,by show ls.length = rs0.length; omega,fun i r hr => hrj i r (by rw [List.getElem?_append_left (List.getElem?_eq_some_iff.mp hr).1]; exact hr)⟩
  have sm0 : ∀ r∈rs0,∀ q∈r,FM.Fits q 60:=fun r hr => hrf r (List.mem_append_left _ hr)
  refine ⟨_,rfl,_,_,rfl,rfl,_,rfl,ite2 (fun c => ?_) (fun c => ?_)⟩
  · refine ⟨sz60' (show 2≤60 by decide),fun p hp => ?_⟩
    rw [rat_0]
    have e4:=same_new hp (.tup (ratV 0))
    have hp4 : upd H3 p (.tup (ratV 0)) p = some (.tup (ratV 0)):=upd_same
    generalize upd H3 p (.tup (ratV 0)) = H4 at e4 hp4
    refine ⟨_,rfl,_,rfl,_,rfl,A,ys,rfl,SqL.of (e4 _ _ hA3),fun C hC => ?_⟩
    have hcl : (cutV ys none (some (-1))).length≤5:=Nat.le_trans (cutV_length _ _ _) (by omega)
    have hcm : ∀ x∈cutV ys none (some (-1)),x∈ys:=fun x hx => cut_mem hx
    generalize cutV ys none (some (-1)) = cs at hcl hcm
    have e5:=same_new hC (.lst cs)
    have hC5 : upd H4 C (.lst cs) C = some (.lst cs):=upd_same
    generalize upd H4 C (.lst cs) = H5 at e5 hC5
    refine ⟨C,rfl,⟨_,SqL.of hC5⟩,for_list (xs:=cs) (fun i σ H' => ∃ (l : Addr) (t : Rat) (r10 : Option V),σ = [some (.int y),some (.int most),some (.int many),some (.int md),some (.ref R),r5,r6,r7,some (.ref A),some (.ref l),r10]∧Same H5 H'∧H' l = some (.tup (ratV t))∧FM.Fits t (4 + 5 * i)) ?_ ?_ ?_ ?_⟩
    · exact ⟨p,0,_,rfl,.refl _,e5 _ _ hp4,fits_0⟩
    · rintro i σ H6 _ ⟨l,t,r10,rfl,e6,_⟩
      exact SqL.of (e6 _ _ hC5)
    · rintro i v σ H6 hx ⟨l,t,r10,rfl,e6,hl,ft⟩
      have hi : i < cs.length:=(List.getElem?_eq_some_iff.mp hx).1
      obtain ⟨j,hj⟩:=List.getElem?_of_mem (hcm v (List.mem_of_getElem? hx))
      obtain ⟨q',pq,rfl,hq',hpq⟩:=fracs_get dy hj
      have E6:=e4.trans (e5.trans e6)
      have f':=hqf q' (List.mem_of_getElem? hq')
      refine ⟨_,rfl,_,rfl,_,_,t,q',40,rfl,Rt.of hl,Rt.of (E6 _ _ hpq),ft.mono (by omega),f'.mono (by decide),by decide,trivial,fun l2 H7 e7 hl2 => ?_⟩
      exact ⟨l2,_,_,rfl,e6.trans e7,hl2,(ft.sum f').mono (by omega)⟩
    · rintro σ H6 ⟨l,t,r10,rfl,e6,hl,ft⟩
      have E6:=e4.trans (e5.trans e6)
      refine ⟨sz60' (show 2≤60 by decide),fun p1 hp1 => ?_⟩
      rw [rat_1]
      have e7:=same_new hp1 (.tup (ratV 1))
      have h7 : upd H6 p1 (.tup (ratV 1)) p1 = some (.tup (ratV 1)):=upd_same
      generalize upd H6 p1 (.tup (ratV 1)) = H7 at e7 h7
      refine ⟨_,rfl,_,_,_,_,rfl,rfl,SqT.of (e7 _ _ hl),rfl,_,_,rfl,rfl,_,rfl,_,_,_,_,rfl,rfl,SqT.of (e7 _ _ hl),rfl,sz60' (show 2≤60 by decide),fun p2 hp2 => ?_⟩
      have hw : ([V.int (0 - t.num),V.int (t.den : Int)] : List V) = ratV (-t):=rat_neg t
      first
        | rw [hw]
        | skip
      have e8:=same_new hp2 (.tup (ratV (-t)))
      have h8 : upd H7 p2 (.tup (ratV (-t))) p2 = some (.tup (ratV (-t))):=upd_same
      generalize upd H7 p2 (.tup (ratV (-t))) = H8 at e8 h8
      have ft : FM.Fits t 40:=ft.mono (by omega)
      refine ⟨_,_,1,-t,40,rfl,Rt.of (e8 _ _ h7),Rt.of h8,fits_1.mono (by decide),fits_neg ft,by decide,trivial,fun l2 H9 e9 hl2 => ?_⟩
      have E9:=E6.trans (e7.trans (e8.trans e9))
      have hA9:=E9 _ _ hA3
      have ft2 : FM.Fits (1 + -t) 60:=(fits_1.sum (fits_neg ft)).mono (by decide)
      refine ⟨_,rfl,_,rfl,A,ys,-1,many - 1,rfl,rfl,hA9,?_,?_⟩
      · unfold ixN
        rw [if_neg (by decide),if_pos (by omega)]
        congr 1
        omega
      have u : SameBut A H9 (upd H9 A (.lst (ys.set (many - 1) (.ref l2)))):=.upd
      have hA10 : upd H9 A (.lst (ys.set (many - 1) (.ref l2))) A = some (.lst (ys.set (many - 1) (.ref l2))):=upd_same
      have hR10 : upd H9 A (.lst (ys.set (many - 1) (.ref l2))) R = some (.lst xs0) := by rw [upd_ne nA.symm]; exact E9 _ _ hR3
      have d10 : DUs (upd H9 A (.lst (ys.set (many - 1) (.ref l2)))) (rowsD rs0) xs0:=dtAll_du ((dA.same E9).but u)
      have dn : DUs H9 (fracsD (qs.set (many - 1) (1 + -t))) (ys.set (many - 1) (.ref l2)) := by
        rw [fracsD,List.map_set]
        exact DUs.set (du_rat hl2) (dy.same E9)
      have dn:=fracs_but hA9 u dn
      have e10 : Same H (upd H9 A (.lst (ys.set (many - 1) (.ref l2)))):=fun b o zz => by rw [upd_ne (ne_of_none zz hAn)]; exact E9 _ _ (e3 _ _ zz)
      generalize upd H9 A (.lst (ys.set (many - 1) (.ref l2))) = H10 at hA10 hR10 d10 dn e10
      refine ⟨_,rfl,_,rfl,sz60' (show 2≤60 by decide),fun t0 ht => ?_⟩
      have e11:=same_new ht (.tup [V.ref R,V.ref A])
      have h11 : upd H10 t0 (.tup [V.ref R,V.ref A]) t0 = some (.tup [V.ref R,V.ref A]):=upd_same
      generalize upd H10 t0 (.tup [V.ref R,V.ref A]) = H11 at e11 h11
      refine q _ H11 ⟨rs0,qs.set (many - 1) (1 + -t)⟩ (e10.trans e11) (du_tab h11 (e11 _ _ hR10) (d10.same e11) (e11 _ _ hA10) (dn.same e11)) (ok _ (by rw [List.length_set]; exact hql)) ⟨sm0,fun q' hq' => ?_⟩
      rcases List.mem_or_eq_of_mem_set hq' with h | rfl
      · exact (hqf q' h).mono (by decide)
      · exact ft2
  · refine ⟨_,rfl,_,rfl,sz60' (show 2≤60 by decide),fun t0 ht => ?_⟩
    have e11:=same_new ht (.tup [V.ref R,V.ref A])
    have h11 : upd H3 t0 (.tup [V.ref R,V.ref A]) t0 = some (.tup [V.ref R,V.ref A]):=upd_same
    generalize upd H3 t0 (.tup [V.ref R,V.ref A]) = H11 at e11 h11
    exact q _ H11 ⟨rs0,qs⟩ (e3.trans e11) (du_tab h11 (e11 _ _ hR3) ((dtAll_du d0).same e11) (e11 _ _ hA3) (dy.same e11)) (ok _ hql) ⟨sm0,fun q' hq' => (hqf q' hq').mono (by decide)⟩
end
section
variable {P : Program} {w : World} {K : PySem.W.Frag} {mg : Str→Option Value} {base : Heap} {f : Addr} {fd : FuncData}
theorem sy_refuse_no_table : FnScope ["thing"] ["thing"] (defScope s_refuse_no_table):=⟨rfl,rfl,rfl,by decide +kernel,rfl,by decide +kernel,by decide +kernel⟩
def J_refuse_no_table (m_is_table : List PyData→Option PyData) (C_NoTable : Addr) : DFX :=
  (xIf (bNot (bVal (fCall m_is_table (fCons (nm 0) fNil))))
    (xRaise C_NoTable (fC (.str (Str.ofString "a table is a tuple of rows, the k-th of k fractions, and a last of as many as there are rows"))))
    (fun δ => some (.inl (.nx δ))))
def m_refuse_no_table (m_is_table : List PyData→Option PyData) (C_NoTable : Addr) : List PyData→Option Xr:=retX ["thing"] ["thing"] (J_refuse_no_table m_is_table C_NoTable)
theorem ob_refuse_no_table {k : Nat} {m_is_table : List PyData→Option PyData} {C_NoTable : Addr}
    {f_is_table : Addr} {fd_is_table : FuncData} (T_is_table : Fn K mg "is_table" s_is_table ["thing"] f_is_table fd_is_table) (G_is_table : FnOk P w K mg base CX0 k f_is_table fd_is_table ["thing"] (spD m_is_table)) (X_NoTable : Exc K mg "NoTable" C_NoTable) (cdv : Value) (A : Around) (outer : List Env) (s : Shared) (H : Hp) (E : XK) (hr : Room k (A.deeper (PyProof.Rows.envOfC "refuse_no_table" (defScope s_refuse_no_table) s.heap.objs.size f cdv))) :
    DXs (cxOf (CXW P w) P w K mg base ["thing"] "refuse_no_table" (defScope s_refuse_no_table) f cdv A outer s H E) E (defBody s_refuse_no_table) (J_refuse_no_table m_is_table C_NoTable) := by
  have sc:=sy_refuse_no_table
  exact (dxs_one (dx_if (dt_not (dt_val (de_call T_is_table G_is_table hr rfl (da_cons (de_var (pv 0)) da_nil))))
    (dxs_one (by exact dx_raise X_NoTable letsX de_str))
    dxs_nil))
theorem ox_refuse_no_table {k : Nat} {m_is_table : List PyData→Option PyData} {C_NoTable : Addr} (F : Fn K mg "refuse_no_table" s_refuse_no_table ["thing"] f fd)
    {f_is_table : Addr} {fd_is_table : FuncData} (T_is_table : Fn K mg "is_table" s_is_table ["thing"] f_is_table fd_is_table) (G_is_table : FnOk P w K mg base CX0 k f_is_table fd_is_table ["thing"] (spD m_is_table)) (X_NoTable : Exc K mg "NoTable" C_NoTable) :
    FnOk P w K mg base (CXW P w) (k + 1) f fd ["thing"] (spX (m_refuse_no_table m_is_table C_NoTable)):=okX F sy_refuse_no_table (ob_refuse_no_table T_is_table G_is_table X_NoTable)
theorem sy_refuse_too_many_rows : FnScope ["tables"] ["tables"] (defScope s_refuse_too_many_rows):=⟨rfl,rfl,rfl,by decide +kernel,rfl,by decide +kernel,by decide +kernel⟩
def J_refuse_too_many_rows (C_TooMany : Addr) : DFX :=
  (xIf (bCmp (iCmp fun i j => decide (j < i)) (fCall dSum (fCons (compD (set1 1) bYes (fCall dLen (fCons (op2 dIx (nm 1) (fC (.int 0))) fNil)) [none,none] (iSeq (nm 0))) fNil)) (fC (.int 40)))
    (xRaise C_TooMany (fC (.str (Str.ofString "a table has at most 40 rows"))))
    (fun δ => some (.inl (.nx δ))))
def m_refuse_too_many_rows (C_TooMany : Addr) : List PyData→Option Xr:=retX ["tables"] ["tables"] (J_refuse_too_many_rows C_TooMany)
theorem ob_refuse_too_many_rows {k : Nat} {C_TooMany : Addr} (z_len : mg "len" = none) (z_sum : mg "sum" = none) {tk_MOST_ROWS : Tok} (m_MOST_ROWS : mg "MOST_ROWS" = some (.int 40 tk_MOST_ROWS)) (X_TooMany : Exc K mg "TooMany" C_TooMany) (cdv : Value) (A : Around) (outer : List Env) (s : Shared) (H : Hp) (E : XK) (hr : Room k (A.deeper (PyProof.Rows.envOfC "refuse_too_many_rows" (defScope s_refuse_too_many_rows) s.heap.objs.size f cdv))) :
    DXs (cxOf (CXW P w) P w K mg base ["tables"] "refuse_too_many_rows" (defScope s_refuse_too_many_rows) f cdv A outer s H E) E (defBody s_refuse_too_many_rows) (J_refuse_too_many_rows C_TooMany) := by
  have sc:=sy_refuse_too_many_rows
  exact (dxs_one (dx_if (dt_cmp do_gt (de_callB (dc_sum rfl) rfl z_sum PyProof.Rows.boot_sum (da_cons (de_comp [".0", "table"] 1 [none,none] (di_seq (de_var (pv 0))) (fun _ _ _ _ _ => dif_nil) (fun _ _ _ _ _ => (de_callB dc_len rfl z_len PySem.boot_len (da_cons (de_ix (de_var (pv 1)) de_int (fun _ _ => rfl)) da_nil)))) da_nil)) (de_globI rfl m_MOST_ROWS) (nomark _))
    (dxs_one (by exact dx_raise X_TooMany letsX de_str))
    dxs_nil))
theorem ox_refuse_too_many_rows {k : Nat} {C_TooMany : Addr} (F : Fn K mg "refuse_too_many_rows" s_refuse_too_many_rows ["tables"] f fd) (z_len : mg "len" = none) (z_sum : mg "sum" = none) {tk_MOST_ROWS : Tok} (m_MOST_ROWS : mg "MOST_ROWS" = some (.int 40 tk_MOST_ROWS)) (X_TooMany : Exc K mg "TooMany" C_TooMany) :
    FnOk P w K mg base (CXW P w) (k + 1) f fd ["tables"] (spX (m_refuse_too_many_rows C_TooMany)):=okX F sy_refuse_too_many_rows (ob_refuse_too_many_rows z_len z_sum m_MOST_ROWS X_TooMany)
theorem sy_scaled : FnScope ["row", "part"] ["row", "part"] (defScope s_scaled):=⟨rfl,rfl,rfl,by decide +kernel,rfl,by decide +kernel,by decide +kernel⟩
def F_scaled (m_frac_times : List PyData→Option PyData) : DF :=
  (sRetL (compL (set1 1) bYes (fCall m_frac_times (fCons (nm 1) (fCons (nm 2) fNil))) [none,none,some 1] (iSeq (nm 0))))
def m_scaled (m_frac_times : List PyData→Option PyData) : List PyData→Option PyData:=retD ["row", "part"] ["row", "part"] (F_scaled m_frac_times)
theorem ob_scaled {k : Nat} {m_frac_times : List PyData→Option PyData}
    {f_frac_times : Addr} {fd_frac_times : FuncData} (T_frac_times : Fn K mg "frac_times" s_frac_times ["one", "other"] f_frac_times fd_frac_times) (G_frac_times : FnOk P w K mg base CX0 k f_frac_times fd_frac_times ["one", "other"] (spD m_frac_times)) (cdv : Value) (A : Around) (outer : List Env) (s : Shared) (H : Hp) (E : XK) (hr : Room k (A.deeper (PyProof.Rows.envOfC "scaled" (defScope s_scaled) s.heap.objs.size f cdv))) :
    DSs (cxOf CX0 P w K mg base ["row", "part"] "scaled" (defScope s_scaled) f cdv A outer s H E).nox (defBody s_scaled) (F_scaled m_frac_times) := by
  have sc:=sy_scaled
  exact (dss_one (ds_retC [".0", "one", "part"] 1 [none,none,some 1] (di_seq (de_var (pv 0))) (fun _ _ _ _ _ => dif_nil) (fun _ _ _ _ _ => (de_call T_frac_times G_frac_times hr rfl (da_cons (de_var (pv 1)) (da_cons (de_var (pv 2)) da_nil))))))
theorem od_scaled {k : Nat} {m_frac_times : List PyData→Option PyData} (F : Fn K mg "scaled" s_scaled ["row", "part"] f fd)
    {f_frac_times : Addr} {fd_frac_times : FuncData} (T_frac_times : Fn K mg "frac_times" s_frac_times ["one", "other"] f_frac_times fd_frac_times) (G_frac_times : FnOk P w K mg base CX0 k f_frac_times fd_frac_times ["one", "other"] (spD m_frac_times)) :
    FnOk P w K mg base CX0 (k + 1) f fd ["row", "part"] (spD (m_scaled m_frac_times)):=okD F sy_scaled (ob_scaled T_frac_times G_frac_times)
theorem sy_table_behind : FnScope ["one", "other", "rows"] ["one", "other"] (defScope s_table_behind):=⟨rfl,rfl,rfl,by decide +kernel,rfl,by decide +kernel,by decide +kernel⟩
def J_table_behind (m_refuse_no_table : List PyData→Option Xr) (m_refuse_too_many_rows : List PyData→Option Xr) : DFX :=
  (seqX (xCall m_refuse_no_table (fCons (nm 0) fNil) fun _ δ => .nx δ)
  (seqX (xCall m_refuse_no_table (fCons (nm 1) fNil) fun _ δ => .nx δ)
  (seqX (xCall m_refuse_too_many_rows (fCons (fLst (fCons (nm 0) (fCons (nm 1) fNil))) fNil) fun _ δ => .nx δ)
  (xOf (seqD (sSet 2 (op2 dAdd (compD (set1 1) bYes (fCall dListOf (fCons (nm 1) fNil)) [none,none] (iSeq (op2 dIx (nm 0) (fC (.int 0))))) (compD (set1 1) bYes (op2 dAdd (op2 dIx (nm 2) (fC (.int 1))) (nm 1)) [none,none,some 0] (iSeq (op2 dIx (nm 1) (fC (.int 0)))))))
  (sRet (fTup (fCons (nm 2) (fCons (op2 dAdd (op2 dIx (nm 0) (fC (.int 1))) (op2 dIx (nm 1) (fC (.int 1)))) fNil)))))))))
def m_table_behind (m_refuse_no_table : List PyData→Option Xr) (m_refuse_too_many_rows : List PyData→Option Xr) : List PyData→Option Xr:=retX ["one", "other"] ["one", "other", "rows"] (J_table_behind m_refuse_no_table m_refuse_too_many_rows)
theorem ob_table_behind {k : Nat} {m_refuse_no_table : List PyData→Option Xr} {m_refuse_too_many_rows : List PyData→Option Xr}
    {f_refuse_no_table : Addr} {fd_refuse_no_table : FuncData} (T_refuse_no_table : Fn K mg "refuse_no_table" s_refuse_no_table ["thing"] f_refuse_no_table fd_refuse_no_table) (G_refuse_no_table : FnOk P w K mg base (CXW P w) k f_refuse_no_table fd_refuse_no_table ["thing"] (spX m_refuse_no_table))
    {f_refuse_too_many_rows : Addr} {fd_refuse_too_many_rows : FuncData} (T_refuse_too_many_rows : Fn K mg "refuse_too_many_rows" s_refuse_too_many_rows ["tables"] f_refuse_too_many_rows fd_refuse_too_many_rows) (G_refuse_too_many_rows : FnOk P w K mg base (CXW P w) k f_refuse_too_many_rows fd_refuse_too_many_rows ["tables"] (spX m_refuse_too_many_rows)) (z_list : mg "list" = none) (cdv : Value) (A : Around) (outer : List Env) (s : Shared) (H : Hp) (E : XK) (hr : Room k (A.deeper (PyProof.Rows.envOfC "table_behind" (defScope s_table_behind) s.heap.objs.size f cdv))) :
    DXs (cxOf (CXW P w) P w K mg base ["one", "other", "rows"] "table_behind" (defScope s_table_behind) f cdv A outer s H E) E (defBody s_table_behind) (J_table_behind m_refuse_no_table m_refuse_too_many_rows) := by
  have sc:=sy_table_behind
  exact (dxs_cons (by exact dx_call T_refuse_no_table G_refuse_no_table hr passX (by exact (da_cons (de_var (pv 0)) da_nil)) (fun h => ps_expr h))
  (dxs_cons (by exact dx_call T_refuse_no_table G_refuse_no_table hr passX (by exact (da_cons (de_var (pv 1)) da_nil)) (fun h => ps_expr h))
  (dxs_cons (by exact dx_call T_refuse_too_many_rows G_refuse_too_many_rows hr passX (by exact (da_cons (de_lst (da_cons (de_var (pv 0)) (da_cons (de_var (pv 1)) da_nil))) da_nil)) (fun h => ps_expr h))
  (dxs_of (dss_cons (ds_set (i:=2) sc.nd rfl (Or.inl rfl) (de_op do_add (de_comp [".0", "row"] 1 [none,none] (di_seq (de_ix (de_var (pv 0)) de_int (fun _ _ => rfl))) (fun _ _ _ _ _ => dif_nil) (fun _ _ _ _ _ => (de_callTy dc_list rfl z_list PyProof.Rows.boot_list (da_cons (de_var (pv 1)) da_nil)))) (de_comp [".0", "row", "one"] 1 [none,none,some 0] (di_seq (de_ix (de_var (pv 1)) de_int (fun _ _ => rfl))) (fun _ _ _ _ _ => dif_nil) (fun _ _ _ _ _ => (de_op do_add (de_ix (de_var (pv 2)) de_int (fun _ _ => rfl)) (de_var (pv 1)))))))
  (dss_one (ds_ret (de_tup (da_cons (de_var (pv 2)) (da_cons (de_op do_add (de_ix (de_var (pv 0)) de_int (fun _ _ => rfl)) (de_ix (de_var (pv 1)) de_int (fun _ _ => rfl))) da_nil))))))))))
theorem ox_table_behind {k : Nat} {m_refuse_no_table : List PyData→Option Xr} {m_refuse_too_many_rows : List PyData→Option Xr} (F : Fn K mg "table_behind" s_table_behind ["one", "other"] f fd)
    {f_refuse_no_table : Addr} {fd_refuse_no_table : FuncData} (T_refuse_no_table : Fn K mg "refuse_no_table" s_refuse_no_table ["thing"] f_refuse_no_table fd_refuse_no_table) (G_refuse_no_table : FnOk P w K mg base (CXW P w) k f_refuse_no_table fd_refuse_no_table ["thing"] (spX m_refuse_no_table))
    {f_refuse_too_many_rows : Addr} {fd_refuse_too_many_rows : FuncData} (T_refuse_too_many_rows : Fn K mg "refuse_too_many_rows" s_refuse_too_many_rows ["tables"] f_refuse_too_many_rows fd_refuse_too_many_rows) (G_refuse_too_many_rows : FnOk P w K mg base (CXW P w) k f_refuse_too_many_rows fd_refuse_too_many_rows ["tables"] (spX m_refuse_too_many_rows)) (z_list : mg "list" = none) :
    FnOk P w K mg base (CXW P w) (k + 1) f fd ["one", "other"] (spX (m_table_behind m_refuse_no_table m_refuse_too_many_rows)):=okX F sy_table_behind (ob_table_behind T_refuse_no_table G_refuse_no_table T_refuse_too_many_rows G_refuse_too_many_rows z_list)
theorem sy_table_shrunk : FnScope ["table", "part"] ["table", "part"] (defScope s_table_shrunk):=⟨rfl,rfl,rfl,by decide +kernel,rfl,by decide +kernel,by decide +kernel⟩
def J_table_shrunk (m_refuse_no_table : List PyData→Option Xr) (m_scaled : List PyData→Option PyData) : DFX :=
  (seqX (xCall m_refuse_no_table (fCons (nm 0) fNil) fun _ δ => .nx δ)
  (xOf (sRet (fTup (fCons (compD (set1 1) bYes (fCall m_scaled (fCons (nm 1) (fCons (nm 2) fNil))) [none,none,some 1] (iSeq (op2 dIx (nm 0) (fC (.int 0))))) (fCons (fCall m_scaled (fCons (op2 dIx (nm 0) (fC (.int 1))) (fCons (nm 1) fNil))) fNil))))))
def m_table_shrunk (m_refuse_no_table : List PyData→Option Xr) (m_scaled : List PyData→Option PyData) : List PyData→Option Xr:=retX ["table", "part"] ["table", "part"] (J_table_shrunk m_refuse_no_table m_scaled)
theorem ob_table_shrunk {k : Nat} {m_refuse_no_table : List PyData→Option Xr} {m_scaled : List PyData→Option PyData}
    {f_refuse_no_table : Addr} {fd_refuse_no_table : FuncData} (T_refuse_no_table : Fn K mg "refuse_no_table" s_refuse_no_table ["thing"] f_refuse_no_table fd_refuse_no_table) (G_refuse_no_table : FnOk P w K mg base (CXW P w) k f_refuse_no_table fd_refuse_no_table ["thing"] (spX m_refuse_no_table))
    {f_scaled : Addr} {fd_scaled : FuncData} (T_scaled : Fn K mg "scaled" s_scaled ["row", "part"] f_scaled fd_scaled) (G_scaled : FnOk P w K mg base CX0 k f_scaled fd_scaled ["row", "part"] (spD m_scaled)) (cdv : Value) (A : Around) (outer : List Env) (s : Shared) (H : Hp) (E : XK) (hr : Room k (A.deeper (PyProof.Rows.envOfC "table_shrunk" (defScope s_table_shrunk) s.heap.objs.size f cdv))) :
    DXs (cxOf (CXW P w) P w K mg base ["table", "part"] "table_shrunk" (defScope s_table_shrunk) f cdv A outer s H E) E (defBody s_table_shrunk) (J_table_shrunk m_refuse_no_table m_scaled) := by
  have sc:=sy_table_shrunk
  exact (dxs_cons (by exact dx_call T_refuse_no_table G_refuse_no_table hr passX (by exact (da_cons (de_var (pv 0)) da_nil)) (fun h => ps_expr h))
  (dxs_of (dss_one (ds_ret (de_tup (da_cons (de_comp [".0", "row", "part"] 1 [none,none,some 1] (di_seq (de_ix (de_var (pv 0)) de_int (fun _ _ => rfl))) (fun _ _ _ _ _ => dif_nil) (fun _ _ _ _ _ => (de_call T_scaled G_scaled hr rfl (da_cons (de_var (pv 1)) (da_cons (de_var (pv 2)) da_nil))))) (da_cons (de_call T_scaled G_scaled hr rfl (da_cons (de_ix (de_var (pv 0)) de_int (fun _ _ => rfl)) (da_cons (de_var (pv 1)) da_nil))) da_nil)))))))
theorem ox_table_shrunk {k : Nat} {m_refuse_no_table : List PyData→Option Xr} {m_scaled : List PyData→Option PyData} (F : Fn K mg "table_shrunk" s_table_shrunk ["table", "part"] f fd)
    {f_refuse_no_table : Addr} {fd_refuse_no_table : FuncData} (T_refuse_no_table : Fn K mg "refuse_no_table" s_refuse_no_table ["thing"] f_refuse_no_table fd_refuse_no_table) (G_refuse_no_table : FnOk P w K mg base (CXW P w) k f_refuse_no_table fd_refuse_no_table ["thing"] (spX m_refuse_no_table))
    {f_scaled : Addr} {fd_scaled : FuncData} (T_scaled : Fn K mg "scaled" s_scaled ["row", "part"] f_scaled fd_scaled) (G_scaled : FnOk P w K mg base CX0 k f_scaled fd_scaled ["row", "part"] (spD m_scaled)) :
    FnOk P w K mg base (CXW P w) (k + 1) f fd ["table", "part"] (spX (m_table_shrunk m_refuse_no_table m_scaled)):=okX F sy_table_shrunk (ob_table_shrunk T_refuse_no_table G_refuse_no_table T_scaled G_scaled)
theorem sy_table_mixed : FnScope ["tables", "parts", "table", "rows", "last", "part", "unread"] ["tables", "parts"] (defScope s_table_mixed):=⟨rfl,rfl,rfl,by decide +kernel,rfl,by decide +kernel,by decide +kernel⟩
def J_table_mixed (m_refuse_no_table : List PyData→Option Xr) (m_refuse_too_many_rows : List PyData→Option Xr) (m_scaled : List PyData→Option PyData) (C_NoParts : Addr) : DFX :=
  (seqX (xFor (iSeq (nm 0)) (setN 2)
    (xCall m_refuse_no_table (fCons (nm 2) fNil) fun _ δ => .nx δ))
  (seqX (xIf (bOr (bCmp (dEq false) (fCall dLen (fCons (nm 0) fNil)) (fC (.int 0))) (bCmp (dEq true) (fCall dLen (fCons (nm 0) fNil)) (fCall dLen (fCons (nm 1) fNil))))
    (xRaise C_NoParts (fC (.str (Str.ofString "tables are mixed with a part for each, and one at least"))))
    (fun δ => some (.inl (.nx δ))))
  (seqX (xCall m_refuse_too_many_rows (fCons (nm 0) fNil) fun _ δ => .nx δ)
  (xOf (seqD (sOwn 3 fNil)
  (seqD (sOwn 4 fNil)
  (seqD (sFor (iCall zip2 (fCons (nm 0) (fCons (nm 1) fNil))) (set2 2 5)
    (seqD (sSet 6 (op2 dMul (fLst (fCons (fTup (fCons (fC (.int 0)) (fCons (fC (.int 1)) fNil))) fNil)) (fLenOwn 4)))
    (seqD (sExt 3 (compD (set1 1) bYes (op2 dAdd (nm 2) (nm 1)) [none,none,some 6] (iSeq (op2 dIx (nm 2) (fC (.int 0))))))
    (sExt 4 (fCall m_scaled (fCons (op2 dIx (nm 2) (fC (.int 1))) (fCons (nm 5) fNil)))))))
  (sFrz 4 (sFrz 3 (sRet (fTup (fCons (nm 3) (fCons (nm 4) fNil)))))))))))))
def m_table_mixed (m_refuse_no_table : List PyData→Option Xr) (m_refuse_too_many_rows : List PyData→Option Xr) (m_scaled : List PyData→Option PyData) (C_NoParts : Addr) : List PyData→Option Xr:=retX ["tables", "parts"] ["tables", "parts", "table", "rows", "last", "part", "unread"] (J_table_mixed m_refuse_no_table m_refuse_too_many_rows m_scaled C_NoParts)
theorem ob_table_mixed {k : Nat} {m_refuse_no_table : List PyData→Option Xr} {m_refuse_too_many_rows : List PyData→Option Xr} {m_scaled : List PyData→Option PyData} {C_NoParts : Addr}
    {f_refuse_no_table : Addr} {fd_refuse_no_table : FuncData} (T_refuse_no_table : Fn K mg "refuse_no_table" s_refuse_no_table ["thing"] f_refuse_no_table fd_refuse_no_table) (G_refuse_no_table : FnOk P w K mg base (CXW P w) k f_refuse_no_table fd_refuse_no_table ["thing"] (spX m_refuse_no_table))
    {f_refuse_too_many_rows : Addr} {fd_refuse_too_many_rows : FuncData} (T_refuse_too_many_rows : Fn K mg "refuse_too_many_rows" s_refuse_too_many_rows ["tables"] f_refuse_too_many_rows fd_refuse_too_many_rows) (G_refuse_too_many_rows : FnOk P w K mg base (CXW P w) k f_refuse_too_many_rows fd_refuse_too_many_rows ["tables"] (spX m_refuse_too_many_rows))
    {f_scaled : Addr} {fd_scaled : FuncData} (T_scaled : Fn K mg "scaled" s_scaled ["row", "part"] f_scaled fd_scaled) (G_scaled : FnOk P w K mg base CX0 k f_scaled fd_scaled ["row", "part"] (spD m_scaled)) (z_len : mg "len" = none) (z_zip : mg "zip" = none) (X_NoParts : Exc K mg "NoParts" C_NoParts) (cdv : Value) (A : Around) (outer : List Env) (s : Shared) (H : Hp) (E : XK) (hr : Room k (A.deeper (PyProof.Rows.envOfC "table_mixed" (defScope s_table_mixed) s.heap.objs.size f cdv))) :
    DXs (cxOf (CXW P w) P w K mg base ["tables", "parts", "table", "rows", "last", "part", "unread"] "table_mixed" (defScope s_table_mixed) f cdv A outer s H E) E (defBody s_table_mixed) (J_table_mixed m_refuse_no_table m_refuse_too_many_rows m_scaled C_NoParts) := by
  have sc:=sy_table_mixed
  exact (dxs_cons (dx_for PassesOwn.leaving rfl (by exact (di_seq (de_var (pv 0)))) (by exact (dg_name (pg_name (i:=2) sc.nd rfl (Or.inl rfl))))
    (dxs_one (by exact dx_call T_refuse_no_table G_refuse_no_table hr passX (by exact (da_cons (de_var (pv 2)) da_nil)) (fun h => ps_expr h))))
  (dxs_cons (dx_if (DW.dt (dw_or (dt_cmp (do_eq (by have:=hr.units; exact this)) (de_callB dc_len rfl z_len PySem.boot_len (da_cons (de_var (pv 0)) da_nil)) de_int (nomark _)) (dw_one (dt_cmp (do_ne (by have:=hr.units; exact this)) (de_callB dc_len rfl z_len PySem.boot_len (da_cons (de_var (pv 0)) da_nil)) (de_callB dc_len rfl z_len PySem.boot_len (da_cons (de_var (pv 1)) da_nil)) (nomark _)))))
    (dxs_one (by exact dx_raise X_NoParts letsX de_str))
    dxs_nil)
  (dxs_cons (by exact dx_call T_refuse_too_many_rows G_refuse_too_many_rows hr passX (by exact (da_cons (de_var (pv 0)) da_nil)) (fun h => ps_expr h))
  (dxs_of (dss_cons (ds_own (i:=3) sc.nd rfl (Or.inl rfl) da_nil)
  (dss_cons (ds_own (i:=4) sc.nd rfl (Or.inl rfl) da_nil)
  (dss_cons (ds_for PassesOwn.never rfl (di_zip rfl z_zip (da_cons (de_var (pv 0)) (da_cons (de_var (pv 1)) da_nil))) (dg_two (pg_tup rfl (pgs_cons (pg_name (i:=2) sc.nd rfl (Or.inl rfl)) (pgs_cons (pg_name (i:=5) sc.nd rfl (Or.inl rfl)) pgs_nil))))
    (dss_cons (ds_set (i:=6) sc.nd rfl (Or.inr rfl) (de_op do_mul (de_lst (da_cons (de_tup (da_cons de_int (da_cons de_int da_nil))) da_nil)) (de_lenOwn (pv 4) rfl z_len)))
    (dss_cons (ds_extend (pv 3) (de_comp [".0", "row", "unread"] 1 [none,none,some 6] (di_seq (de_ix (de_var (pv 2)) de_int (fun _ _ => rfl))) (fun _ _ _ _ _ => dif_nil) (fun _ _ _ _ _ => (de_op do_add (de_var (pv 2)) (de_var (pv 1))))) (fun ho ha => ps_expr (pe_bm PySem.F.plainAttrs_list PySem.F.slot_list_extend PySem.F.type_list_extend mt_extend ho ha)))
    (dss_one (ds_extend (pv 4) (de_call T_scaled G_scaled hr rfl (da_cons (de_ix (de_var (pv 2)) de_int (fun _ _ => rfl)) (da_cons (de_var (pv 5)) da_nil))) (fun ho ha => ps_expr (pe_bm PySem.F.plainAttrs_list PySem.F.slot_list_extend PySem.F.type_list_extend mt_extend ho ha)))))))
  (dss_one (ds_frz 4 (ds_frz 3 (ds_ret (de_tup (da_cons (de_var (pv 3)) (da_cons (de_var (pv 4)) da_nil))))))))))))))
theorem ox_table_mixed {k : Nat} {m_refuse_no_table : List PyData→Option Xr} {m_refuse_too_many_rows : List PyData→Option Xr} {m_scaled : List PyData→Option PyData} {C_NoParts : Addr} (F : Fn K mg "table_mixed" s_table_mixed ["tables", "parts"] f fd)
    {f_refuse_no_table : Addr} {fd_refuse_no_table : FuncData} (T_refuse_no_table : Fn K mg "refuse_no_table" s_refuse_no_table ["thing"] f_refuse_no_table fd_refuse_no_table) (G_refuse_no_table : FnOk P w K mg base (CXW P w) k f_refuse_no_table fd_refuse_no_table ["thing"] (spX m_refuse_no_table))
    {f_refuse_too_many_rows : Addr} {fd_refuse_too_many_rows : FuncData} (T_refuse_too_many_rows : Fn K mg "refuse_too_many_rows" s_refuse_too_many_rows ["tables"] f_refuse_too_many_rows fd_refuse_too_many_rows) (G_refuse_too_many_rows : FnOk P w K mg base (CXW P w) k f_refuse_too_many_rows fd_refuse_too_many_rows ["tables"] (spX m_refuse_too_many_rows))
    {f_scaled : Addr} {fd_scaled : FuncData} (T_scaled : Fn K mg "scaled" s_scaled ["row", "part"] f_scaled fd_scaled) (G_scaled : FnOk P w K mg base CX0 k f_scaled fd_scaled ["row", "part"] (spD m_scaled)) (z_len : mg "len" = none) (z_zip : mg "zip" = none) (X_NoParts : Exc K mg "NoParts" C_NoParts) :
    FnOk P w K mg base (CXW P w) (k + 1) f fd ["tables", "parts"] (spX (m_table_mixed m_refuse_no_table m_refuse_too_many_rows m_scaled C_NoParts)):=okX F sy_table_mixed (ob_table_mixed T_refuse_no_table G_refuse_no_table T_refuse_too_many_rows G_refuse_too_many_rows T_scaled G_scaled z_len z_zip X_NoParts)
theorem sy_table_sharpened : FnScope ["table", "order", "halved", "power", "parts"] ["table", "order"] (defScope s_table_sharpened):=⟨rfl,rfl,rfl,by decide +kernel,rfl,by decide +kernel,by decide +kernel⟩
def J_table_sharpened (m_fraction_of : List PyData→Option PyData) (m_power_of : List PyData→Option PyData) (m_refuse_no_table : List PyData→Option Xr) (m_table_behind : List PyData→Option Xr) (m_table_mixed : List PyData→Option Xr) (m_table_shrunk : List PyData→Option Xr) (C_TooMany : Addr) : DFX :=
  (seqX (xCall m_refuse_no_table (fCons (nm 0) fNil) fun _ δ => .nx δ)
  (seqX (xIf (bOr (bCmp (iCmp fun i j => decide (i < j)) (nm 1) (fC (.int 1))) (bCmp (iCmp fun i j => decide (j < i)) (nm 1) (fC (.int 6))))
    (xRaise C_TooMany (fC (.str (Str.ofString "tables are sharpened by the orders 1 to 6"))))
    (fun δ => some (.inl (.nx δ))))
  (seqX (xCall m_table_shrunk (fCons (nm 0) (fCons (fTup (fCons (fC (.int 1)) (fCons (fC (.int 2)) fNil))) fNil)) fun z δ => .nx (δ.set 2 (.d z)))
  (seqX (xOf (sSet 3 (fCall m_power_of (fCons (fC (.int 2)) (fCons (nm 1) fNil)))))
  (seqX (xOf (sSet 4 (fLst (fCons (fCall m_fraction_of (fCons (nm 3) (fCons (op2 iSub (nm 3) (fC (.int 1))) fNil))) (fCons (fCall m_fraction_of (fCons (fNeg (fC (.int 1))) (fCons (op2 iSub (nm 3) (fC (.int 1))) fNil))) fNil)))))
  (xE (mapX (consX (mapX (consX (mapX (aOf (fCons (nm 2) (fCons (nm 2) fNil))) m_table_behind) (aOf (fCons (nm 0) fNil))) fun xs => (few xs).map fun ys => .inl (.list ys)) (aOf (fCons (nm 4) fNil))) m_table_mixed) fun x _ => .rt x))))))
def m_table_sharpened (m_fraction_of : List PyData→Option PyData) (m_power_of : List PyData→Option PyData) (m_refuse_no_table : List PyData→Option Xr) (m_table_behind : List PyData→Option Xr) (m_table_mixed : List PyData→Option Xr) (m_table_shrunk : List PyData→Option Xr) (C_TooMany : Addr) : List PyData→Option Xr:=retX ["table", "order"] ["table", "order", "halved", "power", "parts"] (J_table_sharpened m_fraction_of m_power_of m_refuse_no_table m_table_behind m_table_mixed m_table_shrunk C_TooMany)
theorem ob_table_sharpened {k : Nat} {m_fraction_of : List PyData→Option PyData} {m_power_of : List PyData→Option PyData} {m_refuse_no_table : List PyData→Option Xr} {m_table_behind : List PyData→Option Xr} {m_table_mixed : List PyData→Option Xr} {m_table_shrunk : List PyData→Option Xr} {C_TooMany : Addr}
    {f_fraction_of : Addr} {fd_fraction_of : FuncData} (T_fraction_of : Fn K mg "fraction_of" s_fraction_of ["top", "bottom"] f_fraction_of fd_fraction_of) (G_fraction_of : FnOk P w K mg base CX0 k f_fraction_of fd_fraction_of ["top", "bottom"] (spD m_fraction_of))
    {f_power_of : Addr} {fd_power_of : FuncData} (T_power_of : Fn K mg "power_of" s_power_of ["base", "power"] f_power_of fd_power_of) (G_power_of : FnOk P w K mg base CX0 k f_power_of fd_power_of ["base", "power"] (spD m_power_of))
    {f_refuse_no_table : Addr} {fd_refuse_no_table : FuncData} (T_refuse_no_table : Fn K mg "refuse_no_table" s_refuse_no_table ["thing"] f_refuse_no_table fd_refuse_no_table) (G_refuse_no_table : FnOk P w K mg base (CXW P w) k f_refuse_no_table fd_refuse_no_table ["thing"] (spX m_refuse_no_table))
    {f_table_behind : Addr} {fd_table_behind : FuncData} (T_table_behind : Fn K mg "table_behind" s_table_behind ["one", "other"] f_table_behind fd_table_behind) (G_table_behind : FnOk P w K mg base (CXW P w) k f_table_behind fd_table_behind ["one", "other"] (spX m_table_behind))
    {f_table_mixed : Addr} {fd_table_mixed : FuncData} (T_table_mixed : Fn K mg "table_mixed" s_table_mixed ["tables", "parts"] f_table_mixed fd_table_mixed) (G_table_mixed : FnOk P w K mg base (CXW P w) k f_table_mixed fd_table_mixed ["tables", "parts"] (spX m_table_mixed))
    {f_table_shrunk : Addr} {fd_table_shrunk : FuncData} (T_table_shrunk : Fn K mg "table_shrunk" s_table_shrunk ["table", "part"] f_table_shrunk fd_table_shrunk) (G_table_shrunk : FnOk P w K mg base (CXW P w) k f_table_shrunk fd_table_shrunk ["table", "part"] (spX m_table_shrunk)) {tk_MOST_SHARPENED : Tok} (m_MOST_SHARPENED : mg "MOST_SHARPENED" = some (.int 6 tk_MOST_SHARPENED)) (X_TooMany : Exc K mg "TooMany" C_TooMany) (cdv : Value) (A : Around) (outer : List Env) (s : Shared) (H : Hp) (E : XK) (hr : Room k (A.deeper (PyProof.Rows.envOfC "table_sharpened" (defScope s_table_sharpened) s.heap.objs.size f cdv))) :
    DXs (cxOf (CXW P w) P w K mg base ["table", "order", "halved", "power", "parts"] "table_sharpened" (defScope s_table_sharpened) f cdv A outer s H E) E (defBody s_table_sharpened) (J_table_sharpened m_fraction_of m_power_of m_refuse_no_table m_table_behind m_table_mixed m_table_shrunk C_TooMany) := by
  have sc:=sy_table_sharpened
  exact (dxs_cons (by exact dx_call T_refuse_no_table G_refuse_no_table hr passX (by exact (da_cons (de_var (pv 0)) da_nil)) (fun h => ps_expr h))
  (dxs_cons (dx_if (DW.dt (dw_or (dt_cmp do_lt (de_var (pv 1)) de_int (nomark _)) (dw_one (dt_cmp do_gt (de_var (pv 1)) (de_globI rfl m_MOST_SHARPENED) (nomark _)))))
    (dxs_one (by exact dx_raise X_TooMany letsX de_str))
    dxs_nil)
  (dxs_cons (by exact dx_set (i:=2) T_table_shrunk G_table_shrunk hr passX (by exact (da_cons (de_var (pv 0)) (da_cons (de_tup (da_cons de_int (da_cons de_int da_nil))) da_nil))) sc.nd (Or.inl rfl))
  (dxs_cons (dx_of (ds_set (i:=3) sc.nd rfl (Or.inl rfl) (de_call T_power_of G_power_of hr rfl (da_cons de_int (da_cons (de_var (pv 1)) da_nil)))))
  (dxs_cons (dx_of (ds_set (i:=4) sc.nd rfl (Or.inl rfl) (de_lst (da_cons (de_call T_fraction_of G_fraction_of hr rfl (da_cons (de_var (pv 3)) (da_cons (de_op do_iSub (de_var (pv 3)) de_int) da_nil))) (da_cons (de_call T_fraction_of G_fraction_of hr rfl (da_cons (de_neg de_int) (da_cons (de_op do_iSub (de_var (pv 3)) de_int) da_nil))) da_nil)))))
  (dxs_one (by exact dx_retE (dex_call T_table_mixed G_table_mixed hr passX (dax_cons (dex_lst (dax_cons (dex_call T_table_behind G_table_behind hr passX (dax_of (by exact (da_cons (de_var (pv 2)) (da_cons (de_var (pv 2)) da_nil))))) (dax_of (by exact (da_cons (de_var (pv 0)) da_nil))))) (dax_of (by exact (da_cons (de_var (pv 4)) da_nil))))))))))))
theorem ox_table_sharpened {k : Nat} {m_fraction_of : List PyData→Option PyData} {m_power_of : List PyData→Option PyData} {m_refuse_no_table : List PyData→Option Xr} {m_table_behind : List PyData→Option Xr} {m_table_mixed : List PyData→Option Xr} {m_table_shrunk : List PyData→Option Xr} {C_TooMany : Addr} (F : Fn K mg "table_sharpened" s_table_sharpened ["table", "order"] f fd)
    {f_fraction_of : Addr} {fd_fraction_of : FuncData} (T_fraction_of : Fn K mg "fraction_of" s_fraction_of ["top", "bottom"] f_fraction_of fd_fraction_of) (G_fraction_of : FnOk P w K mg base CX0 k f_fraction_of fd_fraction_of ["top", "bottom"] (spD m_fraction_of))
    {f_power_of : Addr} {fd_power_of : FuncData} (T_power_of : Fn K mg "power_of" s_power_of ["base", "power"] f_power_of fd_power_of) (G_power_of : FnOk P w K mg base CX0 k f_power_of fd_power_of ["base", "power"] (spD m_power_of))
    {f_refuse_no_table : Addr} {fd_refuse_no_table : FuncData} (T_refuse_no_table : Fn K mg "refuse_no_table" s_refuse_no_table ["thing"] f_refuse_no_table fd_refuse_no_table) (G_refuse_no_table : FnOk P w K mg base (CXW P w) k f_refuse_no_table fd_refuse_no_table ["thing"] (spX m_refuse_no_table))
    {f_table_behind : Addr} {fd_table_behind : FuncData} (T_table_behind : Fn K mg "table_behind" s_table_behind ["one", "other"] f_table_behind fd_table_behind) (G_table_behind : FnOk P w K mg base (CXW P w) k f_table_behind fd_table_behind ["one", "other"] (spX m_table_behind))
    {f_table_mixed : Addr} {fd_table_mixed : FuncData} (T_table_mixed : Fn K mg "table_mixed" s_table_mixed ["tables", "parts"] f_table_mixed fd_table_mixed) (G_table_mixed : FnOk P w K mg base (CXW P w) k f_table_mixed fd_table_mixed ["tables", "parts"] (spX m_table_mixed))
    {f_table_shrunk : Addr} {fd_table_shrunk : FuncData} (T_table_shrunk : Fn K mg "table_shrunk" s_table_shrunk ["table", "part"] f_table_shrunk fd_table_shrunk) (G_table_shrunk : FnOk P w K mg base (CXW P w) k f_table_shrunk fd_table_shrunk ["table", "part"] (spX m_table_shrunk)) {tk_MOST_SHARPENED : Tok} (m_MOST_SHARPENED : mg "MOST_SHARPENED" = some (.int 6 tk_MOST_SHARPENED)) (X_TooMany : Exc K mg "TooMany" C_TooMany) :
    FnOk P w K mg base (CXW P w) (k + 1) f fd ["table", "order"] (spX (m_table_sharpened m_fraction_of m_power_of m_refuse_no_table m_table_behind m_table_mixed m_table_shrunk C_TooMany)):=okX F sy_table_sharpened (ob_table_sharpened T_fraction_of G_fraction_of T_power_of G_power_of T_refuse_no_table G_refuse_no_table T_table_behind G_table_behind T_table_mixed G_table_mixed T_table_shrunk G_table_shrunk m_MOST_SHARPENED X_TooMany)
theorem sy__law_asked : FnScope ["_law_word", "_law_one", "_law_other", "_law_part", "_law_order"] ["_law_word", "_law_one", "_law_other", "_law_part", "_law_order"] (defScope s__law_asked):=⟨rfl,rfl,rfl,by decide +kernel,rfl,by decide +kernel,by decide +kernel⟩
def J__law_asked (m_table_behind : List PyData→Option Xr) (m_table_mixed : List PyData→Option Xr) (m_table_sharpened : List PyData→Option Xr) (m_table_shrunk : List PyData→Option Xr) : DFX :=
  (xIf (bCmp (dEq false) (nm 0) (fC (.int 0)))
    (xCall m_table_behind (fCons (nm 1) (fCons (nm 2) fNil)) fun _ δ => .nx δ)
    (xIf (bCmp (dEq false) (nm 0) (fC (.int 1)))
      (xCall m_table_shrunk (fCons (nm 1) (fCons (nm 3) fNil)) fun _ δ => .nx δ)
      (xIf (bCmp (dEq false) (nm 0) (fC (.int 2)))
        (xCall m_table_mixed (fCons (fLst (fCons (nm 2) (fCons (nm 1) fNil))) (fCons (fLst (fCons (nm 3) (fCons (nm 3) fNil))) fNil)) fun _ δ => .nx δ)
        (xIf (bCmp (dEq false) (nm 0) (fC (.int 3)))
          (xCall m_table_sharpened (fCons (nm 1) (fCons (nm 4) fNil)) fun _ δ => .nx δ)
          (xIf (bCmp (dEq false) (nm 0) (fC (.int 4)))
            (xCall m_table_mixed (fCons (fLst (fCons (nm 1) (fCons (nm 1) fNil))) (fCons (fLst (fCons (nm 3) fNil)) fNil)) fun _ δ => .nx δ)
            (xIf (bCmp (dEq false) (nm 0) (fC (.int 5)))
              (xCall m_table_mixed (fCons (fLst fNil) (fCons (fLst fNil) fNil)) fun _ δ => .nx δ)
              (xIf (bCmp (dEq false) (nm 0) (fC (.int 6)))
                (xCall m_table_mixed (fCons (fLst (fCons (nm 2) fNil)) (fCons (fLst (fCons (nm 3) (fCons (nm 3) (fCons (nm 3) fNil)))) fNil)) fun _ δ => .nx δ)
                (xCall m_table_behind (fCons (nm 2) (fCons (nm 1) fNil)) fun _ δ => .nx δ))))))))
def m__law_asked (m_table_behind : List PyData→Option Xr) (m_table_mixed : List PyData→Option Xr) (m_table_sharpened : List PyData→Option Xr) (m_table_shrunk : List PyData→Option Xr) : List PyData→Option Xr:=retX ["_law_word", "_law_one", "_law_other", "_law_part", "_law_order"] ["_law_word", "_law_one", "_law_other", "_law_part", "_law_order"] (J__law_asked m_table_behind m_table_mixed m_table_sharpened m_table_shrunk)
theorem ob__law_asked {k : Nat} {m_table_behind : List PyData→Option Xr} {m_table_mixed : List PyData→Option Xr} {m_table_sharpened : List PyData→Option Xr} {m_table_shrunk : List PyData→Option Xr}
    {f_table_behind : Addr} {fd_table_behind : FuncData} (T_table_behind : Fn K mg "table_behind" s_table_behind ["one", "other"] f_table_behind fd_table_behind) (G_table_behind : FnOk P w K mg base (CXW P w) k f_table_behind fd_table_behind ["one", "other"] (spX m_table_behind))
    {f_table_mixed : Addr} {fd_table_mixed : FuncData} (T_table_mixed : Fn K mg "table_mixed" s_table_mixed ["tables", "parts"] f_table_mixed fd_table_mixed) (G_table_mixed : FnOk P w K mg base (CXW P w) k f_table_mixed fd_table_mixed ["tables", "parts"] (spX m_table_mixed))
    {f_table_sharpened : Addr} {fd_table_sharpened : FuncData} (T_table_sharpened : Fn K mg "table_sharpened" s_table_sharpened ["table", "order"] f_table_sharpened fd_table_sharpened) (G_table_sharpened : FnOk P w K mg base (CXW P w) k f_table_sharpened fd_table_sharpened ["table", "order"] (spX m_table_sharpened))
    {f_table_shrunk : Addr} {fd_table_shrunk : FuncData} (T_table_shrunk : Fn K mg "table_shrunk" s_table_shrunk ["table", "part"] f_table_shrunk fd_table_shrunk) (G_table_shrunk : FnOk P w K mg base (CXW P w) k f_table_shrunk fd_table_shrunk ["table", "part"] (spX m_table_shrunk)) (cdv : Value) (A : Around) (outer : List Env) (s : Shared) (H : Hp) (E : XK) (hr : Room k (A.deeper (PyProof.Rows.envOfC "_law_asked" (defScope s__law_asked) s.heap.objs.size f cdv))) :
    DXs (cxOf (CXW P w) P w K mg base ["_law_word", "_law_one", "_law_other", "_law_part", "_law_order"] "_law_asked" (defScope s__law_asked) f cdv A outer s H E) E (defBody s__law_asked) (J__law_asked m_table_behind m_table_mixed m_table_sharpened m_table_shrunk) := by
  have sc:=sy__law_asked
  exact (dxs_one (dx_if (dt_cmp (do_eq (by have:=hr.units; exact this)) (de_var (pv 0)) de_int (nomark _))
    (dxs_one (by exact dx_call T_table_behind G_table_behind hr passX (by exact (da_cons (de_var (pv 1)) (da_cons (de_var (pv 2)) da_nil))) (fun h => ps_expr h)))
    (dxs_one (dx_if (dt_cmp (do_eq (by have:=hr.units; exact this)) (de_var (pv 0)) de_int (nomark _))
      (dxs_one (by exact dx_call T_table_shrunk G_table_shrunk hr passX (by exact (da_cons (de_var (pv 1)) (da_cons (de_var (pv 3)) da_nil))) (fun h => ps_expr h)))
      (dxs_one (dx_if (dt_cmp (do_eq (by have:=hr.units; exact this)) (de_var (pv 0)) de_int (nomark _))
        (dxs_one (by exact dx_call T_table_mixed G_table_mixed hr passX (by exact (da_cons (de_lst (da_cons (de_var (pv 2)) (da_cons (de_var (pv 1)) da_nil))) (da_cons (de_lst (da_cons (de_var (pv 3)) (da_cons (de_var (pv 3)) da_nil))) da_nil))) (fun h => ps_expr h)))
        (dxs_one (dx_if (dt_cmp (do_eq (by have:=hr.units; exact this)) (de_var (pv 0)) de_int (nomark _))
          (dxs_one (by exact dx_call T_table_sharpened G_table_sharpened hr passX (by exact (da_cons (de_var (pv 1)) (da_cons (de_var (pv 4)) da_nil))) (fun h => ps_expr h)))
          (dxs_one (dx_if (dt_cmp (do_eq (by have:=hr.units; exact this)) (de_var (pv 0)) de_int (nomark _))
            (dxs_one (by exact dx_call T_table_mixed G_table_mixed hr passX (by exact (da_cons (de_lst (da_cons (de_var (pv 1)) (da_cons (de_var (pv 1)) da_nil))) (da_cons (de_lst (da_cons (de_var (pv 3)) da_nil)) da_nil))) (fun h => ps_expr h)))
            (dxs_one (dx_if (dt_cmp (do_eq (by have:=hr.units; exact this)) (de_var (pv 0)) de_int (nomark _))
              (dxs_one (by exact dx_call T_table_mixed G_table_mixed hr passX (by exact (da_cons (de_lst da_nil) (da_cons (de_lst da_nil) da_nil))) (fun h => ps_expr h)))
              (dxs_one (dx_if (dt_cmp (do_eq (by have:=hr.units; exact this)) (de_var (pv 0)) de_int (nomark _))
                (dxs_one (by exact dx_call T_table_mixed G_table_mixed hr passX (by exact (da_cons (de_lst (da_cons (de_var (pv 2)) da_nil)) (da_cons (de_lst (da_cons (de_var (pv 3)) (da_cons (de_var (pv 3)) (da_cons (de_var (pv 3)) da_nil)))) da_nil))) (fun h => ps_expr h)))
                (dxs_one (by exact dx_call T_table_behind G_table_behind hr passX (by exact (da_cons (de_var (pv 2)) (da_cons (de_var (pv 1)) da_nil))) (fun h => ps_expr h)))))))))))))))))
theorem ox__law_asked {k : Nat} {m_table_behind : List PyData→Option Xr} {m_table_mixed : List PyData→Option Xr} {m_table_sharpened : List PyData→Option Xr} {m_table_shrunk : List PyData→Option Xr} (F : Fn K mg "_law_asked" s__law_asked ["_law_word", "_law_one", "_law_other", "_law_part", "_law_order"] f fd)
    {f_table_behind : Addr} {fd_table_behind : FuncData} (T_table_behind : Fn K mg "table_behind" s_table_behind ["one", "other"] f_table_behind fd_table_behind) (G_table_behind : FnOk P w K mg base (CXW P w) k f_table_behind fd_table_behind ["one", "other"] (spX m_table_behind))
    {f_table_mixed : Addr} {fd_table_mixed : FuncData} (T_table_mixed : Fn K mg "table_mixed" s_table_mixed ["tables", "parts"] f_table_mixed fd_table_mixed) (G_table_mixed : FnOk P w K mg base (CXW P w) k f_table_mixed fd_table_mixed ["tables", "parts"] (spX m_table_mixed))
    {f_table_sharpened : Addr} {fd_table_sharpened : FuncData} (T_table_sharpened : Fn K mg "table_sharpened" s_table_sharpened ["table", "order"] f_table_sharpened fd_table_sharpened) (G_table_sharpened : FnOk P w K mg base (CXW P w) k f_table_sharpened fd_table_sharpened ["table", "order"] (spX m_table_sharpened))
    {f_table_shrunk : Addr} {fd_table_shrunk : FuncData} (T_table_shrunk : Fn K mg "table_shrunk" s_table_shrunk ["table", "part"] f_table_shrunk fd_table_shrunk) (G_table_shrunk : FnOk P w K mg base (CXW P w) k f_table_shrunk fd_table_shrunk ["table", "part"] (spX m_table_shrunk)) :
    FnOk P w K mg base (CXW P w) (k + 1) f fd ["_law_word", "_law_one", "_law_other", "_law_part", "_law_order"] (spX (m__law_asked m_table_behind m_table_mixed m_table_sharpened m_table_shrunk)):=okX F sy__law_asked (ob__law_asked T_table_behind G_table_behind T_table_mixed G_table_mixed T_table_sharpened G_table_sharpened T_table_shrunk G_table_shrunk)
theorem sy__law_alone : FnScope ["_law_error", "_law_told"] ["_law_error"] (defScope s__law_alone):=⟨rfl,rfl,rfl,by decide +kernel,rfl,by decide +kernel,by decide +kernel⟩
def F__law_alone (kt_GroveError : Addr→Option Bool) (kt_NoBottom : Addr→Option Bool) (kt_NoChange : Addr→Option Bool) (kt_NoLine : Addr→Option Bool) (kt_NoName : Addr→Option Bool) (kt_NoParts : Addr→Option Bool) (kt_NoStart : Addr→Option Bool) (kt_NoTable : Addr→Option Bool) (kt_NoText : Addr→Option Bool) (kt_NoTree : Addr→Option Bool) (kt_NoWeighing : Addr→Option Bool) (kt_NotAlike : Addr→Option Bool) (kt_TooMany : Addr→Option Bool) (kt_ValueError : Addr→Option Bool) : DF :=
  (seqD (sIf (bOr (bNot (bVal (fIsx kt_GroveError (nm 0)))) (bNot (bVal (fIsx kt_ValueError (nm 0)))))
    (sRet (fC (.bool false)))
    sNext)
  (seqD (sSet 1 (fLst (fCons (fIsx kt_NoBottom (nm 0)) (fCons (fIsx kt_NoChange (nm 0)) (fCons (fIsx kt_NoLine (nm 0)) fNil)))))
  (seqD (sSet 1 (op2 dAdd (nm 1) (fLst (fCons (fIsx kt_NoName (nm 0)) (fCons (fIsx kt_NoParts (nm 0)) (fCons (fIsx kt_NoStart (nm 0)) fNil))))))
  (seqD (sSet 1 (op2 dAdd (nm 1) (fLst (fCons (fIsx kt_NotAlike (nm 0)) (fCons (fIsx kt_NoTable (nm 0)) (fCons (fIsx kt_NoText (nm 0)) fNil))))))
  (seqD (sSet 1 (op2 dAdd (nm 1) (fLst (fCons (fIsx kt_NoTree (nm 0)) (fCons (fIsx kt_NoWeighing (nm 0)) (fCons (fIsx kt_TooMany (nm 0)) fNil))))))
  (sRet (op2 (dEq false) (fCall dLen (fCons (compD (set1 1) (bVal (nm 1)) (nm 1) [none,none] (iSeq (nm 1))) fNil)) (fC (.int 1)))))))))
def m__law_alone (kt_GroveError : Addr→Option Bool) (kt_NoBottom : Addr→Option Bool) (kt_NoChange : Addr→Option Bool) (kt_NoLine : Addr→Option Bool) (kt_NoName : Addr→Option Bool) (kt_NoParts : Addr→Option Bool) (kt_NoStart : Addr→Option Bool) (kt_NoTable : Addr→Option Bool) (kt_NoText : Addr→Option Bool) (kt_NoTree : Addr→Option Bool) (kt_NoWeighing : Addr→Option Bool) (kt_NotAlike : Addr→Option Bool) (kt_TooMany : Addr→Option Bool) (kt_ValueError : Addr→Option Bool) : List PyData→Option PyData:=retD ["_law_error"] ["_law_error", "_law_told"] (F__law_alone kt_GroveError kt_NoBottom kt_NoChange kt_NoLine kt_NoName kt_NoParts kt_NoStart kt_NoTable kt_NoText kt_NoTree kt_NoWeighing kt_NotAlike kt_TooMany kt_ValueError)
theorem ob__law_alone {k : Nat} {C_GroveError : Addr} {C_NoBottom : Addr} {C_NoChange : Addr} {C_NoLine : Addr} {C_NoName : Addr} {C_NoParts : Addr} {C_NoStart : Addr} {C_NoTable : Addr} {C_NoText : Addr} {C_NoTree : Addr} {C_NoWeighing : Addr} {C_NotAlike : Addr} {C_TooMany : Addr} {kt_GroveError : Addr→Option Bool} {kt_NoBottom : Addr→Option Bool} {kt_NoChange : Addr→Option Bool} {kt_NoLine : Addr→Option Bool} {kt_NoName : Addr→Option Bool} {kt_NoParts : Addr→Option Bool} {kt_NoStart : Addr→Option Bool} {kt_NoTable : Addr→Option Bool} {kt_NoText : Addr→Option Bool} {kt_NoTree : Addr→Option Bool} {kt_NoWeighing : Addr→Option Bool} {kt_NotAlike : Addr→Option Bool} {kt_TooMany : Addr→Option Bool} {kt_ValueError : Addr→Option Bool} (z_ValueError : mg "ValueError" = none) (z_isinstance : mg "isinstance" = none) (z_len : mg "len" = none) (m_GroveError : mg "GroveError" = some (.ref C_GroveError)) (m_NoBottom : mg "NoBottom" = some (.ref C_NoBottom)) (m_NoChange : mg "NoChange" = some (.ref C_NoChange)) (m_NoLine : mg "NoLine" = some (.ref C_NoLine)) (m_NoName : mg "NoName" = some (.ref C_NoName)) (m_NoParts : mg "NoParts" = some (.ref C_NoParts)) (m_NoStart : mg "NoStart" = some (.ref C_NoStart)) (m_NoTable : mg "NoTable" = some (.ref C_NoTable)) (m_NoText : mg "NoText" = some (.ref C_NoText)) (m_NoTree : mg "NoTree" = some (.ref C_NoTree)) (m_NoWeighing : mg "NoWeighing" = some (.ref C_NoWeighing)) (m_NotAlike : mg "NotAlike" = some (.ref C_NotAlike)) (m_TooMany : mg "TooMany" = some (.ref C_TooMany)) (kh_GroveError : ∀ C b,kt_GroveError C = some b→ExcK K C∧PySem.W.kitOne K (.ref C) (clsV (.ref C_GroveError)) = some b) (kh_NoBottom : ∀ C b,kt_NoBottom C = some b→ExcK K C∧PySem.W.kitOne K (.ref C) (clsV (.ref C_NoBottom)) = some b) (kh_NoChange : ∀ C b,kt_NoChange C = some b→ExcK K C∧PySem.W.kitOne K (.ref C) (clsV (.ref C_NoChange)) = some b) (kh_NoLine : ∀ C b,kt_NoLine C = some b→ExcK K C∧PySem.W.kitOne K (.ref C) (clsV (.ref C_NoLine)) = some b) (kh_NoName : ∀ C b,kt_NoName C = some b→ExcK K C∧PySem.W.kitOne K (.ref C) (clsV (.ref C_NoName)) = some b) (kh_NoParts : ∀ C b,kt_NoParts C = some b→ExcK K C∧PySem.W.kitOne K (.ref C) (clsV (.ref C_NoParts)) = some b) (kh_NoStart : ∀ C b,kt_NoStart C = some b→ExcK K C∧PySem.W.kitOne K (.ref C) (clsV (.ref C_NoStart)) = some b) (kh_NoTable : ∀ C b,kt_NoTable C = some b→ExcK K C∧PySem.W.kitOne K (.ref C) (clsV (.ref C_NoTable)) = some b) (kh_NoText : ∀ C b,kt_NoText C = some b→ExcK K C∧PySem.W.kitOne K (.ref C) (clsV (.ref C_NoText)) = some b) (kh_NoTree : ∀ C b,kt_NoTree C = some b→ExcK K C∧PySem.W.kitOne K (.ref C) (clsV (.ref C_NoTree)) = some b) (kh_NoWeighing : ∀ C b,kt_NoWeighing C = some b→ExcK K C∧PySem.W.kitOne K (.ref C) (clsV (.ref C_NoWeighing)) = some b) (kh_NotAlike : ∀ C b,kt_NotAlike C = some b→ExcK K C∧PySem.W.kitOne K (.ref C) (clsV (.ref C_NotAlike)) = some b) (kh_TooMany : ∀ C b,kt_TooMany C = some b→ExcK K C∧PySem.W.kitOne K (.ref C) (clsV (.ref C_TooMany)) = some b) (kh_ValueError : ∀ C b,kt_ValueError C = some b→ExcK K C∧PySem.W.kitOne K (.ref C) (clsV (.ty "ValueError")) = some b) (cdv : Value) (A : Around) (outer : List Env) (s : Shared) (H : Hp) (E : XK) (hr : Room k (A.deeper (PyProof.Rows.envOfC "_law_alone" (defScope s__law_alone) s.heap.objs.size f cdv))) :
    DSs (cxOf CX0 P w K mg base ["_law_error", "_law_told"] "_law_alone" (defScope s__law_alone) f cdv A outer s H E).nox (defBody s__law_alone) (F__law_alone kt_GroveError kt_NoBottom kt_NoChange kt_NoLine kt_NoName kt_NoParts kt_NoStart kt_NoTable kt_NoText kt_NoTree kt_NoWeighing kt_NotAlike kt_TooMany kt_ValueError) := by
  have sc:=sy__law_alone
  exact (dss_cons (ds_if (DW.dt (dw_or (dt_not (dt_val (de_isx kh_GroveError (fun z => nomatch z) rfl z_isinstance (pe_glob (v:=.ref C_GroveError) rfl m_GroveError rfl) (de_var (pv 0))))) (dw_one (dt_not (dt_val (de_isx kh_ValueError (fun z => nomatch z) rfl z_isinstance (pe_bltn (v:=.ty "ValueError") rfl z_ValueError PyProof.Rows.Boot.«ValueError» rfl) (de_var (pv 0))))))))
    (dss_one (ds_ret de_bl))
    dss_nil)
  (dss_cons (ds_set (i:=1) sc.nd rfl (Or.inl rfl) (de_lst (da_cons (de_isx kh_NoBottom (fun z => nomatch z) rfl z_isinstance (pe_glob (v:=.ref C_NoBottom) rfl m_NoBottom rfl) (de_var (pv 0))) (da_cons (de_isx kh_NoChange (fun z => nomatch z) rfl z_isinstance (pe_glob (v:=.ref C_NoChange) rfl m_NoChange rfl) (de_var (pv 0))) (da_cons (de_isx kh_NoLine (fun z => nomatch z) rfl z_isinstance (pe_glob (v:=.ref C_NoLine) rfl m_NoLine rfl) (de_var (pv 0))) da_nil)))))
  (dss_cons (ds_set (i:=1) sc.nd rfl (Or.inl rfl) (de_op do_add (de_var (pv 1)) (de_lst (da_cons (de_isx kh_NoName (fun z => nomatch z) rfl z_isinstance (pe_glob (v:=.ref C_NoName) rfl m_NoName rfl) (de_var (pv 0))) (da_cons (de_isx kh_NoParts (fun z => nomatch z) rfl z_isinstance (pe_glob (v:=.ref C_NoParts) rfl m_NoParts rfl) (de_var (pv 0))) (da_cons (de_isx kh_NoStart (fun z => nomatch z) rfl z_isinstance (pe_glob (v:=.ref C_NoStart) rfl m_NoStart rfl) (de_var (pv 0))) da_nil))))))
  (dss_cons (ds_set (i:=1) sc.nd rfl (Or.inl rfl) (de_op do_add (de_var (pv 1)) (de_lst (da_cons (de_isx kh_NotAlike (fun z => nomatch z) rfl z_isinstance (pe_glob (v:=.ref C_NotAlike) rfl m_NotAlike rfl) (de_var (pv 0))) (da_cons (de_isx kh_NoTable (fun z => nomatch z) rfl z_isinstance (pe_glob (v:=.ref C_NoTable) rfl m_NoTable rfl) (de_var (pv 0))) (da_cons (de_isx kh_NoText (fun z => nomatch z) rfl z_isinstance (pe_glob (v:=.ref C_NoText) rfl m_NoText rfl) (de_var (pv 0))) da_nil))))))
  (dss_cons (ds_set (i:=1) sc.nd rfl (Or.inl rfl) (de_op do_add (de_var (pv 1)) (de_lst (da_cons (de_isx kh_NoTree (fun z => nomatch z) rfl z_isinstance (pe_glob (v:=.ref C_NoTree) rfl m_NoTree rfl) (de_var (pv 0))) (da_cons (de_isx kh_NoWeighing (fun z => nomatch z) rfl z_isinstance (pe_glob (v:=.ref C_NoWeighing) rfl m_NoWeighing rfl) (de_var (pv 0))) (da_cons (de_isx kh_TooMany (fun z => nomatch z) rfl z_isinstance (pe_glob (v:=.ref C_TooMany) rfl m_TooMany rfl) (de_var (pv 0))) da_nil))))))
  (dss_one (ds_ret (de_cmp (do_eq (by have:=hr.units; exact this)) (de_callB dc_len rfl z_len PySem.boot_len (da_cons (de_comp [".0", "_law_one"] 1 [none,none] (di_seq (de_var (pv 1))) (fun _ _ _ _ _ => (dif_one (dt_val (de_var (pv 1))))) (fun _ _ _ _ _ => (de_var (pv 1)))) da_nil)) de_int (nomark _)))))))))
theorem od__law_alone {k : Nat} {C_GroveError : Addr} {C_NoBottom : Addr} {C_NoChange : Addr} {C_NoLine : Addr} {C_NoName : Addr} {C_NoParts : Addr} {C_NoStart : Addr} {C_NoTable : Addr} {C_NoText : Addr} {C_NoTree : Addr} {C_NoWeighing : Addr} {C_NotAlike : Addr} {C_TooMany : Addr} {kt_GroveError : Addr→Option Bool} {kt_NoBottom : Addr→Option Bool} {kt_NoChange : Addr→Option Bool} {kt_NoLine : Addr→Option Bool} {kt_NoName : Addr→Option Bool} {kt_NoParts : Addr→Option Bool} {kt_NoStart : Addr→Option Bool} {kt_NoTable : Addr→Option Bool} {kt_NoText : Addr→Option Bool} {kt_NoTree : Addr→Option Bool} {kt_NoWeighing : Addr→Option Bool} {kt_NotAlike : Addr→Option Bool} {kt_TooMany : Addr→Option Bool} {kt_ValueError : Addr→Option Bool} (F : Fn K mg "_law_alone" s__law_alone ["_law_error"] f fd) (z_ValueError : mg "ValueError" = none) (z_isinstance : mg "isinstance" = none) (z_len : mg "len" = none) (m_GroveError : mg "GroveError" = some (.ref C_GroveError)) (m_NoBottom : mg "NoBottom" = some (.ref C_NoBottom)) (m_NoChange : mg "NoChange" = some (.ref C_NoChange)) (m_NoLine : mg "NoLine" = some (.ref C_NoLine)) (m_NoName : mg "NoName" = some (.ref C_NoName)) (m_NoParts : mg "NoParts" = some (.ref C_NoParts)) (m_NoStart : mg "NoStart" = some (.ref C_NoStart)) (m_NoTable : mg "NoTable" = some (.ref C_NoTable)) (m_NoText : mg "NoText" = some (.ref C_NoText)) (m_NoTree : mg "NoTree" = some (.ref C_NoTree)) (m_NoWeighing : mg "NoWeighing" = some (.ref C_NoWeighing)) (m_NotAlike : mg "NotAlike" = some (.ref C_NotAlike)) (m_TooMany : mg "TooMany" = some (.ref C_TooMany)) (kh_GroveError : ∀ C b,kt_GroveError C = some b→ExcK K C∧PySem.W.kitOne K (.ref C) (clsV (.ref C_GroveError)) = some b) (kh_NoBottom : ∀ C b,kt_NoBottom C = some b→ExcK K C∧PySem.W.kitOne K (.ref C) (clsV (.ref C_NoBottom)) = some b) (kh_NoChange : ∀ C b,kt_NoChange C = some b→ExcK K C∧PySem.W.kitOne K (.ref C) (clsV (.ref C_NoChange)) = some b) (kh_NoLine : ∀ C b,kt_NoLine C = some b→ExcK K C∧PySem.W.kitOne K (.ref C) (clsV (.ref C_NoLine)) = some b) (kh_NoName : ∀ C b,kt_NoName C = some b→ExcK K C∧PySem.W.kitOne K (.ref C) (clsV (.ref C_NoName)) = some b) (kh_NoParts : ∀ C b,kt_NoParts C = some b→ExcK K C∧PySem.W.kitOne K (.ref C) (clsV (.ref C_NoParts)) = some b) (kh_NoStart : ∀ C b,kt_NoStart C = some b→ExcK K C∧PySem.W.kitOne K (.ref C) (clsV (.ref C_NoStart)) = some b) (kh_NoTable : ∀ C b,kt_NoTable C = some b→ExcK K C∧PySem.W.kitOne K (.ref C) (clsV (.ref C_NoTable)) = some b) (kh_NoText : ∀ C b,kt_NoText C = some b→ExcK K C∧PySem.W.kitOne K (.ref C) (clsV (.ref C_NoText)) = some b) (kh_NoTree : ∀ C b,kt_NoTree C = some b→ExcK K C∧PySem.W.kitOne K (.ref C) (clsV (.ref C_NoTree)) = some b) (kh_NoWeighing : ∀ C b,kt_NoWeighing C = some b→ExcK K C∧PySem.W.kitOne K (.ref C) (clsV (.ref C_NoWeighing)) = some b) (kh_NotAlike : ∀ C b,kt_NotAlike C = some b→ExcK K C∧PySem.W.kitOne K (.ref C) (clsV (.ref C_NotAlike)) = some b) (kh_TooMany : ∀ C b,kt_TooMany C = some b→ExcK K C∧PySem.W.kitOne K (.ref C) (clsV (.ref C_TooMany)) = some b) (kh_ValueError : ∀ C b,kt_ValueError C = some b→ExcK K C∧PySem.W.kitOne K (.ref C) (clsV (.ty "ValueError")) = some b) :
    FnOk P w K mg base CX0 (k + 1) f fd ["_law_error"] (spD (m__law_alone kt_GroveError kt_NoBottom kt_NoChange kt_NoLine kt_NoName kt_NoParts kt_NoStart kt_NoTable kt_NoText kt_NoTree kt_NoWeighing kt_NotAlike kt_TooMany kt_ValueError)):=okD F sy__law_alone (ob__law_alone z_ValueError z_isinstance z_len m_GroveError m_NoBottom m_NoChange m_NoLine m_NoName m_NoParts m_NoStart m_NoTable m_NoText m_NoTree m_NoWeighing m_NotAlike m_TooMany kh_GroveError kh_NoBottom kh_NoChange kh_NoLine kh_NoName kh_NoParts kh_NoStart kh_NoTable kh_NoText kh_NoTree kh_NoWeighing kh_NotAlike kh_TooMany kh_ValueError)
theorem sy__law_refusal : FnScope ["_law_word", "_law_one", "_law_other", "_law_part", "_law_order", "_law_error", "_law_told", "e"] ["_law_word", "_law_one", "_law_other", "_law_part", "_law_order"] (defScope s__law_refusal):=⟨rfl,rfl,rfl,by decide +kernel,rfl,by decide +kernel,by decide +kernel⟩
def F__law_refusal (m__law_alone : List PyData→Option PyData) (m__law_asked : List PyData→Option Xr) (C_NoParts : Addr) (C_NoTable : Addr) (C_TooMany : Addr) : DF :=
  (seqD (sSet 5 (fC .none))
  (seqD (sSet 6 (fC (.str (Str.ofString "told"))))
  (seqD (sTryH 7 m__law_asked (fCons (nm 0) (fCons (nm 1) (fCons (nm 2) (fCons (nm 3) (fCons (nm 4) fNil))))) fun C => (if C = C_NoTable then (seqD (sSet 6 (fC (.str (Str.ofString "table")))) (sSet 5 (nm 7))) else (if C = C_NoParts then (seqD (sSet 6 (fC (.str (Str.ofString "parts")))) (sSet 5 (nm 7))) else (seqD (sSet 6 (fC (.str (Str.ofString "many")))) (sSet 5 (nm 7))))))
  (seqD (sIf (bAnd (bCmp (dIs true) (nm 5) (fC .none)) (bNot (bVal (fCall m__law_alone (fCons (nm 5) fNil)))))
    (sRet (fC (.str (Str.ofString "none of these"))))
    sNext)
  (sRet (nm 6))))))
def m__law_refusal (m__law_alone : List PyData→Option PyData) (m__law_asked : List PyData→Option Xr) (C_NoParts : Addr) (C_NoTable : Addr) (C_TooMany : Addr) : List PyData→Option PyData:=retD ["_law_word", "_law_one", "_law_other", "_law_part", "_law_order"] ["_law_word", "_law_one", "_law_other", "_law_part", "_law_order", "_law_error", "_law_told", "e"] (F__law_refusal m__law_alone m__law_asked C_NoParts C_NoTable C_TooMany)
theorem ob__law_refusal {k : Nat} {m__law_alone : List PyData→Option PyData} {m__law_asked : List PyData→Option Xr} {C_NoParts : Addr} {C_NoTable : Addr} {C_TooMany : Addr}
    {f__law_alone : Addr} {fd__law_alone : FuncData} (T__law_alone : Fn K mg "_law_alone" s__law_alone ["_law_error"] f__law_alone fd__law_alone) (G__law_alone : FnOk P w K mg base CX0 k f__law_alone fd__law_alone ["_law_error"] (spD m__law_alone))
    {f__law_asked : Addr} {fd__law_asked : FuncData} (T__law_asked : Fn K mg "_law_asked" s__law_asked ["_law_word", "_law_one", "_law_other", "_law_part", "_law_order"] f__law_asked fd__law_asked) (G__law_asked : FnOk P w K mg base (CXW P w) k f__law_asked fd__law_asked ["_law_word", "_law_one", "_law_other", "_law_part", "_law_order"] (spX m__law_asked)) (m_NoParts : mg "NoParts" = some (.ref C_NoParts)) (m_NoTable : mg "NoTable" = some (.ref C_NoTable)) (m_TooMany : mg "TooMany" = some (.ref C_TooMany)) (hO__law_asked : ∀ ds C,m__law_asked ds = some (.inr C)→C = C_NoTable∨C = C_NoParts∨C = C_TooMany) (bt_NoTable_NoTable : Beneath K C_NoTable C_NoTable true) (bt_NoParts_NoTable : Beneath K C_NoParts C_NoTable false) (bt_NoParts_NoParts : Beneath K C_NoParts C_NoParts true) (bt_TooMany_NoTable : Beneath K C_TooMany C_NoTable false) (bt_TooMany_NoParts : Beneath K C_TooMany C_NoParts false) (bt_TooMany_TooMany : Beneath K C_TooMany C_TooMany true) (ne_NoTable_NoParts : C_NoTable≠C_NoParts) (ne_NoTable_TooMany : C_NoTable≠C_TooMany) (ne_NoParts_TooMany : C_NoParts≠C_TooMany) (cdv : Value) (A : Around) (outer : List Env) (s : Shared) (H : Hp) (E : XK) (hr : Room k (A.deeper (PyProof.Rows.envOfC "_law_refusal" (defScope s__law_refusal) s.heap.objs.size f cdv))) :
    DSs (cxOf CX0 P w K mg base ["_law_word", "_law_one", "_law_other", "_law_part", "_law_order", "_law_error", "_law_told", "e"] "_law_refusal" (defScope s__law_refusal) f cdv A outer s H E).nox (defBody s__law_refusal) (F__law_refusal m__law_alone m__law_asked C_NoParts C_NoTable C_TooMany) := by
  have sc:=sy__law_refusal
  exact (dss_cons (ds_set (i:=5) sc.nd rfl (Or.inl rfl) de_non)
  (dss_cons (ds_set (i:=6) sc.nd rfl (Or.inl rfl) de_str)
  (dss_cons (ds_tryH (k:=7) T__law_asked G__law_asked hr (by exact (da_cons (de_var (pv 0)) (da_cons (de_var (pv 1)) (da_cons (de_var (pv 2)) (da_cons (de_var (pv 3)) (da_cons (de_var (pv 4)) da_nil)))))) sc.nd (fun ds C h => by rcases hO__law_asked ds C h with h2 | h2 | h2; (intro ea; rw [h2,if_pos rfl]; exact dh_hit m_NoTable bt_NoTable_NoTable (dss_cons (ds_set (i:=6) sc.nd rfl (Or.inl rfl) de_str) (dss_one (ds_set (i:=5) sc.nd rfl (Or.inl rfl) (de_var (pv 7)))))); (intro ea; rw [h2,if_neg (Ne.symm ne_NoTable_NoParts),if_pos rfl]; exact dh_miss m_NoTable bt_NoParts_NoTable (dh_hit m_NoParts bt_NoParts_NoParts (dss_cons (ds_set (i:=6) sc.nd rfl (Or.inl rfl) de_str) (dss_one (ds_set (i:=5) sc.nd rfl (Or.inl rfl) (de_var (pv 7))))))); (intro ea; rw [h2,if_neg (Ne.symm ne_NoTable_TooMany),if_neg (Ne.symm ne_NoParts_TooMany)]; exact dh_miss m_NoTable bt_TooMany_NoTable (dh_miss m_NoParts bt_TooMany_NoParts (dh_hit m_TooMany bt_TooMany_TooMany (dss_cons (ds_set (i:=6) sc.nd rfl (Or.inl rfl) de_str) (dss_one (ds_set (i:=5) sc.nd rfl (Or.inl rfl) (de_var (pv 7))))))))))
  (dss_cons (ds_if (DW.dt (dw_and (dt_cmp do_isnot (de_var (pv 5)) de_non (nomark _)) (dw_one (dt_not (dt_val (de_call T__law_alone G__law_alone hr rfl (da_cons (de_var (pv 5)) da_nil)))))))
    (dss_one (ds_ret de_str))
    dss_nil)
  (dss_one (ds_ret (de_var (pv 6))))))))
theorem od__law_refusal {k : Nat} {m__law_alone : List PyData→Option PyData} {m__law_asked : List PyData→Option Xr} {C_NoParts : Addr} {C_NoTable : Addr} {C_TooMany : Addr} (F : Fn K mg "_law_refusal" s__law_refusal ["_law_word", "_law_one", "_law_other", "_law_part", "_law_order"] f fd)
    {f__law_alone : Addr} {fd__law_alone : FuncData} (T__law_alone : Fn K mg "_law_alone" s__law_alone ["_law_error"] f__law_alone fd__law_alone) (G__law_alone : FnOk P w K mg base CX0 k f__law_alone fd__law_alone ["_law_error"] (spD m__law_alone))
    {f__law_asked : Addr} {fd__law_asked : FuncData} (T__law_asked : Fn K mg "_law_asked" s__law_asked ["_law_word", "_law_one", "_law_other", "_law_part", "_law_order"] f__law_asked fd__law_asked) (G__law_asked : FnOk P w K mg base (CXW P w) k f__law_asked fd__law_asked ["_law_word", "_law_one", "_law_other", "_law_part", "_law_order"] (spX m__law_asked)) (m_NoParts : mg "NoParts" = some (.ref C_NoParts)) (m_NoTable : mg "NoTable" = some (.ref C_NoTable)) (m_TooMany : mg "TooMany" = some (.ref C_TooMany)) (hO__law_asked : ∀ ds C,m__law_asked ds = some (.inr C)→C = C_NoTable∨C = C_NoParts∨C = C_TooMany) (bt_NoTable_NoTable : Beneath K C_NoTable C_NoTable true) (bt_NoParts_NoTable : Beneath K C_NoParts C_NoTable false) (bt_NoParts_NoParts : Beneath K C_NoParts C_NoParts true) (bt_TooMany_NoTable : Beneath K C_TooMany C_NoTable false) (bt_TooMany_NoParts : Beneath K C_TooMany C_NoParts false) (bt_TooMany_TooMany : Beneath K C_TooMany C_TooMany true) (ne_NoTable_NoParts : C_NoTable≠C_NoParts) (ne_NoTable_TooMany : C_NoTable≠C_TooMany) (ne_NoParts_TooMany : C_NoParts≠C_TooMany) :
    FnOk P w K mg base CX0 (k + 1) f fd ["_law_word", "_law_one", "_law_other", "_law_part", "_law_order"] (spD (m__law_refusal m__law_alone m__law_asked C_NoParts C_NoTable C_TooMany)):=okD F sy__law_refusal (ob__law_refusal T__law_alone G__law_alone T__law_asked G__law_asked m_NoParts m_NoTable m_TooMany hO__law_asked bt_NoTable_NoTable bt_NoParts_NoTable bt_NoParts_NoParts bt_TooMany_NoTable bt_TooMany_NoParts bt_TooMany_TooMany ne_NoTable_NoParts ne_NoTable_TooMany ne_NoParts_TooMany)
theorem sy__law_long : FnScope ["_law_table_here", "_law_many", "_law_rows"] ["_law_table_here", "_law_many"] (defScope s__law_long):=⟨rfl,rfl,rfl,by decide +kernel,rfl,by decide +kernel,by decide +kernel⟩
def F__law_long : DF :=
  (seqD (sOwnCut 2 (compD (set1 1) bYes (fCall dListOf (fCons (nm 1) fNil)) [none,none] (iSeq (op2 dIx (nm 0) (fC (.int 0))))) oNone (oSome (nm 1)))
  (seqD (whileD (bCmp (iCmp fun i j => decide (i < j)) (fLenOwn 2) (nm 1))
    (sApp 2 (op2 dMul (fLst (fCons (fTup (fCons (fC (.int 0)) (fCons (fC (.int 1)) fNil))) fNil)) (fLenOwn 2))) 41)
  (sFrz 2 (sRet (fTup (fCons (nm 2) (fCons (op2 dMul (fLst (fCons (fTup (fCons (fC (.int 1)) (fCons (nm 1) fNil))) fNil)) (nm 1)) fNil)))))))
def m__law_long : List PyData→Option PyData:=retD ["_law_table_here", "_law_many"] ["_law_table_here", "_law_many", "_law_rows"] (F__law_long)
theorem ob__law_long {k : Nat} (z_len : mg "len" = none) (z_list : mg "list" = none) (cdv : Value) (A : Around) (outer : List Env) (s : Shared) (H : Hp) (E : XK) (hr : Room k (A.deeper (PyProof.Rows.envOfC "_law_long" (defScope s__law_long) s.heap.objs.size f cdv))) :
    DSs (cxOf CX0 P w K mg base ["_law_table_here", "_law_many", "_law_rows"] "_law_long" (defScope s__law_long) f cdv A outer s H E).nox (defBody s__law_long) (F__law_long) := by
  have sc:=sy__law_long
  exact (dss_cons (ds_ownCut (i:=2) (de_comp [".0", "_law_row_here"] 1 [none,none] (di_seq (de_ix (de_var (pv 0)) de_int (fun _ _ => rfl))) (fun _ _ _ _ _ => dif_nil) (fun _ _ _ _ _ => (de_callTy dc_list rfl z_list PyProof.Rows.boot_list (da_cons (de_var (pv 1)) da_nil)))) do_none (do_some (de_var (pv 1))) sc.nd rfl (Or.inl rfl))
  (dss_cons (ds_while 41 PassesOwn.never (dt_cmp do_lt (de_lenOwn (pv 2) rfl z_len) (de_var (pv 1)) (nomark _))
    (dss_one (ds_append (pv 2) (de_op do_mul (de_lst (da_cons (de_tup (da_cons de_int (da_cons de_int da_nil))) da_nil)) (de_lenOwn (pv 2) rfl z_len)) (fun ho ha => ps_expr (pe_bm PySem.F.plainAttrs_list PySem.F.slot_list_append PySem.F.type_list_append mt_append ho ha)))))
  (dss_one (ds_frz 2 (ds_ret (de_tup (da_cons (de_var (pv 2)) (da_cons (de_op do_mul (de_lst (da_cons (de_tup (da_cons de_int (da_cons (de_var (pv 1)) da_nil))) da_nil)) (de_var (pv 1))) da_nil))))))))
theorem od__law_long {k : Nat} (F : Fn K mg "_law_long" s__law_long ["_law_table_here", "_law_many"] f fd) (z_len : mg "len" = none) (z_list : mg "list" = none) :
    FnOk P w K mg base CX0 (k + 1) f fd ["_law_table_here", "_law_many"] (spD (m__law_long)):=okD F sy__law_long (ob__law_long z_len z_list)
end
section
variable {P : Program} {w : World} {K : PySem.W.Frag} {mg : Str→Option Value} {base : Heap} {f : Addr} {fd : FuncData}
theorem sc__law_spoilt : FnScope ["_law_table_here", "_law_rest_here", "_law_rows", "_law_last", "_law_at", "_law_mode"] ["_law_table_here", "_law_rest_here"] (defScope s__law_spoilt):=⟨rfl,rfl,rfl,by decide +kernel,rfl,by decide +kernel,by decide +kernel⟩
def F__law_spoilt_1 : DF :=
  (seqD (sSet 4 (op2 iMod (op2 iDiv (nm 1) (fC (.int 8))) (fLenOwn 2)))
  (seqD (sSet 5 (op2 iMod (nm 1) (fC (.int 8))))
  (seqD (sIf (bCmp (dEq false) (nm 5) (fC (.int 0)))
    (sPut 2 (op2 dAdd (fIxOwn 2 (nm 4)) (fLst (fCons (fTup (fCons (fC (.int 1)) (fCons (fC (.int 2)) fNil))) fNil))) (nm 4))
    sNext)
  (seqD (sIf (bCmp (dEq false) (nm 5) (fC (.int 1)))
    (sPut 2 (op2 dIx (fLst (fCons (fCut (fIxOwn 2 (nm 4)) (oSome (fC (.int 1))) oNone) (fCons (fLst (fCons (fTup (fCons (fC (.int 0)) (fCons (fC (.int 1)) fNil))) fNil)) fNil))) (fCall dInt (fCons (op2 (dEq false) (nm 4) (fC (.int 0))) fNil))) (nm 4))
    sNext)
  (seqD (sIf (bCmp (dEq false) (nm 5) (fC (.int 2)))
    (sFrz 3 (sSet 3 (op2 dIx (fLst (fCons (op2 dAdd (nm 3) (fLst (fCons (fTup (fCons (fC (.int 0)) (fCons (fC (.int 1)) fNil))) fNil))) (fCons (fCut (nm 3) (oSome (fC (.int 1))) oNone) fNil))) (op2 iMod (op2 iDiv (nm 1) (fC (.int 64))) (fC (.int 2))))))
    sNext)
  (seqD (sIf (bCmp (dEq false) (nm 5) (fC (.int 3)))
    (sPut 3 (op2 dIx (fLst (fCons (fTup (fCons (fC (.int 2)) (fCons (fC (.int 4)) fNil))) (fCons (fTup (fCons (fC (.int 1)) (fCons (fC (.int 0)) fNil))) (fCons (fC (.int 1)) (fCons (fTup (fCons (fC (.int 1)) (fCons (fNeg (fC (.int 2))) fNil))) (fCons (fC .none) (fCons (fTup (fCons (fC (.int 1)) (fCons (fC (.int 2)) (fCons (fC (.int 3)) fNil)))) (fCons (fC (.bool true)) fNil)))))))) (op2 iMod (op2 iDiv (nm 1) (fC (.int 64))) (fC (.int 7)))) (nm 4))
    sNext)
  (seqD (sIf (bCmp (dEq false) (nm 5) (fC (.int 4)))
    (sPut 2 (fCall dTupleOf (fCons (fIxOwn 2 (nm 4)) fNil)) (nm 4))
    sNext)
  (seqD (sIf (bCmp (dEq false) (nm 5) (fC (.int 5)))
    (seqD (sOwn 2 fNil)
    (sOwn 3 fNil))
    sNext)
  (seqD (sIf (bCmp (dEq false) (nm 5) (fC (.int 6)))
    (sFrz 3 (sFrz 2 (sRet (fLst (fCons (nm 2) (fCons (nm 3) fNil))))))
    sNext)
  (seqD (sIf (bCmp (dEq false) (nm 5) (fC (.int 7)))
    (sFrz 3 (sFrz 2 (sRet (op2 dIx (fLst (fCons (fTup (fCons (nm 2) (fCons (fCall dTupleOf (fCons (nm 3) fNil)) fNil))) (fCons (fTup (fCons (nm 2) fNil)) (fCons (fC .none) (fCons (fTup (fCons (nm 2) (fCons (nm 3) (fCons (fLst fNil) fNil)))) fNil))))) (op2 iMod (op2 iDiv (nm 1) (fC (.int 64))) (fC (.int 4)))))))
    sNext)
  (sFrz 3 (sFrz 2 (sRet (fTup (fCons (nm 2) (fCons (nm 3) fNil))))))))))))))))
theorem os__law_spoilt_1 {k : Nat} (z_int : mg "int" = none) (z_len : mg "len" = none) (z_tuple : mg "tuple" = none) (cdv : Value) (A : Around) (outer : List Env) (s : Shared) (H : Hp) (E : XK) (hr : Room k (A.deeper (PyProof.Rows.envOfC "_law_spoilt" (defScope s__law_spoilt) s.heap.objs.size f cdv))) :
    DSs (cxOf CX0 P w K mg base ["_law_table_here", "_law_rest_here", "_law_rows", "_law_last", "_law_at", "_law_mode"] "_law_spoilt" (defScope s__law_spoilt) f cdv A outer s H E).nox ((defBody s__law_spoilt).drop 1) (F__law_spoilt_1) := by
  have sc:=sc__law_spoilt
  exact (dss_cons (ds_set (i:=4) sc.nd rfl (Or.inl rfl) (de_op do_iMod (de_op do_iDiv (de_var (pv 1)) de_int) (de_lenOwn (pv 2) rfl z_len)))
  (dss_cons (ds_set (i:=5) sc.nd rfl (Or.inl rfl) (de_op do_iMod (de_var (pv 1)) de_int))
  (dss_cons (ds_if (dt_cmp (do_eq (by have:=hr.units; exact this)) (de_var (pv 5)) de_int (nomark _))
    (dss_one (ds_put (pv 2) (de_var (pv 4)) (de_op do_add (de_ixOwn (pv 2) (de_var (pv 4)) (fun _ _ => rfl)) (de_lst (da_cons (de_tup (da_cons de_int (da_cons de_int da_nil))) da_nil))) (fun h1 h2 h3 => ps_asg h1 (pg_sub h2 h3 set_list))))
    dss_nil)
  (dss_cons (ds_if (dt_cmp (do_eq (by have:=hr.units; exact this)) (de_var (pv 5)) de_int (nomark _))
    (dss_one (ds_put (pv 2) (de_var (pv 4)) (de_ix (de_lst (da_cons (de_slice (de_ixOwn (pv 2) (de_var (pv 4)) (fun _ _ => rfl)) (do_some de_int) do_none) (da_cons (de_lst (da_cons (de_tup (da_cons de_int (da_cons de_int da_nil))) da_nil)) da_nil))) (de_callTy dc_int rfl z_int PyProof.Rows.boot_int (da_cons (de_cmp (do_eq (by have:=hr.units; exact this)) (de_var (pv 4)) de_int (nomark _)) da_nil)) (fun _ _ => rfl)) (fun h1 h2 h3 => ps_asg h1 (pg_sub h2 h3 set_list))))
    dss_nil)
  (dss_cons (ds_if (dt_cmp (do_eq (by have:=hr.units; exact this)) (de_var (pv 5)) de_int (nomark _))
    (dss_one (ds_frz 3 (ds_set (i:=3) sc.nd rfl (Or.inl rfl) (de_ix (de_lst (da_cons (de_op do_add (de_var (pv 3)) (de_lst (da_cons (de_tup (da_cons de_int (da_cons de_int da_nil))) da_nil))) (da_cons (de_slice (de_var (pv 3)) (do_some de_int) do_none) da_nil))) (de_op do_iMod (de_op do_iDiv (de_var (pv 1)) de_int) de_int) (fun _ _ => rfl)))))
    dss_nil)
  (dss_cons (ds_if (dt_cmp (do_eq (by have:=hr.units; exact this)) (de_var (pv 5)) de_int (nomark _))
    (dss_one (ds_put (pv 3) (de_var (pv 4)) (de_ix (de_lst (da_cons (de_tup (da_cons de_int (da_cons de_int da_nil))) (da_cons (de_tup (da_cons de_int (da_cons de_int da_nil))) (da_cons de_int (da_cons (de_tup (da_cons de_int (da_cons (de_neg de_int) da_nil))) (da_cons de_non (da_cons (de_tup (da_cons de_int (da_cons de_int (da_cons de_int da_nil)))) (da_cons de_bl da_nil)))))))) (de_op do_iMod (de_op do_iDiv (de_var (pv 1)) de_int) de_int) (fun _ _ => rfl)) (fun h1 h2 h3 => ps_asg h1 (pg_sub h2 h3 set_list))))
    dss_nil)
  (dss_cons (ds_if (dt_cmp (do_eq (by have:=hr.units; exact this)) (de_var (pv 5)) de_int (nomark _))
    (dss_one (ds_put (pv 2) (de_var (pv 4)) (de_callTy dc_tuple rfl z_tuple PyProof.Rows.boot_tuple (da_cons (de_ixOwn (pv 2) (de_var (pv 4)) (fun _ _ => rfl)) da_nil)) (fun h1 h2 h3 => ps_asg h1 (pg_sub h2 h3 set_list))))
    dss_nil)
  (dss_cons (ds_if (dt_cmp (do_eq (by have:=hr.units; exact this)) (de_var (pv 5)) de_int (nomark _))
    (dss_cons (ds_own (i:=2) sc.nd rfl (Or.inl rfl) da_nil)
    (dss_one (ds_own (i:=3) sc.nd rfl (Or.inl rfl) da_nil)))
    dss_nil)
  (dss_cons (ds_if (dt_cmp (do_eq (by have:=hr.units; exact this)) (de_var (pv 5)) de_int (nomark _))
    (dss_one (ds_frz 3 (ds_frz 2 (ds_ret (de_lst (da_cons (de_var (pv 2)) (da_cons (de_var (pv 3)) da_nil)))))))
    dss_nil)
  (dss_cons (ds_if (dt_cmp (do_eq (by have:=hr.units; exact this)) (de_var (pv 5)) de_int (nomark _))
    (dss_one (ds_frz 3 (ds_frz 2 (ds_ret (de_ix (de_lst (da_cons (de_tup (da_cons (de_var (pv 2)) (da_cons (de_callTy dc_tuple rfl z_tuple PyProof.Rows.boot_tuple (da_cons (de_var (pv 3)) da_nil)) da_nil))) (da_cons (de_tup (da_cons (de_var (pv 2)) da_nil)) (da_cons de_non (da_cons (de_tup (da_cons (de_var (pv 2)) (da_cons (de_var (pv 3)) (da_cons (de_lst da_nil) da_nil)))) da_nil))))) (de_op do_iMod (de_op do_iDiv (de_var (pv 1)) de_int) de_int) (fun _ _ => rfl))))))
    dss_nil)
  (dss_one (ds_frz 3 (ds_frz 2 (ds_ret (de_tup (da_cons (de_var (pv 2)) (da_cons (de_var (pv 3)) da_nil)))))))))))))))))
end
section
variable {P : Program} {w : World} {K : PySem.W.Frag} {mg : Str→Option Value} {base : Heap} {f : Addr} {fd : FuncData}
theorem sc_law : FnScope ["_law_script", "_law_rest_here", "_law_table_here", "_law_other", "_law_far", "_law_order", "_law_one", "_law_kept", "_law_due", "_law_word", "_law_wanted", "_law_size", "_law_some"] ["_law_script"] (defScope s_law):=⟨rfl,rfl,rfl,by decide +kernel,rfl,by decide +kernel,by decide +kernel⟩
def F_law_3 (m__law_long : List PyData→Option PyData) (m__law_refusal : List PyData→Option PyData) (m__law_spoilt : List PyData→Option PyData) : DF :=
  (seqD (sSet 4 (op2 iMod (op2 iDiv (nm 1) (fC (.int 16))) (op2 iPow (fC (.int 10)) (fC (.int 30)))))
  (seqD (sSet 5 (op2 dIx (fLst (fCons (fC (.int 1)) (fCons (fC (.int 6)) (fCons (fC (.int 0)) (fCons (fC (.int 7)) (fCons (op2 dAdd (fC (.int 8)) (nm 4)) (fCons (op2 iSub (fNeg (fC (.int 1))) (nm 4)) fNil))))))) (op2 iMod (op2 iDiv (nm 1) (fC (.int 4))) (fC (.int 6)))))
  (seqD (sSet 6 (nm 2))
  (seqD (sSet 7 (nm 2))
  (seqD (sIf (bCmp (iCmp fun i j => decide (j < i)) (op2 iMod (nm 1) (fC (.int 4))) (fC (.int 0)))
    (seqD (sSet 6 (fCall m__law_spoilt (fCons (nm 2) (fCons (op2 iDiv (nm 1) (fC (.int 64))) fNil))))
    (sSet 7 (fCall m__law_spoilt (fCons (nm 2) (fCons (op2 iDiv (nm 1) (fC (.int 64))) fNil)))))
    sNext)
  (seqD (sSet 8 (fLst (fCons (fC (.str (Str.ofString "told"))) (fCons (fC (.str (Str.ofString "told"))) (fCons (fC (.str (Str.ofString "told"))) (fCons (op2 dIx (fLst (fCons (fC (.str (Str.ofString "told"))) (fCons (fC (.str (Str.ofString "many"))) fNil))) (fCall dInt (fCons (fOr (op2 (iCmp fun i j => decide (i < j)) (nm 5) (fC (.int 1))) (op2 (iCmp fun i j => decide (j < i)) (nm 5) (fC (.int 6)))) fNil))) (fCons (fC (.str (Str.ofString "parts"))) (fCons (fC (.str (Str.ofString "parts"))) (fCons (fC (.str (Str.ofString "parts"))) (fCons (fC (.str (Str.ofString "told"))) fNil))))))))))
  (seqD (sFor (iCall rng1 (fCons (fC (.int 8)) fNil)) (setN 9)
    (seqD (sSet 10 (op2 dIx (nm 8) (nm 9)))
    (seqD (sIf (bAnd (bCmp (iCmp fun i j => decide (j < i)) (op2 iMod (nm 1) (fC (.int 4))) (fC (.int 0))) (bCmp (dIn true) (nm 9) (fLst (fCons (fC (.int 5)) (fCons (fC (.int 6)) fNil)))))
      (sSet 10 (fC (.str (Str.ofString "table"))))
      sNext)
    (sIf (bOr (bCmp (dEq true) (fCall m__law_refusal (fCons (nm 9) (fCons (nm 6) (fCons (nm 3) (fCons (fTup (fCons (fC (.int 1)) (fCons (fC (.int 3)) fNil))) (fCons (nm 5) fNil)))))) (nm 10)) (bCmp (dEq true) (nm 6) (nm 7)))
      (sRet (fC (.bool false)))
      sNext))))
  (seqD (sSet 11 (op2 dAdd (fC (.int 1)) (op2 iMod (op2 iDiv (nm 1) (fC (.int 64))) (fC (.int 39)))))
  (seqD (sSet 12 (fLst (fCons (fCall m__law_long (fCons (nm 2) (fCons (nm 11) fNil))) (fCons (fCall m__law_long (fCons (nm 3) (fCons (op2 iSub (fC (.int 40)) (nm 11)) fNil))) (fCons (fCall m__law_long (fCons (nm 3) (fCons (op2 iSub (fC (.int 41)) (nm 11)) fNil))) fNil)))))
  (seqD (sIf (bOr (bCmp (dEq true) (fCall m__law_refusal (fCons (fC (.int 0)) (fCons (op2 dIx (nm 12) (fC (.int 0))) (fCons (op2 dIx (nm 12) (fC (.int 1))) (fCons (fTup (fCons (fC (.int 1)) (fCons (fC (.int 3)) fNil))) (fCons (fC (.int 1)) fNil)))))) (fC (.str (Str.ofString "told")))) (bCmp (dEq true) (fCall m__law_refusal (fCons (fC (.int 0)) (fCons (op2 dIx (nm 12) (fC (.int 0))) (fCons (op2 dIx (nm 12) (fC (.int 2))) (fCons (fTup (fCons (fC (.int 1)) (fCons (fC (.int 3)) fNil))) (fCons (fC (.int 1)) fNil)))))) (fC (.str (Str.ofString "many")))))
    (sRet (fC (.bool false)))
    sNext)
  (seqD (sIf (bOr (bCmp (dEq true) (fCall m__law_refusal (fCons (fC (.int 2)) (fCons (op2 dIx (nm 12) (fC (.int 0))) (fCons (op2 dIx (nm 12) (fC (.int 1))) (fCons (fTup (fCons (fC (.int 1)) (fCons (fC (.int 3)) fNil))) (fCons (fC (.int 1)) fNil)))))) (fC (.str (Str.ofString "told")))) (bCmp (dEq true) (fCall m__law_refusal (fCons (fC (.int 2)) (fCons (op2 dIx (nm 12) (fC (.int 0))) (fCons (op2 dIx (nm 12) (fC (.int 2))) (fCons (fTup (fCons (fC (.int 1)) (fCons (fC (.int 3)) fNil))) (fCons (fC (.int 1)) fNil)))))) (fC (.str (Str.ofString "many")))))
    (sRet (fC (.bool false)))
    sNext)
  (sRet (op2 (dEq false) (fCall m__law_refusal (fCons (fC (.int 3)) (fCons (op2 dIx (nm 12) (fC (.int 0))) (fCons (op2 dIx (nm 12) (fC (.int 1))) (fCons (fTup (fCons (fC (.int 1)) (fCons (fC (.int 3)) fNil))) (fCons (fC (.int 1)) fNil)))))) (op2 dIx (fLst (fCons (fC (.str (Str.ofString "told"))) (fCons (fC (.str (Str.ofString "many"))) fNil))) (fCall dInt (fCons (op2 (iCmp fun i j => decide (j < i)) (nm 11) (fC (.int 13))) fNil))))))))))))))))
theorem os_law_3 {k : Nat} {m__law_long : List PyData→Option PyData} {m__law_refusal : List PyData→Option PyData} {m__law_spoilt : List PyData→Option PyData}
    {f__law_long : Addr} {fd__law_long : FuncData} (T__law_long : Fn K mg "_law_long" s__law_long ["_law_table_here", "_law_many"] f__law_long fd__law_long) (G__law_long : FnOk P w K mg base CX0 k f__law_long fd__law_long ["_law_table_here", "_law_many"] (spD m__law_long))
    {f__law_refusal : Addr} {fd__law_refusal : FuncData} (T__law_refusal : Fn K mg "_law_refusal" s__law_refusal ["_law_word", "_law_one", "_law_other", "_law_part", "_law_order"] f__law_refusal fd__law_refusal) (G__law_refusal : FnOk P w K mg base CX0 k f__law_refusal fd__law_refusal ["_law_word", "_law_one", "_law_other", "_law_part", "_law_order"] (spD m__law_refusal))
    {f__law_spoilt : Addr} {fd__law_spoilt : FuncData} (T__law_spoilt : Fn K mg "_law_spoilt" s__law_spoilt ["_law_table_here", "_law_rest_here"] f__law_spoilt fd__law_spoilt) (G__law_spoilt : FnOk P w K mg base CX0 k f__law_spoilt fd__law_spoilt ["_law_table_here", "_law_rest_here"] (spD m__law_spoilt)) (z_int : mg "int" = none) (z_range : mg "range" = none) (cdv : Value) (A : Around) (outer : List Env) (s : Shared) (H : Hp) (E : XK) (hr : Room k (A.deeper (PyProof.Rows.envOfC "law" (defScope s_law) s.heap.objs.size f cdv))) :
    DSs (cxOf CX0 P w K mg base ["_law_script", "_law_rest_here", "_law_table_here", "_law_other", "_law_far", "_law_order", "_law_one", "_law_kept", "_law_due", "_law_word", "_law_wanted", "_law_size", "_law_some"] "law" (defScope s_law) f cdv A outer s H E).nox ((defBody s_law).drop 3) (F_law_3 m__law_long m__law_refusal m__law_spoilt) := by
  have sc:=sc_law
  exact (dss_cons (ds_set (i:=4) sc.nd rfl (Or.inl rfl) (de_op do_iMod (de_op do_iDiv (de_var (pv 1)) de_int) (de_op do_iPow de_int de_int)))
  (dss_cons (ds_set (i:=5) sc.nd rfl (Or.inl rfl) (de_ix (de_lst (da_cons de_int (da_cons de_int (da_cons de_int (da_cons de_int (da_cons (de_op do_add de_int (de_var (pv 4))) (da_cons (de_op do_iSub (de_neg de_int) (de_var (pv 4))) da_nil))))))) (de_op do_iMod (de_op do_iDiv (de_var (pv 1)) de_int) de_int) (fun _ _ => rfl)))
  (dss_cons (ds_set (i:=6) sc.nd rfl (Or.inl rfl) (de_var (pv 2)))
  (dss_cons (ds_set (i:=7) sc.nd rfl (Or.inl rfl) (de_var (pv 2)))
  (dss_cons (ds_if (dt_cmp do_gt (de_op do_iMod (de_var (pv 1)) de_int) de_int (nomark _))
    (dss_cons (ds_set (i:=6) sc.nd rfl (Or.inl rfl) (de_call T__law_spoilt G__law_spoilt hr rfl (da_cons (de_var (pv 2)) (da_cons (de_op do_iDiv (de_var (pv 1)) de_int) da_nil))))
    (dss_one (ds_set (i:=7) sc.nd rfl (Or.inl rfl) (de_call T__law_spoilt G__law_spoilt hr rfl (da_cons (de_var (pv 2)) (da_cons (de_op do_iDiv (de_var (pv 1)) de_int) da_nil))))))
    dss_nil)
  (dss_cons (ds_set (i:=8) sc.nd rfl (Or.inl rfl) (de_lst (da_cons de_str (da_cons de_str (da_cons de_str (da_cons (de_ix (de_lst (da_cons de_str (da_cons de_str da_nil))) (de_callTy dc_int rfl z_int PyProof.Rows.boot_int (da_cons (de_or (de_cmp do_lt (de_var (pv 5)) de_int (nomark _)) (de_one (de_cmp do_gt (de_var (pv 5)) de_int (nomark _)))) da_nil)) (fun _ _ => rfl)) (da_cons de_str (da_cons de_str (da_cons de_str (da_cons de_str da_nil))))))))))
  (dss_cons (ds_for PassesOwn.never rfl (di_range1 rfl z_range (da_cons de_int da_nil)) (dg_name (pg_name (i:=9) sc.nd rfl (Or.inl rfl)))
    (dss_cons (ds_set (i:=10) sc.nd rfl (Or.inl rfl) (de_ix (de_var (pv 8)) (de_var (pv 9)) (fun _ _ => rfl)))
    (dss_cons (ds_if (DW.dt (dw_and (dt_cmp do_gt (de_op do_iMod (de_var (pv 1)) de_int) de_int (nomark _)) (dw_one (dt_cmp do_notin (de_var (pv 9)) (de_lst (da_cons de_int (da_cons de_int da_nil))) rfl))))
      (dss_one (ds_set (i:=10) sc.nd rfl (Or.inl rfl) de_str))
      dss_nil)
    (dss_one (ds_if (DW.dt (dw_or (dt_cmp (do_ne (by have:=hr.units; exact this)) (de_call T__law_refusal G__law_refusal hr rfl (da_cons (de_var (pv 9)) (da_cons (de_var (pv 6)) (da_cons (de_var (pv 3)) (da_cons (de_tup (da_cons de_int (da_cons de_int da_nil))) (da_cons (de_var (pv 5)) da_nil)))))) (de_var (pv 10)) (nomark _)) (dw_one (dt_cmp (do_ne (by have:=hr.units; exact this)) (de_var (pv 6)) (de_var (pv 7)) (nomark _)))))
      (dss_one (ds_ret de_bl))
      dss_nil)))))
  (dss_cons (ds_set (i:=11) sc.nd rfl (Or.inl rfl) (de_op do_add de_int (de_op do_iMod (de_op do_iDiv (de_var (pv 1)) de_int) de_int)))
  (dss_cons (ds_set (i:=12) sc.nd rfl (Or.inl rfl) (de_lst (da_cons (de_call T__law_long G__law_long hr rfl (da_cons (de_var (pv 2)) (da_cons (de_var (pv 11)) da_nil))) (da_cons (de_call T__law_long G__law_long hr rfl (da_cons (de_var (pv 3)) (da_cons (de_op do_iSub de_int (de_var (pv 11))) da_nil))) (da_cons (de_call T__law_long G__law_long hr rfl (da_cons (de_var (pv 3)) (da_cons (de_op do_iSub de_int (de_var (pv 11))) da_nil))) da_nil)))))
  (dss_cons (ds_if (DW.dt (dw_or (dt_cmp (do_ne (by have:=hr.units; exact this)) (de_call T__law_refusal G__law_refusal hr rfl (da_cons de_int (da_cons (de_ix (de_var (pv 12)) de_int (fun _ _ => rfl)) (da_cons (de_ix (de_var (pv 12)) de_int (fun _ _ => rfl)) (da_cons (de_tup (da_cons de_int (da_cons de_int da_nil))) (da_cons de_int da_nil)))))) de_str (nomark _)) (dw_one (dt_cmp (do_ne (by have:=hr.units; exact this)) (de_call T__law_refusal G__law_refusal hr rfl (da_cons de_int (da_cons (de_ix (de_var (pv 12)) de_int (fun _ _ => rfl)) (da_cons (de_ix (de_var (pv 12)) de_int (fun _ _ => rfl)) (da_cons (de_tup (da_cons de_int (da_cons de_int da_nil))) (da_cons de_int da_nil)))))) de_str (nomark _)))))
    (dss_one (ds_ret de_bl))
    dss_nil)
  (dss_cons (ds_if (DW.dt (dw_or (dt_cmp (do_ne (by have:=hr.units; exact this)) (de_call T__law_refusal G__law_refusal hr rfl (da_cons de_int (da_cons (de_ix (de_var (pv 12)) de_int (fun _ _ => rfl)) (da_cons (de_ix (de_var (pv 12)) de_int (fun _ _ => rfl)) (da_cons (de_tup (da_cons de_int (da_cons de_int da_nil))) (da_cons de_int da_nil)))))) de_str (nomark _)) (dw_one (dt_cmp (do_ne (by have:=hr.units; exact this)) (de_call T__law_refusal G__law_refusal hr rfl (da_cons de_int (da_cons (de_ix (de_var (pv 12)) de_int (fun _ _ => rfl)) (da_cons (de_ix (de_var (pv 12)) de_int (fun _ _ => rfl)) (da_cons (de_tup (da_cons de_int (da_cons de_int da_nil))) (da_cons de_int da_nil)))))) de_str (nomark _)))))
    (dss_one (ds_ret de_bl))
    dss_nil)
  (dss_one (ds_ret (de_cmp (do_eq (by have:=hr.units; exact this)) (de_call T__law_refusal G__law_refusal hr rfl (da_cons de_int (da_cons (de_ix (de_var (pv 12)) de_int (fun _ _ => rfl)) (da_cons (de_ix (de_var (pv 12)) de_int (fun _ _ => rfl)) (da_cons (de_tup (da_cons de_int (da_cons de_int da_nil))) (da_cons de_int da_nil)))))) (de_ix (de_lst (da_cons de_str (da_cons de_str da_nil))) (de_callTy dc_int rfl z_int PyProof.Rows.boot_int (da_cons (de_cmp do_gt (de_var (pv 11)) de_int (nomark _)) da_nil)) (fun _ _ => rfl)) (nomark _)))))))))))))))
end
def Tb.Fit (n : Nat) (t : Tb) : Prop:=(∀ r∈t.rs,∀ q∈r,FM.Fits q n)∧∀ q∈t.ls,FM.Fits q n
def Tb.shrunk (a : Tb) (p : Rat) : Tb:=⟨a.rs.map fun r => r.map (· * p),a.ls.map (· * p)⟩
theorem fit_map {n k : Nat} {r : List Rat} {p : Rat} (h : ∀ q∈r,FM.Fits q n) (hp : FM.Fits p k) : ∀ q∈r.map (· * p),FM.Fits q (n + k):=fun q hq => by
  obtain ⟨z,hz,rfl⟩:=List.mem_map.mp hq
  exact (h z hz).times hp
theorem Tb.Fit.shrunk {n k : Nat} {a : Tb} {p : Rat} (h : a.Fit n) (hp : FM.Fits p k) : (a.shrunk p).Fit (n + k) := by
  refine ⟨fun r hr => ?_,fit_map h.2 hp⟩
  obtain ⟨z,hz,rfl⟩:=List.mem_map.mp hr
  exact fit_map (h.1 z hz) hp
theorem Tb.Fit.behind {n : Nat} {a b : Tb} (h : a.Fit n) (k : b.Fit n) : (a.behind b).Fit n := by
  refine ⟨fun r hr => ?_,fun q hq => ?_⟩
  · rcases List.mem_append.mp hr with hr | hr
    · exact h.1 r hr
    · obtain ⟨z,hz,rfl⟩:=List.mem_map.mp hr
      intro q hq
      rcases List.mem_append.mp hq with hq | hq
      · exact h.2 q hq
      · exact k.1 z hz q hq
  · rcases List.mem_append.mp hq with hq | hq
    · exact h.2 q hq
    · exact k.2 q hq
theorem Tb.Fit.mono {n m : Nat} {a : Tb} (h : a.Fit n) (l : n≤m) : a.Fit m:=⟨fun r hr q hq => (h.1 r hr q hq).mono l,fun q hq => (h.2 q hq).mono l⟩
def ratOf : PyData→Rat
  | .tuple [.int a,.int b] => Rat.divInt a b
  | _ => 0
theorem ratOf_is (r : Rat) : ratOf (ratD r) = r:=FM.divInt_self r
theorem can_rat (r : Rat) : (ratD r).canLay0 = true := by unfold ratD; simp only [PyData.canLay0]; exact can_ints [r.num,(r.den : Int)]
theorem can_fracs (r : List Rat) : ∀ d∈fracsD r,d.canLay0 = true:=fun d hd => by obtain ⟨t,_,rfl⟩:=List.mem_map.mp hd; exact can_rat t
theorem can_row (r : List Rat) : (rowD r).canLay0 = true:=can_l (can_fracs r)
theorem can_rows (rs : List (List Rat)) : ∀ d∈rowsD rs,d.canLay0 = true:=fun d hd => by obtain ⟨t,_,rfl⟩:=List.mem_map.mp hd; exact can_row t
theorem can_tab (t : Tb) : (tabD t).canLay0 = true:=can_t fun d hd => by
  rcases List.mem_cons.mp hd with rfl | hd
  · exact can_l (can_rows _)
  · rw [List.mem_singleton.mp hd]; exact can_l (can_fracs _)
open Classical in
noncomputable def mT (ds : List PyData) : Option PyData:=match ds with
  | [x,y] => if ∃ p q,x = ratD p∧y = ratD q∧FM.Fits p 400∧FM.Fits q 400 then some (ratD (ratOf x * ratOf y)) else none
  | _ => none
theorem mT_is {p q : Rat} (hp : FM.Fits p 400) (hq : FM.Fits q 400) : mT [ratD p,ratD q] = some (ratD (p * q)) := by
  unfold mT
  refine (if_pos ⟨p,q,rfl,rfl,hp,hq⟩).trans ?_
  rw [ratOf_is,ratOf_is]
section
variable {P : Program} {w : World} {K : PySem.W.Frag} {mg : Str→Option Value} {base : Heap} {CX : CXT} {k : Nat} {f : Addr} {fd : FuncData} {ps : List Str}
theorem toT (F : FnOk P w K mg base CX k f fd ps (spOp K (fun p q => p * q) fun _ => True)) : FnOk P w K mg base CX k f fd ps (spD mT) :=
  spD_imp F fun ds x hm G H vs Q E d e kk => by
    unfold mT at hm
    split at hm
    · split at hm
      · rename_i hh
        obtain ⟨p,q,rfl,rfl,hp,hq⟩:=hh
        cases hm
        rw [ratOf_is,ratOf_is] at kk
        obtain ⟨v1,v2,rfl,d1,d2⟩:=d.un2
        obtain ⟨a,rfl,ha⟩:=(du_DU (can_rat p) (d1.same e)).rat
        obtain ⟨b,rfl,hb⟩:=(du_DU (can_rat q) (d2.same e)).rat
        refine ⟨_,_,p,q,400,rfl,.of ha,.of hb,hp,hq,by decide,trivial,fun l H' e' hl' => ?_⟩
        obtain ⟨G',n1,n2,n3,n4⟩:=tellT e e' hl' (duA_ints [(p * q).num,((p * q).den : Int)])
        exact kk _ G' H' n1 n2 n3 e' n4
      · cases hm
    · cases hm
def mFr (ds : List PyData) : Option PyData:=match ds with
  | [.int t,.int b] => if b≠0∧b.natAbs < 2 ^ 400 then some (ratD (Rat.divInt t b)) else none
  | _ => none
theorem toFr (F : FnOk P w K mg base CX k f fd ps spFr) : FnOk P w K mg base CX k f fd ps (spD mFr) :=
  spD_imp F fun ds x hm G H vs Q E d e kk => by
    unfold mFr at hm
    split at hm
    · split at hm
      · rename_i hh
        cases hm
        obtain ⟨v1,v2,rfl,d1,d2⟩:=d.un2
        rw [Du] at d1 d2
        subst d1 d2
        refine ⟨_,_,400,rfl,hh.1,by decide,hh.2,fun l H' e' hl' => ?_⟩
        obtain ⟨G',n1,n2,n3,n4⟩:=tellT e e' hl' (duA_ints [(Rat.divInt _ _).num,((Rat.divInt _ _).den : Int)])
        exact kk _ G' H' n1 n2 n3 e' n4
      · cases hm
    · cases hm
def mPw (ds : List PyData) : Option PyData:=match ds with
  | [.int b,.int p] => if b.natAbs < 2 ^ 10∧0≤p∧p≤400 then some (.int (b ^ p.toNat)) else none
  | _ => none
theorem toPw (F : FnOk P w K mg base CX k f fd ps spPow) : FnOk P w K mg base CX k f fd ps (spD mPw) :=
  spD_imp F fun ds x hm G H vs Q E d e kk => by
    unfold mPw at hm
    split at hm
    · split at hm
      · rename_i hh
        cases hm
        obtain ⟨v1,v2,rfl,d1,d2⟩:=d.un2
        rw [Du] at d1 d2
        subst d1 d2
        rename_i b p
        refine ⟨b,p.toNat,10,?_,hh.1,by omega,kk _ G H (.refl _) Nw.refl e (.refl _) (by rw [Du])⟩
        rw [show ((p.toNat : Nat) : Int) = p by omega]
      · cases hm
    · cases hm
end
theorem xOf_is {F : DF} {δ : Dv} {o : Ou} (h : F δ = some o) : xOf F δ = some (.inl o) := by show (F δ).map _ = _; rw [h]; rfl
section
variable {C C1 C2 C3 : Addr} {d : PyData} {a b : Tb} {m n : Nat}
abbrev mRT (C1 : Addr) : List PyData→Option Xr:=m_refuse_no_table (mB isTabD) C1
theorem rnt_ok (h : a.Ok m) (hm : m≤40) : mRT C [tabD a] = some (.inl .none) := by
  refine retX_nx (δ:=[.d (tabD a)]) rfl ?_
  unfold J_refuse_no_table
  exact xIf_f (bNot_is (bVal_is (fCall_is (xs:=[tabD a]) rfl (mB_v (can_tab a) (h.is hm))))) rfl
theorem rnt_no (hc : d.canLay0 = true) (h : isTabD d = false) : mRT C [d] = some (.inr C) := by
  refine retX_no rfl ?_
  unfold J_refuse_no_table
  exact xIf_t (bNot_is (bVal_is (fCall_is (xs:=[d]) rfl (mB_v hc h)))) rfl
abbrev mRM (C3 : Addr) : List PyData→Option Xr:=m_refuse_too_many_rows C3
theorem rm_ok (h : a.rs.length + b.rs.length≤40) : mRM C [.list [tabD a,tabD b]] = some (.inl .none) := by
  refine retX_nx (δ:=[.d (.list [tabD a,tabD b])]) rfl ?_
  unfold J_refuse_too_many_rows
  refine xIf_f (bCmp_is (x:=.int [((rowsD a.rs).length : Int),((rowsD b.rs).length : Int)].sum) (y:=.int 40) rfl rfl ?_) rfl
  show some (PyData.bool (decide ((40 : Int) < [((rowsD a.rs).length : Int),((rowsD b.rs).length : Int)].sum))) = _
  rw [rows_len,rows_len,decide_eq_false (by simp; omega)]
theorem rm_no (h : 40 < a.rs.length + b.rs.length) : mRM C [.list [tabD a,tabD b]] = some (.inr C) := by
  refine retX_no rfl ?_
  unfold J_refuse_too_many_rows
  refine xIf_t (bCmp_is (x:=.int [((rowsD a.rs).length : Int),((rowsD b.rs).length : Int)].sum) (y:=.int 40) rfl rfl ?_) rfl
  show some (PyData.bool (decide ((40 : Int) < [((rowsD a.rs).length : Int),((rowsD b.rs).length : Int)].sum))) = _
  rw [rows_len,rows_len,decide_eq_true (by simp; omega)]
abbrev mBe (C1 C3 : Addr) : List PyData→Option Xr:=m_table_behind (mRT C1) (mRM C3)
theorem be_no1 {e : PyData} (hc : d.canLay0 = true) (h : isTabD d = false) : mBe C1 C3 [d,e] = some (.inr C1) := by
  refine retX_no rfl ?_
  unfold J_table_behind
  exact seqX_no (xCall_no (ds:=[d]) rfl (rnt_no hc h))
theorem be_no2 (ha : a.Ok m) (hm : m≤40) (hc : d.canLay0 = true) (h : isTabD d = false) : mBe C1 C3 [tabD a,d] = some (.inr C1) := by
  refine retX_no rfl ?_
  unfold J_table_behind
  exact seqX_nx (xCall_in (ds:=[tabD a]) rfl (rnt_ok ha hm)) (seqX_no (xCall_no (ds:=[d]) rfl (rnt_no hc h)))
theorem be_many (ha : a.Ok m) (hm : m≤40) (hb : b.Ok n) (hn : n≤40) (h : 40 < a.rs.length + b.rs.length) : mBe C1 C3 [tabD a,tabD b] = some (.inr C3) := by
  refine retX_no rfl ?_
  unfold J_table_behind
  exact seqX_nx (xCall_in (ds:=[tabD a]) rfl (rnt_ok ha hm)) (seqX_nx (xCall_in (ds:=[tabD b]) rfl (rnt_ok hb hn)) (seqX_no (xCall_no (ds:=[.list [tabD a,tabD b]]) rfl (rm_no h))))
def asRow (ls : List Rat) : PyData→PyData
  | .list r => .list (fracsD ls ++ r)
  | d => d
theorem rows_id (rs : List (List Rat)) : ∀ x∈rowsD rs,dListOf [x] = some x:=fun x hx => by obtain ⟨r,_,rfl⟩:=List.mem_map.mp hx; rfl
theorem be_is (ha : a.Ok m) (hm : m≤40) (hb : b.Ok n) (hn : n≤40) (h : a.rs.length + b.rs.length≤40) : mBe C1 C3 [tabD a,tabD b] = some (.inl (tabD (a.behind b))) := by
  have hal:=ha.last
  have hbl:=hb.last
  refine retX_rt rfl ?_
  unfold J_table_behind
  refine seqX_nx (xCall_in (ds:=[tabD a]) rfl (rnt_ok ha hm)) (seqX_nx (xCall_in (ds:=[tabD b]) rfl (rnt_ok hb hn)) (seqX_nx (xCall_in (ds:=[.list [tabD a,tabD b]]) rfl (rm_ok h)) ?_))
  refine xOf_is ?_
  have eR : rowsD (a.behind b).rs = (rowsD a.rs).map id ++ (rowsD b.rs).map (asRow a.ls) := by
    rw [List.map_id,Tb.behind,rowsD,List.map_append]
    congr 1
    rw [rowsD,List.map_map,List.map_map]
    exact List.map_congr_left fun r _ => by show rowD (a.ls ++ r) = .list (fracsD a.ls ++ fracsD r); rw [rowD,fracs_app]
  refine seqD_nx (sSet_is (y:=.list (rowsD (a.behind b).rs)) ?_) (sRet_is (fTup_is (fCons_is rfl (fCons_is (x:=.list (fracsD (a.behind b).ls)) (op2_is (x:=.list (fracsD a.ls)) (y:=.list (fracsD b.ls)) rfl rfl ?_) rfl)) (show 2≤1000 by decide)))
  · rw [eR]
    refine op2_is (comp_map (xs:=rowsD a.rs) (g:=id) rfl (by rw [rows_len]; unfold dMax; omega) fun x hx => fCall_is (xs:=[x]) rfl (rows_id _ x hx)) (comp_map (xs:=rowsD b.rs) (g:=asRow a.ls) rfl (by rw [rows_len]; unfold dMax; omega) fun x hx => ?_) (add_l (by rw [List.length_map,List.length_map,rows_len,rows_len]; unfold dMax; omega))
    obtain ⟨r,hr,rfl⟩:=List.mem_map.mp hx
    have:=hb.lens r hr
    exact op2_is (x:=.list (fracsD a.ls)) (y:=rowD r) rfl rfl (add_l (by rw [fracs_len,fracs_len]; unfold dMax; omega))
  · refine (add_l (by rw [fracs_len,fracs_len]; unfold dMax; omega)).trans ?_
    rw [Tb.behind,fracs_app]
end
section
variable {C C1 C2 C3 : Addr} {d : PyData} {a b : Tb} {m n : Nat}
noncomputable abbrev mSc : List PyData→Option PyData:=m_scaled mT
theorem scl_is {r : List Rat} {p : Rat} (hl : r.length≤60) (hr : ∀ q∈r,FM.Fits q 400) (hp : FM.Fits p 400) : mSc [rowD r,ratD p] = some (rowD (r.map (· * p))) := by
  have:=compL_map (ix:=1) (δ:=[.d (rowD r),.d (ratD p)]) (fs:=iSeq (nm 0)) (f:=fCall mT (fCons (nm 1) (fCons (nm 2) fNil))) (fr:=[none,none,some 1]) (xs:=fracsD r) (g:=fun x => ratD (ratOf x * p)) rfl (by rw [fracs_len]; unfold dMax; omega) fun x hx => by
    obtain ⟨q,hq,rfl⟩:=List.mem_map.mp hx
    rw [ratOf_is]
    exact fCall_is (xs:=[ratD q,ratD p]) rfl (mT_is (hr q hq) hp)
  have e : (fracsD r).map (fun x => ratD (ratOf x * p)) = fracsD (r.map (· * p)) := by
    rw [fracsD,fracsD,List.map_map,List.map_map]
    exact List.map_congr_left fun q _ => by show ratD (ratOf (ratD q) * p) = ratD (q * p); rw [ratOf_is]
  rw [e] at this
  refine retD_rn rfl ?_
  unfold F_scaled
  show (compL (set1 1) bYes (fCall mT (fCons (nm 1) (fCons (nm 2) fNil))) [none,none,some 1] (iSeq (nm 0)) [.d (rowD r),.d (ratD p)]).map Ou.rn = _
  rw [this]; rfl
noncomputable abbrev mSh (C1 : Addr) : List PyData→Option Xr:=m_table_shrunk (mRT C1) mSc
theorem sh_no {e : PyData} (hc : d.canLay0 = true) (h : isTabD d = false) : mSh C1 [d,e] = some (.inr C1) := by
  refine retX_no rfl ?_
  unfold J_table_shrunk
  exact seqX_no (xCall_no (ds:=[d]) rfl (rnt_no hc h))
def times (p : Rat) : PyData→PyData
  | .list r => .list (r.map fun x => ratD (ratOf x * p))
  | d => d
theorem times_row (p : Rat) (r : List Rat) : times p (rowD r) = rowD (r.map (· * p)) := by
  show PyData.list ((fracsD r).map fun x => ratD (ratOf x * p)) = _
  rw [rowD,fracsD,fracsD,List.map_map,List.map_map]
  congr 1
  exact List.map_congr_left fun q _ => by show ratD (ratOf (ratD q) * p) = ratD (q * p); rw [ratOf_is]
theorem sh_is {p : Rat} (ha : a.Ok m) (hm : m≤40) (hf : a.Fit 400) (hp : FM.Fits p 400) : mSh C1 [tabD a,ratD p] = some (.inl (tabD (a.shrunk p))) := by
  have hal:=ha.last
  have ham:=ha.most
  refine retX_rt rfl ?_
  unfold J_table_shrunk
  refine seqX_nx (xCall_in (ds:=[tabD a]) rfl (rnt_ok ha hm)) (xOf_is (sRet_is (fTup_is (fCons_is (x:=.list (rowsD (a.shrunk p).rs)) ?_ (fCons_is (x:=.list (fracsD (a.shrunk p).ls)) ?_ rfl)) (show 2≤1000 by decide))))
  · have e : rowsD (a.shrunk p).rs = (rowsD a.rs).map (times p) := by
      rw [Tb.shrunk,rowsD,rowsD,List.map_map,List.map_map]
      exact List.map_congr_left fun r _ => (times_row p r).symm
    rw [e]
    refine comp_map (xs:=rowsD a.rs) (g:=times p) rfl (by rw [rows_len]; unfold dMax; omega) fun x hx => ?_
    obtain ⟨r,hr,rfl⟩:=List.mem_map.mp hx
    rw [times_row]
    have:=ha.lens r hr
    exact fCall_is (xs:=[rowD r,ratD p]) rfl (scl_is (by omega) (hf.1 r hr) hp)
  · exact fCall_is (xs:=[rowD a.ls,ratD p]) rfl (scl_is (r:=a.ls) (by omega) hf.2 hp)
noncomputable abbrev mMx (C1 C2 C3 : Addr) : List PyData→Option Xr:=m_table_mixed (mRT C1) (mRM C3) mSc C2
theorem mx_for (ts : List Tb) (ps : PyData) (h : ∀ t∈ts,∃ m,t.Ok m∧m≤40) : ∃ l,xFor (iSeq (nm 0)) (setN 2) (xCall (mRT C1) (fCons (nm 2) fNil) fun _ δ => .nx δ) [.d (.list (ts.map tabD)),.d ps,.no,.no,.no,.no,.no] = some (.inl (.nx [.d (.list (ts.map tabD)),.d ps,l,.no,.no,.no,.no])) := by
  obtain ⟨δ',h1,⟨l,rfl⟩⟩:=forX_all (set:=setN 2) (J:=xCall (mRT C1) (fCons (nm 2) fNil) fun _ δ => .nx δ) (xs:=ts.map tabD) (δ:=[.d (.list (ts.map tabD)),.d ps,.no,.no,.no,.no,.no]) (fun δ => ∃ l,δ = [.d (.list (ts.map tabD)),.d ps,l,.no,.no,.no,.no]) (fun x hx δ hv => by
    obtain ⟨l,rfl⟩:=hv
    obtain ⟨t,ht,rfl⟩:=List.mem_map.mp hx
    obtain ⟨m,h1,h2⟩:=h t ht
    exact ⟨_,_,rfl,xCall_in (ds:=[tabD t]) rfl (rnt_ok h1 h2),_,rfl⟩) ⟨_,rfl⟩
  exact ⟨l,h1⟩
theorem mx_no2 {ps : PyData} (ha : a.Ok m) (hm : m≤40) (hc : d.canLay0 = true) (h : isTabD d = false) : mMx C1 C2 C3 [.list [tabD a,d],ps] = some (.inr C1) := by
  refine retX_no rfl ?_
  unfold J_table_mixed
  refine seqX_no ?_
  refine forX_no (set:=setN 2) (xs:=[tabD a,d]) (fun δ => ∃ l,δ = [.d (.list [tabD a,d]),.d ps,l,.no,.no,.no,.no]) (fun x hx δ hv => ?_) ⟨d,.tail _ (.head _),fun δ hv => ?_⟩ ⟨_,rfl⟩
  · obtain ⟨l,rfl⟩:=hv
    rcases List.mem_cons.mp hx with rfl | hx
    · exact ⟨_,rfl,.inl ⟨_,xCall_in (ds:=[tabD a]) rfl (rnt_ok ha hm),_,rfl⟩⟩
    · rw [List.mem_singleton.mp hx]
      exact ⟨_,rfl,.inr (xCall_no (ds:=[d]) rfl (rnt_no hc h))⟩
  · obtain ⟨l,rfl⟩:=hv
    exact ⟨_,rfl,xCall_no (ds:=[d]) rfl (rnt_no hc h)⟩
theorem mx_no11 {ps : PyData} (hc : d.canLay0 = true) (h : isTabD d = false) : mMx C1 C2 C3 [.list [d,d],ps] = some (.inr C1) := by
  refine retX_no rfl ?_
  unfold J_table_mixed
  refine seqX_no ?_
  exact forX_no (set:=setN 2) (xs:=[d,d]) (fun δ => ∃ l,δ = [.d (.list [d,d]),.d ps,l,.no,.no,.no,.no]) (fun x hx δ hv => by
    obtain ⟨l,rfl⟩:=hv
    obtain rfl : x = d := by rcases List.mem_cons.mp hx with rfl | hx; rfl; exact List.mem_singleton.mp hx
    exact ⟨_,rfl,.inr (xCall_no (ds:=[x]) rfl (rnt_no hc h))⟩) ⟨d,.head _,fun δ hv => by
    obtain ⟨l,rfl⟩:=hv
    exact ⟨_,rfl,xCall_no (ds:=[d]) rfl (rnt_no hc h)⟩⟩ ⟨_,rfl⟩
theorem eq_ints (x y : Int) : dEq false (.int x) (.int y) = some (.bool (decide (x = y))) := by
  have h : SeqAt.shaped (.int x) = true∧SeqAt.shaped (.int y) = true:=⟨(Ok.int (n:=0)).shaped (by decide),(Ok.int (n:=0)).shaped (by decide)⟩
  refine (if_pos h).trans ?_
  simp [PyData.eqv]
  exact Bool.eq_iff_iff.mpr (by simp)
theorem ne_ints (x y : Int) : dEq true (.int x) (.int y) = some (.bool (!decide (x = y))) := by
  have h : SeqAt.shaped (.int x) = true∧SeqAt.shaped (.int y) = true:=⟨(Ok.int (n:=0)).shaped (by decide),(Ok.int (n:=0)).shaped (by decide)⟩
  refine (if_pos h).trans ?_
  simp [PyData.eqv]
  exact Bool.eq_iff_iff.mpr (by simp)
theorem mx_parts (ts : List Tb) (qs : List PyData) (h : ∀ t∈ts,∃ m,t.Ok m∧m≤40) (hl : ts.length = 0∨ts.length≠qs.length) : mMx C1 C2 C3 [.list (ts.map tabD),.list qs] = some (.inr C2) := by
  obtain ⟨l,h1⟩:=mx_for (C1:=C1) ts (.list qs) h
  refine retX_no rfl ?_
  unfold J_table_mixed
  refine seqX_nx h1 (seqX_no (xIf_t ?_ rfl))
  have e0 : bCmp (dEq false) (fCall dLen (fCons (nm 0) fNil)) (fC (.int 0)) [.d (.list (ts.map tabD)),.d (.list qs),l,.no,.no,.no,.no] = some (decide (((ts.map tabD).length : Int) = 0)) := bCmp_is (x:=.int ((ts.map tabD).length : Nat)) (y:=.int 0) rfl rfl (eq_ints _ _)
  have e1 : bCmp (dEq true) (fCall dLen (fCons (nm 0) fNil)) (fCall dLen (fCons (nm 1) fNil)) [.d (.list (ts.map tabD)),.d (.list qs),l,.no,.no,.no,.no] = some (!decide (((ts.map tabD).length : Int) = (qs.length : Nat))) := bCmp_is (x:=.int ((ts.map tabD).length : Nat)) (y:=.int (qs.length : Nat)) rfl rfl (ne_ints _ _)
  rw [List.length_map] at e0 e1
  by_cases z : ts.length = 0
  · rw [decide_eq_true (by omega)] at e0
    exact bOr_t e0
  · rw [decide_eq_false (by omega)] at e0
    refine bOr_f e0 (e1.trans ?_)
    rcases hl with hl | hl
    · exact absurd hl z
    · rw [decide_eq_false (by omega)]; rfl
theorem mx_two {t1 t2 : Tb} {q1 q2 : PyData} {m1 m2 : Nat} (h1 : t1.Ok m1) (k1 : m1≤40) (h2 : t2.Ok m2) (k2 : m2≤40) {r : Option OuX} (k : ∀ l,seqX (xCall (mRM C3) (fCons (nm 0) fNil) fun _ δ => .nx δ)
    (xOf (seqD (sOwn 3 fNil)
    (seqD (sOwn 4 fNil)
    (seqD (sFor (iCall zip2 (fCons (nm 0) (fCons (nm 1) fNil))) (set2 2 5)
      (seqD (sSet 6 (op2 dMul (fLst (fCons (fTup (fCons (fC (.int 0)) (fCons (fC (.int 1)) fNil))) fNil)) (fLenOwn 4)))
      (seqD (sExt 3 (compD (set1 1) bYes (op2 dAdd (nm 2) (nm 1)) [none,none,some 6] (iSeq (op2 dIx (nm 2) (fC (.int 0))))))
      (sExt 4 (fCall mSc (fCons (op2 dIx (nm 2) (fC (.int 1))) (fCons (nm 5) fNil)))))))
    (sFrz 4 (sFrz 3 (sRet (fTup (fCons (nm 3) (fCons (nm 4) fNil)))))))))) [.d (.list [tabD t1,tabD t2]),.d (.list [q1,q2]),l,.no,.no,.no,.no] = r) :
    J_table_mixed (mRT C1) (mRM C3) mSc C2 [.d (.list [tabD t1,tabD t2]),.d (.list [q1,q2]),.no,.no,.no,.no,.no] = r := by
  obtain ⟨l,e1⟩:=mx_for (C1:=C1) [t1,t2] (.list [q1,q2]) (fun t ht => by
    rcases List.mem_cons.mp ht with rfl | ht
    · exact ⟨_,h1,k1⟩
    · rw [List.mem_singleton.mp ht]; exact ⟨_,h2,k2⟩)
  unfold J_table_mixed
  refine seqX_nx e1 (seqX_nx (xIf_f (bOr_f (bCmp_is (x:=.int 2) (y:=.int 0) rfl rfl (eq_ints _ _)) (bCmp_is (x:=.int 2) (y:=.int 2) rfl rfl (ne_ints _ _))) rfl) (k l))
theorem mx_many {t1 t2 : Tb} {q1 q2 : PyData} {m1 m2 : Nat} (h1 : t1.Ok m1) (k1 : m1≤40) (h2 : t2.Ok m2) (k2 : m2≤40) (h : 40 < t1.rs.length + t2.rs.length) : mMx C1 C2 C3 [.list [tabD t1,tabD t2],.list [q1,q2]] = some (.inr C3) :=
  retX_no rfl (mx_two h1 k1 h2 k2 fun l => seqX_no (xCall_no (ds:=[.list [tabD t1,tabD t2]]) rfl (rm_no h)))
end
def half : Rat:=⟨1,2,by decide,by decide⟩
theorem fits_half : FM.Fits half 4:=⟨by decide,by decide⟩
def great (o : Nat) : Int:=2 ^ o
theorem great_is {o : Nat} (h1 : 1≤o) (h6 : o≤6) : 2≤great o∧great o≤64 := by
  match o,h1,h6 with
  | 1,_,_ => exact ⟨by decide,by decide⟩
  | 2,_,_ => exact ⟨by decide,by decide⟩
  | 3,_,_ => exact ⟨by decide,by decide⟩
  | 4,_,_ => exact ⟨by decide,by decide⟩
  | 5,_,_ => exact ⟨by decide,by decide⟩
  | 6,_,_ => exact ⟨by decide,by decide⟩
def pg (o : Nat) : Rat:=Rat.divInt (great o) (great o - 1)
def ph (o : Nat) : Rat:=Rat.divInt (-1) (great o - 1)
theorem pg_fits {o : Nat} (h1 : 1≤o) (h6 : o≤6) : FM.Fits (pg o) 8 := by
  have:=great_is h1 h6
  exact .of_div (by omega) (by omega) (by omega)
theorem ph_fits {o : Nat} (h1 : 1≤o) (h6 : o≤6) : FM.Fits (ph o) 8 := by
  have:=great_is h1 h6
  exact .of_div (by omega) (by decide) (by omega)
section
variable {C C1 C2 C3 : Addr} {d : PyData} {a b : Tb} {m n : Nat}
def zeroT : PyData:=.tuple [.int 0,.int 1]
def behindL (u : List PyData) : PyData→PyData
  | .list r => .list (u ++ r)
  | d => d
theorem rep_is (x : PyData) (n : Nat) (h : n≤500) : dMul (.list [x]) (.int (n : Nat)) = some (.list (List.replicate n [x]).flatten) := by
  show (match iMul (.list [x]) (.int (n : Nat)) with | some z => some z | none => lRep (.list [x]) (.int (n : Nat))) = _
  exact if_pos ⟨by unfold dMax; simp; omega,by omega,by omega⟩
theorem flat1 (n : Nat) (x : PyData) : (List.replicate n [x]).flatten = List.replicate n x := by
  induction n with
  | zero => rfl
  | succ n ih => rw [List.replicate_succ,List.flatten_cons,ih]; rfl
theorem ext_is {i : Nat} {f : Dv→Option PyData} {δ : Dv} {xs zs : List PyData} (h : f δ = some (.list zs)) (k : ow i δ = some xs) (hl : xs.length + zs.length≤dMax) : sExt i f δ = some (.nx (δ.set i (.own (.lst (xs ++ zs))))) := by
  show (f δ).bind _ = _
  rw [h]
  show (ow i δ).bind _ = _
  rw [k]
  exact if_pos hl
theorem mix_step {ts ps : PyData} {t : Tb} {R Ls : List PyData} {p : Rat} {l6 : L} (ht : t.Ok m) (hm : m≤40) (hf : t.Fit 400) (hp : FM.Fits p 400) (hR : R.length≤80) (hL : Ls.length≤80) :
    ∃ δ2,(seqD (sSet 6 (op2 dMul (fLst (fCons (fTup (fCons (fC (.int 0)) (fCons (fC (.int 1)) fNil))) fNil)) (fLenOwn 4)))
      (seqD (sExt 3 (compD (set1 1) bYes (op2 dAdd (nm 2) (nm 1)) [none,none,some 6] (iSeq (op2 dIx (nm 2) (fC (.int 0))))))
      (sExt 4 (fCall mSc (fCons (op2 dIx (nm 2) (fC (.int 1))) (fCons (nm 5) fNil)))))) [.d ts,.d ps,.d (tabD t),.own (.lst R),.own (.lst Ls),.d (ratD p),l6] = some (.nx δ2) ∧
      ∃ l2 R' L' l5 l6,δ2 = [.d ts,.d ps,l2,.own (.lst R'),.own (.lst L'),l5,l6]∧R'.length≤R.length + 40∧L'.length≤Ls.length + 40 := by
  have hl:=ht.last
  have hmo:=ht.most
  refine ex_nx (sSet_is (y:=.list (List.replicate Ls.length [zeroT]).flatten) (op2_is (x:=.list [zeroT]) (y:=.int (Ls.length : Nat)) rfl rfl (rep_is _ _ (by omega)))) ?_
  refine ex_nx (ext_is (zs:=(rowsD t.rs).map (behindL (List.replicate Ls.length [zeroT]).flatten)) (xs:=R) (comp_map (xs:=rowsD t.rs) (g := behindL (List.replicate Ls.length [zeroT]).flatten) rfl (by rw [rows_len]; unfold dMax; omega) fun x hx => ?_) rfl (by rw [List.length_map,rows_len]; unfold dMax; omega)) ?_
  · obtain ⟨r,hr,rfl⟩:=List.mem_map.mp hx
    have:=ht.lens r hr
    exact op2_is (x:=.list (List.replicate Ls.length [zeroT]).flatten) (y:=rowD r) rfl rfl (add_l (by rw [fracs_len,flat1,List.length_replicate]; unfold dMax; omega))
  · refine ⟨_,ext_is (zs:=fracsD (t.ls.map (· * p))) (xs:=Ls) (fCall_is (xs:=[rowD t.ls,ratD p]) rfl (scl_is (by omega) hf.2 hp)) rfl (by rw [fracs_len,List.length_map]; unfold dMax; omega),_,_,_,_,_,rfl,?_,?_⟩
    · rw [List.length_append,List.length_map,rows_len]; omega
    · rw [List.length_append,fracs_len,List.length_map]; omega
theorem mx_told {t1 t2 : Tb} {p1 p2 : Rat} {m1 m2 : Nat} (h1 : t1.Ok m1) (k1 : m1≤40) (h2 : t2.Ok m2) (k2 : m2≤40) (f1 : t1.Fit 400) (f2 : t2.Fit 400) (g1 : FM.Fits p1 400) (g2 : FM.Fits p2 400) (h : t1.rs.length + t2.rs.length≤40) : ∃ y,mMx C1 C2 C3 [.list [tabD t1,tabD t2],.list [ratD p1,ratD p2]] = some (.inl y) := by
  suffices hh : ∃ y,J_table_mixed (mRT C1) (mRM C3) mSc C2 [.d (.list [tabD t1,tabD t2]),.d (.list [ratD p1,ratD p2]),.no,.no,.no,.no,.no] = some (.inl (.rt y)) by
    obtain ⟨y,hy⟩:=hh
    exact ⟨y,retX_rt rfl hy⟩
  have loop : ∀ l,∃ δ',sFor (iCall zip2 (fCons (nm 0) (fCons (nm 1) fNil))) (set2 2 5)
      (seqD (sSet 6 (op2 dMul (fLst (fCons (fTup (fCons (fC (.int 0)) (fCons (fC (.int 1)) fNil))) fNil)) (fLenOwn 4)))
      (seqD (sExt 3 (compD (set1 1) bYes (op2 dAdd (nm 2) (nm 1)) [none,none,some 6] (iSeq (op2 dIx (nm 2) (fC (.int 0))))))
      (sExt 4 (fCall mSc (fCons (op2 dIx (nm 2) (fC (.int 1))) (fCons (nm 5) fNil)))))) [.d (.list [tabD t1,tabD t2]),.d (.list [ratD p1,ratD p2]),l,.own (.lst []),.own (.lst []),.no,.no] = some (.nx δ') ∧
      ∃ l2 R L l5 l6,δ' = [.d (.list [tabD t1,tabD t2]),.d (.list [ratD p1,ratD p2]),l2,.own (.lst R),.own (.lst L),l5,l6]:=fun l => by
    refine for_exQ (xs:=[.tuple [tabD t1,ratD p1],.tuple [tabD t2,ratD p2]]) (fun i δ => ∃ l2 R L l5 l6,δ = [.d (.list [tabD t1,tabD t2]),.d (.list [ratD p1,ratD p2]),l2,.own (.lst R),.own (.lst L),l5,l6]∧R.length≤40 * i∧L.length≤40 * i) rfl ⟨_,_,_,_,_,rfl,by simp,by simp⟩ ?_ (fun δ ⟨a,b,c,d,e,h,_⟩ => ⟨a,b,c,d,e,h⟩)
    rintro i x δ hx ⟨l2,R,Lw,l5,l6,rfl,hR,hL⟩
    have key : ∃ (t : Tb) (p : Rat) (mm : Nat),x = .tuple [tabD t,ratD p]∧t.Ok mm∧mm≤40∧t.Fit 400∧FM.Fits p 400∧i < 2 := by
      rcases i with _ | _ | i
      · cases hx; exact ⟨_,_,_,rfl,h1,k1,f1,g1,by decide⟩
      · cases hx; exact ⟨_,_,_,rfl,h2,k2,f2,g2,by decide⟩
      · simp at hx
    obtain ⟨t,p,mm,rfl,q1,q2,q3,q4,q5⟩:=key
    obtain ⟨δ2,e1,l2',R',L',l5',l6',rfl,e2,e3⟩:=mix_step (ts:=.list [tabD t1,tabD t2]) (ps:=.list [ratD p1,ratD p2]) (R:=R) (Ls:=Lw) (l6:=l6) q1 q2 q3 q4 (by omega) (by omega)
    exact ⟨_,rfl,_,e1,_,_,_,_,_,rfl,by omega,by omega⟩
  have:=fun r => mx_two (C1:=C1) (C2:=C2) (C3:=C3) (q1:=ratD p1) (q2:=ratD p2) (r:=r) h1 k1 h2 k2
  obtain ⟨l0,e1⟩:=mx_for (C1:=C1) [t1,t2] (.list [ratD p1,ratD p2]) (fun t ht => by
    rcases List.mem_cons.mp ht with rfl | ht
    · exact ⟨_,h1,k1⟩
    · rw [List.mem_singleton.mp ht]; exact ⟨_,h2,k2⟩)
  obtain ⟨δ',e2,l2,R,Lw,l5,l6,rfl⟩:=loop l0
  refine ⟨.tuple [.list R,.list Lw],?_⟩
  unfold J_table_mixed
  refine seqX_nx e1 (seqX_nx (xIf_f (bOr_f (bCmp_is (x:=.int 2) (y:=.int 0) rfl rfl (eq_ints _ _)) (bCmp_is (x:=.int 2) (y:=.int 2) rfl rfl (ne_ints _ _))) rfl) (seqX_nx (xCall_in (ds:=[.list [tabD t1,tabD t2]]) rfl (rm_ok h)) (xOf_is (seqD_nx rfl (seqD_nx rfl (seqD_nx e2 rfl))))))
end
section
variable {C C1 C2 C3 : Addr} {d : PyData} {a b : Tb} {m n : Nat}
noncomputable abbrev mSp (C1 C2 C3 : Addr) : List PyData→Option Xr:=m_table_sharpened mFr mPw (mRT C1) (mBe C1 C3) (mMx C1 C2 C3) (mSh C1) C3
theorem sp_no {e : PyData} (hc : d.canLay0 = true) (h : isTabD d = false) : mSp C1 C2 C3 [d,e] = some (.inr C1) := by
  refine retX_no rfl ?_
  unfold J_table_sharpened
  exact seqX_no (xCall_no (ds:=[d]) rfl (rnt_no hc h))
theorem sp_order {o : Int} (ha : a.Ok m) (hm : m≤40) (h : o < 1∨6 < o) : mSp C1 C2 C3 [tabD a,.int o] = some (.inr C3) := by
  refine retX_no rfl ?_
  unfold J_table_sharpened
  refine seqX_nx (xCall_in (ds:=[tabD a]) rfl (rnt_ok ha hm)) (seqX_no (xIf_t ?_ rfl))
  by_cases z : o < 1
  · exact bOr_t (bCmp_is (x:=.int o) (y:=.int 1) rfl rfl (show some (PyData.bool (decide (o < 1))) = _ by rw [decide_eq_true z]))
  · exact bOr_f (bCmp_is (x:=.int o) (y:=.int 1) rfl rfl (show some (PyData.bool (decide (o < 1))) = _ by rw [decide_eq_false z])) (bCmp_is (x:=.int o) (y:=.int 6) rfl rfl (show some (PyData.bool (decide ((6 : Int) < o))) = _ by rw [decide_eq_true (by omega)]))
theorem shr_len (t : Tb) (p : Rat) : (t.shrunk p).rs.length = t.rs.length := by simp [Tb.shrunk]
theorem shr_ok {p : Rat} (ha : a.Ok m) : (a.shrunk p).Ok m := by
  refine ⟨by rw [shr_len]; exact ha.one,by rw [shr_len]; exact ha.most,by simp [Tb.shrunk,ha.last],fun i r hr => ?_⟩
  unfold Tb.shrunk at hr
  simp only [List.getElem?_map] at hr
  obtain ⟨q,h1,rfl⟩:=Option.map_eq_some_iff.mp hr
  rw [List.length_map]
  exact ha.row i q h1
theorem beh_len (s t : Tb) : (s.behind t).rs.length = s.rs.length + t.rs.length := by simp [Tb.behind]
theorem sp_to {o : Nat} (h1 : 1≤o) (h6 : o≤6) (ha : a.Ok m) (hm : m≤40) (hf : a.Fit 200) {r : Option OuX}
    (k : xE (mapX (consX (mapX (consX (mapX (aOf (fCons (nm 2) (fCons (nm 2) fNil))) (mBe C1 C3)) (aOf (fCons (nm 0) fNil))) fun xs => (few xs).map fun ys => .inl (.list ys)) (aOf (fCons (nm 4) fNil))) (mMx C1 C2 C3)) (fun x _ => .rt x) [.d (tabD a),.d (.int (o : Nat)),.d (tabD (a.shrunk half)),.d (.int (great o)),.d (.list [ratD (pg o),ratD (ph o)])] = r) :
    J_table_sharpened mFr mPw (mRT C1) (mBe C1 C3) (mMx C1 C2 C3) (mSh C1) C3 [.d (tabD a),.d (.int (o : Nat)),.no,.no,.no] = r := by
  have hg:=great_is h1 h6
  unfold J_table_sharpened
  refine seqX_nx (xCall_in (ds:=[tabD a]) rfl (rnt_ok ha hm)) (seqX_nx (xIf_f (bOr_f (bCmp_is (x:=.int (o : Nat)) (y:=.int 1) rfl rfl (show some (PyData.bool (decide (((o : Nat) : Int) < 1))) = _ by rw [decide_eq_false (by omega)])) (bCmp_is (x:=.int (o : Nat)) (y:=.int 6) rfl rfl (show some (PyData.bool (decide ((6 : Int) < ((o : Nat) : Int)))) = _ by rw [decide_eq_false (by omega)]))) rfl) ?_)
  refine seqX_nx (xCall_in (ds:=[tabD a,ratD half]) (y:=tabD (a.shrunk half)) rfl (sh_is ha hm (hf.mono (by decide)) (fits_half.mono (by decide)))) ?_
  refine seqX_nx (xOf_is (sSet_is (y:=.int (great o)) (fCall_is (xs:=[.int 2,.int (o : Nat)]) rfl ?_))) ?_
  · refine (if_pos ⟨by decide,by omega,by omega⟩).trans ?_
    rw [Int.toNat_natCast]; rfl
  refine seqX_nx (xOf_is (sSet_is (y:=.list [ratD (pg o),ratD (ph o)]) (fLst_is (fCons_is (x:=ratD (pg o)) (fCall_is (xs:=[.int (great o),.int (great o - 1)]) rfl ?_) (fCons_is (x:=ratD (ph o)) (fCall_is (xs:=[.int (-1),.int (great o - 1)]) rfl ?_) rfl)) (show 2≤1000 by decide)))) k
  · exact if_pos ⟨by omega,Nat.lt_of_le_of_lt (show (great o - 1).natAbs≤63 by omega) (by decide)⟩
  · exact if_pos ⟨by omega,Nat.lt_of_le_of_lt (show (great o - 1).natAbs≤63 by omega) (by decide)⟩
theorem sp_many {o : Nat} (h1 : 1≤o) (h6 : o≤6) (ha : a.Ok m) (hm : m≤40) (hf : a.Fit 200) (h : 40 < 3 * a.rs.length) : mSp C1 C2 C3 [tabD a,.int (o : Nat)] = some (.inr C3) := by
  refine retX_no rfl (sp_to h1 h6 ha hm hf ?_)
  have hs:=shr_ok (p:=half) ha
  have hl:=shr_len a half
  by_cases z : 2 * a.rs.length≤40
  · have hb := be_is (C1:=C1) (C3:=C3) hs hm hs hm (by omega)
    have hbo:=hs.behind hs
    refine xE_no (mapX_in (xs:=[.list [tabD ((a.shrunk half).behind (a.shrunk half)),tabD a],.list [ratD (pg o),ratD (ph o)]]) (consX_in (mapX_in (xs:=[tabD ((a.shrunk half).behind (a.shrunk half)),tabD a]) (consX_in (mapX_in (aOf_is rfl) hb) (aOf_is rfl)) rfl) (aOf_is rfl)) ?_)
    have hb2 : ((a.shrunk half).behind (a.shrunk half)).Ok 40:=⟨by rw [beh_len]; have:=ha.one; omega,by rw [beh_len]; omega,hbo.last,hbo.row⟩
    exact mx_many hb2 (by decide) ha hm (by rw [beh_len]; omega)
  · exact xE_no (mapX_no (consX_no (mapX_no (consX_no (mapX_in (aOf_is rfl) (be_many hs hm hs hm (by omega)))))))
theorem sp_told {o : Nat} (h1 : 1≤o) (h6 : o≤6) (ha : a.Ok m) (hm : m≤40) (hf : a.Fit 200) (h : 3 * a.rs.length≤40) : ∃ y,mSp C1 C2 C3 [tabD a,.int (o : Nat)] = some (.inl y) := by
  have hs:=shr_ok (p:=half) ha
  have hl:=shr_len a half
  have hb := be_is (C1:=C1) (C3:=C3) hs hm hs hm (by omega)
  have hbo:=hs.behind hs
  have hb2 : ((a.shrunk half).behind (a.shrunk half)).Ok 40:=⟨by rw [beh_len]; have:=ha.one; omega,by rw [beh_len]; omega,hbo.last,hbo.row⟩
  have hfs : (a.shrunk half).Fit 400:=(hf.shrunk fits_half).mono (by decide)
  obtain ⟨y,hy⟩:=mx_told (C1:=C1) (C2:=C2) (C3:=C3) hb2 (by decide) ha hm (hfs.behind hfs) (hf.mono (by decide)) ((pg_fits h1 h6).mono (by decide)) ((ph_fits h1 h6).mono (by decide)) (by rw [beh_len]; omega)
  exact ⟨y,retX_rt rfl (sp_to h1 h6 ha hm hf (xE_in (mapX_in (xs:=[.list [tabD ((a.shrunk half).behind (a.shrunk half)),tabD a],.list [ratD (pg o),ratD (ph o)]]) (consX_in (mapX_in (xs:=[tabD ((a.shrunk half).behind (a.shrunk half)),tabD a]) (consX_in (mapX_in (aOf_is rfl) hb) (aOf_is rfl)) rfl) (aOf_is rfl)) hy)))⟩
noncomputable abbrev mAs (C1 C2 C3 : Addr) : List PyData→Option Xr:=m__law_asked (mBe C1 C3) (mMx C1 C2 C3) (mSp C1 C2 C3) (mSh C1)
def third : Rat:=⟨1,3,by decide,by decide⟩
theorem fits_third : FM.Fits third 4:=⟨by decide,by decide⟩
theorem eqw {w v : Int} {b : Bool} {δ : Dv} (h : nm 0 δ = some (.int w)) (hb : decide (w = v) = b) : bCmp (dEq false) (nm 0) (fC (.int v)) δ = some b := bCmp_is (x:=.int w) (y:=.int v) h rfl ((eq_ints w v).trans (by rw [hb]))
end
section
variable {C C1 C2 C3 : Addr} {d : PyData} {a b : Tb} {m n : Nat} {one other part order y : PyData}
theorem as_in0 (h : mBe C1 C3 [one,other] = some (.inl y)) : mAs C1 C2 C3 [.int 0,one,other,part,order] = some (.inl .none) := by
  refine retX_nx (δ:=[.d (.int 0),.d one,.d other,.d part,.d order]) rfl ?_
  unfold J__law_asked
  exact xIf_t (eqw (w:=0) rfl (by decide)) (xCall_in (ds:=[one,other]) rfl h)
theorem as_no0 (h : mBe C1 C3 [one,other] = some (.inr C)) : mAs C1 C2 C3 [.int 0,one,other,part,order] = some (.inr C) := by
  refine retX_no rfl ?_
  unfold J__law_asked
  exact xIf_t (eqw (w:=0) rfl (by decide)) (xCall_no (ds:=[one,other]) rfl h)
theorem as_in1 (h : mSh C1 [one,part] = some (.inl y)) : mAs C1 C2 C3 [.int 1,one,other,part,order] = some (.inl .none) := by
  refine retX_nx (δ:=[.d (.int 1),.d one,.d other,.d part,.d order]) rfl ?_
  unfold J__law_asked
  exact xIf_f (eqw (w:=1) rfl (by decide)) (xIf_t (eqw (w:=1) rfl (by decide)) (xCall_in (ds:=[one,part]) rfl h))
theorem as_no1 (h : mSh C1 [one,part] = some (.inr C)) : mAs C1 C2 C3 [.int 1,one,other,part,order] = some (.inr C) := by
  refine retX_no rfl ?_
  unfold J__law_asked
  exact xIf_f (eqw (w:=1) rfl (by decide)) (xIf_t (eqw (w:=1) rfl (by decide)) (xCall_no (ds:=[one,part]) rfl h))
theorem as_in2 (h : mMx C1 C2 C3 [.list [other,one],.list [part,part]] = some (.inl y)) : mAs C1 C2 C3 [.int 2,one,other,part,order] = some (.inl .none) := by
  refine retX_nx (δ:=[.d (.int 2),.d one,.d other,.d part,.d order]) rfl ?_
  unfold J__law_asked
  exact xIf_f (eqw (w:=2) rfl (by decide)) (xIf_f (eqw (w:=2) rfl (by decide)) (xIf_t (eqw (w:=2) rfl (by decide)) (xCall_in (ds:=[.list [other,one],.list [part,part]]) rfl h)))
theorem as_no2 (h : mMx C1 C2 C3 [.list [other,one],.list [part,part]] = some (.inr C)) : mAs C1 C2 C3 [.int 2,one,other,part,order] = some (.inr C) := by
  refine retX_no rfl ?_
  unfold J__law_asked
  exact xIf_f (eqw (w:=2) rfl (by decide)) (xIf_f (eqw (w:=2) rfl (by decide)) (xIf_t (eqw (w:=2) rfl (by decide)) (xCall_no (ds:=[.list [other,one],.list [part,part]]) rfl h)))
theorem as_in3 (h : mSp C1 C2 C3 [one,order] = some (.inl y)) : mAs C1 C2 C3 [.int 3,one,other,part,order] = some (.inl .none) := by
  refine retX_nx (δ:=[.d (.int 3),.d one,.d other,.d part,.d order]) rfl ?_
  unfold J__law_asked
  exact xIf_f (eqw (w:=3) rfl (by decide)) (xIf_f (eqw (w:=3) rfl (by decide)) (xIf_f (eqw (w:=3) rfl (by decide)) (xIf_t (eqw (w:=3) rfl (by decide)) (xCall_in (ds:=[one,order]) rfl h))))
theorem as_no3 (h : mSp C1 C2 C3 [one,order] = some (.inr C)) : mAs C1 C2 C3 [.int 3,one,other,part,order] = some (.inr C) := by
  refine retX_no rfl ?_
  unfold J__law_asked
  exact xIf_f (eqw (w:=3) rfl (by decide)) (xIf_f (eqw (w:=3) rfl (by decide)) (xIf_f (eqw (w:=3) rfl (by decide)) (xIf_t (eqw (w:=3) rfl (by decide)) (xCall_no (ds:=[one,order]) rfl h))))
theorem as_no4 (h : mMx C1 C2 C3 [.list [one,one],.list [part]] = some (.inr C)) : mAs C1 C2 C3 [.int 4,one,other,part,order] = some (.inr C) := by
  refine retX_no rfl ?_
  unfold J__law_asked
  exact xIf_f (eqw (w:=4) rfl (by decide)) (xIf_f (eqw (w:=4) rfl (by decide)) (xIf_f (eqw (w:=4) rfl (by decide)) (xIf_f (eqw (w:=4) rfl (by decide)) (xIf_t (eqw (w:=4) rfl (by decide)) (xCall_no (ds:=[.list [one,one],.list [part]]) rfl h)))))
theorem as_no5 (h : mMx C1 C2 C3 [.list [],.list []] = some (.inr C)) : mAs C1 C2 C3 [.int 5,one,other,part,order] = some (.inr C) := by
  refine retX_no rfl ?_
  unfold J__law_asked
  exact xIf_f (eqw (w:=5) rfl (by decide)) (xIf_f (eqw (w:=5) rfl (by decide)) (xIf_f (eqw (w:=5) rfl (by decide)) (xIf_f (eqw (w:=5) rfl (by decide)) (xIf_f (eqw (w:=5) rfl (by decide)) (xIf_t (eqw (w:=5) rfl (by decide)) (xCall_no (ds:=[.list [],.list []]) rfl h))))))
theorem as_no6 (h : mMx C1 C2 C3 [.list [other],.list [part,part,part]] = some (.inr C)) : mAs C1 C2 C3 [.int 6,one,other,part,order] = some (.inr C) := by
  refine retX_no rfl ?_
  unfold J__law_asked
  exact xIf_f (eqw (w:=6) rfl (by decide)) (xIf_f (eqw (w:=6) rfl (by decide)) (xIf_f (eqw (w:=6) rfl (by decide)) (xIf_f (eqw (w:=6) rfl (by decide)) (xIf_f (eqw (w:=6) rfl (by decide)) (xIf_f (eqw (w:=6) rfl (by decide)) (xIf_t (eqw (w:=6) rfl (by decide)) (xCall_no (ds:=[.list [other],.list [part,part,part]]) rfl h)))))))
theorem as_in7 (h : mBe C1 C3 [other,one] = some (.inl y)) : mAs C1 C2 C3 [.int 7,one,other,part,order] = some (.inl .none) := by
  refine retX_nx (δ:=[.d (.int 7),.d one,.d other,.d part,.d order]) rfl ?_
  unfold J__law_asked
  exact xIf_f (eqw (w:=7) rfl (by decide)) (xIf_f (eqw (w:=7) rfl (by decide)) (xIf_f (eqw (w:=7) rfl (by decide)) (xIf_f (eqw (w:=7) rfl (by decide)) (xIf_f (eqw (w:=7) rfl (by decide)) (xIf_f (eqw (w:=7) rfl (by decide)) (xIf_f (eqw (w:=7) rfl (by decide)) (xCall_in (ds:=[other,one]) rfl h)))))))
theorem as_no7 (h : mBe C1 C3 [other,one] = some (.inr C)) : mAs C1 C2 C3 [.int 7,one,other,part,order] = some (.inr C) := by
  refine retX_no rfl ?_
  unfold J__law_asked
  exact xIf_f (eqw (w:=7) rfl (by decide)) (xIf_f (eqw (w:=7) rfl (by decide)) (xIf_f (eqw (w:=7) rfl (by decide)) (xIf_f (eqw (w:=7) rfl (by decide)) (xIf_f (eqw (w:=7) rfl (by decide)) (xIf_f (eqw (w:=7) rfl (by decide)) (xIf_f (eqw (w:=7) rfl (by decide)) (xCall_no (ds:=[other,one]) rfl h)))))))
def kt3 (a b c : Addr) (x y z : Bool) : Addr→Option Bool:=fun C => if C = a then some x else if C = b then some y else if C = c then some z else none
theorem kt3_h {K : PySem.W.Frag} {a b c : Addr} {x y z : Bool} {cv : V} (xa : ExcK K a) (xb : ExcK K b) (xc : ExcK K c) (ka : PySem.W.kitOne K (.ref a) (clsV cv) = some x) (kb : PySem.W.kitOne K (.ref b) (clsV cv) = some y) (kc : PySem.W.kitOne K (.ref c) (clsV cv) = some z) : ∀ C u,kt3 a b c x y z C = some u→ExcK K C∧PySem.W.kitOne K (.ref C) (clsV cv) = some u:=fun C u h => by
  unfold kt3 at h
  split at h
  · rename_i e; subst e; cases h; exact ⟨xa,ka⟩
  · split at h
    · rename_i e; subst e; cases h; exact ⟨xb,kb⟩
    · split at h
      · rename_i e; subst e; cases h; exact ⟨xc,kc⟩
      · cases h
theorem isx_is {T : Addr→Option Bool} {C : Addr} {b : Bool} (h : T C = some b) : isxD T (excD C) = some (.bool b) := by
  show (T ((C : Nat) : Int).toNat).map PyData.bool = _
  rw [Int.toNat_natCast,h]; rfl
theorem fIsx_is {T : Addr→Option Bool} {C : Addr} {b : Bool} {f : Dv→Option PyData} {δ : Dv} (hf : f δ = some (excD C)) (h : T C = some b) : fIsx T f δ = some (.bool b) := by
  show (f δ).bind _ = _
  rw [hf]; exact isx_is h
structure Three (C1 C2 C3 : Addr) : Prop where
  n12 : C1≠C2
  n13 : C1≠C3
  n23 : C2≠C3
abbrev mAl (C1 C2 C3 : Addr) : List PyData→Option PyData:=m__law_alone (kt3 C1 C2 C3 true true true) (kt3 C1 C2 C3 false false false) (kt3 C1 C2 C3 false false false) (kt3 C1 C2 C3 false false false) (kt3 C1 C2 C3 false false false) (kt3 C1 C2 C3 false true false) (kt3 C1 C2 C3 false false false) (kt3 C1 C2 C3 true false false) (kt3 C1 C2 C3 false false false) (kt3 C1 C2 C3 false false false) (kt3 C1 C2 C3 false false false) (kt3 C1 C2 C3 false false false) (kt3 C1 C2 C3 false false true) (kt3 C1 C2 C3 true true true)
theorem al_1 (h : Three C1 C2 C3) : mAl C1 C2 C3 [excD C1] = some (.bool true) := by
  refine retD_rt rfl ?_
  unfold F__law_alone
  have n : ∀ {x y : Bool},kt3 C1 C2 C3 false x y C1 = some false:=fun {_ _} => if_pos rfl
  have t : ∀ {x y : Bool},kt3 C1 C2 C3 true x y C1 = some true:=fun {_ _} => if_pos rfl
  refine seqD_nx (sIf_f (bOr_f (bNot_is (b:=true) (bVal_is (fIsx_is (C:=C1) rfl t))) (bNot_is (b:=true) (bVal_is (fIsx_is (C:=C1) rfl t)))) rfl) ?_
  refine seqD_nx (sSet_is (fLst_is (fCons_is (fIsx_is (C:=C1) rfl n) (fCons_is (fIsx_is (C:=C1) rfl n) (fCons_is (fIsx_is (C:=C1) rfl n) rfl))) (show 3≤1000 by decide))) ?_
  refine seqD_nx (sSet_is (op2_is rfl (fLst_is (fCons_is (fIsx_is (C:=C1) rfl n) (fCons_is (fIsx_is (C:=C1) rfl n) (fCons_is (fIsx_is (C:=C1) rfl n) rfl))) (show 3≤1000 by decide)) rfl)) ?_
  refine seqD_nx (sSet_is (op2_is rfl (fLst_is (fCons_is (fIsx_is (C:=C1) rfl n) (fCons_is (fIsx_is (C:=C1) rfl t) (fCons_is (fIsx_is (C:=C1) rfl n) rfl))) (show 3≤1000 by decide)) rfl)) ?_
  refine seqD_nx (sSet_is (op2_is rfl (fLst_is (fCons_is (fIsx_is (C:=C1) rfl n) (fCons_is (fIsx_is (C:=C1) rfl n) (fCons_is (fIsx_is (C:=C1) rfl n) rfl))) (show 3≤1000 by decide)) rfl)) ?_
  exact sRet_is (op2_is (x:=.int 1) (y:=.int 1) rfl rfl (eq_ints 1 1))
theorem al_2 (h : Three C1 C2 C3) : mAl C1 C2 C3 [excD C2] = some (.bool true) := by
  refine retD_rt rfl ?_
  unfold F__law_alone
  have n : ∀ {x y : Bool},kt3 C1 C2 C3 x false y C2 = some false:=fun {_ _} => (if_neg h.n12.symm).trans (if_pos rfl)
  have t : ∀ {x y : Bool},kt3 C1 C2 C3 x true y C2 = some true:=fun {_ _} => (if_neg h.n12.symm).trans (if_pos rfl)
  refine seqD_nx (sIf_f (bOr_f (bNot_is (b:=true) (bVal_is (fIsx_is (C:=C2) rfl t))) (bNot_is (b:=true) (bVal_is (fIsx_is (C:=C2) rfl t)))) rfl) ?_
  refine seqD_nx (sSet_is (fLst_is (fCons_is (fIsx_is (C:=C2) rfl n) (fCons_is (fIsx_is (C:=C2) rfl n) (fCons_is (fIsx_is (C:=C2) rfl n) rfl))) (show 3≤1000 by decide))) ?_
  refine seqD_nx (sSet_is (op2_is rfl (fLst_is (fCons_is (fIsx_is (C:=C2) rfl n) (fCons_is (fIsx_is (C:=C2) rfl t) (fCons_is (fIsx_is (C:=C2) rfl n) rfl))) (show 3≤1000 by decide)) rfl)) ?_
  refine seqD_nx (sSet_is (op2_is rfl (fLst_is (fCons_is (fIsx_is (C:=C2) rfl n) (fCons_is (fIsx_is (C:=C2) rfl n) (fCons_is (fIsx_is (C:=C2) rfl n) rfl))) (show 3≤1000 by decide)) rfl)) ?_
  refine seqD_nx (sSet_is (op2_is rfl (fLst_is (fCons_is (fIsx_is (C:=C2) rfl n) (fCons_is (fIsx_is (C:=C2) rfl n) (fCons_is (fIsx_is (C:=C2) rfl n) rfl))) (show 3≤1000 by decide)) rfl)) ?_
  exact sRet_is (op2_is (x:=.int 1) (y:=.int 1) rfl rfl (eq_ints 1 1))
theorem al_3 (h : Three C1 C2 C3) : mAl C1 C2 C3 [excD C3] = some (.bool true) := by
  refine retD_rt rfl ?_
  unfold F__law_alone
  have n : ∀ {x y : Bool},kt3 C1 C2 C3 x y false C3 = some false:=fun {_ _} => (if_neg h.n13.symm).trans ((if_neg h.n23.symm).trans (if_pos rfl))
  have t : ∀ {x y : Bool},kt3 C1 C2 C3 x y true C3 = some true:=fun {_ _} => (if_neg h.n13.symm).trans ((if_neg h.n23.symm).trans (if_pos rfl))
  refine seqD_nx (sIf_f (bOr_f (bNot_is (b:=true) (bVal_is (fIsx_is (C:=C3) rfl t))) (bNot_is (b:=true) (bVal_is (fIsx_is (C:=C3) rfl t)))) rfl) ?_
  refine seqD_nx (sSet_is (fLst_is (fCons_is (fIsx_is (C:=C3) rfl n) (fCons_is (fIsx_is (C:=C3) rfl n) (fCons_is (fIsx_is (C:=C3) rfl n) rfl))) (show 3≤1000 by decide))) ?_
  refine seqD_nx (sSet_is (op2_is rfl (fLst_is (fCons_is (fIsx_is (C:=C3) rfl n) (fCons_is (fIsx_is (C:=C3) rfl n) (fCons_is (fIsx_is (C:=C3) rfl n) rfl))) (show 3≤1000 by decide)) rfl)) ?_
  refine seqD_nx (sSet_is (op2_is rfl (fLst_is (fCons_is (fIsx_is (C:=C3) rfl n) (fCons_is (fIsx_is (C:=C3) rfl n) (fCons_is (fIsx_is (C:=C3) rfl n) rfl))) (show 3≤1000 by decide)) rfl)) ?_
  refine seqD_nx (sSet_is (op2_is rfl (fLst_is (fCons_is (fIsx_is (C:=C3) rfl n) (fCons_is (fIsx_is (C:=C3) rfl n) (fCons_is (fIsx_is (C:=C3) rfl t) rfl))) (show 3≤1000 by decide)) rfl)) ?_
  exact sRet_is (op2_is (x:=.int 1) (y:=.int 1) rfl rfl (eq_ints 1 1))
noncomputable abbrev mRf (C1 C2 C3 : Addr) : List PyData→Option PyData:=m__law_refusal (mAl C1 C2 C3) (only [C1,C2,C3] (mAs C1 C2 C3)) C2 C1 C3
theorem rf_told {w : PyData} (h : mAs C1 C2 C3 [w,one,other,part,order] = some (.inl y)) : mRf C1 C2 C3 [w,one,other,part,order] = some (.str (Str.ofString "told")) := by
  refine retD_rt rfl ?_
  unfold F__law_refusal
  refine seqD_nx rfl (seqD_nx rfl (seqD_nx (sTryH_in (ds:=[w,one,other,part,order]) rfl (only_is h)) (seqD_nx (sIf_f rfl rfl) rfl)))
theorem rf_1 {w : PyData} (h3 : Three C1 C2 C3) (h : mAs C1 C2 C3 [w,one,other,part,order] = some (.inr C1)) : mRf C1 C2 C3 [w,one,other,part,order] = some (.str (Str.ofString "table")) := by
  refine retD_rt rfl ?_
  unfold F__law_refusal
  refine seqD_nx rfl (seqD_nx rfl (seqD_nx (sTryH_no (ds:=[w,one,other,part,order]) (C:=C1) (δ':=[.d w,.d one,.d other,.d part,.d order,.d (excD C1),.d (.str (Str.ofString "table")),.d (excD C1)]) rfl (only_no h (.head _)) ?_) (seqD_nx (sIf_f ?_ rfl) rfl)))
  · refine (congrFun (if_pos rfl) _).trans ?_
    rfl
  · show (some true).bind _ = _
    exact bNot_is (b:=true) (bVal_is (fCall_is (xs:=[excD C1]) rfl (al_1 h3)))
theorem rf_2 {w : PyData} (h3 : Three C1 C2 C3) (h : mAs C1 C2 C3 [w,one,other,part,order] = some (.inr C2)) : mRf C1 C2 C3 [w,one,other,part,order] = some (.str (Str.ofString "parts")) := by
  refine retD_rt rfl ?_
  unfold F__law_refusal
  refine seqD_nx rfl (seqD_nx rfl (seqD_nx (sTryH_no (ds:=[w,one,other,part,order]) (C:=C2) (δ':=[.d w,.d one,.d other,.d part,.d order,.d (excD C2),.d (.str (Str.ofString "parts")),.d (excD C2)]) rfl (only_no h (.tail _ (.head _))) ?_) (seqD_nx (sIf_f ?_ rfl) rfl)))
  · refine (congrFun ((if_neg h3.n12.symm).trans (if_pos rfl)) _).trans ?_
    rfl
  · show (some true).bind _ = _
    exact bNot_is (b:=true) (bVal_is (fCall_is (xs:=[excD C2]) rfl (al_2 h3)))
theorem rf_3 {w : PyData} (h3 : Three C1 C2 C3) (h : mAs C1 C2 C3 [w,one,other,part,order] = some (.inr C3)) : mRf C1 C2 C3 [w,one,other,part,order] = some (.str (Str.ofString "many")) := by
  refine retD_rt rfl ?_
  unfold F__law_refusal
  refine seqD_nx rfl (seqD_nx rfl (seqD_nx (sTryH_no (ds:=[w,one,other,part,order]) (C:=C3) (δ':=[.d w,.d one,.d other,.d part,.d order,.d (excD C3),.d (.str (Str.ofString "many")),.d (excD C3)]) rfl (only_no h (.tail _ (.tail _ (.head _)))) ?_) (seqD_nx (sIf_f ?_ rfl) rfl)))
  · refine (congrFun ((if_neg h3.n13.symm).trans (if_neg h3.n23.symm)) _).trans ?_
    rfl
  · show (some true).bind _ = _
    exact bNot_is (b:=true) (bVal_is (fCall_is (xs:=[excD C3]) rfl (al_3 h3)))
end
def zrow (i : Nat) : List Rat:=List.replicate i 0
def grow (rs : List (List Rat)) : Nat→List (List Rat)
  | 0 => rs
  | k + 1 => grow (rs ++ [zrow rs.length]) k
def unit (n : Nat) (h : n≠0) : Rat:=⟨1,n,h,by simp⟩
theorem grow_len : ∀ (k : Nat) (rs : List (List Rat)),(grow rs k).length = rs.length + k
  | 0,rs => rfl
  | k + 1,rs => by rw [grow,grow_len k,List.length_append]; simp; omega
theorem grow_row : ∀ (k : Nat) (rs : List (List Rat)),(∀ (i : Nat) r,rs[i]? = some r→r.length = i)→∀ (i : Nat) r,(grow rs k)[i]? = some r→r.length = i
  | 0,rs,h => h
  | k + 1,rs,h => grow_row k _ fun i r hr => by
    by_cases z : i < rs.length
    · rw [List.getElem?_append_left z] at hr; exact h i r hr
    · rw [List.getElem?_append_right (by omega)] at hr
      have : i - rs.length = 0 := by
        have:=(List.getElem?_eq_some_iff.mp hr).1
        simp at this; omega
      rw [this] at hr
      simp at hr
      subst hr
      unfold zrow
      rw [List.length_replicate]; omega
theorem fits_z : FM.Fits 0 200:=⟨by decide,by decide⟩
theorem grow_fit : ∀ (k : Nat) (rs : List (List Rat)),(∀ r∈rs,∀ q∈r,FM.Fits q 200)→∀ r∈grow rs k,∀ q∈r,FM.Fits q 200
  | 0,rs,h => h
  | k + 1,rs,h => grow_fit k _ fun r hr q hq => by
    rcases List.mem_append.mp hr with hr | hr
    · exact h r hr q hq
    · rw [List.mem_singleton.mp hr] at hq
      rw [List.eq_of_mem_replicate hq]; exact fits_z
theorem rows_app (rs ss : List (List Rat)) : rowsD (rs ++ ss) = rowsD rs ++ rowsD ss:=List.map_append
theorem zrow_is (n : Nat) : PyData.list (List.replicate n [zeroT]).flatten = rowD (zrow n) := by
  rw [flat1,rowD,fracsD,zrow,List.map_replicate]; rfl
theorem long_loop {t : PyData} {n : Nat} (hn : n≤40) : ∀ (k fuel : Nat) (rs : List (List Rat)),rs.length + k = n→k < fuel →
    whileD (bCmp (iCmp fun i j => decide (i < j)) (fLenOwn 2) (nm 1)) (sApp 2 (op2 dMul (fLst (fCons (fTup (fCons (fC (.int 0)) (fCons (fC (.int 1)) fNil))) fNil)) (fLenOwn 2))) fuel [.d t,.d (.int (n : Nat)),.own (.lst (rowsD rs))] = some (.nx [.d t,.d (.int (n : Nat)),.own (.lst (rowsD (grow rs k)))])
  | 0,fuel + 1,rs,h,_ => by
    unfold whileD
    have e : bCmp (iCmp fun i j => decide (i < j)) (fLenOwn 2) (nm 1) [.d t,.d (.int (n : Nat)),.own (.lst (rowsD rs))] = some false := bCmp_is (x:=.int ((rowsD rs).length : Nat)) (y:=.int (n : Nat)) rfl rfl (show some (PyData.bool (decide (((rowsD rs).length : Int) < (n : Nat)))) = _ by rw [rows_len,decide_eq_false (by omega)])
    rw [e]; rfl
  | k + 1,fuel + 1,rs,h,hf => by
    unfold whileD
    have e : bCmp (iCmp fun i j => decide (i < j)) (fLenOwn 2) (nm 1) [.d t,.d (.int (n : Nat)),.own (.lst (rowsD rs))] = some true := bCmp_is (x:=.int ((rowsD rs).length : Nat)) (y:=.int (n : Nat)) rfl rfl (show some (PyData.bool (decide (((rowsD rs).length : Int) < (n : Nat)))) = _ by rw [rows_len,decide_eq_true (by omega)])
    have b : sApp 2 (op2 dMul (fLst (fCons (fTup (fCons (fC (.int 0)) (fCons (fC (.int 1)) fNil))) fNil)) (fLenOwn 2)) [.d t,.d (.int (n : Nat)),.own (.lst (rowsD rs))] = some (.nx [.d t,.d (.int (n : Nat)),.own (.lst (rowsD (rs ++ [zrow rs.length])))]) := by
      have e1 : op2 dMul (fLst (fCons (fTup (fCons (fC (.int 0)) (fCons (fC (.int 1)) fNil))) fNil)) (fLenOwn 2) [.d t,.d (.int (n : Nat)),.own (.lst (rowsD rs))] = some (rowD (zrow rs.length)) := by
        refine op2_is (x:=.list [zeroT]) (y:=.int ((rowsD rs).length : Nat)) rfl rfl ?_
        rw [rows_len,rep_is _ _ (by omega),zrow_is]
      show (op2 dMul _ _ _).bind _ = _
      rw [e1]
      refine (if_pos (show (rowsD rs).length < dMax by rw [rows_len]; unfold dMax; omega)).trans ?_
      rw [rows_app]; rfl
    rw [e]
    show (match sApp 2 _ _ with | some (.nx δ') => _ | some (.ct δ') => _ | some (.bk δ') => _ | some (.rt v) => _ | some (.rn v) => _ | none => _) = _
    rw [b]
    exact long_loop hn k fuel _ (by simp; omega) (by omega)
def Tb.long (a : Tb) (n : Nat) (h : n≠0) : Tb:=⟨grow (a.rs.take n) (n - (a.rs.take n).length),List.replicate n (unit n h)⟩
section
variable {a : Tb} {m n : Nat}
theorem long_len (hn : n≠0) : (a.long n hn).rs.length = n := by
  show (grow _ _).length = n
  rw [grow_len]
  have:=List.length_take_le n a.rs
  omega
theorem long_ok (ha : a.Ok m) (hn : n≠0) : (a.long n hn).Ok n := by
  refine ⟨by rw [long_len]; omega,by rw [long_len]; exact Nat.le_refl _,by rw [long_len]; exact List.length_replicate,fun i r hr => ?_⟩
  refine grow_row _ _ (fun i r hr => ?_) i r hr
  rw [List.getElem?_take] at hr
  split at hr
  · exact ha.row i r hr
  · cases hr
theorem long_fit (hf : a.Fit 200) (hn : n≠0) (h40 : n≤41) : (a.long n hn).Fit 200 := by
  refine ⟨grow_fit _ _ fun r hr => hf.1 r (List.mem_of_mem_take hr),fun q hq => ?_⟩
  rw [List.eq_of_mem_replicate hq]
  exact ⟨Nat.lt_of_le_of_lt (show (1 : Int).natAbs≤1 by decide) (by decide),Nat.lt_of_le_of_lt (show n≤41 from h40) (by decide)⟩
theorem long_is (ha : a.Ok m) (hm : m≤40) (hn : n≠0) (h40 : n≤40) : m__law_long [tabD a,.int (n : Nat)] = some (tabD (a.long n hn)) := by
  have hmo:=ha.most
  refine retD_rt rfl ?_
  unfold F__law_long
  have e0 : sOwnCut 2 (compD (set1 1) bYes (fCall dListOf (fCons (nm 1) fNil)) [none,none] (iSeq (op2 dIx (nm 0) (fC (.int 0))))) oNone (oSome (nm 1)) [.d (tabD a),.d (.int (n : Nat)),.no] = some (.nx [.d (tabD a),.d (.int (n : Nat)),.own (.lst (rowsD (a.rs.take n)))]) := by
    have e1:=comp_map (ix:=1) (δ:=[.d (tabD a),.d (.int (n : Nat)),.no]) (fs:=iSeq (op2 dIx (nm 0) (fC (.int 0)))) (f:=fCall dListOf (fCons (nm 1) fNil)) (fr:=[none,none]) (xs:=rowsD a.rs) (g:=id) rfl (by rw [rows_len]; unfold dMax; omega) fun x hx => fCall_is (xs:=[x]) rfl (rows_id _ x hx)
    show (compD _ _ _ _ _ _).bind _ = _
    rw [e1,List.map_id]
    show some (Ou.nx [.d (tabD a),.d (.int (n : Nat)),.own (.lst (cutD (rowsD a.rs) none (some (n : Int))))]) = _
    rw [cut_hi,rowsD,rowsD,List.map_take]
  have hl:=List.length_take_le n a.rs
  refine seqD_nx e0 (seqD_nx (long_loop h40 (n - (a.rs.take n).length) 41 (a.rs.take n) (by omega) (by omega)) (sRet_is (fTup_is (fCons_is rfl (fCons_is (x:=.list (fracsD (List.replicate n (unit n hn)))) (op2_is (x:=.list [.tuple [.int 1,.int (n : Nat)]]) (y:=.int (n : Nat)) rfl rfl ?_) rfl)) (show 2≤1000 by decide))))
  rw [rep_is _ _ (by omega),flat1,fracsD,List.map_replicate]; rfl
end
theorem okAll_of {n : Nat} {ds : List PyData} (h : ∀ d∈ds,Ok n d) : OkAll n ds := by
  induction ds with
  | nil => exact ⟨by simp [PyData.canLayAll0],by simp [PyData.depthAll]⟩
  | cons d ds ih =>
    obtain ⟨a,b⟩:=h d (.head _)
    obtain ⟨a',b'⟩:=ih fun e he => h e (.tail _ he)
    exact ⟨by simp only [PyData.canLayAll0]; rw [a,a']; rfl,by simp only [PyData.depthAll]; omega⟩
theorem ok_l {n : Nat} {ds : List PyData} (h : ∀ d∈ds,Ok n d) : Ok (n + 1) (.list ds):=.lst (okAll_of h)
theorem ok_t {n : Nat} {ds : List PyData} (h : ∀ d∈ds,Ok n d) : Ok (n + 1) (.tuple ds):=.tup (okAll_of h)
theorem ok_rat (r : Rat) : Ok 1 (ratD r):=ok_t (n:=0) fun d hd => by
  rcases List.mem_cons.mp hd with rfl | hd
  · exact .int
  · rw [List.mem_singleton.mp hd]; exact .int
theorem ok_fracs (r : List Rat) : ∀ d∈fracsD r,Ok 1 d:=fun d hd => by obtain ⟨q,_,rfl⟩:=List.mem_map.mp hd; exact ok_rat q
theorem ok_row (r : List Rat) : Ok 2 (rowD r):=ok_l (ok_fracs r)
theorem ok_rows (rs : List (List Rat)) : ∀ d∈rowsD rs,Ok 2 d:=fun d hd => by obtain ⟨q,_,rfl⟩:=List.mem_map.mp hd; exact ok_row q
theorem ok_pair {n : Nat} {x y : PyData} (hx : Ok n x) (hy : Ok n y) : Ok (n + 1) (.tuple [x,y]):=ok_t fun d hd => by
  rcases List.mem_cons.mp hd with rfl | hd
  · exact hx
  · rw [List.mem_singleton.mp hd]; exact hy
theorem ok_tab (t : Tb) : Ok 5 (tabD t):=(ok_pair (n:=3) (ok_l (ok_rows t.rs)) ((ok_l (ok_fracs t.ls)).mono (by decide))).mono (by decide)
theorem mem_set {ds : List PyData} {i : Nat} {e d : PyData} (h : d∈ds.set i e) : d∈ds∨d = e:=List.mem_or_eq_of_mem_set h
theorem ok_set {n i : Nat} {ds : List PyData} {e : PyData} (h : ∀ d∈ds,Ok n d) (he : Ok n e) : ∀ d∈ds.set i e,Ok n d:=fun d hd => by
  rcases mem_set hd with hd | rfl
  · exact h d hd
  · exact he
def Bad (d : PyData) : Prop:=Ok 5 d∧isTabD d = false
theorem bad_row {rs : List PyData} {l e : PyData} {i : Nat} (hi : i < rs.length) (hr : ∀ d∈rs,Ok 3 d) (he : Ok 3 e) (hl : Ok 4 l) (h : (areFrD e && decide (lenD e = i)) = false) : Bad (.tuple [.list (rs.set i e),l]) := by
  refine ⟨ok_pair (ok_l (ok_set hr he)) hl,?_⟩
  have z : rowsOk (rs.set i e) = false := by
    unfold rowsOk
    refine Bool.eq_false_iff.mpr fun y => ?_
    rw [List.all_eq_true] at y
    have:=y i (by rw [List.mem_range,List.length_set]; exact hi)
    unfold rowAt at this
    rw [List.getElem?_set_self hi] at this
    simp only at this
    rw [h] at this; cases this
  rw [isTabD,areRowsD,z,Bool.and_false,Bool.and_false,Bool.false_and]
theorem bad_last {rs l : PyData} (hr : Ok 4 rs) (hl : Ok 4 l) (h : (areFrD l && decide (lenD l = lenD rs)) = false) : Bad (.tuple [rs,l]):=⟨ok_pair hr hl,by rw [isTabD,h,Bool.and_false]⟩
open Classical in
noncomputable def mSpo (ds : List PyData) : Option PyData:=match ds with
  | [.tuple [.list rs,.list ls],.int r] => if ∃ (a : Tb) (m : Nat),rs = rowsD a.rs∧ls = fracsD a.ls∧a.Ok m∧m≤40 then (match F__law_spoilt_1 [.d (.tuple [.list rs,.list ls]),.d (.int r),.own (.lst rs),.own (.lst ls),.no,.no] with
    | some (.rt x) => some x
    | _ => none) else none
  | _ => none
theorem div_is {i j : Int} (h : 0 < j) (h2 : j.natAbs < 2 ^ 64) : iDiv (.int i) (.int j) = some (.int (i / j)) := by
  refine (if_pos ⟨by omega,fit_of (Nat.lt_of_lt_of_le h2 (Nat.pow_le_pow_right (by decide) (by decide)))⟩).trans ?_
  rw [Int.fdiv_eq_ediv_of_nonneg _ (by omega)]
theorem eq5 {q v : Int} {b : Bool} {δ : Dv} (h : nm 5 δ = some (.int q)) (hb : decide (q = v) = b) : bCmp (dEq false) (nm 5) (fC (.int v)) δ = some b := bCmp_is (x:=.int q) (y:=.int v) h rfl ((eq_ints q v).trans (by rw [hb]))
theorem put_is {i : Nat} {f g : Dv→Option PyData} {δ : Dv} {y : PyData} {p : Nat} {xs : List PyData} (h : f δ = some y) (k : g δ = some (.int (p : Nat))) (o : ow i δ = some xs) (hp : p < xs.length) : sPut i f g δ = some (.nx (δ.set i (.own (.lst (xs.set p y))))) := by
  show (f δ).bind _ = _
  rw [h]
  show (g δ).bind _ = _
  rw [k]
  show (ow i δ).bind _ = _
  rw [o]
  show (ixN xs.length (p : Int)).map _ = _
  have : ixN xs.length (p : Int) = some p := by
    unfold ixN
    rw [if_pos (by omega)]
    first | rfl | (rw [if_pos (by omega)]; simp) | simp [hp]
  rw [this]; rfl
section
variable {a : Tb} {m : Nat}
theorem ixO {i j : Nat} {δ : Dv} {xs : List PyData} {p : Nat} {x : PyData} (o : ow i δ = some xs) (h : nm j δ = some (.int (p : Nat))) (k : xs[p]? = some x) : fIxOwn i (nm j) δ = some x := by
  show (nm j δ).bind _ = _
  rw [h]
  show (ow i δ).bind _ = _
  rw [o]
  exact atI_nat k
theorem ix7 {δ : Dv} {f g : Dv→Option PyData} {xs : List PyData} {p : Nat} {x : PyData} (h : f δ = some (.list xs)) (k : g δ = some (.int (p : Nat))) (e : xs[p]? = some x) : op2 dIx f g δ = some x:=op2_is h k (atI_nat e)
theorem spo_bad (ha : a.Ok m) (hm : m≤40) (r : Int) : ∃ s,mSpo [tabD a,.int r] = some s∧Bad s := by
  have h1:=ha.one
  have hmo:=ha.most
  have hla:=ha.last
  suffices hh : ∃ s,F__law_spoilt_1 [.d (tabD a),.d (.int r),.own (.lst (rowsD a.rs)),.own (.lst (fracsD a.ls)),.no,.no] = some (.rt s)∧Bad s by
    obtain ⟨s,e1,e2⟩:=hh
    refine ⟨s,?_,e2⟩
    refine (if_pos ⟨a,m,rfl,rfl,ha,hm⟩).trans ?_
    rw [show F__law_spoilt_1 [.d (.tuple [.list (rowsD a.rs),.list (fracsD a.ls)]),.d (.int r),.own (.lst (rowsD a.rs)),.own (.lst (fracsD a.ls)),.no,.no] = some (.rt s) from e1]
  have hR : (rowsD a.rs).length = a.rs.length:=rows_len _
  have hL : (fracsD a.ls).length = a.rs.length := by rw [fracs_len,hla]
  have p0:=Int.emod_nonneg (r / 8) (show ((a.rs.length : Nat) : Int)≠0 by omega)
  have p1:=Int.emod_lt_of_pos (r / 8) (show (0 : Int) < ((a.rs.length : Nat) : Int) by omega)
  obtain ⟨p,hp⟩ : ∃ p : Nat,(r / 8) % ((a.rs.length : Nat) : Int) = (p : Int):=⟨_,(Int.toNat_of_nonneg p0).symm⟩
  have hpl : p < a.rs.length := by omega
  obtain ⟨rr,hrr⟩ : ∃ rr,a.rs[p]? = some rr:=⟨_,List.getElem?_eq_getElem hpl⟩
  have hrl : rr.length = p:=ha.row p rr hrr
  have hRp : (rowsD a.rs)[p]? = some (rowD rr) := by rw [rowsD,List.getElem?_map,hrr]; rfl
  have okR : ∀ d∈rowsD a.rs,Ok 3 d:=fun d hd => (ok_rows a.rs d hd).mono (by decide)
  have okL:=ok_fracs a.ls
  have okLl : Ok 4 (.list (fracsD a.ls)):=(ok_l okL).mono (by decide)
  have okRl : Ok 4 (.list (rowsD a.rs)):=ok_l okR
  unfold F__law_spoilt_1
  have e4 : op2 iMod (op2 iDiv (nm 1) (fC (.int 8))) (fLenOwn 2) [.d (tabD a),.d (.int r),.own (.lst (rowsD a.rs)),.own (.lst (fracsD a.ls)),.no,.no] = some (.int (p : Nat)) := by
    refine op2_is (x:=.int (r / 8)) (y:=.int ((rowsD a.rs).length : Nat)) (op2_is (x:=.int r) (y:=.int 8) rfl rfl (div_is (by decide) (by decide))) rfl ?_
    rw [hR,mod_is (by omega),hp]
  have e64 : ∀ (k : Nat) (δ : Dv),0 < k→k < 1000→nm 1 δ = some (.int r)→∃ j : Nat,j < k∧op2 iMod (op2 iDiv (nm 1) (fC (.int 64))) (fC (.int (k : Nat))) δ = some (.int (j : Nat)):=fun k δ hk hk2 h => by
    have z0:=Int.emod_nonneg (r / 64) (show ((k : Nat) : Int)≠0 by omega)
    have z1:=Int.emod_lt_of_pos (r / 64) (show (0 : Int) < ((k : Nat) : Int) by omega)
    refine ⟨((r / 64) % ((k : Nat) : Int)).toNat,by omega,op2_is (x:=.int (r / 64)) (y:=.int (k : Nat)) (op2_is (x:=.int r) (y:=.int 64) h rfl (div_is (by decide) (by decide))) rfl ?_⟩
    rw [mod_is (by omega),Int.toNat_of_nonneg z0]
  have hq : r % 8 = 0∨r % 8 = 1∨r % 8 = 2∨r % 8 = 3∨r % 8 = 4∨r % 8 = 5∨r % 8 = 6∨r % 8 = 7 := by omega
  have ex2 : ∀ {F1 F2 : DF} {δ δ' : Dv},F1 δ = some (.nx δ')→(∃ s,F2 δ' = some (.rt s)∧Bad s)→∃ s,seqD F1 F2 δ = some (.rt s)∧Bad s:=fun h ⟨s,k1,k2⟩ => ⟨s,seqD_nx h k1,k2⟩
  have exI : ∀ {c : Dv→Option Bool} {F1 F2 F3 : DF} {δ : Dv},c δ = some true→(∃ s,F1 δ = some (.rt s)∧Bad s)→∃ s,seqD (sIf c F1 F2) F3 δ = some (.rt s)∧Bad s:=fun h ⟨s,k1,k2⟩ => ⟨s,seqD_rt (sIf_t h k1),k2⟩
  refine ex2 (sSet_is e4) ?_
  refine ex2 (sSet_is (y:=.int (r % 8)) (op2_is (x:=.int r) (y:=.int 8) rfl rfl (mod_is (by decide)))) ?_
  rcases hq with q | q | q | q | q | q | q | q <;> rw [q]
  · refine ex2 (sIf_t (eq5 (q:=0) rfl (by decide)) (put_is (p:=p) (xs:=rowsD a.rs) (y:=.list (fracsD rr ++ [ratD half])) (op2_is (x:=rowD rr) (y:=.list [ratD half]) (ixO rfl rfl hRp) rfl (add_l (by rw [fracs_len]; unfold dMax; simp; omega))) rfl rfl (by omega))) ?_
    refine ex2 (sIf_f (eq5 (q:=0) rfl (by decide)) rfl) ?_
    refine ex2 (sIf_f (eq5 (q:=0) rfl (by decide)) rfl) ?_
    refine ex2 (sIf_f (eq5 (q:=0) rfl (by decide)) rfl) ?_
    refine ex2 (sIf_f (eq5 (q:=0) rfl (by decide)) rfl) ?_
    refine ex2 (sIf_f (eq5 (q:=0) rfl (by decide)) rfl) ?_
    refine ex2 (sIf_f (eq5 (q:=0) rfl (by decide)) rfl) ?_
    refine ex2 (sIf_f (eq5 (q:=0) rfl (by decide)) rfl) ?_
    refine ⟨_,rfl,bad_row (by omega) okR (ok_l fun d hd => ?_) okLl ?_⟩
    · rcases List.mem_append.mp hd with hd | hd
      · exact (ok_fracs rr d hd).mono (by decide)
      · rw [List.mem_singleton.mp hd]; exact (ok_rat half).mono (by decide)
    · rw [show lenD (.list (fracsD rr ++ [ratD half])) = (fracsD rr ++ [ratD half]).length from rfl,List.length_append,fracs_len,hrl,decide_eq_false (by simp),Bool.and_false]
  · refine ex2 (sIf_f (eq5 (q:=1) rfl (by decide)) rfl) ?_
    have hy : ∃ y,op2 dIx (fLst (fCons (fCut (fIxOwn 2 (nm 4)) (oSome (fC (.int 1))) oNone) (fCons (fLst (fCons (fTup (fCons (fC (.int 0)) (fCons (fC (.int 1)) fNil))) fNil)) fNil))) (fCall dInt (fCons (op2 (dEq false) (nm 4) (fC (.int 0))) fNil)) [.d (tabD a),.d (.int r),.own (.lst (rowsD a.rs)),.own (.lst (fracsD a.ls)),.d (.int (p : Nat)),.d (.int 1)] = some y∧Ok 3 y∧(areFrD y && decide (lenD y = p)) = false := by
      have c1 : fCut (fIxOwn 2 (nm 4)) (oSome (fC (.int 1))) oNone [.d (tabD a),.d (.int r),.own (.lst (rowsD a.rs)),.own (.lst (fracsD a.ls)),.d (.int (p : Nat)),.d (.int 1)] = some (.list ((fracsD rr).drop 1)) := by
        show (fIxOwn 2 (nm 4) _).bind _ = _
        rw [ixO (xs:=rowsD a.rs) (p:=p) rfl rfl hRp]
        show some (PyData.list (cutD (fracsD rr) (some ((1 : Nat) : Int)) none)) = _
        rw [cut_lo]
      have hb : op2 (dEq false) (nm 4) (fC (.int 0)) [.d (tabD a),.d (.int r),.own (.lst (rowsD a.rs)),.own (.lst (fracsD a.ls)),.d (.int (p : Nat)),.d (.int 1)] = some (.bool (decide ((p : Int) = 0))):=op2_is (x:=.int (p : Nat)) (y:=.int 0) rfl rfl (eq_ints _ _)
      have hl2 : fLst (fCons (fCut (fIxOwn 2 (nm 4)) (oSome (fC (.int 1))) oNone) (fCons (fLst (fCons (fTup (fCons (fC (.int 0)) (fCons (fC (.int 1)) fNil))) fNil)) fNil)) [.d (tabD a),.d (.int r),.own (.lst (rowsD a.rs)),.own (.lst (fracsD a.ls)),.d (.int (p : Nat)),.d (.int 1)] = some (.list [.list ((fracsD rr).drop 1),.list [zeroT]]):=fLst_is (fCons_is c1 rfl) (show 2≤1000 by decide)
      by_cases z : p = 0
      · refine ⟨.list [zeroT],ix7 (p:=1) hl2 (fCall_is (m:=dInt) (xs:=[.bool true]) (fCons_is (hb.trans (by rw [decide_eq_true (by omega)])) rfl) rfl) rfl,ok_l fun d hd => ?_,?_⟩
        · rw [List.mem_singleton.mp hd]; exact (ok_rat 0).mono (by decide)
        · rw [show lenD (.list [zeroT]) = 1 from rfl,decide_eq_false (by omega),Bool.and_false]
      · refine ⟨.list ((fracsD rr).drop 1),ix7 (p:=0) hl2 (fCall_is (m:=dInt) (xs:=[.bool false]) (fCons_is (hb.trans (by rw [decide_eq_false (by omega)])) rfl) rfl) rfl,ok_l fun d hd => (ok_fracs rr d (List.mem_of_mem_drop hd)).mono (by decide),?_⟩
        rw [show lenD (.list ((fracsD rr).drop 1)) = ((fracsD rr).drop 1).length from rfl,List.length_drop,fracs_len,hrl,decide_eq_false (by omega),Bool.and_false]
    obtain ⟨y,hy1,hy2,hy3⟩:=hy
    refine ex2 (sIf_t (eq5 (q:=1) rfl (by decide)) (put_is (p:=p) (xs:=rowsD a.rs) hy1 rfl rfl (by omega))) ?_
    refine ex2 (sIf_f (eq5 (q:=1) rfl (by decide)) rfl) ?_
    refine ex2 (sIf_f (eq5 (q:=1) rfl (by decide)) rfl) ?_
    refine ex2 (sIf_f (eq5 (q:=1) rfl (by decide)) rfl) ?_
    refine ex2 (sIf_f (eq5 (q:=1) rfl (by decide)) rfl) ?_
    refine ex2 (sIf_f (eq5 (q:=1) rfl (by decide)) rfl) ?_
    refine ex2 (sIf_f (eq5 (q:=1) rfl (by decide)) rfl) ?_
    exact ⟨_,rfl,bad_row (by omega) okR hy2 okLl hy3⟩
  · refine ex2 (sIf_f (eq5 (q:=2) rfl (by decide)) rfl) ?_
    refine ex2 (sIf_f (eq5 (q:=2) rfl (by decide)) rfl) ?_
    obtain ⟨j,hj,ej⟩:=e64 2 [.d (tabD a),.d (.int r),.own (.lst (rowsD a.rs)),.d (.list (fracsD a.ls)),.d (.int (p : Nat)),.d (.int 2)] (by decide) (by decide) rfl
    have hl2 : fLst (fCons (op2 dAdd (nm 3) (fLst (fCons (fTup (fCons (fC (.int 0)) (fCons (fC (.int 1)) fNil))) fNil))) (fCons (fCut (nm 3) (oSome (fC (.int 1))) oNone) fNil)) [.d (tabD a),.d (.int r),.own (.lst (rowsD a.rs)),.d (.list (fracsD a.ls)),.d (.int (p : Nat)),.d (.int 2)] = some (.list [.list (fracsD a.ls ++ [zeroT]),.list ((fracsD a.ls).drop 1)]) := by
      refine fLst_is (fCons_is (op2_is (x:=.list (fracsD a.ls)) (y:=.list [zeroT]) rfl rfl (add_l (by rw [hL]; unfold dMax; simp; omega))) (fCons_is (x:=.list ((fracsD a.ls).drop 1)) ?_ rfl)) (show 2≤1000 by decide)
      show some (PyData.list (cutD (fracsD a.ls) (some ((1 : Nat) : Int)) none)) = _
      rw [cut_lo]
    have hy : ∃ y,op2 dIx (fLst (fCons (op2 dAdd (nm 3) (fLst (fCons (fTup (fCons (fC (.int 0)) (fCons (fC (.int 1)) fNil))) fNil))) (fCons (fCut (nm 3) (oSome (fC (.int 1))) oNone) fNil))) (op2 iMod (op2 iDiv (nm 1) (fC (.int 64))) (fC (.int 2))) [.d (tabD a),.d (.int r),.own (.lst (rowsD a.rs)),.d (.list (fracsD a.ls)),.d (.int (p : Nat)),.d (.int 2)] = some y∧Ok 4 y∧(areFrD y && decide (lenD y = lenD (.list (rowsD a.rs)))) = false := by
      rcases j with _ | _ | j
      · refine ⟨_,ix7 (p:=0) hl2 ej rfl,(ok_l (n:=1) fun d hd => ?_).mono (by decide),?_⟩
        · rcases List.mem_append.mp hd with hd | hd
          · exact okL d hd
          · rw [List.mem_singleton.mp hd]; exact ok_rat 0
        · rw [show lenD (.list (fracsD a.ls ++ [zeroT])) = (fracsD a.ls ++ [zeroT]).length from rfl,show lenD (.list (rowsD a.rs)) = (rowsD a.rs).length from rfl,List.length_append,hL,hR,decide_eq_false (by simp),Bool.and_false]
      · refine ⟨_,ix7 (p:=1) hl2 ej rfl,(ok_l (n:=1) fun d hd => okL d (List.mem_of_mem_drop hd)).mono (by decide),?_⟩
        rw [show lenD (.list ((fracsD a.ls).drop 1)) = ((fracsD a.ls).drop 1).length from rfl,show lenD (.list (rowsD a.rs)) = (rowsD a.rs).length from rfl,List.length_drop,hL,hR,decide_eq_false (by omega),Bool.and_false]
      · omega
    obtain ⟨y,hy1,hy2,hy3⟩:=hy
    refine ex2 (δ':=[.d (tabD a),.d (.int r),.own (.lst (rowsD a.rs)),.d y,.d (.int (p : Nat)),.d (.int 2)]) (sIf_t (eq5 (q:=2) rfl (by decide)) (sSet_is (δ:=[.d (tabD a),.d (.int r),.own (.lst (rowsD a.rs)),.d (.list (fracsD a.ls)),.d (.int (p : Nat)),.d (.int 2)]) hy1)) ?_
    refine ex2 (sIf_f (eq5 (q:=2) rfl (by decide)) rfl) ?_
    refine ex2 (sIf_f (eq5 (q:=2) rfl (by decide)) rfl) ?_
    refine ex2 (sIf_f (eq5 (q:=2) rfl (by decide)) rfl) ?_
    refine ex2 (sIf_f (eq5 (q:=2) rfl (by decide)) rfl) ?_
    refine ex2 (sIf_f (eq5 (q:=2) rfl (by decide)) rfl) ?_
    exact ⟨_,rfl,bad_last okRl hy2 hy3⟩
  · refine ex2 (sIf_f (eq5 (q:=3) rfl (by decide)) rfl) ?_
    refine ex2 (sIf_f (eq5 (q:=3) rfl (by decide)) rfl) ?_
    refine ex2 (sIf_f (eq5 (q:=3) rfl (by decide)) rfl) ?_
    obtain ⟨j,hj,ej⟩:=e64 7 [.d (tabD a),.d (.int r),.own (.lst (rowsD a.rs)),.own (.lst (fracsD a.ls)),.d (.int (p : Nat)),.d (.int 3)] (by decide) (by decide) rfl
    obtain ⟨y,hy⟩ : ∃ y,([.tuple [.int 2,.int 4],.tuple [.int 1,.int 0],.int 1,.tuple [.int 1,.int (-2)],.none,.tuple [.int 1,.int 2,.int 3],.bool true] : List PyData)[j]? = some y:=⟨_,List.getElem?_eq_getElem (by simpa using hj)⟩
    have hb : Ok 1 y∧isFrD y = false := by
      rcases j with _ | _ | _ | _ | _ | _ | _ | j
      · cases hy; exact ⟨⟨by decide +kernel,by decide +kernel⟩,by decide +kernel⟩
      · cases hy; exact ⟨⟨by decide +kernel,by decide +kernel⟩,by decide +kernel⟩
      · cases hy; exact ⟨⟨by decide +kernel,by decide +kernel⟩,by decide +kernel⟩
      · cases hy; exact ⟨⟨by decide +kernel,by decide +kernel⟩,by decide +kernel⟩
      · cases hy; exact ⟨⟨by decide +kernel,by decide +kernel⟩,by decide +kernel⟩
      · cases hy; exact ⟨⟨by decide +kernel,by decide +kernel⟩,by decide +kernel⟩
      · cases hy; exact ⟨⟨by decide +kernel,by decide +kernel⟩,by decide +kernel⟩
      · omega
    refine ex2 (sIf_t (eq5 (q:=3) rfl (by decide)) (put_is (p:=p) (xs:=fracsD a.ls) (y:=y) (ix7 (p:=j) (fLst_is rfl (show 7≤1000 by decide)) ej hy) rfl rfl (by omega))) ?_
    refine ex2 (sIf_f (eq5 (q:=3) rfl (by decide)) rfl) ?_
    refine ex2 (sIf_f (eq5 (q:=3) rfl (by decide)) rfl) ?_
    refine ex2 (sIf_f (eq5 (q:=3) rfl (by decide)) rfl) ?_
    refine ex2 (sIf_f (eq5 (q:=3) rfl (by decide)) rfl) ?_
    refine ⟨_,rfl,bad_last okRl ((ok_l (ok_set okL hb.1)).mono (by decide)) ?_⟩
    rw [show areFrD (.list ((fracsD a.ls).set p y)) = false from ?_,Bool.false_and]
    refine Bool.eq_false_iff.mpr fun z => ?_
    rw [areFrD,List.all_eq_true] at z
    have:=z y (List.mem_of_getElem? (List.getElem?_set_self (by omega)))
    rw [hb.2] at this; cases this
  · refine ex2 (sIf_f (eq5 (q:=4) rfl (by decide)) rfl) ?_
    refine ex2 (sIf_f (eq5 (q:=4) rfl (by decide)) rfl) ?_
    refine ex2 (sIf_f (eq5 (q:=4) rfl (by decide)) rfl) ?_
    refine ex2 (sIf_f (eq5 (q:=4) rfl (by decide)) rfl) ?_
    refine ex2 (sIf_t (eq5 (q:=4) rfl (by decide)) (put_is (p:=p) (xs:=rowsD a.rs) (y:=.tuple (fracsD rr)) (fCall_is (xs:=[rowD rr]) (fCons_is (ixO rfl rfl hRp) rfl) rfl) rfl rfl (by omega))) ?_
    refine ex2 (sIf_f (eq5 (q:=4) rfl (by decide)) rfl) ?_
    refine ex2 (sIf_f (eq5 (q:=4) rfl (by decide)) rfl) ?_
    refine ex2 (sIf_f (eq5 (q:=4) rfl (by decide)) rfl) ?_
    exact ⟨_,rfl,bad_row (by omega) okR ((ok_t (ok_fracs rr)).mono (by decide)) okLl rfl⟩
  · refine ex2 (sIf_f (eq5 (q:=5) rfl (by decide)) rfl) ?_
    refine ex2 (sIf_f (eq5 (q:=5) rfl (by decide)) rfl) ?_
    refine ex2 (sIf_f (eq5 (q:=5) rfl (by decide)) rfl) ?_
    refine ex2 (sIf_f (eq5 (q:=5) rfl (by decide)) rfl) ?_
    refine ex2 (sIf_f (eq5 (q:=5) rfl (by decide)) rfl) ?_
    refine ex2 (sIf_t (eq5 (q:=5) rfl (by decide)) rfl) ?_
    refine ex2 (sIf_f (eq5 (q:=5) rfl (by decide)) rfl) ?_
    refine ex2 (sIf_f (eq5 (q:=5) rfl (by decide)) rfl) ?_
    exact ⟨_,rfl,⟨by decide +kernel,by decide +kernel⟩,by decide +kernel⟩
  · refine ex2 (sIf_f (eq5 (q:=6) rfl (by decide)) rfl) ?_
    refine ex2 (sIf_f (eq5 (q:=6) rfl (by decide)) rfl) ?_
    refine ex2 (sIf_f (eq5 (q:=6) rfl (by decide)) rfl) ?_
    refine ex2 (sIf_f (eq5 (q:=6) rfl (by decide)) rfl) ?_
    refine ex2 (sIf_f (eq5 (q:=6) rfl (by decide)) rfl) ?_
    refine ex2 (sIf_f (eq5 (q:=6) rfl (by decide)) rfl) ?_
    refine exI (eq5 (q:=6) rfl (by decide)) ⟨_,rfl,ok_l (fun d hd => ?_),rfl⟩
    rcases List.mem_cons.mp hd with rfl | hd
    · exact okRl
    · rw [List.mem_singleton.mp hd]; exact okLl
  · refine ex2 (sIf_f (eq5 (q:=7) rfl (by decide)) rfl) ?_
    refine ex2 (sIf_f (eq5 (q:=7) rfl (by decide)) rfl) ?_
    refine ex2 (sIf_f (eq5 (q:=7) rfl (by decide)) rfl) ?_
    refine ex2 (sIf_f (eq5 (q:=7) rfl (by decide)) rfl) ?_
    refine ex2 (sIf_f (eq5 (q:=7) rfl (by decide)) rfl) ?_
    refine ex2 (sIf_f (eq5 (q:=7) rfl (by decide)) rfl) ?_
    refine ex2 (sIf_f (eq5 (q:=7) rfl (by decide)) rfl) ?_
    obtain ⟨j,hj,ej⟩:=e64 4 [.d (tabD a),.d (.int r),.d (.list (rowsD a.rs)),.d (.list (fracsD a.ls)),.d (.int (p : Nat)),.d (.int 7)] (by decide) (by decide) rfl
    obtain ⟨y,hy⟩ : ∃ y,([.tuple [.list (rowsD a.rs),.tuple (fracsD a.ls)],.tuple [.list (rowsD a.rs)],.none,.tuple [.list (rowsD a.rs),.list (fracsD a.ls),.list []]] : List PyData)[j]? = some y:=⟨_,List.getElem?_eq_getElem (by simpa using hj)⟩
    have hb : Bad y := by
      rcases j with _ | _ | _ | _ | j
      · cases hy; exact bad_last okRl ((ok_t okL).mono (by decide)) rfl
      · cases hy; exact ⟨ok_t fun d hd => by rw [List.mem_singleton.mp hd]; exact okRl,rfl⟩
      · cases hy; exact ⟨.non,rfl⟩
      · cases hy
        refine ⟨ok_t fun d hd => ?_,rfl⟩
        rcases List.mem_cons.mp hd with rfl | hd
        · exact okRl
        · rcases List.mem_cons.mp hd with rfl | hd
          · exact okLl
          · rw [List.mem_singleton.mp hd]; exact ⟨by decide +kernel,by decide +kernel⟩
      · omega
    exact exI (eq5 (q:=7) rfl (by decide)) ⟨y,sRet_is (δ:=[.d (tabD a),.d (.int r),.d (.list (rowsD a.rs)),.d (.list (fracsD a.ls)),.d (.int (p : Nat)),.d (.int 7)]) (ix7 (p:=j) (fLst_is rfl (show 4≤1000 by decide)) ej hy),hb⟩
end
theorem eq_of_two {G Gn H' : Hp} (h1 : Same G H') (h2 : Same Gn H') {a : Addr} {o u : HO} (x : G a = some o) (y : Gn a = some u) : o = u := by
  have:=h1 _ _ x
  rw [h2 _ _ y] at this
  exact (Option.some.inj this).symm
def both (G Gn : Hp) : Hp:=fun b => match G b with
  | some o => some o
  | none => Gn b
section
variable {P : Program} {w : World} {K : PySem.W.Frag} {mg : Str→Option Value} {base : Heap} {f g : Addr} {fd gd : FuncData}
theorem ok__law_spoilt {k : Nat} (F : Fn K mg "_law_spoilt" s__law_spoilt ["_law_table_here", "_law_rest_here"] f fd) (T__law_copy : Fn K mg "_law_copy" s__law_copy ["_law_table_here"] g gd) (G__law_copy : FnOk P w K mg base CX0 k g gd ["_law_table_here"] spCopyN)
    (z_int : mg "int" = none) (z_len : mg "len" = none) (z_tuple : mg "tuple" = none) : FnOk P w K mg base CX0 (k + 1) f fd ["_law_table_here", "_law_rest_here"] (spD mSpo) := by
  have sc:=sc__law_spoilt
  refine F.F.ok (k:=k) sc (fun vs H Q E h => ?_) (fun cdv A outer s H vs Q E hr h => ?_)
  · obtain ⟨ds,x,G,h1,h2,_⟩:=h
    unfold mSpo at h1
    split at h1
    · exact h2.len
    · cases h1
  obtain ⟨ds,x,G,h1,h2,h3,kk⟩:=h
  unfold mSpo at h1
  split at h1
  · rename_i rs ls r
    split at h1
    · rename_i hh
      obtain ⟨a,m,rfl,rfl,ha,hm⟩:=hh
      split at h1
      · rename_i y hy
        cases h1
        obtain ⟨v,u,rfl,d1,d2⟩:=h2.un2
        have d2':=d2
        rw [Du] at d2
        subst d2
        obtain ⟨t,pt,kt⟩:=os__law_spoilt_1 z_int z_len z_tuple cdv A outer s H E hr
        refine ⟨_,(pss_cons (ps_asg (pe_fn T__law_copy G__law_copy hr rfl (pa_cons (pv 0) pa_nil)) (pg_tup rfl (pgs_cons (pg_name (i:=2) sc.nd rfl (Or.inl rfl)) (pgs_cons (pg_name (i:=3) sc.nd rfl (Or.inl rfl)) pgs_nil)))) pt),?_⟩
        refine ⟨_,rfl,v,a,m,rfl,du_DU (can_tab a) (d1.same h3),ha,hm,fun p R L xs ys H' e hR hL nRL hp hRx hLy dr dl => ?_⟩
        refine ⟨p,[.ref R,.ref L],rfl,SqT.of hp,rfl,.ref R,[.ref L],rfl,.ref L,[],rfl,rfl,?_⟩
        have gh' : Same G H':=h3.trans e
        have nGR : G R = none:=nback h3 hR
        have nGL : G L = none:=nback h3 hL
        have s1 : Same G (both G (newT R L H H')):=fun b o hb => by unfold both; rw [hb]
        have s2 : Same (newT R L H H') (both G (newT R L H H')):=fun b o hb => by
          unfold both
          split
          · rename_i o' e'; rw [eq_of_two gh' newT_in e' hb]
          · exact hb
        have cR : both G (newT R L H H') R = none := by unfold both; rw [nGR]; exact newT_no hRx (.inl rfl)
        have cL : both G (newT R L H H') L = none := by unfold both; rw [nGL]; exact newT_no hLy (.inr rfl)
        refine kt _ _ hy G H (both G (newT R L H H')) H' _ _ ⟨s1,fun b o hb => ?_,fun b o hb => ?_,e,rfl,fun i x hx => ?_,fun i c hc => ?_,fun i j c c' hij hi hj => ?_,fun q hq => by cases hq⟩ kk
        · unfold both at hb
          split at hb
          · rename_i o' e'; cases hb; exact .inl e'
          · exact .inr (newT_new hb)
        · unfold both at hb
          split at hb
          · rename_i o' e'; cases hb; exact gh' _ _ e'
          · exact newT_in _ _ hb
        · rcases i with _ | _ | _ | _ | _ | _ | i
          · cases hx; exact ⟨_,rfl,d1.same s1⟩
          · cases hx; exact ⟨_,rfl,by rw [Du]⟩
          all_goals first | (cases hx; done) | (simp at hx)
        · rcases i with _ | _ | _ | _ | _ | _ | i
          · cases hc
          · cases hc
          · cases hc; exact ⟨R,_,rfl,cR,hR,hRx,_,rfl,dr.same s2⟩
          · cases hc; exact ⟨L,_,rfl,cL,hL,hLy,_,rfl,dl.same s2⟩
          all_goals first | (cases hc; done) | (simp at hc)
        · have two : ∀ (i : Nat) (c : Oc),([.d (.tuple [.list (rowsD a.rs),.list (fracsD a.ls)]),.d (.int r),.own (.lst (rowsD a.rs)),.own (.lst (fracsD a.ls)),.no,.no] : Dv)[i]? = some (.own c)→i = 2∨i = 3:=fun i c hc => by
            rcases i with _ | _ | _ | _ | _ | _ | i
            · cases hc
            · cases hc
            · exact .inl rfl
            · exact .inr rfl
            all_goals first | (cases hc; done) | (simp at hc)
          rcases two i c hi with rfl | rfl <;> rcases two j c' hj with rfl | rfl
          · exact absurd rfl hij
          · intro z
            have z' : some (some (V.ref R)) = some (some (V.ref L)):=z
            cases z'; exact nRL rfl
          · intro z
            have z' : some (some (V.ref L)) = some (some (V.ref R)):=z
            cases z'; exact nRL rfl
          · exact absurd rfl hij
      · cases h1
    · cases h1
  · cases h1
end
theorem ok_s {x : Str} (h : PyData.strOk x = true) : Ok 0 (.str x):=.str h
theorem ne_self {x : PyData} {n : Nat} (h : Ok n x) (hn : n≤64) : dEq true x x = some (.bool false) := by
  refine (if_pos ⟨h.shaped hn,h.shaped hn⟩).trans ?_
  rw [eqv_self x h.1]; rfl
theorem eq_self' {x : PyData} {n : Nat} (h : Ok n x) (hn : n≤64) : dEq false x x = some (.bool true) := by
  refine (if_pos ⟨h.shaped hn,h.shaped hn⟩).trans ?_
  rw [eqv_self x h.1]; rfl
abbrev sTold : PyData:=.str (Str.ofString "told")
abbrev sMany : PyData:=.str (Str.ofString "many")
abbrev sParts : PyData:=.str (Str.ofString "parts")
abbrev sTable : PyData:=.str (Str.ofString "table")
theorem ok_told : Ok 0 sTold:=ok_s (by decide +kernel)
theorem ok_many : Ok 0 sMany:=ok_s (by decide +kernel)
theorem ok_parts : Ok 0 sParts:=ok_s (by decide +kernel)
theorem ok_table : Ok 0 sTable:=ok_s (by decide +kernel)
def dueL (o : Int) : List PyData:=[sTold,sTold,sTold,if (decide (o < 1) || decide (6 < o)) = true then sMany else sTold,sParts,sParts,sParts,sTold]
section
variable {C C1 C2 C3 : Addr} {a b : Tb} {r o fa : Int} {one : PyData}
theorem bAnd_t {f g : Dv→Option Bool} {δ : Dv} {q : Option Bool} (h : f δ = some true) (k : g δ = q) : bAnd f g δ = q := by show (f δ).bind _ = q; rw [h]; exact k
theorem bAnd_f {f g : Dv→Option Bool} {δ : Dv} (h : f δ = some false) : bAnd f g δ = some false := by show (f δ).bind _ = _; rw [h]; rfl
theorem step63 {i : Nat} {wd du : PyData} {l10 : L} (hi : i < 8) (h8 : (dueL o)[i]? = some du) (hw : wd = if 0 < r % 4∧i≠5∧i≠6 then sTable else du) (hr : mRf C1 C2 C3 [.int (i : Nat),one,tabD b,ratD third,.int o] = some wd) (ok : Ok 0 wd) (ok1 : Ok 5 one) :
    ∃ δ2,(seqD (sSet 10 (op2 dIx (nm 8) (nm 9)))
      (seqD (sIf (bAnd (bCmp (iCmp fun i j => decide (j < i)) (op2 iMod (nm 1) (fC (.int 4))) (fC (.int 0))) (bCmp (dIn true) (nm 9) (fLst (fCons (fC (.int 5)) (fCons (fC (.int 6)) fNil)))))
        (sSet 10 (fC (.str (Str.ofString "table"))))
        sNext)
      (sIf (bOr (bCmp (dEq true) (fCall (mRf C1 C2 C3) (fCons (nm 9) (fCons (nm 6) (fCons (nm 3) (fCons (fTup (fCons (fC (.int 1)) (fCons (fC (.int 3)) fNil))) (fCons (nm 5) fNil)))))) (nm 10)) (bCmp (dEq true) (nm 6) (nm 7)))
        (sRet (fC (.bool false)))
        sNext))) [.no,.d (.int r),.d (tabD a),.d (tabD b),.d (.int fa),.d (.int o),.d one,.d one,.d (.list (dueL o)),.d (.int (i : Nat)),l10,.no,.no] = some (.nx δ2) ∧
      ∃ l9 l10,δ2 = [.no,.d (.int r),.d (tabD a),.d (tabD b),.d (.int fa),.d (.int o),.d one,.d one,.d (.list (dueL o)),l9,l10,.no,.no] := by
  refine ex_nx (sSet_is (y:=du) (op2_is (x:=.list (dueL o)) (y:=.int (i : Nat)) rfl rfl (atI_nat h8))) ?_
  have e1 : bCmp (iCmp fun i j => decide (j < i)) (op2 iMod (nm 1) (fC (.int 4))) (fC (.int 0)) [.no,.d (.int r),.d (tabD a),.d (tabD b),.d (.int fa),.d (.int o),.d one,.d one,.d (.list (dueL o)),.d (.int (i : Nat)),.d du,.no,.no] = some (decide (0 < r % 4)) := bCmp_is (x:=.int (r % 4)) (y:=.int 0) (op2_is (x:=.int r) (y:=.int 4) rfl rfl (mod_is (by decide))) rfl rfl
  have e2 : bCmp (dIn true) (nm 9) (fLst (fCons (fC (.int 5)) (fCons (fC (.int 6)) fNil))) [.no,.d (.int r),.d (tabD a),.d (tabD b),.d (.int fa),.d (.int o),.d one,.d one,.d (.list (dueL o)),.d (.int (i : Nat)),.d du,.no,.no] = some (!([5,6] : List Int).contains (i : Int)) := bCmp_is (x:=.int (i : Nat)) (y:=.list [.int 5,.int 6]) rfl rfl rfl
  have e3 : (sIf (bAnd (bCmp (iCmp fun i j => decide (j < i)) (op2 iMod (nm 1) (fC (.int 4))) (fC (.int 0))) (bCmp (dIn true) (nm 9) (fLst (fCons (fC (.int 5)) (fCons (fC (.int 6)) fNil))))) (sSet 10 (fC (.str (Str.ofString "table")))) sNext) [.no,.d (.int r),.d (tabD a),.d (tabD b),.d (.int fa),.d (.int o),.d one,.d one,.d (.list (dueL o)),.d (.int (i : Nat)),.d du,.no,.no] = some (.nx [.no,.d (.int r),.d (tabD a),.d (tabD b),.d (.int fa),.d (.int o),.d one,.d one,.d (.list (dueL o)),.d (.int (i : Nat)),.d wd,.no,.no]) := by
    by_cases z : 0 < r % 4
    · rw [decide_eq_true z] at e1
      by_cases z2 : i≠5∧i≠6
      · rw [hw,if_pos ⟨z,z2⟩]
        refine sIf_t (bAnd_t e1 (e2.trans ?_)) rfl
        have : ([5,6] : List Int).contains (i : Int) = false := by
          rw [List.contains_eq_mem]
          refine decide_eq_false fun h => ?_
          simp at h
          omega
        rw [this]; rfl
      · rw [hw,if_neg fun h => z2 h.2]
        refine sIf_f (bAnd_t e1 (e2.trans ?_)) rfl
        have : ([5,6] : List Int).contains (i : Int) = true := by
          rw [List.contains_eq_mem]
          refine decide_eq_true ?_
          simp
          omega
        rw [this]; rfl
    · rw [decide_eq_false z] at e1
      rw [hw,if_neg fun h => z h.1]
      exact sIf_f (bAnd_f e1) rfl
  refine ex_nx e3 (if_ex (bOr_f (bCmp_is (x:=wd) (y:=wd) (fCall_is (xs:=[.int (i : Nat),one,tabD b,ratD third,.int o]) rfl hr) rfl (ne_self ok (by decide))) (bCmp_is (x:=one) (y:=one) rfl rfl (ne_self ok1 (by decide)))) ⟨_,rfl,_,_,rfl⟩)
theorem mem_two {t : Tb} (h : t∈[a,b]) {m n : Nat} (ha : a.Ok m) (hm : m≤40) (hb : b.Ok n) (hn : n≤40) : ∃ m,t.Ok m∧m≤40 := by
  rcases List.mem_cons.mp h with rfl | h
  · exact ⟨_,ha,hm⟩
  · rw [List.mem_singleton.mp h]; exact ⟨_,hb,hn⟩
theorem word_good (h3 : Three C1 C2 C3) (ha : a.Ok 4) (hb : b.Ok 4) (fa' : a.Fit 60) (fb' : b.Fit 60) (i : Nat) (hi : i < 8) : ∃ wd,(dueL o)[i]? = some wd∧Ok 0 wd∧mRf C1 C2 C3 [.int (i : Nat),tabD a,tabD b,ratD third,.int o] = some wd := by
  have am:=ha.most
  have bm:=hb.most
  have fa4 : a.Fit 400:=fa'.mono (by decide)
  have fb4 : b.Fit 400:=fb'.mono (by decide)
  have t4 : FM.Fits third 400:=fits_third.mono (by decide)
  rcases i with _ | _ | _ | _ | _ | _ | _ | _ | i
  · exact ⟨_,rfl,ok_told,rf_told (as_in0 (be_is ha (by decide) hb (by decide) (by omega)))⟩
  · exact ⟨_,rfl,ok_told,rf_told (as_in1 (sh_is ha (by decide) fa4 t4))⟩
  · obtain ⟨y,hy⟩:=mx_told (C1:=C1) (C2:=C2) (C3:=C3) hb (by decide) ha (by decide) fb4 fa4 t4 t4 (by omega)
    exact ⟨_,rfl,ok_told,rf_told (as_in2 hy)⟩
  · by_cases z : o < 1∨6 < o
    · refine ⟨sMany,?_,ok_many,rf_3 h3 (as_no3 (sp_order ha (by decide) z))⟩
      show some (if _ then sMany else sTold) = _
      rw [if_pos (by rcases z with z | z <;> simp [z])]
    · obtain ⟨n,rfl⟩ : ∃ n : Nat,o = (n : Int):=⟨o.toNat,by omega⟩
      obtain ⟨y,hy⟩:=sp_told (C1:=C1) (C2:=C2) (C3:=C3) (o:=n) (by omega) (by omega) ha (by decide) (fa'.mono (by decide)) (by omega)
      refine ⟨sTold,?_,ok_told,rf_told (as_in3 hy)⟩
      show some (if _ then sMany else sTold) = _
      rw [if_neg (by rw [decide_eq_false (by omega),decide_eq_false (by omega)]; decide)]
  · exact ⟨_,rfl,ok_parts,rf_2 h3 (as_no4 (mx_parts [a,a] [ratD third] (fun t ht => mem_two ht ha (by decide) ha (by decide)) (.inr (by show (2 : Nat)≠1; decide))))⟩
  · exact ⟨_,rfl,ok_parts,rf_2 h3 (as_no5 (mx_parts [] [] (fun t ht => by cases ht) (.inl rfl)))⟩
  · exact ⟨_,rfl,ok_parts,rf_2 h3 (as_no6 (mx_parts [b] [ratD third,ratD third,ratD third] (fun t ht => by rw [List.mem_singleton.mp ht]; exact ⟨_,hb,by decide⟩) (.inr (by show (1 : Nat)≠3; decide))))⟩
  · exact ⟨_,rfl,ok_told,rf_told (as_in7 (be_is hb (by decide) ha (by decide) (by omega)))⟩
  · omega
theorem word_bad (h3 : Three C1 C2 C3) (hb : b.Ok 4) (hbad : Bad one) (i : Nat) (hi : i < 8) : ∃ du,(dueL o)[i]? = some du∧Ok 0 (if i≠5∧i≠6 then sTable else du)∧mRf C1 C2 C3 [.int (i : Nat),one,tabD b,ratD third,.int o] = some (if i≠5∧i≠6 then sTable else du) := by
  obtain ⟨hok,hno⟩:=hbad
  have hc:=hok.1
  rcases i with _ | _ | _ | _ | _ | _ | _ | _ | i
  · exact ⟨_,rfl,ok_table,rf_1 h3 (as_no0 (be_no1 hc hno))⟩
  · exact ⟨_,rfl,ok_table,rf_1 h3 (as_no1 (sh_no hc hno))⟩
  · exact ⟨_,rfl,ok_table,rf_1 h3 (as_no2 (mx_no2 hb (by decide) hc hno))⟩
  · exact ⟨_,rfl,ok_table,rf_1 h3 (as_no3 (sp_no hc hno))⟩
  · exact ⟨_,rfl,ok_table,rf_1 h3 (as_no4 (mx_no11 hc hno))⟩
  · exact ⟨_,rfl,ok_parts,rf_2 h3 (as_no5 (mx_parts [] [] (fun t ht => by cases ht) (.inl rfl)))⟩
  · exact ⟨_,rfl,ok_parts,rf_2 h3 (as_no6 (mx_parts [b] [ratD third,ratD third,ratD third] (fun t ht => by rw [List.mem_singleton.mp ht]; exact ⟨_,hb,by decide⟩) (.inr (by show (1 : Nat)≠3; decide))))⟩
  · exact ⟨_,rfl,ok_table,rf_1 h3 (as_no7 (be_no2 hb (by decide) hc hno))⟩
  · omega
end
section
variable {C1 C2 C3 : Addr} {a b : Tb} {r : Int}
theorem ord_is (r fa : Int) (u v w : L) : ∃ o,op2 dIx (fLst (fCons (fC (.int 1)) (fCons (fC (.int 6)) (fCons (fC (.int 0)) (fCons (fC (.int 7)) (fCons (op2 dAdd (fC (.int 8)) (nm 4)) (fCons (op2 iSub (fNeg (fC (.int 1))) (nm 4)) fNil))))))) (op2 iMod (op2 iDiv (nm 1) (fC (.int 4))) (fC (.int 6))) [u,.d (.int r),v,w,.d (.int fa),.no,.no,.no,.no,.no,.no,.no,.no] = some (.int o) := by
  obtain ⟨j,hj⟩ : ∃ j : Nat,(r / 4) % 6 = (j : Int):=⟨((r / 4) % 6).toNat,by omega⟩
  have hj6 : j < 6 := by omega
  have e1 : op2 iMod (op2 iDiv (nm 1) (fC (.int 4))) (fC (.int 6)) [u,.d (.int r),v,w,.d (.int fa),.no,.no,.no,.no,.no,.no,.no,.no] = some (.int (j : Nat)):=op2_is (x:=.int (r / 4)) (y:=.int 6) (op2_is (x:=.int r) (y:=.int 4) rfl rfl (div_is (by decide) (by decide))) rfl ((mod_is (by decide)).trans (by rw [hj]))
  have e2 : fLst (fCons (fC (.int 1)) (fCons (fC (.int 6)) (fCons (fC (.int 0)) (fCons (fC (.int 7)) (fCons (op2 dAdd (fC (.int 8)) (nm 4)) (fCons (op2 iSub (fNeg (fC (.int 1))) (nm 4)) fNil)))))) [u,.d (.int r),v,w,.d (.int fa),.no,.no,.no,.no,.no,.no,.no,.no] = some (.list [.int 1,.int 6,.int 0,.int 7,.int (8 + fa),.int (-1 - fa)]):=rfl
  rcases j with _ | _ | _ | _ | _ | _ | j
  · exact ⟨_,op2_is e2 e1 (atI_nat rfl)⟩
  · exact ⟨_,op2_is e2 e1 (atI_nat rfl)⟩
  · exact ⟨_,op2_is e2 e1 (atI_nat rfl)⟩
  · exact ⟨_,op2_is e2 e1 (atI_nat rfl)⟩
  · exact ⟨_,op2_is e2 e1 (atI_nat rfl)⟩
  · exact ⟨_,op2_is e2 e1 (atI_nat rfl)⟩
  · omega
theorem pick_is {f : Dv→Option PyData} {δ : Dv} {q : Bool} (h : f δ = some (.bool q)) : op2 dIx (fLst (fCons (fC (.str (Str.ofString "told"))) (fCons (fC (.str (Str.ofString "many"))) fNil))) (fCall dInt (fCons f fNil)) δ = some (if q = true then sMany else sTold) := by
  refine op2_is (x:=.list [sTold,sMany]) (y:=.int (if q then 1 else 0)) rfl (fCall_is (fCons_is h (show fNil δ = some [] from rfl)) rfl) ?_
  cases q <;> rfl
theorem due_is {o : Int} {δ : Dv} (h : nm 5 δ = some (.int o)) : fLst (fCons (fC (.str (Str.ofString "told"))) (fCons (fC (.str (Str.ofString "told"))) (fCons (fC (.str (Str.ofString "told"))) (fCons (op2 dIx (fLst (fCons (fC (.str (Str.ofString "told"))) (fCons (fC (.str (Str.ofString "many"))) fNil))) (fCall dInt (fCons (fOr (op2 (iCmp fun i j => decide (i < j)) (nm 5) (fC (.int 1))) (op2 (iCmp fun i j => decide (j < i)) (nm 5) (fC (.int 6)))) fNil))) (fCons (fC (.str (Str.ofString "parts"))) (fCons (fC (.str (Str.ofString "parts"))) (fCons (fC (.str (Str.ofString "parts"))) (fCons (fC (.str (Str.ofString "told"))) fNil)))))))) δ = some (.list (dueL o)) := by
  have h1 : op2 (iCmp fun i j => decide (i < j)) (nm 5) (fC (.int 1)) δ = some (.bool (decide (o < 1))):=op2_is (x:=.int o) (y:=.int 1) h rfl rfl
  have h2 : op2 (iCmp fun i j => decide (j < i)) (nm 5) (fC (.int 6)) δ = some (.bool (decide (6 < o))):=op2_is (x:=.int o) (y:=.int 6) h rfl rfl
  have h3 : fOr (op2 (iCmp fun i j => decide (i < j)) (nm 5) (fC (.int 1))) (op2 (iCmp fun i j => decide (j < i)) (nm 5) (fC (.int 6))) δ = some (.bool (decide (o < 1) || decide (6 < o))) := by
    unfold fOr
    rw [h1]
    by_cases z : o < 1
    · rw [decide_eq_true z]; rfl
    · rw [decide_eq_false z,Bool.false_or]; exact h2
  refine fLst_is (fCons_is rfl (fCons_is rfl (fCons_is rfl (fCons_is (pick_is h3) rfl)))) ?_
  show (8 : Nat)≤dMax
  decide
theorem law_tail (h3 : Three C1 C2 C3) (ha : a.Ok 4) (hb : b.Ok 4) (ga : a.Fit 60) (gb : b.Fit 60) (l4 l5 l6 l7 l8 l9 l10 : L) :
      (seqD (sSet 11 (op2 dAdd (fC (.int 1)) (op2 iMod (op2 iDiv (nm 1) (fC (.int 64))) (fC (.int 39)))))
  (seqD (sSet 12 (fLst (fCons (fCall m__law_long (fCons (nm 2) (fCons (nm 11) fNil))) (fCons (fCall m__law_long (fCons (nm 3) (fCons (op2 iSub (fC (.int 40)) (nm 11)) fNil))) (fCons (fCall m__law_long (fCons (nm 3) (fCons (op2 iSub (fC (.int 41)) (nm 11)) fNil))) fNil)))))
  (seqD (sIf (bOr (bCmp (dEq true) (fCall (mRf C1 C2 C3) (fCons (fC (.int 0)) (fCons (op2 dIx (nm 12) (fC (.int 0))) (fCons (op2 dIx (nm 12) (fC (.int 1))) (fCons (fTup (fCons (fC (.int 1)) (fCons (fC (.int 3)) fNil))) (fCons (fC (.int 1)) fNil)))))) (fC (.str (Str.ofString "told")))) (bCmp (dEq true) (fCall (mRf C1 C2 C3) (fCons (fC (.int 0)) (fCons (op2 dIx (nm 12) (fC (.int 0))) (fCons (op2 dIx (nm 12) (fC (.int 2))) (fCons (fTup (fCons (fC (.int 1)) (fCons (fC (.int 3)) fNil))) (fCons (fC (.int 1)) fNil)))))) (fC (.str (Str.ofString "many")))))
    (sRet (fC (.bool false)))
    sNext)
  (seqD (sIf (bOr (bCmp (dEq true) (fCall (mRf C1 C2 C3) (fCons (fC (.int 2)) (fCons (op2 dIx (nm 12) (fC (.int 0))) (fCons (op2 dIx (nm 12) (fC (.int 1))) (fCons (fTup (fCons (fC (.int 1)) (fCons (fC (.int 3)) fNil))) (fCons (fC (.int 1)) fNil)))))) (fC (.str (Str.ofString "told")))) (bCmp (dEq true) (fCall (mRf C1 C2 C3) (fCons (fC (.int 2)) (fCons (op2 dIx (nm 12) (fC (.int 0))) (fCons (op2 dIx (nm 12) (fC (.int 2))) (fCons (fTup (fCons (fC (.int 1)) (fCons (fC (.int 3)) fNil))) (fCons (fC (.int 1)) fNil)))))) (fC (.str (Str.ofString "many")))))
    (sRet (fC (.bool false)))
    sNext)
  (sRet (op2 (dEq false) (fCall (mRf C1 C2 C3) (fCons (fC (.int 3)) (fCons (op2 dIx (nm 12) (fC (.int 0))) (fCons (op2 dIx (nm 12) (fC (.int 1))) (fCons (fTup (fCons (fC (.int 1)) (fCons (fC (.int 3)) fNil))) (fCons (fC (.int 1)) fNil)))))) (op2 dIx (fLst (fCons (fC (.str (Str.ofString "told"))) (fCons (fC (.str (Str.ofString "many"))) fNil))) (fCall dInt (fCons (op2 (iCmp fun i j => decide (j < i)) (nm 11) (fC (.int 13))) fNil))))))))) [.no,.d (.int r),.d (tabD a),.d (tabD b),l4,l5,l6,l7,l8,l9,l10,.no,.no] = some (.rt (.bool true)) := by
  obtain ⟨n,hn⟩ : ∃ n : Nat,1 + (r / 64) % 39 = (n : Int):=⟨(1 + (r / 64) % 39).toNat,by omega⟩
  have n1 : n≠0 := by omega
  have n39 : n≤39 := by omega
  have k1 : 40 - n≠0 := by omega
  have k2 : 41 - n≠0 := by omega
  have oA:=long_ok ha n1
  have oB:=long_ok hb k1
  have oC:=long_ok hb k2
  have lA:=long_len (a:=a) n1
  have lB:=long_len (a := b) k1
  have lC:=long_len (a := b) k2
  have fA:=long_fit (ga.mono (by decide)) n1 (by omega)
  have fB:=long_fit (gb.mono (by decide)) k1 (by omega)
  have t4 : FM.Fits third 400:=fits_third.mono (by decide)
  have q0:=rf_told (C1:=C1) (C2:=C2) (C3:=C3) (order:=.int 1) (part:=ratD third) (as_in0 (be_is oA (by omega) oB (by omega) (by omega)))
  have q1:=rf_3 (order:=.int 1) (part:=ratD third) h3 (as_no0 (be_many oA (by omega) oC (by omega) (by omega)))
  obtain ⟨y,hy⟩:=mx_told (C1:=C1) (C2:=C2) (C3:=C3) oB (by omega) oA (by omega) (fB.mono (by decide)) (fA.mono (by decide)) t4 t4 (by omega)
  have q2:=rf_told (order:=.int 1) (as_in2 hy)
  have q3:=rf_3 (order:=.int 1) (part:=ratD third) h3 (as_no2 (mx_many oC (by omega) oA (by omega) (by omega)))
  have q4 : mRf C1 C2 C3 [.int 3,tabD (a.long n n1),tabD (b.long (40 - n) k1),ratD third,.int 1] = some (if decide (13 < (n : Int)) = true then sMany else sTold) := by
    by_cases z : 13 < n
    · rw [if_pos (decide_eq_true (by omega))]
      exact rf_3 h3 (as_no3 (sp_many (o:=1) (by decide) (by decide) oA (by omega) fA (by omega)))
    · rw [if_neg (by rw [decide_eq_false (by omega)]; decide)]
      obtain ⟨y,hy⟩:=sp_told (C1:=C1) (C2:=C2) (C3:=C3) (o:=1) (by decide) (by decide) oA (by omega) fA (by omega)
      exact rf_told (as_in3 hy)
  have okp : ∀ q : Bool,Ok 0 (if q = true then sMany else sTold):=fun q => by cases q; exact ok_told; exact ok_many
  have e11 : op2 dAdd (fC (.int 1)) (op2 iMod (op2 iDiv (nm 1) (fC (.int 64))) (fC (.int 39))) [.no,.d (.int r),.d (tabD a),.d (tabD b),l4,l5,l6,l7,l8,l9,l10,.no,.no] = some (.int (n : Nat)):=op2_is (x:=.int 1) (y:=.int ((r / 64) % 39)) rfl (op2_is (x:=.int (r / 64)) (y:=.int 39) (op2_is (x:=.int r) (y:=.int 64) rfl rfl (div_is (by decide) (by decide))) rfl (mod_is (by decide))) (show some (PyData.int (1 + (r / 64) % 39)) = _ by rw [hn])
  refine seqD_nx (sSet_is e11) ?_
  have s1 : op2 iSub (fC (.int 40)) (nm 11) [.no,.d (.int r),.d (tabD a),.d (tabD b),l4,l5,l6,l7,l8,l9,l10,.d (.int (n : Nat)),.no] = some (.int ((40 - n : Nat) : Int)):=(show _ = some (PyData.int (40 - (n : Int))) from rfl).trans (by rw [show (40 : Int) - n = ((40 - n : Nat) : Int) by omega])
  have s2 : op2 iSub (fC (.int 41)) (nm 11) [.no,.d (.int r),.d (tabD a),.d (tabD b),l4,l5,l6,l7,l8,l9,l10,.d (.int (n : Nat)),.no] = some (.int ((41 - n : Nat) : Int)):=(show _ = some (PyData.int (41 - (n : Int))) from rfl).trans (by rw [show (41 : Int) - n = ((41 - n : Nat) : Int) by omega])
  refine seqD_nx (sSet_is (y:=.list [tabD (a.long n n1),tabD (b.long (40 - n) k1),tabD (b.long (41 - n) k2)]) (fLst_is (fCons_is (fCall_is (xs:=[tabD a,.int (n : Nat)]) rfl (long_is ha (by decide) n1 (by omega))) (fCons_is (fCall_is (fCons_is (x:=tabD b) rfl (fCons_is s1 rfl)) (long_is hb (by decide) k1 (by omega))) (fCons_is (fCall_is (fCons_is (x:=tabD b) rfl (fCons_is s2 rfl)) (long_is hb (by decide) k2 (by omega))) rfl))) (show (3 : Nat)≤dMax by decide))) ?_
  refine seqD_nx (sIf_f (bOr_f (bCmp_is (fCall_is (xs:=[.int 0,tabD (a.long n n1),tabD (b.long (40 - n) k1),ratD third,.int 1]) rfl q0) rfl (ne_self ok_told (by decide))) (bCmp_is (fCall_is (xs:=[.int 0,tabD (a.long n n1),tabD (b.long (41 - n) k2),ratD third,.int 1]) rfl q1) rfl (ne_self ok_many (by decide)))) rfl) ?_
  refine seqD_nx (sIf_f (bOr_f (bCmp_is (fCall_is (xs:=[.int 2,tabD (a.long n n1),tabD (b.long (40 - n) k1),ratD third,.int 1]) rfl q2) rfl (ne_self ok_told (by decide))) (bCmp_is (fCall_is (xs:=[.int 2,tabD (a.long n n1),tabD (b.long (41 - n) k2),ratD third,.int 1]) rfl q3) rfl (ne_self ok_many (by decide)))) rfl) ?_
  exact sRet_is (op2_is (fCall_is (xs:=[.int 3,tabD (a.long n n1),tabD (b.long (40 - n) k1),ratD third,.int 1]) rfl q4) (pick_is (op2_is (x:=.int (n : Nat)) (y:=.int 13) rfl rfl rfl)) (eq_self' (okp _) (by decide)))
theorem law_is (h3 : Three C1 C2 C3) (ha : a.Ok 4) (hb : b.Ok 4) (ga : a.Fit 60) (gb : b.Fit 60) :
    F_law_3 m__law_long (mRf C1 C2 C3) mSpo [.no,.d (.int r),.d (tabD a),.d (tabD b),.no,.no,.no,.no,.no,.no,.no,.no,.no] = some (.rt (.bool true)) := by
  unfold F_law_3
  refine seqD_nx (sSet_is (y:=.int ((r / 16) % (10 : Int) ^ 30)) (op2_is (x:=.int (r / 16)) (y:=.int ((10 : Int) ^ 30)) (op2_is (x:=.int r) (y:=.int 16) rfl rfl (div_is (by decide) (by decide))) (op2_is (x:=.int 10) (y:=.int 30) rfl rfl (pow_is (n:=30) (by decide) (by decide))) (mod_is (Int.pow_pos (by decide))))) ?_
  generalize (r / 16) % (10 : Int) ^ 30 = fa
  obtain ⟨o,ho⟩:=ord_is r fa .no (.d (tabD a)) (.d (tabD b))
  refine seqD_nx (sSet_is ho) (seqD_nx (sSet_is (y:=tabD a) rfl) (seqD_nx (sSet_is (y:=tabD a) rfl) ?_))
  suffices hh : ∃ one,(sIf (bCmp (iCmp fun i j => decide (j < i)) (op2 iMod (nm 1) (fC (.int 4))) (fC (.int 0)))
      (seqD (sSet 6 (fCall mSpo (fCons (nm 2) (fCons (op2 iDiv (nm 1) (fC (.int 64))) fNil))))
      (sSet 7 (fCall mSpo (fCons (nm 2) (fCons (op2 iDiv (nm 1) (fC (.int 64))) fNil)))))
      sNext) [.no,.d (.int r),.d (tabD a),.d (tabD b),.d (.int fa),.d (.int o),.d (tabD a),.d (tabD a),.no,.no,.no,.no,.no] = some (.nx [.no,.d (.int r),.d (tabD a),.d (tabD b),.d (.int fa),.d (.int o),.d one,.d one,.no,.no,.no,.no,.no])∧Ok 5 one ∧
      ∀ i : Nat,i < 8→∃ wd du,(dueL o)[i]? = some du∧wd = (if 0 < r % 4∧i≠5∧i≠6 then sTable else du)∧Ok 0 wd∧mRf C1 C2 C3 [.int (i : Nat),one,tabD b,ratD third,.int o] = some wd by
    obtain ⟨one,e6,ok1,hw⟩:=hh
    refine seqD_nx e6 (seqD_nx (sSet_is (due_is (o:=o) rfl)) (seqD_for (xs:=rngD 0 8) (fun _ δ => ∃ l9 l10,δ = [.no,.d (.int r),.d (tabD a),.d (tabD b),.d (.int fa),.d (.int o),.d one,.d one,.d (.list (dueL o)),l9,l10,.no,.no]) (rng_is (j:=8) rfl (by decide) (by decide)) ⟨_,_,rfl⟩ (fun i x δ hx hv => ?_) fun δ' hv => ?_))
    · obtain ⟨l9,l10,rfl⟩:=hv
      obtain ⟨rfl,hi⟩:=rng_get hx
      obtain ⟨wd,du,w1,w2,w3,w4⟩:=hw i hi
      rw [Int.zero_add]
      exact ⟨_,rfl,step63 hi w1 w2 w4 w3 ok1⟩
    · obtain ⟨l9,l10,rfl⟩:=hv
      exact law_tail h3 ha hb ga gb _ _ _ _ _ _ _
  have e1 : bCmp (iCmp fun i j => decide (j < i)) (op2 iMod (nm 1) (fC (.int 4))) (fC (.int 0)) [.no,.d (.int r),.d (tabD a),.d (tabD b),.d (.int fa),.d (.int o),.d (tabD a),.d (tabD a),.no,.no,.no,.no,.no] = some (decide (0 < r % 4)) := bCmp_is (x:=.int (r % 4)) (y:=.int 0) (op2_is (x:=.int r) (y:=.int 4) rfl rfl (mod_is (by decide))) rfl rfl
  by_cases z : 0 < r % 4
  · rw [decide_eq_true z] at e1
    obtain ⟨s,hs,hbad⟩:=spo_bad ha (by decide) (r / 64)
    have e2 : ∀ l6,fCall mSpo (fCons (nm 2) (fCons (op2 iDiv (nm 1) (fC (.int 64))) fNil)) [.no,.d (.int r),.d (tabD a),.d (tabD b),.d (.int fa),.d (.int o),l6,.d (tabD a),.no,.no,.no,.no,.no] = some s:=fun l6 => fCall_is (fCons_is (x:=tabD a) rfl (fCons_is (op2_is (x:=.int r) (y:=.int 64) rfl rfl (div_is (by decide) (by decide))) rfl)) hs
    refine ⟨s,sIf_t e1 (seqD_nx (sSet_is (e2 _)) (sSet_is (e2 _))),hbad.1,fun i hi => ?_⟩
    obtain ⟨du,w1,w2,w3⟩:=word_bad (o:=o) h3 hb hbad i hi
    refine ⟨_,du,w1,?_,w2,w3⟩
    by_cases y : i≠5∧i≠6
    · rw [if_pos y,if_pos ⟨z,y⟩]
    · rw [if_neg y,if_neg fun h => y h.2]
  · rw [decide_eq_false z] at e1
    refine ⟨tabD a,sIf_f e1 rfl,ok_tab a,fun i hi => ?_⟩
    obtain ⟨wd,w1,w2,w3⟩:=word_good (o:=o) h3 ha hb ga gb i hi
    exact ⟨wd,wd,w1,by rw [if_neg fun h => z h.1],w2,w3⟩
end
def spLaw (K : PySem.W.Frag) : Sp:=fun vs H Q _ => ∃ (a : Addr) (ns : List Int),vs = [.ref a]∧SqL K H a (ns.map V.int)∧ns.length≤63∧∀ H',Q (.bl true) H'
section
variable {P : Program} {w : World} {K : PySem.W.Frag} {mg : Str→Option Value} {base : Heap} {f g1 g2 g3 g4 g5 : Addr} {fd gd1 gd2 gd3 gd4 gd5 : FuncData}
theorem ok_law {k : Nat} {C1 C2 C3 : Addr} (h3 : Three C1 C2 C3) (F : Fn K mg "law" s_law ["_law_script"] f fd) (T__law_rest : Fn K mg "_law_rest" s__law_rest ["_law_script", "_law_k"] g1 gd1) (T__law_table : Fn K mg "_law_table" s__law_table ["_law_rest_here", "_law_most"] g2 gd2) (T__law_long : Fn K mg "_law_long" s__law_long ["_law_table_here", "_law_many"] g3 gd3) (T__law_refusal : Fn K mg "_law_refusal" s__law_refusal ["_law_word", "_law_one", "_law_other", "_law_part", "_law_order"] g4 gd4) (T__law_spoilt : Fn K mg "_law_spoilt" s__law_spoilt ["_law_table_here", "_law_rest_here"] g5 gd5)
    (G__law_rest : FnOk P w K mg base CX0 k g1 gd1 ["_law_script", "_law_k"] (spCell K)) (G__law_table : FnOk P w K mg base CX0 k g2 gd2 ["_law_rest_here", "_law_most"] spTab60) (G__law_long : FnOk P w K mg base CX0 k g3 gd3 ["_law_table_here", "_law_many"] (spD m__law_long)) (G__law_refusal : FnOk P w K mg base CX0 k g4 gd4 ["_law_word", "_law_one", "_law_other", "_law_part", "_law_order"] (spD (mRf C1 C2 C3))) (G__law_spoilt : FnOk P w K mg base CX0 k g5 gd5 ["_law_table_here", "_law_rest_here"] (spD mSpo))
    (z_int : mg "int" = none) (z_range : mg "range" = none) : FnOk P w K mg base CX0 (k + 1) f fd ["_law_script"] (spLaw K) := by
  have sc:=sc_law
  refine F.F.ok (k:=k) sc (fun vs H Q E h => ?_) (fun cdv A outer s H vs Q E hr h => ?_)
  · obtain ⟨a,ns,rfl,_⟩:=h
    rfl
  obtain ⟨a,ns,rfl,hS,h63,q⟩:=h
  obtain ⟨t,pt,kt⟩:=os_law_3 T__law_long G__law_long T__law_refusal G__law_refusal T__law_spoilt G__law_spoilt z_int z_range cdv A outer s H E hr
  refine ⟨_,(pss_cons (ps_set (i:=1) sc.nd rfl (Or.inl rfl) (pe_fn T__law_rest G__law_rest hr rfl (pa_cons (pv 0) (pa_cons pe_int pa_nil))))
    (pss_cons (ps_set (i:=2) sc.nd rfl (Or.inl rfl) (pe_fn T__law_table G__law_table hr rfl (pa_cons (pe_fn T__law_rest G__law_rest hr rfl (pa_cons (pv 0) (pa_cons pe_int pa_nil))) (pa_cons pe_int pa_nil))))
    (pss_cons (ps_set (i:=3) sc.nd rfl (Or.inl rfl) (pe_fn T__law_table G__law_table hr rfl (pa_cons (pe_fn T__law_rest G__law_rest hr rfl (pa_cons (pv 0) (pa_cons pe_int pa_nil))) (pa_cons pe_int pa_nil)))) pt))),?_⟩
  refine ⟨_,rfl,a,ns,0,rfl,hS,by decide,fun r => ?_⟩
  refine ⟨_,rfl,a,ns,1,rfl,hS,by decide,fun x1 => ⟨x1,4,rfl,by decide,by decide,fun v1 H1 t1 e1 d1 o1 sm1 => ?_⟩⟩
  refine ⟨_,rfl,a,ns,2,rfl,e1.seq hS,by decide,fun x2 => ⟨x2,4,rfl,by decide,by decide,fun v2 H2 t2 e2 d2 o2 sm2 => ?_⟩⟩
  refine kt _ _ (law_is (r:=r) h3 o1 o2 sm1 sm2) H2 H2 H2 H2 _ _ ⟨.refl _,Nw.refl,.refl _,.refl _,rfl,fun i x h => ?_,fun i xs h => ?_,fun i j xs ys _ h => ?_,fun q hq => by cases hq⟩ fun v G' H' _ _ _ _ dv => ?_
  · rcases i with _ | _ | _ | _ | _ | _ | _ | _ | _ | _ | _ | _ | _ | i
    · cases h
    · cases h
      exact ⟨_,rfl,by rw [Du]⟩
    · cases h
      exact ⟨_,rfl,(d1.same e2).du⟩
    · cases h
      exact ⟨_,rfl,d2.du⟩
    all_goals first | (cases h; done) | (simp at h)
  · rcases i with _ | _ | _ | _ | _ | _ | _ | _ | _ | _ | _ | _ | _ | i
    all_goals first | (cases h; done) | (simp at h)
  · rcases i with _ | _ | _ | _ | _ | _ | _ | _ | _ | _ | _ | _ | _ | i
    all_goals first | (cases h; done) | (simp at h)
  · rw [Du] at dv
    subst dv
    exact q H'
end
section
open PySem.W PyProof.Rows PySem.Calls
abbrev pwX : Program:=PySem.Challenge.pw_stepgrove_k63_refused_joins
abbrev rwX : OpenLaw:=PySem.Challenge.rw_stepgrove_k63_refused_joins
noncomputable abbrev dE (P : Params) (x : String) (t : Nat) (v : Value) : DictEntry:=⟨PyData.keyHash P (Str.ofString x),.str (Str.ofString x) t,v⟩
noncomputable abbrev sV (x : String) (t : Nat) : Value:=.str (Str.ofString x) t
noncomputable abbrev fO (n : String) (i : Nat) (m : String) (t c : Nat) : Obj:=⟨.type "function",none,.func (fnOf n n (defArgs (top i)) (defBody (top i)) (defScope (top i)) .none .none .none (.str (Str.ofString m) t) none (.ref c) .none),#[]⟩
noncomputable abbrev cO (n : String) (t l a k r : Nat) (b : Bool) (r2 : Nat) (v1 v2 v3 v4 : Value) (t2 : Nat) : Obj:=⟨.type "code",none,.fields #[sV n t,sV n (t + 1),sV "/claim/cut.py" (t + 2),.int l 0,.int a 0,.int 0 0,.int 0 0,.int k 0,.ref r,.bool b,.int 181 0,.ref r2,v1,v2,v3,v4,.int t2 0,.int l 0,sV "/claim/cut.py" (t2 + 1)],#[]⟩
noncomputable def kH : Params→Frag:=fun P =>
  (nat_lit 2,⟨.none,none,(.dict #[] 0),#[]⟩) ::
  (nat_lit 3,⟨(.type "dict"),none,(.dict #[dE P "__name__" 165 (sV "law_stepgrove_k63_refused_joins" 534),dE P "__doc__" 166 .none,dE P "__package__" 167 .none,dE P "__loader__" 168 (.builtin "__main__.__loader__#opaque"),dE P "__spec__" 169 .none,dE P "__annotations__" 170 (.ref 6),dE P "__builtins__" 171 (.ref 4),dE P "__file__" 173 (sV "/claim/cut.py" 172),dE P "__cached__" 174 .none,dE P "GroveError" 206 (.ref 24),dE P "NoBottom" 222 (.ref 37),dE P "NoTree" 238 (.ref 49),dE P "NoChange" 254 (.ref 61),dE P "NoStart" 270 (.ref 73),dE P "NoTable" 286 (.ref 85),dE P "NoName" 302 (.ref 97),dE P "NoWeighing" 318 (.ref 109),dE P "NotAlike" 334 (.ref 121),dE P "NoParts" 350 (.ref 133),dE P "TooMany" 366 (.ref 145),dE P "NoText" 382 (.ref 157),dE P "NoLine" 398 (.ref 169),dE P "fraction_of" 409 (.ref 178),dE P "frac_times" 417 (.ref 185),dE P "is_fraction" 424 (.ref 192),dE P "are_fractions" 432 (.ref 199),dE P "is_whole" 439 (.ref 206),dE P "greatest_divisor" 450 (.ref 213),dE P "power_of" 461 (.ref 220),dE P "MOST_ROWS" 465 (.int 40 464),dE P "is_table" 472 (.ref 227),dE P "refuse_no_table" 479 (.ref 234),dE P "are_rows" 488 (.ref 241),dE P "MOST_SHARPENED" 492 (.int 6 491),dE P "table_behind" 498 (.ref 246),dE P "table_shrunk" 504 (.ref 251),dE P "table_mixed" 510 (.ref 256),dE P "table_sharpened" 521 (.ref 263),dE P "refuse_too_many_rows" 527 (.ref 268),dE P "scaled" 533 (.ref 273),dE P "_law_cell_at" 543 (.ref 280),dE P "_law_mixed" 552 (.ref 287),dE P "_law_rest" 562 (.ref 294),dE P "_law_ratio" 572 (.ref 301),dE P "_law_sum" 580 (.ref 308),dE P "_law_times" 588 (.ref 315),dE P "_law_table" 605 (.ref 322),dE P "_law_copy" 611 (.ref 327),dE P "_law_row" 617 (.ref 332),dE P "_law_good" 623 (.ref 337),dE P "_law_alone" 629 (.ref 342),dE P "_law_spoilt" 641 (.ref 349),dE P "_law_asked" 652 (.ref 356),dE P "_law_refusal" 666 (.ref 363),dE P "_law_long" 672 (.ref 368),dE P "law" 691 (.ref 375)] 56),#[]⟩) ::
  (nat_lit 15,⟨(.type "tuple"),none,(.seq #[(.type "ValueError")] 0),#[]⟩) ::
  (nat_lit 22,⟨(.type "tuple"),none,(.seq #[] 0),#[]⟩) ::
  (nat_lit 23,⟨(.type "dict"),none,(.dict #[dE P "__module__" 196 (sV "stepgrove.errors" 187),dE P "__firstlineno__" 200 (.int 2 199),dE P "__static_attributes__" 201 (.ref 22),dE P "__weakref__" 203 (.ref 25),dE P "__doc__" 204 .none] 3),#[]⟩) ::
  (nat_lit 24,⟨(.type "type"),none,(.cls ⟨Str.ofString "GroveError",[(.type "ValueError")],[(.ref 24),(.type "ValueError"),(.type "Exception"),(.type "BaseException"),(.type "object")],23,Str.ofString "GroveError",true,[],[(.ref 37),(.ref 49),(.ref 61),(.ref 73),(.ref 85),(.ref 97),(.ref 109),(.ref 121),(.ref 133),(.ref 145),(.ref 157),(.ref 169)],false,none,false⟩),#[some (.ref 15),none,some (sV "GroveError" 189),some (sV "GroveError" 197),some (.builtin "ValueError.__new__"),some (.bool true)]⟩) ::
  (nat_lit 25,⟨(.type "getset_descriptor"),none,(.fields #[(sV "__weakref__" 202),(.ref 24),(.builtin "ExceptionGroup.__weakref__"),.none]),#[]⟩) ::
  (nat_lit 28,⟨(.type "tuple"),none,(.seq #[(.ref 24)] 0),#[]⟩) ::
  (nat_lit 35,⟨(.type "tuple"),none,(.seq #[] 0),#[]⟩) ::
  (nat_lit 36,⟨(.type "dict"),none,(.dict #[dE P "__module__" 214 (sV "stepgrove.errors" 187),dE P "__firstlineno__" 218 (.int 4 217),dE P "__static_attributes__" 219 (.ref 35),dE P "__doc__" 220 .none] 2),#[]⟩) ::
  (nat_lit 37,⟨(.type "type"),none,(.cls ⟨Str.ofString "NoBottom",[(.ref 24)],[(.ref 37),(.ref 24),(.type "ValueError"),(.type "Exception"),(.type "BaseException"),(.type "object")],36,Str.ofString "NoBottom",true,[],[],false,none,false⟩),#[some (.ref 28),none,some (sV "NoBottom" 207),some (sV "NoBottom" 215),some (.builtin "ValueError.__new__"),some (.bool true)]⟩) ::
  (nat_lit 40,⟨(.type "tuple"),none,(.seq #[(.ref 24)] 0),#[]⟩) ::
  (nat_lit 47,⟨(.type "tuple"),none,(.seq #[] 0),#[]⟩) ::
  (nat_lit 48,⟨(.type "dict"),none,(.dict #[dE P "__module__" 230 (sV "stepgrove.errors" 187),dE P "__firstlineno__" 234 (.int 6 233),dE P "__static_attributes__" 235 (.ref 47),dE P "__doc__" 236 .none] 2),#[]⟩) ::
  (nat_lit 49,⟨(.type "type"),none,(.cls ⟨Str.ofString "NoTree",[(.ref 24)],[(.ref 49),(.ref 24),(.type "ValueError"),(.type "Exception"),(.type "BaseException"),(.type "object")],48,Str.ofString "NoTree",true,[],[],false,none,false⟩),#[some (.ref 40),none,some (sV "NoTree" 223),some (sV "NoTree" 231),some (.builtin "ValueError.__new__"),some (.bool true)]⟩) ::
  (nat_lit 52,⟨(.type "tuple"),none,(.seq #[(.ref 24)] 0),#[]⟩) ::
  (nat_lit 59,⟨(.type "tuple"),none,(.seq #[] 0),#[]⟩) ::
  (nat_lit 60,⟨(.type "dict"),none,(.dict #[dE P "__module__" 246 (sV "stepgrove.errors" 187),dE P "__firstlineno__" 250 (.int 8 249),dE P "__static_attributes__" 251 (.ref 59),dE P "__doc__" 252 .none] 2),#[]⟩) ::
  (nat_lit 61,⟨(.type "type"),none,(.cls ⟨Str.ofString "NoChange",[(.ref 24)],[(.ref 61),(.ref 24),(.type "ValueError"),(.type "Exception"),(.type "BaseException"),(.type "object")],60,Str.ofString "NoChange",true,[],[],false,none,false⟩),#[some (.ref 52),none,some (sV "NoChange" 239),some (sV "NoChange" 247),some (.builtin "ValueError.__new__"),some (.bool true)]⟩) ::
  (nat_lit 64,⟨(.type "tuple"),none,(.seq #[(.ref 24)] 0),#[]⟩) ::
  (nat_lit 71,⟨(.type "tuple"),none,(.seq #[] 0),#[]⟩) ::
  (nat_lit 72,⟨(.type "dict"),none,(.dict #[dE P "__module__" 262 (sV "stepgrove.errors" 187),dE P "__firstlineno__" 266 (.int 10 265),dE P "__static_attributes__" 267 (.ref 71),dE P "__doc__" 268 .none] 2),#[]⟩) ::
  (nat_lit 73,⟨(.type "type"),none,(.cls ⟨Str.ofString "NoStart",[(.ref 24)],[(.ref 73),(.ref 24),(.type "ValueError"),(.type "Exception"),(.type "BaseException"),(.type "object")],72,Str.ofString "NoStart",true,[],[],false,none,false⟩),#[some (.ref 64),none,some (sV "NoStart" 255),some (sV "NoStart" 263),some (.builtin "ValueError.__new__"),some (.bool true)]⟩) ::
  (nat_lit 76,⟨(.type "tuple"),none,(.seq #[(.ref 24)] 0),#[]⟩) ::
  (nat_lit 83,⟨(.type "tuple"),none,(.seq #[] 0),#[]⟩) ::
  (nat_lit 84,⟨(.type "dict"),none,(.dict #[dE P "__module__" 278 (sV "stepgrove.errors" 187),dE P "__firstlineno__" 282 (.int 12 281),dE P "__static_attributes__" 283 (.ref 83),dE P "__doc__" 284 .none] 2),#[]⟩) ::
  (nat_lit 85,⟨(.type "type"),none,(.cls ⟨Str.ofString "NoTable",[(.ref 24)],[(.ref 85),(.ref 24),(.type "ValueError"),(.type "Exception"),(.type "BaseException"),(.type "object")],84,Str.ofString "NoTable",true,[],[],false,none,false⟩),#[some (.ref 76),none,some (sV "NoTable" 271),some (sV "NoTable" 279),some (.builtin "ValueError.__new__"),some (.bool true)]⟩) ::
  (nat_lit 88,⟨(.type "tuple"),none,(.seq #[(.ref 24)] 0),#[]⟩) ::
  (nat_lit 95,⟨(.type "tuple"),none,(.seq #[] 0),#[]⟩) ::
  (nat_lit 96,⟨(.type "dict"),none,(.dict #[dE P "__module__" 294 (sV "stepgrove.errors" 187),dE P "__firstlineno__" 298 (.int 14 297),dE P "__static_attributes__" 299 (.ref 95),dE P "__doc__" 300 .none] 2),#[]⟩) ::
  (nat_lit 97,⟨(.type "type"),none,(.cls ⟨Str.ofString "NoName",[(.ref 24)],[(.ref 97),(.ref 24),(.type "ValueError"),(.type "Exception"),(.type "BaseException"),(.type "object")],96,Str.ofString "NoName",true,[],[],false,none,false⟩),#[some (.ref 88),none,some (sV "NoName" 287),some (sV "NoName" 295),some (.builtin "ValueError.__new__"),some (.bool true)]⟩) ::
  (nat_lit 100,⟨(.type "tuple"),none,(.seq #[(.ref 24)] 0),#[]⟩) ::
  (nat_lit 107,⟨(.type "tuple"),none,(.seq #[] 0),#[]⟩) ::
  (nat_lit 108,⟨(.type "dict"),none,(.dict #[dE P "__module__" 310 (sV "stepgrove.errors" 187),dE P "__firstlineno__" 314 (.int 16 313),dE P "__static_attributes__" 315 (.ref 107),dE P "__doc__" 316 .none] 2),#[]⟩) ::
  (nat_lit 109,⟨(.type "type"),none,(.cls ⟨Str.ofString "NoWeighing",[(.ref 24)],[(.ref 109),(.ref 24),(.type "ValueError"),(.type "Exception"),(.type "BaseException"),(.type "object")],108,Str.ofString "NoWeighing",true,[],[],false,none,false⟩),#[some (.ref 100),none,some (sV "NoWeighing" 303),some (sV "NoWeighing" 311),some (.builtin "ValueError.__new__"),some (.bool true)]⟩) ::
  (nat_lit 112,⟨(.type "tuple"),none,(.seq #[(.ref 24)] 0),#[]⟩) ::
  (nat_lit 119,⟨(.type "tuple"),none,(.seq #[] 0),#[]⟩) ::
  (nat_lit 120,⟨(.type "dict"),none,(.dict #[dE P "__module__" 326 (sV "stepgrove.errors" 187),dE P "__firstlineno__" 330 (.int 18 329),dE P "__static_attributes__" 331 (.ref 119),dE P "__doc__" 332 .none] 2),#[]⟩) ::
  (nat_lit 121,⟨(.type "type"),none,(.cls ⟨Str.ofString "NotAlike",[(.ref 24)],[(.ref 121),(.ref 24),(.type "ValueError"),(.type "Exception"),(.type "BaseException"),(.type "object")],120,Str.ofString "NotAlike",true,[],[],false,none,false⟩),#[some (.ref 112),none,some (sV "NotAlike" 319),some (sV "NotAlike" 327),some (.builtin "ValueError.__new__"),some (.bool true)]⟩) ::
  (nat_lit 124,⟨(.type "tuple"),none,(.seq #[(.ref 24)] 0),#[]⟩) ::
  (nat_lit 131,⟨(.type "tuple"),none,(.seq #[] 0),#[]⟩) ::
  (nat_lit 132,⟨(.type "dict"),none,(.dict #[dE P "__module__" 342 (sV "stepgrove.errors" 187),dE P "__firstlineno__" 346 (.int 20 345),dE P "__static_attributes__" 347 (.ref 131),dE P "__doc__" 348 .none] 2),#[]⟩) ::
  (nat_lit 133,⟨(.type "type"),none,(.cls ⟨Str.ofString "NoParts",[(.ref 24)],[(.ref 133),(.ref 24),(.type "ValueError"),(.type "Exception"),(.type "BaseException"),(.type "object")],132,Str.ofString "NoParts",true,[],[],false,none,false⟩),#[some (.ref 124),none,some (sV "NoParts" 335),some (sV "NoParts" 343),some (.builtin "ValueError.__new__"),some (.bool true)]⟩) ::
  (nat_lit 136,⟨(.type "tuple"),none,(.seq #[(.ref 24)] 0),#[]⟩) ::
  (nat_lit 143,⟨(.type "tuple"),none,(.seq #[] 0),#[]⟩) ::
  (nat_lit 144,⟨(.type "dict"),none,(.dict #[dE P "__module__" 358 (sV "stepgrove.errors" 187),dE P "__firstlineno__" 362 (.int 22 361),dE P "__static_attributes__" 363 (.ref 143),dE P "__doc__" 364 .none] 2),#[]⟩) ::
  (nat_lit 145,⟨(.type "type"),none,(.cls ⟨Str.ofString "TooMany",[(.ref 24)],[(.ref 145),(.ref 24),(.type "ValueError"),(.type "Exception"),(.type "BaseException"),(.type "object")],144,Str.ofString "TooMany",true,[],[],false,none,false⟩),#[some (.ref 136),none,some (sV "TooMany" 351),some (sV "TooMany" 359),some (.builtin "ValueError.__new__"),some (.bool true)]⟩) ::
  (nat_lit 148,⟨(.type "tuple"),none,(.seq #[(.ref 24)] 0),#[]⟩) ::
  (nat_lit 155,⟨(.type "tuple"),none,(.seq #[] 0),#[]⟩) ::
  (nat_lit 156,⟨(.type "dict"),none,(.dict #[dE P "__module__" 374 (sV "stepgrove.errors" 187),dE P "__firstlineno__" 378 (.int 24 377),dE P "__static_attributes__" 379 (.ref 155),dE P "__doc__" 380 .none] 2),#[]⟩) ::
  (nat_lit 157,⟨(.type "type"),none,(.cls ⟨Str.ofString "NoText",[(.ref 24)],[(.ref 157),(.ref 24),(.type "ValueError"),(.type "Exception"),(.type "BaseException"),(.type "object")],156,Str.ofString "NoText",true,[],[],false,none,false⟩),#[some (.ref 148),none,some (sV "NoText" 367),some (sV "NoText" 375),some (.builtin "ValueError.__new__"),some (.bool true)]⟩) ::
  (nat_lit 160,⟨(.type "tuple"),none,(.seq #[(.ref 24)] 0),#[]⟩) ::
  (nat_lit 167,⟨(.type "tuple"),none,(.seq #[] 0),#[]⟩) ::
  (nat_lit 168,⟨(.type "dict"),none,(.dict #[dE P "__module__" 390 (sV "stepgrove.errors" 187),dE P "__firstlineno__" 394 (.int 26 393),dE P "__static_attributes__" 395 (.ref 167),dE P "__doc__" 396 .none] 2),#[]⟩) ::
  (nat_lit 169,⟨(.type "type"),none,(.cls ⟨Str.ofString "NoLine",[(.ref 24)],[(.ref 169),(.ref 24),(.type "ValueError"),(.type "Exception"),(.type "BaseException"),(.type "object")],168,Str.ofString "NoLine",true,[],[],false,none,false⟩),#[some (.ref 160),none,some (sV "NoLine" 383),some (sV "NoLine" 391),some (.builtin "ValueError.__new__"),some (.bool true)]⟩) ::
  (nat_lit 177,cO "fraction_of" 401 29 2 3 172 true 173 .none (.ref 174) (.ref 175) (.ref 176) 407) ::
  (nat_lit 178,fO "fraction_of" 15 "stepgrove.fracs" 399 177) ::
  (nat_lit 184,cO "frac_times" 410 36 2 3 179 true 180 .none (.ref 181) (.ref 182) (.ref 183) 415) ::
  (nat_lit 185,fO "frac_times" 16 "stepgrove.fracs" 399 184) ::
  (nat_lit 191,cO "is_fraction" 418 38 1 3 186 true 187 .none (.ref 188) (.ref 189) (.ref 190) 422) ::
  (nat_lit 192,fO "is_fraction" 17 "stepgrove.fracs" 399 191) ::
  (nat_lit 198,cO "are_fractions" 425 44 1 3 193 true 194 .none (.ref 195) (.ref 196) (.ref 197) 430) ::
  (nat_lit 199,fO "are_fractions" 18 "stepgrove.fracs" 399 198) ::
  (nat_lit 205,cO "is_whole" 433 51 1 3 200 true 201 .none (.ref 202) (.ref 203) (.ref 204) 437) ::
  (nat_lit 206,fO "is_whole" 19 "stepgrove.fracs" 399 205) ::
  (nat_lit 212,cO "greatest_divisor" 440 53 2 3 207 true 208 .none (.ref 209) (.ref 210) (.ref 211) 448) ::
  (nat_lit 213,fO "greatest_divisor" 20 "stepgrove.fracs" 399 212) ::
  (nat_lit 219,cO "power_of" 451 61 2 3 214 true 215 .none (.ref 216) (.ref 217) (.ref 218) 459) ::
  (nat_lit 220,fO "power_of" 21 "stepgrove.fracs" 399 219) ::
  (nat_lit 226,cO "is_table" 466 74 1 3 221 true 222 .none (.ref 223) (.ref 224) (.ref 225) 470) ::
  (nat_lit 227,fO "is_table" 24 "stepgrove.tables" 462 226) ::
  (nat_lit 233,cO "refuse_no_table" 473 78 1 3 228 true 229 .none (.ref 230) (.ref 231) (.ref 232) 477) ::
  (nat_lit 234,fO "refuse_no_table" 25 "stepgrove.tables" 462 233) ::
  (nat_lit 240,cO "are_rows" 480 81 1 3 235 true 236 .none (.ref 237) (.ref 238) (.ref 239) 486) ::
  (nat_lit 241,fO "are_rows" 26 "stepgrove.tables" 462 240) ::
  (nat_lit 245,cO "table_behind" 493 90 2 3 242 true 243 .none .none .none (.ref 244) 496) ::
  (nat_lit 246,fO "table_behind" 29 "stepgrove.joins" 489 245) ::
  (nat_lit 250,cO "table_shrunk" 499 96 2 3 247 true 248 .none .none .none (.ref 249) 502) ::
  (nat_lit 251,fO "table_shrunk" 30 "stepgrove.joins" 489 250) ::
  (nat_lit 255,cO "table_mixed" 505 99 2 3 252 true 253 .none .none .none (.ref 254) 508) ::
  (nat_lit 256,fO "table_mixed" 31 "stepgrove.joins" 489 255) ::
  (nat_lit 262,cO "table_sharpened" 511 112 2 3 257 true 258 .none (.ref 259) (.ref 260) (.ref 261) 519) ::
  (nat_lit 263,fO "table_sharpened" 32 "stepgrove.joins" 489 262) ::
  (nat_lit 267,cO "refuse_too_many_rows" 522 120 1 3 264 true 265 .none .none .none (.ref 266) 525) ::
  (nat_lit 268,fO "refuse_too_many_rows" 33 "stepgrove.joins" 489 267) ::
  (nat_lit 272,cO "scaled" 528 123 2 3 269 true 270 .none .none .none (.ref 271) 531) ::
  (nat_lit 273,fO "scaled" 34 "stepgrove.joins" 489 272) ::
  (nat_lit 279,cO "_law_cell_at" 536 126 2 3 274 true 275 .none (.ref 276) (.ref 277) (.ref 278) 541) ::
  (nat_lit 280,fO "_law_cell_at" 36 "law_stepgrove_k63_refused_joins" 534 279) ::
  (nat_lit 286,cO "_law_mixed" 544 130 2 3 281 true 282 .none (.ref 283) (.ref 284) (.ref 285) 550) ::
  (nat_lit 287,fO "_law_mixed" 37 "law_stepgrove_k63_refused_joins" 534 286) ::
  (nat_lit 293,cO "_law_rest" 553 134 2 3 288 true 289 .none (.ref 290) (.ref 291) (.ref 292) 560) ::
  (nat_lit 294,fO "_law_rest" 38 "law_stepgrove_k63_refused_joins" 534 293) ::
  (nat_lit 300,cO "_law_ratio" 563 140 2 3 295 true 296 .none (.ref 297) (.ref 298) (.ref 299) 570) ::
  (nat_lit 301,fO "_law_ratio" 39 "law_stepgrove_k63_refused_joins" 534 300) ::
  (nat_lit 307,cO "_law_sum" 573 148 2 3 302 true 303 .none (.ref 304) (.ref 305) (.ref 306) 578) ::
  (nat_lit 308,fO "_law_sum" 40 "law_stepgrove_k63_refused_joins" 534 307) ::
  (nat_lit 321,cO "_law_table" 589 152 2 3 316 true 317 .none (.ref 318) (.ref 319) (.ref 320) 603) ::
  (nat_lit 322,fO "_law_table" 42 "law_stepgrove_k63_refused_joins" 534 321) ::
  (nat_lit 326,cO "_law_copy" 606 170 1 3 323 true 324 .none .none .none (.ref 325) 609) ::
  (nat_lit 327,fO "_law_copy" 43 "law_stepgrove_k63_refused_joins" 534 326) ::
  (nat_lit 341,cO "_law_alone" 624 185 1 3 338 true 339 .none .none .none (.ref 340) 627) ::
  (nat_lit 342,fO "_law_alone" 46 "law_stepgrove_k63_refused_joins" 534 341) ::
  (nat_lit 348,cO "_law_spoilt" 630 193 2 3 343 true 344 .none (.ref 345) (.ref 346) (.ref 347) 639) ::
  (nat_lit 349,fO "_law_spoilt" 47 "law_stepgrove_k63_refused_joins" 534 348) ::
  (nat_lit 355,cO "_law_asked" 642 215 5 3 350 true 351 .none (.ref 352) (.ref 353) (.ref 354) 650) ::
  (nat_lit 356,fO "_law_asked" 48 "law_stepgrove_k63_refused_joins" 534 355) ::
  (nat_lit 362,cO "_law_refusal" 653 232 5 3 357 true 358 .none (.ref 359) (.ref 360) (.ref 361) 664) ::
  (nat_lit 363,fO "_law_refusal" 49 "law_stepgrove_k63_refused_joins" 534 362) ::
  (nat_lit 367,cO "_law_long" 667 249 2 3 364 true 365 .none .none .none (.ref 366) 670) ::
  (nat_lit 368,fO "_law_long" 50 "law_stepgrove_k63_refused_joins" 534 367) ::
  (nat_lit 374,cO "law" 673 254 1 3 369 true 370 .none (.ref 371) (.ref 372) (.ref 373) 689) ::
  (nat_lit 375,fO "law" 51 "law_stepgrove_k63_refused_joins" 534 374) :: []
abbrev qX : Program:=view pwX [1,2,3,4,5,6,7,8,9,10,11,12,13,15,16,17,18,19,20,21,23,24,25,26,28,29,30,31,32,33,34,36,37,38,39,40,41,42,43,44,45,46,47,48,49,50,51]
noncomputable abbrev hX : Hook:=kHook kH [nat_lit 2,nat_lit 3,nat_lit 15,nat_lit 22,nat_lit 23,nat_lit 24,nat_lit 25,nat_lit 28,nat_lit 35,nat_lit 36,nat_lit 37,nat_lit 40,nat_lit 47,nat_lit 48,nat_lit 49,nat_lit 52,nat_lit 59,nat_lit 60,nat_lit 61,nat_lit 64,nat_lit 71,nat_lit 72,nat_lit 73,nat_lit 76,nat_lit 83,nat_lit 84,nat_lit 85,nat_lit 88,nat_lit 95,nat_lit 96,nat_lit 97,nat_lit 100,nat_lit 107,nat_lit 108,nat_lit 109,nat_lit 112,nat_lit 119,nat_lit 120,nat_lit 121,nat_lit 124,nat_lit 131,nat_lit 132,nat_lit 133,nat_lit 136,nat_lit 143,nat_lit 144,nat_lit 145,nat_lit 148,nat_lit 155,nat_lit 156,nat_lit 157,nat_lit 160,nat_lit 167,nat_lit 168,nat_lit 169,nat_lit 177,nat_lit 178,nat_lit 184,nat_lit 185,nat_lit 191,nat_lit 192,nat_lit 198,nat_lit 199,nat_lit 205,nat_lit 206,nat_lit 212,nat_lit 213,nat_lit 219,nat_lit 220,nat_lit 226,nat_lit 227,nat_lit 233,nat_lit 234,nat_lit 240,nat_lit 241,nat_lit 245,nat_lit 246,nat_lit 250,nat_lit 251,nat_lit 255,nat_lit 256,nat_lit 262,nat_lit 263,nat_lit 267,nat_lit 268,nat_lit 272,nat_lit 273,nat_lit 279,nat_lit 280,nat_lit 286,nat_lit 287,nat_lit 293,nat_lit 294,nat_lit 300,nat_lit 301,nat_lit 307,nat_lit 308,nat_lit 321,nat_lit 322,nat_lit 326,nat_lit 327,nat_lit 341,nat_lit 342,nat_lit 348,nat_lit 349,nat_lit 355,nat_lit 356,nat_lit 362,nat_lit 363,nat_lit 367,nat_lit 368,nat_lit 374,nat_lit 375] (fun _ => by kernel_rfl)
noncomputable def dX : DefRec:=⟨Str.ofString "law",defArgs (top 51),defBody (top 51),defScope (top 51),⟨254,0,278,106⟩⟩
theorem saidX : rwX.wellSaid = true:=(congrFun PySem.W.Fast.te9446332074065402090 _).trans (by kernel_rfl)
theorem preX (w : World) (os : OsState) : topGo treeTable pwX w 11 Opn.annB 12 ⟨boot_heap w.params,#[],boot_drawn,boot_toks,os⟩ (topStub pwX) = some (Opn.sA w os,⟨denote treeTable (Opn.cB pwX),Opn.cB pwX,Opn.q0,Opn.bB⟩) := by kernel_rfl
theorem blkX (w : World) (os : OsState) : segRun treeTable pwX w 11 Opn.annB 1 1 (Opn.sA w os) (blockOf (behindTheImports pwX) (Opn.envB pwX) (Opn.cB pwX) Opn.q0 Opn.bB) = some (.next,(Opn.sB w os).abs,Opn.cB pwX,Opn.q0) := by kernel_rfl
theorem finX (w : World) (s : Shared) : topRun treeTable pwX w 11 Opn.annB 2 s (restOf [] (Opn.envB pwX) (Opn.cB pwX) ⟨254,0,278,106⟩ Opn.bB) = some s := by kernel_rfl
theorem segX (w : World) (os : OsState) : Opn.runB pwX 3771 w os = some (.next,Opn.endB pwX 3771 w os,Opn.cB pwX,⟨254,0,278,106⟩) := by kernel_rfl
noncomputable abbrev sX (w : World) (os : OsState) : Shared:=(Opn.endB pwX 3771 w os).abs
theorem okX (w : World) (os : OsState) : (staticsOk (importedModules pwX.main.body) (boot_heap w.params) (sX w os).heap && namesBound pwX (sX w os).heap && gensDone (sX w os) && laidKept (boot_heap w.params) (sX w os).heap) = true := by kernel_rfl
theorem hookX (w : World) (os : OsState) : hX.obs (sX w os) = hX.val w := by kernel_rfl
noncomputable abbrev xtX : Shared→Bool:=fun s => xlAt qX [] s && recOk (RowW.records rwX.row.toRowW) s
theorem seenX (w : World) (os : OsState) : openSeen qX [] (importedModules pwX.main.body) xtX true (sX w os) = openGood qX [] := by kernel_rfl
theorem bootX (w : World) : (fencedOpening treeTable pwX w 7666).map (fun s => (s.heap,s.gens,s.drawn,s.toks)) = some (boot_heap w.params,#[],boot_drawn,boot_toks) := boot_open (p:=pwX) (N:=7666) (by kernel_rfl) (by kernel_rfl) (fun _ => by kernel_rfl) w
theorem leftX : LeftO pwX qX [] xtX hX.obs hX.val 7666:=Opn.left_of (M:=3786) (S:=sX) bootX Opn.sizeB (fun w os => Opn.run_of (preX w os) (blkX w os) (segX w os) (finX w) (by kernel_rfl)) (by kernel_rfl) okX seenX hookX
theorem defX : defOf qX rwX.row.name = some (dX,[]) := by kernel_rfl
theorem theX : pwX.theDef rwX.row.name = some (dX.params,dX.body,dX.scope) := by kernel_rfl
theorem kwX : kwWritten? dX.params.kwonlyargs dX.params.kw_defaults = some [] := by kernel_rfl
theorem chnX : (chainsOk qX && opensWell rwX.row.prog && (frees rwX.row.toRowW && rwX.row.within.isEmpty)) = true := by kernel_rfl
theorem bareX : pwX.bare:=⟨rfl,rfl,rfl,rfl,rfl,by decide +kernel⟩
theorem openX (hw : rwX.row.toRowW.promised) (hc : WalkO qX [] (XL qX []) hX.says rwX.row.toRowW dX [] (fun f vs => PySem.call f vs)) : rwX.Holds :=
  holds_law saidX fun said => holds_open (r:=rwX.row) (q:=qX) (loose:=[]) (Xt:=xtX) (XP:=XL qX []) (Yf:=hX.obs) (Ya:=hX.val) (YP:=hX.says) (d:=dX) (kwd:=[]) (N:=7666) leftX hX.of hX.keeps (fun s e => xl_of s (Bool.and_eq_true_iff.mp e).1) XL.keeps defX theX kwX (fun s e => recFacts_of (Bool.and_eq_true_iff.mp e).2) rfl said chnX bareX hw hc
end
section
open PySem.W
theorem fnX {w : World} {mg : Str→Option Value} {h : Heap} (X : (kH w.params).In h) (G : h.Ns mainGlobals mg) (n : String) (i : Nat) (m : String) (t c f : Nat) (ps : List Str)
    (ha : nsIn (kH w.params) mainGlobals (Str.ofString n) = some (some (.ref f))) (hl : (kH w.params).lookup f = some (fO n i m t c)) (hc : codeIn (kH w.params) (.ref c) (Str.ofString n) = true) (hk : keepIn (kH w.params) (.ref f) = true)
    (hb : ∀ (kV doc pm : Value) (an : Option Addr) (cdv ct : Value) (us : List Value),us.length = ps.length→bindArgs (fnOf (Str.ofString n) (Str.ofString n) (defArgs (top i)) (defBody (top i)) (defScope (top i)) .none kV doc pm an cdv ct) ⟨us,[]⟩ = pure (ps.zip us)) :
    Fn (kH w.params) mg (Str.ofString n) (top i) ps f (fnOf (Str.ofString n) (Str.ofString n) (defArgs (top i)) (defBody (top i)) (defScope (top i)) .none .none .none (.str (Str.ofString m) t) none (.ref c) .none) :=
  ⟨fun_mk hl hc hk,(fun_mk (st:=top i) hl hc hk).binds hb,mg_of X G ha⟩
set_option maxHeartbeats 4000000 in
theorem allX (w : World) (mg : Str→Option Value) (fa : Addr) (h : Heap) (X : (kH w.params).In h) (G : h.Ns mainGlobals mg) (hfa : mg "law" = some (.ref fa)) :
    ∃ fd : FuncData,(∀ (s : Shared) (v : Value),BindsTo s fd ⟨[v],[]⟩ [("_law_script",v)])∧∀ base : Heap,(kH w.params).In base→base.Ns mainGlobals mg→FnOk rwX.prog w (kH w.params) mg base CX0 11 fa fd ["_law_script"] (spLaw (kH w.params)) := by
  have e:=hfa.symm.trans (mg_of X G (v:=.ref 375) (by kernel_rfl))
  cases e
  have T_fraction_of:=fnX X G "fraction_of" 15 "stepgrove.fracs" 399 177 178 ["top", "bottom"] (by kernel_rfl) (by kernel_rfl) (by kernel_rfl) (by kernel_rfl) (fun _ _ _ _ _ _ us hl => match us,hl with | [_,_],_ => rfl)
  have T_frac_times:=fnX X G "frac_times" 16 "stepgrove.fracs" 399 184 185 ["one", "other"] (by kernel_rfl) (by kernel_rfl) (by kernel_rfl) (by kernel_rfl) (fun _ _ _ _ _ _ us hl => match us,hl with | [_,_],_ => rfl)
  have T_is_fraction:=fnX X G "is_fraction" 17 "stepgrove.fracs" 399 191 192 ["thing"] (by kernel_rfl) (by kernel_rfl) (by kernel_rfl) (by kernel_rfl) (fun _ _ _ _ _ _ us hl => match us,hl with | [_],_ => rfl)
  have T_are_fractions:=fnX X G "are_fractions" 18 "stepgrove.fracs" 399 198 199 ["thing"] (by kernel_rfl) (by kernel_rfl) (by kernel_rfl) (by kernel_rfl) (fun _ _ _ _ _ _ us hl => match us,hl with | [_],_ => rfl)
  have T_is_whole:=fnX X G "is_whole" 19 "stepgrove.fracs" 399 205 206 ["thing"] (by kernel_rfl) (by kernel_rfl) (by kernel_rfl) (by kernel_rfl) (fun _ _ _ _ _ _ us hl => match us,hl with | [_],_ => rfl)
  have T_greatest_divisor:=fnX X G "greatest_divisor" 20 "stepgrove.fracs" 399 212 213 ["one", "other"] (by kernel_rfl) (by kernel_rfl) (by kernel_rfl) (by kernel_rfl) (fun _ _ _ _ _ _ us hl => match us,hl with | [_,_],_ => rfl)
  have T_power_of:=fnX X G "power_of" 21 "stepgrove.fracs" 399 219 220 ["base", "power"] (by kernel_rfl) (by kernel_rfl) (by kernel_rfl) (by kernel_rfl) (fun _ _ _ _ _ _ us hl => match us,hl with | [_,_],_ => rfl)
  have T_is_table:=fnX X G "is_table" 24 "stepgrove.tables" 462 226 227 ["thing"] (by kernel_rfl) (by kernel_rfl) (by kernel_rfl) (by kernel_rfl) (fun _ _ _ _ _ _ us hl => match us,hl with | [_],_ => rfl)
  have T_refuse_no_table:=fnX X G "refuse_no_table" 25 "stepgrove.tables" 462 233 234 ["thing"] (by kernel_rfl) (by kernel_rfl) (by kernel_rfl) (by kernel_rfl) (fun _ _ _ _ _ _ us hl => match us,hl with | [_],_ => rfl)
  have T_are_rows:=fnX X G "are_rows" 26 "stepgrove.tables" 462 240 241 ["thing"] (by kernel_rfl) (by kernel_rfl) (by kernel_rfl) (by kernel_rfl) (fun _ _ _ _ _ _ us hl => match us,hl with | [_],_ => rfl)
  have T_table_behind:=fnX X G "table_behind" 29 "stepgrove.joins" 489 245 246 ["one", "other"] (by kernel_rfl) (by kernel_rfl) (by kernel_rfl) (by kernel_rfl) (fun _ _ _ _ _ _ us hl => match us,hl with | [_,_],_ => rfl)
  have T_table_shrunk:=fnX X G "table_shrunk" 30 "stepgrove.joins" 489 250 251 ["table", "part"] (by kernel_rfl) (by kernel_rfl) (by kernel_rfl) (by kernel_rfl) (fun _ _ _ _ _ _ us hl => match us,hl with | [_,_],_ => rfl)
  have T_table_mixed:=fnX X G "table_mixed" 31 "stepgrove.joins" 489 255 256 ["tables", "parts"] (by kernel_rfl) (by kernel_rfl) (by kernel_rfl) (by kernel_rfl) (fun _ _ _ _ _ _ us hl => match us,hl with | [_,_],_ => rfl)
  have T_table_sharpened:=fnX X G "table_sharpened" 32 "stepgrove.joins" 489 262 263 ["table", "order"] (by kernel_rfl) (by kernel_rfl) (by kernel_rfl) (by kernel_rfl) (fun _ _ _ _ _ _ us hl => match us,hl with | [_,_],_ => rfl)
  have T_refuse_too_many_rows:=fnX X G "refuse_too_many_rows" 33 "stepgrove.joins" 489 267 268 ["tables"] (by kernel_rfl) (by kernel_rfl) (by kernel_rfl) (by kernel_rfl) (fun _ _ _ _ _ _ us hl => match us,hl with | [_],_ => rfl)
  have T_scaled:=fnX X G "scaled" 34 "stepgrove.joins" 489 272 273 ["row", "part"] (by kernel_rfl) (by kernel_rfl) (by kernel_rfl) (by kernel_rfl) (fun _ _ _ _ _ _ us hl => match us,hl with | [_,_],_ => rfl)
  have T__law_cell_at:=fnX X G "_law_cell_at" 36 "law_stepgrove_k63_refused_joins" 534 279 280 ["_law_script", "_law_k"] (by kernel_rfl) (by kernel_rfl) (by kernel_rfl) (by kernel_rfl) (fun _ _ _ _ _ _ us hl => match us,hl with | [_,_],_ => rfl)
  have T__law_mixed:=fnX X G "_law_mixed" 37 "law_stepgrove_k63_refused_joins" 534 286 287 ["_law_cell", "_law_k"] (by kernel_rfl) (by kernel_rfl) (by kernel_rfl) (by kernel_rfl) (fun _ _ _ _ _ _ us hl => match us,hl with | [_,_],_ => rfl)
  have T__law_rest:=fnX X G "_law_rest" 38 "law_stepgrove_k63_refused_joins" 534 293 294 ["_law_script", "_law_k"] (by kernel_rfl) (by kernel_rfl) (by kernel_rfl) (by kernel_rfl) (fun _ _ _ _ _ _ us hl => match us,hl with | [_,_],_ => rfl)
  have T__law_ratio:=fnX X G "_law_ratio" 39 "law_stepgrove_k63_refused_joins" 534 300 301 ["_law_top", "_law_bottom"] (by kernel_rfl) (by kernel_rfl) (by kernel_rfl) (by kernel_rfl) (fun _ _ _ _ _ _ us hl => match us,hl with | [_,_],_ => rfl)
  have T__law_sum:=fnX X G "_law_sum" 40 "law_stepgrove_k63_refused_joins" 534 307 308 ["_law_one", "_law_other"] (by kernel_rfl) (by kernel_rfl) (by kernel_rfl) (by kernel_rfl) (fun _ _ _ _ _ _ us hl => match us,hl with | [_,_],_ => rfl)
  have T__law_table:=fnX X G "_law_table" 42 "law_stepgrove_k63_refused_joins" 534 321 322 ["_law_rest_here", "_law_most"] (by kernel_rfl) (by kernel_rfl) (by kernel_rfl) (by kernel_rfl) (fun _ _ _ _ _ _ us hl => match us,hl with | [_,_],_ => rfl)
  have T__law_copy:=fnX X G "_law_copy" 43 "law_stepgrove_k63_refused_joins" 534 326 327 ["_law_table_here"] (by kernel_rfl) (by kernel_rfl) (by kernel_rfl) (by kernel_rfl) (fun _ _ _ _ _ _ us hl => match us,hl with | [_],_ => rfl)
  have T__law_alone:=fnX X G "_law_alone" 46 "law_stepgrove_k63_refused_joins" 534 341 342 ["_law_error"] (by kernel_rfl) (by kernel_rfl) (by kernel_rfl) (by kernel_rfl) (fun _ _ _ _ _ _ us hl => match us,hl with | [_],_ => rfl)
  have T__law_spoilt:=fnX X G "_law_spoilt" 47 "law_stepgrove_k63_refused_joins" 534 348 349 ["_law_table_here", "_law_rest_here"] (by kernel_rfl) (by kernel_rfl) (by kernel_rfl) (by kernel_rfl) (fun _ _ _ _ _ _ us hl => match us,hl with | [_,_],_ => rfl)
  have T__law_asked:=fnX X G "_law_asked" 48 "law_stepgrove_k63_refused_joins" 534 355 356 ["_law_word", "_law_one", "_law_other", "_law_part", "_law_order"] (by kernel_rfl) (by kernel_rfl) (by kernel_rfl) (by kernel_rfl) (fun _ _ _ _ _ _ us hl => match us,hl with | [_,_,_,_,_],_ => rfl)
  have T__law_refusal:=fnX X G "_law_refusal" 49 "law_stepgrove_k63_refused_joins" 534 362 363 ["_law_word", "_law_one", "_law_other", "_law_part", "_law_order"] (by kernel_rfl) (by kernel_rfl) (by kernel_rfl) (by kernel_rfl) (fun _ _ _ _ _ _ us hl => match us,hl with | [_,_,_,_,_],_ => rfl)
  have T__law_long:=fnX X G "_law_long" 50 "law_stepgrove_k63_refused_joins" 534 367 368 ["_law_table_here", "_law_many"] (by kernel_rfl) (by kernel_rfl) (by kernel_rfl) (by kernel_rfl) (fun _ _ _ _ _ _ us hl => match us,hl with | [_,_],_ => rfl)
  have T_law:=fnX X G "law" 51 "law_stepgrove_k63_refused_joins" 534 374 375 ["_law_script"] (by kernel_rfl) (by kernel_rfl) (by kernel_rfl) (by kernel_rfl) (fun _ _ _ _ _ _ us hl => match us,hl with | [_],_ => rfl)
  have z_len : mg "len" = none:=mg_none_of X G (by kernel_rfl)
  have z_range : mg "range" = none:=mg_none_of X G (by kernel_rfl)
  have z_abs : mg "abs" = none:=mg_none_of X G (by kernel_rfl)
  have z_isinstance : mg "isinstance" = none:=mg_none_of X G (by kernel_rfl)
  have z_int : mg "int" = none:=mg_none_of X G (by kernel_rfl)
  have z_bool : mg "bool" = none:=mg_none_of X G (by kernel_rfl)
  have z_tuple : mg "tuple" = none:=mg_none_of X G (by kernel_rfl)
  have z_list : mg "list" = none:=mg_none_of X G (by kernel_rfl)
  have z_all : mg "all" = none:=mg_none_of X G (by kernel_rfl)
  have z_enumerate : mg "enumerate" = none:=mg_none_of X G (by kernel_rfl)
  have z_sum : mg "sum" = none:=mg_none_of X G (by kernel_rfl)
  have z_zip : mg "zip" = none:=mg_none_of X G (by kernel_rfl)
  have z_ValueError : mg "ValueError" = none:=mg_none_of X G (by kernel_rfl)
  have a_MOST : nsIn (kH w.params) mainGlobals "MOST_ROWS" = some (some (.int 40 464)) := by kernel_rfl
  have a_SHARP : nsIn (kH w.params) mainGlobals "MOST_SHARPENED" = some (some (.int 6 491)) := by kernel_rfl
  have a_GroveError : PySem.W.nsIn (kH w.params) mainGlobals "GroveError" = some (some (.ref 24)) := by kernel_rfl
  have a_NoBottom : PySem.W.nsIn (kH w.params) mainGlobals "NoBottom" = some (some (.ref 37)) := by kernel_rfl
  have a_NoTree : PySem.W.nsIn (kH w.params) mainGlobals "NoTree" = some (some (.ref 49)) := by kernel_rfl
  have a_NoChange : PySem.W.nsIn (kH w.params) mainGlobals "NoChange" = some (some (.ref 61)) := by kernel_rfl
  have a_NoStart : PySem.W.nsIn (kH w.params) mainGlobals "NoStart" = some (some (.ref 73)) := by kernel_rfl
  have a_NoTable : PySem.W.nsIn (kH w.params) mainGlobals "NoTable" = some (some (.ref 85)) := by kernel_rfl
  have a_NoName : PySem.W.nsIn (kH w.params) mainGlobals "NoName" = some (some (.ref 97)) := by kernel_rfl
  have a_NoWeighing : PySem.W.nsIn (kH w.params) mainGlobals "NoWeighing" = some (some (.ref 109)) := by kernel_rfl
  have a_NotAlike : PySem.W.nsIn (kH w.params) mainGlobals "NotAlike" = some (some (.ref 121)) := by kernel_rfl
  have a_NoParts : PySem.W.nsIn (kH w.params) mainGlobals "NoParts" = some (some (.ref 133)) := by kernel_rfl
  have a_TooMany : PySem.W.nsIn (kH w.params) mainGlobals "TooMany" = some (some (.ref 145)) := by kernel_rfl
  have a_NoText : PySem.W.nsIn (kH w.params) mainGlobals "NoText" = some (some (.ref 157)) := by kernel_rfl
  have a_NoLine : PySem.W.nsIn (kH w.params) mainGlobals "NoLine" = some (some (.ref 169)) := by kernel_rfl
  have m_GroveError:=PySem.W.mg_of X G a_GroveError
  have m_NoBottom:=PySem.W.mg_of X G a_NoBottom
  have m_NoTree:=PySem.W.mg_of X G a_NoTree
  have m_NoChange:=PySem.W.mg_of X G a_NoChange
  have m_NoStart:=PySem.W.mg_of X G a_NoStart
  have m_NoTable:=PySem.W.mg_of X G a_NoTable
  have m_NoName:=PySem.W.mg_of X G a_NoName
  have m_NoWeighing:=PySem.W.mg_of X G a_NoWeighing
  have m_NotAlike:=PySem.W.mg_of X G a_NotAlike
  have m_NoParts:=PySem.W.mg_of X G a_NoParts
  have m_TooMany:=PySem.W.mg_of X G a_TooMany
  have m_NoText:=PySem.W.mg_of X G a_NoText
  have m_NoLine:=PySem.W.mg_of X G a_NoLine
  have X_NoTable : Exc (kH w.params) mg "NoTable" 85:=⟨m_NoTable,by kernel_rfl⟩
  have be_NoTable : Beneath (kH w.params) 85 24 true:=⟨by kernel_rfl,by kernel_rfl,by kernel_rfl,by kernel_rfl⟩
  have xk_NoTable : ExcK (kH w.params) 85:=⟨by kernel_rfl,by kernel_rfl,by kernel_rfl,by kernel_rfl,by kernel_rfl,by kernel_rfl,by kernel_rfl,by kernel_rfl⟩
  have tV_NoTable : PySem.W.kitOne (kH w.params) (.ref 85) (.type "ValueError") = some true := by kernel_rfl
  have t_NoTable_GroveError : PySem.W.kitOne (kH w.params) (.ref 85) (.ref 24) = some true := by kernel_rfl
  have t_NoTable_NoBottom : PySem.W.kitOne (kH w.params) (.ref 85) (.ref 37) = some false := by kernel_rfl
  have t_NoTable_NoTree : PySem.W.kitOne (kH w.params) (.ref 85) (.ref 49) = some false := by kernel_rfl
  have t_NoTable_NoChange : PySem.W.kitOne (kH w.params) (.ref 85) (.ref 61) = some false := by kernel_rfl
  have t_NoTable_NoStart : PySem.W.kitOne (kH w.params) (.ref 85) (.ref 73) = some false := by kernel_rfl
  have t_NoTable_NoTable : PySem.W.kitOne (kH w.params) (.ref 85) (.ref 85) = some true := by kernel_rfl
  have t_NoTable_NoName : PySem.W.kitOne (kH w.params) (.ref 85) (.ref 97) = some false := by kernel_rfl
  have t_NoTable_NoWeighing : PySem.W.kitOne (kH w.params) (.ref 85) (.ref 109) = some false := by kernel_rfl
  have t_NoTable_NotAlike : PySem.W.kitOne (kH w.params) (.ref 85) (.ref 121) = some false := by kernel_rfl
  have t_NoTable_NoParts : PySem.W.kitOne (kH w.params) (.ref 85) (.ref 133) = some false := by kernel_rfl
  have t_NoTable_TooMany : PySem.W.kitOne (kH w.params) (.ref 85) (.ref 145) = some false := by kernel_rfl
  have t_NoTable_NoText : PySem.W.kitOne (kH w.params) (.ref 85) (.ref 157) = some false := by kernel_rfl
  have t_NoTable_NoLine : PySem.W.kitOne (kH w.params) (.ref 85) (.ref 169) = some false := by kernel_rfl
  have X_NoParts : Exc (kH w.params) mg "NoParts" 133:=⟨m_NoParts,by kernel_rfl⟩
  have be_NoParts : Beneath (kH w.params) 133 24 true:=⟨by kernel_rfl,by kernel_rfl,by kernel_rfl,by kernel_rfl⟩
  have xk_NoParts : ExcK (kH w.params) 133:=⟨by kernel_rfl,by kernel_rfl,by kernel_rfl,by kernel_rfl,by kernel_rfl,by kernel_rfl,by kernel_rfl,by kernel_rfl⟩
  have tV_NoParts : PySem.W.kitOne (kH w.params) (.ref 133) (.type "ValueError") = some true := by kernel_rfl
  have t_NoParts_GroveError : PySem.W.kitOne (kH w.params) (.ref 133) (.ref 24) = some true := by kernel_rfl
  have t_NoParts_NoBottom : PySem.W.kitOne (kH w.params) (.ref 133) (.ref 37) = some false := by kernel_rfl
  have t_NoParts_NoTree : PySem.W.kitOne (kH w.params) (.ref 133) (.ref 49) = some false := by kernel_rfl
  have t_NoParts_NoChange : PySem.W.kitOne (kH w.params) (.ref 133) (.ref 61) = some false := by kernel_rfl
  have t_NoParts_NoStart : PySem.W.kitOne (kH w.params) (.ref 133) (.ref 73) = some false := by kernel_rfl
  have t_NoParts_NoTable : PySem.W.kitOne (kH w.params) (.ref 133) (.ref 85) = some false := by kernel_rfl
  have t_NoParts_NoName : PySem.W.kitOne (kH w.params) (.ref 133) (.ref 97) = some false := by kernel_rfl
  have t_NoParts_NoWeighing : PySem.W.kitOne (kH w.params) (.ref 133) (.ref 109) = some false := by kernel_rfl
  have t_NoParts_NotAlike : PySem.W.kitOne (kH w.params) (.ref 133) (.ref 121) = some false := by kernel_rfl
  have t_NoParts_NoParts : PySem.W.kitOne (kH w.params) (.ref 133) (.ref 133) = some true := by kernel_rfl
  have t_NoParts_TooMany : PySem.W.kitOne (kH w.params) (.ref 133) (.ref 145) = some false := by kernel_rfl
  have t_NoParts_NoText : PySem.W.kitOne (kH w.params) (.ref 133) (.ref 157) = some false := by kernel_rfl
  have t_NoParts_NoLine : PySem.W.kitOne (kH w.params) (.ref 133) (.ref 169) = some false := by kernel_rfl
  have X_TooMany : Exc (kH w.params) mg "TooMany" 145:=⟨m_TooMany,by kernel_rfl⟩
  have be_TooMany : Beneath (kH w.params) 145 24 true:=⟨by kernel_rfl,by kernel_rfl,by kernel_rfl,by kernel_rfl⟩
  have xk_TooMany : ExcK (kH w.params) 145:=⟨by kernel_rfl,by kernel_rfl,by kernel_rfl,by kernel_rfl,by kernel_rfl,by kernel_rfl,by kernel_rfl,by kernel_rfl⟩
  have tV_TooMany : PySem.W.kitOne (kH w.params) (.ref 145) (.type "ValueError") = some true := by kernel_rfl
  have t_TooMany_GroveError : PySem.W.kitOne (kH w.params) (.ref 145) (.ref 24) = some true := by kernel_rfl
  have t_TooMany_NoBottom : PySem.W.kitOne (kH w.params) (.ref 145) (.ref 37) = some false := by kernel_rfl
  have t_TooMany_NoTree : PySem.W.kitOne (kH w.params) (.ref 145) (.ref 49) = some false := by kernel_rfl
  have t_TooMany_NoChange : PySem.W.kitOne (kH w.params) (.ref 145) (.ref 61) = some false := by kernel_rfl
  have t_TooMany_NoStart : PySem.W.kitOne (kH w.params) (.ref 145) (.ref 73) = some false := by kernel_rfl
  have t_TooMany_NoTable : PySem.W.kitOne (kH w.params) (.ref 145) (.ref 85) = some false := by kernel_rfl
  have t_TooMany_NoName : PySem.W.kitOne (kH w.params) (.ref 145) (.ref 97) = some false := by kernel_rfl
  have t_TooMany_NoWeighing : PySem.W.kitOne (kH w.params) (.ref 145) (.ref 109) = some false := by kernel_rfl
  have t_TooMany_NotAlike : PySem.W.kitOne (kH w.params) (.ref 145) (.ref 121) = some false := by kernel_rfl
  have t_TooMany_NoParts : PySem.W.kitOne (kH w.params) (.ref 145) (.ref 133) = some false := by kernel_rfl
  have t_TooMany_TooMany : PySem.W.kitOne (kH w.params) (.ref 145) (.ref 145) = some true := by kernel_rfl
  have t_TooMany_NoText : PySem.W.kitOne (kH w.params) (.ref 145) (.ref 157) = some false := by kernel_rfl
  have t_TooMany_NoLine : PySem.W.kitOne (kH w.params) (.ref 145) (.ref 169) = some false := by kernel_rfl
  have bt_NoTable_NoTable : Beneath (kH w.params) 85 85 true:=⟨by kernel_rfl,by kernel_rfl,by kernel_rfl,by kernel_rfl⟩
  have bt_NoParts_NoTable : Beneath (kH w.params) 133 85 false:=⟨by kernel_rfl,by kernel_rfl,by kernel_rfl,by kernel_rfl⟩
  have bt_NoParts_NoParts : Beneath (kH w.params) 133 133 true:=⟨by kernel_rfl,by kernel_rfl,by kernel_rfl,by kernel_rfl⟩
  have bt_TooMany_NoTable : Beneath (kH w.params) 145 85 false:=⟨by kernel_rfl,by kernel_rfl,by kernel_rfl,by kernel_rfl⟩
  have bt_TooMany_NoParts : Beneath (kH w.params) 145 133 false:=⟨by kernel_rfl,by kernel_rfl,by kernel_rfl,by kernel_rfl⟩
  have bt_TooMany_TooMany : Beneath (kH w.params) 145 145 true:=⟨by kernel_rfl,by kernel_rfl,by kernel_rfl,by kernel_rfl⟩
  have hK : noLst (kH w.params) = true := by kernel_rfl
  refine ⟨fnOf (Str.ofString "law") (Str.ofString "law") (defArgs (top 51)) (defBody (top 51)) (defScope (top 51)) .none .none .none (.str (Str.ofString "law_stepgrove_k63_refused_joins") 534) none (.ref 374) .none,fun s v => .of_eq rfl,fun base _ _ => ?_⟩
  have m_MOST_ROWS:=PySem.W.mg_of X G a_MOST
  have m_SHARP:=PySem.W.mg_of X G a_SHARP
  have g_gd:=ok_greatest_divisor (P:=rwX.prog) (w:=w) (base := base) T_greatest_divisor z_abs
  have g_fr:=ok_fraction_of T_fraction_of T_greatest_divisor g_gd
  have g_ti:=ok_frac_times T_frac_times T_fraction_of g_fr
  have g_wh:=ok_is_whole (P:=rwX.prog) (w:=w) (base := base) T_is_whole z_isinstance z_int z_bool
  have g_isfr:=ok_is_fraction T_is_fraction T_is_whole T_greatest_divisor g_wh g_gd z_isinstance z_tuple z_len
  have g_af:=ok_are_fractions T_are_fractions T_is_fraction g_isfr z_isinstance z_list
  have g_ar:=ok_are_rows T_are_rows T_are_fractions g_af m_MOST_ROWS z_isinstance z_list z_len z_enumerate
  have g_it:=ok_is_table T_is_table T_are_rows T_are_fractions g_ar (g_af.mono (by decide)) z_isinstance z_tuple z_len
  have g_pow:=ok_power_of (P:=rwX.prog) (w:=w) (base := base) T_power_of
  have g_co:=ok__law_copy (P:=rwX.prog) (w:=w) (base := base) T__law_copy z_list
  have g_ca:=ok__law_cell_at (P:=rwX.prog) (w:=w) (base := base) T__law_cell_at z_len
  have g_mi:=ok__law_mixed (P:=rwX.prog) (w:=w) (base := base) T__law_mixed
  have g_re:=ok__law_rest T__law_rest T__law_cell_at T__law_mixed g_ca g_mi z_abs
  have g_ra:=ok__law_ratio (P:=rwX.prog) (w:=w) (base := base) T__law_ratio z_abs
  have g_su:=ok__law_sum T__law_sum T__law_ratio (g_ra.mono (by decide))
  have g_ta:=ok__law_table T__law_table T__law_ratio T__law_sum (g_ra.mono (by decide)) g_su z_range
  have d_it:=toB (q:=isTabD) g_it (fun l d v H Q E hd hq => ⟨l,d,v,rfl,hd,hq⟩)
  have d_ti:=toT g_ti
  have d_fr:=toFr g_fr
  have d_pw:=toPw g_pow
  have x_rt:=ox_refuse_no_table (k:=5) T_refuse_no_table T_is_table d_it X_NoTable
  have x_rm:=ox_refuse_too_many_rows (P:=rwX.prog) (w:=w) (base := base) (k:=5) T_refuse_too_many_rows z_len z_sum m_MOST_ROWS X_TooMany
  have d_sc:=od_scaled (k:=5) T_scaled T_frac_times (d_ti.mono (by decide))
  have x_be:=ox_table_behind (k:=6) T_table_behind T_refuse_no_table x_rt T_refuse_too_many_rows x_rm z_list
  have x_sh:=ox_table_shrunk (k:=6) T_table_shrunk T_refuse_no_table x_rt T_scaled d_sc
  have x_mx:=ox_table_mixed (k:=6) T_table_mixed T_refuse_no_table x_rt T_refuse_too_many_rows x_rm T_scaled d_sc z_len z_zip X_NoParts
  have x_sp:=ox_table_sharpened (k:=7) T_table_sharpened T_fraction_of (d_fr.mono (by decide)) T_power_of (d_pw.mono (by decide)) T_refuse_no_table (x_rt.mono (by decide)) T_table_behind x_be T_table_mixed x_mx T_table_shrunk x_sh m_SHARP X_TooMany
  have x_as:=ox__law_asked (k:=8) T__law_asked T_table_behind (x_be.mono (by decide)) T_table_mixed (x_mx.mono (by decide)) T_table_sharpened x_sp T_table_shrunk (x_sh.mono (by decide))
  have d_al:=od__law_alone (P:=rwX.prog) (w:=w) (base := base) (k:=8) T__law_alone z_ValueError z_isinstance z_len m_GroveError m_NoBottom m_NoChange m_NoLine m_NoName m_NoParts m_NoStart m_NoTable m_NoText m_NoTree m_NoWeighing m_NotAlike m_TooMany (kt3_h xk_NoTable xk_NoParts xk_TooMany t_NoTable_GroveError t_NoParts_GroveError t_TooMany_GroveError) (kt3_h xk_NoTable xk_NoParts xk_TooMany t_NoTable_NoBottom t_NoParts_NoBottom t_TooMany_NoBottom) (kt3_h xk_NoTable xk_NoParts xk_TooMany t_NoTable_NoChange t_NoParts_NoChange t_TooMany_NoChange) (kt3_h xk_NoTable xk_NoParts xk_TooMany t_NoTable_NoLine t_NoParts_NoLine t_TooMany_NoLine) (kt3_h xk_NoTable xk_NoParts xk_TooMany t_NoTable_NoName t_NoParts_NoName t_TooMany_NoName) (kt3_h xk_NoTable xk_NoParts xk_TooMany t_NoTable_NoParts t_NoParts_NoParts t_TooMany_NoParts) (kt3_h xk_NoTable xk_NoParts xk_TooMany t_NoTable_NoStart t_NoParts_NoStart t_TooMany_NoStart) (kt3_h xk_NoTable xk_NoParts xk_TooMany t_NoTable_NoTable t_NoParts_NoTable t_TooMany_NoTable) (kt3_h xk_NoTable xk_NoParts xk_TooMany t_NoTable_NoText t_NoParts_NoText t_TooMany_NoText) (kt3_h xk_NoTable xk_NoParts xk_TooMany t_NoTable_NoTree t_NoParts_NoTree t_TooMany_NoTree) (kt3_h xk_NoTable xk_NoParts xk_TooMany t_NoTable_NoWeighing t_NoParts_NoWeighing t_TooMany_NoWeighing) (kt3_h xk_NoTable xk_NoParts xk_TooMany t_NoTable_NotAlike t_NoParts_NotAlike t_TooMany_NotAlike) (kt3_h xk_NoTable xk_NoParts xk_TooMany t_NoTable_TooMany t_NoParts_TooMany t_TooMany_TooMany) (kt3_h xk_NoTable xk_NoParts xk_TooMany tV_NoTable tV_NoParts tV_TooMany)
  have d_rf:=od__law_refusal (k:=9) T__law_refusal T__law_alone d_al T__law_asked (spX_only [_,_,_] x_as) m_NoParts m_NoTable m_TooMany (fun ds C h => by
    have:=only_in h
    rcases List.mem_cons.mp this with rfl | this
    · exact .inl rfl
    · rcases List.mem_cons.mp this with rfl | this
      · exact .inr (.inl rfl)
      · exact .inr (.inr (List.mem_singleton.mp this))) bt_NoTable_NoTable bt_NoParts_NoTable bt_NoParts_NoParts bt_TooMany_NoTable bt_TooMany_NoParts bt_TooMany_TooMany (by decide) (by decide) (by decide)
  have d_lo:=od__law_long (P:=rwX.prog) (w:=w) (base := base) (k:=9) T__law_long z_len z_list
  have d_spo:=ok__law_spoilt (k:=9) T__law_spoilt T__law_copy (g_co.mono (by decide)) z_int z_len z_tuple
  exact ok_law (k:=10) ⟨by decide,by decide,by decide⟩ T_law T__law_rest T__law_table T__law_long T__law_refusal T__law_spoilt (g_re.mono (by decide)) (g_ta.mono (by decide)) (d_lo.mono (by decide)) d_rf (d_spo.mono (by decide)) z_int z_range
theorem walkX : WalkO qX [] (XL qX []) hX.says rwX.row.toRowW dX [] (fun f vs => PySem.call f vs) :=
  L2.walk_of (l:=rwX) (n:=63) (k:=11) (x := "_law_script") (CX:=fun _ => CX0) (K:=kH) (sp:=fun w => spLaw (kH w.params)) rfl (by decide) rfl ⟨rfl,by decide,by decide⟩ (fun w h Y => kIn_of Y) allX (fun _ _ a ns hl _ hS => ⟨a,ns,rfl,hS,hl,fun _ => rfl⟩) fun _ _ _ _ _ z => z
end
end Q63
open PySem PySem.W PyProof.Rows
set_option maxRecDepth 100000 in
theorem PySem.Challenge.cw_stepgrove_k63_refused_joins_holds : PySem.Challenge.rw_stepgrove_k63_refused_joins.Holds := by
  refine Q63.openX ?hw Q63.walkX
  w_witness2
#print axioms PySem.Challenge.cw_stepgrove_k63_refused_joins_holds
