import PyProof.Rows.All
import Wide.All
import OpenK.AllK
import Wide.FinOn
import Lean
import PyProof.EqAt
import PyProof.EqKinds
import PyProof.TupleCall
import PySem.Challenge.RW_stepgrove_k69_weighings_mirrored
set_option Elab.async false
set_option linter.all false
set_option maxRecDepth 100000
abbrev MD:=List PySem.PyData→Option PySem.PyData
abbrev Fg:=PySem.W.Frag
abbrev Wb:=@PySem.wpAny_bind
abbrev aA:=@PySem.wpAny_pure
abbrev aB:=@Option.bind_eq_some_iff
abbrev aC:=@Option.map_eq_some_iff
abbrev aD:=@PySem.Heap.get?_push_of_some
abbrev aE:=@List.getElem?_eq_some_iff
abbrev aF:=@PySem.Heap.lt_size
abbrev aG:=@Nat.ne_of_lt
abbrev aH:=@Nat.lt_of_lt_of_le
abbrev aI:=@List.mem_of_getElem?
abbrev aJ:=@Nat.le_refl
abbrev aK:=@Bool.false_ne_true
abbrev aL:=@List.getElem?_eq_getElem
abbrev aM:=@List.mem_cons
abbrev aN:=@List.all_eq_true
abbrev aO:=@PySem.Heap.get?_push_size
abbrev aP:=@of_decide_eq_true
abbrev aQ:=@PySem.wpAny_holding
abbrev aR:=@PySem.PassesOwn.never
abbrev aS:=@List.mem_cons_of_mem
abbrev aT:=@List.mem_map
abbrev aU:=@PySem.Heap.SameBut.update
abbrev aV:=@Nat.lt_of_le_of_lt
abbrev aW:=@PySem.wpAny_call_entry
abbrev aX:=@List.map_congr_left
abbrev aY:=@Option.some.inj
abbrev aZ:=@List.mem_append_right
abbrev aa:=@Nat.le_trans
abbrev ae:=@List.mem_cons_self
abbrev af:=@Nat.pow_le_pow_right
abbrev ag:=@Nat.ne_of_gt
abbrev ah:=@List.mem_iff_getElem?
abbrev ai:=@PySem.wpAny_mono
abbrev aj:=@PySem.wpAny_callSpecial?_slot
abbrev ak:=@Nat.not_lt_zero
abbrev ao:=@PySem.wpAny_field
abbrev aq:=@Nat.lt_succ_of_lt
abbrev ar:=@Nat.zero_le
abbrev au:=@PyProof.Rows.callWith_type1
abbrev av:=@List.mem_map_of_mem
abbrev ax:=@PySem.F.plainAttrs_list
abbrev ay:=@PySem.wpAny_newObj_type
abbrev az:=@PySem.wpAny_seqItems
abbrev bA:=@Bool.eq_false_iff
abbrev bC:=@congrArg
abbrev bD:=@PySem.boot_len
abbrev bE:=@decide_eq_false
abbrev bF:=@PySem.wpAny_setState_of
abbrev bG:=@PyProof.Rows.boot_isinstance
abbrev bH:=@List.idxOf_lt_length_iff
abbrev bI:=@PySem.W.kia_one
abbrev bJ:=@PySem.wpAny_rule
abbrev bK:=@Nat.le_of_lt
abbrev bL:=@Nat.lt_succ_self
abbrev bM:=@of_decide_eq_false
abbrev bN:=@PySem.F.slot_list_append
abbrev bO:=@PySem.F.type_list_append
abbrev bQ:=@List.mem_append_left
abbrev bR:=@PyProof.Rows.boot_tuple
abbrev bS:=@List.mem_range
abbrev bT:=@decide_eq_true
abbrev bU:=@PySem.wpAny_setField_rec
abbrev bV:=@PyProof.Rows.KeyOrd.kle_refl
abbrev bW:=@PySem.F.slot_zip_next
abbrev bX:=@List.mem_of_mem_take
abbrev bY:=@PySem.wpAny_newList
abbrev bZ:=@Nat.lt_trans
abbrev ba:=@List.mem_append
namespace L2
open PySem PySem.Spec PyProof.Rows
abbrev Key:=Sum Int Str
def b3:Key→Value→Bool
 |.inl k,v=>Value.isInt k v
 |.inr x,v=>Value.isStrOf x v
def mK(w:World):Key→Int
 |.inl k=>hashInt k
 |.inr x=>hashStr w x
theorem Cr:∀ {k:Key} {v:Value},b3 k v=true→(∃i t,k=Sum.inl i∧v=Value.int i t)∨(∃x t,k=Sum.inr x∧v=Value.str x t)
 |.inl i,v,h=>by
  obtain⟨t,e⟩:=Value.isInt_shape (k:=i) (v:=v) h;exact .inl ⟨i,t,rfl,e⟩
 |.inr x,v,h=>by
  obtain⟨t,e⟩:=Value.isStrOf_shape (x:=x) (v:=v) h;exact .inr ⟨x,t,rfl,e⟩
theorem ib(a b:Int):decide ((Sum.inl a:Key)=Sum.inl b)=(a==b):=by
 by_cases e:a=b
 ·subst e;simp
 ·have h:¬(Sum.inl a:Key)=Sum.inl b:=fun q=>e (Sum.inl.inj q);rw [decide_eq_false h];exact(beq_eq_false_iff_ne.mpr e).symm
theorem gr(a b:Str):decide ((Sum.inr a:Key)=Sum.inr b)=decide (a=b):=by
 by_cases e:a=b
 ·subst e;simp
 ·have h:¬(Sum.inr a:Key)=Sum.inr b:=fun q=>e (Sum.inr.inj q);rw [decide_eq_false h,decide_eq_false e]
theorem i6(a:Int)(b:Str):decide ((Sum.inl a:Key)=Sum.inr b)=false:=bE (fun q=>nomatch q)
theorem fJ(a:Str)(b:Int):decide ((Sum.inr a:Key)=Sum.inl b)=false:=bE (fun q=>nomatch q)
def Vk(prog:Program)(w:World):PySem.KeyKind prog w Key where
 is:=b3
 hash:=mK w
 inj:=fun v a b ha hb=>by
  rcases Cr ha with ⟨i,t,rfl,rfl⟩ | ⟨x,t,rfl,rfl⟩
  ·rcases Cr hb with ⟨j,u,rfl,e⟩ | ⟨y,u,rfl,e⟩
   ·injection e with e1 _;rw [e1]
   ·exact nomatch e
  ·rcases Cr hb with ⟨j,u,rfl,e⟩ | ⟨y,u,rfl,e⟩
   ·exact nomatch e
   ·injection e with e1 _;rw [e1]
 byValue:=fun k v h=>by
  rcases Cr h with ⟨i,t,rfl,rfl⟩ | ⟨x,t,rfl,rfl⟩<;>rfl
 pyHash:=fun hv h=>by
  rcases Cr hv with ⟨i,t,rfl,rfl⟩ | ⟨x,t,rfl,rfl⟩
  ·exact wpAny_pyHash_int h
  ·exact wpAny_pyHash_str h
 eqBool:=fun hu hv h=>by
  rcases Cr hu with ⟨i,t,rfl,rfl⟩ | ⟨x,t,rfl,rfl⟩
  ·rcases Cr hv with ⟨j,u,rfl,rfl⟩ | ⟨y,u,rfl,rfl⟩
   ·rw [ib]at h;exact wpAny_eqBool_int h
   ·rw [i6]at h;exact SeqAt.EqAt.int_str i t y u _ _ _ _ h
  ·rcases Cr hv with ⟨j,u,rfl,rfl⟩ | ⟨y,u,rfl,rfl⟩
   ·rw [fJ]at h;exact SeqAt.EqAt.str_int x t j u _ _ _ _ h
   ·rw [gr]at h;exact wpAny_eqBool_str h
 «strs»:=fun k x t v h=>by
  rcases Cr h with ⟨i,u,rfl,e⟩ | ⟨y,u,rfl,e⟩
  ·exact nomatch e
  ·injection e with e1 _
   subst e1;cases v<;>rfl
inductive V where
 |A7 | bl (b:Bool) | int (i:Int) | str (x:Str) | Mc (b:Array UInt8) | Vg (b:UInt64) | ref (a:Addr) | ty (n:String)
 deriving DecidableEq
def RelV:V→Value→Prop
 |.A7,u=>u=Value.none
 |.bl b,u=>u=Value.bool b
 |.int i,u=>∃t,u=Value.int i t
 |.str x,u=>∃t,u=Value.str x t
 |.Mc b,u=>∃t,u=Value.bytes b t
 |.Vg b,u=>∃t,u=Value.float b t
 |.ref a,u=>u=Value.ref a
 |.ty n,u=>u=Value.type n
abbrev Vals:List V→List Value→Prop:=Paired RelV
theorem Vals.length{xs:List V}{us:List Value}(r:Vals xs us):xs.length=us.length:=Paired.length r
theorem Vals.get:∀ {xs:List V} {us:List Value} {i:Nat} {x:V},Vals xs us→xs[i]? = some x→∃u,us[i]? = some u∧RelV x u
 |_,_,_,_,.nil,e=>by simp at e
 |_,_,0,_,.cons r _,e=>by simp at e;subst e;exact⟨_,rfl,r⟩
 |_,_,i+1,x,.cons _ t,e=>by
  obtain⟨u,h1,h2⟩:=Vals.get (i:=i) (x:=x) t (by simpa using e);exact⟨u,by simpa using h1,h2⟩
theorem Vals.set{x:V}{u:Value}(r:RelV x u):∀ {xs:List V} {us:List Value} (i:Nat),Vals xs us→Vals (xs.set i x) (us.set i u)
 |_,_,_,.nil=>.nil
 |_,_,0,.cons _ t=>.cons r t
 |_,_,i+1,.cons q t=>.cons q (Vals.set r i t)
theorem Vals.append:∀ {xs ys:List V} {us ws:List Value},Vals xs us→Vals ys ws→Vals (xs++ys) (us++ws)
 |_,_,_,_,.nil,s=>s
 |_,_,_,_,.cons r t,s=>.cons r (Vals.append t s)
theorem Vals.take:∀ {xs:List V} {us:List Value} (n:Nat),Vals xs us→Vals (xs.take n) (us.take n)
 |_,_,0,_=>.nil
 |_,_,_+1,.nil=>.nil
 |_,_,n+1,.cons r t=>.cons r (Vals.take n t)
theorem Vals.drop:∀ {xs:List V} {us:List Value} (n:Nat),Vals xs us→Vals (xs.drop n) (us.drop n)
 |_,_,0,r=>r
 |_,_,_+1,.nil=>.nil
 |_,_,n+1,.cons _ t=>Vals.drop n t
def Yz:Option V→Option Value→Prop
 |some v,some u=>RelV v u
 |none,none=>True
 |_,_=>False
def KV{κ:Type}:List (κ×V)→List (κ×Value)→Prop:=Paired fun(p:κ×V) (q:κ×Value)=>p.1=q.1∧RelV p.2 q.2
def kV:Key→V
 |.inl i=>.int i
 |.inr x=>.str x
inductive HO where
 |lst (xs:List V)
 |tup (xs:List V)
 |dK (kvs:List (Key×V)) | dT (kvs:List (List Key×V))
 |set (S:Int→Bool) (n:Nat)
 |ins (C dx:Addr) (fs:List (Str×V))
 |own (x:Addr)
 |xd (fs:List (Str×V))
 |met (f x:Addr)
 |gM (lo hi:Int)
 |Ed (o:Obj) (u:HO)
 |PU (ps:Array Value)
 |ext (φ:Heap→Prop)
abbrev Hp:=Addr→Option HO
def upd(H:Hp)(a:Addr)(o:HO):Hp:=fun b=>if b=a then some o else H b
theorem AX{H:Hp}{a:Addr}{o:HO}:upd H a o a=some o:=by unfold upd;rw [if_pos rfl]
theorem AM{H:Hp}{a b:Addr}{o:HO}(h:b≠a):upd H a o b=H b:=by unfold upd;rw [if_neg h]
theorem Aj{H:Hp}{a b:Addr}{o:HO}(h:H a=some o)(h':H b=none):a≠b:=by
 intro e;subst e;rw [h]at h';cases h'
section
variable(P:Program)(w:World)
def Cd(H:Hp)(h:Heap)(a:Addr):HO→Prop
 |.lst xs=>xs.length≤sizeLine∧∃(its:List Value) (n:Nat),Vals xs its∧h.get? a=some { cls:=.type "list",data:=.seq its.toArray n }
 |.tup xs=>xs.length≤sizeLine∧∃its:List Value,Vals xs its∧IsTup h a its.toArray
 |.dK kvs=>kvs.length≤sizeLine∧(a==sysModules)=false∧∃vs,KV kvs vs∧h.DictOf (Vk P w) a vs
 |.dT kvs=>kvs.length≤sizeLine∧(a==sysModules)=false∧∃xs:List (List Key×Addr×Value),
   Paired (fun(p:List Key×V) (q:List Key×Addr×Value)=>p.1=q.1∧H q.2.1=some (.tup (p.1.map kV))∧RelV p.2 q.2.2) kvs xs ∧
   ∃o es ep,h.get? a=some o∧o.ExactDict∧o.data=.dict es ep∧es.toList=xs.map (entryOfKey (tupleKind (Vk P w)))∧(xs.map (·.1)).Nodup
 |.set S n=>h.SetOf (intKind P w) a S n
 |.ins C dx fs=>H dx=some (.own a)∧fs.length≤1000∧dx≠a∧h.get? a=some (PySem.W.instObj C dx) ∧
   ∃mA,h.Ns1 dx mA∧(∀f,Yz (fs.lookup f) (mA f))∧PySem.Within mA (fs.map (·.1))
 |.own _=>∃o,h.get? a=some o
 |.xd fs=>∃mA,h.Ns1 a mA∧∀f,Yz (fs.lookup f) (mA f)
 |.gM lo hi=>∃t u v,h.get? a=some { cls:=.type "range",data:=.fields #[.int lo t,.int hi u,.int 1 v] }
 |.Ed o u=>h.get? a=some o∧Cd H h a u
 |.PU ps=>h.get? a=some { cls:=.none,data:=.fields ps }
 |.met f x=>h.get? a=some (PySem.W.methodObj (.ref f) (.ref x))
 |.ext φ=>φ h∧(∃o,h.get? a=some o)∧∀h1 h2:Heap,φ h1→(∀o,h1.get? a=some o→h2.get? a=some o)→φ h2
def EO(H:Hp)(h:Heap):Prop:=∀a o,H a=some o→Cd P w H h a o
end
section
variable{P:Program}{w:World}{H H':Hp}{h h':Heap}{a:Addr}{o:HO}
theorem Cd.lt(x:Cd P w H h a o):a<h.objs.size:=by
 cases o with
 |lst xs=>obtain⟨_,_,_,_,e⟩:=x;exact aF e
 |tup xs=>obtain⟨_,_,_,p⟩:=x;exact p.lt
 |dK kvs=>obtain⟨_,_,_,_,o,_,_,e,_⟩:=x;exact aF e
 |dT kvs=>obtain⟨_,_,_,_,o,_,_,e,_⟩:=x;exact aF e
 |set S n=>obtain⟨o,_,_,_,e,_⟩:=x;exact aF e
 |ins C dx fs=>obtain⟨_,_,_,e,_⟩:=x;exact aF e
 |own y=>obtain⟨_,e⟩:=x;exact aF e
 |xd fs=>obtain⟨_,⟨_,_,_,e,_⟩,_⟩:=x;exact aF e
 |gM lo hi=>obtain⟨_,_,_,e⟩:=x;exact aF e
 |Ed ob u=>obtain⟨e,_⟩:=x;exact aF e
 |PU ps=>exact aF (show h.get? a=some _ from x)
 |met f y=>exact aF (show h.get? a=some _ from x)
 |ext φ=>obtain⟨_,⟨_,e⟩,_⟩:=x;exact aF e
theorem Paired.jW{α β:Type}{F G:α→β→Prop}:∀ {l₁:List α} {l₂:List β},Paired F l₁ l₂→(∀a b,F a b→G a b)→Paired G l₁ l₂
 |_,_,.nil,_=>.nil
 |_,_,.cons r t,f=>.cons (f _ _ r) (Paired.jW t f)
theorem Cd.JH(x:Cd P w H h a o)(k:∀b u,(b=a∨H b=some (.own a))→h.get? b=some u→h'.get? b=some u)
 (ho:∀b,H b=some (.own a)→H' b=some (.own a))(ht:∀b xs,H b=some (.tup xs)→H' b=some (.tup xs)):Cd P w H' h' a o:=by
 induction o with
 |lst xs=>obtain⟨z,its,n,r,e⟩:=x;exact⟨z,its,n,r,k _ _ (.inl rfl) e⟩
 |tup xs=>obtain⟨z,its,r,ob,e,c⟩:=x;exact⟨z,its,r,ob,k _ _ (.inl rfl) e,c⟩
 |dK kvs=>obtain⟨z,y,vs,r,ob,es,ep,e,c⟩:=x;exact⟨z,y,vs,r,ob,es,ep,k _ _ (.inl rfl) e,c⟩
 |dT kvs =>
  obtain⟨z,y,xs,r,ob,es,ep,e,c⟩:=x;exact⟨z,y,xs,Paired.jW r fun p q z=>⟨z.1,ht _ _ z.2.1,z.2.2⟩,ob,es,ep,k _ _ (.inl rfl) e,c⟩
 |set S n=>obtain⟨ob,es,ep,t,e,c⟩:=x;exact⟨ob,es,ep,t,k _ _ (.inl rfl) e,c⟩
 |ins C dx fs =>
  obtain⟨d,z,ne,e,mA,⟨od,es,ep,e2,c⟩,r⟩:=x;exact⟨ho _ d,z,ne,k _ _ (.inl rfl) e,mA,⟨od,es,ep,k _ _ (.inr d) e2,c⟩,r⟩
 |own y=>obtain⟨ob,e⟩:=x;exact⟨ob,k _ _ (.inl rfl) e⟩
 |xd fs=>obtain⟨mA,⟨od,es,ep,e,c⟩,r⟩:=x;exact⟨mA,⟨od,es,ep,k _ _ (.inl rfl) e,c⟩,r⟩
 |gM lo hi=>obtain⟨t,u,v,e⟩:=x;exact⟨t,u,v,k _ _ (.inl rfl) e⟩
 |Ed ob u ih=>obtain⟨e,q⟩:=x;exact⟨k _ _ (.inl rfl) e,ih q⟩
 |PU ps =>
  have e:h.get? a=some { cls:=.none,data:=.fields ps }:=x;show h'.get? a=some { cls:=.none,data:=.fields ps };exact k a _ (.inl rfl) e
 |met f y =>
  have e:h.get? a=some (PySem.W.methodObj (.ref f) (.ref y)):=x;show h'.get? a=some (PySem.W.methodObj (.ref f) (.ref y));exact k a _ (.inl rfl) e
 |ext φ=>obtain⟨p,⟨o,e⟩,st⟩:=x;exact⟨st _ _ p fun o q=>k _ _ (.inl rfl) q,⟨o,k _ _ (.inl rfl) e⟩,st⟩
theorem EO.lt(x:EO P w H h)(e:H a=some o):a<h.objs.size:=(x a o e).lt
theorem EO.fresh(x:EO P w H h)(e:h.objs.size≤a):H a=none:=by
 cases q:H a with
 |none=>rfl
 |some u=>exact absurd (aH (x.lt q) e) (Nat.lt_irrefl _)
theorem EO.kept(x:EO P w H h)(k:∀b u,h.get? b=some u→h'.get? b=some u):EO P w H h':=fun a o e =>
 (x a o e).JH (fun b u _ q=>k b u q) (fun _ q=>q) fun _ _ q=>q
theorem EO.laid(x:EO P w H h)(k:∀b u,h.get? b=some u→h'.get? b=some u)(hp:h.objs.size≤a)(new:Cd P w (upd H a o) h' a o):EO P w (upd H a o) h':=fun b u e=>by
 have hn:=x.fresh hp;by_cases hb:b=a
 ·subst hb;rw [AX]at e;cases e;exact new
 ·rw [AM hb]at e;exact(x b u e).JH (fun c v _ q=>k c v q) (fun c q=>by rw [AM (Aj q hn)];exact q) fun c xs q=>by rw [AM (Aj q hn)];exact q
end
def Rd(H:Hp)(a:Addr)(u:HO):Prop:=H a=some u∨∃o,H a=some (.Ed o u)
theorem Rd.ok{P:Program}{w:World}{H:Hp}{h:Heap}{a:Addr}{u:HO}(r:Rd H a u)(x:EO P w H h):Cd P w H h a u:=by
 rcases r with r | ⟨o,r⟩
 ·exact x a u r
 ·obtain⟨_,q⟩:=x a _ r;exact q
def cK:Option HO→Prop
 |some (.lst _)=>True
 |some (.dK _)=>True
 |some (.dT _)=>True
 |some (.set _ _)=>True
 |some (.ins _ _ _)=>True
 |some (.ext _)=>True
 |_=>False
section
variable{P:Program}{w:World}{H:Hp}{h h':Heap}{x e:Addr}{o':HO}
theorem EO.write(ok:EO P w H h)(mu:cK (H x))(he:e=x∨H e=some (.own x))(k:∀b u,b≠e→h.get? b=some u→h'.get? b=some u)(heo:∃u,h'.get? e=some u)
 (new:Cd P w (upd H x o') h' x o'):EO P w (upd H x o') h':=fun b u q=>by
 have nown:∀c y,H c=some (.own y)→c≠x:=fun c y r z=>by subst z;rw [r]at mu;exact mu
 have SU:∀c xs,H c=some (.tup xs)→c≠x:=fun c xs r z=>by subst z;rw [r]at mu;exact mu
 by_cases hb:b=x
 ·subst hb;rw [AX]at q;cases q;exact new
 ·rw [AM hb]at q;by_cases hbe:b=e
  ·have q':H b=some (.own x):=by
    rcases he with z | z
    ·exact absurd (hbe.trans z) hb
    ·rw [hbe];exact z
   rw [q]at q';cases q';obtain⟨v,hv⟩:=heo;exact⟨v,by rw [hbe];exact hv⟩
  ·refine(ok b u q).JH (fun c v hc r=>k c v ?_ r) (fun c r=>by rw [AM (nown c b r)];exact r) fun c xs r=>by rw [AM (SU c xs r)];exact r
   rcases hc with rfl | hc
   ·exact hbe
   ·rintro rfl;rcases he with z | z
    ·exact nown c b hc z
    ·rw [hc]at z;cases z;exact hb rfl
end
structure Un(fs ex:List Addr)(H H':Hp)(h h':Heap):Prop where
 keep:∀b o,h.get? b=some o→H b=none→b ∉ fs→b ∉ ex→h'.get? b=some o
 slot:∀b o,h.get? b=some o→H b=none→b∈fs→b ∉ ex→∃sl,h'.get? b=some { o with slots:=sl }
 free:∀b o,h.get? b=some o→H b=none→b ∉ ex→H' b=none
 there:∀b o,h.get? b=some o→b ∉ ex→∃o',h'.get? b=some o'
 C0:∀b xs,H b=some (.tup xs)→H' b=some (.tup xs)
 Gz:∀b o u,H b=some (.Ed o u)→H' b=some (.Ed o u)
 HW:∀b ps,H b=some (.PU ps)→∃more,H' b=some (.PU (ps++more))
section
variable{fs fs' ex ex':List Addr}{H H1 H2:Hp}{h h1 h2 h':Heap}{a x e:Addr}{o:HO}
theorem Un.any(u:Un fs ex H H1 h h1){b:Addr}{ob:Obj}(q:h.get? b=some ob)(n:H b=none)(hx:b ∉ ex):∃sl,h1.get? b=some { ob with slots:=sl }:=by
 by_cases hb:b∈fs
 ·exact u.slot b ob q n hb hx
 ·exact⟨ob.slots,u.keep b ob q n hb hx⟩
theorem Un.kept(k:∀b u,h.get? b=some u→h'.get? b=some u):Un fs ex H H h h' :=
 ⟨fun b ob q _ _ _=>k b ob q,fun b ob q _ _ _=>⟨ob.slots,k b ob q⟩,fun _ _ _ n _=>n,fun b ob q _=>⟨ob,k b ob q⟩,fun _ _ q=>q,fun _ _ _ q=>q,fun _ ps q=>⟨#[],by rw [q];simp⟩⟩
theorem Un.refl:Un fs ex H H h h:=Un.kept fun _ _ q=>q
theorem Un.laid(k:∀b u,h.get? b=some u→h'.get? b=some u)(hp:h.objs.size≤a)(hn:H a=none):Un fs ex H (upd H a o) h h' where
 keep:=fun b u q _ _ _=>k b u q
 slot:=fun b u q _ _ _=>⟨u.slots,k b u q⟩
 free:=fun b u q n _=>by rw [AM (aG (aH (aF q) hp))];exact n
 there:=fun b u q _=>⟨u,k b u q⟩
 C0:=fun b xs q=>by rw [AM (Aj q hn)];exact q
 Gz:=fun b u xs q=>by rw [AM (Aj q hn)];exact q
 HW:=fun b ps q=>⟨#[],by rw [AM (Aj q hn),q];simp⟩
theorem Un.write(mu:cK (H x))(he:e=x∨H e=some (.own x))(k:∀b u,b≠e→h.get? b=some u→h'.get? b=some u)(heo:∃u,h'.get? e=some u):Un fs ex H (upd H x o) h h':=by
 have hx:∀b,H b=none→b≠x:=fun b n z=>by subst z;rw [n]at mu;exact mu
 have hb:∀b,H b=none→b≠e:=fun b n z=>by
  subst z;rcases he with r | r
  ·exact hx b n r
  ·rw [n]at r;cases r
 have hm:∀b u,H b=some u→¬cK (some u)→b≠x:=fun b u q nm z=>by subst z;rw [q]at mu;exact nm mu
 refine⟨fun b u q n _ _=>k b u (hb b n) q,fun b u q n _ _=>⟨u.slots,k b u (hb b n) q⟩,fun b u q n _=>by rw [AM (hx b n)];exact n,fun b u q _=>?_,
  fun b xs q=>by rw [AM (hm b _ q fun z=>z)];exact q,fun b u xs q=>by rw [AM (hm b _ q fun z=>z)];exact q,fun b ps q=>⟨#[],by rw [AM (hm b _ q fun z=>z),q];simp⟩⟩
 by_cases hbe:b=e
 ·subst hbe;exact heo
 ·exact⟨u,k b u hbe q⟩
end
def GU(h:Heap)(H:Hp):List Addr:=(List.range h.objs.size).filter fun a=>(H a).isSome
def Kw(h:Heap)(H:Hp):Heap:=PySem.W.hideAll h (GU h H)
theorem Yi(h:Heap)(H:Hp):(Kw h H).objs.size=h.objs.size:=PySem.W.hideAll_size _ _
theorem Y7{h:Heap}{H:Hp}{b:Addr}{o:Obj}(e:h.get? b=some o)(n:H b=none):(Kw h H).get? b=some o :=
 PySem.W.hideAll_get _ e fun hm=>by
  have q:(H b).isSome=true:=(List.mem_filter.mp hm).2;rw [n]at q;simp at q
theorem dg{h:Heap}{H:Hp}{b:Addr}{o:Obj}(e:(Kw h H).get? b=some o):h.get? b=some o∧H b=none:=by
 have e':h.get? b=some o:=PySem.W.of_hideAll (GU h H) e;refine⟨e',?_⟩;cases q:H b with
 |none=>rfl
 |some x =>
  have hm:b∈GU h H:=List.mem_filter.mpr ⟨bS.mpr (aF e'),by simp [q]⟩;have z:(Kw h H).get? b=none:=PySem.W.hideAll_none (GU h H) hm;rw [z]at e;cases e
structure Mod(K:Fg)(mg:Str→Option Value)(base:Heap):Prop where
 O2:K.In base
 glob:base.Ns mainGlobals mg
 blt:∃mb,base.Ns builtinsNs mb∧∀x:Str,x ≠ "__name__" → mb x=bootBuiltins x
 nolimit:base.NoLimit
structure Cx where
 prog:Program
 w:World
 K:Fg
 mg:Str→Option Value
 base:Heap
 A:Around
 N:List Str
 s₀:Shared
 H₀:Hp
 env:Env
 outer:List Env
 stack:List Env
 ex:List Addr
 fn:Str→Bool
 calm:Bool
 pn:List (Addr×Obj)
 xe:Value→Shared→Prop
def Ft(l:List Env):List Addr:=l.filterMap (·.frame)
abbrev Cx.fs(X:Cx):List Addr:=Ft X.outer
def jO(sc:Scope)(x:Str):Prop:=sc.names.lookup x=some .local∨sc.names.lookup x=some .cell∨sc.names.lookup x=some .free
def Loc(sc:Scope)(x:Str):Prop:=sc.names.lookup x=some .local∨sc.names.lookup x=some .cell
def Look(env:Env)(h:Heap)(m:Str→Option Value)(x:Str)(u:Value):Prop :=
 (env.kindOf x=some .local∧m x=some u)∨((env.kindOf x=some .cell∨env.kindOf x=some .free)∧∃c,env.cells.lookup x=some c∧h.IsCell c (some u))
structure Cx.Ok(X:Cx):Prop where
 mod:Mod X.K X.mg X.base
 kind:X.env.scope.kind=.function
 glob:X.env.globals=mainGlobals
 blt:X.env.builtins=builtinsNs
 above:X.s₀.heap.objs.size≤X.env.locals
 inj:∀x y c,X.env.cells.lookup x=some c→X.env.cells.lookup y=some c→x=y
 has:∀x,(X.env.kindOf x=some .cell∨X.env.kindOf x=some .free)→∃c,X.env.cells.lookup x=some c
 Yc:∀x c,X.fn x=true→X.env.cells.lookup x=some c→X.s₀.heap.objs.size≤c
 hd:X.calm=true→X.A.handled=none
 frames:X.A.frames=some X.stack
 cY:X.stack=X.outer∨(X.stack=X.env::X.outer∧X.env.frame=some X.env.locals)
 lE:∀b∈X.ex,b≠X.env.locals∧∀x c,X.env.cells.lookup x=some c→c≠b
 bs:∀b o,X.base.get? b=some o→X.s₀.heap.get? b=some o∧X.H₀ b=none
 RB:X.base.objs.size≤X.s₀.heap.objs.size
 SS:∀b o,X.base.get? b=some o→b ∉ X.ex
 UD:∀b∈X.ex,b ∉ X.fs
 HH:X.s₀.heap.FunFrames X.base X.outer
 RO:∀b∈X.fs,X.H₀ b=none
structure Inv(X:Cx)(pins:List (Addr×Obj))(σ:List (Option V))(H:Hp)(s:Shared):Prop where
 ok:X.Ok
 os:s.os=X.s₀.os
 bare:AllBare s.gens
 base:Un X.fs X.ex X.H₀ H X.s₀.heap s.heap
 loc:∃m,s.heap.Ns X.env.locals m∧∀(i:Nat) (x:Str) (v:V),X.N[i]? = some x→σ[i]? = some (some v)→jO X.env.scope x→∃u,RelV v u∧Look X.env s.heap m x u
 cell:∀x c,X.env.cells.lookup x=some c→∃v,s.heap.IsCell c v
 free:H X.env.locals=none
 Hg:∀x c,X.env.cells.lookup x=some c→H c=none
 pin:∀p∈X.pn++pins,s.heap.get? p.1=some p.2∧H p.1=none∧p.1≠X.env.locals∧p.1 ∉ X.fs∧∀v,p.2.data≠.cell v
 Ap:EO X.prog X.w H s.heap
 len:σ.length=X.N.length
section
variable{X:Cx}{pins:List (Addr×Obj)}{σ:List (Option V)}{H H':Hp}{s:Shared}{h':Heap}
theorem Cx.Ok.mF(ok:X.Ok){b:Addr}{o:Obj}(e:X.base.get? b=some o):b ∉ X.fs:=fun hb=>by
 have:=(ok.HH.mem hb).1;rw [e]at this;cases this
theorem Inv.bs(I:Inv X pins σ H s):∀b o,X.base.get? b=some o→s.heap.get? b=some o∧H b=none:=fun b o e =>
 ⟨I.base.keep b o (I.ok.bs b o e).1 (I.ok.bs b o e).2 (I.ok.mF e) (I.ok.SS b o e),I.base.free b o (I.ok.bs b o e).1 (I.ok.bs b o e).2 (I.ok.SS b o e)⟩
theorem Inv.bk(I:Inv X pins σ H s):∀b o,X.base.get? b=some o→s.heap.get? b=some o:=fun b o e=>(I.bs b o e).1
theorem Inv.mod(I:Inv X pins σ H s):Mod X.K X.mg X.base:=I.ok.mod
theorem Inv.Hu(I:Inv X pins σ H s):X.K.In s.heap:=I.ok.mod.O2.keeps I.bk
theorem Inv.lt(I:Inv X pins σ H s):X.env.locals<s.heap.objs.size:=let⟨_,hn,_⟩:=I.loc;hn.lt
theorem Inv.sz(I:Inv X pins σ H s):X.s₀.heap.objs.size≤s.heap.objs.size:=aa I.ok.above (bK I.lt)
theorem Inv.lR(I:Inv X pins σ H s){a:Addr}(h:s.heap.objs.size≤a):a ∉ X.fs:=fun hb=>by
 obtain⟨_,o,ho,_⟩:=I.ok.HH.mem hb;exact absurd (aH (aF ho) (aa I.sz h)) (Nat.lt_irrefl _)
theorem Inv.UK(I:Inv X pins σ H s):∀x c,X.env.cells.lookup x=some c→c≠X.env.locals:=fun x c e z=>by
 obtain⟨v,o,ho,hd⟩:=I.cell x c e;obtain⟨m,⟨o',es,ep,ho',hd',_⟩,_⟩:=I.loc;rw [z,ho']at ho;cases ho;rw [hd']at hd;cases hd
theorem Inv.HH(I:Inv X pins σ H s):s.heap.FunFrames X.base X.outer:=by
 have all:∀(l:List Env),(∀b∈Ft l,b∈X.fs)→X.s₀.heap.FunFrames X.base l→s.heap.FunFrames X.base l:=by
  intro l
  induction l with
  |nil=>intro _ _;trivial
  |cons env r ih =>
   intro hs hl;obtain⟨hk,⟨L,o,hf,hn,ho,hd⟩,hr⟩:=hl;have hL:L∈X.fs:=hs L (by unfold Ft;rw [List.filterMap_cons,hf];exact ae);obtain⟨sl,e⟩:=I.base.slot L o ho (I.ok.RO L hL) hL fun z=>I.ok.UD L z hL;exact⟨hk,⟨L,_,hf,hn,e,hd⟩,ih (fun b hb=>hs b (by unfold Ft;rw [List.filterMap_cons,hf];exact aS _ hb)) hr⟩
 exact all X.outer (fun _ hb=>hb) I.ok.HH
theorem Inv.stack(I:Inv X pins σ H s):s.heap.FunFrames X.base X.stack:=by
 rcases I.ok.cY with e | ⟨e,hf⟩
 ·rw [e];exact I.HH
 ·rw [e];obtain⟨m,hn,_⟩:=I.loc;refine .cons (by rw [I.ok.kind];decide) hf hn ?_ I.HH;exact Heap.get?_none_of_le (aa I.ok.RB I.ok.above)
theorem Inv.MJ(I:Inv X pins σ H s):∀b∈Ft X.stack,b∈X.env.locals::X.fs:=fun b hb=>by
 rcases I.ok.cY with e | ⟨e,hf⟩
 ·rw [e]at hb;exact aS _ hb
 ·rw [e]at hb;unfold Ft at hb;rw [List.filterMap_cons,hf]at hb;exact hb
theorem Inv.QA(I:Inv X pins σ H s):∀b∈Ft X.stack,H b=none:=fun b hb=>by
 rcases aM.mp (I.MJ b hb) with e | hb
 ·rw [e];exact I.free
 ·obtain⟨_,o,ho,_⟩:=I.ok.HH.mem hb;exact I.base.free b o ho (I.ok.RO b hb) fun z=>I.ok.UD b z hb
theorem Inv.step{g':Array GenState}{t':Nat}{d':Drawn}{ch:List Addr}(I:Inv X pins σ H s)
 (hch:∀b∈ch,(b∈X.ex∨X.s₀.heap.objs.size≤b)∧b≠X.env.locals∧(∀x c,X.env.cells.lookup x=some c→c≠b)∧∀p∈X.pn++pins,p.1≠b)
 (keep:∀b o,b≠X.env.locals→b ∉ X.fs→b ∉ ch→s.heap.get? b=some o→H b=none→h'.get? b=some o)
 (slot:∀b o,b≠X.env.locals→b∈X.fs→b ∉ ch→s.heap.get? b=some o→H b=none→∃sl,h'.get? b=some { o with slots:=sl })(free:∀b o,b ∉ ch→s.heap.get? b=some o→H b=none→H' b=none)
 (there:∀b o,b ∉ ch→s.heap.get? b=some o→∃o',h'.get? b=some o')
 (C0:∀b xs,H b=some (.tup xs)→H' b=some (.tup xs))(Gz:∀b o u,H b=some (.Ed o u)→H' b=some (.Ed o u))(HW:∀b ps,H b=some (.PU ps)→∃more,H' b=some (.PU (ps++more)))
 (ns:∀m,s.heap.Ns X.env.locals m→h'.Ns X.env.locals m)(Ap:EO X.prog X.w H' h')(hg:AllBare g') :
  Inv X pins σ H' { s with heap:=h',gens:=g',drawn:=d',toks:=t' }:=by
 have neL:∀b o,X.s₀.heap.get? b=some o→b≠X.env.locals:=fun b o e=>aG (aH (aF e) I.ok.above);have neC:∀b o,X.s₀.heap.get? b=some o→b ∉ X.ex→b ∉ ch:=fun b o e hx hb=>by
  rcases(hch b hb).1 with z | z
  ·exact hx z
  ·exact absurd (aH (aF e) z) (Nat.lt_irrefl _)
 have cellK:∀x c,X.env.cells.lookup x=some c→∀v,s.heap.IsCell c v→h'.IsCell c v:=fun x c e v ⟨o,ho,hd⟩=>by
  have nch:c ∉ ch:=fun z=>(hch c z).2.2.1 x c e rfl;by_cases hc:c∈X.fs
  ·obtain⟨sl,q⟩:=slot c o (I.UK x c e) hc nch ho (I.Hg x c e);exact⟨_,q,hd⟩
  ·exact⟨o,keep c o (I.UK x c e) hc nch ho (I.Hg x c e),hd⟩
 refine⟨I.ok,I.os,hg,⟨fun b o e n hb hx=>?_,fun b o e n hb hx=>?_,fun b o e n hx=>?_,fun b o e hx=>?_,fun b xs e=>C0 b xs (I.base.C0 b xs e),fun b o xs e=>Gz b o xs (I.base.Gz b o xs e),fun b ps e=>?_⟩,?_,fun x c e=>?_,?_,fun x c e=>?_,fun p hp=>?_,Ap,I.len⟩
 ·exact keep b o (neL b o e) hb (neC b o e hx) (I.base.keep b o e n hb hx) (I.base.free b o e n hx)
 ·obtain⟨sl,e1⟩:=I.base.slot b o e n hb hx;obtain⟨sl',e2⟩:=slot b _ (neL b o e) hb (neC b o e hx) e1 (I.base.free b o e n hx);exact⟨sl',e2⟩
 ·obtain⟨o',e1⟩:=I.base.there b o e hx;exact free b o' (neC b o e hx) e1 (I.base.free b o e n hx)
 ·obtain⟨o',e1⟩:=I.base.there b o e hx;exact there b o' (neC b o e hx) e1
 ·obtain⟨m1,e1⟩:=I.base.HW b ps e;obtain⟨m2,e2⟩:=HW b _ e1;exact⟨m1++m2,by rw [e2,Array.append_assoc]⟩
 ·obtain⟨m,hn,hl⟩:=I.loc;refine⟨m,ns m hn,fun i x v e1 e2 e3=>?_⟩;obtain⟨u,r,l⟩:=hl i x v e1 e2 e3;refine⟨u,r,?_⟩;rcases l with l | ⟨k,c,e,z⟩
  ·exact .inl l
  ·exact .inr ⟨k,c,e,cellK x c e _ z⟩
 ·obtain⟨v,z⟩:=I.cell x c e;exact⟨v,cellK x c e v z⟩
 ·obtain⟨m,⟨o,_,_,ho,_⟩,_⟩:=I.loc;exact free _ o (fun z=>(hch _ z).2.1 rfl) ho I.free
 ·obtain⟨v,o,ho,hd⟩:=I.cell x c e;exact free c o (fun z=>(hch c z).2.2.1 x c e rfl) ho (I.Hg x c e)
 ·obtain⟨e,n,ne,nf,d⟩:=I.pin p hp;have nch:p.1 ∉ ch:=fun z=>(hch p.1 z).2.2.2 p hp rfl;exact⟨keep p.1 p.2 ne nf nch e n,free p.1 p.2 nch e n,ne,nf,d⟩
theorem Inv.un{t':Nat}(I:Inv X pins σ H s)(u:Un X.fs [] H H' s.heap h')(Ap:EO X.prog X.w H' h'):Inv X pins σ H' { s with heap:=h',toks:=t' }:=by
 obtain⟨m,⟨o,es,ep,ho,r⟩,_⟩:=id I.loc;obtain⟨sl,hL⟩:=u.any ho I.free (by simp);exact I.step (g':=s.gens) (d':=s.drawn) (ch:=[]) (fun _ z=>nomatch z) (fun b o _ hb _ e n=>u.keep b o e n hb (by simp)) (fun b o _ hb _ e n=>u.slot b o e n hb (by simp)) (fun b o _ e n=>u.free b o e n (by simp)) (fun b o _ e=>u.there b o e (by simp)) u.C0 u.Gz u.HW (fun m' hm=>by
  obtain⟨o',es',ep',ho',r'⟩:=hm;rw [ho]at ho';cases ho';exact⟨_,es',ep',hL,r'⟩) Ap I.bare
theorem Inv.call{g':Array GenState}{t':Nat}{d':Drawn}{ch:List Addr}(I:Inv X pins σ H s)(u:Un (Ft X.stack) ch H H' s.heap h')(Ap:EO X.prog X.w H' h')(hg:AllBare g')
 (hch:∀b∈ch,(b∈X.ex∨X.s₀.heap.objs.size≤b)∧b≠X.env.locals∧(∀x c,X.env.cells.lookup x=some c→c≠b)∧∀p∈X.pn++pins,p.1≠b) :
  Inv X pins σ H' { s with heap:=h',gens:=g',drawn:=d',toks:=t' }:=by
 obtain⟨m,⟨o,es,ep,ho,r⟩,_⟩:=id I.loc;obtain⟨sl,hL⟩:=u.any ho I.free fun z=>(hch _ z).2.1 rfl;exact I.step (ch:=ch) hch (fun b o hL hb hc e n=>u.keep b o e n (fun z=>(aM.mp (I.MJ b z)).elim hL hb) hc) (fun b o _ _ hc e n=>u.any e n hc) (fun b o hc e n=>u.free b o e n hc) (fun b o hc e=>u.there b o e hc) u.C0 u.Gz u.HW (fun m' hm=>by
  obtain⟨o',es',ep',ho',r'⟩:=hm;rw [ho]at ho';cases ho';exact⟨_,es',ep',hL,r'⟩) Ap hg
theorem Inv.turned{t':Nat}{it:Addr}(I:Inv X pins σ H s)(k:∀b o,b≠it→s.heap.get? b=some o→h'.get? b=some o)(hn:H it=none)(hL:it≠X.env.locals)
 (h1:it∈X.ex∨X.s₀.heap.objs.size≤it)(h2:∀x c,X.env.cells.lookup x=some c→c≠it)(h3:∀p∈X.pn++pins,p.1≠it):Inv X pins σ H { s with heap:=h',toks:=t' }:=by
 have nit:∀b u,H b=some u→b≠it:=fun b u e z=>by rw [z,hn]at e;cases e
 refine I.step (g':=s.gens) (d':=s.drawn) (ch:=[it]) (fun b hb=>?_) (fun b o _ _ hc e _=>k b o (fun z=>hc (by simp [z])) e) (fun b o _ _ hc e _=>⟨o.slots,k b o (fun z=>hc (by simp [z])) e⟩) (fun _ _ _ _ n=>n)
  (fun b o hc e=>⟨o,k b o (fun z=>hc (by simp [z])) e⟩) (fun _ _ e=>e) (fun _ _ _ e=>e) (fun b ps e=>⟨#[],by rw [e];simp⟩) (fun m hm=>?_) (fun b u e=>?_) I.bare
 ·have e:b=it:=by simpa using hb
  subst e;exact⟨h1,hL,h2,h3⟩
 ·obtain⟨o,es,ep,ho,r⟩:=hm;exact⟨o,es,ep,k _ o (Ne.symm hL) ho,r⟩
 ·refine(I.Ap b u e).JH (fun c v hc q=>k c v ?_ q) (fun _ q=>q) fun _ _ q=>q;rcases hc with z | z
  ·rw [z];exact nit b u e
  ·exact nit c _ z
theorem Inv.tok(I:Inv X pins σ H s)(t:Nat):Inv X pins σ H { s with toks:=t }:=I.un (h':=s.heap) (t':=t) Un.refl I.Ap
theorem Inv.kept{t':Nat}(I:Inv X pins σ H s)(k:∀b u,s.heap.get? b=some u→h'.get? b=some u):Inv X pins σ H { s with heap:=h',toks:=t' }:=I.un (Un.kept k) (I.Ap.kept k)
theorem Inv.laid{a:Addr}{o:HO}{t':Nat}(I:Inv X pins σ H s)(k:∀b u,s.heap.get? b=some u→h'.get? b=some u)(hp:s.heap.objs.size≤a)(new:Cd X.prog X.w (upd H a o) h' a o) :
  Inv X pins σ (upd H a o) { s with heap:=h',toks:=t' }:=I.un (Un.laid k hp (I.Ap.fresh hp)) (I.Ap.laid k hp new)
theorem Inv.write{x e:Addr}{o:HO}{t':Nat}(I:Inv X pins σ H s)(mu:cK (H x))(he:e=x∨H e=some (.own x))(k:∀b u,b≠e→s.heap.get? b=some u→h'.get? b=some u)(heo:∃u,h'.get? e=some u)
 (new:Cd X.prog X.w (upd H x o) h' x o):Inv X pins σ (upd H x o) { s with heap:=h',toks:=t' }:=I.un (Un.write mu he k heo) (I.Ap.write mu he k heo new)
theorem Inv.Uw{pins':List (Addr×Obj)}(I:Inv X pins σ H s)(h:∀p∈pins',s.heap.get? p.1=some p.2∧H p.1=none∧p.1≠X.env.locals∧p.1 ∉ X.fs∧∀v,p.2.data≠.cell v):Inv X pins' σ H s :=
 ⟨I.ok,I.os,I.bare,I.base,I.loc,I.cell,I.free,I.Hg,fun p hp=>(ba.mp hp).elim (fun z=>I.pin p (bQ _ z)) (h p),I.Ap,I.len⟩
theorem T2{N:List Str}(hN:N.Nodup){i j:Nat}{x:Str}(a:N[i]? = some x)(b:N[j]? = some x):i=j:=by
 obtain⟨h1,e1⟩:=aE.mp a;obtain⟨h2,e2⟩:=aE.mp b;exact(List.getElem_inj hN).mp (e1.trans e2.symm)
theorem RJ{M:Model}{A:Around}{E:Value→Shared→Prop}{i:Nat}{x:Str}{v:V}{u:Value}{Q:Unit→Shared→Prop}(I:Inv X pins σ H s)(hN:X.N.Nodup)(hi:X.N[i]? = some x)(hx:Loc X.env.scope x)(r:RelV v u)
 (h:∀s',Inv X pins (σ.set i (some v)) H s'→(∃a,Heap.SameBut a s.heap s'.heap∧(a=X.env.locals∨X.env.cells.lookup x=some a))→Q () s')(hf:X.fn x=true∨X.env.scope.names.lookup x=some .local:=by first | exact .inl rfl | exact .inr rfl | assumption):wpAny M A (storeName X.env x u) Q E s:=by
 obtain⟨m,hn,hl⟩:=id I.loc;have hcls:(X.env.scope.kind==.class||(X.env.scope.kind==.module&&X.env.locals != X.env.globals))=false:=by rw [I.ok.kind];rfl
 have hiσ:i<σ.length:=by rw [I.len];exact(aE.mp hi).1
 have UK:=I.UK;have tracked:∀ {a:Addr} {h':Heap},(∃o,s.heap.get? a=some o∧H a=none)→Heap.SameBut a s.heap h'→EO X.prog X.w H h':=fun {a h'} ha hs b ob e=>by
  obtain⟨_,_,hfree⟩:=ha;refine(I.Ap b ob e).JH (fun c w' hc q=>(hs.2 c ?_).trans q) (fun _ q=>q) fun _ _ q=>q;rintro rfl;rcases hc with rfl | hc
  ·rw [hfree]at e;cases e
  ·rw [hfree]at hc;cases hc
 rcases hx with hk | hk
 ·refine wpAny_storeName_local hk hn (fun h' hn' hs=>?_) hcls;obtain⟨oL,_,_,hoL,_⟩:=id hn;refine h _ ⟨I.ok,I.os,I.bare,⟨fun b o e n hb hx=>?_,fun b o e n hb hx=>?_,I.base.free,fun b o e hx=>?_,I.base.C0,I.base.Gz,I.base.HW⟩,⟨_,hn',fun j y v' e1 e2 e3=>?_⟩,fun y c e=>?_,I.free,I.Hg,fun p hp=>?_,tracked ⟨oL,hoL,I.free⟩ hs,by simpa using I.len⟩ ⟨_,hs,.inl rfl⟩
  ·exact(hs.2 b (aG (aH (aF e) I.ok.above))).trans (I.base.keep b o e n hb hx)
  ·obtain⟨sl,e1⟩:=I.base.slot b o e n hb hx;exact⟨sl,(hs.2 b (aG (aH (aF e) I.ok.above))).trans e1⟩
  ·obtain⟨o',e1⟩:=I.base.there b o e hx;exact⟨o',(hs.2 b (aG (aH (aF e) I.ok.above))).trans e1⟩
  ·by_cases hj:j=i
   ·subst hj;rw [hi]at e1;cases e1;rw [List.getElem?_set_self hiσ]at e2;cases e2;exact⟨u,r,.inl ⟨hk,by simp⟩⟩
   ·rw [List.getElem?_set_ne (Ne.symm hj)]at e2;obtain⟨u',r',q⟩:=hl j y v' e1 e2 e3;refine⟨u',r',?_⟩;rcases q with ⟨k,e⟩ | ⟨k,c,e,z⟩
    ·refine .inl ⟨k,?_⟩;have:y≠x:=fun e=>hj (T2 hN e1 (e ▸ hi));simp [this,e]
    ·exact .inr ⟨k,c,e,z.sameBut hs (UK y c e)⟩
  ·obtain⟨w',z⟩:=I.cell y c e;exact⟨w',z.sameBut hs (UK y c e)⟩
  ·obtain⟨e,n,ne,nf,d⟩:=I.pin p hp;exact⟨(hs.2 p.1 ne).trans e,n,ne,nf,d⟩
 ·have hfn:X.fn x=true:=by
   rcases hf with z | z
   ·exact z
   ·rw [z]at hk;cases hk
  obtain⟨c,hc⟩:=I.ok.has x (.inl hk);obtain⟨w',z⟩:=I.cell x c hc;refine wpAny_storeName_cell I.ok.kind hk hc z (fun h' hc' hs=>?_);obtain⟨oc,hoc,hocd⟩:=id z;refine h { s with heap:=h' } ⟨I.ok,I.os,I.bare,⟨fun b o e n hb hx=>?_,fun b o e n hb hx=>?_,I.base.free,fun b o e hx=>?_,I.base.C0,I.base.Gz,I.base.HW⟩,⟨m,hn.sameBut hs (Ne.symm (UK x c hc)),fun j y v' e1 e2 e3=>?_⟩,fun y c' e=>?_,I.free,I.Hg,fun p hp=>?_,tracked ⟨oc,hoc,I.Hg x c hc⟩ hs,by simpa using I.len⟩ ⟨c,hs,.inr hc⟩
  ·exact(hs.2 b (aG (aH (aF e) (I.ok.Yc x c hfn hc)))).trans (I.base.keep b o e n hb hx)
  ·obtain⟨sl,e1⟩:=I.base.slot b o e n hb hx;exact⟨sl,(hs.2 b (aG (aH (aF e) (I.ok.Yc x c hfn hc)))).trans e1⟩
  ·obtain⟨o',e1⟩:=I.base.there b o e hx;exact⟨o',(hs.2 b (aG (aH (aF e) (I.ok.Yc x c hfn hc)))).trans e1⟩
  ·by_cases hj:j=i
   ·subst hj;rw [hi]at e1;cases e1;rw [List.getElem?_set_self hiσ]at e2;cases e2;exact⟨u,r,.inr ⟨.inl hk,c,hc,hc'⟩⟩
   ·rw [List.getElem?_set_ne (Ne.symm hj)]at e2;obtain⟨u',r',q⟩:=hl j y v' e1 e2 e3;refine⟨u',r',?_⟩;rcases q with q | ⟨k,c',e,z'⟩
    ·exact .inl q
    ·refine .inr ⟨k,c',e,z'.sameBut hs ?_⟩;rintro rfl;exact hj (T2 hN e1 (I.ok.inj _ _ _ e hc ▸ hi))
  ·by_cases hcc:c'=c
   ·subst hcc;exact⟨_,hc'⟩
   ·obtain⟨w2,z2⟩:=I.cell y c' e;exact⟨w2,z2.sameBut hs hcc⟩
  ·obtain⟨e,n,ne,nf,d⟩:=I.pin p hp;refine⟨(hs.2 p.1 ?_).trans e,n,ne,nf,d⟩;intro q;rw [q,hoc]at e;have q':oc=p.2:=aY e;exact d w' (by rw [←q'];exact hocd)
theorem LC{M:Model}{A:Around}{E:Value→Shared→Prop}{i:Nat}{x:Str}{v:V}{u:Value}{Q:Unit→Shared→Prop}(I:Inv X pins σ H s)(hN:X.N.Nodup)(hi:X.N[i]? = some x)(hx:Loc X.env.scope x)(r:RelV v u)
 (h:∀s',Inv X pins (σ.set i (some v)) H s'→Q () s')(hf:X.fn x=true∨X.env.scope.names.lookup x=some .local:=by first | exact .inl rfl | exact .inr rfl | assumption):wpAny M A (storeName X.env x u) Q E s :=
 RJ I hN hi hx r (fun s' I' _=>h s' I') hf
theorem Inv.j6{s':Shared}{ch:List Addr}(I:Inv X pins σ H s)(ho:s'.os=s.os)(u:Un (Ft X.stack) ch H H' s.heap s'.heap)(Ap:EO X.prog X.w H' s'.heap)(hg:AllBare s'.gens)
 (hch:∀b∈ch,(b∈X.ex∨X.s₀.heap.objs.size≤b)∧b≠X.env.locals∧(∀x c,X.env.cells.lookup x=some c→c≠b)∧∀p∈X.pn++pins,p.1≠b):Inv X pins σ H' s':=by
 obtain⟨h',g',d',t',o'⟩:=s';have e:o'=s.os:=ho;subst e;exact I.call (g':=g') (t':=t') (d':=d') u Ap hg hch
end
abbrev XK:=Value→Option Addr→Hp→Prop
abbrev St:=List (Option V)
abbrev VK:=V→Hp→Prop
abbrev TE:=St→Hp→VK→Prop
abbrev TT:=St→Hp→(Bool→Hp→Prop)→Prop
abbrev TA:=St→Hp→(List V→Hp→Prop)→Prop
structure Ends where
 nx:St→Hp→Prop
 rt:VK
 bk:St→Hp→Prop:=fun _ _=>False
 ct:St→Hp→Prop:=fun _ _=>False
abbrev TS:=Ends→St→Hp→Prop
def EP(X:Cx)(pins:List (Addr×Obj))(σ:St)(Q:VK)(u:Value)(s':Shared):Prop:=∃v H',Inv X pins σ H' s'∧RelV v u∧Q v H'
def TP(X:Cx)(pins:List (Addr×Obj))(σ:St)(Q:Bool→Hp→Prop)(b:Bool)(s':Shared):Prop:=∃H',Inv X pins σ H' s'∧Q b H'
def AP(X:Cx)(pins:List (Addr×Obj))(σ:St)(Q:List V→Hp→Prop)(us:List Value)(s':Shared):Prop:=∃vs H',Inv X pins σ H' s'∧Vals vs us∧Q vs H'
def SP(X:Cx)(pins:List (Addr×Obj))(D:Ends)(f:Flow)(s':Shared):Prop :=
 match f with
 |.next=>∃σ' H',Inv X pins σ' H' s'∧D.nx σ' H'
 |.brk=>∃σ' H',Inv X pins σ' H' s'∧D.bk σ' H'
 |.cont=>∃σ' H',Inv X pins σ' H' s'∧D.ct σ' H'
 |.ret u=>∃v σ' H',Inv X pins σ' H' s'∧RelV v u∧D.rt v H'
def PE(X:Cx)(e:Expr)(t:TE):Prop :=
 ∀(pins:List (Addr×Obj)) (s:Shared) (σ:St) (H:Hp) (Q:VK),Inv X pins σ H s→t σ H Q→wpAny (model X.prog X.w) X.A (eval e X.env) (EP X pins σ Q) X.xe s
def PT(X:Cx)(e:Expr)(t:TT):Prop :=
 ∀(pins:List (Addr×Obj)) (s:Shared) (σ:St) (H:Hp) (Q:Bool→Hp→Prop),Inv X pins σ H s→t σ H Q→wpAny (model X.prog X.w) X.A (isTrue e X.env (eval e X.env)) (TP X pins σ Q) X.xe s
def PW(X:Cx)(e:Expr)(t:TT):Prop :=
 ∀(whole:Sem Value) (pins:List (Addr×Obj)) (s:Shared) (σ:St) (H:Hp) (Q:Bool→Hp→Prop),Inv X pins σ H s→t σ H Q→wpAny (model X.prog X.w) X.A (isTrue e X.env whole) (TP X pins σ Q) X.xe s
theorem PW.pt{X:Cx}{e:Expr}{t:TT}(h:PW X e t):PT X e t:=h _
def PA(X:Cx)(es:List Expr)(t:TA):Prop :=
 ∀(pos:Pos) (pins:List (Addr×Obj)) (s:Shared) (σ:St) (H:Hp) (Q:List V→Hp→Prop),Inv X pins σ H s→t σ H Q→wpAny (model X.prog X.w) X.A (spliced (backTo pos (starEach es X.env))) (AP X pins σ Q) X.xe s
def PS(X:Cx)(st:Stmt)(t:TS):Prop :=
 ∀(pins:List (Addr×Obj)) (s:Shared) (σ:St) (H:Hp) (D:Ends),Inv X pins σ H s→t D σ H→wpAny (model X.prog X.w) X.A (exec st X.env) (SP X pins D) X.xe s
def HB(X:Cx)(st:List Stmt)(t:TS):Prop :=
 ∀(pins:List (Addr×Obj)) (s:Shared) (σ:St) (H:Hp) (D:Ends),Inv X pins σ H s→t D σ H→wpAny (model X.prog X.w) X.A (execs st X.env) (SP X pins D) X.xe s
theorem BB{α:Type}{t:Sem α}{Q Q':α→Shared→Prop}{M:Model}{A:Around}{E:Value→Shared→Prop}{s:Shared}(h:wpAny M A t Q E s)(hQ:∀a s,Q a s→Q' a s):wpAny M A t Q' E s:=ai h hQ fun _ _ x=>x
section
variable{X:Cx}
def J6(i:Nat):TE:=fun σ H Q=>∃v,σ[i]? = some (some v)∧Q v H
def tC(v:V):TE:=fun _ H Q=>Q v H
theorem fN{i:Nat}{x:Str}{pos:Pos}(hN:X.N[i]? = some x)(hv:jO X.env.scope x)(hd:(x==("__debug__" : Str))=false:=by decide)(hcd:(x==("__classdict__" : Str))=false:=by decide):PE X (.Name x pos) (J6 i):=by
 intro pins s σ H Q I h;obtain⟨v,e,h⟩:=h;obtain⟨m,hn,hl⟩:=I.loc;obtain⟨u,r,l⟩:=hl i x v hN e hv;have fin:EP X pins σ Q u s:=⟨v,H,I,r,h⟩;rcases l with ⟨hk,hm⟩ | ⟨hk,c,hc,hcell⟩
 ·exact wpAny_Name (wpAny_loadName_local I.ok.kind hk hn hm fin) hd
 ·rcases hk with hk | hk
  ·exact wpAny_Name (wpAny_loadName_cell I.ok.kind hk hc hcell fin) hd
  ·exact wpAny_Name (wpAny_loadName_free I.ok.kind hk hc hcell fin hcd) hd
theorem A5{i j pos}:PE X (.Constant (.int i) j pos) (tC (.int i)):=fun _ _ _ H _ I h=>wpAny_Constant_int ⟨.int i,H,I.tok _,⟨_,rfl⟩,h⟩
theorem Ii{b j pos}:PE X (.Constant (.bool b) j pos) (tC (.bl b)):=fun _ _ _ H _ I h=>Constant_bool ⟨.bl b,H,I,rfl,h⟩
theorem iW{j pos}:PE X (.Constant .none j pos) (tC .A7):=fun _ _ _ H _ I h=>Constant_none ⟨.A7,H,I,rfl,h⟩
theorem iC{x j pos}:PE X (.Constant (.str x) j pos) (tC (.str x)):=fun _ _ _ H _ I h=>Calls.Constant_str ⟨.str x,H,I.tok _,⟨_,rfl⟩,h⟩
def Gl(X:Cx)(x:Str):Prop:=X.env.kindOf x=some .globalImplicit
theorem QS{E:Value→Shared→Prop}{pins:List (Addr×Obj)}{s:Shared}{σ:St}{H:Hp}{x:Str}{u:Value}{pos:Pos}{Q:Value→Shared→Prop}(I:Inv X pins σ H s)(hg:Gl X x)(hm:X.mg x=some u)(h:Q u s)
 (hd:(x==("__debug__" : Str))=false:=by decide):wpAny (model X.prog X.w) X.A (eval (.Name x pos) X.env) Q E s :=
 Calls.Name_function_global I.ok.kind hg (Calls.loadGlobal_global (by rw [I.ok.glob];exact I.mod.glob.keeps I.bk) hm h) hd
theorem FL{E:Value→Shared→Prop}{pins:List (Addr×Obj)}{s:Shared}{σ:St}{H:Hp}{x:Str}{u:Value}{pos:Pos}{Q:Value→Shared→Prop}(I:Inv X pins σ H s)(hg:Gl X x)(hm:X.mg x=none)(hv:bootBuiltins x=some u)(h:Q u s)
 (hn:x ≠ "__name__" := by decide)(hd:(x==("__debug__" : Str))=false:=by decide):wpAny (model X.prog X.w) X.A (eval (.Name x pos) X.env) Q E s:=by
 obtain⟨mb,h1,h2⟩:=I.mod.blt;exact Calls.Name_function_global I.ok.kind hg (Calls.loadGlobal_builtin (by rw [I.ok.glob];exact I.mod.glob.keeps I.bk) hm (by rw [I.ok.blt];exact h1.keeps I.bk) ((h2 x hn).trans hv) h) hd
theorem Pt{x:Str}{v:V}{u:Value}{pos:Pos}(hg:Gl X x)(hm:X.mg x=some u)(r:RelV v u)(hd:(x==("__debug__" : Str))=false:=by decide):PE X (.Name x pos) (tC v) :=
 fun _ _ _ H _ I h=>QS I hg hm ⟨v,H,I,r,h⟩ hd
theorem Iu{x:Str}{v:V}{u:Value}{pos:Pos}(hg:Gl X x)(hm:X.mg x=none)(hv:bootBuiltins x=some u)(r:RelV v u)(hn:x ≠ "__name__" := by decide)(hd:(x==("__debug__" : Str))=false:=by decide):PE X (.Name x pos) (tC v) :=
 fun _ _ _ H _ I h=>FL I hg hm hv ⟨v,H,I,r,h⟩ hn hd
variable{a b:Expr}{ta tb:TE}{pos:Pos}
def tB(t:TE):TT:=fun σ H Q=>t σ H fun x H1=>∃c,x=.bl c∧Q c H1
theorem Gb{e : Expr}{t : TE}(h : PE X e t)(he : ∀ whole,isTrue e X.env whole = (do let v ← whole; standAt e.pos; holding [v] (truthy v)) := by intro _; rfl) : PT X e (tB t) := by
  intro pins s σ H Q I hw
  refine isTrue_plain (BB (h pins s σ H _ I hw) fun v s1 ⟨x,H1,I1,r1,q1⟩ => ?_) (he _)
  obtain ⟨d,rfl,q⟩:=q1
  cases r1
  exact wpAny_truthy_bool ⟨H1,I1,q⟩
variable{tA tB':TT}{rest:List Expr}
def mI(t u:TT):TT:=fun σ H Q=>t σ H fun c H1=>if c=true then u σ H1 Q else Q false H1
def nQ(t u:TT):TT:=fun σ H Q=>t σ H fun c H1=>if c=true then Q true H1 else u σ H1 Q
def l9(t:TT):TT:=fun σ H Q=>t σ H fun c H1=>Q (!c) H1
theorem Qe(ha:PT X a tA):PW X (.BoolOp .And [a] pos) tA:=by
 intro wh pins s σ H Q I h;refine isTrue_and (BB (ha pins s σ H Q I h) fun c s1 e=>?_);cases c with
 |true=>exact isTrue_and_nil e
 |false=>exact e
theorem PM(ha:PT X a tA):PW X (.BoolOp .Or [a] pos) tA:=by
 intro wh pins s σ H Q I h;refine isTrue_or (BB (ha pins s σ H Q I h) fun c s1 e=>?_);cases c with
 |false=>exact isTrue_or_nil e
 |true=>exact e
theorem XJ(ha:PT X a tA)(hb:PW X (.BoolOp .And (b::rest) pos) tB'):PW X (.BoolOp .And (a::b::rest) pos) (mI tA tB'):=by
 intro wh pins s σ H Q I h;refine isTrue_and (BB (ha pins s σ H _ I h) fun c s1 ⟨H1,I1,q1⟩=>?_);cases c with
 |true=>exact hb wh pins s1 σ H1 Q I1 q1
 |false=>exact⟨H1,I1,q1⟩
theorem Ro(ha:PT X a tA)(hb:PW X (.BoolOp .Or (b::rest) pos) tB'):PW X (.BoolOp .Or (a::b::rest) pos) (nQ tA tB'):=by
 intro wh pins s σ H Q I h;refine isTrue_or (BB (ha pins s σ H _ I h) fun c s1 ⟨H1,I1,q1⟩=>?_);cases c with
 |true=>exact⟨H1,I1,q1⟩
 |false=>exact hb wh pins s1 σ H1 Q I1 q1
theorem Gu(ha:PT X a tA):PT X (.UnaryOp .Not a pos) (l9 tA):=by
 intro pins s σ H Q I h;exact isTrue_not (ha pins s σ H (fun c H1=>Q (!c) H1) I h)
def jc(ta tb:TE):TE:=fun σ H Q=>ta σ H fun x H1=>∃c,x=.bl c∧if c=true then tb σ H1 Q else Q (.bl false) H1
def jo(ta:TE):TE:=fun σ H Q=>ta σ H fun x H1=>∃c,x=.bl c∧Q (.bl (!c)) H1
theorem Xx{op}{t:TE}(h:PE X a t):PE X (.BoolOp op [a] pos) t:=fun pins s σ H Q I hw=>BoolOp_one (h pins s σ H Q I hw)
theorem XD(ha:PE X a ta)(hb:PE X (.BoolOp .And (b::rest) pos) tb):PE X (.BoolOp .And (a::b::rest) pos) (jc ta tb):=by
 intro pins s σ H Q I h;refine BoolOp_and (BB (ha pins s σ H _ I h) fun v s1 ⟨x,H1,I1,r1,q1⟩=>?_);obtain⟨c,rfl,q1⟩:=q1;cases r1;refine wpAny_truthy_bool ?_;cases c with
 |true=>exact hb pins s1 σ H1 Q I1 q1
 |false=>exact⟨.bl false,H1,I1,rfl,q1⟩
theorem gL(ha:PE X a ta):PE X (.UnaryOp .Not a pos) (jo ta):=by
 intro pins s σ H Q I h;refine UnaryOp_ (BB (ha pins s σ H _ I h) fun v s1 ⟨x,H1,I1,r1,q1⟩=>?_);obtain⟨c,rfl,q1⟩:=q1;cases r1;exact not_of (wpAny_truthy_bool ⟨.bl (!c),H1,I1,rfl,q1⟩)
end
def A4(K:Fg)(H:Hp)(a:Addr)(xs:List V):Prop :=
 Rd H a (.lst xs) ∨
  ∃(o:Obj) (its:Array Value) (n:Nat),K.lookup a=some o∧o.cls=.type "list" ∧ o.dict=none∧o.data=.seq its n∧its.size≤sizeLine∧Vals xs its.toList
def A8(K:Fg)(H:Hp)(a:Addr)(xs:List V):Prop :=
 Rd H a (.tup xs) ∨
  ∃(o:Obj) (its:Array Value) (n:Nat),K.lookup a=some o∧o.cls=.type "tuple" ∧ o.data=.seq its n∧its.size≤sizeLine∧Vals xs its.toList
def TV:Value→Option V
 |.none=>some .A7
 |.bool b=>some (.bl b)
 |.int i _=>some (.int i)
 |.str x _=>some (.str x)
 |.bytes b _=>some (.Mc b)
 |.float b _=>some (.Vg b)
 |.ref a=>some (.ref a)
 |.type n=>some (.ty n)
 |_=>none
theorem RelV.abs{x:V}{u:Value}(r:RelV x u):TV u=some x:=by
 cases x with
 |A7=>cases r;rfl
 |bl _=>cases r;rfl
 |int _=>obtain⟨t,rfl⟩:=r;rfl
 |str _=>obtain⟨t,rfl⟩:=r;rfl
 |Mc _=>obtain⟨t,rfl⟩:=r;rfl
 |Vg _=>obtain⟨t,rfl⟩:=r;rfl
 |ref _=>cases r;rfl
 |ty _=>cases r;rfl
theorem RelV.inj{x y:V}{u:Value}(r:RelV x u)(q:RelV y u):x=y:=aY (r.abs.symm.trans q.abs)
theorem Vals.inj:∀ {xs ys:List V} {us:List Value},Vals xs us→Vals ys us→xs=ys
 |_,_,_,.nil,.nil=>rfl
 |_,_,_,.cons r t,.cons r' t'=>by rw [r.inj r',Vals.inj t t']
section
variable{X:Cx}{pins:List (Addr×Obj)}{σ:St}{H:Hp}{s:Shared}{a:Addr}{xs ys:List V}
theorem A4.of{K:Fg}(h:H a=some (.lst xs)):A4 K H a xs:=.inl (.inl h)
theorem A8.of{K:Fg}(h:H a=some (.tup xs)):A8 K H a xs:=.inl (.inl h)
theorem Inv.list(I:Inv X pins σ H s)(h:A4 X.K H a xs):∃its:List Value,Vals xs its∧PlainL s.heap a its.toArray∧xs.length≤sizeLine:=by
 rcases h with h | ⟨o,its,n,hk,hc,hd,hs,hz,r⟩
 ·obtain⟨z,its,n,r,e⟩:=h.ok I.Ap;exact⟨its,r,⟨_,n,e,rfl,rfl,rfl⟩,z⟩
 ·refine⟨its.toList,r,⟨o,n,I.Hu a o hk,hc,hd,by simpa using hs⟩,?_⟩;have e:=r.length;simp only [Array.length_toList]at e;omega
theorem Inv.tuple(I:Inv X pins σ H s)(h:A8 X.K H a xs):∃its:List Value,Vals xs its∧IsTup s.heap a its.toArray∧xs.length≤sizeLine:=by
 rcases h with h | ⟨o,its,n,hk,hc,hs,hz,r⟩
 ·obtain⟨z,its,r,p⟩:=h.ok I.Ap;exact⟨its,r,p,z⟩
 ·refine⟨its.toList,r,⟨o,I.Hu a o hk,hc,n,by simpa using hs⟩,?_⟩;have e:=r.length;simp only [Array.length_toList]at e;omega
theorem Inv.Tj(I:Inv X pins σ H s)(h:A4 X.K H a xs)(h':A4 X.K H a ys):xs=ys:=by
 obtain⟨its,r,⟨o,n,e,_,_,d⟩,_⟩:=I.list h;obtain⟨its',r',⟨o',n',e',_,_,d'⟩,_⟩:=I.list h';rw [e]at e';cases e';rw [d]at d'
 injection d' with d1 _
 have:its=its':=by simpa using bC Array.toList d1
 subst this;exact r.inj r'
theorem Inv.RQ(I:Inv X pins σ H s)(h:A8 X.K H a xs)(h':A8 X.K H a ys):xs=ys:=by
 obtain⟨its,r,⟨o,e,_,n,d⟩,_⟩:=I.tuple h;obtain⟨its',r',⟨o',e',_,n',d'⟩,_⟩:=I.tuple h';rw [e]at e';cases e';rw [d]at d'
 injection d' with d1 _
 have:its=its':=by simpa using bC Array.toList d1
 subst this;exact r.inj r'
end
abbrev Cx.GV(X:Cx)(E:Value→Shared→Prop):Cx:={ X with xe:=E }
abbrev Cx.Jh(X:Cx):Cx:=X.GV fun _ _=>False
theorem Cx.Ok.GV{X:Cx}(ok:X.Ok)(E:Value→Shared→Prop):(X.GV E).Ok :=
 ⟨ok.mod,ok.kind,ok.glob,ok.blt,ok.above,ok.inj,ok.has,ok.Yc,ok.hd,ok.frames,ok.cY,ok.lE,ok.bs,ok.RB,ok.SS,ok.UD,ok.HH,ok.RO⟩
theorem Cx.Ok.Es{X:Cx}{E:Value→Shared→Prop}(ok:(X.GV E).Ok):X.Ok :=
 ⟨ok.mod,ok.kind,ok.glob,ok.blt,ok.above,ok.inj,ok.has,ok.Yc,ok.hd,ok.frames,ok.cY,ok.lE,ok.bs,ok.RB,ok.SS,ok.UD,ok.HH,ok.RO⟩
section
variable{X:Cx}{pins:List (Addr×Obj)}{σ:St}{H:Hp}{s:Shared}{E:Value→Shared→Prop}
theorem Inv.GV(I:Inv X pins σ H s)(E:Value→Shared→Prop):Inv (X.GV E) pins σ H s:=⟨I.ok.GV E,I.os,I.bare,I.base,I.loc,I.cell,I.free,I.Hg,I.pin,I.Ap,I.len⟩
theorem Inv.Es(I:Inv (X.GV E) pins σ H s):Inv X pins σ H s:=⟨I.ok.Es,I.os,I.bare,I.base,I.loc,I.cell,I.free,I.Hg,I.pin,I.Ap,I.len⟩
theorem SP.Es{D:Ends}{f:Flow}{s':Shared}(h:SP (X.GV E) pins D f s'):SP X pins D f s':=by
 cases f with
 |next=>obtain⟨σ',H',I,q⟩:=h;exact⟨σ',H',I.Es,q⟩
 |brk=>obtain⟨σ',H',I,q⟩:=h;exact⟨σ',H',I.Es,q⟩
 |cont=>obtain⟨σ',H',I,q⟩:=h;exact⟨σ',H',I.Es,q⟩
 |ret u=>obtain⟨v,σ',H',I,r,q⟩:=h;exact⟨v,σ',H',I.Es,r,q⟩
theorem HB.Jh{st:List Stmt}{t:TS}(h:HB X.Jh st t):HB X st t:=fun pins s σ H D I hw =>
 ai (h pins s σ H D (I.GV _) hw) (fun _ _ q=>q.Es) fun _ _ z=>False.elim z
end
section
variable{X:Cx}{st:Stmt}{rest:List Stmt}{t u:TS}{e:Expr}{te:TE}{pos:Pos}
def jr:TS:=fun D σ H=>D.nx σ H
def jS(t u:TS):TS:=fun D σ H=>t { D with nx:=u D } σ H
theorem Cp:HB X [] jr:=fun _ _ σ H _ I h=>wpAny_execs_nil ⟨σ,H,I,h⟩
theorem Aw(h1:PS X st t)(h2:HB X rest u):HB X (st::rest) (jS t u):=by
 intro pins s σ H D I h;refine wpAny_execs_cons (BB (h1 pins s σ H { D with nx:=u D } I h) fun f s1 q=>?_);cases f with
 |next =>
  obtain⟨σ',H',I',q⟩:=q;exact h2 pins s1 σ' H' D I' q
 |ret v=>exact q
 |brk=>exact q
 |cont=>exact q
theorem Az(h1:PS X st t):HB X [st] t:=by
 intro pins s σ H D I h;refine wpAny_execs_cons (BB (h1 pins s σ H D I h) fun f s1 q=>?_);cases f with
 |next=>exact wpAny_execs_nil q
 |ret v=>exact q
 |brk=>exact q
 |cont=>exact q
def kE:TS:=fun D σ H=>D.ct σ H
theorem Uk:PS X (.Continue pos) kE:=fun _ _ σ H _ I h=>wpAny_Continue ⟨σ,H,I,h⟩
theorem Inv.quiet{pins:List (Addr×Obj)}{σ:St}{H:Hp}{s:Shared}(I:Inv X pins σ H s):interactive X.env=false:=by simp [interactive,I.ok.kind]
def R9(te:TE):TS:=fun D σ H=>te σ H fun _ H1=>D.nx σ H1
theorem E5(he:PE X e te)(hs:swapsWith e none pos.line X.env=pure false:=by rfl):PS X (.Expr e pos) (R9 te):=by
 intro pins s σ H D I h;exact wpAny_Expr_any (BB (he pins s σ H _ I h) fun v s1 ⟨x,H1,I1,r1,q1⟩=>⟨σ,H1,I1,q1⟩) I.quiet hs
def md(te:TE):TS:=fun D σ H=>te σ H D.rt
theorem B9(he:PE X e te):PS X (.Return (some e) pos) (md te):=by
 intro pins s σ H D I h;exact wpAny_Return_some (BB (he pins s σ H _ I h) fun v s1 ⟨x,H1,I1,r1,q1⟩=>⟨x,σ,H1,I1,r1,q1⟩)
def mX(c:TT)(t u:TS):TS:=fun D σ H=>c σ H fun b H1=>if b=true then t D σ H1 else u D σ H1
theorem Em{c:Expr}{a b:List Stmt}{tc:TT}(hc:PT X c tc)(ha:HB X a t)(hb:HB X b u):PS X (.If c a b pos) (mX tc t u):=by
 intro pins s σ H D I h;refine wpAny_If (BB (hc pins s σ H _ I h) fun d s1 ⟨H1,I1,q1⟩=>?_);cases d with
 |true=>exact ha pins s1 σ H1 D I1 q1
 |false=>exact hb pins s1 σ H1 D I1 q1
def hV:TS:=fun _ _ _=>False
theorem UN:PS X st hV:=fun _ _ _ _ _ _ h=>h.elim
end
abbrev TG:=V→St→Hp→(St→Hp→Prop)→Prop
abbrev TR:=List V→St→Hp→(St→Hp→Prop)→Prop
def PG(X:Cx)(target:Expr)(t:TG):Prop :=
 ∀(pins:List (Addr×Obj)) (s:Shared) (σ:St) (H:Hp) (v:V) (u:Value) (Q:St→Hp→Prop),Inv X pins σ H s→RelV v u→t v σ H Q →
  wpAny (model X.prog X.w) X.A (assign target X.env u) (fun _ s'=>∃σ' H',Inv X pins σ' H' s'∧Q σ' H') X.xe s
def cX(X:Cx)(ts:List Expr)(t:TR):Prop :=
 ∀(pins:List (Addr×Obj)) (s:Shared) (σ:St) (H:Hp) (vs:List V) (us:List Value) (Q:St→Hp→Prop),Inv X pins σ H s→Vals vs us→t vs σ H Q →
  wpAny (model X.prog X.w) X.A (assignInOrder ((assignEach ts X.env).map (·.2)) us) (fun _ s'=>∃σ' H',Inv X pins σ' H' s'∧Q σ' H') X.xe s
abbrev WX:=V→V→V→Hp→(Hp→Prop)→Prop
def ZP(X:Cx)(t:WX):Prop :=
 ∀(pins:List (Addr×Obj)) (s:Shared) (σ:St) (H:Hp) (o i v:V) (ov iv u:Value) (Q:Hp→Prop),Inv X pins σ H s→RelV o ov→RelV i iv→RelV v u→t o i v H Q →
  wpAny (model X.prog X.w) X.A (setItem ov iv u) (fun _ s'=>∃H',Inv X pins σ H' s'∧Q H') X.xe s
section
variable{X:Cx}{pos:Pos}
def Fj(i:Nat):TG:=fun v σ H Q=>Q (σ.set i (some v)) H
theorem A1{i:Nat}{x:Str}(hN:X.N.Nodup)(hi:X.N[i]? = some x)(hx:Loc X.env.scope x)(hf:X.fn x=true∨X.env.scope.names.lookup x=some .local:=by first | exact .inl rfl | exact .inr rfl | assumption):PG X (.Name x pos) (Fj i):=by
 intro pins s σ H v u Q I r h;exact wpAny_assign_Name (LC I hN hi hx r (fun s' I'=>⟨_,H,I',h⟩) hf)
def Yw:TR:=fun vs σ H Q=>vs=[]∧Q σ H
def Pk(t:TG)(u:TR):TR:=fun vs σ H Q=>∃v r,vs=v::r∧t v σ H fun σ' H'=>u r σ' H' Q
theorem Ir:cX X [] Yw:=by
 intro pins s σ H vs us Q I r h;obtain⟨e,h⟩:=h;subst e;cases r;exact assignInOrder_nil ⟨σ,H,I,h⟩
theorem DL{e:Expr}{es:List Expr}{t:TG}{u:TR}(h1:PG X e t)(h2:cX X es u)
 (hs:(assignEach (e::es) X.env).map (·.2)=assign e X.env::(assignEach es X.env).map (·.2):=by rfl):cX X (e::es) (Pk t u):=by
 intro pins s σ H vs us Q I r h;obtain⟨v,vr,e1,h⟩:=h;subst e1;cases r with
 |cons r rr =>
  rw [hs];refine assignInOrder_cons (BB (h1 pins s σ H _ _ _ I r h) fun _ s1 ⟨σ1,H1,I1,q1⟩=>?_);exact h2 pins s1 σ1 H1 _ _ Q I1 rr q1
def Zr(K:Fg)(n:Nat)(t:TR):TG:=fun v σ H Q=>∃a xs,v=.ref a∧A8 K H a xs∧xs.length=n∧t xs σ H Q
theorem Kb{es:List Expr}{k:Nat}{t:TR}{n:Nat}(hc:X.calm=true)(h:cX X es t)
 (hn:(assignEach es X.env).length=n:=by rfl)(hst:(assignEach es X.env).findIdx? (·.1)=none:=by rfl):PG X (.Tuple es k pos) (Zr X.K n t):=by
 intro pins s σ H v u Q I r hw;obtain⟨a,xs,e1,hq,hl,hw⟩:=hw;subst e1;cases r;obtain⟨its,rv,ht,hz⟩:=I.tuple hq;refine assign_Tuple_tuple (I.ok.hd hc) ht (by simp [hn,←hl,rv.length]) hst fun h' hx=>?_;have I1:Inv X pins σ H { s with heap:=h' }:=I.kept (t':=s.toks) fun b o e=>hx b o (aG (aF e)) e;exact h pins _ σ H xs _ Q I1 (by simpa using rv) hw
def a9(to ti:TE)(t:WX):TG:=fun v σ H Q=>to σ H fun o H1=>ti σ H1 fun i H2=>t o i v H2 fun H3=>Q σ H3
theorem SG{o i:Expr}{to ti:TE}{t:WX}(ho:PE X o to)(hi:PE X i ti)(hs:ZP X t)
 (ha:∀v,assign (.Subscript o i pos) X.env v=(do
      let ov ←holding [v] (eval o X.env)
      let iv ←holding [v,ov] (eval i X.env)
      standAt pos
      holding [v,ov,iv] (setItem ov iv v)
      release [v,ov,iv] []):=by intro _;rfl):PG X (.Subscript o i pos) (a9 to ti t):=by
  intro pins s σ H v u Q I r h
  rw [ha]
  refine Wb (aQ (BB (ho pins s σ H _ I h) fun ov s1 ⟨x,H1,I1,r1,q1⟩=>?_))
  refine Wb (aQ (BB (hi pins s1 σ H1 _ I1 q1) fun iv s2 ⟨y,H2,I2,r2,q2⟩=>?_))
  refine Wb (wpAny_standAt (Wb (aQ (BB (hs pins s2 σ H2 x y v ov iv u _ I2 r1 r2 r q2) fun _ s3 ⟨H3,I3,q3⟩=>?_))))
  exact wpAny_release ⟨σ,H3,I3,q3⟩
def Qc(te:TE)(g:TG):TS:=fun D σ H=>te σ H fun x H1=>g x σ H1 D.nx
theorem SV{tg e:Expr}{te:TE}{g:TG}(he:PE X e te)(hg:PG X tg g)(hs:swapsWithSole [tg] e pos.line X.env=pure false:=by rfl)(hw:swappedStores [tg] e X.env=pure none:=by rfl)
 (h1:(assignEach [tg] X.env).map (·.2)=[assign tg X.env]:=by rfl):PS X (.Assign [tg] e pos) (Qc te g):=by
 intro pins s σ H D I h;refine wpAny_Assign_stores (BB (he pins s σ H _ I h) fun v s1 ⟨x,H1,I1,r1,q1⟩=>?_) hs hw;rw [h1];exact BB (hg pins s1 σ H1 x v _ I1 r1 q1) fun _ s2 q=>q
theorem B1{i:Nat}{x:Str}{e:Expr}{te:TE}{pos':Pos}(hN:X.N.Nodup)(hi:X.N[i]? = some x)(hx:Loc X.env.scope x)(he:PE X e te)(hs:swapsWith e (some (.Name x pos')) pos.line X.env=pure false:=by rfl)(hf:X.fn x=true∨X.env.scope.names.lookup x=some .local:=by first | exact .inl rfl | exact .inr rfl | assumption) :
  PS X (.Assign [.Name x pos'] e pos) (Qc te (Fj i)):=by
 intro pins s σ H D I h;refine wpAny_Assign_Name (BB (he pins s σ H _ I h) fun v s1 ⟨y,H1,I1,r1,q1⟩=>?_) hs;exact LC I1 hN hi hx r1 (fun s2 I2=>⟨_,H1,I2,q1⟩) hf
def mJ(i j:Nat)(ta:TA):TS:=fun D σ H=>ta σ H fun vs H1=>∃v w,vs=[v,w]∧D.nx ((σ.set i (some v)).set j (some w)) H1
theorem i7{i j:Nat}{x y:Str}{a b:Expr}{ta:TA}{px py pt:Pos}{kt k2 pt2}(hc:X.calm=true)(hN:X.N.Nodup)(hi:X.N[i]? = some x)(hj:X.N[j]? = some y)(hij:i≠j)
 (hx:X.env.scope.names.lookup x=some .local)(hy:X.env.scope.names.lookup y=some .local)(ha:PA X [a,b] ta)
 (hw:swappedStores [.Tuple [.Name x px,.Name y py] kt pt] (.Tuple [a,b] k2 pt2) X.env=pure (some [x,y]))
 (hs:swapsWithSole [.Tuple [.Name x px,.Name y py] kt pt] (.Tuple [a,b] k2 pt2) pos.line X.env=pure false:=by rfl) :
  PS X (.Assign [.Tuple [.Name x px,.Name y py] kt pt] (.Tuple [a,b] k2 pt2) pos) (mJ i j ta):=by
 intro pins s σ H D I h;rw [exec_Assign_arm];refine Wb (wpAny_standAt ?_);rw [hs];refine Wb (aA ?_);rw [if_neg (by decide)];refine Wb (Tuple_ (BB (ha _ pins s σ H _ I h) fun us s1 ⟨vs,H1,I1,r1,q1⟩=>?_));obtain⟨v,w,e1,q1⟩:=q1;subst e1;obtain⟨u1,u2,rfl,rv,rw'⟩:∃u1 u2,us=[u1,u2]∧RelV v u1∧RelV w u2:=by
  cases r1 with
  |cons p q =>
   cases q with
   |cons p' q' =>
    cases q';exact⟨_,_,rfl,p,p'⟩
 refine ay ?_ (by show 2≤sizeLine;decide);have I2:Inv X pins σ H1 { s1 with heap:=s1.heap.push { cls:=.type "tuple",data:=.seq [u1,u2].toArray } }:=I1.kept (t':=s1.toks) fun b o e=>aD _ e;rw [hw];refine Wb (aA ?_);show wpAny (model X.prog X.w) X.A (do rule "assign.swapped-stores"; let items ←unpackItems (.ref s1.heap.objs.size) 2 none;assignInOrder [fun v=>bindName X.env y v,fun v=>bindName X.env x v] items.reverse;pure Flow.next) _ _ _;refine Wb (bJ (Wb (unpackItems_tuple (items:=#[u1,u2]) (I.ok.hd hc) (IsTup.new s1.heap _) fun h' hx'=>?_)));have I3:=I2.kept (h':=h') (t':=s1.toks) fun b o e=>hx' b o (aG (aF e)) e;show wpAny _ _ (assignInOrder [fun v=>bindName X.env y v,fun v=>bindName X.env x v] [u2,u1]>>=fun _=>pure Flow.next) _ _ _;refine Wb (assignInOrder_cons (wpAny_bindName (LC I3 hN hj (.inl hy) rw' (fun s2 I4=>?_) (.inr hy))));refine assignInOrder_cons (wpAny_bindName (LC I4 hN hi (.inl hx) rv (fun s3 I5=>assignInOrder_nil (aA ?_)) (.inr hx)));rw [List.set_comm _ _ (Ne.symm hij)]at I5;exact⟨_,H1,I5,q1⟩
end
section
variable{X:Cx}{pos:Pos}
def XZ(c:TT)(tb:TS):TS:=fun D σ H=>∃W:Nat→St→Hp→Prop,(∃m,W m σ H)∧∀m σ H,W m σ H →
 c σ H fun b H1=>if b=true then ∃N:St→Hp→Prop,(∀σ' H',N σ' H'→∃m',m'<m∧W m' σ' H')∧tb { D with nx:=N,ct:=N,bk:=D.nx } σ H1 else D.nx σ H1
theorem OZ{c:Expr}{body:List Stmt}{tc:TT}{tb:TS}(hp:PassesOwn (model X.prog X.w) X.A X.env X.xe)(hc:PT X c tc)(hb:HB X body tb):PS X (.While c body [] pos) (XZ tc tb):=by
 intro pins s σ H D I h;obtain⟨W,⟨m0,w0⟩,turn⟩:=h;refine wpAny_While (codeAny_whileLoop (fun n s'=>∃σ' H',Inv X pins σ' H' s'∧W n σ' H') ?_ m0 ⟨σ,H,I,w0⟩);rintro n s1 ⟨σ1,H1,I1,w1⟩;refine wpAny_passesOwn hp (BB (hc pins s1 σ1 H1 _ I1 (turn n σ1 H1 w1)) fun b s2 ⟨H2,I2,q2⟩=>?_);cases b with
 |true =>
  obtain⟨N,hN,q2⟩:=q2;rw [if_pos rfl];refine wpAny_passesOwn hp (BB (hb pins s2 σ1 H2 _ I2 q2) fun f s3 q3=>?_);cases f with
  |next =>
   obtain⟨σ3,H3,I3,n3⟩:=q3;obtain⟨m',hm,w3⟩:=hN σ3 H3 n3;exact⟨m',hm,σ3,H3,I3,w3⟩
  |cont =>
   obtain⟨σ3,H3,I3,n3⟩:=q3;obtain⟨m',hm,w3⟩:=hN σ3 H3 n3;exact⟨m',hm,σ3,H3,I3,w3⟩
  |brk=>exact q3
  |ret v=>exact q3
 |false =>
  rw [if_neg aK];exact wpAny_execs_nil ⟨σ1,H2,I2,q2⟩
end
structure It where
 go:Nat→Hp→Prop
 FI:Nat→Hp→V→Hp→Prop
 stop:Nat→Hp→Prop
def KH(X:Cx)(pins:List (Addr×Obj))(H:Hp)(b:Addr):Prop :=
 H b=none∧b≠X.env.locals∧b ∉ X.fs∧(b∈X.ex∨X.s₀.heap.objs.size≤b)∧(∀x c,X.env.cells.lookup x=some c→c≠b)∧∀p∈X.pn++pins,p.1≠b
theorem Inv.P5{X:Cx}{pins:List (Addr×Obj)}{σ:St}{H H':Hp}{s:Shared}{b:Addr}(I:Inv X pins σ H s)(hb:s.heap.objs.size≤b)(hn:H' b=none):KH X pins H' b:=by
 refine⟨hn,Nat.ne_of_gt (aH I.lt hb),I.lR hb,.inr (aa I.sz hb),fun x c e z=>?_,fun p hp z=>?_⟩
 ·obtain⟨v,q⟩:=I.cell x c e;exact absurd (aH q.lt (by rw [z];exact hb)) (Nat.lt_irrefl _)
 ·exact absurd (aH (aF (I.pin p hp).1) (by rw [z];exact hb)) (Nat.lt_irrefl _)
structure Turn(P:Program)(w:World)(K:Fg)(tg:Expr)(J:It)(fp:List Addr)(it:Addr)(tn:Nat→Heap→Prop):Prop where
 mem:it∈fp
 obj:∀i h,tn i h→∀b∈fp,∃o,h.get? b=some o∧∀v,o.data≠.cell v
 keep:∀i h h',tn i h→(∀b∈fp,∀o,h.get? b=some o→h'.get? b=some o)→tn i h'
 item:∀(X:Cx),X.prog=P→X.w=w→X.K=K→X.calm=true→∀(i:Nat) (pins:List (Addr×Obj)) (s:Shared) (σ:St) (H:Hp) (E:Value→Shared→Prop),Inv X pins σ H s→(∀b∈fp,KH X pins H b)→tn i s.heap→J.go i H →
  wpAny (model P w) X.A (pyNext (.ref it)) (fun r s1=>∃u,r=some u ∧
   wpAny (model P w) X.A (letOwnedTupleGo tg (.ref it) u) (fun _ s2=>∃x H',Inv X pins σ H' s2∧RelV x u∧J.FI i H x H'∧tn (i+1) s2.heap∧∀b∈fp,H' b=none) E s1) E s
 done:∀(X:Cx),X.prog=P→X.w=w→X.K=K→X.calm=true→∀(i:Nat) (pins:List (Addr×Obj)) (s:Shared) (σ:St) (H:Hp) (E:Value→Shared→Prop),Inv X pins σ H s→(∀b∈fp,KH X pins H b)→tn i s.heap→J.stop i H →
  wpAny (model P w) X.A (pyNext (.ref it)) (fun r s1=>r=none∧Inv X pins σ H s1) E s
 self:∀(A:Around) (i:Nat) (s:Shared) (Q:Value→Shared→Prop) (E:Value→Shared→Prop),tn i s.heap→Q (.ref it) s→wpAny (model P w) A (pyIter (.ref it)) Q E s
abbrev TI:=St→Hp→(It→Hp→Prop)→Prop
def lG(X:Cx)(pins:List (Addr×Obj))(σ:St)(tg:Expr)(R:It→Hp→Prop)(itv:Value)(s2:Shared):Prop :=
 ∃(it:Addr) (fp:List Addr) (tn:Nat→Heap→Prop) (J:It) (H':Hp),itv=.ref it∧Inv X pins σ H' s2∧Turn X.prog X.w X.K tg J fp it tn∧tn 0 s2.heap∧(∀b∈fp,KH X pins H' b)∧R J H'
def PI(X:Cx)(tg iter:Expr)(wi:TI):Prop :=
 ∀(pins:List (Addr×Obj)) (s:Shared) (σ:St) (H:Hp) (R:It→Hp→Prop),Inv X pins σ H s→wi σ H R →
  wpAny (model X.prog X.w) X.A (eval iter X.env) (fun v s1=>wpAny (model X.prog X.w) X.A (pyIter v) (lG X pins σ tg R) X.xe s1) X.xe s
theorem XC{M:Model}{A:Around}{E:Value→Shared→Prop}{s:Shared}{tg:Expr}{it:Addr}{u:Value}{o:Obj}{n:String}{vs:Array Value}{Q:Unit→Shared→Prop}(ho:s.heap.get? it=some o)(hc:o.cls=.type n)(hd:o.data=.fields vs)
 (hn:["enumerate", "zip", "dict_itemiterator", "dict_reverseitemiterator", "odict_iterator", "itertools.zip_longest", "itertools.pairwise"].contains n=false)(hQ:Q () s):wpAny M A (letOwnedTupleGo tg (.ref it) u) Q E s:=by
 unfold letOwnedTupleGo;cases tg<;>first
  |exact aA hQ
  |(cases u<;>first
    |exact aA hQ
    |(refine Wb (wpAny_load ho ?_)
      rw [hc,hd];show wpAny M A (if(["enumerate", "zip", "dict_itemiterator", "dict_reverseitemiterator", "odict_iterator", "itertools.zip_longest", "itertools.pairwise"].contains n&&vs[0]? == some (rawInt _))=true then _ else _) Q E s;rw [if_neg (by intro h;rw [hn,Bool.false_and]at h;cases h)];exact aA hQ))
def Vt(K:Fg)(a:Addr):It :=
 ⟨fun i H=>∃xs x,A4 K H a xs∧xs[i]? = some x,fun i H x H'=>H'=H∧∀xs,A4 K H a xs→xs[i]? = some x,fun i H=>∃xs,A4 K H a xs∧xs.length≤i⟩
def gW(K:Fg)(a:Addr):It :=
 ⟨fun i H=>∃xs x,A8 K H a xs∧xs[i]? = some x,fun i H x H'=>H'=H∧∀xs,A8 K H a xs→xs[i]? = some x,fun i H=>∃xs,A8 K H a xs∧xs.length≤i⟩
def X8(lo:Int)(n:Nat):It:=⟨fun i _=>i<n,fun i H x H'=>H'=H∧x=.int (lo+i),fun i _=>n≤i⟩
theorem YD{P:Program}{w:World}{K:Fg}{tg:Expr}(a it:Addr):Turn P w K tg (Vt K a) [it] it (fun i h=>h.IsListIter it a i) where
 mem:=by simp
 obj:=fun i h st b hb=>by
  have e:b=it:=by simpa using hb
  subst e;obtain⟨o,e,c,d⟩:=st;exact⟨o,e,fun v z=>by rw [d]at z;cases z⟩
 keep:=fun i h h' st k=>st.at fun o e=>k it (by simp) o e
 item:=by
  intro X hP hw hK hc i pins s σ H E I hf st hg;subst hP hw hK;obtain⟨xs,x,hq,hx⟩:=hg;obtain⟨its,rv,p,hz⟩:=I.list hq;obtain⟨u,hu,ru⟩:=rv.get hx;obtain⟨f0,f1,f2,f3,f4,f5⟩:=hf it (by simp);refine wpAny_pyNext_list_item st p.isList (x:=u) (by simpa using hu) fun h' st' sb=>?_;have I1:Inv X pins σ H { s with heap:=h' }:=I.turned (t':=s.toks) (fun b o hb e=>(sb.2 b hb).trans e) f0 f1 f3 f4 f5;obtain⟨o,e,c,d⟩:=id st';exact⟨u,rfl,XC (s:={ s with heap:=h' }) e c d (by decide) ⟨x,H,I1,ru,⟨rfl,fun ys hy=>by rw [I.Tj hy hq];exact hx⟩,st',fun b hb=>(hf b hb).1⟩⟩
 done:=by
  intro X hP hw hK hc i pins s σ H E I hf st hg;subst hP hw hK;obtain⟨xs,hq,hx⟩:=hg;obtain⟨its,rv,p,hz⟩:=I.list hq;obtain⟨f0,f1,f2,f3,f4,f5⟩:=hf it (by simp);have hl:=rv.length;exact wpAny_pyNext_list_end (I.ok.hd hc) st p.isList (by simp;omega) fun h' eb=>⟨rfl,I.turned (t':=s.toks) (fun b o hb e=>eb b o hb e) f0 f1 f3 f4 f5⟩
 self:=fun _ _ _ _ _ st h=>wpAny_pyIter_listiter st h
theorem WS{P:Program}{w:World}{K:Fg}{tg:Expr}(a it:Addr):Turn P w K tg (gW K a) [it] it (fun i h=>h.IsTupleIter it a i) where
 mem:=by simp
 obj:=fun i h st b hb=>by
  have e:b=it:=by simpa using hb
  subst e;obtain⟨o,e,c,d⟩:=st;exact⟨o,e,fun v z=>by rw [d]at z;cases z⟩
 keep:=fun i h h' st k=>st.at fun o e=>k it (by simp) o e
 item:=by
  intro X hP hw hK hc i pins s σ H E I hf st hg;subst hP hw hK;obtain⟨xs,x,hq,hx⟩:=hg;obtain⟨its,rv,p,hz⟩:=I.tuple hq;obtain⟨u,hu,ru⟩:=rv.get hx;obtain⟨f0,f1,f2,f3,f4,f5⟩:=hf it (by simp);refine wpAny_pyNext_tuple_item st (show s.heap.IsTuple a its.toArray from p) (x:=u) (by simpa using hu) fun h' st' sb=>?_;have I1:Inv X pins σ H { s with heap:=h' }:=I.turned (t':=s.toks) (fun b o hb e=>(sb.2 b hb).trans e) f0 f1 f3 f4 f5;obtain⟨o,e,c,d⟩:=id st';exact⟨u,rfl,XC (s:={ s with heap:=h' }) e c d (by decide) ⟨x,H,I1,ru,⟨rfl,fun ys hy=>by rw [I.RQ hy hq];exact hx⟩,st',fun b hb=>(hf b hb).1⟩⟩
 done:=by
  intro X hP hw hK hc i pins s σ H E I hf st hg;subst hP hw hK;obtain⟨xs,hq,hx⟩:=hg;obtain⟨its,rv,p,hz⟩:=I.tuple hq;obtain⟨f0,f1,f2,f3,f4,f5⟩:=hf it (by simp);have hl:=rv.length;exact wpAny_pyNext_tuple_end (I.ok.hd hc) st (show s.heap.IsTuple a its.toArray from p) (by simp;omega) fun h' eb=>⟨rfl,I.turned (t':=s.toks) (fun b o hb e=>eb b o hb e) f0 f1 f3 f4 f5⟩
 self:=fun _ _ _ _ _ st h=>wpAny_pyIter_tupleiter st h
theorem WC{P:Program}{w:World}{K:Fg}{tg:Expr}(it:Addr)(lo:Int)(n:Nat):Turn P w K tg (X8 lo n) [it] it (fun i h=>IsRangeIter h it (lo+(i:Nat)*1) ((n:Int)-(i:Nat)) 1) where
 mem:=by simp
 obj:=fun i h st b hb=>by
  have e:b=it:=by simpa using hb
  subst e;exact⟨_,st,fun v z=>by
   have z':Data.fields _=Data.cell v:=z;cases z'⟩
 keep:=fun i h h' st k=>k it (by simp) _ st
 item:=by
  intro X hP hw hK hc i pins s σ H E I hf st hg;subst hP hw hK;obtain⟨f0,f1,f2,f3,f4,f5⟩:=hf it (by simp);have W:=Walks.range (prog:=X.prog) (w:=X.w) (I.ok.hd hc) it lo 1 n;refine W.item i s _ _ hg st fun v h' tk hv st' kk=>?_;obtain⟨t,rfl⟩:=hv;have I1:Inv X pins σ H { s with heap:=h',toks:=tk }:=I.turned (fun b o hb e=>kk b o (by simpa using hb) e) f0 f1 f3 f4 f5;refine⟨_,rfl,XC (s:={ s with heap:=h',toks:=tk }) (n := "range_iterator") st' rfl rfl (by decide) ⟨.int (lo+i),H,I1,⟨t,?_⟩,⟨rfl,rfl⟩,st',fun b hb=>(hf b hb).1⟩⟩;rw [Int.mul_one]
 done:=by
  intro X hP hw hK hc i pins s σ H E I hf st hg;subst hP hw hK;obtain⟨f0,f1,f2,f3,f4,f5⟩:=hf it (by simp);exact wpAny_pyNext_range_end (I.ok.hd hc) st (by have:n≤i:=hg;omega) fun h' eb=>⟨rfl,I.turned (t':=s.toks) (fun b o hb e=>eb b o hb e) f0 f1 f3 f4 f5⟩
 self:=fun _ _ _ _ _ st h=>wpAny_pyIter_rangeiter st h
section
variable{X:Cx}{tg:Expr}
def kf(K:Fg)(tl:TE):TI:=fun σ H R=>tl σ H fun x H1=>∃a,x=.ref a∧(∃xs,A4 K H1 a xs)∧R (Vt K a) H1
def mS(K:Fg)(tl:TE):TI:=fun σ H R=>tl σ H fun x H1=>∃a,x=.ref a∧(∃xs,A8 K H1 a xs)∧R (gW K a) H1
theorem KY{l:Expr}{tl:TE}(hl:PE X l tl):PI X tg l (kf X.K tl):=by
 intro pins s σ H R I h;refine BB (hl pins s σ H _ I h) fun v s1 ⟨x,H1,I1,r1,q1⟩=>?_;obtain⟨a,e,⟨xs,hq⟩,q⟩:=q1;subst e;cases r1;obtain⟨its,rv,p,hz⟩:=I1.list hq;refine wpAny_pyIter_list p.isList ?_;refine⟨s1.heap.objs.size,[s1.heap.objs.size],_,_,H1,rfl,I1.kept (t':=s1.toks) fun b o e=>aD _ e,YD a _,⟨_,Heap.get?_push_size _ rfl,rfl,rfl⟩,fun b hb=>?_,q⟩;have e:b=s1.heap.objs.size:=by simpa using hb
 subst e;exact I1.P5 (aJ _) (I1.Ap.fresh (aJ _))
theorem iG{l:Expr}{tl:TE}(hl:PE X l tl):PI X tg l (mS X.K tl):=by
 intro pins s σ H R I h;refine BB (hl pins s σ H _ I h) fun v s1 ⟨x,H1,I1,r1,q1⟩=>?_;obtain⟨a,e,⟨xs,hq⟩,q⟩:=q1;subst e;cases r1;obtain⟨its,rv,p,hz⟩:=I1.tuple hq;refine wpAny_pyIter_tuple (show s1.heap.IsTuple a its.toArray from p) ?_;refine⟨s1.heap.objs.size,[s1.heap.objs.size],_,_,H1,rfl,I1.kept (t':=s1.toks) fun b o e=>aD _ e,WS a _,⟨_,Heap.get?_push_size _ rfl,rfl,rfl⟩,fun b hb=>?_,q⟩;have e:b=s1.heap.objs.size:=by simpa using hb
 subst e;exact I1.P5 (aJ _) (I1.Ap.fresh (aJ _))
theorem SW{pins:List (Addr×Obj)}{σ:St}{H:Hp}{s:Shared}{R:It→Hp→Prop}{E:Value→Shared→Prop}{lo hi:Int}{t u v:Tok}{tk:Nat}(I:Inv X pins σ H s)(h1:-(2 ^ 62)≤lo)(h2:lo<2 ^ 62)(h3:-(2 ^ 62)≤hi)(h4:hi<2 ^ 62)
 (q:R (X8 lo (hi-lo).toNat) H):wpAny (model X.prog X.w) X.A (pyIter (.ref s.heap.objs.size)) (lG X pins σ tg R) E { s with heap:=s.heap.push { cls:=.type "range",data:=.fields #[.int lo t,.int hi u,.int 1 v] },toks:=tk }:=by
 refine wpAny_pyIter_range (IsRange.new ..) (small_one h1 h2 h3 h4) ?_;have I1:Inv X pins σ H { s with heap:=s.heap.push { cls:=.type "range",data:=.fields #[.int lo t,.int hi u,.int 1 v] },toks:=tk }:=I.kept fun b o e=>aD _ e;refine⟨(s.heap.push { cls:=.type "range",data:=.fields #[.int lo t,.int hi u,.int 1 v] }).objs.size,[(s.heap.push { cls:=.type "range",data:=.fields #[.int lo t,.int hi u,.int 1 v] }).objs.size],_,_,H,rfl,
  I1.kept (t':=tk) fun b o e=>aD _ e,WC _ lo (hi-lo).toNat,?_,fun b hb=>?_,q⟩
 ·have e1:lo+((0:Nat):Int)*1=lo:=by simp
  have e2:(((hi-lo).toNat:Nat):Int)-((0:Nat):Int)=Builtin.Range.rangeSize lo hi 1:=by rw [rangeSize_one];split<;>omega
  show IsRangeIter _ _ (lo+((0:Nat):Int)*1) ((((hi-lo).toNat:Nat):Int)-((0:Nat):Int)) 1;rw [e1,e2];exact aO _ rfl
 ·have e:b=(s.heap.push { cls:=.type "range",data:=.fields #[.int lo t,.int hi u,.int 1 v] }).objs.size:=by simpa using hb
  subst e;exact I1.P5 (aJ _) (I1.Ap.fresh (aJ _))
def jk(ta:TA):TI:=fun σ H R=>ta σ H fun vs H1=>∃j:Int,vs=[.int j]∧-(2 ^ 62)≤j∧j<2 ^ 62∧R (X8 0 j.toNat) H1
def jx(ta:TA):TI:=fun σ H R=>ta σ H fun vs H1=>∃i j:Int,vs=[.int i,.int j]∧(-(2 ^ 62)≤i∧i<2 ^ 62∧-(2 ^ 62)≤j∧j<2 ^ 62)∧R (X8 i (j-i).toNat) H1
theorem Xp{a:Expr}{ta:TA}{p pos:Pos}(hg:Gl X "range")(hm:X.mg "range" = none)(ha:PA X [a] ta)(hs:starEach [a] X.env=[(false,eval a X.env)]:=by rfl):PI X tg (.Call (.Name "range" p) [a] [] pos) (jk ta):=by
 intro pins s σ H R I h;refine Call_ (FL I hg hm boot_range (au (BB (ha pos pins s σ H _ I h) fun us s1 ⟨vs,H1,I1,r1,q1⟩=>?_) hs rfl));obtain⟨j,e,q1,q2,q⟩:=q1;subst e;cases r1 with
 |cons r rr =>
  cases rr;obtain⟨t,rfl⟩:=r;exact call_range_1 (SW I1 (by omega) (by omega) q1 q2 (by simpa using q))
theorem YY{a b:Expr}{ta:TA}{p pos:Pos}(hg:Gl X "range")(hm:X.mg "range" = none)(ha:PA X [a,b] ta)(hs:starEach [a,b] X.env=[(false,eval a X.env),(false,eval b X.env)]:=by rfl)(hs2:starEach [b] X.env=[(false,eval b X.env)]:=by rfl) :
  PI X tg (.Call (.Name "range" p) [a,b] [] pos) (jx ta):=by
 intro pins s σ H R I h;refine Call_ (FL I hg hm boot_range (au (BB (ha pos pins s σ H _ I h) fun us s1 ⟨vs,H1,I1,r1,q1⟩=>?_) (by rw [hs,hs2]) (by rw [hs2];rfl)));obtain⟨i,j,e,⟨q1,q2,q3,q4⟩,q⟩:=q1;subst e;cases r1 with
 |cons r rr =>
  cases rr with
  |cons r' rr =>
   cases rr;obtain⟨t,rfl⟩:=r;obtain⟨t',rfl⟩:=r';exact call_range_2 (SW I1 q1 q2 q3 q4 q)
def lQ(wi:TI)(g:TG)(tb:TS):TS:=fun D σ H=>wi σ H fun J H1=>∃W:Nat→Nat→St→Hp→Prop,(∃m,W 0 m σ H1)∧∀i m σ H,W i m σ H →
 (J.stop i H∧D.nx σ H)∨(J.go i H∧∃N:St→Hp→Prop,(∀σ' H',N σ' H'→∃m',m'<m∧W (i+1) m' σ' H')∧∀x H',J.FI i H x H'→g x σ H' fun σ2 H2=>tb { D with nx:=N,ct:=N,bk:=D.nx } σ2 H2)
def MZ(fp:List Addr)(h:Heap):List (Addr×Obj):=fp.filterMap fun b=>(h.get? b).map fun o=>(b,o)
theorem IU{fp:List Addr}{h:Heap}{b:Addr}{o:Obj}(hb:b∈fp)(e:h.get? b=some o):(b,o)∈MZ fp h:=List.mem_filterMap.mpr ⟨b,hb,by rw [e];rfl⟩
theorem XX{fp:List Addr}{h:Heap}{p:Addr×Obj}(hp:p∈MZ fp h):p.1∈fp∧h.get? p.1=some p.2:=by
 obtain⟨b,hb,e⟩:=List.mem_filterMap.mp hp;cases q:h.get? b with
 |none=>rw [q]at e;cases e
 |some o =>
  rw [q]at e;have e':(b,o)=p:=aY e;subst e';exact⟨hb,q⟩
theorem Inv.pinned{pins:List (Addr×Obj)}{σ:St}{H:Hp}{s:Shared}{fp:List Addr}(I:Inv X pins σ H s)(hf:∀b∈fp,KH X pins H b)(ho:∀b∈fp,∃o,s.heap.get? b=some o∧∀v,o.data≠.cell v):Inv X (pins++MZ fp s.heap) σ H s :=
 I.Uw fun p hp=>(ba.mp hp).elim (fun z=>I.pin p (aZ _ z)) fun z=>by
  obtain⟨hb,e⟩:=XX z;obtain⟨f0,f1,f2,_⟩:=hf p.1 hb;obtain⟨o,e',d⟩:=ho p.1 hb;rw [e]at e';cases e';exact⟨e,f0,f1,f2,d⟩
theorem Inv.Ky{pins pl:List (Addr×Obj)}{σ:St}{H:Hp}{s:Shared}(I:Inv X (pins++pl) σ H s):Inv X pins σ H s:=I.Uw fun p hp=>I.pin p (aZ _ (bQ _ hp))
theorem Pj{iter:Expr}{body:List Stmt}{wi:TI}{g:TG}{tb:TS}{pos:Pos}(hp:PassesOwn (model X.prog X.w) X.A X.env X.xe)(hc:X.calm=true)(hi:PI X tg iter wi)(hg:PG X tg g)(hb:HB X body tb)
 (hs:∀x,foldedSetIterable iter X.env x=pure x:=by intro _;rfl):PS X (.For tg iter body [] pos) (lQ wi g tb):=by
 intro pins s σ H D I h;refine wpAny_For (BB (hi pins s σ H _ I h) fun v s1 h1=>BB h1 fun itv s2 h2=>?_) hs;obtain⟨it,fp,tn,J,H2,e,I2,T,st2,f2,W,⟨m0,w0⟩,turn⟩:=h2;subst e;have stat:∀ {H':Hp},(∀b∈fp,H' b=none)→∀b∈fp,KH X pins H' b:=fun hn b hb=>⟨hn b hb,(f2 b hb).2⟩;refine codeAny_forLoop_any (fun n s'=>∃i σ' H',Inv X pins σ' H' s'∧tn i s'.heap∧(∀b∈fp,H' b=none)∧W i n σ' H') ?_ m0 ⟨0,σ,H2,I2,st2,fun b hb=>(f2 b hb).1,w0⟩;rintro n s3 ⟨i,σ3,H3,I3,st3,fr3,w3⟩;rcases turn i n σ3 H3 w3 with ⟨stop,qn⟩ | ⟨go,N,hN,step⟩
 ·refine wpAny_passesOwn hp (BB (T.done X rfl rfl rfl hc i pins s3 σ3 H3 X.xe I3 (stat fr3) st3 stop) fun r s4 ⟨hr,I4⟩=>?_);subst hr;exact wpAny_execs_nil ⟨σ3,H3,I4,qn⟩
 ·refine wpAny_passesOwn hp (BB (T.item X rfl rfl rfl hc i pins s3 σ3 H3 X.xe I3 (stat fr3) st3 go) fun r s4 ⟨u,hr,h4⟩=>?_);subst hr;refine wpAny_passesOwn hp (BB h4 fun _ s5 ⟨x,H5,I5,r5,y5,st5,fr5⟩=>?_);have I5':=I5.pinned (stat fr5) (T.obj _ _ st5);refine wpAny_passesOwn hp (BB (hg _ s5 σ3 H5 x u _ I5' r5 (step x H5 y5)) fun _ s6 ⟨σ6,H6,I6,q6⟩=>?_);refine wpAny_passesOwn hp (BB (hb _ s6 σ6 H6 _ I6 q6) fun f s7 q7=>?_);have again:∀ {σ7:St} {H7:Hp},Inv X (pins++MZ fp s5.heap) σ7 H7 s7→N σ7 H7→∃m,m<n∧∃i σ' H',Inv X pins σ' H' s7∧tn i s7.heap∧(∀b∈fp,H' b=none)∧W i m σ' H':=fun {σ7 H7} I7 n7=>by
   obtain⟨m',hm,w7⟩:=hN σ7 H7 n7;refine⟨m',hm,i+1,σ7,H7,I7.Ky,T.keep _ _ _ st5 fun b hb o e=>(I7.pin (b,o) (aZ _ (aZ _ (IU hb e)))).1,fun b hb=>?_,w7⟩;obtain⟨o,e,d⟩:=T.obj _ _ st5 b hb;exact(I7.pin (b,o) (aZ _ (aZ _ (IU hb e)))).2.1
  cases f with
  |next=>obtain⟨σ7,H7,I7,n7⟩:=q7;exact again I7 n7
  |cont=>obtain⟨σ7,H7,I7,n7⟩:=q7;exact again I7 n7
  |brk=>obtain⟨σ7,H7,I7,q7⟩:=q7;exact⟨σ7,H7,I7.Ky,q7⟩
  |ret v=>obtain⟨x7,σ7,H7,I7,r7,q7⟩:=q7;exact⟨x7,σ7,H7,I7.Ky,r7,q7⟩
end
theorem T1{K:Fg}{a:Addr}{xs:List V}{g:TG}{tb:TS}{D:Ends}{σ:St}{H:Hp}(Pv:Nat→St→Hp→Prop)(h0:Pv 0 σ H)(hl:∀i σ H,i≤xs.length→Pv i σ H→A4 K H a xs)
 (hs:∀i x σ H,xs[i]? = some x→Pv i σ H→g x σ H fun σ2 H2=>tb { D with nx:=Pv (i+1),ct:=Pv (i+1),bk:=D.nx } σ2 H2)(hd:∀σ H,Pv xs.length σ H→D.nx σ H) :
  ∃W:Nat→Nat→St→Hp→Prop,(∃m,W 0 m σ H)∧∀i m σ H,W i m σ H →
   ((Vt K a).stop i H∧D.nx σ H)∨((Vt K a).go i H∧∃N:St→Hp→Prop,(∀σ' H',N σ' H'→∃m',m'<m∧W (i+1) m' σ' H')∧∀x H',(Vt K a).FI i H x H'→g x σ H' fun σ2 H2=>tb { D with nx:=N,ct:=N,bk:=D.nx } σ2 H2):=by
 refine⟨fun i m σ H=>m=xs.length-i∧i≤xs.length∧Pv i σ H,⟨xs.length,by simp,Nat.zero_le _,h0⟩,?_⟩;rintro i m σ H ⟨rfl,hi,p⟩;have q:=hl i σ H hi p;by_cases hlt:i<xs.length
 ·refine .inr ⟨⟨xs,xs[i],q,by simp [hlt]⟩,Pv (i+1),fun σ' H' p'=>⟨xs.length-(i+1),by omega,rfl,hlt,p'⟩,fun x H' y=>?_⟩;obtain⟨e,y⟩:=y;subst e;exact hs i x σ _ (y xs q) p
 ·have e:i=xs.length:=by omega
  subst e;exact .inl ⟨⟨xs,q,Nat.le_refl _⟩,hd σ H p⟩
theorem OY{c:TT}{tb:TS}{D:Ends}{σ:St}{H:Hp}(Pv:St→Hp→Prop)(μ:St→Hp→Nat)(h0:Pv σ H)
 (hs:∀σ H,Pv σ H→c σ H fun b H1=>if b=true then tb { D with nx:=fun σ' H'=>Pv σ' H'∧μ σ' H'<μ σ H,ct:=fun σ' H'=>Pv σ' H'∧μ σ' H'<μ σ H,bk:=D.nx } σ H1 else D.nx σ H1)
 (mono:∀σ H Q Q',(∀b H1,Q b H1→Q' b H1)→c σ H Q→c σ H Q'):XZ c tb D σ H:=by
 refine⟨fun m σ H=>m=μ σ H∧Pv σ H,⟨_,rfl,h0⟩,?_⟩;rintro m σ H ⟨rfl,p⟩;refine mono σ H _ _ (fun b H1 q=>?_) (hs σ H p);cases b with
 |true=>exact⟨_,fun σ' H' ⟨p',l⟩=>⟨_,l,rfl,p'⟩,q⟩
 |false=>exact q
abbrev R2:=V→V→Hp→VK→Prop
def CY(X:Cx)(f:Value→Value→Sem Value)(r:R2):Prop :=
 ∀(pins:List (Addr×Obj)) (s:Shared) (σ:St) (H:Hp) (x y:V) (v u:Value) (Q:VK),Inv X pins σ H s→RelV x v→RelV y u→r x y H Q →
  wpAny (model X.prog X.w) X.A (f v u) (EP X pins σ Q) X.xe s
def jZ(X:Cx)(f:Value→Sem Value)(r:V→Hp→VK→Prop):Prop :=
 ∀(pins:List (Addr×Obj)) (s:Shared) (σ:St) (H:Hp) (x:V) (v:Value) (Q:VK),Inv X pins σ H s→RelV x v→r x H Q →
  wpAny (model X.prog X.w) X.A (f v) (EP X pins σ Q) X.xe s
def D3(X:Cx)(f:Value)(r:List V→Hp→VK→Prop):Prop :=
 ∀(pins:List (Addr×Obj)) (s:Shared) (σ:St) (H:Hp) (xs:List V) (us:List Value) (Q:VK),Inv X pins σ H s→Vals xs us→r xs H Q →
  wpAny (model X.prog X.w) X.A (call f us) (EP X pins σ Q) X.xe s
def YO(r:R2)(ta tb:TE):TE:=fun σ H Q=>ta σ H fun x H1=>tb σ H1 fun y H2=>r x y H2 Q
def nL(r:V→Hp→VK→Prop)(ta:TE):TE:=fun σ H Q=>ta σ H fun x H1=>r x H1 Q
def rI(C:Int→Int→Prop)(g:Int→Int→V):R2:=fun x y H Q=>∃i j,x=.int i∧y=.int j∧C i j∧Q (g i j) H
def Ql(g:Int→Int→V):R2:=fun x y H Q=>∃i j,x=.int i∧y=.int j∧Q (g i j) H
def rU(g:Int→V):V→Hp→VK→Prop:=fun x H Q=>∃i,x=.int i∧Q (g i) H
section
variable{X:Cx}{a b c:Expr}{ta tb tc:TE}{pos:Pos}
theorem Z4(ha:PE X a ta)(hb:PE X b tb){pins:List (Addr×Obj)}{s:Shared}{σ:St}{H:Hp}{R:V→V→Hp→Prop}(I:Inv X pins σ H s)
 (h:ta σ H fun x H1=>tb σ H1 fun y H2=>R x y H2){Q:Value→Shared→Prop}{f:Value→Value→Sem Value}
 (hf:∀v u s2 x y H2,Inv X pins σ H2 s2→RelV x v→RelV y u→R x y H2→wpAny (model X.prog X.w) X.A (f v u) Q X.xe s2) :
  wpAny (model X.prog X.w) X.A (eval a X.env) (fun v s₁=>wpAny (model X.prog X.w) X.A (eval b X.env) (fun u s₂=>wpAny (model X.prog X.w) X.A (f v u) Q X.xe s₂) X.xe s₁) X.xe s:=by
 refine BB (ha pins s σ H _ I h) fun v s1 ⟨x,H1,I1,r1,q1⟩=>?_;refine BB (hb pins s1 σ H1 _ I1 q1) fun u s2 ⟨y,H2,I2,r2,q2⟩=>?_;exact hf v u s2 x y H2 I2 r1 r2 q2
theorem DD{op:Operator}{r:R2}(ho:CY X (binaryOp op) r)(ha:PE X a ta)(hb:PE X b tb):PE X (.BinOp a op b pos) (YO r ta tb):=by
 intro pins s σ H Q I h;exact wpAny_BinOp (Z4 ha hb I h fun v u s2 x y H2 I2 rx ry q=>ho pins s2 σ H2 x y v u Q I2 rx ry q)
theorem cS{op:UnaryOp}{r:V→Hp→VK→Prop}(ho:jZ X (unaryOp op) r)(ha:PE X a ta):PE X (.UnaryOp op a pos) (nL r ta):=by
 intro pins s σ H Q I h;exact UnaryOp_ (BB (ha pins s σ H _ I h) fun v s1 ⟨x,H1,I1,r1,q1⟩=>ho pins s1 σ H1 x v Q I1 r1 q1)
theorem VB{f:Value→Value→Sem Value}{C:Int→Int→Prop}{g:Int→Int→Int}
 (rule:∀(i j:Int) (t u:Tok) (s:Shared) (Q:Value→Shared→Prop) (E:Value→Shared→Prop),C i j→Q (.int (g i j) s.toks) { s with toks:=s.toks+1 }→wpAny (model X.prog X.w) X.A (f (.int i t) (.int j u)) Q E s) :
  CY X f (rI C fun i j=>.int (g i j)):=by
 intro pins s σ H x y v u Q I rx ry h;obtain⟨i,j,rfl,rfl,hc,q⟩:=h;obtain⟨t,rfl⟩:=rx;obtain⟨t',rfl⟩:=ry;exact rule i j t t' s _ _ hc ⟨.int (g i j),H,I.tok _,⟨_,rfl⟩,q⟩
theorem f7{f:Value→Value→Sem Value}{g:Int→Int→Int}
 (rule:∀(i j:Int) (t u:Tok) (s:Shared) (Q:Value→Shared→Prop) (E:Value→Shared→Prop),Q (.int (g i j) s.toks) { s with toks:=s.toks+1 }→wpAny (model X.prog X.w) X.A (f (.int i t) (.int j u)) Q E s) :
  CY X f (Ql fun i j=>.int (g i j)):=by
 intro pins s σ H x y v u Q I rx ry h;obtain⟨i,j,rfl,rfl,q⟩:=h;obtain⟨t,rfl⟩:=rx;obtain⟨t',rfl⟩:=ry;exact rule i j t t' s _ _ ⟨.int (g i j),H,I.tok _,⟨_,rfl⟩,q⟩
theorem Zw{f:Value→Value→Sem Value}{g:Int→Int→Bool}
 (rule:∀(i j:Int) (t u:Tok) (s:Shared) (Q:Value→Shared→Prop) (E:Value→Shared→Prop),Q (.bool (g i j)) s→wpAny (model X.prog X.w) X.A (f (.int i t) (.int j u)) Q E s) :
  CY X f (Ql fun i j=>.bl (g i j)):=by
 intro pins s σ H x y v u Q I rx ry h;obtain⟨i,j,rfl,rfl,q⟩:=h;obtain⟨t,rfl⟩:=rx;obtain⟨t',rfl⟩:=ry;exact rule i j t t' s _ _ ⟨.bl (g i j),H,I,rfl,q⟩
def mH(i j:Int):Prop:=0<j∧j<1073741824
def lh(i j:Int):Prop:=0≤j∧j≤1000000∧i.natAbs<2 ^ 64
def Wx(i j:Int):Prop:=(-(2 ^ 64)<i∧i<2 ^ 64)∨(-(2 ^ 64)<j∧j<2 ^ 64)
theorem Wx.ok{i j:Int}(h:Wx i j):IntMulOk i j:=by
 rcases h with ⟨h1,h2⟩ | ⟨h1,h2⟩
 ·exact .of_left (intBits_le_64 h1 h2)
 ·exact .of_right (intBits_le_64 h1 h2)
theorem iq:CY X (binaryOp .Add) (Ql fun i j=>.int (i+j)):=f7 fun _ _ _ _ _ _ _ q=>add_int q
theorem Pl:CY X (binaryOp .Sub) (Ql fun i j=>.int (i-j)):=f7 fun _ _ _ _ _ _ _ q=>sub_int q
theorem eM:CY X (binaryOp .FloorDiv) (rI mH fun i j=>.int (i / j)):=VB fun i j _ _ _ _ _ hc q=>by
 have h1:(0:Int)<j:=hc.1;have h2:j<1073741824:=hc.2;exact floordiv_int (by omega) (by rw [Int.fdiv_eq_ediv_of_nonneg i (by omega)];exact q) (.inl (PyProof.noPylong_small (by omega)))
theorem jJ:CY X (binaryOp .Mod) (rI (fun _ j=>0<j) fun i j=>.int (i % j)):=VB fun i j _ _ _ _ _ hc q=>by
 have h1:(0:Int)<j:=hc;exact mod_int' (by omega) (by rw [Int.fmod_eq_emod_of_nonneg i (by omega)];exact q)
theorem Qa:CY X (binaryOp .Mod) (rI (fun _ j=>j≠0) fun i j=>.int (i.fmod j)):=VB fun _ _ _ _ _ _ _ hc q=>mod_int' hc q
theorem gq:CY X (binaryOp .Pow) (rI lh fun i j=>.int (i ^ j.toNat)):=VB fun _ _ _ _ _ _ _ hc q=>pow_int_small hc.1 hc.2.1 hc.2.2 q
theorem nK{f:Value→Sem Value}{g:Int→Int}
 (rule:∀(i:Int) (t:Tok) (s:Shared) (Q:Value→Shared→Prop) (E:Value→Shared→Prop),Q (.int (g i) s.toks) { s with toks:=s.toks+1 }→wpAny (model X.prog X.w) X.A (f (.int i t)) Q E s) :
  jZ X f (rU fun i=>.int (g i)):=by
 intro pins s σ H x v Q I rx h;obtain⟨i,rfl,q⟩:=h;obtain⟨t,rfl⟩:=rx;exact rule i t s _ _ ⟨.int (g i),H,I.tok _,⟨_,rfl⟩,q⟩
theorem Xh:jZ X (unaryOp .USub) (rU fun i=>.int (-i)):=nK fun _ _ _ _ _ q=>neg_int q
end
def gG:V→V→Bool
 |.A7,.A7=>true | .A7,.int _=>true | .int _,.A7=>true | .A7,.bl _=>true | .bl _,.A7=>true | .A7,.str _=>true | .str _,.A7=>true
 |.int _,.int _=>true | .bl _,.bl _=>true | .str _,.str _=>true | .Mc _,.Mc _=>true
 |.int _,.str _=>true | .str _,.int _=>true | .bl _,.str _=>true | .str _,.bl _=>true
 |_,_=>false
def nP:R2:=fun x y H Q=>gG x y=true∧Q (.bl (decide (x=y))) H
def nB:R2:=fun x y H Q=>gG x y=true∧Q (.bl (!decide (x=y))) H
theorem VF{i j:Int}:decide (V.int i=V.int j)=(i==j):=by
 rw [Bool.eq_iff_iff];simp
theorem XH{i j:Bool}:decide (V.bl i=V.bl j)=(i==j):=by
 rw [Bool.eq_iff_iff];simp
theorem VZ{i j:Str}:decide (V.str i=V.str j)=(i==j):=by
 rw [Bool.eq_iff_iff];simp
theorem VS{i j:Array UInt8}:decide (V.Mc i=V.Mc j)=(i.toList==j.toList):=by
 rw [Bool.eq_iff_iff];cases i;cases j;simp
section
variable{X:Cx}{a b c:Expr}{ta tb tc:TE}{pos:Pos}
theorem BS{pins:List (Addr×Obj)}{σ:St}{H:Hp}{s:Shared}{Q:VK}{k k':Bool}(I:Inv X pins σ H s)(q:Q (.bl k) H)(e:k=k'):EP X pins σ Q (.bool k') s:=by
 subst e;exact⟨.bl k,H,I,rfl,q⟩
theorem W7:CY X (compareOp .Eq) nP:=by
 intro pins s σ H x y v u Q I rx ry h;obtain⟨hs,q⟩:=h;cases x with
 |A7 =>
  cases rx;cases y with
  |A7=>cases ry;exact PySem.EqNone.eq_none_none (BS I q (by simp))
  |bl j=>cases ry;exact PySem.EqNone.eq_none_bool (BS I q (by simp))
  |int j=>obtain⟨t',rfl⟩:=ry;exact PySem.EqNone.eq_none_int (BS I q (by simp))
  |str j=>obtain⟨t',rfl⟩:=ry;exact PySem.EqNone.eq_none_str (BS I q (by simp))
  |_=>exact absurd (show false=true from hs) aK
 |bl i =>
  cases rx;cases y with
  |A7=>cases ry;exact PySem.EqNone.eq_bool_none (BS I q (by simp))
  |bl j=>cases ry;exact eq_bool (BS I q XH)
  |str j=>obtain⟨t',rfl⟩:=ry;exact PySem.EqMixed.eq_bool_str (BS I q (by simp))
  |_=>exact absurd (show false=true from hs) aK
 |int i =>
  obtain⟨t,rfl⟩:=rx;cases y with
  |A7=>cases ry;exact PySem.EqNone.eq_int_none (BS I q (by simp))
  |int j=>obtain⟨t',rfl⟩:=ry;exact eq_int (BS I q VF)
  |str j=>obtain⟨t',rfl⟩:=ry;exact PySem.EqMixed.eq_int_str (BS I q (by simp))
  |_=>exact absurd (show false=true from hs) aK
 |str i =>
  obtain⟨t,rfl⟩:=rx;cases y with
  |A7=>cases ry;exact PySem.EqNone.eq_str_none (BS I q (by simp))
  |bl j=>cases ry;exact PySem.EqMixed.eq_str_bool (BS I q (by simp))
  |int j=>obtain⟨t',rfl⟩:=ry;exact PySem.EqMixed.eq_str_int (BS I q (by simp))
  |str j=>obtain⟨t',rfl⟩:=ry;exact eq_str (BS I q VZ)
  |_=>exact absurd (show false=true from hs) aK
 |Mc i =>
  obtain⟨t,rfl⟩:=rx;cases y with
  |Mc j=>obtain⟨t',rfl⟩:=ry;exact PySem.W.eq_bytes (BS I q VS)
  |_=>exact absurd (show false=true from hs) aK
 |_=>cases y<;>exact absurd (show false=true from hs) aK
theorem cJ:CY X (compareOp .NotEq) nB:=by
 intro pins s σ H x y v u Q I rx ry h;obtain⟨hs,q⟩:=h;cases x with
 |A7 =>
  cases rx;cases y with
  |A7=>cases ry;exact PySem.EqNone.ne_none_none (BS I q (by simp))
  |bl j=>cases ry;exact PySem.EqNone.ne_none_bool (BS I q (by simp))
  |int j=>obtain⟨t',rfl⟩:=ry;exact PySem.EqNone.ne_none_int (BS I q (by simp))
  |str j=>obtain⟨t',rfl⟩:=ry;exact PySem.EqNone.ne_none_str (BS I q (by simp))
  |_=>exact absurd (show false=true from hs) aK
 |bl i =>
  cases rx;cases y with
  |A7=>cases ry;exact PySem.EqNone.ne_bool_none (BS I q (by simp))
  |bl j=>cases ry;exact ne_bool (BS I q (bC not XH))
  |str j=>obtain⟨t',rfl⟩:=ry;exact PySem.EqMixed.ne_bool_str (BS I q (by simp))
  |_=>exact absurd (show false=true from hs) aK
 |int i =>
  obtain⟨t,rfl⟩:=rx;cases y with
  |A7=>cases ry;exact PySem.EqNone.ne_int_none (BS I q (by simp))
  |int j=>obtain⟨t',rfl⟩:=ry;exact ne_int (BS I q (bC not VF))
  |str j=>obtain⟨t',rfl⟩:=ry;exact PySem.EqMixed.ne_int_str (BS I q (by simp))
  |_=>exact absurd (show false=true from hs) aK
 |str i =>
  obtain⟨t,rfl⟩:=rx;cases y with
  |A7=>cases ry;exact PySem.EqNone.ne_str_none (BS I q (by simp))
  |bl j=>cases ry;exact PySem.EqMixed.ne_str_bool (BS I q (by simp))
  |int j=>obtain⟨t',rfl⟩:=ry;exact PySem.EqMixed.ne_str_int (BS I q (by simp))
  |str j=>obtain⟨t',rfl⟩:=ry;exact ne_str (BS I q (bC not VZ))
  |_=>exact absurd (show false=true from hs) aK
 |Mc i =>
  obtain⟨t,rfl⟩:=rx;cases y with
  |Mc j=>obtain⟨t',rfl⟩:=ry;exact PySem.W.ne_bytes (BS I q (bC not VS))
  |_=>exact absurd (show false=true from hs) aK
 |_=>cases y<;>exact absurd (show false=true from hs) aK
theorem Wi:CY X (compareOp .Lt) (Ql fun i j=>.bl (decide (i<j))):=Zw fun _ _ _ _ _ _ _ q=>lt_int q
theorem M1:CY X (compareOp .Gt) (Ql fun i j=>.bl (decide (j<i))):=Zw fun _ _ _ _ _ _ _ q=>gt_int q
theorem cM:CY X (compareOp .GtE) (Ql fun i j=>.bl (decide (j≤i))):=Zw fun _ _ _ _ _ _ _ q=>ge_int q
theorem CY.or{f:Value→Value→Sem Value}{r r':R2}(h:CY X f r)(h':CY X f r'):CY X f (fun x y H Q=>r x y H Q∨r' x y H Q):=by
 intro pins s σ H x y v u Q I rx ry q;rcases q with q | q
 ·exact h pins s σ H x y v u Q I rx ry q
 ·exact h' pins s σ H x y v u Q I rx ry q
theorem BL(b:Expr){op:CmpOp}(h:op≠.In:=by decide)(h2:op≠.NotIn:=by decide):behindInMarks op b=false:=by
 have e1:(op==CmpOp.In)=false:=by cases op<;>first | rfl | exact absurd rfl h
 have e2:(op==CmpOp.NotIn)=false:=by cases op<;>first | rfl | exact absurd rfl h2
 cases b<;>simp [behindInMarks,e1,e2]
theorem P0{op:CmpOp}{r:R2}(ho:CY X (compareOp op) r)(ha:PE X a ta)(hb:PE X b tb)(hm:behindInMarks op b=false):PE X (.Compare a [op] [b] pos) (YO r ta tb):=by
 intro pins s σ H Q I h;exact wpAny_Compare1 (Z4 ha hb I h fun v u s2 x y H2 I2 rx ry q=>ho pins s2 σ H2 x y v u Q I2 rx ry q) hm
def kY(t:TE):TT:=fun σ H Q=>t σ H fun x H'=>∃k,x=.bl k∧Q k H'
theorem Co{op:CmpOp}{r:R2}(ho:CY X (compareOp op) r)(ha:PE X a ta)(hb:PE X b tb)(hm:behindInMarks op b=false):PT X (.Compare a [op] [b] pos) (kY (YO r ta tb)):=by
 intro pins s σ H Q I h;refine wpAny_isTrue_Compare1 (BB (ha pins s σ H _ I h) fun v s1 ⟨x,H1,I1,r1,q1⟩=>BB (hb pins s1 σ H1 _ I1 q1) fun u s2 ⟨y,H2,I2,r2,q2⟩ =>
  BB (ho pins s2 σ H2 x y v u _ I2 r1 r2 q2) fun c s3 ⟨z,H3,I3,r3,k,e,q3⟩=>?_) hm
 subst e;cases r3;exact wpAny_truthy_bool ⟨H3,I3,q3⟩
theorem Kk:(sizeLine:Nat)<2 ^ 63:=by rw [sizeLine_eq];decide
theorem We:CY X (binaryOp .Add) (fun x y H Q=>∃i j,x=.str i∧y=.str j∧i.length+j.length≤sizeLine∧Q (.str (i++j)) H):=by
 intro pins s σ H x y v u Q I rx ry h;obtain⟨i,j,rfl,rfl,hz,q⟩:=h;obtain⟨t,rfl⟩:=rx;obtain⟨t',rfl⟩:=ry;exact add_str (fun t' tk=>⟨.str (i++j),H,I.tok _,⟨_,rfl⟩,q⟩) hz
theorem vals1{x:V}{us:List Value}(r:Vals [x] us):∃u,us=[u]∧RelV x u:=by
 cases r with
 |cons r1 r2=>cases r2;exact⟨_,rfl,r1⟩
theorem LV:D3 X (.builtin "abs") (fun xs H Q=>∃i,xs=[.int i]∧Q (.int (if i<0 then -i else i)) H):=by
 intro pins s σ H xs us Q I r h;obtain⟨i,rfl,q⟩:=h;obtain⟨u,rfl,t,rfl⟩:=vals1 r;exact call_abs_int fun u tk=>⟨.int (if i<0 then -i else i),H,I.tok _,⟨_,rfl⟩,q⟩
end
structure ZL(h:Heap)(x dx C:Addr)(mA:Str→Option Value):Prop where
 obj:h.get? x=some (PySem.W.instObj C dx)
 ns:h.Ns1 dx mA
 ne:dx≠x
theorem YQ{h:Heap}{dx:Addr}{mA:Str→Option Value}(n:h.Ns1 dx mA):∃od,h.get? dx=some od∧∀name,PySem.W.lookIn name od=some (mA name):=by
 obtain⟨o,es,ep,ho,hd,hk,_,hm⟩:=n;refine⟨o,ho,fun name=>?_⟩;have e:=hm name;unfold nsFind findBy at e;rw [←Array.find?_toList]at e;unfold PySem.W.lookIn;rw [hd];dsimp only;split
 ·rename_i y q;rw [q]at e;exact bC some e
 ·rename_i q;rw [q]at e;have a:es.toList.any (·.refKey)=false:=by
   rw [List.any_eq_false];intro y hy;obtain⟨z,t,hkey⟩:=hk y (Array.mem_toList_iff.mp hy);simp [DictEntry.refKey,hkey]
  have a':¬es.toList.any (·.refKey)=true:=by rw [a];exact aK
  rw [if_neg a'];exact bC some e
theorem ZL.look{h:Heap}{x dx C:Addr}{mA:Str→Option Value}(I:ZL h x dx C mA):∃od,PySem.W.InstAt h x (PySem.W.instObj C dx) C (some od)∧∀name,PySem.W.lookIn name od=some (mA name) :=
 let⟨od,ho,hl⟩:=YQ I.ns
 ⟨od,⟨I.obj,rfl,rfl,ho⟩,hl⟩
section
variable{P:Program}{w:World}{H H':Hp}{h h':Heap}{a C dx:Addr}{fs fs':List (Str×V)}
theorem dA(Ap:EO P w H h)(e:H a=some (.ins C dx fs)):∃mA,ZL h a dx C mA∧(∀f,Yz (fs.lookup f) (mA f))∧PySem.Within mA (fs.map (·.1))∧fs.length≤1000∧H dx=some (.own a):=by
 obtain⟨d,z,ne,ob,mA,n,r,q⟩:=(show Cd P w H h a (.ins C dx fs) from Ap a _ e);exact⟨mA,⟨ob,n,ne⟩,r,q,z,d⟩
end
structure gR(K:Fg)(C:Addr):Prop where
 pg:PySem.W.plainGet K C Str.empty=true
 hd:PySem.W.hasDictIn K C=true
 po:PySem.W.plainOver K C=true
 sa:PySem.W.findIn K (.ref C) "__setattr__" = some (some (.builtin "object.__setattr__"))
theorem gR.get{K:Fg}{C:Addr}(c:gR K C)(f:Str):PySem.W.plainGet K C f=true:=c.pg
section
variable{X:Cx}{pins:List (Addr×Obj)}{σ:St}{H:Hp}{s:Shared}{A:Around}{E:Value→Shared→Prop}{Q:Value→Shared→Prop}{c:Value}{b:Bool}
inductive Fy(K:Fg)(H:Hp):V→Value→Prop where
 |A7:Fy K H .A7 (.type "NoneType")
 |bl (x:Bool):Fy K H (.bl x) (.type "bool")
 |int (i:Int):Fy K H (.int i) (.type "int")
 |str (x:Str):Fy K H (.str x) (.type "str")
 |Vg (x:UInt64):Fy K H (.Vg x) (.type "float")
 |lst {a:Addr} {xs:List V} (e:H a=some (.lst xs)):Fy K H (.ref a) (.type "list")
 |Ed {a:Addr} {o:Obj} {xs:List V} (e:H a=some (.Ed o (.lst xs))):Fy K H (.ref a) (.type "list")
 |tup {a:Addr} {xs:List V} (e:H a=some (.tup xs)):Fy K H (.ref a) (.type "tuple")
 |dK {a:Addr} {kvs:List (Key×V)} (e:H a=some (.dK kvs)):Fy K H (.ref a) (.type "dict")
 |dT {a:Addr} {kvs:List (List Key×V)} (e:H a=some (.dT kvs)):Fy K H (.ref a) (.type "dict")
 |ins {a C dx:Addr} {fs:List (Str×V)} (e:H a=some (.ins C dx fs)) (cl:gR K C) (ha:PySem.W.findIn K (.ref C) "__class__" = some (some (.builtin "object.__class__")))
   (hn:PySem.W.specialIn K (.builtin "object.__class__") "__get__" = some (some (.builtin "getset_descriptor.__get__"))) (htk:PySem.W.takesIn K (.builtin "object.__class__")=some true)
   (hm:PySem.W.mroIn K C (.type "object")=some true):Fy K H (.ref a) (.ref C)
theorem XG{x:V}{u t:Value}(I:Inv X pins σ H s)(rx:RelV x u)(ty:Fy X.K H x t)(e:PySem.W.kitOne X.K t c=some b)(h:∀tk,Q (.bool b) { s with toks:=tk }) :
  wpAny (model X.prog X.w) A (call (.builtin "isinstance") [u,c]) Q E s:=by
 cases ty with
 |A7=>cases (show u=Value.none from rx);exact bI PySem.W.kitx_none I.Hu True.intro e (fun z=>nomatch z) h
 |bl y=>cases (show u=Value.bool y from rx);exact bI PySem.W.kitx_bool I.Hu True.intro e (fun z=>nomatch z) h
 |int i=>obtain⟨t,q⟩:=(show ∃t,u=Value.int i t from rx);cases q;exact bI PySem.W.kitx_int I.Hu True.intro e (fun z=>nomatch z) h
 |str y=>obtain⟨t,q⟩:=(show ∃t,u=Value.str y t from rx);cases q;exact bI PySem.W.kitx_str I.Hu True.intro e (fun z=>nomatch z) h
 |Vg y=>obtain⟨t,q⟩:=(show ∃t,u=Value.float y t from rx);cases q;exact bI PySem.W.kitx_float I.Hu True.intro e (fun z=>nomatch z) h
 | @lst a xs ea =>
  cases (show u=Value.ref a from rx);obtain⟨_,_,n,_,h1⟩:=(show Cd X.prog X.w H s.heap a (.lst xs) from I.Ap a _ ea);exact bI PySem.W.kitx_list I.Hu ⟨_,h1,rfl⟩ e (fun z=>nomatch z) h
 | @Ed a ob xs ea =>
  cases (show u=Value.ref a from rx);obtain⟨_,_,_,n,_,h1⟩:=(show Cd X.prog X.w H s.heap a (.Ed ob (.lst xs)) from I.Ap a _ ea);exact bI PySem.W.kitx_list I.Hu ⟨_,h1,rfl⟩ e (fun z=>nomatch z) h
 | @tup a xs ea =>
  cases (show u=Value.ref a from rx);obtain⟨_,_,_,p⟩:=(show Cd X.prog X.w H s.heap a (.tup xs) from I.Ap a _ ea);obtain⟨o,h1,h2,_⟩:=p;exact bI PySem.W.kitx_tuple I.Hu ⟨o,h1,h2⟩ e (fun z=>nomatch z) h
 | @dK a kvs ea =>
  cases (show u=Value.ref a from rx);obtain⟨_,_,vs,_,p⟩:=(show Cd X.prog X.w H s.heap a (.dK kvs) from I.Ap a _ ea);obtain⟨o,es,ep,h1,h2,_⟩:=p;exact bI PySem.W.kitx_dict I.Hu ⟨o,h1,h2.1⟩ e (fun z=>nomatch z) h
 | @dT a kvs ea =>
  cases (show u=Value.ref a from rx);obtain⟨_,_,xs,_,o,es,ep,h1,h2,_⟩:=(show Cd X.prog X.w H s.heap a (.dT kvs) from I.Ap a _ ea);exact bI PySem.W.kitx_dict I.Hu ⟨o,h1,h2.1⟩ e (fun z=>nomatch z) h
 | @ins a C dx fs ea cl ha hn htk hm =>
  cases (show u=Value.ref a from rx);obtain⟨mA,O,_⟩:=dA I.Ap ea;obtain⟨od,J,_⟩:=O.look;exact bI (PySem.W.kitx_own (cl.get _) cl.hd ha hn htk hm) I.Hu J e (fun z=>nomatch z) h
end
structure DH(k:Nat)(A:Around):Prop where
 hd:A.handled=none
 dp:A.depth+3*k+5<recursionLimit
 un:A.units+16*k+200<cLine
theorem DH.mono{j k:Nat}{A:Around}(r:DH k A)(h:j≤k):DH j A:=⟨r.hd,by have:=r.dp;omega,by have:=r.un;omega⟩
theorem DH.deeper{k:Nat}{A:Around}(r:DH (k+1) A)(env:Env):DH k (A.deeper env) :=
 ⟨r.hd,by have:=r.dp;show A.depth+1+3*k+5<_;omega,by have:=r.un;show A.units+3+16*k+200<_;omega⟩
theorem DH.depth{k:Nat}{A:Around}(r:DH k A):A.depth<recursionLimit:=by have:=r.dp;omega
theorem DH.units{k:Nat}{A:Around}(r:DH k A):A.units+64<cLine:=by have:=r.un;omega
def mD:TA:=fun _ H Q=>Q [] H
def kO(ta:TE)(tr:TA):TA:=fun σ H Q=>ta σ H fun x H1=>tr σ H1 fun xs H2=>Q (x::xs) H2
section
variable{X:Cx}{e:Expr}{es:List Expr}{te:TE}{t:TA}{pos:Pos}
theorem A6:PA X [] mD:=fun _ _ _ _ H Q I h=>Calls.spliced_nil ⟨[],H,I,.nil,h⟩
theorem Aa(ha:PE X e te)(hr:PA X es t)(hs:starEach (e::es) X.env=(false,eval e X.env)::starEach es X.env:=by rfl):PA X (e::es) (kO te t):=by
 intro pos pins s σ H Q I h;rw [hs];show wpAny _ _ (spliced ((false,eval e X.env)::backTo pos (starEach es X.env))) _ _ s;refine Calls.spliced_cons (BB (ha pins s σ H _ I h) fun u s1 ⟨x,H1,I1,r1,q1⟩=>?_);exact BB (hr pos pins s1 σ H1 _ I1 q1) fun us s2 ⟨xs,H2,I2,r2,q2⟩=>⟨x::xs,H2,I2,.cons r1 r2,q2⟩
def mY(t:TA):TE:=fun σ H Q=>t σ H fun xs H1=>xs.length≤sizeLine∧∀p,H1 p=none→Q (.ref p) (upd H1 p (.tup xs))
def mV(t:TA):TE:=fun σ H Q=>t σ H fun xs H1=>xs.length≤sizeLine∧∀p,H1 p=none→Q (.ref p) (upd H1 p (.lst xs))
theorem PQ{x1}(h:PA X es t):PE X (.Tuple es x1 pos) (mY t):=by
 intro pins s σ H Q I hq;refine wpAny_Tuple_spliced (BB (h pos pins s σ H _ I hq) fun us s1 ⟨xs,H1,I1,r,z,q⟩=>⟨by rw [←r.length];exact z,?_⟩);have hf:H1 s1.heap.objs.size=none:=I1.Ap.fresh (aJ _);refine⟨.ref s1.heap.objs.size,upd H1 s1.heap.objs.size (.tup xs),I1.laid (t':=s1.toks) (fun b u e=>aD _ e) (aJ _) ?_,rfl,q _ hf⟩;exact⟨z,us,r,⟨_,Heap.get?_push_size _ rfl,rfl,_,rfl⟩⟩
theorem Ym(h:PA X es t):PE X (.List es pos) (mV t):=by
 intro pins s σ H Q I hq;refine wpAny_List_spliced (BB (h pos pins s σ H _ I hq) fun us s1 ⟨xs,H1,I1,r,z,q⟩=>⟨by rw [←r.length];exact z,?_⟩);have hf:H1 s1.heap.objs.size=none:=I1.Ap.fresh (aJ _);refine⟨.ref s1.heap.objs.size,upd H1 s1.heap.objs.size (.lst xs),I1.laid (t':=s1.toks) (fun b u e=>aD _ e) (aJ _) ?_,rfl,q _ hf⟩;exact⟨z,us,0,r,Heap.get?_push_size _ rfl⟩
end
abbrev Sp:=List V→Hp→VK→XK→Prop
abbrev GQ:=List Env→Hp→Shared→XK→Value→Shared→Prop
structure V0(P:Program)(w:World)(K:Fg)(mg:Str→Option Value)(base:Heap)(A:Around)(outer:List Env)(s:Shared)(H:Hp):Prop where
 frames:A.frames=some outer
 mod:Mod K mg base
 bs:∀b o,base.get? b=some o→s.heap.get? b=some o∧H b=none
 RB:base.objs.size≤s.heap.objs.size
 HH:s.heap.FunFrames base outer
 RO:∀b∈Ft outer,H b=none
 Ap:EO P w H s.heap
 bare:AllBare s.gens
def CE(outer:List Env)(P:Program)(w:World)(H:Hp)(s:Shared)(Q:VK)(u:Value)(s':Shared):Prop :=
 ∃v H',s'.os=s.os∧AllBare s'.gens∧Un (Ft outer) [] H H' s.heap s'.heap∧EO P w H' s'.heap∧RelV v u∧Q v H'
def CR(CX:GQ)(outer:List Env)(P:Program)(w:World)(H:Hp)(s:Shared)(Q:VK)(E:XK)(r:Result)(s':Shared):Prop :=
 match r with
 |.ok (.ret u)=>CE outer P w H s Q u s'
 |.ok _=>False
 |.error e=>CX outer H s E e s'
structure AL(P:Program)(w:World)(K:Fg)(mg:Str→Option Value)(base:Heap)(CX:GQ)(k:Nat)(f:Addr)(fd:FuncData)(ps:List Str)(sp:Sp):Prop where
 len:∀vs H Q E,sp vs H Q E→vs.length=ps.length
 run:∀(A:Around) (outer:List Env) (s:Shared) (H:Hp) (args:Args) (us:List Value) (vs:List V) (Q:VK) (E:XK),DH k A→V0 P w K mg base A outer s H→BindsTo s fd args (ps.zip us)→Vals vs us→sp vs H Q E →
  codeAny (model P w) A (.call (.ref f) args) (CR CX outer P w H s Q E) s
theorem AL.mono{P:Program}{w:World}{K:Fg}{mg:Str→Option Value}{base:Heap}{CX:GQ}{j k:Nat}{f:Addr}{fd:FuncData}{ps:List Str}{sp:Sp}(F:AL P w K mg base CX j f fd ps sp)(h:j≤k) :
  AL P w K mg base CX k f fd ps sp:=⟨F.len,fun A outer s H args us vs Q E hr=>F.run A outer s H args us vs Q E (hr.mono h)⟩
theorem AL.imp{P:Program}{w:World}{K:Fg}{mg:Str→Option Value}{base:Heap}{CX:GQ}{k:Nat}{f:Addr}{fd:FuncData}{ps:List Str}{sp sp':Sp}(F:AL P w K mg base CX k f fd ps sp)
 (h:∀vs H Q E,sp' vs H Q E→sp vs H Q E):AL P w K mg base CX k f fd ps sp' :=
 ⟨fun vs H Q E q=>F.len vs H Q E (h _ _ _ _ q),fun A outer s H args us vs Q E hr he hb hv hs=>F.run A outer s H args us vs Q E hr he hb hv (h _ _ _ _ hs)⟩
section
variable{X:Cx}{pins:List (Addr×Obj)}{σ:St}{H:Hp}{s s':Shared}
theorem Inv.lS(I:Inv X pins σ H s):V0 X.prog X.w X.K X.mg X.base X.A X.stack s H :=
 ⟨I.ok.frames,I.ok.mod,I.bs,Nat.le_trans I.ok.RB I.sz,I.stack,I.QA,I.Ap,I.bare⟩
theorem Inv.after{Q:VK}{u:Value}(I:Inv X pins σ H s)(h:CE X.stack X.prog X.w H s Q u s'):EP X pins σ Q u s':=by
 obtain⟨v,H',os,bare,un,Ap,r,q⟩:=h;obtain⟨hh,g,d,t,os'⟩:=s';obtain rfl:os'=s.os:=os;exact⟨v,H',I.call (h':=hh) (g':=g) (d':=d) (t':=t) (ch:=[]) un Ap bare (fun b z=>absurd z (by simp)),r,q⟩
end
def Wv(sp:Sp)(dvs:List V)(E:XK)(t:TA):TE:=fun σ H Q=>t σ H fun vs H1=>sp (vs++dvs) H1 Q E
def Binds(K:Fg)(fd:FuncData)(ps:List Str)(ds:List Value):Prop :=
 ∀(s:Shared) (us:List Value),K.In s.heap→(us++ds).length=ps.length→BindsTo s fd ⟨us,[]⟩ (ps.zip (us++ds))
theorem Binds.all{K:Fg}{fd:FuncData}{ps:List Str}(h:∀us:List Value,us.length=ps.length→bindArgs fd ⟨us,[]⟩=pure (ps.zip us)):Binds K fd ps []:=fun s us _ hl=>by
 rw [List.append_nil]at hl ⊢;exact .of_eq (h us hl)
def Passes(CX:GQ)(X:Cx)(E:XK):Prop:=∀(pins:List (Addr×Obj)) (σ:St) (H:Hp) (s:Shared) (e:Value) (s':Shared),Inv X pins σ H s→CX X.stack H s E e s'→X.xe e s'
section
variable{X:Cx}{CX:GQ}{k:Nat}{f C:Addr}{fd:FuncData}{ps:List Str}{sp:Sp}{dvs:List V}{ds:List Value}{E:XK}{x m:Str}{p pos apos:Pos}{e o:Expr}{es:List Expr}{ta:TE}{t:TA}
theorem hJ{pins:List (Addr×Obj)}{σ:St}{H:Hp}{s:Shared}{Q:VK}{us:List Value}{vs:List V}(F:AL X.prog X.w X.K X.mg X.base CX k f fd ps sp)(hr:DH k X.A)(hb:Binds X.K fd ps ds)(hd:Vals dvs ds)(hx:Passes CX X E)
 (I:Inv X pins σ H s)(r:Vals vs us)(h:sp (vs++dvs) H Q E):wpAny (model X.prog X.w) X.A (call (.ref f) us) (EP X pins σ Q) X.xe s:=by
 have r2:Vals (vs++dvs) (us++ds):=r.append hd;have hl:(us++ds).length=ps.length:=by rw [←r2.length];exact F.len _ _ _ _ h
 refine wpAny_call (codeAny_mono (F.run X.A X.stack s H ⟨us,[]⟩ (us++ds) (vs++dvs) Q E hr I.lS (hb s us I.Hu hl) r2 h) fun r s' hq=>?_);cases r with
 |error e=>exact hx pins σ H s e s' I hq
 |ok fl =>
  cases fl with
  |ret u=>exact I.after hq
  |next=>exact False.elim hq
  |brk=>exact False.elim hq
  |cont=>exact False.elim hq
theorem VD(F:AL X.prog X.w X.K X.mg X.base CX k f fd ps sp)(hr:DH k X.A)(hg:Gl X x)(hm:X.mg x=some (.ref f))(hk:PySem.W.keepIn X.K (.ref f)=true)(hb:Binds X.K fd ps ds)(hd:Vals dvs ds)(hx:Passes CX X E)
 (ha:PA X (e::es) t)(hdb:(x==("__debug__" : Str))=false:=by decide)(he:starEach (e::es) X.env=(false,eval e X.env)::starEach es X.env:=by rfl)(hpl:(backTo pos (starEach es X.env)).any (·.1)=false:=by rfl) :
  PE X (.Call (.Name x p) (e::es) [] pos) (Wv sp dvs E t):=by
 intro pins s σ H Q I h;refine wpAny_Call_Name_kw (QS I hg hm ?_ hdb);refine PySem.W.callWith_K (h₀:=X.base) I.ok.mod.O2 hk (BB (ha pos pins s σ H _ I h) fun us s1 ⟨vs,H1,I1,r,q⟩=>⟨I1.Hu,?_⟩) he hpl;exact hJ F hr hb hd hx I1 r q
end
structure Ad(N P:List Str)(sc:Scope):Prop where
 kind:sc.kind=.function
 co:sc.isCoroutine=false
 gen:sc.isGenerator=false
 nd:N.Nodup
 pre:N.take P.length=P
 par:∀x∈P,sc.names.lookup x=some .local∨sc.names.lookup x=some .cell
 gm:∀y∈sc.names,y.2≠.free
theorem CN{N P:List Str}{sc:Scope}(a:sc.kind=.function:=by rfl)(b:sc.isCoroutine=false:=by rfl)(c:sc.isGenerator=false:=by rfl)(d:N.Nodup:=by decide +kernel)(e:N.take P.length=P:=by rfl)(f:∀x ∈ P, sc.names.lookup x=some .local ∨ sc.names.lookup x=some .cell:=by decide +kernel)(g:∀y ∈ sc.names, y.2 ≠ .free:=by decide +kernel):Ad N P sc:=⟨a, b, c, d, e, f, g⟩
theorem RA{kindOf:Str→Option NameKind}{x:Str}:∀ {binds:List (Str×Value)} {m:Str→Option Value},(∀v,(x,v) ∉ binds)→bindL kindOf binds m x=m x
 |[],_,_=>rfl
 |(n,v)::r,m,h=>by
  unfold bindL;rw [RA fun w hw=>h w (aS _ hw)];split
  ·have:x≠n:=by rintro rfl;exact h v ae
   simp [this]
  ·rfl
theorem RE{kindOf:Str→Option NameKind}{x:Str}:∀ {binds:List (Str×Value)} {m:Str→Option Value},(∀v,(x,v) ∉ binds)→bindC kindOf binds m x=m x
 |[],_,_=>rfl
 |(n,v)::r,m,h=>by
  unfold bindC;rw [RE fun w hw=>h w (aS _ hw)];split
  ·rfl
  ·have:x≠n:=by rintro rfl;exact h v ae
   simp [this]
theorem Q5{kindOf:Str→Option NameKind}{x:Str}{v:Value}:∀ {P:List Str} {vs:List Value} {i:Nat} {m:Str→Option Value},P.Nodup→P[i]? = some x→vs[i]? = some v→kindOf x=some .local →
  bindL kindOf (P.zip vs) m x=some v
 |[],_,_,_,_,h,_,_=>by simp at h
 |_::_,[],_,_,_,_,h,_=>by simp at h
 |p::P,w::vs,0,m,nd,h1,h2,hk=>by
  simp at h1 h2;subst h1;subst h2;show bindL kindOf ((p,w)::P.zip vs) m p=_;unfold bindL;rw [RA fun v hv=>(List.nodup_cons.mp nd).1 (List.of_mem_zip hv).1,if_pos hk];simp
 |p::P,w::vs,i+1,m,nd,h1,h2,hk=>by
  show bindL kindOf ((p,w)::P.zip vs) m x=_;unfold bindL;exact Q5 (i:=i) (List.nodup_cons.mp nd).2 (by simpa using h1) (by simpa using h2) hk
theorem Q7{kindOf:Str→Option NameKind}{x:Str}{v:Value}:∀ {P:List Str} {vs:List Value} {i:Nat} {m:Str→Option Value},P.Nodup→P[i]? = some x→vs[i]? = some v→kindOf x≠some .local →
  bindC kindOf (P.zip vs) m x=some v
 |[],_,_,_,_,h,_,_=>by simp at h
 |_::_,[],_,_,_,_,h,_=>by simp at h
 |p::P,w::vs,0,m,nd,h1,h2,hk=>by
  simp at h1 h2;subst h1;subst h2;show bindC kindOf ((p,w)::P.zip vs) m p=_;unfold bindC;rw [RE fun v hv=>(List.nodup_cons.mp nd).1 (List.of_mem_zip hv).1,if_neg hk];simp
 |p::P,w::vs,i+1,m,nd,h1,h2,hk=>by
  show bindC kindOf ((p,w)::P.zip vs) m x=_;unfold bindC;exact Q7 (i:=i) (List.nodup_cons.mp nd).2 (by simpa using h1) (by simpa using h2) hk
def start(N:List Str)(vs:List V):St:=vs.map some++List.replicate (N.length-vs.length) none
def Ca(CX:GQ)(P:Program)(w:World)(K:Fg)(mg:Str→Option Value)(base:Heap)(N:List Str)(qual:Str)(scope:Scope)(f:Addr)(cd:Value)(A:Around)(outer:List Env)(s:Shared)(H:Hp)(E:XK):Cx where
 prog:=P
 w:=w
 K:=K
 mg:=mg
 base:=base
 A:=A.deeper (envOfC qual scope s.heap.objs.size f cd)
 N:=N
 s₀:=s
 H₀:=H
 env:=envOfC qual scope s.heap.objs.size f cd
 outer:=outer
 stack:=envOfC qual scope s.heap.objs.size f cd::outer
 ex:=[]
 calm:=true
 fn:=fun _=>true
 pn:=[]
 xe:=fun e s'=>wpAny (model P w) (A.deeper (envOfC qual scope s.heap.objs.size f cd)) (leaving (envOfC qual scope s.heap.objs.size f cd) e) (fun _ s''=>CX outer H s E e s'') (fun e' s''=>CX outer H s E e' s'') s'
theorem Tn{sc:Scope}{n:Nat}{x:Str}(h:sc.names.lookup x=some .cell):∃c,(cellsFrom n sc.names []).lookup x=some c:=by
 have q:=PySem.W.cellsFrom_some sc.names n [] (.inl h);exact Option.isSome_iff_exists.mp q
theorem YV{CX:GQ}{P:Program}{w:World}{K:Fg}{mg:Str→Option Value}{base:Heap}{N ps:List Str}{qual:Str}{scope:Scope}{f:Addr}{cd:Value}{A:Around}{outer:List Env}{s s1:Shared}{H:Hp}{E:XK}{us:List Value}{vs:List V}
 (S:Ad N ps scope)(hd:A.handled=none)(e0:V0 P w K mg base A outer s H)(hl:vs.length=ps.length)(r:Vals vs us)
 (x:InCallC s s.heap.objs.size (bindL (envOfC qual scope s.heap.objs.size f cd).kindOf (ps.zip us) fun _=>none) (cellsFrom (s.heap.objs.size+1) scope.names []) (bindC (envOfC qual scope s.heap.objs.size f cd).kindOf (ps.zip us) fun _=>none) s1) :
  Inv (Ca CX P w K mg base N qual scope f cd A outer s H E) [] (start N vs) H s1:=by
 have hpl:ps.length≤N.length:=by have:=bC List.length S.pre;rw [List.length_take]at this;omega
 obtain⟨h1,tk,rfl,hk⟩:=x.done;have noA:∀b:Addr,b ∉ (Ca CX P w K mg base N qual scope f cd A outer s H E).ex:=fun b z=>absurd (show b∈([]:List Addr) from z) (by simp);refine⟨⟨e0.mod,S.kind,rfl,rfl,Nat.le_refl _,fun y z c h1 h2=>?_,fun y hy=>?_,fun y c _ h=>?_,fun _=>hd,Around.frames_deeper e0.frames,.inr ⟨rfl,rfl⟩,fun b z=>absurd z (noA b),e0.bs,e0.RB,fun b _ _=>noA b,fun b z=>absurd z (noA b),e0.HH,e0.RO⟩,
  rfl,e0.bare,Un.kept hk,⟨_,x.toInCall.ns,fun i y v h1 h2 h3=>?_⟩,fun y c h=>⟨_,x.cell y c h⟩,e0.Ap.fresh (aJ _),fun y c h=>?_,fun p hp=>absurd (show p∈([]:List (Addr×Obj)) from hp) (by simp),e0.Ap.kept hk,?_⟩
 ·exact name_of_addr x.apart (PySem.mem_of_lookup h1) (PySem.mem_of_lookup h2)
 ·have hy:scope.names.lookup y=some .cell∨scope.names.lookup y=some .free:=hy;rcases hy with hy | hy
  ·exact Tn hy
  ·exact absurd rfl (S.gm _ (PySem.mem_of_lookup hy))
 ·exact bK (x.above y c (PySem.mem_of_lookup h))
 ·have hi:i<vs.length:=by
   unfold start at h2;by_cases hi:i<vs.length
   ·exact hi
   ·rw [List.getElem?_append_right (by simpa using hi)]at h2;rw [List.getElem?_replicate]at h2;split at h2<;>cases h2
  have ha:vs[i]? = some v:=by
   unfold start at h2;rw [List.getElem?_append_left (by simpa using hi),List.getElem?_map]at h2;cases e:vs[i]? with
   |none=>rw [e]at h2;cases h2
   |some a=>rw [e]at h2;cases h2;rfl
  obtain⟨u,hu,rv⟩:=r.get ha;have hp:ps[i]? = some y:=by
   rw [←S.pre,List.getElem?_take_of_lt (by omega)];exact h1
  have ndP:ps.Nodup:=by rw [←S.pre];exact S.nd.sublist (List.take_sublist _ _)
  refine⟨u,rv,?_⟩;rcases S.par y (aI hp) with k | k
  ·exact .inl ⟨k,Q5 ndP hp hu k⟩
  ·obtain⟨c,e⟩:=Tn (n:=s.heap.objs.size+1) k;refine .inr ⟨.inl k,c,e,?_⟩;have q:=x.cell y c e;rw [Q7 ndP hp hu (by show scope.names.lookup y≠_;rw [k];decide)]at q;exact q
 ·exact e0.Ap.fresh (bK (x.above y c (PySem.mem_of_lookup h)))
 ·unfold start;show _=N.length;rw [List.length_append,List.length_map,List.length_replicate];omega
theorem cT{CX:GQ}{P:Program}{w:World}{K:Fg}{mg:Str→Option Value}{base:Heap}{k:Nat}{f:Addr}{name qual:Str}{params:Arguments}{body:List Stmt}{scope:Scope}{dV kV doc pm cdv ct oc:Value}{an od:Option Addr}
 {osl:Array (Option Value)}{N ps:List Str}{sp:Sp}(lk:K.lookup f=some ⟨oc,od,.func (PySem.W.fnOf name qual params body scope dV kV doc pm an cdv ct),osl⟩)(hcd:PySem.W.codeIn K cdv qual=true)(S:Ad N ps scope)
 (len:∀vs H Q E,sp vs H Q E→vs.length=ps.length)
 (hbody:∀(A:Around) (outer:List Env) (s:Shared) (H:Hp) (vs:List V) (Q:VK) (E:XK),DH k (A.deeper (envOfC qual scope s.heap.objs.size f cdv))→sp vs H Q E →
   ∃t,HB (Ca CX P w K mg base N qual scope f cdv A outer s H E) body t∧t { nx:=fun _ H'=>Q .A7 H',rt:=Q } (start N vs) H) :
  AL P w K mg base CX (k+1) f (PySem.W.fnOf name qual params body scope dV kV doc pm an cdv ct) ps sp:=by
 refine⟨len,fun A outer s H args us vs Q E hr e0 hb r hsp=>?_⟩;have hl:=len _ _ _ _ hsp;have KX:K.In s.heap:=e0.mod.O2.keeps fun b o e=>(e0.bs b o e).1;have lim:s.heap.NoLimit:=e0.mod.nolimit.keeps fun b o e=>(e0.bs b o e).1;have hkind:∀y∈ps.zip us,scope.names.lookup y.1=some .local∨(scope.names.lookup y.1=some .cell∧((cellsFrom (s.heap.objs.size+1) scope.names []).lookup y.1).isSome=true):=fun⟨n,v⟩ hy=>by
  rcases S.par n (List.of_mem_zip hy).1 with q | q
  ·exact .inl q
  ·exact .inr ⟨q,PySem.W.cellsFrom_some _ _ _ (.inl q)⟩
 refine codeAny_call_function hr.depth (KX _ _ lk) rfl S.co S.gen rfl (PySem.W.codeRec_of KX hcd) (hb _ _ _ _ ?_);refine wpAny_newFunctionEnv_cells S.kind hkind fun env he s1 x=>?_;subst he;refine⟨lim.keeps x.toInCall.keep,codeAny_func ?_⟩;obtain⟨t,ht,hq⟩:=hbody A outer s H vs Q E (hr.deeper _) hsp;have I:Inv (Ca CX P w K mg base N qual scope f cdv A outer s H E) [] (start N vs) H s1:=YV S hr.hd e0 hl r x;refine ai (ht [] s1 (start N vs) H _ I hq) (fun fl s' hs=>?_) fun e s' hs=>hs;have fin:∀ {σ':St} {H':Hp} {v:V} {u:Value},Inv (Ca CX P w K mg base N qual scope f cdv A outer s H E) [] σ' H' s'→RelV v u→Q v H'→CE outer P w H s Q u s' :=
  fun {σ' H' v u} J rv q=>⟨v,H',J.os,J.bare,J.base,J.Ap,rv,q⟩
 cases fl with
 |ret u =>
  obtain⟨v,σ',H',J,rv,q⟩:=hs;exact fin J rv q
 |next =>
  obtain⟨σ',H',J,q⟩:=hs;exact fin (v:=V.A7) (u:=Value.none) J rfl q
 |brk =>
  obtain⟨_,_,_,q⟩:=hs;exact False.elim q
 |cont =>
  obtain⟨_,_,_,q⟩:=hs;exact False.elim q
section
variable{X:Cx}{x:Str}{p pos:Pos}{e:Expr}{es:List Expr}{t:TA}{id T:String}{r:List V→Hp→VK→Prop}
def lP(r:List V→Hp→VK→Prop)(t:TA):TE:=fun σ H Q=>t σ H fun vs H1=>r vs H1 Q
theorem CS(hc:D3 X (.builtin id) r)(hg:Gl X x)(hm:X.mg x=none)(hv:bootBuiltins x=some (.builtin id))(ha:PA X (e::es) t)(hn:x ≠ "__name__" := by decide)(hdb:(x==("__debug__" : Str))=false:=by decide)
 (he:starEach (e::es) X.env=(false,eval e X.env)::starEach es X.env:=by rfl)(hpl:(backTo pos (starEach es X.env)).any (·.1)=false:=by rfl):PE X (.Call (.Name x p) (e::es) [] pos) (lP r t):=by
 intro pins s σ H Q I h;refine wpAny_Call_Name_kw (FL I hg hm hv ?_ hn hdb);exact PyProof.Rows.callWith_builtin1 (BB (ha pos pins s σ H _ I h) fun us s1 ⟨vs,H1,I1,r1,q1⟩=>hc pins s1 σ H1 vs us Q I1 r1 q1) he hpl
theorem RF(hc:D3 X (.type T) r)(hg:Gl X x)(hm:X.mg x=none)(hv:bootBuiltins x=some (.type T))(ha:PA X (e::es) t)(hn:x ≠ "__name__" := by decide)(hdb:(x==("__debug__" : Str))=false:=by decide)
 (he:starEach (e::es) X.env=(false,eval e X.env)::starEach es X.env:=by rfl)(hpl:(backTo pos (starEach es X.env)).any (·.1)=false:=by rfl):PE X (.Call (.Name x p) (e::es) [] pos) (lP r t):=by
 intro pins s σ H Q I h;refine wpAny_Call_Name_kw (FL I hg hm hv ?_ hn hdb);exact au (BB (ha pos pins s σ H _ I h) fun us s1 ⟨vs,H1,I1,r1,q1⟩=>hc pins s1 σ H1 vs us Q I1 r1 q1) he hpl
end
end L2
namespace HT
open PySem PyProof.Rows
section
variable{prog:Program}{w:World}{A:Around}{E:Value→Shared→Prop}{s:Shared}
theorem eR{t b:Addr}{vs ws:List Value}{Q:Value→Shared→Prop}(ht:IsTup s.heap t vs.toArray)(hb:IsTup s.heap b ws.toArray)(hv:vs≠[])
 (h1:ws=[]→Q (.ref t) s)(h2:ws≠[]→Q (.ref s.heap.objs.size) { s with heap:=s.heap.push { cls:=.type "tuple",data:=.seq (vs++ws).toArray } })
 (hsz:vs.length+ws.length≤sizeLine):wpAny (model prog w) A (binaryOp .Add (.ref t) (.ref b)) Q E s:=by
 obtain⟨⟨cls,dd,data,sl⟩,ho,hc,n,hd⟩:=id ht;obtain⟨⟨cls2,dd2,data2,sl2⟩,ho2,hc2,n2,hd2⟩:=id hb;simp only at hc hd hc2 hd2;subst hc hd hc2 hd2;have e:vs.toArray++ws.toArray=(vs++ws).toArray:=by simp
 by_cases hw:ws=[]
 ·exact concat_meets ⟨_,ho,rfl⟩ ⟨_,ho2,rfl⟩ noFill_tuple_add seq_tuple_add PySem.F.slot_tuple_add PySem.F.entry_tuple_add (PySem.F.args_tuple_add_2 _ _)
   (tuple_addW1 t b vs.toArray ws.toArray n n2 dd dd2 sl sl2 (by simpa using hv) (by simp [hw])) ⟨ho,ho2,h1 hw⟩
 ·refine concat_meets ⟨_,ho,rfl⟩ ⟨_,ho2,rfl⟩ noFill_tuple_add seq_tuple_add PySem.F.slot_tuple_add PySem.F.entry_tuple_add (PySem.F.args_tuple_add_2 _ _)
   (tuple_addW2 t b vs.toArray ws.toArray n n2 dd dd2 sl sl2 (by simpa using hv) (by simpa using hw) (by rw [List.size_toArray,List.size_toArray];exact hsz)) ⟨ho,ho2,?_⟩
  rw [e];exact h2 hw
def Bd(n d:Nat):Option Int→Nat
 |none=>d
 |some v=>if v<0 then(v+(n:Int)).toNat else min v.toNat n
theorem hZ(n d:Nat)(hd:d≤n)(o:Option Int):Bd n d o≤n:=by
 cases o with
 |none=>exact hd
 |some v =>
  show(if v<0 then(v+(n:Int)).toNat else min v.toNat n)≤n;by_cases hv:v<0
  ·rw [if_pos hv];omega
  ·rw [if_neg hv];exact Nat.min_le_right _ _
theorem U7(v:Int)(n d:Nat):(if v<0 then max (v+(n:Int)) 0 else min v (n:Int))=((Bd n d (some v):Nat):Int):=by
 show(if v<0 then max (v+(n:Int)) 0 else min v (n:Int))=(((if v<0 then(v+(n:Int)).toNat else min v.toNat n):Nat):Int);by_cases hv:v<0
 ·simp only [if_pos hv];omega
 ·simp only [if_neg hv];omega
theorem V4(lo hi:Option Int)(n:Nat):Builtin.Slice.sliceAdjust lo hi 1 (n:Int)=(((Bd n 0 lo:Nat):Int),((Bd n n hi:Nat):Int)):=by
 have h1:¬((1:Int)<0):=by omega
 unfold Builtin.Slice.sliceAdjust;simp only [h1,if_false];refine Prod.ext ?_ ?_
 ·cases lo with
  |none=>rfl
  |some v=>exact U7 v n 0
 ·cases hi with
  |none=>rfl
  |some v=>exact U7 v n n
theorem WU(i j:Nat):Builtin.Slice.slicePlaces (i:Int) (j:Int) 1=j-i:=by
 unfold Builtin.Slice.slicePlaces;have h1:(1:Int) > 0:=by omega
 simp only [h1,if_true,Int.ediv_one];split<;>omega
theorem PC{v:Value}{o:Option Int}{Q:Option Int→Shared→Prop}(p:IsPart v o)(h:Q o s):wpAny (model prog w) A (Builtin.Slice.slicePartIndex v) Q E s:=by
 cases p with
 |none=>exact slicePart_none h
 |int i t=>exact slicePart_int h
theorem Nr{sl:Addr}{vl vu:Value}{lo hi:Option Int}{n:Nat}{Q:Int×Int×Nat→Shared→Prop}(hs:s.heap.IsSliceOf sl vl vu .none)(pl:IsPart vl lo)(pu:IsPart vu hi)
 (h:Q (((Bd n 0 lo:Nat):Int),1,Bd n n hi-Bd n 0 lo) s):wpAny (model prog w) A (Builtin.Slice.sliceApplied (.ref sl) (pure (n:Int))) Q E s:=by
 obtain⟨os,hos,hcs,hds⟩:=id hs;unfold Builtin.Slice.sliceApplied Builtin.Slice.sliceFields;refine Wb (Wb (ao hos hds (x:=vl) rfl (Wb (ao hos hds (x:=vu) rfl (Wb (ao hos hds (x:=.none) rfl (aA ?_)))))));refine Wb (slicePart_none ?_);show wpAny _ _ (if((1:Int)==0)=true then _ else _) _ _ s;rw [if_neg (by decide)];refine Wb (PC pl (Wb (PC pu (Wb (aA ?_)))));show wpAny _ _ (match Builtin.Slice.sliceAdjust lo hi 1 (n:Int) with | (lo,hi)=>pure (lo,(1:Int),Builtin.Slice.slicePlaces lo hi 1)) _ _ s;rw [V4 lo hi n];show wpAny _ _ (pure (((Bd n 0 lo:Nat):Int),(1:Int),Builtin.Slice.slicePlaces ((Bd n 0 lo:Nat):Int) ((Bd n n hi:Nat):Int) 1)) _ _ s;rw [WU];exact aA h
theorem ZE(xs:Array Value)(i k:Nat):((List.range k).filterMap fun(m:Nat)=>xs[((i:Int)+(m:Int)*1).toNat]?).toArray=((xs.toList.drop i).take k).toArray:=by
 have e:(fun(m:Nat)=>xs[((i:Int)+(m:Int)*1).toNat]?)=fun m=>xs[i+m]? := by
  funext m
  have:((i:Int)+(m:Int)*1).toNat=i+m:=by omega
  rw [this]
 rw [e];have:=pick_run xs i k;rw [List.filterMap_map]at this;have e2:((fun x=>xs[x]?) ∘ fun x=>i+x)=fun m=>xs[i+m]?:=rfl;rw [e2]at this;rw [this]
theorem NG{t sl:Addr}{items:Array Value}{vl vu:Value}{lo hi:Option Int}{Q:Value→Shared→Prop}(ht:IsTup s.heap t items)(hs:s.heap.IsSliceOf sl vl vu .none)(pl:IsPart vl lo)(pu:IsPart vu hi)
 (hw:¬(Bd items.size 0 lo=0∧Bd items.size items.size hi=items.size))
 (h:Q (.ref s.heap.objs.size) { s with heap:=s.heap.push { cls:=.type "tuple",data:=.seq ((items.toList.drop (Bd items.size 0 lo)).take (Bd items.size items.size hi-Bd items.size 0 lo)).toArray } })
 (hsz:items.size≤sizeLine):wpAny (model prog w) A (getItem (.ref t) (.ref sl)) Q E s:=by
 have htake:sizeOk (.seq ((items.toList.drop (Bd items.size 0 lo)).take (Bd items.size items.size hi-Bd items.size 0 lo)).toArray):=by
  show((items.toList.drop (Bd items.size 0 lo)).take (Bd items.size items.size hi-Bd items.size 0 lo)).toArray.size≤sizeLine;rw [List.size_toArray,List.length_take,List.length_drop,Array.length_toList];omega
 have hj:Bd items.size items.size hi≤items.size:=hZ _ _ (aJ _) hi;obtain⟨os,hos,hcs,hds⟩:=id hs;have hTs:s.TypeIs (.ref sl) "slice" := ⟨os,hos,hcs⟩;unfold getItem
 try with_reducible refine aQ ?_
 first | refine Wb (aA ?_) | skip
 refine Wb (wpAny_sequenceKey ht.typeIs (by decide) ?_);refine Wb (aj (name:=Str.ofString "__getitem__") ht.typeIs PyProof.Rows.slot_tuple_getitem
  (aW PyProof.Rows.slot_tuple_getitem ht.typeIs entry_tuple_getitem ?_ (args_tuple_getitem _ _)))
 show wpAny _ _ (Builtin.Tuple.tupleItemsOf (.ref t)>>=_) _ _ s;refine Wb (tupleItemsOf_ ht ?_);refine Wb (wpAny_typeOf hTs ?_);rw [if_pos (by decide)];refine Wb (Nr hs pl pu ?_);have hno:¬((((Bd items.size 0 lo:Nat):Int)==0&&(1:Int)==1&&(Bd items.size items.size hi-Bd items.size 0 lo)==items.size)=true):=by
  intro q;rw [Bool.and_eq_true,Bool.and_eq_true]at q;have q1:((Bd items.size 0 lo:Nat):Int)=0:=eq_of_beq q.1.1;have q2:Bd items.size items.size hi-Bd items.size 0 lo=items.size:=eq_of_beq q.2;exact hw ⟨by omega,by omega⟩
 show wpAny _ _ (if(((Bd items.size 0 lo:Nat):Int)==0&&(1:Int)==1&&(Bd items.size items.size hi-Bd items.size 0 lo)==items.size)=true then _ else _) _ _ s;rw [if_neg hno,ZE]
 first
  |exact Wb (m:=Builtin.Tuple.tupleExact _) (ay (aA ⟨_,rfl,wpAny_pure h⟩) htake)
  |exact Wb (m:=Builtin.Tuple.tupleExact _) (ay (Wb (aA (aA ⟨_,rfl,wpAny_pure h⟩))) htake)
  |exact Wb (Wb (m:=Builtin.Tuple.tupleExact _) (ay (aA (aA ⟨_,rfl,wpAny_pure h⟩)) htake))
  |exact Wb (Wb (m:=Builtin.Tuple.tupleExact _) (ay (aA ⟨_,rfl,wpAny_pure h⟩) htake))
end
end HT
namespace L2
open PySem PySem.Spec PyProof.Rows
abbrev TO:=St→Hp→(Option Int→Hp→Prop)→Prop
def PO(X:Cx)(e:Option Expr)(t:TO):Prop :=
 ∀(pins:List (Addr×Obj)) (s:Shared) (σ:St) (H:Hp) (Q:Option Int→Hp→Prop),Inv X pins σ H s→t σ H Q →
  wpAny (model X.prog X.w) X.A (evalPart e X.env) (fun u s'=>∃o H',Inv X pins σ H' s'∧IsPart u o∧Q o H') X.xe s
def eP:TO:=fun _ H Q=>Q none H
def jl(t:TE):TO:=fun σ H Q=>t σ H fun x H1=>∃i,x=.int i∧Q (some i) H1
theorem intsAre_of{ns:List Int}:∀ {us:List Value},Vals (ns.map V.int) us→IntsAre us ns:=by
 induction ns with
 |nil=>intro us r;rw [List.map_nil]at r;cases r;exact .nil
 |cons n ns ih =>
  intro us r;rw [List.map_cons]at r;cases r with
  |cons r1 r2 =>
   obtain⟨t,e⟩:=r1;subst e;exact .cons n t (ih r2)
section
variable{X:Cx}{e:Expr}{te:TE}{lo hi:Option Expr}{tl th:TO}{pos p2:Pos}
theorem df:PO X none eP:=by
 intro pins s σ H Q I h;rw [evalPart_none];exact aA ⟨none,H,I,.none,h⟩
theorem dz(h:PE X e te):PO X (some e) (jl te):=by
 intro pins s σ H Q I hw;rw [evalPart_some];refine BB (h pins s σ H _ I hw) fun u s1 ⟨x,H1,I1,r1,q1⟩=>?_;obtain⟨i,rfl,q⟩:=q1;obtain⟨t,rfl⟩:=r1;exact⟨some i,H1,I1,.int i t,q⟩
def UP(X:Cx)(r:V→Option Int→Option Int→Hp→VK→Prop):Prop :=
 ∀(pins:List (Addr×Obj)) (s:Shared) (σ:St) (H:Hp) (x:V) (v vl vu:Value) (lo hi:Option Int) (sl:Addr) (Q:VK),Inv X pins σ H s→RelV x v→s.heap.IsSliceOf sl vl vu .none→IsPart vl lo→IsPart vu hi→r x lo hi H Q →
  ∃T id,typeLookup (.type T) "__getitem__" = pure (some (.builtin id))∧s.TypeIs v T∧wpAny (model X.prog X.w) X.A (getItem v (.ref sl)) (EP X pins σ Q) X.xe s
theorem UP.or{r r':V→Option Int→Option Int→Hp→VK→Prop}(h:UP X r)(h':UP X r'):UP X (fun x lo hi H Q=>r x lo hi H Q∨r' x lo hi H Q):=by
 intro pins s σ H x v vl vu lo hi sl Q I rx hs pl pu q;rcases q with q | q
 ·exact h pins s σ H x v vl vu lo hi sl Q I rx hs pl pu q
 ·exact h' pins s σ H x v vl vu lo hi sl Q I rx hs pl pu q
def nJ(r:V→Option Int→Option Int→Hp→VK→Prop)(te:TE)(tl th:TO):TE:=fun σ H Q=>te σ H fun x H1=>tl σ H1 fun l H2=>th σ H2 fun u H3=>r x l u H3 Q
theorem Z9{r:V→Option Int→Option Int→Hp→VK→Prop}(hr:UP X r)(he:PE X e te)(hl:PO X lo tl)(hu:PO X hi th):PE X (.Subscript e (.Slice lo hi none p2) pos) (nJ r te tl th):=by
 intro pins s σ H Q I h;refine Subscript_ (BB (he pins s σ H _ I h) fun v s1 ⟨x,H1,I1,r1,q1⟩=>?_);refine wpAny_Slice (BB (hl pins s1 σ H1 _ I1 q1) fun vl s2 ⟨l,H2,I2,pl,q2⟩=>BB (hu pins s2 σ H2 _ I2 q2) fun vu s3 ⟨u,H3,I3,pu,q3⟩=>?_);rw [evalPart_none];refine aA ?_;have I4:Inv X pins σ H3 { s3 with heap:=s3.heap.push { cls:=.type "slice",data:=.fields #[vl,vu,.none] } }:=I3.kept (t':=s3.toks) fun b ob q=>aD _ q;obtain⟨T,id,hT,ht,hg⟩:=hr pins { s3 with heap:=s3.heap.push { cls:=.type "slice",data:=.fields #[vl,vu,.none] } } σ H3 x v vl vu l u s3.heap.objs.size Q I4 r1 (Heap.IsSliceOf.new ..) pl pu q3;show wpAny (model X.prog X.w) X.A (subscriptTail e (.Slice lo hi none p2) v (.ref s3.heap.objs.size)) (EP X pins σ Q) X.xe { s3 with heap:=s3.heap.push { cls:=.type "slice",data:=.fields #[vl,vu,.none] } };exact tail_any (ops:=[.ref s3.heap.objs.size,v]) ht hT hg (by with_unfolding_all rfl)
def L3(xs:List V)(lo hi:Option Int):List V:=(xs.drop (HT.Bd xs.length 0 lo)).take (HT.Bd xs.length xs.length hi-HT.Bd xs.length 0 lo)
theorem NH(xs:List V)(lo hi:Option Int):(L3 xs lo hi).length≤xs.length:=by
 unfold L3;rw [List.length_take,List.length_drop];omega
def mW(K:Fg):V→Option Int→Option Int→Hp→VK→Prop:=fun x lo hi H Q=>∃a xs,x=.ref a∧A8 K H a xs ∧
 ¬(HT.Bd xs.length 0 lo=0∧HT.Bd xs.length xs.length hi=xs.length)∧∀p,H p=none→Q (.ref p) (upd H p (.tup (L3 xs lo hi)))
theorem jB:UP X (mW X.K):=by
 intro pins s σ H x v vl vu lo hi sl Q I rx hs pl pu h;obtain⟨a,xs,rfl,hx,hw,q⟩:=h;cases rx;obtain⟨its,r,ht,hz⟩:=I.tuple hx;have hlen:its.toArray.size=xs.length:=by rw [List.size_toArray];exact r.length.symm
 refine⟨"tuple",_,PyProof.Rows.slot_tuple_getitem.lookup,ht.typeIs,?_⟩;refine HT.NG ht hs pl pu (by rw [hlen];exact hw) ?_ (by rw [hlen];exact hz);rw [hlen];refine⟨.ref s.heap.objs.size,_,I.laid (t':=s.toks) (o:=.tup (L3 xs lo hi)) (fun b ob q=>aD _ q) (aJ _) ?_,rfl,q _ (I.Ap.fresh (aJ _))⟩;exact⟨aa (NH xs lo hi) hz,_,(r.drop (HT.Bd xs.length 0 lo)).take (HT.Bd xs.length xs.length hi-HT.Bd xs.length 0 lo),IsTup.new _ _⟩
theorem Vals.Ut{xs:List V}{us:List Value}(r:Vals xs us):us=[] ↔ xs=[]:=by
 cases r with
 |nil=>simp
 |cons _ _=>simp
end
def MK(n:Nat)(i:Int):Option Nat:=if 0≤i then(if i<n then some i.toNat else none) else if -(n:Int)≤i then some (i+n).toNat else none
def Fu{α:Type}(xs:List α)(i:Int):Option α:=(MK xs.length i).bind fun j=>xs[j]?
theorem U8{n:Nat}{i:Int}{j:Nat}(h:MK n i=some j):seqIndex? i n=some j∧j<n∧-(n:Int)≤i∧i<n:=by
 unfold MK at h;by_cases h0:0≤i
 ·rw [if_pos h0]at h;by_cases h1:i<n
  ·rw [if_pos h1]at h;have e:i.toNat=j:=aY h;exact⟨by rw [seqIndex_of h0 h1,e],by omega,by omega,h1⟩
  ·rw [if_neg h1]at h;cases h
 ·rw [if_neg h0]at h;by_cases h1:-(n:Int)≤i
  ·rw [if_pos h1]at h;have e:(i+n).toNat=j:=aY h;exact⟨by rw [seqIndex_neg (by omega) h1,e],by omega,h1,by omega⟩
  ·rw [if_neg h1]at h;cases h
theorem Px{α:Type}{xs:List α}{i:Int}{v:α}(h:Fu xs i=some v):∃j,seqIndex? i xs.length=some j∧xs[j]? = some v∧j<xs.length∧-(xs.length:Int)≤i∧i<xs.length:=by
 unfold Fu at h;cases e:MK xs.length i with
 |none=>rw [e]at h;cases h
 |some j =>
  rw [e]at h;obtain⟨h1,h2,h3,h4⟩:=U8 e;exact⟨j,h1,h,h2,h3,h4⟩
theorem Ea{α:Type}{xs:List α}{j:Nat}{v:α}(h:xs[j]? = some v):Fu xs (j:Int)=some v:=by
 have hj:j<xs.length:=(aE.mp h).1;have e:MK xs.length (j:Int)=some j:=by
  unfold MK;rw [if_pos (by omega),if_pos (by omega)];simp
 unfold Fu;rw [e];exact h
def Qi(b:Expr):Prop:=∀o i,subscripted b false o i=operate [o,i] (getItem o i)
def NT(X:Cx)(r:R2):Prop :=
 ∀(value slice:Expr) (pins:List (Addr×Obj)) (s:Shared) (σ:St) (H:Hp) (x y:V) (v u:Value) (Q:VK),Inv X pins σ H s→RelV x v→RelV y u→r x y H Q →
  subscripted slice false v u=operate [v,u] (getItem v u)→wpAny (model X.prog X.w) X.A (subscriptTail value slice v u) (EP X pins σ Q) X.xe s
def iI(X:Cx)(id:String)(r:V→List V→Hp→VK→Prop):Prop :=
 ∀(pins:List (Addr×Obj)) (s:Shared) (σ:St) (H:Hp) (x:V) (xs:List V) (v:Value) (us:List Value) (Q:VK),Inv X pins σ H s→RelV x v→Vals xs us→r x xs H Q →
  wpAny (model X.prog X.w) X.A (call (.builtin id) (v::us)) (EP X pins σ Q) X.xe s
section
variable{X:Cx}{a b:Expr}{ta tb:TE}{pos:Pos}
theorem NT.or{r r':R2}(h:NT X r)(h':NT X r'):NT X (fun x y H Q=>r x y H Q∨r' x y H Q):=by
 intro value slice pins s σ H x y v u Q I rx ry q hs;rcases q with q | q
 ·exact h value slice pins s σ H x y v u Q I rx ry q hs
 ·exact h' value slice pins s σ H x y v u Q I rx ry q hs
theorem EI{r:R2}(hr:NT X r)(ha:PE X a ta)(hb:PE X b tb)(hs:Qi b):PE X (.Subscript a b pos) (YO r ta tb):=by
 intro pins s σ H Q I h;exact Subscript_ (Z4 ha hb I h fun v u s2 x y H2 I2 rx ry q=>hr a b pins s2 σ H2 x y v u Q I2 rx ry q (hs _ _))
def gu(K:Fg):R2:=fun x y H Q=>∃p xs i v,x=.ref p∧y=.int i∧A4 K H p xs∧Fu xs i=some v∧Q v H
def Z3(K:Fg):R2:=fun x y H Q=>∃p xs i v,x=.ref p∧y=.int i∧A8 K H p xs∧Fu xs i=some v∧Q v H
def iY:R2:=fun x y H Q=>∃z i c,x=.str z∧y=.int i∧z.length≤sizeLine∧Fu z.cps.toList i=some c∧Q (.str ⟨#[c]⟩) H
theorem Va:NT X (gu X.K):=by
 intro value slice pins s σ H x y v u Q I rx ry h hs;obtain⟨p,xs,i,z,rfl,rfl,hq,he,q⟩:=h;cases rx;obtain⟨t,rfl⟩:=ry;obtain⟨its,r,pl,hz⟩:=I.list hq;obtain⟨j,h1,h2,h3,h4,h5⟩:=Px he;obtain⟨w,ew,rw'⟩:=r.get h2;have hl:=r.length;have hn:=Kk;have fin:EP X pins σ Q w s:=⟨z,H,I,rw',q⟩;by_cases h0:0≤i
 ·have hj:i.toNat=j:=by
   rw [seqIndex_of h0 h5]at h1;exact aY h1
  exact item_listR pl.isList h0 (by omega) (by rw [hj];simpa using ew) fin hs
 ·have hj:(i+(its.toArray.size:Int)).toNat=j:=by
   rw [seqIndex_neg (by omega) h4]at h1;rw [List.size_toArray,←hl];exact aY h1
  exact subscriptTail_builtinR (x:=w) pl.isList.typeIs slot_list_getitem.lookup
   (wpAny_getItem_list_neg (Q:=fun r s'=>r=w∧EP X pins σ Q r s') pl.isList (by omega) (by rw [List.size_toArray]<;>omega) (by omega) (by rw [hj];simpa using ew) ⟨rfl,fin⟩) hs
theorem EL:NT X (Z3 X.K):=by
 intro value slice pins s σ H x y v u Q I rx ry h hs;obtain⟨p,xs,i,z,rfl,rfl,hq,he,q⟩:=h;cases rx;obtain⟨t,rfl⟩:=ry;obtain⟨its,r,pl,hz⟩:=I.tuple hq;obtain⟨j,h1,h2,h3,h4,h5⟩:=Px he;obtain⟨w,ew,rw'⟩:=r.get h2;have hl:=r.length;have hn:=Kk;have fin:EP X pins σ Q w s:=⟨z,H,I,rw',q⟩;exact subscriptTail_builtinR (x:=w) pl.typeIs slot_tuple_getitem.lookup
  (getItem_tuple (j:=j) (Q:=fun r s'=>r=w∧EP X pins σ Q r s') pl (by omega) (by omega) (by rw [List.size_toArray,←hl];exact h1) (by simpa using ew) ⟨rfl,fin⟩) hs
theorem jA:NT X iY:=by
 intro value slice pins s σ H x y v u Q I rx ry h hs;obtain⟨z,i,c,rfl,rfl,hz,he,q⟩:=h;obtain⟨t,rfl⟩:=rx;obtain⟨t',rfl⟩:=ry;obtain⟨j,h1,h2,h3,h4,h5⟩:=Px he;have hl:z.cps.toList.length=z.length:=by simp [Str.length]
 rw [hl]at h1 h4 h5;have hn:=Kk;exact tail_any (typeIs_str s z t) slot_str_getitem.lookup (getItem_str (c:=c) (by
  have e1:decide (i < -(2 ^ 63:Int))=false:=bE (by omega);have e2:decide (i ≥ 2 ^ 63)=false:=bE (by omega);rw [e1,e2,Bool.or_false]) (by rw [h1];simpa using h2) ⟨.str ⟨#[c]⟩,H,I.tok _,⟨_,rfl⟩,q⟩) hs
def nV(K:Fg):R2:=fun x y H Q=>gu K x y H Q∨Z3 K x y H Q∨iY x y H Q
theorem g9:NT X (nV X.K):=Va.or (EL.or jA)
theorem Wq(its:List Value)(n j:Nat)(u:Value):Obj.mapSeq (·.setIfInBounds j u) { cls:=.type "list",data:=.seq its.toArray n }={ cls:=.type "list",data:=.seq (its.set j u).toArray n }:=by
 simp [Obj.mapSeq]
theorem Inv.lst{pins:List (Addr×Obj)}{σ:St}{H:Hp}{s:Shared}{p:Addr}{xs:List V}(I:Inv X pins σ H s)(h:H p=some (.lst xs)) :
  ∃(its:List Value) (n:Nat),Vals xs its∧s.heap.get? p=some { cls:=.type "list",data:=.seq its.toArray n }∧xs.length≤sizeLine:=by
 obtain⟨z,its,n,r,e⟩:=I.Ap p _ h;exact⟨its,n,r,e,z⟩
theorem Inv.gp{pins:List (Addr×Obj)}{σ:St}{H:Hp}{s:Shared}{p:Addr}{xs ys:List V}{its its':List Value}{n n':Nat}{f:Obj→Obj}(I:Inv X pins σ H s)(h:H p=some (.lst xs))
 (ho:s.heap.get? p=some { cls:=.type "list",data:=.seq its.toArray n })(hf:f { cls:=.type "list",data:=.seq its.toArray n }={ cls:=.type "list",data:=.seq its'.toArray n' })(r:Vals ys its')(hz:ys.length≤sizeLine)(t:Nat) :
  Inv X pins σ (upd H p (.lst ys)) { s with heap:=s.heap.update p f,toks:=t }:=by
 have e:(s.heap.update p f).get? p=some { cls:=.type "list",data:=.seq its'.toArray n' }:=by
  rw [Heap.get?_update_self f ho (by rw [hf]<;>rfl),hf]
 refine I.write (x:=p) (e:=p) (by rw [h];trivial) (.inl rfl) (fun b u hb q=>(Heap.get?_update_other _ _ (Ne.symm hb)).trans q) ⟨_,e⟩ ?_;exact⟨hz,its',n',r,e⟩
def b0:V→V→V→Hp→(Hp→Prop)→Prop:=fun o i v H Q=>∃p xs k j,o=.ref p∧i=.int k∧H p=some (.lst xs)∧MK xs.length k=some j∧Q (upd H p (.lst (xs.set j v)))
theorem set_list:ZP X b0:=by
 intro pins s σ H o i v ov iv u Q I ro ri rv h;obtain⟨p,xs,k,j,rfl,rfl,hp,hj,q⟩:=h;cases ro;obtain⟨t,rfl⟩:=ri;obtain⟨its,n,r,ho,hz⟩:=I.lst hp;obtain⟨h1,h2,h3,h4⟩:=U8 hj;have hl:=r.length;have hn:=Kk;have I':Inv X pins σ (upd H p (.lst (xs.set j v))) { s with heap:=s.heap.update p (Obj.mapSeq (·.setIfInBounds j u)) } :=
  I.gp hp ho (Wq its n j u) (r.set rv j) (by rw [List.length_set];exact hz) s.toks
 by_cases h0:0≤k
 ·have hk:k.toNat=j:=by
   rw [seqIndex_of h0 h4]at h1;exact aY h1
  exact PySem.W.ki_setAt ho h0 (by omega) (by rw [List.size_toArray,←hl];exact h4) (by rw [hk];exact⟨_,I',q⟩)
 ·have hk:(k+(its.toArray.size:Int)).toNat=j:=by
   rw [seqIndex_neg (by omega) h3]at h1;rw [List.size_toArray,←hl];exact aY h1
  exact PySem.W.ki_setBack ho (by omega) (by rw [List.size_toArray,←hl];exact h3) (by omega) (by rw [hk];exact⟨_,I',q⟩)
theorem TB(lo hi:Option Int)(n:Nat):(sliceBounds lo hi none n).1=((HT.Bd n 0 lo:Nat):Int)∧(sliceBounds lo hi none n).2.1=((HT.Bd n n hi:Nat):Int)∧(sliceBounds lo hi none n).2.2=1:=by
 refine⟨?_,?_,rfl⟩
 ·cases lo with
  |none=>simp [sliceBounds,HT.Bd]
  |some i =>
   simp only [sliceBounds,HT.Bd,Option.getD_none,show(1:Int) > 0 by decide,if_true];by_cases h:i<0
   ·simp only [h,if_true]<;>omega
   ·simp only [h,if_false]<;>omega
 ·cases hi with
  |none=>simp [sliceBounds,HT.Bd]
  |some i =>
   simp only [sliceBounds,HT.Bd,Option.getD_none,show(1:Int) > 0 by decide,if_true];by_cases h:i<0
   ·simp only [h,if_true]<;>omega
   ·simp only [h,if_false]<;>omega
theorem Rh(its:List Value)(lo hi:Option Int):slicePick its.toArray lo hi none=((its.drop (HT.Bd its.length 0 lo)).take (HT.Bd its.length its.length hi-HT.Bd its.length 0 lo)).toArray:=by
 obtain⟨h1,h2,h3⟩:=TB lo hi its.toArray.size;unfold slicePick;rw [h1,h2,h3];simp only [sliceRange_one,pick_run,List.size_toArray]<;>rfl
def mZ(K:Fg):V→Option Int→Option Int→Hp→VK→Prop:=fun x lo hi H Q=>∃a xs,x=.ref a∧A4 K H a xs∧∀p,H p=none→Q (.ref p) (upd H p (.lst (L3 xs lo hi)))
theorem dB:UP X (mZ X.K):=by
 intro pins s σ H x v vl vu lo hi sl Q I rx hs pl pu h;obtain⟨a,xs,rfl,hx,q⟩:=h;cases rx;obtain⟨its,r,ht,hz⟩:=I.list hx;have hlen:=r.length;refine⟨"list",_,slot_list_getitem.lookup,ht.isList.typeIs,?_⟩;refine wpAny_getItem_list_slice ht.isList hs pl pu .none (by simp) ?_ (by rw [List.size_toArray]<;>omega);rw [Rh,←hlen];refine⟨.ref s.heap.objs.size,_,I.laid (t':=s.toks) (o:=.lst (L3 xs lo hi)) (fun b ob q=>aD _ q) (aJ _) ?_,rfl,q _ (I.Ap.fresh (aJ _))⟩;exact⟨aa (NH xs lo hi) hz,_,0,(r.drop (HT.Bd xs.length 0 lo)).take (HT.Bd xs.length xs.length hi-HT.Bd xs.length 0 lo),Heap.get?_push_size _ rfl⟩
def Ie:V→Bool
 |.A7=>true
 |.bl _=>true
 |.int _=>true
 |.str _=>true
 |_=>false
def Qk:V→V→Bool
 |.A7,.A7=>true
 |.bl a,.bl b=>a==b
 |.bl a,.int b=>(if a then 1 else 0)==b
 |.int a,.bl b=>a==(if b then 1 else 0)
 |.int a,.int b=>a==b
 |.str a,.str b=>a==b
 |_,_=>false
theorem jD{A:Around}{s:Shared}{y x:V}{u v:Value}(ry:RelV y u)(rx:RelV x v)(fy:Ie y=true)(fx:Ie x=true):SeqAt.EqAt A s u v (Qk y x):=by
 cases y with
 |A7 =>
  cases ry;cases x with
  |A7=>cases rx;exact SeqAt.EqAt.same _
  |bl b=>cases rx;exact SeqAt.EqAt.none_bool b
  |int b=>obtain⟨t,rfl⟩:=rx;exact SeqAt.EqAt.none_int b t
  |str b=>obtain⟨t,rfl⟩:=rx;exact SeqAt.EqAt.none_str b t
  |_=>exact absurd (show false=true from fx) aK
 |bl a =>
  cases ry;cases x with
  |A7=>cases rx;exact SeqAt.EqAt.bool_none a
  |bl b=>cases rx;exact SeqAt.EqAt.bool_bool a b
  |int b=>obtain⟨t,rfl⟩:=rx;exact SeqAt.EqAt.bool_int a b t
  |str b=>obtain⟨t,rfl⟩:=rx;exact SeqAt.EqAt.bool_str a b t
  |_=>exact absurd (show false=true from fx) aK
 |int a =>
  obtain⟨t',rfl⟩:=ry;cases x with
  |A7=>cases rx;exact SeqAt.EqAt.int_none a t'
  |bl b=>cases rx;exact SeqAt.EqAt.int_bool a t' b
  |int b=>obtain⟨t,rfl⟩:=rx;exact SeqAt.EqAt.int_int a t' b t
  |str b=>obtain⟨t,rfl⟩:=rx;exact SeqAt.EqAt.int_str a t' b t
  |_=>exact absurd (show false=true from fx) aK
 |str a =>
  obtain⟨t',rfl⟩:=ry;cases x with
  |A7=>cases rx;exact SeqAt.EqAt.str_none a t'
  |bl b=>cases rx;exact SeqAt.EqAt.str_bool a t' b
  |int b=>obtain⟨t,rfl⟩:=rx;exact SeqAt.EqAt.str_int a t' b t
  |str b=>obtain⟨t,rfl⟩:=rx;exact SeqAt.EqAt.str_str a t' b t
  |_=>exact absurd (show false=true from fx) aK
 |_=>exact absurd (show false=true from fy) aK
def Oz(x:V)(u:Value):Bool:=match u with
 |.none=>Qk .A7 x
 |.bool b=>Qk (.bl b) x
 |.int i _=>Qk (.int i) x
 |.str z _=>Qk (.str z) x
 |_=>false
theorem Yo{x y:V}{u:Value}(r:RelV y u)(f:Ie y=true):Oz x u=Qk y x:=by
 cases y with
 |A7=>cases r;rfl
 |bl b=>cases r;rfl
 |int i=>obtain⟨t,rfl⟩:=r;rfl
 |str z=>obtain⟨t,rfl⟩:=r;rfl
 |_=>exact absurd (show false=true from f) aK
theorem QQ{x:V}:∀ {xs:List V} {us:List Value},Vals xs us→xs.all Ie=true→us.any (Oz x)=xs.any fun y=>Qk y x
 |_,_,.nil,_=>rfl
 |y::xs,u::us,.cons r t,f=>by
  rw [List.all_cons,Bool.and_eq_true]at f;rw [List.any_cons,List.any_cons,Yo r f.1,QQ t f.2]
theorem OH{A:Around}{s:Shared}{x:V}{v:Value}(rx:RelV x v)(fx:Ie x=true):∀ {xs:List V} {us:List Value},Vals xs us→xs.all Ie=true→∀u∈us,SeqAt.EqAt A s u v (Oz x u)
 |_,_,.nil,_=>fun u hu=>by cases hu
 |y::xs,u::us,.cons r t,f=>fun u' hu=>by
  rw [List.all_cons,Bool.and_eq_true]at f;rcases aM.mp hu with rfl | hu
  ·rw [Yo r f.1];exact jD r rx f.1 fx
  ·exact OH rx fx t f.2 u' hu
def bq(x:V)(xs:List V):Bool:=xs.any fun y=>Qk y x
def lJ(K:Fg)(neg:Bool):R2:=fun x y H Q=>∃p xs,y=.ref p∧(A4 K H p xs∨A8 K H p xs)∧Ie x=true∧xs.all Ie=true∧Q (.bl (if neg then !bq x xs else bq x xs)) H
theorem UO:CY X (compareOp .NotIn) (lJ X.K true):=by
 intro pins s σ H x y v u Q I rx ry h;obtain⟨p,xs,rfl,hq,fx,fs,q⟩:=h;cases ry;rcases hq with hq | hq
 ·obtain⟨its,r,pl,hz⟩:=I.list hq;refine SeqAt.notIn_listAt (Oz x) pl.isList (fun w hw=>OH rx fx r fs w (by simpa using hw)) ⟨.bl _,H,I,rfl,?_⟩;rw [show its.toArray.any (Oz x)=its.any (Oz x) by simp,QQ r fs];exact q
 ·obtain⟨its,r,pl,hz⟩:=I.tuple hq;refine SeqAt.notIn_tupleAt (Oz x) pl (fun w hw=>OH rx fx r fs w (by simpa using hw)) ⟨.bl _,H,I,rfl,?_⟩;rw [show its.toArray.any (Oz x)=its.any (Oz x) by simp,QQ r fs];exact q
theorem MU:D3 X (.builtin "len") (fun xs H Q=>∃p ys,xs=[.ref p]∧(A4 X.K H p ys∨A8 X.K H p ys)∧Q (.int ys.length) H):=by
 intro pins s σ H xs us Q I r h;obtain⟨p,ys,rfl,hq,q⟩:=h;obtain⟨u,rfl,rx⟩:=vals1 r;cases rx;have hn:=Kk;rcases hq with hq | hq
 ·obtain⟨its,r',pl,hz⟩:=I.list hq;have hlen:=r'.length;exact Calls.call_len_list pl.isList (by simp only [List.size_toArray]<;>omega) ⟨.int ys.length,H,I.tok _,⟨s.toks+1,by rw [List.size_toArray,hlen]⟩,q⟩
 ·obtain⟨its,r',pl,hz⟩:=I.tuple hq;have hlen:=r'.length;exact len_tuple pl (by simp only [List.size_toArray]<;>omega) ⟨.int ys.length,H,I.tok _,⟨s.toks+1,by rw [List.size_toArray,hlen]⟩,q⟩
theorem D3.or{f:Value}{r r':List V→Hp→VK→Prop}(h:D3 X f r)(h':D3 X f r'):D3 X f (fun xs H Q=>r xs H Q∨r' xs H Q):=by
 intro pins s σ H xs us Q I rs q;rcases q with q | q
 ·exact h pins s σ H xs us Q I rs q
 ·exact h' pins s σ H xs us Q I rs q
theorem SQ:D3 X (.type "list") (fun xs H Q=>∃p ys,xs=[.ref p]∧(A4 X.K H p ys∨A8 X.K H p ys)∧∀l,H l=none→Q (.ref l) (upd H l (.lst ys))):=by
 intro pins s σ H xs us Q I r h;obtain⟨p,ys,rfl,hq,q⟩:=h;obtain⟨u,rfl,rx⟩:=vals1 r;cases rx;have fin:∀(its:List Value),Vals ys its→ys.length≤sizeLine→∀(h':Heap) (c':Nat),(∀b o',s.heap.get? b=some o'→h'.get? b=some o') →
   h'.get? s.heap.objs.size=some { cls:=.type "list",dict:=none,data:=.seq its.toArray c',slots:=#[] }→EP X pins σ Q (.ref s.heap.objs.size) { s with heap:=h' }:=fun its r' hz h' c' kp e =>
  ⟨.ref s.heap.objs.size,_,I.laid (t':=s.toks) kp (aJ _) (show Cd X.prog X.w _ h' _ (.lst ys) from⟨hz,its,c',r',e⟩),rfl,q _ (I.Ap.fresh (aJ _))⟩
 rcases hq with hq | hq
 ·obtain⟨its,r',pl,hz⟩:=I.list hq;have hlen:=r'.length;obtain⟨o,ho,hc,n,hd⟩:=pl.isList;exact call_list_seq p (.inl rfl) ho hc hd (fun h' c' kp e=>fin its r' hz h' c' kp e) (by simp only [List.size_toArray]<;>omega)
 ·obtain⟨its,r',pl,hz⟩:=I.tuple hq;have hlen:=r'.length;obtain⟨o,ho,hc,n,hd⟩:=pl;exact call_list_seq p (.inr rfl) ho hc hd (fun h' c' kp e=>fin its r' hz h' c' kp e) (by simp only [List.size_toArray]<;>omega)
theorem Rk:D3 X (.type "tuple") (fun xs H Q=>∃p ys,xs=[.ref p]∧((A4 X.K H p ys∧∀l,H l=none→Q (.ref l) (upd H l (.tup ys)))∨(A8 X.K H p ys∧Q (.ref p) H))):=by
 intro pins s σ H xs us Q I r h;obtain⟨p,ys,rfl,h⟩:=h;obtain⟨u,rfl,rx⟩:=vals1 r;cases rx;rcases h with ⟨hq,q⟩ | ⟨hq,q⟩
 ·obtain⟨its,r',pl,hz⟩:=I.list hq;have hlen:=r'.length;refine call_tuple_list pl.isList (fun h' kp=>?_) (by simp only [List.size_toArray]<;>omega);have I1:Inv X pins σ H { s with heap:=h' }:=I.kept (t':=s.toks) kp;have I2:Inv X pins σ (upd H h'.objs.size (.tup ys)) { s with heap:=h'.push { cls:=.type "tuple",data:=.seq its.toArray } } :=
   I1.laid (t':=s.toks) (fun b o e=>aD _ e) (aJ _) (show Cd X.prog X.w _ _ _ (.tup ys) from⟨hz,its,r',IsTup.new _ _⟩)
  exact⟨.ref h'.objs.size,_,I2,rfl,q _ (I1.Ap.fresh (aJ _))⟩
 ·obtain⟨its,r',pl,hz⟩:=I.tuple hq;exact call_tuple_same pl ⟨.ref p,H,I,rfl,q⟩
def lK(K:Fg)(T:String)(x:V)(H:Hp):Prop:=match x with
 |.str _=>T = "str"
 |.int _=>T = "int"
 |.ref p=>(T = "list" ∧ ∃xs,A4 K H p xs)∨(T = "tuple" ∧ ∃o,K.lookup p=some o∧o.cls=.type "tuple" ∧ o.dict=none) ∨
   (T = "dict" ∧((∃kvs,H p=some (.dK kvs))∨∃kvs,H p=some (.dT kvs)))∨(T = "set" ∧ ∃S n,H p=some (.set S n))
 |_=>False
theorem jT{pins:List (Addr×Obj)}{σ:St}{H:Hp}{s:Shared}{T:String}{x:V}{v:Value}(I:Inv X pins σ H s)(r:RelV x v)(ty:lK X.K T x H) :
  s.TypeIs v T∧∀a,v=.ref a→∃ob,s.heap.get? a=some ob∧ob.dict=none:=by
 cases x with
 |str z =>
  obtain⟨t,rfl⟩:=r;cases (show T = "str" from ty);exact⟨typeIs_str s z t,fun _ e=>nomatch e⟩
 |int i =>
  obtain⟨t,rfl⟩:=r;cases (show T = "int" from ty);exact⟨typeIs_int s i t,fun _ e=>nomatch e⟩
 |ref p =>
  cases r;rcases ty with ⟨rfl,xs,hq⟩ | ⟨rfl,o,hk,hc,hd⟩ | ⟨rfl,hk⟩ | ⟨rfl,S,n,hk⟩
  ·obtain⟨its,_,pl,_⟩:=I.list hq;refine⟨pl.isList.typeIs,fun a e=>?_⟩;cases e;obtain⟨o,n,e,c,hd,_⟩:=pl;exact⟨o,e,hd⟩
  ·refine⟨⟨o,I.Hu p o hk,hc⟩,fun a e=>?_⟩;cases e;exact⟨o,I.Hu _ o hk,hd⟩
  ·have z:∃o,s.heap.get? p=some o∧o.ExactDict:=by
    rcases hk with ⟨kvs,hk⟩ | ⟨kvs,hk⟩
    ·obtain⟨_,_,_,_,o,_,_,e,ex,_⟩:=I.Ap p _ hk;exact⟨o,e,ex⟩
    ·obtain⟨_,_,_,_,o,_,_,e,ex,_⟩:=I.Ap p _ hk;exact⟨o,e,ex⟩
   obtain⟨o,e,ex⟩:=z;refine⟨⟨o,e,ex.1⟩,fun a e2=>?_⟩;cases e2;exact⟨o,e,ex.2.1⟩
  ·obtain⟨o,_,_,_,e,ex,_⟩:=I.Ap p _ hk;refine⟨⟨o,e,ex.1⟩,fun a e2=>?_⟩;cases e2;exact⟨o,e,ex.2.1⟩
 |_=>exact False.elim ty
def fk(K:Fg)(T:String)(r:V→List V→Hp→VK→Prop)(to:TE)(t:TA):TE:=fun σ H Q=>to σ H fun x H1=>lK K T x H1∧t σ H1 fun xs H2=>r x xs H2 Q
variable{o e:Expr}{es:List Expr}{to:TE}{t:TA}{name:Str}{apos cpos:Pos}{T id:String}{r:V→List V→Hp→VK→Prop}
theorem Hc(pa:PlainAttrs T)(slot:Slot T name id)(hty:typeOf (.builtin id)=pure (.type "method_descriptor"))(hm:iI X id r)(ho:PE X o to)(ha:PA X (e::es) t)
 (hbase:attributeBase o name X.env (eval o X.env)=eval o X.env:=by rfl)
 (hfew:((backTo cpos (starEach (e::es) X.env)).all (fun x=>!x.1)&&(backToKw cpos (keywordEach [] X.env)).all (fun x=>x.1.isSome)
   && decide ((e::es).length+([]:List Keyword).length+(if([]:List Keyword).isEmpty then 0 else 1)<30))=true:=by rfl)
 (hline:(apos.endLine==cpos.line)=true:=by rfl)(hs:starEach (e::es) X.env=(false,eval e X.env)::starEach es X.env:=by rfl)(hplain:(backTo cpos (starEach es X.env)).any (·.1)=false:=by rfl) :
  PE X (.Call (.Attribute o name apos) (e::es) [] cpos) (fk X.K T r to t):=by
 intro pins s σ H Q I h;refine wpAny_Call_method_late hbase hfew hline rfl (BB (ho pins s σ H _ I h) fun v s1 ⟨x,H1,I1,r1,ty,q1⟩=>?_);obtain⟨h1,h2⟩:=jT I1 r1 ty;refine⟨T,id,pa,slot,hty,h1,h2,?_⟩;have hA:=ha cpos pins s1 σ H1 _ I1 q1;rw [hs]at hA ⊢;refine Calls.callWith_builtin (by show(false||(backTo cpos (starEach es X.env)).any (·.1))=false;rw [hplain]<;>rfl) (Calls.evalArgs_plain ?_);exact BB hA fun us s2 ⟨vs,H2,I2,r2,q2⟩=>hm pins s2 σ H2 x vs v us Q I2 r1 r2 q2
end
def lM(X:Cx)(id:String)(r:V→List V→Hp→VK→Prop):Prop :=
 ∀(pins:List (Addr×Obj)) (s:Shared) (σ:St) (H:Hp) (x:V) (xs:List V) (v:Value) (us:List Value) (Q:VK),Inv X pins σ H s→RelV x v→Vals xs us→r x xs H Q →
  wpAny (model X.prog X.w) X.A (call (.builtin id) (v::us)) (EP X pins σ Q) X.xe s
theorem Vals.one:∀ {x:V} {us:List Value},Vals [x] us→∃u,us=[u]∧RelV x u
 |_,_,.cons r .nil=>⟨_,rfl,r⟩
theorem Vals.two:∀ {x y:V} {us:List Value},Vals [x,y] us→∃u v,us=[u,v]∧RelV x u∧RelV y v
 |_,_,_,.cons r (.cons q .nil)=>⟨_,_,rfl,r,q⟩
theorem Vals.reverse{xs:List V}{us:List Value}(h:Vals xs us):Vals xs.reverse us.reverse:=by
 induction h with
 |nil=>exact .nil
 |cons r t ih=>rw [List.reverse_cons,List.reverse_cons];exact Vals.append ih (.cons r .nil)
theorem Vals.rep{xs:List V}{us:List Value}(h:Vals xs us):∀k:Nat,Vals (List.replicate k xs).flatten (List.replicate k us).flatten
 |0=>.nil
 |k+1=>by
  rw [List.replicate_succ,List.replicate_succ,List.flatten_cons,List.flatten_cons];exact Vals.append h (Vals.rep h k)
theorem foldl_rep(its:List Value):∀(k:Nat) (acc:List Value),
  List.foldl (fun x1 x2=>x1++x2) acc.toArray (List.replicate k its.toArray)=(acc++(List.replicate k its).flatten).toArray
 |0,acc=>by simp
 |k+1,acc=>by
  have e:acc.toArray++its.toArray=(acc++its).toArray:=by simp
  have e2:(acc++its)++(List.replicate k its).flatten=acc++(List.replicate (k+1) its).flatten:=by
   rw [List.replicate_succ,List.flatten_cons,List.append_assoc]
  rw [←e2,←foldl_rep its k (acc++its),←e,List.replicate_succ,List.foldl_cons]
section
variable{X:Cx}{pins:List (Addr×Obj)}{σ:St}{H:Hp}{s:Shared}{l b:Addr}{xs ys zs:List V}
theorem Inv.gf{its its':List Value}{n:Nat}{f:Array Value→Array Value}{t':Nat}(I:Inv X pins σ H s)(hH:H l=some (.lst xs))
 (e:s.heap.get? l=some { cls:=.type "list",data:=.seq its.toArray n })(hf:f its.toArray=its'.toArray)(hv:Vals ys its')(hz:ys.length≤sizeLine) :
  Inv X pins σ (upd H l (.lst ys)) { s with heap:=s.heap.update l (Obj.mapSeq f),toks:=t' }:=by
 have q:=PySem.IsL.update e f;rw [hf]at q;refine I.write (x:=l) (e:=l) (by rw [hH];exact trivial) (.inl rfl) (fun b' u hb hu=>(Heap.get?_update_other s.heap (Obj.mapSeq f) (Ne.symm hb)).trans hu) ⟨_,q⟩ ?_;exact⟨hz,its',_,hv,q⟩
theorem Inv.iM{its:List Value}{t':Nat}(I:Inv X pins σ H s)(hv:Vals ys its)(hz:ys.length≤sizeLine) :
  Inv X pins σ (upd H s.heap.objs.size (.lst ys)) { s with heap:=s.heap.push { cls:=.type "list",data:=.seq its.toArray },toks:=t' } :=
 I.laid (fun _ _ q=>aD _ q) (aJ _) ⟨hz,its,0,hv,Heap.get?_push_size _ rfl⟩
theorem Inv.fresh(I:Inv X pins σ H s):H s.heap.objs.size=none:=I.Ap.fresh (aJ _)
theorem Inv.Pp(I:Inv X pins σ H s)(hH:H l=some (.lst xs)):xs.length≤sizeLine∧∃(its:List Value) (n:Nat),Vals xs its∧xs.length=its.length∧s.heap.get? l=some { cls:=.type "list",data:=.seq its.toArray n }:=by
 obtain⟨z,its,n,r,e⟩:=I.Ap l _ hH;exact⟨z,its,n,r,r.length,e⟩
theorem T4{n:Nat}(h:n≤sizeLine):Builtin.List.listTooLong n=false:=by
 unfold Builtin.List.listTooLong;exact bE (by omega)
end
section
variable{X:Cx}
def Uv:V→List V→Hp→VK→Prop:=fun x vs H Q=>∃l xs y,x=.ref l∧vs=[y]∧H l=some (.lst xs)∧xs.length<sizeLine∧Q .A7 (upd H l (.lst (xs++[y])))
theorem FV:lM X "list.append" Uv:=by
 intro pins s σ H x vs v us Q I rx rv h;obtain⟨l,xs,y,rfl,rfl,hH,hz,q⟩:=h;cases rx;obtain⟨u,rfl,ru⟩:=rv.one;obtain⟨z,its,n,r,hl,e⟩:=I.Pp hH;refine call_meets F.slot_list_append ⟨_,e,rfl⟩ F.entry_list_append (F.args_list_append_2 _ _) (PySem.list_append l its.toArray n u (by rw [List.size_toArray];omega)) ⟨e,?_⟩;refine⟨.A7,_,I.gf (its':=its++[u]) hH e (by simp) (r.append (.cons ru .nil)) ?_,rfl,q⟩;rw [List.length_append,List.length_singleton];omega
def Uu:V→List V→Hp→VK→Prop:=fun x vs H Q=>∃l b xs zs,x=.ref l∧vs=[.ref b]∧H l=some (.lst xs)∧H b=some (.lst zs)∧xs.length+zs.length≤sizeLine∧Q .A7 (upd H l (.lst (xs++zs)))
theorem Qy:lM X "list.extend" Uu:=by
 intro pins s σ H x vs v us Q I rx rv h;obtain⟨l,b,xs,zs,rfl,rfl,hH,hB,hz,q⟩:=h;cases rx;obtain⟨u,rfl,ru⟩:=rv.one;cases ru;obtain⟨z,its,n,r,hl,e⟩:=I.Pp hH;obtain⟨z2,its2,n2,r2,hl2,e2⟩:=I.Pp hB;have hsz:its.toArray.size+its2.toArray.size≤sizeLine:=by rw [List.size_toArray,List.size_toArray];omega
 have hlong:¬(!its.toArray.isEmpty&&Builtin.List.listTooLong (its.toArray.size+its2.toArray.size))=true:=by
  rw [T4 hsz,Bool.and_false];exact aK
 refine call_meets F.slot_list_extend ⟨_,e,rfl⟩ F.entry_list_extend (F.args_list_extend_2 _ _)
  (AutoSeq1.list_extend_list_list_0 l its.toArray n b its2.toArray n2 hlong (by rw [List.size_toArray];omega) (by omega)) ⟨e,e2,?_⟩
 refine⟨.A7,_,I.gf (its':=its++its2) hH e (by simp) (r.append r2) ?_,rfl,q⟩;rw [List.length_append];omega
def lX:R2:=fun x y H Q=>∃l b xs zs,x=.ref l∧y=.ref b∧H l=some (.lst xs)∧H b=some (.lst zs)∧xs.length+zs.length≤sizeLine∧∀p,H p=none→Q (.ref p) (upd H p (.lst (xs++zs)))
theorem fe:CY X (binaryOp .Add) lX:=by
 intro pins s σ H x y v u Q I rx ry h;obtain⟨l,b,xs,zs,rfl,rfl,hH,hB,hz,q⟩:=h;cases rx;cases ry;obtain⟨z,its,n,r,hl,e⟩:=I.Pp hH;obtain⟨z2,its2,n2,r2,hl2,e2⟩:=I.Pp hB;refine PySem.P.add_list e e2 ?_ (by rw [List.size_toArray,List.size_toArray];omega);have ea:its.toArray++its2.toArray=(its++its2).toArray:=by simp
 rw [ea];exact⟨.ref _,_,I.iM (t':=s.toks) (r.append r2) (by rw [List.length_append];omega),rfl,q _ I.fresh⟩
def mz:R2:=fun x y H Q=>∃l k xs,x=.ref l∧y=.int k∧H l=some (.lst xs)∧-(2 ^ 63)≤k∧k<2 ^ 63∧xs.length*k.toNat≤sizeLine ∧
 ∀p,H p=none→Q (.ref p) (upd H p (.lst (List.replicate k.toNat xs).flatten))
theorem len_rep{α:Type}(xs:List α)(k:Nat):(List.replicate k xs).flatten.length=k*xs.length:=by
 induction k with
 |zero=>simp
 |succ k ih=>rw [List.replicate_succ,List.flatten_cons,List.length_append,ih,Nat.succ_mul,Nat.add_comm]
theorem ic:CY X (binaryOp .Mult) mz:=by
 intro pins s σ H x y v u Q I rx ry h;obtain⟨l,k,xs,rfl,rfl,hH,h1,h2,hz,q⟩:=h;cases rx;obtain⟨t,rfl⟩:=ry;obtain⟨z,its,n,r,hl,e⟩:=I.Pp hH;have hlen:its.toArray.size*k.toNat≤sizeLine:=by rw [List.size_toArray,←hl];exact hz
 have hcap:¬its.toArray.size*k.toNat > (2 ^ 63-1) / 8:=by
  have:(sizeLine:Nat)≤(2 ^ 63-1) / 8:=by decide
  omega
 have hfit:¬(!Builtin.List.listFitsIndex k)=true:=by
  rw [fitsIndex_both h1 h2];exact aK
 have hlong:¬Builtin.List.listTooLong (its.toArray.size*k.toNat)=true:=by
  rw [T4 hlen];exact aK
 have hnew:List.foldl (fun x1 x2=>x1++x2) #[] (List.replicate (if its.toArray.isEmpty=true then 0 else k.toNat) its.toArray)=(List.replicate k.toNat its).flatten.toArray:=by
  have f0:∀m:Nat,List.foldl (fun x1 x2=>x1++x2) #[] (List.replicate m its.toArray)=(List.replicate m its).flatten.toArray:=fun m=>by
   have:=foldl_rep its m [];rw [List.nil_append]at this;exact this
  rw [f0];cases its with
  |nil=>simp
  |cons a r'=>rw [if_neg (by simp)]
 refine wpAny_binaryOp_repeat_ref (T := "list") (U := "int") (by decide) ⟨_,e,rfl⟩ (fun s'=>typeIs_int s' k t) noFill_list_mul F.fills_int_mul F.slot_int_rmul repeat_list F.slot_int_index.lookup
  (call_meets F.slot_int_rmul (typeIs_int s k t) F.entry_int_rmul (F.args_int_rmul_2 _ _) (int___rmul___int_list k t l its.toArray n)
   ⟨e,rfl,⟨_,e,rfl⟩,call_meets F.slot_list_mul ⟨_,e,rfl⟩ F.entry_list_mul (F.args_list_mul_2 _ _) (AutoListH.list___mul___list_int_3 l its.toArray n k t hfit hcap hlong) ⟨e,?_⟩⟩)
 rw [hnew];exact⟨.ref _,_,I.iM (t':=s.toks) (r.rep k.toNat) (by rw [len_rep,Nat.mul_comm];exact hz),rfl,q _ I.fresh⟩
end
end L2
namespace Att
open PySem PySem.W PySem.Calls PyProof.Rows
theorem PZ{P:Params}{h:Heap}:∀(ns:List Int) (vs:List Value),WellAll P h vs (ns.map WData.int)→IntsAre vs ns:=by
 intro ns
 induction ns with
 |nil =>
  intro vs w;rw [List.map_nil]at w;cases w;exact .nil
 |cons n ns ih =>
  intro vs w;rw [List.map_cons]at w;cases w with
  |cons a b =>
   cases a;exact .cons _ _ (ih _ b)
theorem Yh{l:OpenLaw}{n:Nat}(hn:l.most=some n){P:Params}{h:Heap}{args:List WData}{vals:List Value}
 (hpre:l.row.toRowW.claim.pre args=true)(hwl:WellAll P h vals args) :
  ∃a vs ns,vals=[Value.ref a]∧args=[WData.list (ns.map WData.int)]∧h.get? a=some { cls:=.type "list",data:=.seq vs.toArray }∧IntsAre vs ns∧ns.length≤n:=by
 have hsh:WShape.hasAll [] args [.list .int]=true:=(pre_splitW hpre).1;have hc:l.pre.holds [] { args:=args }=true:=(pre_splitW hpre).2;obtain⟨d,r,rfl,h1,h2⟩:=hasAllW_cons hsh;obtain rfl:=hasAllW_nil h2;obtain⟨xs,rfl,h3⟩:=hasW_list h1;obtain⟨ns,rfl⟩:=items_int h3;have hlen:ns.length≤n:=by
  unfold OpenLaw.pre at hc;have h4:(WTm.not (.lt (.lit (.int (n:Int))) (.len (.arg 0)))).holds [] { args:=[.list (ns.map .int)] }=true:=by
   have h4:=(holds_andW hc).1;rw [hn]at h4;exact h4
  have h5:=condW_of h4 (w_not (w_lt w_lit (w_len_list (w_arg rfl))));rw [List.length_map]at h5;refine Nat.le_of_not_lt fun q=>?_;have q':(n:Int)<((ns.length:Nat):Int):=by omega
  first
   |(rw [decide_eq_true q']at h5;exact absurd h5 (by decide))
   |(simp at h5;omega)
 cases hwl with
 |cons w1 w2 =>
  cases w2;cases w1 with
  |list ho hall=>exact⟨_,_,ns,rfl,rfl,ho,PZ ns _ hall,hlen⟩
theorem XM(l:OpenLaw)(args:List WData):l.row.toRowW.claim.post args (.bool true) args=true :=
 postW_of (r:=l.row.toRowW) (X:=(true==true))
  (show WShape.has [] (.bool true) .bool=true by first | rfl | decide | simp [WShape.has,WShape.arms,WShape.armsAll])
  (show(WTm.eq .res (.lit (.bool true))).value [] { args:=args,res:=some (.bool true),after:=args }=some (.bool (true==true)) from w_eq_bool (w_res rfl) w_lit) rfl
theorem Ud{l:OpenLaw}{n:Nat}{q:Program}{loose:List Str}{XP:(Str→Option Value)→Heap→Prop}{YP:World→Heap→Prop}{d:DefRec}
 (hn:l.most=some n)(hdf:d.params.defaults=[])
 (call:∀(w:World) (s₀ s₁:Shared) (mg mb:Str→Option Value) (fa:Addr) (o:Obj) (pm cd doc:Value) (a:Addr) (vs:List Value) (ns:List Int),
   Ground q loose [] XP w s₀ mg mb s₁.heap→YP w s₁.heap →
   s₁.heap.get? fa=some o→o.data=.func (docDef d.name d.params d.body d.scope pm cd doc)→s₁.heap.CodeRec cd d.name→mg d.name=some (.ref fa) →
   s₁.heap.get? a=some { cls:=.type "list",data:=.seq vs.toArray }→IntsAre vs ns→ns.length≤n→s₁.gens=#[] →
   codeAny (model l.prog w) callerA (.call (.ref fa) ⟨[.ref a],[]⟩) (fun r s'=>r=.ok (.ret (.bool true))∧OldK s₁.heap s'.heap∧s'.os=s₁.os∧AllBare s'.gens) s₁) :
  WalkO q loose XP YP l.row.toRowW d [] (fun f vs=>PySem.call f vs):=by
 intro w s₀ s₁ mg mb G Y fa o pm cd doc dV kV ho hd hcd hD hmg hg args vals as hpre hlay hrd hwl hlo;obtain rfl:dV=.none:=Dflts.none hD hdf;obtain rfl:kV=.none:=Dflts.noKw hD;obtain⟨a,vs,ns,rfl,rfl,hobj,hints,hlen⟩:=Yh hn hpre hwl;refine enter_call (codeAny_mono (call w s₀ s₁ mg mb fa o pm cd doc a vs ns G Y ho (fd_plain hd) hcd hmg hobj hints hlen hg) fun r s' hq=>?_);obtain⟨rfl,h2,h3,h4⟩:=hq;exact⟨.inl ⟨.bool true,.bool true,[],rfl,fun _=>rfl,.bool true,XM l _,fun _=>⟨List.Pairwise.nil,fun _ hm=>(nomatch hm)⟩⟩,h2,h3,h4⟩
end Att
namespace L2
open PySem PySem.Spec PyProof.Rows
theorem Qs:∀ {vs:List Value} {ns:List Int},IntsAre vs ns→Vals (ns.map V.int) vs
 |_,_,.nil=>.nil
 |_,_,.cons n t h=>.cons ⟨t,rfl⟩ (Qs h)
def Y3(H:Hp):Prop:=∀b,H b=none∨∃o xs,H b=some (.Ed o (.lst xs))
theorem Zk{P:Program}{w:World}{K:Fg}{mg mb:Str→Option Value}{CX:GQ}{k:Nat}{fa a:Addr}{fd:FuncData}{x:Str}{sp:Sp}{s₁:Shared}{vs:List Value}{ns:List Int}
 (KX:K.In s₁.heap)(hns:s₁.heap.Ns mainGlobals mg)(hb:s₁.heap.Ns builtinsNs mb)(hbb:∀x:Str,x ≠ "__name__" → mb x=bootBuiltins x)(hlim:s₁.heap.NoLimit)(hg:s₁.gens=#[])
 (ha:s₁.heap.get? a=some { cls:=.type "list",data:=.seq vs.toArray })(hi:IntsAre vs ns)(hl:ns.length≤sizeLine)(hr:DH k callerA)
 (F:∀base:Heap,K.In base→base.Ns mainGlobals mg→AL P w K mg base CX k fa fd [x] sp)(hbind:∀(s:Shared) (u:Value),BindsTo s fd ⟨[u],[]⟩ [(x,u)])
 (hsp:∀H:Hp,Y3 H→A4 K H a (ns.map V.int)→sp [.ref a] H (fun v _=>v=.bl true) fun _ _ _=>False)
 (hCX:∀H e s',CX [] H s₁ (fun _ _ _=>False) e s'→False) :
  codeAny (model P w) callerA (.call (.ref fa) ⟨[.ref a],[]⟩) (fun r s'=>r=.ok (.ret (.bool true))∧OldK s₁.heap s'.heap∧s'.os=s₁.os∧AllBare s'.gens) s₁:=by
 have rv:=Qs hi;have lenV:=hi.length;have core:∀H:Hp,Y3 H→A4 K H a (ns.map V.int)→EO P w H s₁.heap→(∀b,H b≠none→b=a)→(H a≠none→K.lookup a=none) →
   codeAny (model P w) callerA (.call (.ref fa) ⟨[.ref a],[]⟩) (fun r s'=>r=.ok (.ret (.bool true))∧OldK s₁.heap s'.heap∧s'.os=s₁.os∧AllBare s'.gens) s₁:=by
  intro H hO hS Ap hA hK;have base_of:∀ {b:Addr} {o:Obj},s₁.heap.get? b=some o→H b=none→(Kw s₁.heap H).get? b=some o:=fun e n=>Y7 e n;have noA:∀ {b:Addr} {o:Obj} {es:Array DictEntry} {ep:Nat},s₁.heap.get? b=some o→o.data=.dict es ep→H b=none:=fun {b o es ep} e d=>by
   cases q:H b with
   |none=>rfl
   |some u =>
    have e':b=a:=hA b (by rw [q];simp);subst e';rw [ha]at e;cases e;have d':Data.seq vs.toArray _=Data.dict es ep:=d;cases d'
  have nsK:∀ {b:Addr} {m:Str→Option Value},s₁.heap.Ns b m→(Kw s₁.heap H).Ns b m:=fun {b m} ⟨o,es,ep,e,d,r⟩=>⟨o,es,ep,base_of e (noA e d),d,r⟩;have hKb:K.In (Kw s₁.heap H):=fun b o e=>base_of (KX b o e) (by
   cases q:H b with
   |none=>rfl
   |some u =>
    have e':b=a:=hA b (by rw [q];simp);subst e';rw [hK (by rw [q];simp)]at e;cases e)
  have hM:Mod K mg (Kw s₁.heap H):=⟨hKb,nsK hns,⟨mb,nsK hb,hbb⟩,let⟨mc,h1,h2⟩:=hlim;⟨mc,nsK h1,h2⟩⟩;have e0:V0 P w K mg (Kw s₁.heap H) callerA [] s₁ H:=⟨rfl,hM,fun b o e=>dg e,Nat.le_of_eq (Yi _ _),trivial,fun b hb=>absurd (show b∈([]:List Addr) from hb) (by simp),Ap,.of_eq hg⟩;refine codeAny_mono ((F _ hKb (nsK hns)).run callerA [] s₁ H ⟨[.ref a],[]⟩ [.ref a] [.ref a] _ _ hr e0 (hbind s₁ (.ref a)) (.cons rfl .nil) (hsp H hO hS)) fun r s' h=>?_;cases r with
  |error e=>exact(hCX H e s' h).elim
  |ok fl =>
   cases fl with
   |next=>exact False.elim h
   |brk=>exact False.elim h
   |cont=>exact False.elim h
   |ret u =>
    obtain⟨v,H',os,bare,un,hok',r',q⟩:=h;have q':v=.bl true:=q;subst q';obtain rfl:u=Value.bool true:=r';refine⟨rfl,OldK.of_keep fun b o e=>?_,os,bare⟩;cases q:H b with
    |none=>exact un.keep b o e q (by intro z;exact absurd (show b∈([]:List Addr) from z) (by simp)) (by simp)
    |some u =>
     rcases hO b with z | ⟨ob,xs,z⟩
     ·rw [q]at z;cases z
     ·have z2:=un.Gz b ob _ z;obtain⟨e1,_⟩:=Ap b _ z;obtain⟨e2,_⟩:=hok' b _ z2;rw [e]at e1;cases e1;exact e2
 cases hk:K.lookup a with
 |some o =>
  have e:=KX a o hk;rw [ha]at e;cases e;refine core (fun _=>none) (fun _=>.inl rfl) (.inr ⟨_,vs.toArray,_,hk,rfl,rfl,rfl,by rw [List.size_toArray,lenV];exact hl,by simpa using rv⟩) (fun b u z=>by have z':(none:Option HO)=some u:=z;cases z') (fun b z=>absurd rfl z) fun z=>absurd rfl z
 |none =>
  refine core (fun b=>if b=a then some (.Ed { cls:=.type "list",data:=.seq vs.toArray } (.lst (ns.map V.int))) else none) (fun b=>?_) (.inl (.inr ⟨{ cls:=.type "list",data:=.seq vs.toArray },if_pos rfl⟩)) (fun b u z=>?_) (fun b z=>?_) fun _=>hk
  ·by_cases hb:b=a
   ·exact .inr ⟨_,_,if_pos hb⟩
   ·exact .inl (if_neg hb)
  ·by_cases hb:b=a
   ·have z':=(if_pos hb).symm.trans z;cases z';subst hb;exact⟨ha,by rw [List.length_map];exact hl,vs,_,rv,ha⟩
   ·have z':=(if_neg hb).symm.trans z;cases z'
  ·by_cases hb:b=a
   ·exact hb
   ·exact absurd (if_neg hb) z
theorem eH{l:PySem.W.OpenLaw}{n k:Nat}{q:Program}{loose:List Str}{XP:(Str→Option Value)→Heap→Prop}{YP:World→Heap→Prop}{d:DefRec}{K:Params→Fg}{CX:World→GQ}{sp:World→Sp}{x:Str}
 (hn:l.most=some n)(hn2:n≤sizeLine)(hdf:d.params.defaults=[])(hr:DH k callerA)
 (hY:∀(w:World) (h:Heap),YP w h→(K w.params).In h)
 (F:∀(w:World) (mg:Str→Option Value) (fa:Addr) (h:Heap),(K w.params).In h→h.Ns mainGlobals mg→mg d.name=some (.ref fa) →
   ∃fd:FuncData,(∀(s:Shared) (u:Value),BindsTo s fd ⟨[u],[]⟩ [(x,u)]) ∧
    ∀base:Heap,(K w.params).In base→base.Ns mainGlobals mg→AL l.prog w (K w.params) mg base (CX w) k fa fd [x] (sp w))
 (hsp:∀(w:World) (H:Hp) (a:Addr) (ns:List Int),ns.length≤n→Y3 H→A4 (K w.params) H a (ns.map V.int)→sp w [.ref a] H (fun v _=>v=.bl true) fun _ _ _=>False)
 (hCX:∀(w:World) (H:Hp) (s:Shared) (e:Value) (s':Shared),CX w [] H s (fun _ _ _=>False) e s'→False) :
  PySem.W.WalkO q loose XP YP l.row.toRowW d [] (fun f vs=>PySem.call f vs):=by
 refine Att.Ud hn hdf fun w s₀ s₁ mg mb fa o pm cd doc a vs ns G Y ho hd hcd hmg hobj hints hlen hg=>?_;have KX:=hY w _ Y;obtain⟨fd,hb,hF⟩:=F w mg fa _ KX G.T.g hmg;exact Zk KX G.T.g G.T.b G.T.builtins G.T.nolimit hg hobj hints (aa hlen hn2) hr hF hb (fun H hO hS=>hsp w H a ns hlen hO hS) fun H e s'=>hCX w H s₁ e s'
def Fh(s:Stmt):Arguments:=match s with
 |.FunctionDef _ a _ _ _ _ _ _ _ _=>a
 |_=>{ posonlyargs:=[],args:=[],vararg:=none,kwonlyargs:=[],kw_defaults:=[],kwarg:=none,defaults:=[] }
def Ds(s:Stmt):List Stmt:=match s with
 |.FunctionDef _ _ b _ _ _ _ _ _ _=>b
 |_=>[]
def AR(s:Stmt):Scope:=match s with
 |.FunctionDef _ _ _ _ _ _ sc _ _ _=>sc
 |_=>{ kind:=.function,names:=[],isGenerator:=false,isCoroutine:=false }
abbrev Ao:GQ:=fun _ _ _ _ _ _=>False
abbrev E0:XK:=fun _ _ _=>False
theorem kT{X:Cx}:Passes Ao X E0:=fun _ _ _ _ _ _ _ h=>h.elim
structure Q2(K:Fg)(x qual:Str)(st:Stmt)(f:Addr)(fd:FuncData):Prop where
 ex:∃(oc:Value) (od:Option Addr) (kV doc pm:Value) (an:Option Addr) (cdv ct:Value) (osl:Array (Option Value)),
  fd=PySem.W.fnOf x qual (Fh st) (Ds st) (AR st) .none kV doc pm an cdv ct∧K.lookup f=some ⟨oc,od,.func fd,osl⟩∧PySem.W.codeIn K cdv qual=true
 kp:PySem.W.keepIn K (.ref f)=true
section
variable{P:Program}{w:World}{K:Fg}{mg:Str→Option Value}{base:Heap}
theorem Q2.ok{x qual:Str}{st:Stmt}{f:Addr}{fd:FuncData}{N ps:List Str}{k:Nat}{sp:Sp}(F:Q2 K x qual st f fd)(S:Ad N ps (AR st))(len:∀vs H Q E,sp vs H Q E→vs.length=ps.length)
 (hbody:∀(cdv:Value) (A:Around) (outer:List Env) (s:Shared) (H:Hp) (vs:List V) (Q:VK) (E:XK),DH k (A.deeper (envOfC qual (AR st) s.heap.objs.size f cdv))→sp vs H Q E →
   ∃t,HB (Ca Ao P w K mg base N qual (AR st) f cdv A outer s H E).Jh (Ds st) t∧t { nx:=fun _ H'=>Q .A7 H',rt:=Q } (start N vs) H):AL P w K mg base Ao (k+1) f fd ps sp:=by
 obtain⟨oc,od,kV,doc,pm,an,cdv,ct,osl,rfl,lk,hcd⟩:=F.ex;refine cT lk hcd S len fun A outer s H vs Q E hr hsp=>?_;obtain⟨t,h,q⟩:=hbody cdv A outer s H vs Q E hr hsp;exact⟨t,h.Jh,q⟩
theorem Q2.binds{x qual:Str}{st:Stmt}{f:Addr}{fd:FuncData}{ps:List Str}(F:Q2 K x qual st f fd)
 (h:∀(kV doc pm:Value) (an:Option Addr) (cdv ct:Value) (us:List Value),us.length=ps.length→bindArgs (PySem.W.fnOf x qual (Fh st) (Ds st) (AR st) .none kV doc pm an cdv ct) ⟨us,[]⟩=pure (ps.zip us)):Binds K fd ps []:=by
 obtain⟨oc,od,kV,doc,pm,an,cdv,ct,osl,rfl,lk,hcd⟩:=F.ex;exact .all (h kV doc pm an cdv ct)
theorem XY{x qual:Str}{st:Stmt}{f:Addr}{oc:Value}{od an:Option Addr}{osl:Array (Option Value)}{kV doc pm cdv ct:Value}(l:K.lookup f=some ⟨oc,od,.func (PySem.W.fnOf x qual (Fh st) (Ds st) (AR st) .none kV doc pm an cdv ct),osl⟩)
 (c:PySem.W.codeIn K cdv qual=true)(k:PySem.W.keepIn K (.ref f)=true):Q2 K x qual st f (PySem.W.fnOf x qual (Fh st) (Ds st) (AR st) .none kV doc pm an cdv ct):=⟨⟨oc,od,kV,doc,pm,an,cdv,ct,osl,rfl,l,c⟩,k⟩
end
theorem Q3{n:Nat}(h:n≤1000):n<sizeLine:=aV h (by decide)
section
variable{X:Cx}
theorem pv(i:Nat){x:Str}{pos:Pos}(hN:X.N[i]? = some x:=by rfl)(hv:jO X.env.scope x:=by first | exact Or.inl rfl | exact Or.inr (Or.inl rfl) | exact Or.inr (Or.inr rfl))(hd:(x==("__debug__" : Str))=false:=by decide)
 (hcd:(x==("__classdict__" : Str))=false:=by decide):PE X (.Name x pos) (J6 i):=fN hN hv hd hcd
end
theorem Sl{A B:Prop}(h:B):if false=true then A else B:=by
 rw [if_neg aK];exact h
theorem Tq{A B:Prop}(h:A):if true=true then A else B:=by
 rw [if_pos rfl];exact h
theorem D7{c A B:Prop}[Decidable c](h1:c→A)(h2:¬c→B):if c then A else B:=by
 by_cases h:c
 ·rw [if_pos h];exact h1 h
 ·rw [if_neg h];exact h2 h
def AO(H H':Hp):Prop:=∀b o,H b=some o→H' b=some o
theorem AO.refl(H:Hp):AO H H:=fun _ _ h=>h
theorem AO.trans{H H1 H2:Hp}(a:AO H H1)(b:AO H1 H2):AO H H2:=fun c o h=>b c o (a c o h)
section
variable{X:Cx}
def Ru(i j:Int):Prop:=∃m:Nat,m≤1000000∧i.natAbs<2 ^ m∧j.natAbs<2 ^ m
theorem Ru.ok{i j:Int}(h:Ru i j):IntMulOk i j:=by
 obtain⟨m,hm,h1,h2⟩:=h;exact IntMulOk.of_le (intBits_le_iff.mpr h1) (intBits_le_iff.mpr h2) (by omega)
theorem HS:CY X (binaryOp .Mult) (rI (fun i j=>Wx i j∨Ru i j) fun i j=>.int (i*j)) :=
 VB fun _ _ _ _ _ _ _ hc q=>mul_int q (hc.elim (fun z=>z.ok) fun z=>z.ok)
def jy(_i j:Int):Prop:=j≠0∧∃m:Nat,m≤9000∧j.natAbs<2 ^ m
theorem GI:CY X (binaryOp .FloorDiv) (rI jy fun i j=>.int (i.fdiv j)):=VB fun i j _ _ _ _ _ hc q=>by
 obtain⟨h0,m,hm,h1⟩:=hc;refine floordiv_int h0 q (.inl (PyProof.noPylong_of_log2 ?_));have hne:j.natAbs≠0:=by omega
 have:j.natAbs.log2<m:=(Nat.log2_lt hne).mpr h1;omega
mutual
def Br(K:Fg)(H:Hp):PyData→V→Prop
 |.none,v=>v=.A7
 |.bool b,v=>v=.bl b
 |.int i,v=>v=.int i
 |.str x,v=>v=.str x
 |.tuple ds,v=>∃a xs,v=.ref a∧A8 K H a xs∧Fp K H ds xs
 |.list ds,v=>∃a xs,v=.ref a∧A4 K H a xs∧Fp K H ds xs
 |.dict _,_=>False
def Fp(K:Fg)(H:Hp):List PyData→List V→Prop
 |[],xs=>xs=[]
 |d::ds,xs=>∃x r,xs=x::r∧Br K H d x∧Fp K H ds r
end
theorem AO.tup{K:Fg}{H H':Hp}{a:Addr}{xs:List V}(e:AO H H')(h:A8 K H a xs):A8 K H' a xs:=by
 rcases h with (h | ⟨o,h⟩) | h
 ·exact .inl (.inl (e _ _ h))
 ·exact .inl (.inr ⟨o,e _ _ h⟩)
 ·exact .inr h
mutual
theorem Br.reads{pins:List (Addr×Obj)}{σ:St}{H:Hp}{s:Shared}(I:Inv X pins σ H s):∀ {d:PyData} {v:V} {u:Value},Br X.K H d v→RelV v u→∃as,Reads s.heap u d as
 |.none,_,u,h,r=>by rw [Br]at h;subst h;cases r;exact⟨_,.none⟩
 |.bool b,_,u,h,r=>by rw [Br]at h;subst h;cases r;exact⟨_,.bool b⟩
 |.int i,_,u,h,r=>by rw [Br]at h;subst h;obtain⟨t,rfl⟩:=r;exact⟨_,.int i t⟩
 |.str x,_,u,h,r=>by rw [Br]at h;subst h;obtain⟨t,rfl⟩:=r;exact⟨_,.str x t⟩
 |.tuple ds,_,u,h,r=>by
  rw [Br]at h;obtain⟨a,xs,e1,h1,h2⟩:=h;subst e1;cases r;obtain⟨its,rv,⟨o,e,c,n,hd⟩,_⟩:=I.tuple h1;obtain⟨as,ra⟩:=Fp.reads I h2 rv;exact⟨_,.tuple e c hd (by simpa using ra)⟩
 |.list ds,_,u,h,r=>by
  rw [Br]at h;obtain⟨a,xs,e1,h1,h2⟩:=h;subst e1;cases r;obtain⟨its,rv,⟨o,n,e,c,_,hd⟩,_⟩:=I.list h1;obtain⟨as,ra⟩:=Fp.reads I h2 rv;exact⟨_,.list e c hd (by simpa using ra)⟩
 |.dict _,_,_,h,_=>by rw [Br]at h;exact h.elim
theorem Fp.reads{pins:List (Addr×Obj)}{σ:St}{H:Hp}{s:Shared}(I:Inv X pins σ H s):∀ {ds:List PyData} {xs:List V} {us:List Value},Fp X.K H ds xs→Vals xs us→∃as,ReadsAll s.heap us ds as
 |[],_,us,h,r=>by rw [Fp]at h;subst h;cases r;exact⟨_,.nil⟩
 |_::_,_,us,h,r=>by
  rw [Fp]at h;obtain⟨x,q,e1,h1,h2⟩:=h;subst e1;cases r with
  |cons r1 r2 =>
   obtain⟨as,ra⟩:=Br.reads I h1 r1;obtain⟨bs,rb⟩:=Fp.reads I h2 r2;exact⟨_,.cons ra rb⟩
end
def ZZ(K:Fg)(neg:Bool):R2:=fun x y H Q=>∃d e,Br K H d x∧Br K H e y∧SeqAt.shaped d=true∧SeqAt.shaped e=true∧Q (.bl (if neg then !PyData.eqv d e else PyData.eqv d e)) H
theorem iR(hu:X.A.units+64<cLine):CY X (compareOp .Eq) (ZZ X.K false):=by
 intro pins s σ H x y v u Q I rx ry h;obtain⟨d,e,h1,h2,s1,s2,q⟩:=h;obtain⟨as,ra⟩:=Br.reads I h1 rx;obtain⟨bs,rb⟩:=Br.reads I h2 ry;exact eq_dataH ra rb s1 s2 hu ⟨.bl _,H,I,rfl,q⟩
theorem jU(hu:X.A.units+64<cLine):CY X (compareOp .NotEq) (ZZ X.K true):=by
 intro pins s σ H x y v u Q I rx ry h;obtain⟨d,e,h1,h2,s1,s2,q⟩:=h;obtain⟨as,ra⟩:=Br.reads I h1 rx;obtain⟨bs,rb⟩:=Br.reads I h2 ry;exact ne_dataH ra rb s1 s2 hu ⟨.bl _,H,I,rfl,q⟩
end
end L2
set_option maxHeartbeats 4000000
namespace L2
open PySem PySem.Spec PyProof.Rows
def Lh(X:Cx)(ifs:List Expr)(t:TT):Prop :=
 ∀(pins:List (Addr×Obj)) (s:Shared) (σ:St) (H:Hp) (Q:Bool→Hp→Prop),Inv X pins σ H s→t σ H Q →
  wpAny (model X.prog X.w) X.A (forIn ifs true fun c r=>if r=true then do let ok ←isTrue c X.env (eval c X.env);pure (ForInStep.yield ok) else pure (ForInStep.yield r)) (TP X pins σ Q) X.xe s
def Ww:TT:=fun _ H Q=>Q true H
theorem Qb{X:Cx}:Lh X [] Ww:=fun _ _ σ H _ I h=>wpAny_tests_nil ⟨H,I,h⟩
theorem dq{X:Cx}{c:Expr}{t:TT}(h:PT X c t):Lh X [c] t:=by
 intro pins s σ H Q I hw;simp only [List.forIn_cons,List.forIn_nil,if_true];refine Wb (Wb (BB (h pins s σ H Q I hw) fun b s1 q=>?_));exact aA (aA q)
def ER(N XN:List Str)(sc xsc:Scope):List (Option Nat)→Nat→Bool
 |[],_=>true
 |none::r,i=>ER N XN sc xsc r (i+1)
 |some j::r,i=>(match N[i]?,XN[j]? with
   |some n,some m=>n==m&&sc.names.lookup n==some .free&&xsc.names.lookup n==some .cell
   |_,_=>false)&&ER N XN sc xsc r (i+1)
theorem N6{N XN:List Str}{sc xsc:Scope}:∀ {fr:List (Option Nat)} {k:Nat},ER N XN sc xsc fr k=true→∀ {i j:Nat},fr[i]? = some (some j) →
  ∃n,N[k+i]? = some n∧XN[j]? = some n∧sc.names.lookup n=some .free∧xsc.names.lookup n=some .cell
 |[],_,_,i,j,e=>by simp at e
 |none::r,k,h,0,j,e=>by simp at e
 |none::r,k,h,i+1,j,e=>by
  have q:=N6 (fr:=r) (k:=k+1) h (i:=i) (j:=j) (by simpa using e);have z:k+(i+1)=k+1+i:=by omega
  rw [z];exact q
 |some j'::r,k,h,0,j,e=>by
  have e':j'=j:=by simpa using e
  subst e';rw [ER,Bool.and_eq_true]at h;have h1:=h.1;split at h1
  ·rename_i n m hn hm;simp only [Bool.and_eq_true,beq_iff_eq]at h1;obtain⟨⟨rfl,h2⟩,h3⟩:=h1;exact⟨n,by simpa using hn,hm,h2,h3⟩
  ·cases h1
 |some j'::r,k,h,i+1,j,e=>by
  rw [ER,Bool.and_eq_true]at h;have q:=N6 (fr:=r) (k:=k+1) h.2 (i:=i) (j:=j) (by simpa using e);have z:k+(i+1)=k+1+i:=by omega
  rw [z];exact q
def carry(fr:List (Option Nat))(σ:St):St:=fr.map fun o=>match o with
 |some j=>(σ[j]?).join
 |none=>none
theorem Yp{fr:List (Option Nat)}{σ:St}{i:Nat}{v:V}(h:(carry fr σ)[i]? = some (some v)):∃j,fr[i]? = some (some j)∧σ[j]? = some (some v):=by
 unfold carry at h;rw [List.getElem?_map]at h;cases e:fr[i]? with
 |none=>rw [e]at h;cases h
 |some o =>
  rw [e]at h;cases o with
  |none=>simp at h
  |some j =>
   refine⟨j,rfl,?_⟩;simp only [Option.map_some,Option.some.injEq]at h;cases q:σ[j]? with
   |none=>rw [q]at h;cases h
   |some w=>rw [q]at h;simp at h;rw [h]
theorem Gp{env:Env}:∀(names:List (Str×NameKind)) (cs:List (Str×Addr)),(∀x∈names,x.2=NameKind.free→∃c,env.cells.lookup x.1=some c)→(∀x c,cs.lookup x=some c→env.cells.lookup x=some c) →
  ∃cl,(forIn names cs (fun(x:Str×NameKind) (r:List (Str×Addr))=>do if(x.2==NameKind.free)=true then do let a ←cellOf env x.1;pure (ForInStep.yield ((x.1,a)::r)) else pure (ForInStep.yield r)):Sem (List (Str×Addr)))=pure cl ∧
   (∀x c,cl.lookup x=some c→env.cells.lookup x=some c)∧(∀x,(∃c,cs.lookup x=some c)→∃c,cl.lookup x=some c)∧∀x∈names,x.2=NameKind.free→∃c,cl.lookup x.1=some c
 |[],cs,_,h2=>⟨cs,rfl,h2,fun _ q=>q,fun _ z=>(by cases z)⟩
 |(n,k)::r,cs,h1,h2=>by
  rw [List.forIn_cons];by_cases hk:(k==NameKind.free)=true
  ·obtain⟨c,hc⟩:=h1 (n,k) ae (by simpa using hk);have h2':∀x c',((n,c)::cs).lookup x=some c'→env.cells.lookup x=some c':=fun x c' e=>by
    rw [List.lookup_cons]at e;cases hx:x==n with
    |true=>rw [hx]at e;have:=beq_iff_eq.mp hx;subst this;simp at e;rw [←e];exact hc
    |false=>rw [hx]at e;exact h2 x c' e
   obtain⟨cl,q1,q2,q3,q4⟩:=Gp r ((n,c)::cs) (fun x hx=>h1 x (aS _ hx)) h2';have hn:∃c',cl.lookup n=some c':=q3 n ⟨c,by rw [List.lookup_cons,beq_self_eq_true]⟩;refine⟨cl,?_,q2,fun x hx=>?_,fun x hx hf=>?_⟩
   ·simp only [hk,if_true];unfold cellOf;rw [hc];exact q1
   ·refine q3 x ?_;rw [List.lookup_cons];cases hxn:x==n with
    |true=>exact⟨c,rfl⟩
    |false=>exact hx
   ·rcases aM.mp hx with e | hx
    ·subst e;exact hn
    ·exact q4 x hx hf
  ·obtain⟨cl,q1,q2,q3,q4⟩:=Gp r cs (fun x hx=>h1 x (aS _ hx)) h2;refine⟨cl,?_,q2,q3,fun x hx hf=>?_⟩
   ·simp only [hk];exact q1
   ·rcases aM.mp hx with e | hx
    ·subst e;exact absurd (by simpa using hf) hk
    ·exact q4 x hx hf
def Ai(X:Cx)(scope:Scope)(cl:List (Str×Addr))(N:List Str)(C:Addr)(s₀:Shared)(H₀:Hp)(fp:List Addr):Cx where
 prog:=X.prog
 w:=X.w
 K:=X.K
 mg:=X.mg
 base:=X.base
 A:=X.A
 N:=N
 s₀:=s₀
 H₀:=H₀
 env:=compEnvC scope cl C X.env
 outer:=X.stack
 stack:=X.stack
 ex:=fp
 fn:=fun _=>false
 calm:=X.calm
 pn:=[]
 xe:=fun _ _=>False
def M6(wi:TI)(fr:List (Option Nat))(ix:Nat)(tif:TT)(te:TE):TE:=fun σ H Q=>wi σ H fun J H1=>∀D,H1 D=none→∃W:Nat→Nat→List V→Hp→Prop,(∃m,W 0 m [] (upd H1 D (.lst []))) ∧
 ∀i m ys H,W i m ys H→H D=some (.lst ys)∧((J.stop i H∧Q (.ref D) H)∨(J.go i H∧ys.length<sizeLine∧∀x H',J.FI i H x H' →
  tif ((carry fr σ).set ix (some x)) H' fun b H2=>if b=true then te ((carry fr σ).set ix (some x)) H2 fun y H3=>H3 D=some (.lst ys)∧∃m',m'<m∧W (i+1) m' (ys++[y]) (upd H3 D (.lst (ys++[y])))
   else ∃m',m'<m∧W (i+1) m' ys H2))
structure EE(scope:Scope)(N:List Str)(x:Str)(ix:Nat):Prop where
 kind:scope.kind=.function
 cell:∀y∈scope.names,y.2≠.cell
 names:∀y∈scope.names,y.2=.local→scope.names.lookup y.1=some .local
 free:∀y∈scope.names,y.2=.free→scope.names.lookup y.1=some .free
 loc:scope.names.lookup x=some .local
 nd:N.Nodup
 at_:N[ix]? = some x
theorem lookup_mem{names:List (Str×NameKind)}{n:Str}{k:NameKind}:names.lookup n=some k→(n,k)∈names:=by
 induction names with
 |nil=>intro h;cases h
 |cons y r ih =>
  intro h;obtain⟨m,j⟩:=y;rw [List.lookup_cons]at h;cases e:n==m with
  |true=>rw [e]at h;have:=beq_iff_eq.mp e;subst this;simp at h;subst h;exact ae
  |false=>rw [e]at h;exact aS _ (ih h)
theorem SR{scope:Scope}{env:Env}(hc:∀y∈scope.names,y.2≠.cell){n:Str}(h:(relabel scope env).names.lookup n=some .cell∨(relabel scope env).names.lookup n=some .free):∃k,(n,k)∈scope.names∧k=NameKind.free:=by
 have key:∀k',(relabel scope env).names.lookup n=some k'→(k'=.cell∨k'=.free)→∃k,(n,k)∈scope.names∧k=NameKind.free:=fun k' h hk=>by
  have hm:=lookup_mem h;unfold relabel at hm;obtain⟨⟨m,k⟩,hy,e⟩:=aT.mp hm;dsimp only at e;by_cases hcond:(k==NameKind.free&&env.scope.kind==.function&&env.kindOf m==some .cell)=true
  ·rw [if_pos hcond]at e
   injection e with e1 e2
   subst e1;refine⟨k,hy,?_⟩;simp only [Bool.and_eq_true,beq_iff_eq]at hcond;exact hcond.1.1
  ·rw [if_neg hcond]at e
   injection e with e1 e2
   subst e1 e2;rcases hk with rfl | rfl
   ·exact absurd rfl (hc _ hy)
   ·exact⟨_,hy,rfl⟩
 rcases h with h | h
 ·exact key _ h (.inl rfl)
 ·exact key _ h (.inr rfl)
section
variable{X:Cx}{elt iter:Expr}{x:Str}{px pos:Pos}{ifs:List Expr}{scope:Scope}{wi:TI}{fr:List (Option Nat)}{ix:Nat}{tif:TT}{te:TE}{N:List Str}
theorem Jf{prog:Program}{w:World}{A:Around}{R:Result→Shared→Prop}{s:Shared}{elt target iter:Expr}{ifs:List Expr}{scope:Scope}{pos:Pos}{it acc:Value}{env:Env}(I:Nat→Shared→Prop)
 (turn:∀n s,I n s→wpAny (model prog w) A (pyNext it) (fun r s₁=>match r with
   |none=>R (.ok .next) s₁
   |some v=>wpAny (model prog w) A (letOwnedTupleGo target it v>>=fun _=>assign target env v) (fun _ s₂ =>
     wpAny (model prog w) A (forIn ifs true fun c r=>if r=true then do let ok ←isTrue c env (eval c env);pure (ForInStep.yield ok) else pure (ForInStep.yield r)) (fun ok s₃ =>
      if ok=true then wpAny (model prog w) A (eval elt env) (fun x s₄ =>
       wpAny (model prog w) A (call (.builtin "list.append") [acc,x]) (fun _ s₅=>∃m,m<n∧I m s₅) (notedBy (model prog w) A env fun e s'=>R (.error e) s') s₄) (notedBy (model prog w) A env fun e s'=>R (.error e) s') s₃
      else ∃m,m<n∧I m s₃) (notedBy (model prog w) A env fun e s'=>R (.error e) s') s₂) (notedBy (model prog w) A env fun e s'=>R (.error e) s') s₁) (notedBy (model prog w) A env fun e s'=>R (.error e) s') s)
 (n:Nat)(h:I n s) :
  codeAny (model prog w) A (.compLoop (.ListComp elt [⟨target,iter,ifs,0⟩] scope pos) 0 it acc env) R s:=by
 refine codeAny_loop rfl I (fun n s hI=>?_) n h;show wpAny _ A ((compTurn (.ListComp elt [⟨target,iter,ifs,0⟩] scope pos) 0 it acc env).onRaise (fun x=>do noteFrame x env;theTreesLotGoes x)) _ _ s;refine wpAny_noted ?_;rw [compTurn_list];refine Wb (wpAny_standAt (Wb (ai (turn n s hI) (fun r s₁ h₁=>?_) fun _ _ h'=>h')));cases r with
 |none=>exact aA h₁
 |some v =>
  show wpAny (model prog w) A (letOwnedTupleGo target it v>>=fun _=>assign target env v>>=_) _ _ s₁;rw [←bind_assoc];refine Wb (ai h₁ (fun _ s₂ h₂=>Wb (ai h₂ (fun ok s₃ h₃=>?_) fun _ _ h'=>h')) fun _ _ h'=>h');cases ok with
  |false=>exact aA ⟨rfl,h₃⟩
  |true =>
   exact Wb (Wb (ai h₃ (fun x s₄ h₄=>Wb (ai h₄ (fun _ s₅ h₅=>aA (aA ⟨rfl,h₅⟩)) fun _ _ h'=>h')) fun _ _ h'=>h'))
theorem NS{pins:List (Addr×Obj)}{σ:St}{H2:Hp}{s2:Shared}{Q:VK}{it:Addr}{fp:List Addr}{tn:Nat→Heap→Prop}{J:It}{cl:List (Str×Addr)}{E:Value→Shared→Prop}{RR:Value→Addr→Result→Shared→Prop}
 (S:EE scope N x ix)(hcalm:X.calm=true){tgE:Expr}{g:TG}(Rv:St→Prop)(r0:Rv (carry fr σ))(hpg:∀C,PG (Ai X scope cl N C s2 H2 fp) tgE g)(hfr:ER N X.N scope X.env.scope fr 0=true)(hlen:fr.length=N.length)
 (hif:∀cl C s₀ H₀ fp,Lh (Ai X scope cl N C s₀ H₀ fp) ifs tif)(he:∀cl C s₀ H₀ fp,PE (Ai X scope cl N C s₀ H₀ fp) elt te)
 (I2:Inv X pins σ H2 s2)(T:Turn X.prog X.w X.K tgE J fp it tn)(st2:tn 0 s2.heap)(f2:∀b∈fp,KH X pins H2 b)
 (c1:∀x c,cl.lookup x=some c→X.env.cells.lookup x=some c)(c2:∀x∈scope.names,x.2=NameKind.free→∃c,cl.lookup x.1=some c)
 (W:∀D,H2 D=none→∃W:Nat→Nat→List V→Hp→Prop,(∃m,W 0 m [] (upd H2 D (.lst []))) ∧
   ∀i m ys H,W i m ys H→H D=some (.lst ys)∧((J.stop i H∧Q (.ref D) H)∨(J.go i H∧ys.length<sizeLine∧∀x H',J.FI i H x H'→∀σ',Rv σ'→g x σ' H' fun σ6 H6=>Rv σ6 ∧
    tif σ6 H6 fun b H2=>if b=true then te σ6 H2 fun y H3=>H3 D=some (.lst ys)∧∃m',m'<m∧W (i+1) m' (ys++[y]) (upd H3 D (.lst (ys++[y])))
     else ∃m',m'<m∧W (i+1) m' ys H2)))
 (fin:∀(D C:Addr) (s':Shared) (H':Hp) m,s'.heap.Ns C m→Q (.ref D) H'→(∀h',Heap.SameBut C s'.heap h'→Inv X pins σ H' { s' with heap:=h' })→C≠D→(∀b o,s2.heap.get? b=some o→b≠C)→H' C=none→s2.heap.objs.size≤C→RR (.ref D) C (.ok .next) s') :
  wpAny (model X.prog X.w) X.A (newList []) (fun acc s₃=>wpAny (model X.prog X.w) X.A (newFunctionEnv scope X.env.globals cl [] X.env.qual none .none (some X.env)) (fun cenv s₄ =>
   codeAny (model X.prog X.w) X.A (.compStart (.ListComp elt [⟨tgE,iter,ifs,0⟩] scope pos) 0 (.ref it) acc { cenv with scope:=relabel scope X.env }) (RR acc cenv.locals) s₄) E s₃) E s2:=by
 refine ay (wpAny_newFunctionEnv S.cell (by intro y hy;simp at hy) (fun h₁ hns₁ hsb₁=>?_) S.kind);dsimp only at hns₁ hsb₁ ⊢;generalize hHp:s2.heap.push { cls:=.type "list",dict:=none,data:=.seq ([]:List Value).toArray }=Hq at hns₁ hsb₁ ⊢;have hC:Hq.objs.size=s2.heap.objs.size+1:=by rw [←hHp,Heap.size_push]
 have hDC:s2.heap.objs.size≠Hq.objs.size:=by rw [hC];exact aG (bL _)
 have below:∀b,b<s2.heap.objs.size→b≠Hq.objs.size∧b≠s2.heap.objs.size:=fun b hb=>⟨by rw [hC];exact aG (aq hb),Nat.ne_of_lt hb⟩;have old:∀b o,s2.heap.get? b=some o→h₁.get? b=some o:=fun b o e=>hsb₁.extBut b o (below b (aF e)).1 (aD _ (hHp ▸ aD _ e));have hacc:h₁.get? s2.heap.objs.size=some { cls:=.type "list",data:=.seq ([]:List Value).toArray }:=hsb₁.extBut _ _ hDC (aD _ (hHp ▸ aO _ rfl));have hD2:H2 s2.heap.objs.size=none:=I2.Ap.fresh (aJ _);have hC2:H2 Hq.objs.size=none:=I2.Ap.fresh (by rw [hC];exact Nat.le_succ _);have fpo:∀b∈fp,b<s2.heap.objs.size:=fun b hb=>by
  obtain⟨o,e,_⟩:=T.obj _ _ st2 b hb;exact aF e
 obtain⟨W,⟨m0,w0⟩,turn⟩:=W s2.heap.objs.size hD2;have ok:(Ai X scope cl N Hq.objs.size s2 H2 fp).Ok:=by
  refine⟨I2.ok.mod,S.kind,I2.ok.glob,I2.ok.blt,by show s2.heap.objs.size≤Hq.objs.size;rw [hC];exact Nat.le_succ _,?_,?_,?_,fun _=>I2.ok.hd hcalm,I2.ok.frames,.inl rfl,?_,I2.bs,Nat.le_trans I2.ok.RB I2.sz,?_,?_,I2.stack,I2.QA⟩
  ·exact fun a b c h1 h2=>I2.ok.inj a b c (c1 _ _ h1) (c1 _ _ h2)
  ·intro y hy;obtain⟨k,hm,rfl⟩:=SR S.cell hy;exact c2 _ hm rfl
  ·intro y c hf;cases hf
  ·intro b hb;refine⟨(below b (fpo b hb)).1,fun y c e=>?_⟩;obtain⟨_,_,_,_,f5,_⟩:=f2 b hb;exact f5 y c (c1 _ _ e)
  ·intro b o e hb;obtain⟨_,_,_,f4,_,_⟩:=f2 b hb;rcases f4 with z | z
   ·exact I2.ok.SS b o e z
   ·exact absurd (aH (aF e) (aa I2.ok.RB z)) (Nat.lt_irrefl _)
  ·intro b hb hs;obtain⟨_,f1,f3,_⟩:=f2 b hb;rcases aM.mp (I2.MJ b hs) with z | z
   ·exact f1 z
   ·exact f3 z
 have I4:Inv (Ai X scope cl N Hq.objs.size s2 H2 fp) [] (carry fr σ) (upd H2 s2.heap.objs.size (.lst [])) { s2 with heap:=h₁,toks:=s2.toks+([]:List (Str×Value)).length }:=by
  refine⟨ok,rfl,I2.bare,Un.laid old (aJ _) hD2,⟨_,hns₁,fun i y v h1 h2 h3=>?_⟩,fun y c e=>?_,?_,fun y c e=>?_,fun p hp=>(by cases hp),I2.Ap.laid old (aJ _) ⟨ar _,[],0,.nil,hacc⟩,?_⟩
  ·obtain⟨j,e1,e2⟩:=Yp h2;obtain⟨n,n1,n2,n3,n4⟩:=N6 hfr e1;rw [Nat.zero_add]at n1;have:y=n:=by
    have h1':N[i]? = some y:=h1;rw [h1']at n1;exact aY n1
   subst this;obtain⟨m,hn,hl⟩:=I2.loc;obtain⟨u,ru,lk⟩:=hl j y v n2 e2 (.inr (.inl n4));refine⟨u,ru,?_⟩;obtain⟨c,hc⟩:=c2 _ (lookup_mem n3) rfl;rcases lk with ⟨k1,_⟩ | ⟨_,c',hc',hcell⟩
   ·have k1':X.env.scope.names.lookup y=some .local:=k1;rw [n4]at k1';cases k1'
   ·have:=c1 _ _ hc;rw [hc']at this;cases this;refine .inr ⟨?_,c,hc,hcell.keeps old⟩;rcases h3 with z | z | z
    ·obtain⟨k,hm⟩:∃k,(y,k)∈scope.names∧k=NameKind.local:=by
      have hm:=lookup_mem z;have hm':(y,NameKind.local)∈(relabel scope X.env).names:=hm;unfold relabel at hm';obtain⟨⟨m',k⟩,hy,e⟩:=aT.mp hm';dsimp only at e;by_cases hcond:(k==NameKind.free&&X.env.scope.kind==.function&&X.env.kindOf m'==some .cell)=true
      ·rw [if_pos hcond]at e;injection e with _ e2';cases e2'
      ·rw [if_neg hcond]at e;injection e with e1' e2';subst e1' e2';exact⟨_,hy,rfl⟩
     obtain⟨hm,rfl⟩:=hm;have:=S.names _ hm rfl;rw [n3]at this;cases this
    ·exact .inl z
    ·exact .inr z
  ·obtain⟨v,z⟩:=I2.cell y c (c1 _ _ e);exact⟨v,z.keeps old⟩
  ·show upd H2 s2.heap.objs.size _ Hq.objs.size=none;rw [AM (Ne.symm hDC)];exact hC2
  ·obtain⟨v,o,ho,_⟩:=I2.cell y c (c1 _ _ e);rw [AM (below c (aF ho)).2];exact I2.Hg y c (c1 _ _ e)
  ·show(carry fr σ).length=N.length;unfold carry;rw [List.length_map];exact hlen
 have fpX:∀(p:List (Addr×Obj)) (H':Hp),(∀q∈p,q.1∈fp→False)→(∀b∈fp,H' b=none)→∀b∈fp,KH (Ai X scope cl N Hq.objs.size s2 H2 fp) p H' b:=fun p H' hp hn b hb=>by
  obtain⟨_,f1,f3,f4,f5,_⟩:=f2 b hb;refine⟨hn b hb,(below b (fpo b hb)).1,fun hs=>ok.UD b hb hs,.inl hb,fun y c e=>f5 y c (c1 _ _ e),fun q hq e=>?_⟩;exact hp q hq (e ▸ hb)
 have hxv:(relabel scope X.env).names.lookup x=some .local:=lookup_relabel_local S.loc;have loop:∀s₃:Shared,s₃={ s2 with heap:=h₁,toks:=s2.toks+([]:List (Str×Value)).length } →
   codeAny (model X.prog X.w) X.A (.compLoop (.ListComp elt [⟨tgE,iter,ifs,0⟩] scope pos) 0 (.ref it) (.ref s2.heap.objs.size) (compEnvC scope cl Hq.objs.size X.env)) (RR (.ref s2.heap.objs.size) Hq.objs.size) s₃:=by
  rintro s₃ rfl;refine Jf (fun n s'=>∃i ys σ' H',Inv (Ai X scope cl N Hq.objs.size s2 H2 fp) [] σ' H' s'∧Rv σ'∧tn i s'.heap∧(∀b∈fp,H' b=none)∧W i n ys H') ?_ m0
   ⟨0,[],carry fr σ,_,I4,r0,T.keep _ _ _ st2 fun b _ o e=>old b o e,fun b hb=>by rw [AM (below b (fpo b hb)).2];exact(f2 b hb).1,w0⟩
  rintro n s3 ⟨i,ys,σ3,H3,I3,hσ,st3,fr3,w3⟩;obtain⟨hD3,way⟩:=turn i n ys H3 w3;rcases way with ⟨stop,qn⟩ | ⟨go,hsz,step⟩
  ·refine ai (T.done (Ai X scope cl N Hq.objs.size s2 H2 fp) rfl rfl rfl hcalm i [] s3 σ3 H3 (fun _ _=>False) I3 (fpX [] H3 (fun _ z=>by cases z) fr3) st3 stop) (fun r s4 ⟨hr,I5⟩=>?_) fun _ _ z=>z.elim;subst hr;obtain⟨m,hn,_⟩:=id I5.loc;refine fin _ _ s4 H3 m hn qn (fun h' hs'=>?_) (Ne.symm hDC) (fun b o e=>(below b (aF e)).1) I5.free (by rw [hC];exact Nat.le_succ _);have nC:∀b u,H3 b=some u→b≠Hq.objs.size:=fun b u e z=>by
    have:=I5.free;rw [show(Ai X scope cl N Hq.objs.size s2 H2 fp).env.locals=Hq.objs.size from rfl,←z,e]at this;cases this
   have keepU:Un (Ft X.stack) fp H2 H3 s2.heap h':=by
    have u:=I5.base;refine⟨fun b o e n hb hx=>?_,fun b o e n hb hx=>?_,fun b o e n hx=>u.free b o e n hx,fun b o e hx=>?_,u.C0,u.Gz,u.HW⟩
    ·exact(hs'.2 b (below b (aF e)).1).trans (u.keep b o e n hb hx)
    ·obtain⟨sl,e1⟩:=u.slot b o e n hb hx;exact⟨sl,(hs'.2 b (below b (aF e)).1).trans e1⟩
    ·obtain⟨o',e1⟩:=u.there b o e hx;exact⟨o',(hs'.2 b (below b (aF e)).1).trans e1⟩
   have hok':EO X.prog X.w H3 h':=fun b u e=>(I5.Ap b u e).JH (fun c v hc q=>(hs'.2 c (by
    rcases hc with rfl | hc
    ·exact nC _ _ e
    ·exact nC _ _ hc)).trans q) (fun _ q=>q) fun _ _ q=>q
   refine I2.j6 (s':={ s4 with heap:=h' }) (ch:=fp) I5.os keepU hok' I5.bare fun b hb=>?_;obtain⟨_,f1,_,f4,f5,f6⟩:=f2 b hb;exact⟨f4,f1,f5,f6⟩
  ·refine ai (T.item (Ai X scope cl N Hq.objs.size s2 H2 fp) rfl rfl rfl hcalm i [] s3 σ3 H3 (fun _ _=>False) I3 (fpX [] H3 (fun _ z=>by cases z) fr3) st3 go) (fun r s4 ⟨u,hr,h4⟩=>?_) fun _ _ z=>z.elim;subst hr;show wpAny (model X.prog X.w) X.A (letOwnedTupleGo tgE (.ref it) u>>=fun _=>assign tgE (compEnvC scope cl Hq.objs.size X.env) u) _ _ s4;refine Wb (ai h4 (fun _ s5 ⟨xv,H5,I5,r5,y5,st5,fr5⟩=>?_) fun _ _ z=>z.elim);have I5':=I5.pinned (fpX [] H5 (fun _ z=>by cases z) fr5) (T.obj _ _ st5);refine ai (hpg _ _ s5 σ3 H5 xv u _ I5' r5 (step xv H5 y5 σ3 hσ)) (fun _ s6 ⟨σ6,H6,I6,rv6,step5⟩=>?_) fun _ _ z=>z.elim;refine ai (hif _ _ _ _ _ _ s6 _ H6 _ I6 step5) (fun b s7 ⟨H7,I7,q7⟩=>?_) fun _ _ z=>z.elim;have again:∀ {s8:Shared} {H8:Hp} {k:Nat} {zs:List V},Inv (Ai X scope cl N Hq.objs.size s2 H2 fp) ([]++MZ fp s5.heap) σ6 H8 s8→W (i+1) k zs H8→k<n →
     ∃m,m<n∧∃i ys σ' H',Inv (Ai X scope cl N Hq.objs.size s2 H2 fp) [] σ' H' s8∧Rv σ'∧tn i s8.heap∧(∀b∈fp,H' b=none)∧W i m ys H':=fun {s8 H8 k zs} I8 w8 hk=>by
    refine⟨k,hk,i+1,zs,_,H8,I8.Ky,rv6,T.keep _ _ _ st5 fun b hb o e=>(I8.pin (b,o) (aZ _ (aZ _ (IU hb e)))).1,fun b hb=>?_,w8⟩;obtain⟨o,e,d⟩:=T.obj _ _ st5 b hb;exact(I8.pin (b,o) (aZ _ (aZ _ (IU hb e)))).2.1
   cases b with
   |false =>
    rw [if_neg aK]at q7 ⊢;obtain⟨k,hk,w7⟩:=q7;exact again I7 w7 hk
   |true =>
    rw [if_pos rfl]at q7 ⊢;refine ai (he _ _ _ _ _ _ s7 _ H7 _ I7 q7) (fun yv s8 ⟨y,H8,I8,r8,hD8,k,hk,w8⟩=>?_) fun _ _ z=>z.elim;refine ai (FV (X:=Ai X scope cl N Hq.objs.size s2 H2 fp) _ s8 _ H8 (.ref s2.heap.objs.size) [y] (.ref s2.heap.objs.size) [yv] (fun _ H9=>H9=upd H8 s2.heap.objs.size (.lst (ys++[y]))) I8 rfl (.cons r8 .nil) ⟨_,ys,y,rfl,rfl,hD8,hsz,rfl⟩) (fun _ s9 ⟨_,H9,I9,_,e9⟩=>?_) fun _ _ z=>z.elim;subst e9;exact again I9 w8 hk
 exact codeAny_compStart_list (loop _ rfl) (T.self X.A 0 _ _ _ (T.keep _ _ _ st2 fun b _ o e=>old b o e) (loop _ rfl))
theorem PX{pins:List (Addr×Obj)}{σ:St}{H2:Hp}{s2:Shared}{Q:VK}{it:Addr}{fp:List Addr}{tn:Nat→Heap→Prop}{J:It}{cl:List (Str×Addr)}{E:Value→Shared→Prop}{RR:Value→Addr→Result→Shared→Prop}
 (S:EE scope N x ix)(hcalm:X.calm=true)(hfr:ER N X.N scope X.env.scope fr 0=true)(hlen:fr.length=N.length)
 (hif:∀cl C s₀ H₀ fp,Lh (Ai X scope cl N C s₀ H₀ fp) ifs tif)(he:∀cl C s₀ H₀ fp,PE (Ai X scope cl N C s₀ H₀ fp) elt te)
 (I2:Inv X pins σ H2 s2)(T:Turn X.prog X.w X.K (.Name x px) J fp it tn)(st2:tn 0 s2.heap)(f2:∀b∈fp,KH X pins H2 b)
 (c1:∀x c,cl.lookup x=some c→X.env.cells.lookup x=some c)(c2:∀x∈scope.names,x.2=NameKind.free→∃c,cl.lookup x.1=some c)
 (W:∀D,H2 D=none→∃W:Nat→Nat→List V→Hp→Prop,(∃m,W 0 m [] (upd H2 D (.lst []))) ∧
   ∀i m ys H,W i m ys H→H D=some (.lst ys)∧((J.stop i H∧Q (.ref D) H)∨(J.go i H∧ys.length<sizeLine∧∀x H',J.FI i H x H' →
    tif ((carry fr σ).set ix (some x)) H' fun b H2=>if b=true then te ((carry fr σ).set ix (some x)) H2 fun y H3=>H3 D=some (.lst ys)∧∃m',m'<m∧W (i+1) m' (ys++[y]) (upd H3 D (.lst (ys++[y])))
     else ∃m',m'<m∧W (i+1) m' ys H2)))
 (fin:∀(D C:Addr) (s':Shared) (H':Hp) m,s'.heap.Ns C m→Q (.ref D) H'→(∀h',Heap.SameBut C s'.heap h'→Inv X pins σ H' { s' with heap:=h' })→C≠D→(∀b o,s2.heap.get? b=some o→b≠C)→H' C=none→s2.heap.objs.size≤C→RR (.ref D) C (.ok .next) s') :
  wpAny (model X.prog X.w) X.A (newList []) (fun acc s₃=>wpAny (model X.prog X.w) X.A (newFunctionEnv scope X.env.globals cl [] X.env.qual none .none (some X.env)) (fun cenv s₄ =>
   codeAny (model X.prog X.w) X.A (.compStart (.ListComp elt [⟨.Name x px,iter,ifs,0⟩] scope pos) 0 (.ref it) acc { cenv with scope:=relabel scope X.env }) (RR acc cenv.locals) s₄) E s₃) E s2:=by
 have hxv:(relabel scope X.env).names.lookup x=some .local:=lookup_relabel_local S.loc;refine NS S hcalm (fun σ'=>∀v,σ'.set ix v=(carry fr σ).set ix v) (fun _=>rfl) (fun C=>A1 (X:=Ai X scope cl N C s2 H2 fp) S.nd S.at_ (.inl hxv) (.inr hxv)) hfr hlen hif he I2 T st2 f2 c1 c2 (fun D hD=>?_) fin;obtain⟨W,w0,st⟩:=W D hD;refine⟨W,w0,fun i m ys H w=>?_⟩;obtain⟨h1,h2 | ⟨h2,h3,h4⟩⟩:=st i m ys H w
 ·exact⟨h1,.inl h2⟩
 ·refine⟨h1,.inr ⟨h2,h3,fun x H' hy σ' hr=>?_⟩⟩;have:=h4 x H' hy;rw [←hr]at this;exact⟨fun v=>by rw [List.set_set,hr],this⟩
theorem er(S:EE scope N x ix)(hcalm:X.calm=true)(hfr:ER N X.N scope X.env.scope fr 0=true)(hlen:fr.length=N.length)(hfree:∀y∈scope.names,y.2=.free→X.env.scope.names.lookup y.1=some .cell∨X.env.scope.names.lookup y.1=some .free)
 (hi:PI X (.Name x px) iter wi)(hif:∀cl C s₀ H₀ fp,Lh (Ai X scope cl N C s₀ H₀ fp) ifs tif)(he:∀cl C s₀ H₀ fp,PE (Ai X scope cl N C s₀ H₀ fp) elt te)
 (hs:∀x,foldedSetIterable iter X.env x=pure x:=by intro _;rfl):PE X (.ListComp elt [⟨.Name x px,iter,ifs,0⟩] scope pos) (M6 wi fr ix tif te):=by
 intro pins s σ H Q I hw;obtain⟨cl,hclos,c1,_,c2⟩:=Gp (env:=X.env) scope.names [] (fun y hy hf=>I.ok.has y.1 (hfree y hy hf)) (fun y c z=>by cases z);have hclos':closureFor scope X.env=pure cl:=by
  have e:closureFor scope X.env=((forIn scope.names [] (fun(x:Str×NameKind) (r:List (Str×Addr))=>do if(x.2==NameKind.free)=true then do let a ←cellOf X.env x.1;pure (ForInStep.yield ((x.1,a)::r)) else pure (ForInStep.yield r)):Sem (List (Str×Addr)))>>=fun cs=>pure cs):=rfl;rw [e,hclos]
  rfl
 rw [eval_ListComp];refine wpAny_comprehension_free (use:=none) rfl hs hclos' S.kind S.names (BB (hi pins s σ H _ I hw) fun v s1 h1=>BB h1 fun itv s2 h2=>?_);obtain⟨it,fp,tn,J,H2,e,I2,T,st2,f2,W⟩:=h2;subst e;refine PX (RR:=fun acc C=>compPost (model X.prog X.w) X.A X.xe none (EP X pins σ Q) acc C) S hcalm hfr hlen hif he I2 T st2 f2 c1 c2 W ?_;intro D C s' H' m hn q hI _ _ _ _;exact⟨m,hn,fun h' hs'=>⟨.ref D,H',hI h' hs',rfl,q⟩⟩
theorem Wj{i : Nat}{y : Str}{py spos : Pos}(hN : X.N.Nodup)(hy : X.N[i]? = some y)(hly : X.env.scope.names.lookup y = some .local)(S : EE scope N x ix)(hcalm : X.calm = true)(hfr : ER N X.N scope X.env.scope fr 0 = true)(hlen : fr.length = N.length)
 (hfree : ∀ y∈scope.names,y.2 = .free→X.env.scope.names.lookup y.1 = some .cell∨X.env.scope.names.lookup y.1 = some .free)
 (hi : PI X (.Name x px) iter wi)(hif : ∀ cl C s₀ H₀ fp,Lh (Ai X scope cl N C s₀ H₀ fp) ifs tif)(he : ∀ cl C s₀ H₀ fp,PE (Ai X scope cl N C s₀ H₀ fp) elt te)
 (hsw : swapsWith (.ListComp elt [⟨.Name x px,iter,ifs,0⟩] scope pos) (some (.Name y py)) spos.line X.env = pure true := by rfl)
 (hs : ∀ x,foldedSetIterable iter X.env x = pure x := by intro _; rfl) :
    PS X (.Assign [.Name y py] (.ListComp elt [⟨.Name x px,iter,ifs,0⟩] scope pos) spos) (Qc (M6 wi fr ix tif te) (Fj i)) := by
  intro pins s σ H D I hw
  obtain ⟨cl,hclos,c1,_,c2⟩:=Gp (env:=X.env) scope.names [] (fun y hy hf => I.ok.has y.1 (hfree y hy hf)) (fun y c z => by cases z)
  have hclos' : closureFor scope X.env = pure cl := by
    have e : closureFor scope X.env = ((forIn scope.names [] (fun (x : Str×NameKind) (r : List (Str×Addr)) => do if (x.2 == NameKind.free) = true then do let a ← cellOf X.env x.1; pure (ForInStep.yield ((x.1,a) :: r)) else pure (ForInStep.yield r)) : Sem (List (Str×Addr))) >>= fun cs => pure cs):=rfl
    rw [e,hclos]
    rfl
  rw [exec_Assign_Name_used _ _ _ _ hsw]
  refine Wb (wpAny_standAt (Wb ?_))
  show wpAny _ X.A (do let _ ← comprehension (.ListComp elt [⟨.Name x px,iter,ifs,0⟩] scope pos) scope X.env _ (newList []) false (eval iter X.env) (some (assign (.Name y py) X.env))) _ _ s
  refine Wb (ai (wpAny_comprehension_free (use:=some (assign (.Name y py) X.env)) (Q:=fun _ s' => SP X pins D .next s') rfl hs hclos' S.kind S.names
    (BB (hi pins s σ H _ I hw) fun v s1 h1 => BB h1 fun itv s2 h2 => ?_)) (fun _ s' hq => aA (aA hq)) fun _ _ e => e)
  obtain ⟨it,fp,tn,J,H2,e,I2,T,st2,f2,W⟩:=h2
  subst e
  refine PX (Q:=fun x H1 => Fj i x σ H1 D.nx) (RR:=fun acc C => compPost (model X.prog X.w) X.A X.xe (some (assign (.Name y py) X.env)) (fun _ s' => SP X pins D .next s') acc C) S hcalm hfr hlen hif he I2 T st2 f2 c1 c2 W ?_
  intro D' C s' H' m hn q hI hCD hold hfreeC hsz
  have I5 : Inv X pins σ H' s':=hI s'.heap (Heap.SameBut.refl ..)
  refine wpAny_assign_Name (RJ I5 hN hy (.inl hly) (v:=.ref D') rfl (fun s'' I6 ⟨a,hsb,ha⟩ => ?_) (.inr hly))
  have hL : C≠X.env.locals:=fun z => by
    obtain ⟨_,⟨o,_,_,e,_⟩,_⟩:=I2.loc
    exact hold _ _ e z.symm
  have hcl : ∀ z c,X.env.cells.lookup z = some c→c≠C:=fun z c e => by
    obtain ⟨_,o,ho,_⟩:=I2.cell z c e
    exact hold _ _ ho
  have hCa : C≠a := by
    rcases ha with z | z
    · rw [z]; exact hL
    · exact Ne.symm (hcl _ _ z)
  refine ⟨m,hn.sameBut hsb hCa,fun h' hs' => ⟨_,H',I6.turned (t':=s''.toks) (it:=C) (fun b o hb e => (hs'.2 b hb).trans e) hfreeC hL (.inr (aa I2.sz hsz)) hcl fun p hp => ?_,q⟩⟩
  obtain ⟨e,_⟩:=I2.pin p hp
  exact hold _ _ e
end
end L2
namespace FM
def gi(a b:Int):Int:=(Int.gcd a b:Int)
theorem T8(a b:Int):Int.gcd b (a.fmod b)=Int.gcd a b:=by
 have e:a.fmod b=a-b*a.fdiv b:=Int.fmod_def a b;rw [e,Int.gcd_comm a b];exact Int.gcd_sub_mul_left_right b a (a.fdiv b)
theorem Q0(a b:Int)(hb:b≠0):(a.fmod b).natAbs<b.natAbs:=by
 rcases Int.lt_or_gt_of_ne hb with h | h
 ·have h1:-(a.fmod b)=(-a).fmod (-b):=by
   rw [Int.fmod_def,Int.fmod_def,Int.neg_fdiv_neg];have:-b*a.fdiv b=-(b*a.fdiv b):=Int.neg_mul _ _;omega
  have h2:=Int.fmod_nonneg_of_pos (-a) (show 0 < -b by omega);have h3:=Int.fmod_lt_of_pos (-a) (show 0 < -b by omega);omega
 ·have h2:=Int.fmod_nonneg_of_pos a h;have h3:=Int.fmod_lt_of_pos a h;omega
theorem L8{a b:Int}(hb:b≠0):0<gi a b:=by
 have:0<Int.gcd a b:=Int.gcd_pos_of_ne_zero_right a hb;unfold gi;omega
theorem cE{a b:Int}(hb:b≠0):(gi a b).natAbs≤b.natAbs:=by
 have h:Int.gcd a b ∣ b.natAbs:=by
  have:=Int.gcd_dvd_right a b;exact Int.natAbs_dvd_natAbs.mpr this
 have h2:0<b.natAbs:=by omega
 have:=Nat.le_of_dvd h2 h;unfold gi;omega
def gs(t b:Int):Int:=if b<0 then -gi t b else gi t b
theorem cb{t b:Int}(hb:b≠0):gs t b≠0:=by
 have:=L8 (a:=t) hb;unfold gs;split<;>omega
theorem cV{t b:Int}(hb:b≠0):(gs t b).natAbs≤b.natAbs:=by
 have:=cE (a:=t) hb;unfold gs;split<;>omega
theorem Ff{g x k:Int}(hg:g≠0)(e:x=g*k):x.fdiv g=k:=by
 subst e;exact Int.mul_fdiv_cancel_left k hg
theorem Nc(a b:Int):gi a b ∣ a:=Int.gcd_dvd_left a b
theorem Mb(a b:Int):gi a b ∣ b:=Int.gcd_dvd_right a b
theorem Sn{t b:Int}(hb:b≠0):t.fdiv (gs t b)=(Rat.divInt t b).num:=by
 have hp:=L8 (a:=t) hb;obtain⟨k,hk⟩:=Nc t b;rw [Rat.num_divInt,Int.gcd_comm b t];show t.fdiv (gs t b)=b.sign*t / gi t b;unfold gs;generalize gi t b=g at hp hk ⊢;rcases Int.lt_or_gt_of_ne hb with h | h
 ·rw [if_pos h,Int.sign_eq_neg_one_of_neg h,Ff (k:=-k) (by omega) (by rw [hk];simp [Int.mul_neg,Int.neg_mul])];have:-1*t=g*(-k):=by rw [hk];simp [Int.mul_neg]
  rw [this,Int.mul_ediv_cancel_left _ (by omega)]
 ·rw [if_neg (by omega),Int.sign_eq_one_of_pos h,Ff (k:=k) (by omega) hk,Int.one_mul,hk,Int.mul_ediv_cancel_left _ (by omega)]
theorem Tz{t b:Int}(hb:b≠0):b.fdiv (gs t b)=((Rat.divInt t b).den:Int):=by
 have hp:=L8 (a:=t) hb;obtain⟨k,hk⟩:=Mb t b;rw [Rat.den_divInt,if_neg hb,Int.gcd_comm b t];have e:(((b.natAbs / Int.gcd t b:Nat)):Int)=(b.natAbs:Int) / gi t b:=by unfold gi;simp
 rw [e];unfold gs;generalize gi t b=g at hp hk ⊢;rcases Int.lt_or_gt_of_ne hb with h | h
 ·rw [if_pos h,Ff (k:=-k) (by omega) (by rw [Int.neg_mul_neg];exact hk)];have:(b.natAbs:Int)=g*(-k):=by rw [Int.mul_neg,←hk];omega
  rw [this,Int.mul_ediv_cancel_left _ (by omega)]
 ·rw [if_neg (by omega),Ff (k:=k) (by omega) hk];have:(b.natAbs:Int)=g*k:=by rw [←hk];omega
  rw [this,Int.mul_ediv_cancel_left _ (by omega)]
theorem FJ(a b:Int):(a.fdiv b).natAbs≤a.natAbs:=by
 cases a with
 |ofNat n =>
  cases n with
  |zero =>
   have e:Int.fdiv (.ofNat 0) b=0:=Int.zero_fdiv b;rw [e];exact ar _
  |succ k =>
   cases b with
   |ofNat j=>exact Nat.div_le_self (k+1) j
   |negSucc j=>exact Nat.succ_le_succ (Nat.div_le_self k (j+1))
 |negSucc k =>
  cases b with
  |ofNat j =>
   cases j with
   |zero=>exact ar _
   |succ j=>exact Nat.succ_le_succ (Nat.div_le_self k (j+1))
  |negSucc j=>exact Nat.div_le_self (k+1) (j+1)
theorem i9{t b:Int}(hb:b≠0):(Rat.divInt t b).num.natAbs≤t.natAbs:=by
 rw [←Sn hb];exact FJ _ _
theorem gI{t b:Int}(hb:b≠0):(Rat.divInt t b).den≤b.natAbs:=by
 have h:=FJ b (gs t b);rw [Tz hb]at h
 simpa using h
theorem PB(p:Rat):(p.den:Int)≠0:=by
 have:=p.den_nz;omega
theorem Dl(p:Rat):Rat.divInt p.num p.den=p:=Rat.num_divInt_den p
theorem jR(p q:Rat):Rat.divInt (p.num*q.den+q.num*p.den) (p.den*q.den)=p+q:=by
 rw [←Rat.divInt_add_divInt _ _ (PB p) (PB q),Dl,Dl]
theorem N5(p q:Rat):Rat.divInt (p.num*q.num) (p.den*q.den)=p*q:=by
 rw [←Rat.divInt_mul_divInt,Dl,Dl]
theorem Mk(p q:Rat):(p.den:Int)*q.den≠0:=Int.mul_ne_zero (PB p) (PB q)
theorem JL{x y:Int}{m n:Nat}(hx:x.natAbs<2 ^ m)(hy:y.natAbs<2 ^ n):(x*y).natAbs<2 ^ (m+n):=by
 rw [Int.natAbs_mul,Nat.pow_add];exact Nat.mul_lt_mul'' hx hy
theorem Ml{x:Nat}{m n:Nat}(hx:x<2 ^ m)(h:m≤n):x<2 ^ n:=aH hx (af (by decide) h)
def Fits(p:Rat)(n:Nat):Prop:=p.num.natAbs<2 ^ n∧p.den<2 ^ n
theorem Fits.mono{p:Rat}{m n:Nat}(h:Fits p m)(l:m≤n):Fits p n:=⟨Ml h.1 l,Ml h.2 l⟩
theorem Fits.d{p:Rat}{n:Nat}(h:Fits p n):((p.den:Int)).natAbs<2 ^ n:=by simpa using h.2
theorem Fits.Xu{t b:Int}{n:Nat}(hb:b≠0)(h1:t.natAbs<2 ^ n)(h2:b.natAbs<2 ^ n):Fits (Rat.divInt t b) n :=
 ⟨aV (i9 hb) h1,Nat.lt_of_le_of_lt (gI hb) h2⟩
theorem dd{p q:Rat}{m n:Nat}(h:Fits p m)(k:Fits q n):((p.den:Int)*q.den).natAbs<2 ^ (m+n):=JL h.d k.d
theorem nn{p q:Rat}{m n:Nat}(h:Fits p m)(k:Fits q n):(p.num*q.num).natAbs<2 ^ (m+n):=JL h.1 k.1
theorem Fits.times{p q:Rat}{m n:Nat}(h:Fits p m)(k:Fits q n):Fits (p*q) (m+n):=by
 rw [←N5];exact .Xu (Mk p q) (nn h k) (dd h k)
end FM
namespace FM
theorem VG(a b:Int):Int.gcd (if a<0 then -a else a) (if b<0 then -b else b)=Int.gcd a b:=by
 split<;>split<;>simp [Int.gcd_neg,Int.neg_gcd]
theorem abs_nonneg(a:Int):0≤(if a<0 then -a else a):=by split<;>omega
theorem YG{g a b:Int}(h:Int.gcd g 0=Int.gcd a b)(h0:0≤g):g=gi a b:=by
 unfold gi;rw [←h,Int.gcd_zero_right];omega
theorem fmod_nonneg{g l:Int}(hl:l≠0)(h:0≤l):0≤g.fmod l:=Int.fmod_nonneg_of_pos g (by omega)
end FM
namespace L2
open PySem PySem.Spec PyProof.Rows
structure Fn(K:Fg)(mg:Str→Option Value)(x:Str)(st:Stmt)(ps:List Str)(f:Addr)(fd:FuncData):Prop where
 F:Q2 K x x st f fd
 b:Binds K fd ps []
 m:mg x=some (.ref f)
section
variable{X:Cx}{k:Nat}{f:Addr}{fd:FuncData}{ps:List Str}{sp:Sp}{x:Str}{st:Stmt}{p pos:Pos}{e:Expr}{es:List Expr}{t:TA}
theorem GF(T:Fn X.K X.mg x st ps f fd)(G:AL X.prog X.w X.K X.mg X.base Ao k f fd ps sp)(hr:DH k X.A)(hg:Gl X x)(ha:PA X (e::es) t)
 (hdb:(x==("__debug__" : Str))=false:=by decide)(he:starEach (e::es) X.env=(false,eval e X.env)::starEach es X.env:=by rfl)(hpl:(backTo pos (starEach es X.env)).any (·.1)=false:=by rfl) :
  PE X (.Call (.Name x p) (e::es) [] pos) (Wv sp [] E0 t):=VD G hr hg T.m T.F.kp T.b .nil kT ha hdb he hpl
end
theorem N1{t u:TS}{D:Ends}{σ:St}{H:Hp}(P:St→Hp→Prop)(h1:∀nx:St→Hp→Prop,(∀σ' H',P σ' H'→nx σ' H')→t { D with nx:=nx } σ H)(h2:∀σ' H',P σ' H'→u D σ' H'):jS t u D σ H:=h1 _ h2
theorem Xg:2≤sizeLine:=by decide
theorem Bh{H:Hp}{p:Addr}(h:H p=none)(o:HO):AO H (upd H p o):=fun b u q=>by rw [AM (Aj q h)];exact q
def QY(p:Rat):List V:=[.int p.num,.int (p.den:Int)]
def Rt(K:Fg)(H:Hp)(p:Rat)(v:V):Prop:=∃a,v=.ref a∧A8 K H a (QY p)
theorem Rt.of{K:Fg}{H:Hp}{p:Rat}{a:Addr}(h:H a=some (.tup (QY p))):Rt K H p (.ref a):=⟨a,rfl,.of h⟩
theorem QC{i j:Int}{m n:Nat}(h1:i.natAbs<2 ^ m)(h2:j.natAbs<2 ^ n)(h:m+n≤1000000):Wx i j∨Ru i j :=
 .inr ⟨m+n,h,FM.Ml h1 (Nat.le_add_right _ _),FM.Ml h2 (Nat.le_add_left _ _)⟩
structure mE(P:Program)(w:World)(outer:List Env)(H:Hp)(s:Shared)(ea:Addr)(cls a0:Value)(H':Hp)(s':Shared)(B:Heap):Prop where
 os:s'.os=s.os
 bare:AllBare s'.gens
 nU:Heap.FlyingW B outer ea cls a0 s'.heap
 keep:∀b o,s.heap.get? b=some o→H b=none→b ∉ Ft outer→B.get? b=some o
 there:∀b o,s.heap.get? b=some o→b ∉ Ft outer→∃o',B.get? b=some o'
 slot:∀b o,s.heap.get? b=some o→b∈Ft outer→∃sl,s'.heap.get? b=some { o with slots:=sl }
 free:∀b o,s.heap.get? b=some o→H b=none→H' b=none
 C0:∀b xs,H b=some (.tup xs)→H' b=some (.tup xs)
 Gz:∀b o u,H b=some (.Ed o u)→H' b=some (.Ed o u)
 HW:∀b ps,H b=some (.PU ps)→∃more,H' b=some (.PU (ps++more))
 Ap:EO P w H' B
 new:s.heap.get? ea=none
def Cf(P:Program)(w:World):GQ:=fun outer H s E e s'=>∃ea cls a0 H' B,e=.ref ea∧mE P w outer H s ea cls a0 H' s' B∧E cls none H'
theorem SH{base h:Heap}{l:List Env}(F:h.FunFrames base l){b:Addr}(hb:b∈Ft l):∃o,h.get? b=some o∧∀vs,o.data≠.fields vs:=(F.mem hb).2
section
variable{P:Program}{w:World}{K:Fg}{mg:Str→Option Value}{base:Heap}{N:List Str}{qual:Str}{scope:Scope}{f:Addr}{cd:Value}{A:Around}{outer:List Env}{s:Shared}{H:Hp}{E:XK}
theorem cy{pins:List (Addr×Obj)}{σ:St}{H1:Hp}{s1:Shared}{h':Heap}{ea:Addr}{cls:Value}{args:List Value}(I:Inv (Ca (Cf P w) P w K mg base N qual scope f cd A outer s H E) pins σ H1 s1)
 (hx:Heap.MadeExcOf s1.heap h' ea cls args)(hE:E cls none H1):(Ca (Cf P w) P w K mg base N qual scope f cd A outer s H E).xe (.ref ea) { s1 with heap:=h' }:=by
 show wpAny (model P w) (A.deeper (envOfC qual scope s.heap.objs.size f cd)) (leaving (envOfC qual scope s.heap.objs.size f cd) (.ref ea)) _ _ _;have FF:=I.stack;have hfr:(A.deeper (envOfC qual scope s.heap.objs.size f cd)).frames=some (envOfC qual scope s.heap.objs.size f cd::outer):=I.ok.frames;have hin:∀env∈(envOfC qual scope s.heap.objs.size f cd::outer),∀b,env.frame=some b→b∈(envOfC qual scope s.heap.objs.size f cd::outer).filterMap (·.frame):=fun env he b hb=>List.mem_filterMap.mpr ⟨env,he,hb⟩;have notL:∀b o,s.heap.get? b=some o→b≠s.heap.objs.size:=fun b o e=>aG (aF e);have out:∀b,b≠s.heap.objs.size→b ∉ Ft outer→b ∉ (envOfC qual scope s.heap.objs.size f cd::outer).filterMap (·.frame):=fun b h1 h2 hm=>by
  rcases aM.mp (I.MJ b hm) with z | z
  ·exact h1 z
  ·exact h2 z
 have outT:∀b u,H1 b=some u→b ∉ (envOfC qual scope s.heap.objs.size f cd::outer).filterMap (·.frame):=fun b u e hm=>by
  have:=I.QA b hm;rw [e]at this;cases this
 refine wpAny_leaves_madeW (base:=PySem.W.hideAll s1.heap ((envOfC qual scope s.heap.objs.size f cd::outer).filterMap (·.frame))) hfr rfl (fun b o q=>PySem.W.of_hideAll _ q) (PySem.W.funFrames_hide FF hin) hx fun h2 t fl _ _ up=>?_;have hokB:EO P w H1 (PySem.W.hideAll s1.heap ((envOfC qual scope s.heap.objs.size f cd::outer).filterMap (·.frame))):=fun b u e =>
  (I.Ap b u e).JH (fun c v hc q=>PySem.W.hideAll_get _ q (by
   rcases hc with rfl | hc
   ·exact outT _ _ e
   ·exact outT _ _ hc)) (fun _ q=>q) fun _ _ q=>q
 refine⟨ea,cls,.ref t,H1,_,rfl,⟨I.os,I.bare,fl,fun b o e n hb=>?_,fun b o e hb=>?_,fun b o e hb=>?_,fun b o e n=>I.base.free b o e n (by simp [Ca]),I.base.C0,I.base.Gz,I.base.HW,hokB,?_⟩,hE⟩
 ·exact PySem.W.hideAll_get _ (I.base.keep b o e n hb (by simp [Ca])) (out b (notL b o e) hb)
 ·obtain⟨o',e1⟩:=I.base.there b o e (by simp [Ca]);exact⟨o',PySem.W.hideAll_get _ e1 (out b (notL b o e) hb)⟩
 ·obtain⟨sl,e1⟩:=I.base.slot b o e (I.ok.RO b hb) hb (by simp [Ca]);obtain⟨o',e2,hd⟩:=SH I.HH hb;rw [e1]at e2;cases e2;obtain⟨sl',e3⟩:=up b _ (hx.keeps _ _ e1) hd;exact⟨sl',e3⟩
 ·cases q:s.heap.get? ea with
  |none=>rfl
  |some o =>
   obtain⟨o',e1⟩:=I.base.there ea o q (by simp [Ca]);have:=hx.new;rw [e1]at this;cases this
theorem jn{E':XK}(hE:∀c a H',E' c a H'→E c a H'):Passes (Cf P w) (Ca (Cf P w) P w K mg base N qual scope f cd A outer s H E) E':=by
 intro pins σ H1 s1 e s2 I ⟨ea,cls,a0,H2,B,ee,F,hq⟩;subst ee;show wpAny (model P w) (A.deeper (envOfC qual scope s.heap.objs.size f cd)) (leaving (envOfC qual scope s.heap.objs.size f cd) (.ref ea)) _ _ _;have notL:∀b o,s.heap.get? b=some o→b≠s.heap.objs.size:=fun b o e=>aG (aF e);have out:∀b,b≠s.heap.objs.size→b ∉ Ft outer→b ∉ Ft (Ca (Cf P w) P w K mg base N qual scope f cd A outer s H E).stack:=fun b h1 h2 hm=>by
  rcases aM.mp (I.MJ b hm) with z | z
  ·exact h1 z
  ·exact h2 z
 refine wpAny_leaves_onW I.ok.frames rfl F.nU fun h3 fl up=>?_;refine⟨ea,cls,a0,H2,B,rfl,⟨F.os.trans I.os,F.bare,fl,fun b o e n hb=>?_,fun b o e hb=>?_,fun b o e hb=>?_,fun b o e n=>?_,fun b xs q=>F.C0 b xs (I.base.C0 b xs q),fun b o u q=>F.Gz b o u (I.base.Gz b o u q),fun b ps q=>?_,F.Ap,?_⟩,hE _ _ _ hq⟩
 ·exact F.keep b o (I.base.keep b o e n hb (by simp [Ca])) (I.base.free b o e n (by simp [Ca])) (out b (notL b o e) hb)
 ·obtain⟨o',e1⟩:=I.base.there b o e (by simp [Ca]);exact F.there b o' e1 (out b (notL b o e) hb)
 ·obtain⟨sl,e1⟩:=I.base.slot b o e (I.ok.RO b hb) hb (by simp [Ca]);have hb':b∈Ft (Ca (Cf P w) P w K mg base N qual scope f cd A outer s H E).stack:=by
   show b∈Ft (envOfC qual scope s.heap.objs.size f cd::outer);unfold Ft;rw [List.filterMap_cons];exact aS _ hb
  obtain⟨sl2,e2⟩:=F.slot b _ e1 hb';obtain⟨o',e3,hd⟩:=SH I.HH hb;rw [e1]at e3;cases e3;obtain⟨sl3,e4⟩:=up b _ e2 hd;exact⟨sl3,e4⟩
 ·obtain⟨o',e1⟩:=I.base.there b o e (by simp [Ca]);exact F.free b o' e1 (I.base.free b o e n (by simp [Ca]))
 ·obtain⟨m1,e1⟩:=I.base.HW b ps q;obtain⟨m2,e2⟩:=F.HW b _ e1;exact⟨m1++m2,by rw [e2,Array.append_assoc]⟩
 ·cases q:s.heap.get? ea with
  |none=>rfl
  |some o =>
   obtain⟨o',e1⟩:=I.base.there ea o q (by simp [Ca]);have:=F.new;rw [e1]at this;cases this
theorem Q2.nS{x:Str}{st:Stmt}{fd:FuncData}{ps:List Str}{k:Nat}{sp:Sp}(F:Q2 K x x st f fd)(S:Ad N ps (AR st))(len:∀vs H Q E,sp vs H Q E→vs.length=ps.length)
 (hbody:∀(cdv:Value) (A:Around) (outer:List Env) (s:Shared) (H:Hp) (vs:List V) (Q:VK) (E:XK),DH k (A.deeper (envOfC x (AR st) s.heap.objs.size f cdv))→sp vs H Q E →
   ∃t,HB (Ca (Cf P w) P w K mg base N x (AR st) f cdv A outer s H E) (Ds st) t∧t { nx:=fun _ H'=>Q .A7 H',rt:=Q } (start N vs) H):AL P w K mg base (Cf P w) (k+1) f fd ps sp:=by
 obtain⟨oc,od,kV,doc,pm,an,cdv,ct,osl,rfl,lk,hcd⟩:=F.ex;exact cT lk hcd S len fun A outer s H vs Q E hr hsp=>hbody cdv A outer s H vs Q E hr hsp
end
structure Exc(K:Fg)(mg:Str→Option Value)(x:Str)(C:Addr):Prop where
 m:mg x=some (.ref C)
 q:PySem.W.excIn K C [.type "ValueError",.type "Exception",.type "BaseException",.type "object"] "ValueError.__new__" = true
theorem eQ{K:Fg}{h:Heap}{C:Addr}{bB:List Value}{nid:String}(O2:K.In h)(hq:PySem.W.excIn K C bB nid=true) :
  ∃tl N nm qn bs hd sn sub ab col dd k0 k1 k2 k3 k5 mN,h.get? C=some (excClassObj nm qn C N bs tl hd sn sub ab col dd k0 k1 k2 k3 k5 nid)∧h.Ns N mN∧mN "__init__" = none∧OwnTail h bB tl:=by
 unfold PySem.W.excIn at hq;split at hq
 ·rename_i dd cd sl lk;split at hq
  ·rename_i C1 tl k0 k1 k2 k3 n1 k5 e1 e2;simp only [Bool.and_eq_true,beq_iff_eq,Bool.not_eq_true']at hq;obtain⟨⟨⟨⟨⟨y1,y2⟩,y3⟩,y4⟩,y5⟩,y6⟩:=hq;subst y1 y2;obtain⟨nm,bs,mro,N,qn,hd,sn,sub,ab,col,del⟩:=cd;dsimp only at e1 y3 y5 y6;subst e1 y3;have e3:sl=#[k0,k1,k2,k3,some (.builtin n1),k5]:=by
    cases sl with
    |mk l=>simp only at e2;rw [e2]
   subst e3;exact⟨tl,N,nm,qn,bs,hd,sn,sub,ab,col,dd,k0,k1,k2,k3,k5,_,O2 _ _ lk,.of_isNs (PySem.W.isNs_of_in O2 y5),PySem.W.nsMap_none_of_in O2 y5 y6,PySem.W.tail_of_in O2 y4⟩
  ·cases hq
 ·cases hq
section
variable{X:Cx}{x:Str}{C:Addr}{np cpos pos:Pos}{e:Expr}{te:TE}{E:XK}
def Lets(X:Cx)(E:XK):Prop:=∀(pins:List (Addr×Obj)) (σ:St) (H:Hp) (s:Shared) (h':Heap) (ea:Addr) (cls:Value) (args:List Value),Inv X pins σ H s→Heap.MadeExcOf s.heap h' ea cls args→E cls none H→X.xe (.ref ea) { s with heap:=h' }
def gE(C:Addr)(E:XK)(te:TE):TS:=fun _ σ H=>te σ H fun _ H1=>E (.ref C) none H1
theorem Y0(T:Exc X.K X.mg x C)(hL:Lets X E)(hcalm:X.calm=true)(hg:Gl X x)(he:PE X e te)(hd:(x==("__debug__" : Str))=false:=by decide)
 (hst:starEach [e] X.env=[(false,eval e X.env)]:=by rfl):PS X (.Raise (some (.Call (.Name x np) [e] [] cpos)) none pos) (gE C E te):=by
 intro pins s σ H D I h;obtain⟨tl,N,nm,qn,bs,hdct,sn,sub,ab,col,dd,k0,k1,k2,k3,k5,mN,hC,hN,hni,TL⟩:=eQ I.ok.mod.O2 T.q;refine wpAny_Raise_call_subT (C:=C) (nm:=nm) (q:=qn) (N:=N) (bs:=bs) (bm:=tl) (hdct:=hdct) (sn:=sn) (sub:=sub) (ab:=ab) (col:=col) (dd:=dd) (k0:=k0) (k1:=k1) (k2:=k2) (k3:=k3) (k5:=k5)
  PySem.F.excBase_ValueError (mN:=mN) (TL.hasType (by decide)) (I.ok.hd hcalm) (by rw [hst];rfl) hni (QS I hg T.m ⟨rfl,?_⟩ hd)
 rw [hst];refine Calls.evalArgs_plain (Calls.spliced_cons (BB (he pins s σ H _ I h) fun u s1 ⟨v,H1,I1,r1,q1⟩=>Calls.spliced_nil ?_));exact⟨rfl,by show 1≤sizeLine;decide,I1.bk _ _ hC,hN.keeps I1.bk,TL.keeps I1.bk,fun h' ea hm=>hL pins σ H1 s1 h' ea _ _ I1 hm q1⟩
end
def lg(ea:Addr)(cls:Value):HO:=.ext fun h=>∃o vs,h.get? ea=some o∧o.cls=cls∧o.data=.fields vs
structure Vr(K:Fg)(C G:Addr)(b:Bool):Prop where
 cl:(PySem.W.clsIn K G).isSome=true
 ty:PySem.W.typeIn K (.ref G)=some (.type "type")
 ex:PySem.W.subIn K (.ref G) (.type "BaseException")=some true
 sub:PySem.W.subIn K (.ref C) (.ref G)=some b
open PySem PySem.Spec PyProof.Rows PySem.Builtin.ObjectAttr PySem.Builtin.Getset_descriptor
structure iH(K:Fg)(C:Addr):Prop where
 cl:(PySem.W.clsIn K C).isSome=true
 ga:PySem.W.findIn K (.ref C) "__getattribute__" = some (some (.builtin "BaseException.__getattribute__"))
 gh:PySem.W.findIn K (.ref C) "__getattr__" = some none
 at_:PySem.W.findIn K (.ref C) "__class__" = some (some (.builtin "object.__class__"))
 gt:PySem.W.specialIn K (.builtin "object.__class__") "__get__" = some (some (.builtin "getset_descriptor.__get__"))
 tk:PySem.W.takesIn K (.builtin "object.__class__")=some true
 ob:PySem.W.mroIn K C (.type "object")=some true
 be:PySem.W.mroIn K C (.type "BaseException")=some true
def P7:V→Value
 |.ref C=>.ref C
 |.ty n=>.type n
 |_=>.none
theorem eX{c:V}{u:Value}(r:RelV c u)(h:P7 c≠.none):u=P7 c:=by
 cases c with
 |ref C=>exact r
 |ty n=>exact r
 |_=>exact absurd rfl h
section
variable{X:Cx}
def mR(K:Fg):List V→Hp→VK→Prop:=fun xs H Q=>∃x c t b,xs=[x,c]∧P7 c≠.none∧Fy K H x t∧PySem.W.kitOne K t (P7 c)=some b∧Q (.bl b) H
theorem HV:D3 X (.builtin "isinstance") (mR X.K):=by
 intro pins s σ H xs us Q I r h;obtain⟨x,c,t,b,rfl,hc,ty,e,q⟩:=h;obtain⟨u,v,rfl,r1,r2⟩:=r.two;rw [eX r2 hc];exact XG I r1 ty e fun tk=>⟨.bl b,H,I.tok tk,rfl,q⟩
end
theorem XW(K:Fg):PySem.W.kitOne K (.type "tuple") (.type "tuple")=some true:=rfl
theorem ft(K:Fg):PySem.W.kitOne K (.type "int") (.type "int")=some true:=rfl
theorem fU(K:Fg):PySem.W.kitOne K (.type "bool") (.type "bool")=some true:=rfl
theorem iT(K:Fg):PySem.W.kitOne K (.type "int") (.type "bool")=some false:=by kernel_rfl
theorem gZ(K:Fg):PySem.W.kitOne K (.type "bool") (.type "int")=some true:=by kernel_rfl
theorem iX(K:Fg):PySem.W.kitOne K (.type "list") (.type "tuple")=some false:=by kernel_rfl
theorem jK(K:Fg):PySem.W.kitOne K (.type "tuple") (.type "list")=some false:=by kernel_rfl
theorem ir(K:Fg):PySem.W.kitOne K (.type "list") (.type "list")=some true:=rfl
theorem gb(K:Fg):PySem.W.kitOne K (.type "int") (.type "tuple")=some false:=by kernel_rfl
theorem ig(K:Fg):PySem.W.kitOne K (.type "bool") (.type "tuple")=some false:=by kernel_rfl
theorem fK(K:Fg):PySem.W.kitOne K (.type "NoneType") (.type "tuple")=some false:=by kernel_rfl
theorem fS(K:Fg):PySem.W.kitOne K (.type "str") (.type "tuple")=some false:=by kernel_rfl
theorem i5(K:Fg):PySem.W.kitOne K (.type "tuple") (.type "int")=some false:=by kernel_rfl
theorem iJ(K:Fg):PySem.W.kitOne K (.type "list") (.type "int")=some false:=by kernel_rfl
theorem ik(K:Fg):PySem.W.kitOne K (.type "NoneType") (.type "int")=some false:=by kernel_rfl
theorem gw(K:Fg):PySem.W.kitOne K (.type "str") (.type "int")=some false:=by kernel_rfl
theorem gK(K:Fg):PySem.W.kitOne K (.type "int") (.type "list")=some false:=by kernel_rfl
theorem gc(K:Fg):PySem.W.kitOne K (.type "bool") (.type "list")=some false:=by kernel_rfl
theorem gH(K:Fg):PySem.W.kitOne K (.type "NoneType") (.type "list")=some false:=by kernel_rfl
theorem jE(K:Fg):PySem.W.kitOne K (.type "str") (.type "list")=some false:=by kernel_rfl
def freeOk(xsc:Scope)(names:List (Str×NameKind)):Bool:=names.all fun y=>y.2 != .free||xsc.names.lookup y.1==some .cell||xsc.names.lookup y.1==some .free
theorem MX{xsc:Scope}{names:List (Str×NameKind)}(h:freeOk xsc names=true):∀y∈names,y.2=.free→xsc.names.lookup y.1=some .cell∨xsc.names.lookup y.1=some .free:=fun y hy hf=>by
 have q:=aN.mp h y hy;rw [hf]at q;simp only [bne_self_eq_false,Bool.false_or,Bool.or_eq_true,beq_iff_eq]at q;exact q
def Bk(scope:Scope)(N:List Str)(x:Str)(ix:Nat):Bool :=
 scope.kind==.function&&(scope.names.all fun y=>y.2 != .cell&&(y.2 != .local||scope.names.lookup y.1==some .local)&&(y.2 != .free||scope.names.lookup y.1==some .free))&&scope.names.lookup x==some .local&&decide N.Nodup&&N[ix]? == some x
theorem G9{scope:Scope}{N:List Str}{x:Str}{ix:Nat}(h:Bk scope N x ix=true):EE scope N x ix:=by
 unfold Bk at h;simp only [Bool.and_eq_true,beq_iff_eq,decide_eq_true_eq,List.all_eq_true,bne_iff_ne,Bool.or_eq_true]at h;obtain⟨⟨⟨⟨h1,h2⟩,h3⟩,h4⟩,h5⟩:=h;exact⟨h1,fun y hy=>(h2 y hy).1.1,fun y hy hl=>(h2 y hy).1.2.resolve_left fun z=>z hl,fun y hy hl=>(h2 y hy).2.resolve_left fun z=>z hl,h3,h4,h5⟩
section
variable{X:Cx}{elt iter:Expr}{x:Str}{px pos:Pos}{ifs:List Expr}{scope:Scope}{wi:TI}{tif:TT}{te:TE}
theorem LD(N:List Str)(ix:Nat)(fr:List (Option Nat))(hi:PI X (.Name x px) iter wi)(hif:∀cl C s₀ H₀ fp,Lh (Ai X scope cl N C s₀ H₀ fp) ifs tif)(he:∀cl C s₀ H₀ fp,PE (Ai X scope cl N C s₀ H₀ fp) elt te)
 (h1:Bk scope N x ix=true:=by decide +kernel)(h2:X.calm=true:=by rfl)(h3:ER N X.N scope X.env.scope fr 0=true:=by rfl)(h4:fr.length=N.length:=by rfl)(h5:freeOk X.env.scope scope.names=true:=by rfl)
 (hs:∀x,foldedSetIterable iter X.env x=pure x:=by intro _;rfl):PE X (.ListComp elt [⟨.Name x px,iter,ifs,0⟩] scope pos) (M6 wi fr ix tif te) :=
 er (G9 h1) h2 h3 h4 (MX h5) hi hif he hs
theorem NU{i:Nat}{y:Str}{py spos:Pos}(N:List Str)(ix:Nat)(fr:List (Option Nat))(hN:X.N.Nodup)(hy:X.N[i]? = some y)(hly:X.env.scope.names.lookup y=some .local)
 (hi:PI X (.Name x px) iter wi)(hif:∀cl C s₀ H₀ fp,Lh (Ai X scope cl N C s₀ H₀ fp) ifs tif)(he:∀cl C s₀ H₀ fp,PE (Ai X scope cl N C s₀ H₀ fp) elt te)
 (h1:Bk scope N x ix=true:=by decide +kernel)(h2:X.calm=true:=by rfl)(h3:ER N X.N scope X.env.scope fr 0=true:=by rfl)(h4:fr.length=N.length:=by rfl)(h5:freeOk X.env.scope scope.names=true:=by rfl)
 (hsw:swapsWith (.ListComp elt [⟨.Name x px,iter,ifs,0⟩] scope pos) (some (.Name y py)) spos.line X.env=pure true:=by rfl)
 (hs:∀x,foldedSetIterable iter X.env x=pure x:=by intro _;rfl):PS X (.Assign [.Name y py] (.ListComp elt [⟨.Name x px,iter,ifs,0⟩] scope pos) spos) (Qc (M6 wi fr ix tif te) (Fj i)) :=
 Wj hN hy hly (G9 h1) h2 h3 h4 (MX h5) hi hif he hsw hs
end
section
variable{X:Cx}{k:Nat}{f:Addr}{fd:FuncData}{ps:List Str}{sp:Sp}{x:Str}{st:Stmt}{p pos:Pos}{e:Expr}{es:List Expr}{t:TA}{E:XK}
theorem Xw(T:Fn X.K X.mg x st ps f fd)(G:AL X.prog X.w X.K X.mg X.base (Cf X.prog X.w) k f fd ps sp)(hr:DH k X.A)(hg:Gl X x)(hP:Passes (Cf X.prog X.w) X E)(ha:PA X (e::es) t)
 (hdb:(x==("__debug__" : Str))=false:=by decide)(he:starEach (e::es) X.env=(false,eval e X.env)::starEach es X.env:=by rfl)(hpl:(backTo pos (starEach es X.env)).any (·.1)=false:=by rfl) :
  PE X (.Call (.Name x p) (e::es) [] pos) (Wv sp [] E t):=VD G hr hg T.m T.F.kp T.b .nil hP ha hdb he hpl
end
end L2
inductive Tr where
 |nil
 |cons (b r:Tr)
 deriving DecidableEq
namespace Tr
def bs:Tr→List Tr
 |.nil=>[]
 |.cons b r=>b::r.bs
def of:List Tr→Tr
 |[]=>.nil
 |b::r=>.cons b (of r)
theorem O8:∀t:Tr,of t.bs=t
 |.nil=>rfl
 |.cons b r=>by rw [bs,of,O8 r]
theorem Rq:∀l:List Tr,(of l).bs=l
 |[]=>rfl
 |b::r=>by rw [of,bs,Rq r]
theorem SY{t u:Tr}(h:t.bs=u.bs):t=u:=by rw [←O8 t,h,O8]
def len:Tr→Nat
 |.nil=>0
 |.cons _ r=>r.len+1
theorem C7:∀t:Tr,t.bs.length=t.len
 |.nil=>rfl
 |.cons _ r=>by rw [bs,List.length_cons,C7 r,len]
def AU:Tr→Nat
 |.nil=>1
 |.cons b r=>b.AU+r.AU
def deep:Tr→Nat
 |.nil=>0
 |.cons b r=>max (b.deep+1) r.deep
def lt:Tr→Tr→Bool
 |.nil,.nil=>false
 |.nil,.cons _ _=>true
 |.cons _ _,.nil=>false
 |.cons b r,.cons c q=>if b=c then lt r q else lt b c
theorem lt_irrefl:∀t:Tr,lt t t=false
 |.nil=>rfl
 |.cons b r=>by rw [lt,if_pos rfl];exact lt_irrefl r
theorem lt_trans:∀a b c:Tr,lt a b=true→lt b c=true→lt a c=true
 |.nil,.nil,_,h,_=>by cases h
 |.nil,.cons _ _,.nil,_,h=>by cases h
 |.nil,.cons _ _,.cons _ _,_,_=>rfl
 |.cons _ _,.nil,_,h,_=>by cases h
 |.cons _ _,.cons _ _,.nil,_,h=>by cases h
 |.cons a r,.cons b s,.cons c t,h1,h2=>by
  rw [lt]at h1 h2 ⊢;by_cases e1:a=b
  ·subst e1;rw [if_pos rfl]at h1;by_cases e2:a=c
   ·subst e2;rw [if_pos rfl]at h2 ⊢;exact lt_trans r s t h1 h2
   ·rw [if_neg e2]at h2 ⊢;exact h2
  ·rw [if_neg e1]at h1;by_cases e2:b=c
   ·subst e2;rw [if_neg e1];exact h1
   ·rw [if_neg e2]at h2;have h3:=lt_trans a b c h1 h2;by_cases e3:a=c
    ·subst e3;rw [lt_irrefl]at h3;cases h3
    ·rw [if_neg e3];exact h3
theorem JJ:∀a b:Tr,lt a b=false→lt b a=false→a=b
 |.nil,.nil,_,_=>rfl
 |.nil,.cons _ _,h,_=>by cases h
 |.cons _ _,.nil,_,h=>by cases h
 |.cons a r,.cons b s,h1,h2=>by
  rw [lt]at h1 h2;by_cases e:a=b
  ·subst e;rw [if_pos rfl]at h1 h2;rw [JJ r s h1 h2]
  ·rw [if_neg e]at h1;rw [if_neg (Ne.symm e)]at h2;exact absurd (JJ a b h1 h2) e
theorem Nl(a b c:Tr)(h:lt a c=true):lt a b=true∨lt b c=true:=by
 cases h1:lt a b with
 |true=>exact .inl rfl
 |false =>
  right
  cases h2:lt b a with
  |true=>exact lt_trans b a c h2 h
  |false=>rw [←JJ a b h1 h2];exact h
theorem lt_asymm{a b:Tr}(h:lt a b=true):lt b a=false:=by
 cases h2:lt b a with
 |false=>rfl
 |true=>have:=lt_trans a b a h h2;rw [lt_irrefl]at this;cases this
def Lz:List Tr→List Tr→Bool
 |[],[]=>false
 |[],_::_=>true
 |_::_,[]=>false
 |b::r,c::q=>if b=c then Lz r q else lt b c
theorem bo:∀t u:Tr,lt t u=Lz t.bs u.bs
 |.nil,.nil=>rfl
 |.nil,.cons _ _=>rfl
 |.cons _ _,.nil=>rfl
 |.cons b r,.cons c q=>by
  rw [lt,bs,bs,Lz,bo r q]
def DY:Tr→Bool
 |.nil=>true
 |.cons b r=>b.DY&&r.DY&&(match r with
  |.nil=>true
  |.cons c _=>!lt b c)
def ins(x:Tr):List Tr→List Tr
 |[]=>[x]
 |y::r=>if lt x y=true then y::ins x r else x::y::r
def Bb:List Tr→List Tr
 |[]=>[]
 |x::r=>ins x (Bb r)
end Tr
namespace TH
open PySem PyProof.Rows PySem.SeqAt
def Vs(h:Heap):Tr→List Value→Prop
 |.nil,us=>us=[]
 |.cons b r,us=>∃(a:Addr) (its rest:List Value),us=.ref a::rest∧h.IsTuple a its.toArray∧Vs h b its∧Vs h r rest
theorem Vs.length{h:Heap}:∀ {t:Tr} {us:List Value},Vs h t us→us.length=t.len
 |.nil,us,e=>by rw [Vs]at e;rw [e];rfl
 |.cons b r,us,e=>by
  rw [Vs]at e;obtain⟨a,its,rest,rfl,_,_,q⟩:=e;rw [List.length_cons,Tr.len,Vs.length q]
theorem Gw{h:Heap}{a:Addr}{x y:Array Value}(h1:h.IsTuple a x)(h2:h.IsTuple a y):x=y:=by
 obtain⟨o,e,_,n,d⟩:=h1;obtain⟨o',e',_,n',d'⟩:=h2;rw [e]at e';cases e';rw [d]at d';cases d';rfl
theorem Vs.inj{h:Heap}:∀ {t u:Tr} {us:List Value},Vs h t us→Vs h u us→t=u
 |.nil,.nil,_,_,_=>rfl
 |.nil,.cons _ _,us,e,f=>by
  rw [Vs]at e;rw [Vs]at f;obtain⟨_,_,_,f,_⟩:=f;rw [e]at f;cases f
 |.cons _ _,.nil,us,e,f=>by
  rw [Vs]at e;rw [Vs]at f;obtain⟨_,_,_,e,_⟩:=e;rw [f]at e;cases e
 |.cons b r,.cons c q,us,e,f=>by
  rw [Vs]at e f;obtain⟨a,its,rest,rfl,h1,h2,h3⟩:=e;obtain⟨a',its',rest',e',k1,k2,k3⟩:=f;cases e';have:=Gw h1 k1;have e2:its=its':=by simpa using this
  subst e2;rw [Vs.inj h2 k2,Vs.inj h3 k3]
theorem Oj{s:Shared}:∀(t u:Tr) (A:Around) (us vs:List Value),Vs s.heap t us→Vs s.heap u vs→A.units+t.deep≤cLine →
  ∀j (h1:j<us.length) (h2:j<vs.length),EqAt A s us[j] vs[j] (decide (t.bs[j]? = u.bs[j]?))
 |.nil,u,A,us,vs,e,f,_,j,h1,h2=>by
  rw [Vs]at e;subst e;exact absurd h1 (ak _)
 |.cons b r,.nil,A,us,vs,e,f,_,j,h1,h2=>by
  rw [Vs]at f;subst f;exact absurd h2 (ak _)
 |.cons b r,.cons c q,A,us,vs,e,f,hu,j,h1,h2=>by
  rw [Vs]at e f;obtain⟨a,its,rest,rfl,k1,k2,k3⟩:=e;obtain⟨a',its',rest',rfl,l1,l2,l3⟩:=f;have hd:(Tr.cons b r).deep=max (b.deep+1) r.deep:=rfl;cases j with
  |zero =>
   show EqAt A s (.ref a) (.ref a') (decide (some b=some c));by_cases ea:a=a'
   ·subst ea;have:=Gw k1 l1;have e2:its=its':=by simpa using this
    subst e2;rw [Vs.inj k2 l2,decide_eq_true rfl];exact EqAt.same _
   ·refine EqAt.of_refs ea ?_;have key:=RcAt.tuples (s:=s) (A:=A) (e:=fun j=>decide (b.bs[j]? = c.bs[j]?)) k1 l1 (by omega) fun j x1 x2=>by
     have:=Oj b c A.in1 its its' k2 l2 (by rw [show A.in1.units=A.units+1 from rfl];omega) j (by simpa using x1) (by simpa using x2)
     simpa using this
    have ev:((List.range (min its.toArray.size its'.toArray.size)).all (fun j=>decide (b.bs[j]? = c.bs[j]?))&&its.toArray.size==its'.toArray.size)=decide (some b=some c):=by
     have z1:its.toArray.size=b.bs.length:=by rw [Tr.C7,←Vs.length k2];simp
     have z2:its'.toArray.size=c.bs.length:=by rw [Tr.C7,←Vs.length l2];simp
     rw [z1,z2];by_cases hbc:b=c
     ·subst hbc;simp
     ·rw [decide_eq_false (fun z=>hbc (aY z))];cases hl:b.bs.length==c.bs.length with
      |false=>rw [Bool.and_false]
      |true =>
       rw [Bool.and_true];have hl':b.bs.length=c.bs.length:=by simpa using hl
       refine bA.mpr fun z=>hbc (Tr.SY (List.ext_getElem? fun i=>?_));by_cases hi:i<b.bs.length
       ·have:=aN.mp z i (bS.mpr (by omega))
        simpa using this
       ·rw [List.getElem?_eq_none (by omega),List.getElem?_eq_none (by omega)]
    rw [ev]at key;exact key
  |succ j =>
   exact Oj r q A rest rest' k3 l3 (by omega) j (by simpa using h1) (by simpa using h2)
theorem LF{s:Shared}{t u:Tr}{A:Around}{a b:Addr}{its its':List Value}(h1:s.heap.IsTuple a its.toArray)(k1:Vs s.heap t its)(h2:s.heap.IsTuple b its'.toArray)(k2:Vs s.heap u its')(hu:A.units+t.deep<cLine) :
  EqAt A s (.ref a) (.ref b) (decide (t=u)):=by
 have:=Oj (.cons t .nil) (.cons u .nil) A [.ref a] [.ref b] ⟨a,its,[],rfl,h1,k1,by rw [Vs]⟩ ⟨b,its',[],rfl,h2,k2,by rw [Vs]⟩ (by show A.units+max (t.deep+1) 0≤cLine;omega) 0 (by simp) (by simp)
 simpa [Tr.bs]using this
theorem lZ{s:Shared}{t u:Tr}{A:Around}{a b:Addr}{its its':List Value}(h1:s.heap.IsTuple a its.toArray)(k1:Vs s.heap t its)(h2:s.heap.IsTuple b its'.toArray)(k2:Vs s.heap u its')(hu:A.units+t.deep<cLine) :
  RcAt A s (.ref a) (.ref b) (decide (t=u)):=by
 have key:=RcAt.tuples (s:=s) (A:=A) (e:=fun j=>decide (t.bs[j]? = u.bs[j]?)) h1 h2 (by omega) fun j x1 x2=>by
  have:=Oj t u A.in1 its its' k1 k2 (by rw [show A.in1.units=A.units+1 from rfl];omega) j (by simpa using x1) (by simpa using x2)
  simpa using this
 have ev:((List.range (min its.toArray.size its'.toArray.size)).all (fun j=>decide (t.bs[j]? = u.bs[j]?))&&its.toArray.size==its'.toArray.size)=decide (t=u):=by
  have z1:its.toArray.size=t.bs.length:=by rw [Tr.C7,←Vs.length k1];simp
  have z2:its'.toArray.size=u.bs.length:=by rw [Tr.C7,←Vs.length k2];simp
  rw [z1,z2];by_cases hbc:t=u
  ·subst hbc;simp
  ·rw [decide_eq_false hbc];cases hl:t.bs.length==u.bs.length with
   |false=>rw [Bool.and_false]
   |true =>
    rw [Bool.and_true];have hl':t.bs.length=u.bs.length:=by simpa using hl
    refine bA.mpr fun z=>hbc (Tr.SY (List.ext_getElem? fun i=>?_));by_cases hi:i<t.bs.length
    ·have:=aN.mp z i (bS.mpr (by omega))
     simpa using this
    ·rw [List.getElem?_eq_none (by omega),List.getElem?_eq_none (by omega)]
 rw [ev]at key;exact key
section
open PySem.AutoSeq1 (wpAny_loadPart')
open PySem.MeetsSeq PySem.MeetsSeq2 PySem.MeetsSeq3
theorem TJ(n0:Nat)(ih:∀(t u:Tr) (A:Around) (s:Shared) (a b:Addr) (its its':List Value),t.deep<n0→s.heap.IsTuple a its.toArray→Vs s.heap t its→s.heap.IsTuple b its'.toArray→Vs s.heap u its'→A.units+t.deep<cLine →
   ∀(prog:Program) (w:World) (E:Value→Shared→Prop) (Q:Value→Shared→Prop),Q (.bool (Tr.lt t u)) s→wpAny (model prog w) A (richCompare .Lt (.ref a) (.ref b)) Q E s)
 (l b:Addr)(items items2:Array Value)(n n2:Nat)(dd dd2:Option Addr)(sl sl2:Array (Option Value))(t u:Tr)(ht:t.deep≤n0) :
  Meets (Builtin.«tuple.__lt__» ⟨[.ref l,.ref b],[]⟩)
   (fun A R s=>s.heap.get? l=some { cls:=.type "tuple",dict:=dd,data:=.seq items n,slots:=sl }∧s.heap.get? b=some { cls:=.type "tuple",dict:=dd2,data:=.seq items2 n2,slots:=sl2 } ∧
    Vs s.heap t items.toList∧Vs s.heap u items2.toList∧A.units+t.deep<cLine∧R (.ok (.ret (.bool (Tr.lt t u)))) s) :=
 .of_wp fun prog w A R s h=>by
  obtain⟨hp,g,d,tk,os⟩:=s;obtain⟨hl,hb,hi,hj,hun,h⟩:=h;have f2:=AutoSeq1.sub_tuple_tuple;have z1:items.size=t.len:=by rw [←Vs.length hi];simp
  have z2:items2.size=u.len:=by rw [←Vs.length hj];simp
  wp_walk using wpAny_loadPart' hl,wpAny_loadPart' hb,wpAny_forIn_list _ (fun rest b s'=>b.1=none∧s'=⟨hp,g,d,tk,os⟩∧∃(vs ws:List Value) (t' u':Tr),rest=vs.zip ws ∧
   Vs hp t' vs∧Vs hp u' ws∧t'.deep≤t.deep∧t'.len+items2.size=u'.len+items.size∧R (.ok (.ret (.bool (Tr.lt t' u')))) ⟨hp,g,d,tk,os⟩) _
  case turn =>
   rintro⟨y,x⟩ rest b s' ⟨hb',rfl,vs,ws,t',u',hz,hvi,hwi,hdp,hlen,hR⟩;cases t' with
   |nil=>rw [Vs]at hvi;subst hvi;rw [List.zip_nil_left]at hz;cases hz
   |cons bt rt =>
    cases u' with
    |nil=>rw [Vs]at hwi;subst hwi;rw [List.zip_nil_right]at hz;cases hz
    |cons bu ru =>
     rw [Vs]at hvi hwi;obtain⟨a1,i1,v1,rfl,p1,p2,p3⟩:=hvi;obtain⟨a2,i2,v2,rfl,q1,q2,q3⟩:=hwi;rw [List.zip_cons_cons]at hz
     injection hz with hyx hrest
     injection hyx with hy hx
     subst hy hx;have hdd:(Tr.cons bt rt).deep=max (bt.deep+1) rt.deep:=rfl;rw [Tr.lt]at hR;simp only [Tr.len]at hlen;have he:=LF (s:=⟨hp,g,d,tk,os⟩) (A:=A.in1) p1 p2 q1 q2 (by rw [show A.in1.units=A.units+1 from rfl];omega);refine Wb (he prog w _ _ ?_);cases hc:decide (bt=bu) with
     |true =>
      rw [if_pos (aP hc)]at hR
      wp_walk
      exact⟨rfl,rfl,_,_,_,_,hrest,p3,q3,by omega,by omega,hR⟩
     |false =>
      rw [if_neg (bM hc)]at hR;have hri:=ih bt bu A.in1 ⟨hp,g,d,tk,os⟩ a1 a2 i1 i2 (by omega) p1 p2 q1 q2 (by rw [show A.in1.units=A.units+1 from rfl];omega) prog w
      wp_walk using hri
      exact⟨_,rfl,by simpa using hR⟩
  case fin =>
   rintro⟨b1,b2⟩ s' ⟨hb',rfl,vs,ws,t',u',hz,hvi,hwi,hdp,hlen,hR⟩;simp only at hb';subst hb';have hv:Tr.lt t' u'=decide (items.size<items2.size):=by
    cases t' with
    |nil =>
     cases u' with
     |nil =>
      simp only [Tr.len]at hlen;exact(bE (by omega)).symm
     |cons c q =>
      simp only [Tr.len]at hlen;exact(bT (by omega)).symm
    |cons bt rt =>
     cases u' with
     |nil =>
      simp only [Tr.len]at hlen;exact(bE (by omega)).symm
     |cons c q =>
      rw [Vs]at hvi hwi;obtain⟨_,_,_,rfl,_⟩:=hvi;obtain⟨_,_,_,rfl,_⟩:=hwi;rw [List.zip_cons_cons]at hz;cases hz
   rw [hv]at hR
   wp_walk
   exact⟨_,rfl,by simpa [Builtin.Tuple.tupleCompareSizes]using hR⟩
  case h =>
   exact⟨rfl,rfl,items.toList,items2.toList,t,u,rfl,hi,hj,Nat.le_refl _,by omega,h⟩
theorem R6:∀(n0:Nat) (t u:Tr) (A:Around) (s:Shared) (a b:Addr) (its its':List Value),t.deep<n0→s.heap.IsTuple a its.toArray→Vs s.heap t its→s.heap.IsTuple b its'.toArray→Vs s.heap u its'→A.units+t.deep<cLine →
   ∀(prog:Program) (w:World) (E:Value→Shared→Prop) (Q:Value→Shared→Prop),Q (.bool (Tr.lt t u)) s→wpAny (model prog w) A (richCompare .Lt (.ref a) (.ref b)) Q E s
 |0,_,_,_,_,_,_,_,_,h,_,_,_,_,_=>absurd h (ak _)
 |n0+1,t,u,A,s,a,b,its,its',hd,hl,ht,hb,hu',hun=>fun prog w E Q h=>by
  obtain⟨⟨cls,dd,data,sl⟩,ho,hc,n,hdt⟩:=id hl;obtain⟨⟨cls2,dd2,data2,sl2⟩,ho2,hc2,n2,hdt2⟩:=id hb;simp only at hc hdt hc2 hdt2;subst hc hdt hc2 hdt2;exact richCompare_meets_room (op:=.Lt) ⟨_,ho,rfl⟩ ⟨_,ho2,rfl⟩ PySem.F.slot_tuple_lt PySem.F.entry_tuple_lt (PySem.F.args_tuple_lt_2 _ _) (TJ n0 (R6 n0) a b its.toArray its'.toArray n n2 dd dd2 sl sl2 t u (by omega))
   ⟨ho,ho2,by simpa using ht,by simpa using hu',hun,show Value.bool (Tr.lt t u)≠Value.notImplemented∧Q (.bool (Tr.lt t u)) s from⟨(fun x=>nomatch x),h⟩⟩ (by omega)
end
section
open PySem.AutoSeq1 (wpAny_loadPart')
open PySem.MeetsSeq PySem.MeetsSeq2 PySem.MeetsSeq3
theorem Y5(n0:Nat)(ih:∀(t u:Tr) (A:Around) (s:Shared) (a b:Addr) (its its':List Value),t.deep<n0→s.heap.IsTuple a its.toArray→Vs s.heap t its→s.heap.IsTuple b its'.toArray→Vs s.heap u its'→A.units+t.deep<cLine →
   ∀(prog:Program) (w:World) (E:Value→Shared→Prop) (Q:Value→Shared→Prop),Q (.bool (Tr.lt u t)) s→wpAny (model prog w) A (richCompare .Gt (.ref a) (.ref b)) Q E s)
 (l b:Addr)(items items2:Array Value)(n n2:Nat)(dd dd2:Option Addr)(sl sl2:Array (Option Value))(t u:Tr)(ht:t.deep≤n0) :
  Meets (Builtin.«tuple.__gt__» ⟨[.ref l,.ref b],[]⟩)
   (fun A R s=>s.heap.get? l=some { cls:=.type "tuple",dict:=dd,data:=.seq items n,slots:=sl }∧s.heap.get? b=some { cls:=.type "tuple",dict:=dd2,data:=.seq items2 n2,slots:=sl2 } ∧
    Vs s.heap t items.toList∧Vs s.heap u items2.toList∧A.units+t.deep<cLine∧R (.ok (.ret (.bool (Tr.lt u t)))) s) :=
 .of_wp fun prog w A R s h=>by
  obtain⟨hp,g,d,tk,os⟩:=s;obtain⟨hl,hb,hi,hj,hun,h⟩:=h;have f2:=AutoSeq1.sub_tuple_tuple;have z1:items.size=t.len:=by rw [←Vs.length hi];simp
  have z2:items2.size=u.len:=by rw [←Vs.length hj];simp
  wp_walk using wpAny_loadPart' hl,wpAny_loadPart' hb,wpAny_forIn_list _ (fun rest b s'=>b.1=none∧s'=⟨hp,g,d,tk,os⟩∧∃(vs ws:List Value) (t' u':Tr),rest=vs.zip ws ∧
   Vs hp t' vs∧Vs hp u' ws∧t'.deep≤t.deep∧t'.len+items2.size=u'.len+items.size∧R (.ok (.ret (.bool (Tr.lt u' t')))) ⟨hp,g,d,tk,os⟩) _
  case turn =>
   rintro⟨y,x⟩ rest b s' ⟨hb',rfl,vs,ws,t',u',hz,hvi,hwi,hdp,hlen,hR⟩;cases t' with
   |nil=>rw [Vs]at hvi;subst hvi;rw [List.zip_nil_left]at hz;cases hz
   |cons bt rt =>
    cases u' with
    |nil=>rw [Vs]at hwi;subst hwi;rw [List.zip_nil_right]at hz;cases hz
    |cons bu ru =>
     rw [Vs]at hvi hwi;obtain⟨a1,i1,v1,rfl,p1,p2,p3⟩:=hvi;obtain⟨a2,i2,v2,rfl,q1,q2,q3⟩:=hwi;rw [List.zip_cons_cons]at hz
     injection hz with hyx hrest
     injection hyx with hy hx
     subst hy hx;have hdd:(Tr.cons bt rt).deep=max (bt.deep+1) rt.deep:=rfl;rw [Tr.lt]at hR;simp only [Tr.len]at hlen;have he:=LF (s:=⟨hp,g,d,tk,os⟩) (A:=A.in1) p1 p2 q1 q2 (by rw [show A.in1.units=A.units+1 from rfl];omega);refine Wb (he prog w _ _ ?_);cases hc:decide (bt=bu) with
     |true =>
      rw [if_pos (aP hc).symm]at hR
      wp_walk
      exact⟨rfl,rfl,_,_,_,_,hrest,p3,q3,by omega,by omega,hR⟩
     |false =>
      rw [if_neg (fun z=>bM hc z.symm)]at hR;have hri:=ih bt bu A.in1 ⟨hp,g,d,tk,os⟩ a1 a2 i1 i2 (by omega) p1 p2 q1 q2 (by rw [show A.in1.units=A.units+1 from rfl];omega) prog w
      wp_walk using hri
      exact⟨_,rfl,by simpa using hR⟩
  case fin =>
   rintro⟨b1,b2⟩ s' ⟨hb',rfl,vs,ws,t',u',hz,hvi,hwi,hdp,hlen,hR⟩;simp only at hb';subst hb';have hv:Tr.lt u' t'=decide (items2.size<items.size):=by
    cases t' with
    |nil =>
     cases u' with
     |nil =>
      simp only [Tr.len]at hlen;exact(bE (by omega)).symm
     |cons c q =>
      simp only [Tr.len]at hlen;exact(bE (by omega)).symm
    |cons bt rt =>
     cases u' with
     |nil =>
      simp only [Tr.len]at hlen;exact(bT (by omega)).symm
     |cons c q =>
      rw [Vs]at hvi hwi;obtain⟨_,_,_,rfl,_⟩:=hvi;obtain⟨_,_,_,rfl,_⟩:=hwi;rw [List.zip_cons_cons]at hz;cases hz
   rw [hv]at hR
   wp_walk
   exact⟨_,rfl,by simpa [Builtin.Tuple.tupleCompareSizes]using hR⟩
  case h =>
   exact⟨rfl,rfl,items.toList,items2.toList,t,u,rfl,hi,hj,Nat.le_refl _,by omega,h⟩
theorem cC:∀(n0:Nat) (t u:Tr) (A:Around) (s:Shared) (a b:Addr) (its its':List Value),t.deep<n0→s.heap.IsTuple a its.toArray→Vs s.heap t its→s.heap.IsTuple b its'.toArray→Vs s.heap u its'→A.units+t.deep<cLine →
   ∀(prog:Program) (w:World) (E:Value→Shared→Prop) (Q:Value→Shared→Prop),Q (.bool (Tr.lt u t)) s→wpAny (model prog w) A (richCompare .Gt (.ref a) (.ref b)) Q E s
 |0,_,_,_,_,_,_,_,_,h,_,_,_,_,_=>absurd h (ak _)
 |n0+1,t,u,A,s,a,b,its,its',hd,hl,ht,hb,hu',hun=>fun prog w E Q h=>by
  obtain⟨⟨cls,dd,data,sl⟩,ho,hc,n,hdt⟩:=id hl;obtain⟨⟨cls2,dd2,data2,sl2⟩,ho2,hc2,n2,hdt2⟩:=id hb;simp only at hc hdt hc2 hdt2;subst hc hdt hc2 hdt2;exact richCompare_meets_room (op:=.Gt) ⟨_,ho,rfl⟩ ⟨_,ho2,rfl⟩ PySem.F.slot_tuple_gt PySem.F.entry_tuple_gt (PySem.F.args_tuple_gt_2 _ _) (Y5 n0 (cC n0) a b its.toArray its'.toArray n n2 dd dd2 sl sl2 t u (by omega))
   ⟨ho,ho2,by simpa using ht,by simpa using hu',hun,show Value.bool (Tr.lt u t)≠Value.notImplemented∧Q (.bool (Tr.lt u t)) s from⟨(fun x=>nomatch x),h⟩⟩ (by omega)
end
end TH
namespace SM
open PySem.W PyProof.Rows
def Wp{α:Type}(lt:Nat→Nat→Bool)(n:Nat):KasT α→(α→Prop)→Prop
 |.ret a,Q=>Q a
 |.ask i j k,Q=>i<n∧j<n∧Wp lt n (k (lt i j)) Q
theorem Wp.mono{α:Type}{lt:Nat→Nat→Bool}{n:Nat}{Q Q':α→Prop}(hq:∀a,Q a→Q' a):∀t:KasT α,Wp lt n t Q→Wp lt n t Q'
 |.ret a,h=>hq a h
 |.ask i j k,h=>⟨h.1,h.2.1,Wp.mono hq (k (lt i j)) h.2.2⟩
theorem Wp.bind{α β:Type}{lt:Nat→Nat→Bool}{n:Nat}{f:α→KasT β}{Q:β→Prop}:∀t:KasT α,Wp lt n t (fun a=>Wp lt n (f a) Q)→Wp lt n (t.bind f) Q
 |.ret _,h=>h
 |.ask i j k,h=>⟨h.1,h.2.1,Wp.bind (k (lt i j)) h.2.2⟩
theorem I0{p:Array Nat}{i j:Nat}(hj:j≤p.size)(k:Nat):(kas_rev p i j).getD k 0=if i≤k∧k<j then p.getD (i+j-1-k) 0 else p.getD k 0:=by
 have e:=getElem?_mirror_all (i:=i) hj k;unfold kas_rev;rw [Array.getD_eq_getD_getElem?,Array.getD_eq_getD_getElem?,Array.getD_eq_getD_getElem?,e];split<;>rfl
theorem UX{p:Array Nat}{src d:Nat}(hs:src<p.size)(hd:d≤src)(k:Nat) :
  (bubble p src d).getD k 0=if k=src-d then p.getD src 0 else if src-d<k∧k≤src then p.getD (k-1) 0 else p.getD k 0:=by
 have e:=getElem?_bubble hs d hd k;simp only [Array.getD_eq_getD_getElem?,e];split
 ·rfl
 ·split<;>rfl
section
variable{O:KeyOrd}{key:Nat→O.α}{n:Nat}
def Key(key:Nat→O.α)(p:Array Nat)(i:Nat):O.α:=key (p.getD i 0)
def Up(key:Nat→O.α)(p:Array Nat)(m:Nat):Prop:=∀i j,i≤j→j<m→O.kle (Key key p i) (Key key p j)
def Dn(key:Nat→O.α)(p:Array Nat)(m:Nat):Prop:=∀i j,i≤j→j<m→O.kle (Key key p j) (Key key p i)
structure Pm(n:Nat)(p:Array Nat):Prop where
 perm:p.Perm (List.toArray (List.range n))
 pos:0<n
theorem Pm.size{p:Array Nat}(h:Pm n p):p.size=n:=by rw [h.perm.size_eq];simp
theorem Pm.lt{p:Array Nat}(h:Pm n p)(i:Nat):p.getD i 0<n:=by
 rw [Array.getD_eq_getD_getElem?];by_cases hi:i<p.size
 ·rw [Array.getElem?_eq_getElem hi];have hm:p[i]∈p:=Array.getElem_mem hi;have:=(h.perm.mem_iff).mp hm
  simpa using this
 ·rw [Array.getElem?_eq_none (by omega)];exact h.pos
theorem Pm.rev{p:Array Nat}(h:Pm n p)(i j:Nat):Pm n (kas_rev p i j):=⟨(mirror_perm _ _ _ _).trans h.perm,h.pos⟩
theorem Pm.bubble{p:Array Nat}(h:Pm n p)(i j:Nat):Pm n (bubble p i j):=⟨(bubble_perm _ _ _).trans h.perm,h.pos⟩
abbrev F4(key:Nat→O.α):Nat→Nat→Bool:=fun i j=>O.blt (key i) (key j)
theorem Up.one{p:Array Nat}:Up key p 1:=fun i j h1 h2=>by
 have:i=j:=by omega
 subst this;exact bV _
theorem Up.more{p:Array Nat}{m:Nat}(h:Up key p m)(h1:1≤m)(hk:O.kle (Key key p (m-1)) (Key key p m)):Up key p (m+1):=fun i j hij hj=>by
 by_cases e:j=m
 ·subst e;by_cases e2:i=j
  ·subst e2;exact bV _
  ·exact KeyOrd.kle_trans (h i (j-1) (by omega) (by omega)) hk
 ·exact h i j hij (by omega)
theorem Dn.more{p:Array Nat}{m:Nat}(h:Dn key p m)(h1:1≤m)(hk:O.kle (Key key p m) (Key key p (m-1))):Dn key p (m+1):=fun i j hij hj=>by
 by_cases e:j=m
 ·subst e;by_cases e2:i=j
  ·subst e2;exact bV _
  ·exact KeyOrd.kle_trans hk (h i (j-1) (by omega) (by omega))
 ·exact h i j hij (by omega)
theorem asc{p:Array Nat}(hp:Pm n p):∀(f m:Nat),1≤m→Up key p m→Wp (F4 key) n (kas_asc p f m) fun r=>m≤r∧r≤m+f∧Up key p r∧(r=m+f∨O.klt (Key key p r) (Key key p (r-1)))
 |0,m,_,h=>⟨aJ _,Nat.le_refl _,h,.inl rfl⟩
 |f+1,m,h1,h=>by
  refine⟨hp.lt _,hp.lt _,?_⟩;cases c:F4 key (p.getD m 0) (p.getD (m-1) 0) with
  |true=>exact⟨aJ _,by omega,h,.inr c⟩
  |false =>
   simp only [Bool.false_eq_true,if_false];refine Wp.mono (fun r hr=>?_) _ (asc hp f (m+1) (by omega) (h.more h1 c));exact⟨by omega,by omega,hr.2.2.1,hr.2.2.2.elim (fun z=>.inl (by omega)) .inr⟩
def Eq(key:Nat→O.α)(p:Array Nat)(m q:Nat):Prop:=q<m∧∀k,m-(q+1)≤k→k<m→Key key p k=Key key p (m-1)
theorem rev_eq{p:Array Nat}{m q:Nat}(h:Eq key p m q)(hm:m≤p.size)(k:Nat):Key key (kas_rev p (m-(q+1)) m) k=Key key p k:=by
 unfold Key;rw [I0 hm];split
 ·have a:=h.2 (m-(q+1)+m-1-k) (by have:=h.1;omega) (by have:=h.1;omega);have b:=h.2 k (by omega) (by omega);exact a.trans b.symm
 ·rfl
theorem desc:∀(f:Nat) (p:Array Nat) (m q:Nat),Pm n p→1≤m→m+f≤n→Dn key p m→Eq key p m q→Wp (F4 key) n (kas_desc f p m q) fun r=>Pm n r.1∧m≤r.2.1∧r.2.1≤m+f∧Dn key r.1 r.2.1∧Eq key r.1 r.2.1 r.2.2
 |0,p,m,q,hp,_,_,h,e=>⟨hp,Nat.le_refl _,Nat.le_refl _,h,e⟩
 |f+1,p,m,q,hp,h1,hf,h,e=>by
  refine⟨hp.lt _,hp.lt _,?_⟩;have hm:m≤p.size:=by rw [hp.size];omega
  cases c:F4 key (p.getD m 0) (p.getD (m-1) 0) with
  |true =>
   have ck:O.klt (Key key p m) (Key key p (m-1)):=c;simp only [if_true];have fin:∀p':Array Nat,Pm n p'→(∀k,Key key p' k=Key key p k)→Wp (F4 key) n (kas_desc f p' (m+1) 0) fun r=>Pm n r.1∧m≤r.2.1∧r.2.1≤m+(f+1)∧Dn key r.1 r.2.1∧Eq key r.1 r.2.1 r.2.2:=fun p' hp' hk=>by
    have hd:Dn key p' (m+1):=fun i j hij hj=>by rw [hk,hk];exact h.more h1 (KeyOrd.kle_of_klt ck) i j hij hj
    have he:Eq key p' (m+1) 0:=⟨by omega,fun k h1 h2=>by rw [show k=m+1-1 by omega]⟩;exact Wp.mono (fun r hr=>⟨hr.1,by omega,by omega,hr.2.2.2.1,hr.2.2.2.2⟩) _ (desc f p' (m+1) 0 hp' (by omega) (by omega) hd he)
   split
   ·exact fin _ (hp.rev _ _) (rev_eq e hm)
   ·exact fin _ hp fun _=>rfl
  |false =>
   simp only [Bool.false_eq_true,if_false];refine⟨hp.lt _,hp.lt _,?_⟩;cases d:F4 key (p.getD (m-1) 0) (p.getD m 0) with
   |true =>
    simp only [if_true];exact⟨hp,Nat.le_refl _,Nat.le_add_right _ _,h,e⟩
   |false =>
    simp only [Bool.false_eq_true,if_false];have ek:Key key p m=Key key p (m-1):=KeyOrd.kle_antisymm (show O.kle (Key key p m) (Key key p (m-1)) from d) (show O.kle (Key key p (m-1)) (Key key p m) from c);refine Wp.mono (fun r hr=>⟨hr.1,by omega,by omega,hr.2.2.2.1,hr.2.2.2.2⟩) _ (desc f p (m+1) (q+1) hp (by omega) (by omega) (h.more h1 (by rw [ek];exact bV _)) ⟨by have:=e.1;omega,fun k h2 h3=>?_⟩);rw [show m+1-1=m by omega,ek];by_cases z:k=m
    ·rw [z,ek]
    ·exact e.2 k (by omega) (by omega)
theorem gO{p:Array Nat}{m:Nat}(h:Dn key p m)(hm:m≤p.size):Up key (kas_rev p 0 m) m:=fun i j hij hj=>by
 unfold Key;rw [I0 hm,I0 hm,if_pos ⟨ar _,by omega⟩,if_pos ⟨ar _,by omega⟩];exact h (0+m-1-j) (0+m-1-i) (by omega) (by omega)
theorem tail3{p:Array Nat}{m:Nat}(hp:Pm n p)(h1:1≤m)(hm:m≤n)(h:Dn key p m):Wp (F4 key) n (kas_tail3 m n p) fun r=>Pm n r.2∧1≤r.1∧r.1≤n∧Up key r.2 r.1:=by
 unfold kas_tail3;refine Wp.bind _ (Wp.mono (fun r hr=>?_) _ (asc (hp.rev 0 m) (n-m) m h1 (gO h (by rw [hp.size];exact hm))));exact⟨hp.rev 0 m,by omega,by omega,hr.2.2.1⟩
theorem descPart{p:Array Nat}{m:Nat}(hp:Pm n p)(h1:1≤m)(hm:m+1≤n)(h:Dn key p (m+1)):Wp (F4 key) n (kas_descPart m n p) fun r=>Pm n r.2∧1≤r.1∧r.1≤n∧Up key r.2 r.1:=by
 unfold kas_descPart;refine Wp.bind _ (Wp.mono (fun r hr=>?_) _ (desc (n-(m+1)) p (m+1) 0 hp (by omega) (by omega) h ⟨by omega,fun k h1 h2=>by rw [show k=m+1-1 by omega]⟩));obtain⟨a,b,c,d,e⟩:=hr;have hz:r.2.1≤r.1.size:=by rw [a.size];omega
 split
 ·refine tail3 (a.rev _ _) (by omega) (by omega) fun i j hij hj=>?_;rw [rev_eq e hz,rev_eq e hz];exact d i j hij hj
 ·exact tail3 a (by omega) (by omega) d
theorem count{p:Array Nat}(hp:Pm n p):Wp (F4 key) n (kas_count n p) fun r=>Pm n r.2∧1≤r.1∧r.1≤n∧Up key r.2 r.1:=by
 have hn:=hp.pos;unfold kas_count;refine Wp.bind _ (Wp.mono (fun m hm=>?_) _ (asc hp (n-1) 1 (aJ _) Up.one));obtain⟨h1,h2,h3,h4⟩:=hm;split
 ·exact⟨hp,h1,by omega,h3⟩
 ·rename_i hne;have hne':m≠n:=by simpa using hne
  have hk:O.klt (Key key p m) (Key key p (m-1)):=by
   rcases h4 with z | z
   ·exact absurd (by omega) hne'
   ·exact z
  have hz:m≤p.size:=by rw [hp.size];omega
  split
  ·refine⟨hp.lt _,hp.lt _,?_⟩;cases c:F4 key (p.getD 0 0) (p.getD (m-1) 0) with
   |true=>simp only [if_true];exact⟨hp,h1,by omega,h3⟩
   |false =>
    simp only [Bool.false_eq_true,if_false];have all:∀k,k<m→Key key p k=Key key p (m-1):=fun k hk'=>KeyOrd.kle_antisymm (h3 k (m-1) (by omega) (by omega)) (KeyOrd.kle_trans (show O.kle (Key key p (m-1)) (Key key p 0) from c) (h3 0 k (by omega) hk'));have ek:∀k,Key key (kas_rev p 0 m) k=Key key p k:=fun k=>by
     by_cases hk':k<m
     ·have:Key key (kas_rev p 0 m) k=Key key p (0+m-1-k):=by
       unfold Key;rw [I0 hz,if_pos ⟨ar _,hk'⟩]
      rw [this,all _ (by omega),all k hk']
     ·unfold Key;rw [I0 hz,if_neg (by omega)]
    refine descPart (hp.rev _ _) h1 (by omega) fun i j hij hj=>?_;rw [ek,ek];by_cases e:j=m
    ·subst e;by_cases e2:i=j
     ·subst e2;exact bV _
     ·rw [all i (by omega)];exact KeyOrd.kle_of_klt hk
    ·rw [all i (by omega),all j (by omega)];exact bV _
  ·have:m=1:=by omega
   subst this;refine descPart hp h1 (by omega) fun i j hij hj=>?_;by_cases e:i=j
   ·subst e;exact bV _
   ·rw [show i=0 by omega,show j=1 by omega];exact KeyOrd.kle_of_klt hk
theorem place{p:Array Nat}{k:Nat}(hp:Pm n p)(hs:Up key p k):∀(f l r:Nat),l≤r→r≤k→r-l≤f→(∀i,i<l→O.kle (Key key p i) (Key key p k))→(∀i,r≤i→i<k→O.klt (Key key p k) (Key key p i)) →
  Wp (F4 key) n (kas_place p k f l r) fun x=>x≤k∧(∀i,i<x→O.kle (Key key p i) (Key key p k))∧∀i,x≤i→i<k→O.klt (Key key p k) (Key key p i)
 |0,l,r,h1,h2,h3,a,b=>by
  have:l=r:=by omega
  subst this;exact⟨h2,a,b⟩
 |f+1,l,r,h1,h2,h3,a,b=>by
  unfold kas_place;split
  ·have:l=r:=by omega
   subst this;exact⟨h2,a,b⟩
  ·refine⟨hp.lt _,hp.lt _,?_⟩;cases c:F4 key (p.getD k 0) (p.getD ((l+r) / 2) 0) with
   |true =>
    simp only [if_true];exact place hp hs f l ((l+r) / 2) (by omega) (by omega) (by omega) a fun i x1 x2=>KeyOrd.klt_of_klt_of_kle (show O.klt (Key key p k) (Key key p ((l+r) / 2)) from c) (hs _ _ x1 x2)
   |false =>
    simp only [Bool.false_eq_true,if_false];exact place hp hs f ((l+r) / 2+1) r (by omega) h2 (by omega) (fun i x1=>KeyOrd.kle_trans (hs i ((l+r) / 2) (by omega) (by omega)) (show O.kle (Key key p ((l+r) / 2)) (Key key p k) from c)) b
theorem bin:∀(f:Nat) (p:Array Nat) (k:Nat),Pm n p→1≤k→k+f=n→Up key p k→Wp (F4 key) n (kas_bin f p k) fun r=>Pm n r∧Up key r n
 |0,p,k,hp,_,hk,h=>by
  have:k=n:=by omega
  subst this;exact⟨hp,h⟩
 |f+1,p,k,hp,h1,hk,h=>by
  have hks:k<p.size:=by rw [hp.size];omega
  refine Wp.bind _ (Wp.mono (fun l hl=>?_) _ (place hp h k 0 k (ar _) (aJ _) (by omega) (fun i z=>absurd z (by omega)) fun i z1 z2=>absurd z1 (by omega)));obtain⟨hlk,hlo,hhi⟩:=hl;refine bin f _ (k+1) (hp.bubble _ _) (by omega) (by omega) fun i j hij hj=>?_;have kb:∀x,Key key (PyProof.Rows.bubble p k (k-l)) x=if x=l then Key key p k else if l<x∧x≤k then Key key p (x-1) else Key key p x:=fun x=>by
   unfold Key;rw [UX hks (by omega),show k-(k-l)=l by omega];split
   ·rfl
   ·split<;>rfl
  rw [kb,kb]
  repeat' split
  all_goals first
   |(exfalso;omega)
   |exact bV _
   |exact hlo _ (by omega)
   |exact KeyOrd.kle_of_klt (hhi _ (by omega) (by omega))
   |exact h _ _ (by omega) (by omega)
theorem sort(hn:0<n):Wp (F4 key) n (kas_sort n) fun p=>Pm n p∧Up key p n:=by
 have hp:Pm n (List.toArray (List.range n)):=⟨Array.Perm.refl _,hn⟩;unfold kas_sort;refine Wp.bind _ (Wp.mono (fun r hr=>?_) _ (count hp));obtain⟨a,b,c,d⟩:=hr;split
 ·rw [show max r.1 1=r.1 by omega];exact bin _ _ _ a b (by omega) d
 ·have:r.1=n:=by omega
  rw [this]at d;exact⟨a,d⟩
end
end SM
namespace Tr
theorem N3(x:Tr):∀l:List Tr,(ins x l).Perm (x::l)
 |[]=>.refl _
 |y::r=>by
  rw [ins];split
  ·exact((N3 x r).cons y).trans (.swap x y r)
  ·exact .refl _
theorem Fb:∀l:List Tr,(Bb l).Perm l
 |[]=>.refl _
 |x::r=>by
  rw [Bb];exact(N3 x (Bb r)).trans ((Fb r).cons x)
abbrev Qg(l:List Tr):Prop:=l.Pairwise fun a b=>lt a b=false
theorem SI(x:Tr):∀l:List Tr,Qg l→Qg (ins x l)
 |[],_=>List.pairwise_singleton _ _
 |y::r,h=>by
  obtain⟨h1,h2⟩:=List.pairwise_cons.mp h;rw [ins];split
  ·rename_i c;refine List.pairwise_cons.mpr ⟨fun z hz=>?_,SI x r h2⟩;rcases aM.mp ((N3 x r).mem_iff.mp hz) with rfl | hz
   ·exact lt_asymm c
   ·exact h1 z hz
  ·rename_i c;have c':lt x y=false:=by simpa using c
   refine List.pairwise_cons.mpr ⟨fun z hz=>?_,h⟩;rcases aM.mp hz with rfl | hz
   ·exact c'
   ·cases e:lt x z with
    |false=>rfl
    |true =>
     rcases Nl x y z e with q | q
     ·rw [c']at q;cases q
     ·rw [h1 z hz]at q;cases q
theorem JM:∀l:List Tr,Qg (Bb l)
 |[]=>List.Pairwise.nil
 |x::r=>by rw [Bb];exact SI x _ (JM r)
theorem KL:∀ {l m:List Tr},Qg l→Qg m→l.Perm m→l=m
 |[],m,_,_,p=>(List.nil_perm.mp p).symm
 |x::r,[],_,_,p=>absurd p.length_eq (by simp)
 |x::r,y::q,h1,h2,p=>by
  obtain⟨a1,a2⟩:=List.pairwise_cons.mp h1;obtain⟨b1,b2⟩:=List.pairwise_cons.mp h2;have hx:x∈y::q:=p.mem_iff.mp ae;have hy:y∈x::r:=p.mem_iff.mpr ae;have e:x=y:=by
   rcases aM.mp hx with e | hx
   ·exact e
   ·rcases aM.mp hy with e | hy
    ·exact e.symm
    ·exact JJ x y (a1 y hy) (b1 x hx)
  subst e;rw [KL a2 b2 (List.Perm.cons_inv p)]
theorem X9{l m:List Tr}(h:Qg m)(p:m.Perm l):m=Bb l:=KL h (JM l) (p.trans (Fb l).symm)
theorem PH{l m:List Tr}(h:m.Pairwise fun a b=>lt b a=false)(p:m.Perm l):m=(Bb l).reverse:=by
 have:m.reverse=Bb l:=X9 (List.pairwise_reverse.mpr h) ((List.reverse_perm m).trans p);rw [←this,List.reverse_reverse]
theorem Kn(n:Nat):∀l:List Tr,(of l).deep≤n ↔ ∀c∈l,c.deep+1≤n
 |[]=>by simp [of,deep]
 |b::r=>by
  rw [of,deep,List.forall_mem_cons,←Kn n r];omega
theorem YT{l m:List Tr}(p:l.Perm m):(of l).deep≤(of m).deep:=(Kn _ l).mpr fun c hc=>(Kn _ m).mp (aJ _) c (p.mem_iff.mp hc)
theorem Z7(t:Tr):(of t.bs.reverse).deep≤t.deep:=by
 have:=YT (List.reverse_perm t.bs)
 rwa [O8]at this
def ord:PyProof.Rows.KeyOrd where
 α:=Tr
 blt:=lt
 irrefl:=lt_irrefl
 trans:=lt_trans
 negTrans:=Nl
 total:=JJ
end Tr
namespace TH
open PySem PySem.W PyProof.Rows PySem.SeqAt
theorem Vs.at{h:Heap}:∀ {t:Tr} {us:List Value} {i:Nat},Vs h t us→i<us.length→∃(a:Addr) (its:List Value) (c:Tr),us.getD i Value.none=.ref a∧h.IsTuple a its.toArray∧Vs h c its∧t.bs[i]? = some c∧c.deep<t.deep
 |.nil,us,i,e,hi=>by rw [Vs]at e;subst e;exact absurd hi (ak _)
 |.cons b r,us,i,e,hi=>by
  rw [Vs]at e;obtain⟨a,its,rest,rfl,h1,h2,h3⟩:=e;have hd:(Tr.cons b r).deep=max (b.deep+1) r.deep:=rfl;cases i with
  |zero=>exact⟨a,its,b,rfl,h1,h2,rfl,by omega⟩
  |succ i =>
   obtain⟨a',its',c,q1,q2,q3,q4,q5⟩:=Vs.at (i:=i) h3 (by simpa using hi);exact⟨a',its',c,by simpa using q1,q2,q3,by simpa [Tr.bs]using q4,by omega⟩
theorem Vs.MS{h:Heap}:∀(ts:List Tr) (us:List Value),us.length=ts.length→(∀i,i<ts.length→∃(a:Addr) (its:List Value) (c:Tr),us[i]? = some (.ref a)∧h.IsTuple a its.toArray∧Vs h c its∧ts[i]? = some c)→Vs h (Tr.of ts) us
 |[],us,hl,_=>by
  rw [Tr.of,Vs];exact List.eq_nil_of_length_eq_zero (by simpa using hl)
 |t::ts,[],hl,_=>by simp at hl
 |t::ts,u::us,hl,h=>by
  rw [Tr.of,Vs];obtain⟨a,its,c,e1,e2,e3,e4⟩:=h 0 (by simp);simp at e1 e4;subst e1 e4;refine⟨a,its,us,rfl,e2,e3,Vs.MS ts us (by simpa using hl) fun i hi=>?_⟩;obtain⟨a',its',c',q1,q2,q3,q4⟩:=h (i+1) (by simpa using hi);exact⟨a',its',c',by simpa using q1,q2,q3,by simpa using q4⟩
theorem Vs.all{h:Heap}{t:Tr}{us:List Value}(e:Vs h t us):∀i,i<t.bs.length→∃(a:Addr) (its:List Value) (c:Tr),us[i]? = some (.ref a)∧h.IsTuple a its.toArray∧Vs h c its∧t.bs[i]? = some c:=fun i hi=>by
 have hl:i<us.length:=by rw [Vs.length e,←Tr.C7];exact hi
 obtain⟨a,its,c,q1,q2,q3,q4,_⟩:=e.at hl;refine⟨a,its,c,?_,q2,q3,q4⟩;rw [List.getD_eq_getElem?_getD,List.getElem?_eq_getElem hl]at q1;rw [List.getElem?_eq_getElem hl]
 simpa using q1
section
variable{prog:Program}{w:World}{A:Around}{E:Value→Shared→Prop}{s:Shared}{t u:Tr}{a b:Addr}{its its':List Value}{Q:Bool→Shared→Prop}
theorem Pr(h1:s.heap.IsTuple a its.toArray)(k1:Vs s.heap t its)(h2:s.heap.IsTuple b its'.toArray)(k2:Vs s.heap u its')(hu:A.units+t.deep<cLine)(h:Q (Tr.lt t u) s):wpAny (model prog w) A (oneLt' false (.ref a) (.ref b)) Q E s:=by
 rw [oneLt'_eq];simp only [Bool.false_eq_true,if_false];exact Wb (R6 (t.deep+1) t u A s a b its its' (bL _) h1 k1 h2 k2 hu prog w E _ (wpAny_truthy_bool h))
theorem fD(h1:s.heap.IsTuple a its.toArray)(k1:Vs s.heap t its)(h2:s.heap.IsTuple b its'.toArray)(k2:Vs s.heap u its')(hu:A.units+t.deep<cLine)(h:Q (Tr.lt t u) s):wpAny (model prog w) A (oneLt' true (.ref a) (.ref b)) Q E s:=by
 rw [oneLt'_eq];simp only [if_true];refine Wb (wpAny_cRoomFor (by omega) ?_);obtain⟨⟨cls,dd,data,sl⟩,ho,hc,n,hdt⟩:=id h1;obtain⟨⟨cls2,dd2,data2,sl2⟩,ho2,hc2,n2,hdt2⟩:=id h2;simp only at hc hdt hc2 hdt2;subst hc hdt hc2 hdt2;refine Wb (wpAny_callSpecialIfBound?_slot (T := "tuple") ⟨_,ho,rfl⟩ PySem.F.slot_tuple_lt (call_meets PySem.F.slot_tuple_lt ⟨_,ho,rfl⟩ PySem.F.entry_tuple_lt (PySem.F.args_tuple_lt_2 _ _)
  (TJ t.deep (R6 t.deep) a b its.toArray its'.toArray n n2 dd dd2 sl sl2 t u (aJ _)) ⟨ho,ho2,by simpa using k1,by simpa using k2,hu,?_⟩))
 exact wpAny_truthy_bool h
theorem Vb:∀(t u:Tr) (us vs:List Value) (i:Nat),Vs s.heap t us→Vs s.heap u vs→A.units+t.deep≤cLine→Q (Tr.lt t u) s→KatLex prog w A false (decide (t.len<u.len)) Q (us.zip vs) i s
 |.nil,.nil,us,vs,i,e,f,_,h=>by
  rw [Vs]at e;subst e;rw [List.zip_nil_left];exact kat_nil h
 |.nil,.cons c q,us,vs,i,e,f,_,h=>by
  rw [Vs]at e;subst e;rw [List.zip_nil_left];refine kat_nil ?_;rw [show decide (Tr.nil.len<(Tr.cons c q).len)=true from bT (Nat.zero_lt_succ _)];exact h
 |.cons b r,.nil,us,vs,i,e,f,_,h=>by
  rw [Vs]at f;subst f;rw [List.zip_nil_right];refine kat_nil ?_;rw [show decide ((Tr.cons b r).len<Tr.nil.len)=false from bE (ak _)];exact h
 |.cons b r,.cons c q,us,vs,i,e,f,hu,h=>by
  rw [Vs]at e f;obtain⟨a,its,rest,rfl,k1,k2,k3⟩:=e;obtain⟨a',its',rest',rfl,l1,l2,l3⟩:=f;have hd:(Tr.cons b r).deep=max (b.deep+1) r.deep:=rfl;rw [List.zip_cons_cons,show decide ((Tr.cons b r).len<(Tr.cons c q).len)=decide (r.len<q.len) from by simp [Tr.len]];rw [Tr.lt]at h;refine kat_cons (LF k1 k2 l1 l2 (by omega) prog w _ _ ?_);by_cases hbc:b=c
  ·rw [decide_eq_true hbc];rw [if_pos hbc]at h;exact kat_yes (Vb r q rest rest' (i+1) k3 l3 (by omega) h)
  ·rw [decide_eq_false hbc];rw [if_neg hbc]at h;exact kat_no (by rw [Bool.false_and];exact Pr k1 k2 l1 l2 (by omega) h)
theorem eo(h1:s.heap.IsTuple a its.toArray)(k1:Vs s.heap t its)(h2:s.heap.IsTuple b its'.toArray)(k2:Vs s.heap u its')(hu:A.units+t.deep<cLine)(h:Q (Tr.lt t u) s):wpAny (model prog w) A (keyLt' (tuples' false) (.ref a) (.ref b)) Q E s:=by
 obtain⟨o,ho,hc,n,hd⟩:=id h1;obtain⟨o2,ho2,hc2,n2,hd2⟩:=id h2;refine kat_lt ho hd ho2 hd2 ?_;have z1:its.toArray.size=t.len:=by rw [←Vs.length k1];simp
 have z2:its'.toArray.size=u.len:=by rw [←Vs.length k2];simp
 rw [z1,z2];exact Vb t u its its' 0 k1 k2 (by omega) h
def Sg(κ:SortKind):Prop:=κ=general'∨κ=oneType'∨κ=tuples' false
theorem di{κ:SortKind}(hκ:Sg κ)(h1:s.heap.IsTuple a its.toArray)(k1:Vs s.heap t its)(h2:s.heap.IsTuple b its'.toArray)(k2:Vs s.heap u its')(hu:A.units+t.deep<cLine)(h:Q (Tr.lt t u) s):wpAny (model prog w) A (keyLt' κ (.ref a) (.ref b)) Q E s:=by
 rcases hκ with rfl | rfl | rfl
 ·exact Pr h1 k1 h2 k2 hu h
 ·rw [keyLt'_oneType];exact fD h1 k1 h2 k2 hu h
 ·exact eo h1 k1 h2 k2 hu h
theorem KC{M:Model}{h:Heap}{a:Addr}{x:Array Value}(h1:h.IsTuple a x):Looks M h (typeOf (.ref a)) (.type "tuple"):=by
 obtain⟨o,ho,hc,_⟩:=h1;exact hc ▸ (Looks.ld ho).andThen .now
theorem RC{M:Model}:∀(t:Tr) (us:List Value) {Q:List (Option Value)→Shared→Prop},Vs s.heap t us→(∀fs:List (Option Value),(∀v,some v∈fs→Looks M s.heap (typeOf v) (.type "tuple"))→Q fs s)→wpAny M A (us.mapM firstOfTuple') Q E s
 |.nil,us,Q,e,h=>by
  rw [Vs]at e;subst e;rw [List.mapM_nil];exact aA (h [] fun _ z=>by cases z)
 |.cons b r,us,Q,e,h=>by
  rw [Vs]at e;obtain⟨a,its,rest,rfl,h1,h2,h3⟩:=e;obtain⟨o,ho,hc,n,hd⟩:=id h1;rw [List.mapM_cons];refine Wb ?_;rw [kas_first_eq];refine Wb (Looks.here (show Looks M s.heap (typeOf (.ref a)) o.cls from(Looks.ld ho).andThen .now) ?_);rw [hc,if_neg (by first | decide | simp)];refine Wb (listItems_at ho hd (aA ?_));refine Wb (RC r rest (Q:=fun bs s'=>wpAny M A (pure (its.toArray[0]? :: bs)) Q E s') h3 fun fs hfs=>aA (h _ fun v hv=>?_));rcases aM.mp hv with z | z
  ·cases b with
   |nil=>rw [Vs]at h2;subst h2;simp at z
   |cons c q =>
    rw [Vs]at h2;obtain⟨a',its',rest',rfl,k1,_⟩:=h2;simp at z;subst z;exact KC k1
  ·exact hfs v z
theorem QE{M:Model}{vs:List Value}{Q:Option Value→Shared→Prop}(hT:∀v∈vs,Looks M s.heap (typeOf v) (.type "tuple"))(h0:vs=[]→Q none s)(h1:Q (some (.type "tuple")) s):wpAny M A (oneTypeOnly' vs.toArray) Q E s:=by
 rw [oneTypeOnly'_eq,List.mapM_toArray,map_eq_pure_bind];refine Wb (Wb (kas_mapM (r:=Value.type "tuple") _ (fun v hv Q' hq=>(hT v hv).here hq) (aA ?_)));cases vs with
 |nil=>exact aA (h0 rfl)
 |cons f r =>
  have hall:((List.map (fun _=>Value.type "tuple") (f::r)).toArray.all fun x=>x==Value.type "tuple")=true:=by
   simp only [List.all_toArray,List.all_map,List.all_eq_true];intro _ _
   rfl
  have e0:(List.map (fun _=>Value.type "tuple") (f::r)).toArray[0]? = some (Value.type "tuple"):=by simp
  rw [e0];simp only [hall,if_true];exact aA h1
theorem eB{M:Model}{t:Tr}{us:List Value}{Q:SortKind→Shared→Prop}(e:Vs s.heap t us)(h:∀κ,Sg κ→Q κ s):wpAny M A (keyKind' us.toArray) Q E s:=by
 rw [kat_kind_eq,List.mapM_toArray,map_eq_pure_bind];refine Wb (Wb (RC t us e fun fs hfs=>aA ?_));split
 ·refine Wb (bJ ?_);have e1:fs.toArray.filterMap id=(fs.filterMap id).toArray:=by simp
  rw [e1];have hl:∀v∈fs.filterMap id,Looks M s.heap (typeOf v) (.type "tuple"):=fun v hv=>hfs v (by simpa using hv);refine Wb (QE hl (fun _=>?_) ?_)
  ·exact aA (h _ (.inr (.inr rfl)))
  ·exact aA (h _ (.inr (.inr rfl)))
 ·split
  ·exact aA (h _ (.inl rfl))
  ·have hl:∀v∈us,Looks M s.heap (typeOf v) (.type "tuple"):=fun v hv=>by
    obtain⟨i,hi,rfl⟩:=List.getElem_of_mem hv;obtain⟨a,its,c,q1,q2,_⟩:=e.at hi;rw [List.getD_eq_getElem?_getD,List.getElem?_eq_getElem hi]at q1;simp at q1;rw [q1];exact KC q2
   refine Wb (QE hl (fun _=>?_) ?_)
   ·exact aA (h _ (.inl rfl))
   ·exact aA (h _ (.inr (.inl rfl)))
theorem OB{α:Type}{cmp:Nat→Nat→(Bool→Shared→Prop)→Shared→Prop}{lt:Nat→Nat→Bool}{n:Nat}{Q':α→Prop}(hc:∀i j C,i<n→j<n→C (lt i j) s→cmp i j C s):∀T:KasT α,SM.Wp lt n T Q'→T.kasWp cmp (fun a s'=>s'=s∧Q' a) s
 |.ret a,h=>⟨rfl,h⟩
 |.ask i j k,h=>hc i j _ h.1 h.2.1 (OB hc (k (lt i j)) h.2.2)
end
end TH
namespace TH
open PySem PySem.W PyProof.Rows PySem.SeqAt
theorem Vs.keeps{h h':Heap}(k:∀b o,h.get? b=some o→o.cls=.type "tuple" → h'.get? b=some o):∀ {t:Tr} {us:List Value},Vs h t us→Vs h' t us
 |.nil,us,e=>by rw [Vs]at e ⊢;exact e
 |.cons b r,us,e=>by
  rw [Vs]at e ⊢;obtain⟨a,its,rest,rfl,⟨o,ho,hc,hd⟩,h2,h3⟩:=e;exact⟨a,its,rest,rfl,⟨o,k _ _ ho hc,hc,hd⟩,h2.keeps k,h3.keeps k⟩
theorem map_getD{α:Type}(d:α)(l:List α):(List.range l.length).map (fun i=>l.getD i d)=l:=by
 refine List.ext_getElem (by simp) fun i h1 h2=>?_;simp [h2]
theorem Vs.rev{h:Heap}{t:Tr}{us:List Value}(e:Vs h t us):Vs h (Tr.of t.bs.reverse) us.reverse:=by
 have hl:us.length=t.bs.length:=by rw [e.length,Tr.C7]
 refine Vs.MS _ _ (by simp [hl]) fun i hi=>?_;rw [List.length_reverse]at hi;obtain⟨a,its,c,q1,q2,q3,q4⟩:=e.all (t.bs.length-1-i) (by omega);exact⟨a,its,c,by rw [List.getElem?_reverse (by omega),hl];exact q1,q2,q3,by rw [List.getElem?_reverse hi];exact q4⟩
section
variable{prog:Program}{w:World}{A:Around}{E:Value→Shared→Prop}{s:Shared}
theorem Zj{κ:SortKind}{t:Tr}{ws:List Value}(hκ:Sg κ)(e:Vs s.heap t ws)(h2:2≤ws.length)(h64:ws.length<64)(hu:A.units+t.deep≤cLine) :
  wpAny (model prog w) A ((sortRuns').run (SortSt.mk' κ (ws.toArray.zip ws.toArray) #[] 7 none)) (fun r s'=>s'=s∧failedOf r.2=none∧∃ix:List Nat,ix.length=ws.length∧(∀i∈ix,i<ws.length) ∧
   (arrOf r.2).map (·.2)=(ix.map fun i=>ws.getD i Value.none).toArray∧(ix.map fun i=>t.bs.getD i .nil)=(Tr.Bb t.bs).reverse) E s:=by
 have hl:ws.length=t.bs.length:=by rw [e.length,Tr.C7]
 have key:∀i,i<ws.length→∃(a:Addr) (its:List Value),ws.getD i Value.none=.ref a∧s.heap.IsTuple a its.toArray∧Vs s.heap (t.bs.getD i .nil) its∧(t.bs.getD i .nil).deep<t.deep:=fun i hi=>by
  obtain⟨a,its,c,q1,q2,q3,q4,q5⟩:=e.at hi;have:t.bs.getD i .nil=c:=by rw [List.getD_eq_getElem?_getD,q4];rfl
  rw [this];exact⟨a,its,q1,q2,q3,q5⟩
 refine kat_run (Q:=fun st' s'=>s'=s∧failedOf st'=none∧∃ix:List Nat,ix.length=ws.length∧(∀i∈ix,i<ws.length)∧(arrOf st').map (·.2)=(ix.map fun i=>ws.getD i Value.none).toArray∧(ix.map fun i=>t.bs.getD i .nil)=(Tr.Bb t.bs).reverse)
  (G:=fun p s'=>s'=s∧SM.Pm ws.length p∧SM.Up (O:=Tr.ord) (fun i=>t.bs.getD i .nil) p ws.length) rfl h2 h64 (fun p st' s' hp har hf hG=>?_)
  (OB (lt:=SM.F4 (O:=Tr.ord) fun i=>t.bs.getD i .nil) (n:=ws.length) (fun i j C hi hj hC=>?_) _ (SM.sort (by omega)))
 ·obtain⟨rfl,hpm,hup⟩:=hG;have h1:p.toList.Perm (List.range ws.length):=by simpa using Array.perm_iff_toList_perm.mp hpm.perm
  refine⟨rfl,hf,p.toList,by rw [Array.length_toList,hp],fun i hi=>bS.mp (h1.mem_iff.mp hi),kat_snds rfl har,?_⟩;have perm:(p.toList.map fun i=>t.bs.getD i .nil).Perm t.bs:=by
   have h3:=h1.map fun i=>t.bs.getD i Tr.nil
   rwa [hl,map_getD]at h3
  refine Tr.PH (List.pairwise_iff_getElem.mpr fun i j hi hj hij=>?_) perm;rw [List.length_map,Array.length_toList,hp]at hi hj;have:=hup i j (by omega) hj;have e1:∀k,k<ws.length→∀hk,(p.toList.map fun i=>t.bs.getD i Tr.nil)[k]'hk=t.bs.getD (p.getD k 0) .nil:=fun k hk hk'=>by
   rw [List.getElem_map,Array.getElem_toList,Array.getD,dif_pos (by omega)]
   rfl
  rw [e1 i hi,e1 j hj];exact this
 ·obtain⟨a,its,q1,q2,q3,q4⟩:=key i hi;obtain⟨a',its',r1,r2,r3,r4⟩:=key j hj;unfold kas_ask;rw [q1,r1];exact di hκ q2 q3 r2 r3 (by omega) hC
theorem Qx(b:Bool)(us:List Value)(hz:us.length<2):(if b=true then((if b=true then(us.toArray.zip us.toArray).reverse else us.toArray.zip us.toArray).map (·.2)).reverse else(if b=true then(us.toArray.zip us.toArray).reverse else us.toArray.zip us.toArray).map (·.2))=us.toArray:=by
 match us,hz with
 |[],_=>cases b<;>simp
 |[x],_=>cases b<;>simp
theorem JS{a : Addr}{us : List Value}{t : Tr}{n : Nat}{b : Bool}{P : PySem.Fin→Shared→Prop}(ho : s.heap.get? a = some (seqObj "list" us.toArray n))(e : Vs s.heap t us)(h64 : us.length < 64)(hu : A.units + t.deep≤cLine)
 (h : ∀ ix : List Nat,ix.length = us.length→(∀ i∈ix,i < us.length)→(ix.map fun i => t.bs.getD i .nil) = (if b then Tr.Bb t.bs else (Tr.Bb t.bs).reverse)→P (.done (.ret .none)) { s with heap:=sortedHeap s.heap a us (ix.map fun i => us.getD i Value.none).toArray }) :
    wpAny (model prog w) A (Builtin.«list.sort» ⟨[.ref a],[(Str.ofString "reverse",.bool b)]⟩) P E s := by
  rw [list_sort_rev]
  have ha : a < s.heap.objs.size:=aF ho
  refine Wb (listItems_at ho rfl ?_)
  refine Wb (listUpdate_at ho rfl ?_ (by rw [List.size_toArray,sizeLine_eq]; omega) (ar _))
  obtain ⟨e1,ho1⟩ : ∃ e1,(s.heap.update a (Obj.mapSeq fun _ => #[])).get? a = some (seqObj "list" #[] e1):=⟨_,get?_update_seq ho (fun _ => #[])⟩
  refine Wb (seqEpoch_at ho1 rfl ?_)
  refine Wb (wpAny_newTuple ?_ (by show us.length≤_; rw [sizeLine_eq]; omega))
  refine Wb (bY ?_ (ar _))
  refine aQ ?_
  have ho6 : (((s.heap.update a (Obj.mapSeq fun _ => #[])).push (seqObj "tuple" us.toArray 0)).push (seqObj "list" #[] 0)).get? a = some (seqObj "list" #[] e1) := by
    rw [Heap.get?_push_ne _ _ _ (by rw [size_push',Heap.size_update]; exact aG (aq ha)),Heap.get?_push_ne _ _ _ (by rw [Heap.size_update]; exact aG ha)]
    exact ho1
  have keep : ∀ c o,s.heap.get? c = some o→o.cls = .type "tuple" → (((s.heap.update a (Obj.mapSeq fun _ => #[])).push (seqObj "tuple" us.toArray 0)).push (seqObj "list" #[] 0)).get? c = some o:=fun c o hc hcl => by
    have hne : c≠a:=fun z => by
      rw [z,ho] at hc
      cases hc
      exact absurd (show Value.type "list" = Value.type "tuple" from hcl) (by decide)
    refine aD _ (aD _ ?_)
    rw [Heap.get?_update_ne _ _ _ _ hne]
    exact hc
  show wpAny (model prog w) A _ P E { s with heap:=((s.heap.update a (Obj.mapSeq fun _ => #[])).push (seqObj "tuple" us.toArray 0)).push (seqObj "list" #[] 0) }
  have e6:=e.keeps keep
  dsimp only
  have step : ∀ T : Sem PySem.Fin,wpAny (model prog w) A T P E { s with heap:=((s.heap.update a (Obj.mapSeq fun _ => #[])).push (seqObj "tuple" us.toArray 0)).push (seqObj "list" #[] 0) } →
      wpAny (model prog w) A (if b = true then (do let _ ← rule "list.sort.reverse"; T) else T) P E { s with heap:=((s.heap.update a (Obj.mapSeq fun _ => #[])).push (seqObj "tuple" us.toArray 0)).push (seqObj "list" #[] 0) } := by
    intro T hT
    split
    · exact Wb (bJ hT)
    · exact hT
  refine step _ ?_
  by_cases h2 : us.toArray.size < 2
  · rw [if_pos h2,if_pos h2]
    refine Wb (aA ?_)
    rw [StateT.run_pure]
    refine Wb (aA ?_)
    dsimp only
    have hz : us.length < 2 := by simpa using h2
    have hout:=Qx b us hz
    refine Wb (seqEpoch_at ho6 rfl ?_)
    refine Wb (listUpdate_at ho6 rfl ?_ (ar _) (by
      refine aa (Nat.le_of_eq (bC Array.size hout)) ?_
      rw [List.size_toArray,sizeLine_eq]; omega))
    simp only [bne_self_eq_false,Bool.false_eq_true,if_false]
    have hl : us.length = t.bs.length := by rw [e.length,Tr.C7]
    have fin:=h (List.range us.length) (by simp) (fun i hi => bS.mp hi) (by
      rw [hl,map_getD]
      match hbs : t.bs,(show t.bs.length < 2 by omega) with
      | [],_ => cases b <;> rfl
      | [_],_ => cases b <;> rfl)
    rw [map_getD] at fin
    rw [← hout] at fin
    exact aA fin
  · rw [if_neg h2,if_neg h2]
    have hz : 2≤us.length := by simpa using h2
    refine Wb (eB (s:={ s with heap:=((s.heap.update a (Obj.mapSeq fun _ => #[])).push (seqObj "tuple" us.toArray 0)).push (seqObj "list" #[] 0) }) e6 fun κ hκ => ?_)
    have hl : us.length = t.bs.length := by rw [e.length,Tr.C7]
    obtain ⟨ws,tw,ew,hwl,hws,hdp,pick⟩ : ∃ (ws : List Value) (tw : Tr),Vs (((s.heap.update a (Obj.mapSeq fun _ => #[])).push (seqObj "tuple" us.toArray 0)).push (seqObj "list" #[] 0)) tw ws∧ws.length = us.length ∧
        (if b = true then (us.toArray.zip us.toArray).reverse else us.toArray.zip us.toArray) = ws.toArray.zip ws.toArray∧tw.deep≤t.deep ∧
        ∀ (_b : Bool) (ix : List Nat),ix.length = ws.length→(∀ i∈ix,i < ws.length)→(ix.map fun i => tw.bs.getD i .nil) = (Tr.Bb tw.bs).reverse→∃ iy : List Nat,iy.length = us.length∧(∀ i∈iy,i < us.length)∧(iy.map fun i => t.bs.getD i .nil) = (if b then Tr.Bb t.bs else (Tr.Bb t.bs).reverse) ∧
          (if b = true then ((ix.map fun i => ws.getD i Value.none).toArray).reverse else (ix.map fun i => ws.getD i Value.none).toArray) = (iy.map fun i => us.getD i Value.none).toArray := by
      cases b with
      | false => exact ⟨us,t,e6,rfl,rfl,Nat.le_refl _,fun _ ix h1 h2 h3 => ⟨ix,h1,h2,h3,rfl⟩⟩
      | true =>
        have hsrt : Tr.Bb t.bs.reverse = Tr.Bb t.bs:=Tr.X9 (Tr.JM _) ((Tr.Fb _).trans (List.reverse_perm _))
        refine ⟨us.reverse,Tr.of t.bs.reverse,e6.rev,by simp,kat_pairs (ks:=us) (vs:=us) true rfl,Tr.Z7 t,fun _ ix h1 h2 h3 => ⟨(ix.map fun i => us.length - 1 - i).reverse,by simpa using h1,fun i hi => ?_,?_,?_⟩⟩
        · rw [List.mem_reverse,List.mem_map] at hi
          obtain ⟨k,hk,rfl⟩:=hi
          have:=h2 k hk
          rw [List.length_reverse] at this
          omega
        · rw [Tr.Rq,hsrt] at h3
          rw [List.map_reverse,List.map_map]
          have : (ix.map ((fun i => t.bs.getD i Tr.nil) ∘ fun i => us.length - 1 - i)) = ix.map fun i => t.bs.reverse.getD i .nil:=aX fun i hi => by
            have:=h2 i hi
            rw [List.length_reverse] at this
            show t.bs.getD (us.length - 1 - i) Tr.nil = _
            rw [List.getD_eq_getElem?_getD,List.getD_eq_getElem?_getD,List.getElem?_reverse (by omega),hl]
          rw [this,h3,List.reverse_reverse]
          rfl
        · rw [if_pos rfl,List.map_reverse,List.map_map,List.reverse_toArray]
          congr 2
          exact aX fun i hi => by
            have:=h2 i hi
            rw [List.length_reverse] at this
            show us.reverse.getD i Value.none = us.getD (us.length - 1 - i) Value.none
            rw [List.getD_eq_getElem?_getD,List.getD_eq_getElem?_getD,List.getElem?_reverse (by omega)]
    rw [hws]
    refine Wb (ai (Zj (s:={ s with heap:=((s.heap.update a (Obj.mapSeq fun _ => #[])).push (seqObj "tuple" us.toArray 0)).push (seqObj "list" #[] 0) }) hκ ew (by omega) (by omega) (by omega)) ?_ fun _ _ z => z)
    rintro ⟨⟨⟩,st'⟩ s' ⟨rfl,hf,ix,hil,hix,hout,hst⟩
    dsimp only
    refine Wb (seqEpoch_at ho6 rfl ?_)
    obtain ⟨iy,y1,y2,y3,hfin⟩ : ∃ iy : List Nat,iy.length = us.length∧(∀ i∈iy,i < us.length)∧(iy.map fun i => t.bs.getD i .nil) = (if b then Tr.Bb t.bs else (Tr.Bb t.bs).reverse) ∧
        (if b = true then ((arrOf st').map (·.2)).reverse else (arrOf st').map (·.2)) = (iy.map fun i => us.getD i Value.none).toArray := by
      rw [show (arrOf st').map (·.2) = _ from hout]
      exact pick b ix hil hix hst
    refine Wb (listUpdate_at ho6 rfl ?_ (ar _) (by
      refine aa (Nat.le_of_eq (bC Array.size hfin)) ?_
      rw [List.size_toArray,List.length_map,y1,sizeLine_eq]; omega))
    rw [show failedOf st' = none from hf]
    simp only [bne_self_eq_false,Bool.false_eq_true,if_false]
    have fin:=h iy y1 y2 y3
    rw [← hfin] at fin
    exact aA fin
end
end TH
namespace ET
open PySem
section
variable{prog:Program}{w:World}{A:Around}{E:Value→Shared→Prop}{s:Shared}
theorem next_item{it t:Addr}{i:Nat}{items}{x:Value}{Q:Value→Shared→Prop}(hit:s.heap.IsTupleIter it t i)(ht:s.heap.IsTuple t items)(hx:items[i]? = some x)
 (hQ:∀h',h'.IsTupleIter it t (i+1)→Heap.SameBut it s.heap h'→Q x { s with heap:=h' }):wpAny (model prog w) A (Builtin.SmallTypes.nextOf (.ref it)) Q E s:=by
 obtain⟨o,ho,hc,hd⟩:=id hit;obtain⟨ol,hol,_,nl,hdl⟩:=ht;unfold Builtin.SmallTypes.nextOf;refine Wb (aj (name:=Str.ofString "__next__") hit.typeIs F.slot_tuple_iterator_next
  (aW F.slot_tuple_iterator_next hit.typeIs F.entry_tuple_iterator_next ?_ (F.args_tuple_iterator_next_1 _)))
 show wpAny _ _ (field (.ref it) 0>>=_) _ _ s;refine Wb (ao ho hd (x:=.ref t) rfl ?_);show wpAny _ _ (if(Value.ref t==Value.none)=true then _ else _) _ _ s;rw [if_neg (show ¬((Value.ref t==Value.none)=true) from aK)];show wpAny _ _ (field (.ref it) 1>>=_) _ _ s;refine Wb (ao ho hd (x:=.int i 0) rfl ?_);show wpAny _ _ (seqItems? (.ref t)>>=_) _ _ s;refine Wb (az hol hdl ?_);simp only [Int.toNat_natCast,hx];refine Wb (wpAny_setField ho hd (by simp) (aA ⟨x,rfl,wpAny_pure (hQ _ ?_ (aU ..))⟩));exact⟨_,Heap.get?_update_self _ ho (Obj.isFreed_of_fields (Obj.data_mapFields hd _)),(Obj.cls_mapFields ..).trans hc,by
  rw [Obj.data_mapFields hd];simp [rawInt]⟩
theorem next_end{it t:Addr}{i:Nat}{items}{Q:Value→Shared→Prop}(hh:A.handled=none)(hit:s.heap.IsTupleIter it t i)(ht:s.heap.IsTuple t items)(hx:items[i]? = none)
 (hE:∀h' e,Heap.ExtBut it s.heap h'→(∃o,h'.get? e=some o∧o.cls=.type "StopIteration")→E (.ref e) { s with heap:=h' }):wpAny (model prog w) A (Builtin.SmallTypes.nextOf (.ref it)) Q E s:=by
 obtain⟨o,ho,hc,hd⟩:=id hit;obtain⟨ol,hol,_,nl,hdl⟩:=ht;unfold Builtin.SmallTypes.nextOf;refine Wb (aj (name:=Str.ofString "__next__") hit.typeIs F.slot_tuple_iterator_next
  (aW F.slot_tuple_iterator_next hit.typeIs F.entry_tuple_iterator_next ?_ (F.args_tuple_iterator_next_1 _)))
 show wpAny _ _ (field (.ref it) 0>>=_) _ _ s;refine Wb (ao ho hd (x:=.ref t) rfl ?_);show wpAny _ _ (if(Value.ref t==Value.none)=true then _ else _) _ _ s;rw [if_neg (show ¬((Value.ref t==Value.none)=true) from aK)];show wpAny _ _ (field (.ref it) 1>>=_) _ _ s;refine Wb (ao ho hd (x:=.int i 0) rfl ?_);show wpAny _ _ (seqItems? (.ref t)>>=_) _ _ s;refine Wb (az hol hdl ?_);simp only [Int.toNat_natCast,hx];refine Wb (bJ (Wb (wpAny_setField ho hd (by simp) ?_)));show wpAny _ _ (newExc (.type "StopIteration") []>>=_) _ _ _;refine Wb ?_;simp only [newExc,newTuple];refine Wb (ay ?_ (by size_fits));refine Wb (m:=firstArgMember _ _) (wpAny_of_eq (a:=Value.none) (by first | rfl | (simp only [firstArgMember];rfl)) ?_);refine ay ?_ (by size_fits);simp only [raiseNew];refine Wb (wpAny_handled ?_)
 first | rw [show A.in1.handled=none from hh] | rw [hh]
 refine Wb (aA (wpAny_throw ?_));exact hE _ _ (((aU ..).extBut.push _).push _) ⟨_,Heap.get?_push_size _ rfl,rfl⟩
end
section
open AutoSeq1 (wpAny_loadPart')
theorem YK(l:Addr)(items:Array Value)(n:Nat)(dct:Option Addr)(sl:Array (Option Value)) :
  Meets (Builtin.«enumerate.__new__» ⟨[.type "enumerate",.ref l],[]⟩) (fun _ R s=>s.heap.get? l=some { cls:=.type "tuple",dict:=dct,data:=.seq items n,slots:=sl } ∧
   R (.ok (.ret (.ref (s.heap.push { cls:=.type "tuple_iterator",data:=.fields #[.ref l,.int 0 0] }).objs.size)))
    { s with heap:=(s.heap.push { cls:=.type "tuple_iterator",data:=.fields #[.ref l,.int 0 0] }).push { cls:=.type "enumerate",data:=.fields #[.none,.bool false,.ref s.heap.objs.size,rawInt 0,.none,.none] } }) :=
 .of_wp fun prog w A R s h=>by
  obtain⟨hp,g,d,tk,os⟩:=s;obtain⟨hl,h⟩:=h;have hsub:=sub_enumerate;have hL:Heap.IsTuple (Shared.heap ⟨hp,g,d,tk,os⟩) l items:=⟨_,hl,rfl,n,rfl⟩
  wp_walk using wpAny_loadPart' hl
  refine wpAny_stack_any fun st=>aA ?_;split
  ·rename_i c _ _ _ _ _;cases (c==Value.type "enumerate")
   ·wp_walk using wpAny_loadPart' hl,wpAny_pyIter_tuple hL
    exact⟨_,rfl,h⟩
   ·wp_walk using wpAny_loadPart' hl,wpAny_pyIter_tuple hL
    exact⟨_,rfl,h⟩
  ·wp_walk using wpAny_loadPart' hl,wpAny_pyIter_tuple hL
   exact⟨_,rfl,h⟩
theorem Xa{prog:Program}{w:World}{A:Around}{E:Value→Shared→Prop}{s:Shared}{l:Addr}{items:Array Value}{Q:Value→Shared→Prop}(hL:s.heap.IsTuple l items)
 (h:∀h',IsEnum h' (s.heap.objs.size+1) s.heap.objs.size 0 .none→h'.IsTupleIter s.heap.objs.size l 0→h'.objs.size=s.heap.objs.size+2 →
   (∀b o,s.heap.get? b=some o→h'.get? b=some o)→Q (.ref (s.heap.objs.size+1)) { s with heap:=h' }) :
  wpAny (model prog w) A (call (.type "enumerate") [.ref l]) Q E s:=by
 obtain⟨⟨c,dct,dt,sl⟩,hl,hc,n,hd⟩:=hL
 replace hc:c=.type "tuple" := hc
 replace hd:dt=.seq items n:=hd
 subst hc hd;refine callType_new F.called_enumerate (by decide) (F.typeCall_enumerate_1 _) (F.newCall_enumerate_1 _) (fun obj=>F.args_object_init_2 obj _) F.entry_enumerate_new
  (YK l items n dct sl) ⟨hl,?_⟩
 have hz:(s.heap.push { cls:=.type "tuple_iterator",data:=.fields #[.ref l,.int 0 0] }).objs.size=s.heap.objs.size+1:=Heap.size_push ..;show _∧_;rw [hz];have he:IsEnum ((s.heap.push { cls:=.type "tuple_iterator",data:=.fields #[.ref l,.int 0 0] }).push
   { cls:=.type "enumerate",data:=.fields #[.none,.bool false,.ref s.heap.objs.size,rawInt 0,.none,.none] }) (s.heap.objs.size+1) s.heap.objs.size 0 .none:=by
  have:=aO (s.heap.push { cls:=.type "tuple_iterator",data:=.fields #[.ref l,.int 0 0] })
   (o:={ cls:=.type "enumerate",data:=.fields #[.none,.bool false,.ref s.heap.objs.size,rawInt 0,.none,.none] }) rfl
  rw [hz]at this;exact this
 refine⟨⟨_,he,rfl⟩,h _ he ⟨_,Heap.get?_push_of_some _ (aO _ rfl),rfl,rfl⟩ (by rw [Heap.size_push,hz]) fun b o x=>aD _ (aD _ x)⟩
end
theorem draws{prog:Program}{w:World}{A:Around}(hh:A.handled=none)(it a:Addr)(its:List Value)(hne:a≠it) :
  Draws prog w A it [it,a] its.length (fun i x=>its[i]? = some x) (fun i h=>h.IsTupleIter it a i∧h.IsTuple a its.toArray) where
 live:=fun i h st=>let⟨o,e,_⟩:=st.1;⟨o,e⟩
 frame:=fun i h h' st k=>by
  obtain⟨⟨o,e,r⟩,o2,e2,r2⟩:=st;exact⟨⟨o,k it (by simp) o e,r⟩,o2,k a (by simp) o2 e2,r2⟩
 item:=fun i s Q E hi st hQ=>next_item st.1 st.2 (x:=its[i]) (by simp [hi]) fun h' st' sb =>
  hQ _ h' s.toks (by simp [hi]) ⟨st',let⟨o,e,r⟩:=st.2;⟨o,(sb.2 a hne).trans e,r⟩⟩ sb
 done:=fun s Q E st hE=>next_end hh st.1 st.2 (by simp) hE
end ET
namespace L2
open PySem PySem.Spec PyProof.Rows
def Ts(H:Hp):Tr→List V→Prop
 |.nil,xs=>xs=[]
 |.cons b r,xs=>∃(a:Addr) (ys zs:List V),xs=.ref a::zs∧H a=some (.tup ys)∧Ts H b ys∧Ts H r zs
def Tv(H:Hp)(t:Tr)(v:V):Prop:=∃(a:Addr) (ys:List V),v=.ref a∧H a=some (.tup ys)∧Ts H t ys
theorem Ts.same{H H':Hp}(e:AO H H'):∀ {t:Tr} {xs:List V},Ts H t xs→Ts H' t xs
 |.nil,xs,h=>by rw [Ts]at h ⊢;exact h
 |.cons b r,xs,h=>by
  rw [Ts]at h ⊢;obtain⟨a,ys,zs,e1,h1,h2,h3⟩:=h;exact⟨a,ys,zs,e1,e _ _ h1,h2.same e,h3.same e⟩
theorem Tv.same{H H':Hp}{t:Tr}{v:V}(h:Tv H t v)(e:AO H H'):Tv H' t v:=let⟨a,ys,e1,h1,h2⟩:=h;⟨a,ys,e1,e _ _ h1,h2.same e⟩
theorem Ts.length{H:Hp}:∀ {t:Tr} {xs:List V},Ts H t xs→xs.length=t.len
 |.nil,xs,h=>by rw [Ts]at h;rw [h];rfl
 |.cons b r,xs,h=>by
  rw [Ts]at h;obtain⟨a,ys,zs,rfl,_,_,h3⟩:=h;rw [List.length_cons,Tr.len,h3.length]
theorem Ts.len{H:Hp}{t:Tr}{xs:List V}(h:Ts H t xs):xs.length=t.bs.length:=by rw [h.length,Tr.C7]
theorem Ts.get{H:Hp}:∀ {t:Tr} {xs:List V} {i:Nat} {v:V},Ts H t xs→xs[i]? = some v→∃c,t.bs[i]? = some c∧Tv H c v
 |.nil,xs,i,v,h,e=>by rw [Ts]at h;subst h;simp at e
 |.cons b r,xs,i,v,h,e=>by
  rw [Ts]at h;obtain⟨a,ys,zs,rfl,h1,h2,h3⟩:=h;cases i with
  |zero=>simp at e;subst e;exact⟨b,rfl,a,ys,rfl,h1,h2⟩
  |succ i =>
   obtain⟨c,q1,q2⟩:=h3.get (i:=i) (v:=v) (by simpa using e);exact⟨c,by simpa [Tr.bs]using q1,q2⟩
theorem Ts.MS{H:Hp}:∀(ts:List Tr) (xs:List V),xs.length=ts.length→(∀(i:Nat) (v:V),xs[i]? = some v→∃c,ts[i]? = some c∧Tv H c v)→Ts H (Tr.of ts) xs
 |[],xs,hl,_=>by
  rw [Tr.of,Ts];exact List.eq_nil_of_length_eq_zero (by simpa using hl)
 |t::ts,[],hl,_=>by simp at hl
 |t::ts,x::xs,hl,h=>by
  rw [Tr.of,Ts];obtain⟨c,e1,a,ys,rfl,h1,h2⟩:=h 0 x rfl;simp at e1;subst e1;exact⟨a,ys,xs,rfl,h1,h2,Ts.MS ts xs (by simpa using hl) fun i v e=>by
   obtain⟨c,q1,q2⟩:=h (i+1) v (by simpa using e);exact⟨c,by simpa using q1,q2⟩⟩
theorem Ts.pick{H:Hp}{t:Tr}{xs:List V}(h:Ts H t xs)(ix:List Nat)(hi:∀i∈ix,i<xs.length):Ts H (Tr.of (ix.map fun i=>t.bs.getD i .nil)) (ix.map fun i=>xs.getD i .A7):=by
 refine Ts.MS _ _ (by simp) fun i v e=>?_;rw [List.getElem?_map]at e ⊢;cases q:ix[i]? with
 |none=>rw [q]at e;cases e
 |some k =>
  rw [q]at e;have hk:k<xs.length:=hi k (aI q);simp only [Option.map_some,Option.some.injEq]at e;obtain⟨c,q1,q2⟩:=h.get (i:=k) (v:=v) (by rw [←e,List.getD_eq_getElem?_getD,List.getElem?_eq_getElem hk];rfl);refine⟨c,?_,q2⟩;simp only [Option.map_some,List.getD_eq_getElem?_getD,q1]
  rfl
section
variable{X:Cx}{pins:List (Addr×Obj)}{σ:St}{H:Hp}{s:Shared}
theorem Ts.vs(I:Inv X pins σ H s):∀ {t:Tr} {xs:List V} {us:List Value},Ts H t xs→Vals xs us→TH.Vs s.heap t us
 |.nil,xs,us,h,r=>by
  rw [Ts]at h;subst h;cases r;rw [TH.Vs]
 |.cons b rr,xs,us,h,r=>by
  rw [Ts]at h;obtain⟨a,ys,zs,rfl,h1,h2,h3⟩:=h;cases r with
  |cons r1 r2 =>
   cases r1;obtain⟨its,rv,p,_⟩:=I.tuple (A8.of (K:=X.K) h1);rw [TH.Vs];exact⟨a,its,_,rfl,p,Ts.vs I h2 rv,Ts.vs I h3 r2⟩
theorem Tv.at(I:Inv X pins σ H s){t:Tr}{v:V}{u:Value}(h:Tv H t v)(r:RelV v u):∃(a:Addr) (its:List Value),u=.ref a∧s.heap.IsTuple a its.toArray∧TH.Vs s.heap t its:=by
 obtain⟨a,ys,rfl,h1,h2⟩:=h;cases r;obtain⟨its,rv,p,_⟩:=I.tuple (A8.of (K:=X.K) h1);exact⟨a,its,rfl,p,Ts.vs I h2 rv⟩
def j9:R2:=fun x y H Q=>∃t u,Tv H t x∧Tv H u y∧t.deep≤60∧Q (.bl (Tr.lt u t)) H
theorem dn(hu:X.A.units+64<cLine):CY X (compareOp .Gt) j9:=by
 intro pins s σ H x y v u' Q I rx ry h;obtain⟨t,u,h1,h2,hd,q⟩:=h;obtain⟨a,its,rfl,p1,k1⟩:=h1.at I rx;obtain⟨b,its',rfl,p2,k2⟩:=h2.at I ry;exact TH.cC (t.deep+1) t u X.A s a b its its' (bL _) p1 k1 p2 k2 (by omega) X.prog X.w X.xe _ ⟨.bl _,H,I,rfl,q⟩
def jm(neg:Bool):R2:=fun x y H Q=>∃t u,Tv H t x∧Tv H u y∧t.deep≤60∧Q (.bl (if neg then !decide (t=u) else decide (t=u))) H
theorem dU(hu:X.A.units+64<cLine):CY X (compareOp .Eq) (jm false):=by
 intro pins s σ H x y v u' Q I rx ry h;obtain⟨t,u,h1,h2,hd,q⟩:=h;obtain⟨a,its,rfl,p1,k1⟩:=h1.at I rx;obtain⟨b,its',rfl,p2,k2⟩:=h2.at I ry;exact TH.lZ p1 k1 p2 k2 (by omega) X.prog X.w X.xe _ ⟨.bl _,H,I,rfl,q⟩
end
def Vc(K:Fg)(a:Addr):It :=
 ⟨fun i H=>∃xs x,A8 K H a xs∧xs[i]? = some x,fun i H v H'=>∃p x,v=.ref p∧H p=none∧H'=upd H p (.tup [.int i,x])∧∀xs,A8 K H a xs→xs[i]? = some x,fun i H=>∃xs,A8 K H a xs∧xs.length=i⟩
theorem YR{P:Program}{w:World}{K:Fg}{elts:List Expr}{x1}{pos:Pos}(a e it:Addr)(hne:e≠it) :
  Turn P w K (.Tuple elts x1 pos) (Vc K a) [e,it] e (fun i h=>(∃old,IsEnum h e it (i:Nat) old)∧h.IsTupleIter it a i) where
 mem:=by simp
 obj:=fun i h st b hb=>by
  rcases aM.mp hb with rfl | hb
  ·obtain⟨⟨old,q⟩,_⟩:=st;exact⟨_,q,fun v z=>by cases z⟩
  ·have e2:b=it:=by simpa using hb
   subst e2;obtain⟨_,o,q,c,d⟩:=st;exact⟨o,q,fun v z=>by rw [d]at z;cases z⟩
 keep:=fun i h h' st k=>by
  obtain⟨⟨old,q⟩,o,q2,r⟩:=st;exact⟨⟨old,k e (by simp) _ q⟩,o,k it (by simp) _ q2,r⟩
 item:=by
  intro X hP hw hK hc i pins s σ H E I hf st hg;subst hP hw hK;obtain⟨xs,x,hq,hx⟩:=hg;obtain⟨its,rv,p,hz⟩:=I.tuple hq;obtain⟨u,hu,ru⟩:=rv.get hx;obtain⟨⟨old,he⟩,hit⟩:=st;have hai:a≠it:=fun z=>by
   obtain⟨o,e1,c1,_⟩:=p;obtain⟨o2,e2,c2,_⟩:=hit;rw [z,e2]at e1;cases e1;rw [c1]at c2;exact absurd c2 (by decide)
  have hae:a≠e:=fun z=>by
   obtain⟨o,e1,c1,_⟩:=p;rw [z,he]at e1;cases e1;exact absurd (show Value.type "enumerate" = Value.type "tuple" from c1) (by decide)
  have hlt:i<its.length:=(aE.mp hu).1;have hE0:=hf e (by simp);have hI0:=hf it (by simp);refine wpAny_pyNext_enum_itemD (ET.draws (prog:=X.prog) (w:=X.w) (A:=X.A.in1) (I.ok.hd hc) it a its hai) he ⟨hit,p⟩ hlt hne (by simp [hne,Ne.symm hae]) fun y h' tk hy ho hs' hT hsz hk=>⟨_,rfl,wpAny_letOwnedTupleGo_enum (s:={ s with heap:=h',toks:=tk+1 }) ho fun h'' he'' sb=>?_⟩;have hyu:y=u:=by rw [hu]at hy;exact(aY hy).symm
  subst hyu;have keep:∀b o,b≠e→b≠it→s.heap.get? b=some o→h''.get? b=some o:=fun b o h1 h2 q=>(sb.2 b h1).trans (hk b o h1 h2 q);have hTe:s.heap.objs.size≠e:=ag (aF he);have hTi:s.heap.objs.size≠it:=let⟨_,q,_⟩:=hit;ag (aF q);have hT'':h''.get? s.heap.objs.size=some { cls:=.type "tuple",data:=.seq #[.int i tk,y] }:=(sb.2 _ hTe).trans hT;have hTn:H s.heap.objs.size=none:=I.Ap.fresh (aJ _);have neT:∀b o,s.heap.get? b=some o→b≠s.heap.objs.size:=fun b o q=>aG (aF q);have GU:∀b o,H b=some o→b≠e∧b≠it:=fun b o q=>⟨(fun z=>by rw [z,hE0.1]at q;cases q),(fun z=>by rw [z,hI0.1]at q;cases q)⟩;refine⟨.ref s.heap.objs.size,upd H s.heap.objs.size (.tup [.int i,x]),?_,rfl,⟨_,x,rfl,hTn,rfl,fun ys hy=>by rw [I.RQ hy hq];exact hx⟩,⟨⟨_,by simpa using he''⟩,?_⟩,fun b hb=>?_⟩
  ·show Inv X pins σ _ { s with heap:=h'',gens:=s.gens,drawn:=s.drawn,toks:=tk+1 };refine I.step (h':=h'') (g':=s.gens) (d':=s.drawn) (t':=tk+1) (ch:=[e,it]) (fun b hb=>?_) (fun b o _ _ hc q _=>keep b o (fun z=>hc (by simp [z])) (fun z=>hc (by simp [z])) q) (fun b o _ _ hc q _=>⟨o.slots,keep b o (fun z=>hc (by simp [z])) (fun z=>hc (by simp [z])) q⟩)
    (fun b o _ q n=>by rw [AM (neT b o q)];exact n) (fun b o hc q=>⟨o,keep b o (fun z=>hc (by simp [z])) (fun z=>hc (by simp [z])) q⟩) (fun b ys q=>by rw [AM (Aj q hTn)];exact q) (fun b o u q=>by rw [AM (Aj q hTn)];exact q)
    (fun b ps q=>⟨#[],by rw [AM (Aj q hTn),q];simp⟩) (fun m hm=>?_) (fun b o q=>?_) I.bare
   ·rcases aM.mp hb with rfl | hb
    ·exact⟨hE0.2.2.2.1,hE0.2.1,hE0.2.2.2.2.1,hE0.2.2.2.2.2⟩
    ·have e2:b=it:=by simpa using hb
     subst e2;exact⟨hI0.2.2.2.1,hI0.2.1,hI0.2.2.2.2.1,hI0.2.2.2.2.2⟩
   ·obtain⟨o,es,ep,ho,r⟩:=hm;exact⟨o,es,ep,keep _ o (Ne.symm hE0.2.1) (Ne.symm hI0.2.1) ho,r⟩
   ·by_cases hb:b=s.heap.objs.size
    ·subst hb;rw [AX]at q;cases q;exact⟨Xg,[.int i tk,y],.cons ⟨tk,rfl⟩ (.cons ru .nil),_,hT'',rfl,_,rfl⟩
    ·rw [AM hb]at q;refine(I.Ap b o q).JH (fun c v hc r=>keep c v ?_ ?_ r) (fun c r=>by rw [AM (Aj r hTn)];exact r) fun c ys r=>by rw [AM (Aj r hTn)];exact r
     ·rcases hc with rfl | hc
      ·exact(GU _ _ q).1
      ·exact(GU _ _ hc).1
     ·rcases hc with rfl | hc
      ·exact(GU _ _ q).2
      ·exact(GU _ _ hc).2
  ·obtain⟨⟨o,q,r⟩,_⟩:=hs';exact⟨o,(sb.2 it (Ne.symm hne)).trans q,r⟩
  ·rcases aM.mp hb with rfl | hb
   ·rw [AM (Ne.symm hTe)];exact hE0.1
   ·have e2:b=it:=by simpa using hb
    subst e2;rw [AM (Ne.symm hTi)];exact hI0.1
 done:=by
  intro X hP hw hK hc i pins s σ H E I hf st hg;subst hP hw hK;obtain⟨xs,hq,hx⟩:=hg;obtain⟨its,rv,p,hz⟩:=I.tuple hq;obtain⟨⟨old,he⟩,hit⟩:=st;have hai:a≠it:=fun z=>by
   obtain⟨o,e1,c1,_⟩:=p;obtain⟨o2,e2,c2,_⟩:=hit;rw [z,e2]at e1;cases e1;rw [c1]at c2;exact absurd c2 (by decide)
  have hl:its.length=i:=by rw [←rv.length];exact hx
  subst hl;obtain⟨f0,f1,f2,f3,f4,f5⟩:=hf it (by simp);exact wpAny_pyNext_enum_endD (ET.draws (prog:=X.prog) (w:=X.w) (A:=X.A.in1) (I.ok.hd hc) it a its hai) he ⟨hit,p⟩ fun h' eb=>⟨rfl,I.turned (t':=s.toks) (fun b o hb q=>eb b o hb q) f0 f1 f3 f4 f5⟩
 self:=fun _ _ _ _ _ st h=>by
  obtain⟨⟨old,he⟩,_⟩:=st;exact wpAny_pyIter_enum he h
def kA(K:Fg)(ta:TA):TI:=fun σ H R=>ta σ H fun vs H1=>∃a,vs=[.ref a]∧(∃xs,A8 K H1 a xs)∧R (Vc K a) H1
theorem VH{X:Cx}{elts:List Expr}{x1}{tpos:Pos}{a:Expr}{ta:TA}{p pos:Pos}(hg:Gl X "enumerate")(hm:X.mg "enumerate" = none)(ha:PA X [a] ta)(hs:starEach [a] X.env=[(false,eval a X.env)]:=by rfl) :
  PI X (.Tuple elts x1 tpos) (.Call (.Name "enumerate" p) [a] [] pos) (kA X.K ta):=by
 intro pins s σ H R I h;refine Call_ (FL I hg hm boot_enumerate (au (BB (ha pos pins s σ H _ I h) fun us s1 ⟨vs,H1,I1,r1,q1⟩=>?_) hs rfl));obtain⟨t,e,⟨xs,hq⟩,q⟩:=q1;subst e;cases r1 with
 |cons r rr =>
  cases rr;cases r;obtain⟨its,rv,p',hz⟩:=I1.tuple hq;refine ET.Xa (show s1.heap.IsTuple t its.toArray from p') fun h' he hit hsz hk=>wpAny_pyIter_enum he ?_;have I2:Inv X pins σ H1 { s1 with heap:=h' }:=I1.kept (t':=s1.toks) hk;have hn:s1.heap.objs.size+1≠s1.heap.objs.size:=by omega
  refine⟨s1.heap.objs.size+1,[s1.heap.objs.size+1,s1.heap.objs.size],_,_,H1,rfl,I2,YR t _ _ hn,⟨⟨_,he⟩,hit⟩,fun b hb=>?_,q⟩;have hb':s1.heap.objs.size≤b:=by
   have hb2:b=s1.heap.objs.size+1∨b=s1.heap.objs.size:=by simpa using hb
   rcases hb2 with z | z
   ·rw [z];exact Nat.le_succ _
   ·rw [z];exact aJ _
  exact I1.P5 hb' (I1.Ap.fresh hb')
theorem Zz{K:Fg}{a:Addr}{xs:List V}{g:TG}{tb:TS}{D:Ends}{σ:St}{H:Hp}(Pv:Nat→St→Hp→Prop)(h0:Pv 0 σ H)(hl:∀i σ H,i≤xs.length→Pv i σ H→A8 K H a xs)
 (hs:∀i x σ H,xs[i]? = some x→Pv i σ H→∀p,H p=none→g (.ref p) σ (upd H p (.tup [.int (i:Nat),x])) fun σ2 H2=>tb { D with nx:=Pv (i+1),ct:=Pv (i+1),bk:=D.nx } σ2 H2)(hd:∀σ H,Pv xs.length σ H→D.nx σ H) :
  ∃W:Nat→Nat→St→Hp→Prop,(∃m,W 0 m σ H)∧∀i m σ H,W i m σ H →
   ((Vc K a).stop i H∧D.nx σ H)∨((Vc K a).go i H∧∃N:St→Hp→Prop,(∀σ' H',N σ' H'→∃m',m'<m∧W (i+1) m' σ' H')∧∀x H',(Vc K a).FI i H x H'→g x σ H' fun σ2 H2=>tb { D with nx:=N,ct:=N,bk:=D.nx } σ2 H2):=by
 refine⟨fun i m σ H=>m=xs.length-i∧i≤xs.length∧Pv i σ H,⟨xs.length,by simp,Nat.zero_le _,h0⟩,?_⟩;rintro i m σ H ⟨rfl,hi,p⟩;have q:=hl i σ H hi p;by_cases hlt:i<xs.length
 ·refine .inr ⟨⟨xs,xs[i],q,by simp [hlt]⟩,Pv (i+1),fun σ' H' p'=>⟨xs.length-(i+1),by omega,rfl,hlt,p'⟩,fun x H' y=>?_⟩;obtain⟨pp,x',rfl,hn,rfl,y⟩:=y;exact hs i x' σ _ (y xs q) p pp hn
 ·have e:i=xs.length:=by omega
  subst e;exact .inl ⟨⟨xs,q,rfl⟩,hd σ H p⟩
end L2
namespace TH
open PySem PySem.W PyProof.Rows PySem.SeqAt
section
variable{prog:Program}{w:World}{A:Around}{E:Value→Shared→Prop}{s:Shared}
theorem Km(a:Addr):Builtin.«list.sort» ⟨[.ref a],[]⟩=Builtin.«list.sort» ⟨[.ref a],[(Str.ofString "reverse",.bool false)]⟩:=by
 rw [list_sort_rev,list_sort_plain]
 rfl
theorem IG{a:Addr}{us:List Value}{t:Tr}{n:Nat}{P:PySem.Fin→Shared→Prop}(ho:s.heap.get? a=some (seqObj "list" us.toArray n))(e:Vs s.heap t us)(h64:us.length<64)(hu:A.units+t.deep≤cLine)
 (h:∀ix:List Nat,ix.length=us.length→(∀i∈ix,i<us.length)→(ix.map fun i=>t.bs.getD i .nil)=(Tr.Bb t.bs).reverse→P (.done (.ret .none)) { s with heap:=sortedHeap s.heap a us (ix.map fun i=>us.getD i Value.none).toArray }) :
  wpAny (model prog w) A (Builtin.«list.sort» ⟨[.ref a],[]⟩) P E s:=by
 rw [Km];exact JS (b:=false) ho e h64 hu h
theorem NM{l:Addr}{vs:List Value}{Q:List Value→Shared→Prop}(hl:s.heap.IsTuple l vs.toArray)
 (h:Q vs { s with heap:=(s.heap.push (seqObj "list" #[] 0)).update s.heap.objs.size (Obj.mapSeq (· ++ vs.toArray)) })(hsz:vs.length≤sizeLine) :
    wpAny (model prog w) A (collect (.ref l)) Q E s:=by
  obtain⟨o,ho,hc,n,hd⟩:=id hl
  unfold collect
  refine Wb (wpAny_runValue (codeAny_builtin entry_proto_collect' ?_))
  show wpAny _ _ (do again (.builtin "list.__iadd__" ⟨[←newList [],.ref l],[]⟩)) _ _ s
  refine Wb (bY (aA ⟨Code.quiet_builtin _ (by decide +kernel),codeAny_builtin entry_list_iadd' ?_⟩))
  show wpAny _ _ (Builtin.List.listExtendWith (.ref s.heap.objs.size) (.ref l) (.ref s.heap.objs.size)) _ _ { s with heap:=s.heap.push (seqObj "list" #[] 0) }
  unfold Builtin.List.listExtendWith
  have ho':(s.heap.push (seqObj "list" #[] 0)).get? l=some o:=aD _ ho
  refine Wb (wpAny_typeOf (T := "tuple") ⟨o,ho',hc⟩ ?_)
  have ht:(Value.type "tuple" == Value.type "tuple")=true:=by rfl
  rw [if_pos (by rw [ht];simp)]
  refine Wb (listItems_at ho' hd ?_)
  refine Wb (listItems_at (xs:=#[]) (n:=0) (aO _ rfl) rfl ?_)
  rw [if_neg (by simp)]
  refine Wb (listUpdate_at (xs:=#[]) (n:=0) (aO _ rfl) rfl ?_ (ar _) (by show(#[]++vs.toArray).size≤sizeLine+1;simp only [Array.size_append,List.size_toArray,List.length_nil];omega))
  refine aA ?_
  show wpAny (model prog w) A (do
      let o ←load s.heap.objs.size
      match o.data with
      |.seq xs _=>pure xs.toList
      |_=>unsupported "internal:collect") Q E { s with heap:=(s.heap.push (seqObj "list" #[] 0)).update s.heap.objs.size (Obj.mapSeq (· ++ vs.toArray)) }
  refine Wb (wpAny_load (get?_update_seq (aO _ rfl) _) ?_)
  show wpAny _ _ (pure ((#[]:Array Value)++vs.toArray).toList) Q E _
  rw [show((#[]:Array Value)++vs.toArray).toList=vs by simp]
  exact aA h
theorem UT{l:Addr}{us:List Value}{t:Tr}{Q:Value→Shared→Prop}(hl:s.heap.IsList l us.toArray)(e:Vs s.heap t us)(h64:us.length<64)(hu:A.units+2+t.deep≤cLine)
 (h:∀(h':Heap) (ix:List Nat) (e1:Nat),ix.length=us.length→(∀i∈ix,i<us.length)→(ix.map fun i=>t.bs.getD i .nil)=(Tr.Bb t.bs).reverse→(∀c o,s.heap.get? c=some o→h'.get? c=some o) →
   h'.get? (s.heap.objs.size+1)=some (seqObj "list" (ix.map fun i=>us.getD i Value.none).toArray e1)→Q (.ref (s.heap.objs.size+1)) { s with heap:=h' }) :
  wpAny (model prog w) A (call (.builtin "sorted") [.ref l]) Q E s:=by
 refine Calls.call_function_entry kind_sorted plain_sorted entry_sorted (args_sorted1 _) ?_;unfold Builtin.«sorted»;refine Wb (m:=checkCount "sorted" 1 1 _) (aA ?_);refine Wb (collect_list hl ?_ (by rw [sizeLine_eq];omega));refine Wb (bY ?_ (by rw [sizeLine_eq];omega));have hsz:((s.heap.push (seqObj "list" #[] 0)).update s.heap.objs.size (Obj.mapSeq (· ++ us.toArray))).objs.size=s.heap.objs.size+1:=by
  rw [Heap.size_update,size_push']
 have hoL:(((s.heap.push (seqObj "list" #[] 0)).update s.heap.objs.size (Obj.mapSeq (· ++ us.toArray))).push (seqObj "list" us.toArray 0)).get? (s.heap.objs.size+1)=some (seqObj "list" us.toArray 0):=by
  rw [←hsz];exact aO _ rfl
 have keep:∀b o,s.heap.get? b=some o→o.cls=.type "tuple" →(((s.heap.push (seqObj "list" #[] 0)).update s.heap.objs.size (Obj.mapSeq (· ++ us.toArray))).push (seqObj "list" us.toArray 0)).get? b=some o:=fun b o q _=>by
  have hlt:b<s.heap.objs.size:=aF q;rw [Heap.get?_push_ne _ _ _ (by rw [hsz];exact aG (aq hlt)),Heap.get?_update_ne _ _ _ _ (aG hlt),Heap.get?_push_ne _ _ _ (aG hlt)];exact q
 show wpAny _ _ _ _ _ { s with heap:=((s.heap.push (seqObj "list" #[] 0)).update s.heap.objs.size (Obj.mapSeq (· ++ us.toArray))).push (seqObj "list" us.toArray 0) };rw [hsz];refine Wb (aQ (aW slot_list_sort ⟨_,hoL,rfl⟩ entry_list_sort (IG (s:={ s with heap:=((s.heap.push (seqObj "list" #[] 0)).update s.heap.objs.size (Obj.mapSeq (· ++ us.toArray))).push (seqObj "list" us.toArray 0) }) hoL (e.keeps keep) h64 (by
  rw [show A.in1.in1.units=A.units+2 from rfl];omega) fun ix a1 a2 a3=>⟨_,rfl,?_⟩) (args_list_sort _)))
 obtain⟨e1,he1⟩:=sortedAll_at s.heap us (ix.map fun i=>us.getD i Value.none).toArray;exact aA ⟨_,rfl,h _ ix e1 a1 a2 a3 (fun _ _=>sortedAll_old) he1⟩
theorem SO{l:Addr}{us:List Value}{t:Tr}{b:Bool}{Q:Value→Shared→Prop}(hl:s.heap.IsList l us.toArray)(e:Vs s.heap t us)(h64:us.length<64)(hu:A.units+2+t.deep≤cLine)
 (h:∀(h':Heap) (ix:List Nat) (e1:Nat),ix.length=us.length→(∀i∈ix,i<us.length)→(ix.map fun i=>t.bs.getD i .nil)=(if b then Tr.Bb t.bs else(Tr.Bb t.bs).reverse)→(∀c o,s.heap.get? c=some o→h'.get? c=some o) →
   h'.get? (s.heap.objs.size+1)=some (seqObj "list" (ix.map fun i=>us.getD i Value.none).toArray e1)→Q (.ref (s.heap.objs.size+1)) { s with heap:=h' }) :
  wpAny (model prog w) A (call (.builtin "sorted") [.ref l] [(Str.ofString "reverse",.bool b)]) Q E s:=by
 refine call_function_entry_kw kind_sorted plain_sorted entry_sorted (args_sorted_rev _ _) ?_;unfold Builtin.«sorted»;refine Wb (m:=checkCount "sorted" 1 1 _) (aA ?_);refine Wb (collect_list hl ?_ (by rw [sizeLine_eq];omega));refine Wb (bY ?_ (by rw [sizeLine_eq];omega));have hsz:((s.heap.push (seqObj "list" #[] 0)).update s.heap.objs.size (Obj.mapSeq (· ++ us.toArray))).objs.size=s.heap.objs.size+1:=by
  rw [Heap.size_update,size_push']
 have hoL:(((s.heap.push (seqObj "list" #[] 0)).update s.heap.objs.size (Obj.mapSeq (· ++ us.toArray))).push (seqObj "list" us.toArray 0)).get? (s.heap.objs.size+1)=some (seqObj "list" us.toArray 0):=by
  rw [←hsz];exact aO _ rfl
 have keep:∀b o,s.heap.get? b=some o→o.cls=.type "tuple" →(((s.heap.push (seqObj "list" #[] 0)).update s.heap.objs.size (Obj.mapSeq (· ++ us.toArray))).push (seqObj "list" us.toArray 0)).get? b=some o:=fun b o q _=>by
  have hlt:b<s.heap.objs.size:=aF q;rw [Heap.get?_push_ne _ _ _ (by rw [hsz];exact aG (aq hlt)),Heap.get?_update_ne _ _ _ _ (aG hlt),Heap.get?_push_ne _ _ _ (aG hlt)];exact q
 show wpAny _ _ _ _ _ { s with heap:=((s.heap.push (seqObj "list" #[] 0)).update s.heap.objs.size (Obj.mapSeq (· ++ us.toArray))).push (seqObj "list" us.toArray 0) };rw [hsz];refine Wb (aQ (wpAny_call_entry_kw slot_list_sort ⟨_,hoL,rfl⟩ entry_list_sort (JS (b:=b) (s:={ s with heap:=((s.heap.push (seqObj "list" #[] 0)).update s.heap.objs.size (Obj.mapSeq (· ++ us.toArray))).push (seqObj "list" us.toArray 0) }) hoL (e.keeps keep) h64 (by
  rw [show A.in1.in1.units=A.units+2 from rfl];omega) fun ix a1 a2 a3=>⟨_,rfl,?_⟩) (args_list_sort_rev _ _)))
 obtain⟨e1,he1⟩:=sortedAll_at s.heap us (ix.map fun i=>us.getD i Value.none).toArray;exact aA ⟨_,rfl,h _ ix e1 a1 a2 a3 (fun _ _=>sortedAll_old) he1⟩
theorem Wo{l:Addr}{us:List Value}{t:Tr}{Q:Value→Shared→Prop}(hl:s.heap.IsTuple l us.toArray)(e:Vs s.heap t us)(h64:us.length<64)(hu:A.units+2+t.deep≤cLine)
 (h:∀(h':Heap) (ix:List Nat) (e1:Nat),ix.length=us.length→(∀i∈ix,i<us.length)→(ix.map fun i=>t.bs.getD i .nil)=(Tr.Bb t.bs).reverse→(∀c o,s.heap.get? c=some o→h'.get? c=some o) →
   h'.get? (s.heap.objs.size+1)=some (seqObj "list" (ix.map fun i=>us.getD i Value.none).toArray e1)→Q (.ref (s.heap.objs.size+1)) { s with heap:=h' }) :
  wpAny (model prog w) A (call (.builtin "sorted") [.ref l]) Q E s:=by
 refine Calls.call_function_entry kind_sorted plain_sorted entry_sorted (args_sorted1 _) ?_;unfold Builtin.«sorted»;refine Wb (m:=checkCount "sorted" 1 1 _) (aA ?_);refine Wb (NM hl ?_ (by rw [sizeLine_eq];omega));refine Wb (bY ?_ (by rw [sizeLine_eq];omega));have hsz:((s.heap.push (seqObj "list" #[] 0)).update s.heap.objs.size (Obj.mapSeq (· ++ us.toArray))).objs.size=s.heap.objs.size+1:=by
  rw [Heap.size_update,size_push']
 have hoL:(((s.heap.push (seqObj "list" #[] 0)).update s.heap.objs.size (Obj.mapSeq (· ++ us.toArray))).push (seqObj "list" us.toArray 0)).get? (s.heap.objs.size+1)=some (seqObj "list" us.toArray 0):=by
  rw [←hsz];exact aO _ rfl
 have keep:∀b o,s.heap.get? b=some o→o.cls=.type "tuple" →(((s.heap.push (seqObj "list" #[] 0)).update s.heap.objs.size (Obj.mapSeq (· ++ us.toArray))).push (seqObj "list" us.toArray 0)).get? b=some o:=fun b o q _=>by
  have hlt:b<s.heap.objs.size:=aF q;rw [Heap.get?_push_ne _ _ _ (by rw [hsz];exact aG (aq hlt)),Heap.get?_update_ne _ _ _ _ (aG hlt),Heap.get?_push_ne _ _ _ (aG hlt)];exact q
 show wpAny _ _ _ _ _ { s with heap:=((s.heap.push (seqObj "list" #[] 0)).update s.heap.objs.size (Obj.mapSeq (· ++ us.toArray))).push (seqObj "list" us.toArray 0) };rw [hsz];refine Wb (aQ (aW slot_list_sort ⟨_,hoL,rfl⟩ entry_list_sort (IG (s:={ s with heap:=((s.heap.push (seqObj "list" #[] 0)).update s.heap.objs.size (Obj.mapSeq (· ++ us.toArray))).push (seqObj "list" us.toArray 0) }) hoL (e.keeps keep) h64 (by
  rw [show A.in1.in1.units=A.units+2 from rfl];omega) fun ix a1 a2 a3=>⟨_,rfl,?_⟩) (args_list_sort _)))
 obtain⟨e1,he1⟩:=sortedAll_at s.heap us (ix.map fun i=>us.getD i Value.none).toArray;exact aA ⟨_,rfl,h _ ix e1 a1 a2 a3 (fun _ _=>sortedAll_old) he1⟩
theorem Uj{l:Addr}{us:List Value}{t:Tr}{b:Bool}{Q:Value→Shared→Prop}(hl:s.heap.IsTuple l us.toArray)(e:Vs s.heap t us)(h64:us.length<64)(hu:A.units+2+t.deep≤cLine)
 (h:∀(h':Heap) (ix:List Nat) (e1:Nat),ix.length=us.length→(∀i∈ix,i<us.length)→(ix.map fun i=>t.bs.getD i .nil)=(if b then Tr.Bb t.bs else(Tr.Bb t.bs).reverse)→(∀c o,s.heap.get? c=some o→h'.get? c=some o) →
   h'.get? (s.heap.objs.size+1)=some (seqObj "list" (ix.map fun i=>us.getD i Value.none).toArray e1)→Q (.ref (s.heap.objs.size+1)) { s with heap:=h' }) :
  wpAny (model prog w) A (call (.builtin "sorted") [.ref l] [(Str.ofString "reverse",.bool b)]) Q E s:=by
 refine call_function_entry_kw kind_sorted plain_sorted entry_sorted (args_sorted_rev _ _) ?_;unfold Builtin.«sorted»;refine Wb (m:=checkCount "sorted" 1 1 _) (aA ?_);refine Wb (NM hl ?_ (by rw [sizeLine_eq];omega));refine Wb (bY ?_ (by rw [sizeLine_eq];omega));have hsz:((s.heap.push (seqObj "list" #[] 0)).update s.heap.objs.size (Obj.mapSeq (· ++ us.toArray))).objs.size=s.heap.objs.size+1:=by
  rw [Heap.size_update,size_push']
 have hoL:(((s.heap.push (seqObj "list" #[] 0)).update s.heap.objs.size (Obj.mapSeq (· ++ us.toArray))).push (seqObj "list" us.toArray 0)).get? (s.heap.objs.size+1)=some (seqObj "list" us.toArray 0):=by
  rw [←hsz];exact aO _ rfl
 have keep:∀b o,s.heap.get? b=some o→o.cls=.type "tuple" →(((s.heap.push (seqObj "list" #[] 0)).update s.heap.objs.size (Obj.mapSeq (· ++ us.toArray))).push (seqObj "list" us.toArray 0)).get? b=some o:=fun b o q _=>by
  have hlt:b<s.heap.objs.size:=aF q;rw [Heap.get?_push_ne _ _ _ (by rw [hsz];exact aG (aq hlt)),Heap.get?_update_ne _ _ _ _ (aG hlt),Heap.get?_push_ne _ _ _ (aG hlt)];exact q
 show wpAny _ _ _ _ _ { s with heap:=((s.heap.push (seqObj "list" #[] 0)).update s.heap.objs.size (Obj.mapSeq (· ++ us.toArray))).push (seqObj "list" us.toArray 0) };rw [hsz];refine Wb (aQ (wpAny_call_entry_kw slot_list_sort ⟨_,hoL,rfl⟩ entry_list_sort (JS (b:=b) (s:={ s with heap:=((s.heap.push (seqObj "list" #[] 0)).update s.heap.objs.size (Obj.mapSeq (· ++ us.toArray))).push (seqObj "list" us.toArray 0) }) hoL (e.keeps keep) h64 (by
  rw [show A.in1.in1.units=A.units+2 from rfl];omega) fun ix a1 a2 a3=>⟨_,rfl,?_⟩) (args_list_sort_rev _ _)))
 obtain⟨e1,he1⟩:=sortedAll_at s.heap us (ix.map fun i=>us.getD i Value.none).toArray;exact aA ⟨_,rfl,h _ ix e1 a1 a2 a3 (fun _ _=>sortedAll_old) he1⟩
end
end TH
namespace L2
open PySem PySem.Spec PyProof.Rows
theorem Vals.pick{xs:List V}{us:List Value}(r:Vals xs us):∀ix:List Nat,(∀i∈ix,i<xs.length)→Vals (ix.map fun i=>xs.getD i .A7) (ix.map fun i=>us.getD i Value.none)
 |[],_=>.nil
 |i::ix,h=>by
  refine .cons ?_ (Vals.pick r ix fun k hk=>h k (aS _ hk));have hi:=h i ae;obtain⟨u,h1,h2⟩:=r.get (i:=i) (x:=xs[i]) (by simp [hi]);show RelV (xs.getD i .A7) (us.getD i Value.none);rw [List.getD_eq_getElem?_getD,List.getD_eq_getElem?_getD,h1,List.getElem?_eq_getElem hi];exact h2
section
variable{X:Cx}
def kF(K:Fg):List V→Hp→VK→Prop:=fun xs H Q=>∃(p:Addr) (ys:List V) (t:Tr),xs=[.ref p]∧(A4 K H p ys∨A8 K H p ys)∧Ts H t ys∧ys.length<64∧t.deep≤60 ∧
 ∀(l:Addr) (zs:List V),H l=none→Ts H (Tr.of (Tr.Bb t.bs).reverse) zs→Q (.ref l) (upd H l (.lst zs))
def XT(K:Fg):List V→Hp→VK→Prop:=fun xs H Q=>∃(p:Addr) (ys:List V) (t:Tr),xs=[.ref p]∧(A4 K H p ys∨A8 K H p ys)∧Ts H t ys∧ys.length<64∧t.deep≤60 ∧
 ∀(l:Addr) (zs:List V),H l=none→Ts H (Tr.of (Tr.Bb t.bs)) zs→Q (.ref l) (upd H l (.lst zs))
theorem LW{pins:List (Addr×Obj)}{σ:St}{H:Hp}{s:Shared}{Q:VK}{t:Tr}{ts:List Tr}{ys:List V}{its:List Value}{h':Heap}{ix:List Nat}{e1:Nat}(I:Inv X pins σ H s)(ht:Ts H t ys)(rv:Vals ys its)(h64:ys.length<64)
 (a1:ix.length=its.length)(a2:∀i∈ix,i<its.length)(a3:(ix.map fun i=>t.bs.getD i .nil)=ts)(keep:∀c o,s.heap.get? c=some o→h'.get? c=some o)
 (hD:h'.get? (s.heap.objs.size+1)=some (seqObj "list" (ix.map fun i=>its.getD i Value.none).toArray e1))(q:∀(l:Addr) (zs:List V),H l=none→Ts H (Tr.of ts) zs→Q (.ref l) (upd H l (.lst zs))) :
  EP X pins σ Q (.ref (s.heap.objs.size+1)) { s with heap:=h' }:=by
 have hl:=rv.length;have a2':∀i∈ix,i<ys.length:=fun i hi=>by rw [hl];exact a2 i hi
 refine⟨.ref (s.heap.objs.size+1),upd H (s.heap.objs.size+1) (.lst (ix.map fun i=>ys.getD i .A7)),I.laid (t':=s.toks) keep (Nat.le_succ _) ⟨?_,_,e1,rv.pick ix a2',hD⟩,rfl,q _ _ (I.Ap.fresh (Nat.le_succ _)) ?_⟩
 ·rw [List.length_map,a1,←hl];exact bK (aH h64 (by rw [sizeLine_eq];decide))
 ·rw [←a3];exact ht.pick ix a2'
theorem X1(hu:X.A.units+64<cLine):D3 X (.builtin "sorted") (kF X.K):=by
 intro pins s σ H xs us Q I r h;obtain⟨p,ys,t,rfl,hq,ht,h64,hd,q⟩:=h;obtain⟨u,rfl,r1⟩:=r.one;cases r1;rcases hq with hq | hq
 ·obtain⟨its,rv,pl,hz⟩:=I.list hq;have hl:=rv.length;exact TH.UT pl.isList (ht.vs I rv) (by omega) (by omega) fun h' ix e1 a1 a2 a3 keep hD=>LW I ht rv h64 a1 a2 a3 keep hD q
 ·obtain⟨its,rv,pl,hz⟩:=I.tuple hq;have hl:=rv.length;exact TH.Wo (show s.heap.IsTuple p its.toArray from pl) (ht.vs I rv) (by omega) (by omega) fun h' ix e1 a1 a2 a3 keep hD=>LW I ht rv h64 a1 a2 a3 keep hD q
theorem SF{e:Expr}{t:TA}{p pos kp kp2:Pos}{j}(hu:X.A.units+64<cLine)(hg:Gl X "sorted")(hm:X.mg "sorted" = none)(ha:PA X [e] t)
 (he:backTo pos (starEach [e] X.env)=(false,eval e X.env)::backTo pos (starEach [] X.env):=by rfl)(hplain:(backTo pos (starEach [e] X.env)).any (·.1)=false:=by rfl) :
  PE X (.Call (.Name "sorted" p) [e] [⟨some "reverse",.Constant (.bool true) j kp2,kp⟩] pos) (fun σ H Q=>t σ H fun vs H1=>XT X.K vs H1 Q):=by
 intro pins s σ H Q I h;refine wpAny_Call_Name_kw (FL I hg hm boot_sorted ?_ (by decide) (by decide));refine callWith_kw (BB (ha pos pins s σ H _ I h) fun us s1 ⟨vs,H1,I1,r1,q1⟩=>kws_cons (Constant_bool (kws_nil ?_))) he hplain;obtain⟨p,ys,t,rfl,hq,ht,h64,hd,q⟩:=q1;obtain⟨u,rfl,r2⟩:=r1.one;cases r2;rcases hq with hq | hq
 ·obtain⟨its,rv,pl,hz⟩:=I1.list hq;have hl:=rv.length;exact TH.SO (b:=true) pl.isList (ht.vs I1 rv) (by omega) (by omega) fun h' ix e1 a1 a2 a3 keep hD=>LW I1 ht rv h64 a1 a2 a3 keep hD q
 ·obtain⟨its,rv,pl,hz⟩:=I1.tuple hq;have hl:=rv.length;exact TH.Uj (b:=true) (show s1.heap.IsTuple p its.toArray from pl) (ht.vs I1 rv) (by omega) (by omega) fun h' ix e1 a1 a2 a3 keep hD=>LW I1 ht rv h64 a1 a2 a3 keep hD q
theorem jL{e k:Expr}{te tk:TE}{pos p2:Pos}(he:PE X e te)(hk:PE X k tk):PE X (.Subscript e (.Slice none none (some k) p2) pos)
  (fun σ H Q=>te σ H fun x H1=>tk σ H1 fun z H2=>∃(a:Addr) (xs:List V),x=.ref a∧z=.int (-1)∧A4 X.K H2 a xs∧∀p,H2 p=none→Q (.ref p) (upd H2 p (.lst xs.reverse))):=by
 intro pins s σ H Q I h;refine Subscript_ (BB (he pins s σ H _ I h) fun v s1 ⟨x,H1,I1,r1,q1⟩=>?_);refine wpAny_Slice ?_;rw [evalPart_none];refine aA ?_;refine aA ?_;rw [evalPart_some];refine BB (hk pins s1 σ H1 _ I1 q1) fun vk s3 ⟨z,H3,I3,r3,q3⟩=>?_;obtain⟨a,xs,rfl,rfl,hq,q⟩:=q3;cases r1;obtain⟨tk',rfl⟩:=r3;have I4:Inv X pins σ H3 { s3 with heap:=s3.heap.push { cls:=.type "slice",data:=.fields #[.none,.none,.int (-1) tk'] } }:=I3.kept (t':=s3.toks) fun b ob q=>aD _ q;obtain⟨its,rv,pl,hz⟩:=I4.list hq;have hlen:=rv.length;show wpAny (model X.prog X.w) X.A (subscriptTail e (.Slice none none (some k) p2) (.ref a) (.ref s3.heap.objs.size)) (EP X pins σ Q) X.xe { s3 with heap:=s3.heap.push { cls:=.type "slice",data:=.fields #[.none,.none,.int (-1) tk'] } };refine tail_any (ops:=[.ref a,.ref s3.heap.objs.size]) (T := "list") pl.isList.typeIs slot_list_getitem.lookup ?_ (by with_unfolding_all rfl);refine wpAny_getItem_list_slice pl.isList (Heap.IsSliceOf.new ..) .none .none (.int (-1) tk') (by decide) ?_ (by rw [List.size_toArray]<;>omega);rw [PySem.W.krv_pick];refine⟨.ref _,_,I4.laid (t':=s3.toks) (o:=.lst xs.reverse) (fun b ob q=>aD _ q) (aJ _) ?_,rfl,q _ (I4.Ap.fresh (aJ _))⟩;exact⟨by rw [List.length_reverse];exact hz,its.reverse,0,rv.reverse,Heap.get?_push_size _ rfl⟩
end
def CW(Pv:Nat→List V→Hp→Prop)(n:Nat)(D:Addr):Nat→Nat→List V→Hp→Prop:=fun i m ys H=>m=n-i∧i≤n∧H D=some (.lst ys)∧Pv i ys H
theorem M7{Pv:Nat→List V→Hp→Prop}{n i:Nat}{D:Addr}{ys:List V}{y:V}{H:Hp}(hi:i<n)(p:Pv (i+1) (ys++[y]) (upd H D (.lst (ys++[y])))):∃m',m'<n-i∧CW Pv n D (i+1) m' (ys++[y]) (upd H D (.lst (ys++[y]))) :=
 ⟨n-(i+1),by omega,rfl,hi,AX,p⟩
theorem VR{Pv:Nat→List V→Hp→Prop}{n i:Nat}{D:Addr}{ys:List V}{H:Hp}(hi:i<n)(hD:H D=some (.lst ys))(p:Pv (i+1) ys H):∃m',m'<n-i∧CW Pv n D (i+1) m' ys H:=⟨n-(i+1),by omega,rfl,hi,hD,p⟩
theorem P9{J:It}{n:Nat}{D:Addr}{H1:Hp}{fr:List (Option Nat)}{σ:St}{ix:Nat}{tif:TT}{te:TE}{G:Hp→Prop}(Pv:Nat→List V→Hp→Prop)(h0:Pv 0 [] (upd H1 D (.lst [])))
 (hgo:∀i ys H,i<n→Pv i ys H→H D=some (.lst ys)→J.go i H∧ys.length<sizeLine∧∀x H',J.FI i H x H' →
   tif ((carry fr σ).set ix (some x)) H' fun b H2=>if b=true then te ((carry fr σ).set ix (some x)) H2 fun y H3=>H3 D=some (.lst ys)∧∃m',m'<n-i∧CW Pv n D (i+1) m' (ys++[y]) (upd H3 D (.lst (ys++[y])))
    else ∃m',m'<n-i∧CW Pv n D (i+1) m' ys H2)
 (hstop:∀ys H,Pv n ys H→H D=some (.lst ys)→J.stop n H∧G H) :
  ∃W:Nat→Nat→List V→Hp→Prop,(∃m,W 0 m [] (upd H1 D (.lst []))) ∧
   ∀i m ys H,W i m ys H→H D=some (.lst ys)∧((J.stop i H∧G H)∨(J.go i H∧ys.length<sizeLine∧∀x H',J.FI i H x H' →
    tif ((carry fr σ).set ix (some x)) H' fun b H2=>if b=true then te ((carry fr σ).set ix (some x)) H2 fun y H3=>H3 D=some (.lst ys)∧∃m',m'<m∧W (i+1) m' (ys++[y]) (upd H3 D (.lst (ys++[y])))
     else ∃m',m'<m∧W (i+1) m' ys H2)):=by
 refine⟨CW Pv n D,⟨n,by simp,Nat.zero_le _,AX,h0⟩,?_⟩;rintro i m ys H ⟨rfl,hi,hH,p⟩;refine⟨hH,?_⟩;by_cases hlt:i<n
 ·exact .inr (hgo i ys H hlt p hH)
 ·have e:i=n:=by omega
  subst e;exact .inl (hstop ys H p hH)
section
variable{X:Cx}
theorem SN(hc:X.calm=true):D3 X (.builtin "sum") (fun xs H Q=>∃(p:Addr) (ns:List Int),xs=[.ref p]∧A4 X.K H p (ns.map V.int)∧Q (.int ns.sum) H):=by
 intro pins s σ H xs us Q I r h;obtain⟨p,ns,rfl,hq,q⟩:=h;obtain⟨u,rfl,r1⟩:=r.one;cases r1;obtain⟨its,rv,pl,hz⟩:=I.list hq;have hi:=intsAre_of rv;obtain⟨xs,hx⟩:=hi.allInts.items;have hl':s.heap.IsList p (intItems xs):=hx ▸ pl.isList
 refine sum_intListG (I.ok.hd hc) hl' fun h' tk t' hk=>?_;have e1:ns=xs.toList.map (·.1):=by
  rw [←nums_intItems,←hx];exact(show numsOf its.toArray.toList=ns from hi.numsOf).symm
 have e2:preSum (numAt xs) xs.size=ns.sum:=by
  rw [preSum_eq,List.take_of_length_le (by simp),e1]
 rw [e2];exact⟨.int _,H,I.kept (t':=tk) hk,⟨t',rfl⟩,q⟩
end
section
variable{X:Cx}{scope:Scope}{cl:List (Str×Addr)}{N:List Str}{C:Addr}{s₀:Shared}{H₀:Hp}{fp:List Addr}
theorem Pw:NT (Ai X scope cl N C s₀ H₀ fp) (Z3 X.K):=EL
end
mutual
def Dt(l:Addr)(H:Hp):PyData→V→Prop
 |.none,v=>v=.A7
 |.bool b,v=>v=.bl b
 |.int i,v=>v=.int i
 |.str x,v=>v=.str x
 |.tuple ds,v=>∃(a:Addr) (xs:List V),v=.ref a∧a≠l∧H a=some (.tup xs)∧B8 l H ds xs
 |.list ds,v=>∃(a:Addr) (xs:List V),v=.ref a∧a≠l∧H a=some (.lst xs)∧B8 l H ds xs
 |.dict _,_=>False
def B8(l:Addr)(H:Hp):List PyData→List V→Prop
 |[],xs=>xs=[]
 |d::ds,xs=>∃x r,xs=x::r∧Dt l H d x∧B8 l H ds r
end
theorem B8.len{l:Addr}{H:Hp}:∀ {ds:List PyData} {xs:List V},B8 l H ds xs→xs.length=ds.length
 |[],_,h=>by rw [B8]at h;rw [h];rfl
 |_::_,_,h=>by
  rw [B8]at h;obtain⟨x,r,rfl,_,h2⟩:=h;rw [List.length_cons,List.length_cons,B8.len h2]
theorem B8.get{l:Addr}{H:Hp}:∀ {ds:List PyData} {xs:List V} {i:Nat} {v:V},B8 l H ds xs→xs[i]? = some v→∃d,ds[i]? = some d∧Dt l H d v
 |[],_,i,v,h,e=>by rw [B8]at h;subst h;simp at e
 |d::ds,_,i,v,h,e=>by
  rw [B8]at h;obtain⟨x,r,rfl,h1,h2⟩:=h;cases i with
  |zero=>simp at e;subst e;exact⟨d,rfl,h1⟩
  |succ i =>
   obtain⟨c,q1,q2⟩:=h2.get (i:=i) (v:=v) (by simpa using e);exact⟨c,by simpa using q1,q2⟩
theorem B8.nil{l:Addr}{H:Hp}:B8 l H [] []:=by rw [B8]
theorem B8.cons{l:Addr}{H:Hp}{d:PyData}{ds:List PyData}{x:V}{xs:List V}(h:Dt l H d x)(k:B8 l H ds xs):B8 l H (d::ds) (x::xs):=by
 rw [B8];exact⟨x,xs,rfl,h,k⟩
theorem Dt.int{l:Addr}{H:Hp}{i:Int}:Dt l H (.int i) (.int i):=by rw [Dt]
theorem Dt.bool{l:Addr}{H:Hp}{b:Bool}:Dt l H (.bool b) (.bl b):=by rw [Dt]
theorem Dt.A7{l:Addr}{H:Hp}:Dt l H .none .A7:=by rw [Dt]
theorem Dt.str{l:Addr}{H:Hp}{x:Str}:Dt l H (.str x) (.str x):=by rw [Dt]
theorem Dt.tup{l a:Addr}{H:Hp}{ds:List PyData}{xs:List V}(n:a≠l)(h:H a=some (.tup xs))(k:B8 l H ds xs):Dt l H (.tuple ds) (.ref a):=by rw [Dt];exact⟨a,xs,rfl,n,h,k⟩
theorem Dt.lst{l a:Addr}{H:Hp}{ds:List PyData}{xs:List V}(n:a≠l)(h:H a=some (.lst xs))(k:B8 l H ds xs):Dt l H (.list ds) (.ref a):=by rw [Dt];exact⟨a,xs,rfl,n,h,k⟩
def Ok(n:Nat)(d:PyData):Prop:=d.canLay0=true∧d.depth≤n
def WB(n:Nat)(ds:List PyData):Prop:=PyData.canLayAll0 ds=true∧PyData.depthAll ds≤n
theorem Ok.shaped{n:Nat}{d:PyData}(h:Ok n d)(hn:n≤64):SeqAt.shaped d=true:=by
 unfold SeqAt.shaped;rw [h.1,Bool.true_and];exact bT (aa h.2 hn)
theorem Ok.tup{n:Nat}{ds:List PyData}(h:WB n ds):Ok (n+1) (.tuple ds):=⟨by simp only [PyData.canLay0];exact h.1,by simp only [PyData.depth];exact Nat.succ_le_succ h.2⟩
theorem Ok.lst{n:Nat}{ds:List PyData}(h:WB n ds):Ok (n+1) (.list ds):=⟨by simp only [PyData.canLay0];exact h.1,by simp only [PyData.depth];exact Nat.succ_le_succ h.2⟩
theorem Ok.int{n:Nat}{i:Int}:Ok n (.int i):=⟨by simp [PyData.canLay0],by simp [PyData.depth]⟩
mutual
theorem Nu:∀d:PyData,d.canLay0=true→PyData.eqv d d=true
 |.none,_=>by simp [PyData.eqv]
 |.bool _,_=>by simp [PyData.eqv]
 |.int _,_=>by simp [PyData.eqv]
 |.str _,_=>by simp [PyData.eqv]
 |.tuple ds,h=>by simp only [PyData.eqv];exact J5 ds (by simpa only [PyData.canLay0]using h)
 |.list ds,h=>by simp only [PyData.eqv];exact J5 ds (by simpa only [PyData.canLay0]using h)
 |.dict _,h=>by simp [PyData.canLay0]at h
theorem J5:∀ds:List PyData,PyData.canLayAll0 ds=true→PyData.eqvAll ds ds=true
 |[],_=>by simp [PyData.eqvAll]
 |d::ds,h=>by
  simp only [PyData.canLayAll0,Bool.and_eq_true]at h;simp only [PyData.eqvAll,Nu d h.1,J5 ds h.2,Bool.and_self]
end
def Np:PyData→String
 |.none => "NoneType"
 |.bool _ => "bool"
 |.int _ => "int"
 |.str _ => "str"
 |.tuple _ => "tuple"
 |.list _ => "list"
 |.dict _ => "dict"
theorem Dt.ty{K:Fg}{l:Addr}{H:Hp}:∀ {d:PyData} {v:V},Dt l H d v→Fy K H v (.type (Np d))
 |.none,_,h=>by rw [Dt]at h;subst h;exact .A7
 |.bool _,_,h=>by rw [Dt]at h;subst h;exact .bl _
 |.int _,_,h=>by rw [Dt]at h;subst h;exact .int _
 |.str _,_,h=>by rw [Dt]at h;subst h;exact .str _
 |.tuple _,_,h=>by rw [Dt]at h;obtain⟨a,xs,rfl,_,h1,_⟩:=h;exact .tup h1
 |.list _,_,h=>by rw [Dt]at h;obtain⟨a,xs,rfl,_,h1,_⟩:=h;exact .lst h1
 |.dict _,_,h=>by rw [Dt]at h;exact h.elim
def Kf:PyData→Bool
 |.tuple _=>true
 |_=>false
def Hw:PyData→Bool
 |.list _=>true
 |_=>false
def Ho:PyData→Bool
 |.int _=>true
 |.bool _=>true
 |_=>false
def GP:PyData→Bool
 |.bool _=>true
 |_=>false
theorem T7(K:Fg):∀d:PyData,(∀kv,d≠.dict kv)→PySem.W.kitOne K (.type (Np d)) (.type "tuple")=some (Kf d)
 |.none,_=>fK K
 |.bool _,_=>ig K
 |.int _,_=>gb K
 |.str _,_=>fS K
 |.tuple _,_=>XW K
 |.list _,_=>iX K
 |.dict kv,h=>absurd rfl (h kv)
theorem S5(K:Fg):∀d:PyData,(∀kv,d≠.dict kv)→PySem.W.kitOne K (.type (Np d)) (.type "list")=some (Hw d)
 |.none,_=>gH K
 |.bool _,_=>gc K
 |.int _,_=>gK K
 |.str _,_=>jE K
 |.tuple _,_=>jK K
 |.list _,_=>ir K
 |.dict kv,h=>absurd rfl (h kv)
theorem jC(K:Fg):PySem.W.kitOne K (.type "NoneType") (.type "bool")=some false:=by kernel_rfl
theorem ff(K:Fg):PySem.W.kitOne K (.type "str") (.type "bool")=some false:=by kernel_rfl
theorem fm(K:Fg):PySem.W.kitOne K (.type "tuple") (.type "bool")=some false:=by kernel_rfl
theorem fT(K:Fg):PySem.W.kitOne K (.type "list") (.type "bool")=some false:=by kernel_rfl
theorem So(K:Fg):∀d:PyData,(∀kv,d≠.dict kv)→PySem.W.kitOne K (.type (Np d)) (.type "int")=some (Ho d)
 |.none,_=>ik K
 |.bool _,_=>gZ K
 |.int _,_=>ft K
 |.str _,_=>gw K
 |.tuple _,_=>i5 K
 |.list _,_=>iJ K
 |.dict kv,h=>absurd rfl (h kv)
theorem RD(K:Fg):∀d:PyData,(∀kv,d≠.dict kv)→PySem.W.kitOne K (.type (Np d)) (.type "bool")=some (GP d)
 |.none,_=>jC K
 |.bool _,_=>fU K
 |.int _,_=>iT K
 |.str _,_=>ff K
 |.tuple _,_=>fm K
 |.list _,_=>fT K
 |.dict kv,h=>absurd rfl (h kv)
theorem Dt.nodict{l:Addr}{H:Hp}{d:PyData}{v:V}(h:Dt l H d v):∀kv,d≠.dict kv:=fun kv z=>by subst z;rw [Dt]at h;exact h
end L2
namespace Tr
theorem YC{b r:Tr}:(cons b r).DY=true ↔ b.DY=true∧r.DY=true∧∀c,r.bs[0]? = some c→lt b c=false:=by
 cases r with
 |nil=>simp [bs,DY]
 |cons c q =>
  rw [show(cons b (cons c q)).DY=(b.DY&&(cons c q).DY && !lt b c) from rfl];simp only [Bool.and_eq_true,Bool.not_eq_true',bs,List.getElem?_cons_zero,Option.some.injEq,forall_eq',and_assoc]
theorem Nt:∀t:Tr,t.DY=true ↔ (∀c∈t.bs,c.DY=true)∧∀(i:Nat) (a b:Tr),t.bs[i]? = some a→t.bs[i+1]? = some b→lt a b=false
 |.nil=>by simp [DY,bs]
 |.cons b r=>by
  rw [YC,Nt r,bs,List.forall_mem_cons];constructor
  ·rintro⟨h1,⟨h2,h3⟩,h4⟩;refine⟨⟨h1,h2⟩,fun i x y ex ey=>?_⟩;cases i with
   |zero=>simp at ex;subst ex;exact h4 y (by simpa using ey)
   |succ i=>exact h3 i x y (by simpa using ex) (by simpa using ey)
  ·rintro⟨⟨h1,h2⟩,h3⟩;exact⟨h1,⟨h2,fun i x y ex ey=>h3 (i+1) x y (by simpa using ex) (by simpa using ey)⟩,fun c hc=>h3 0 b c rfl (by simpa using hc)⟩
theorem N0{t c:Tr}(h:c∈t.bs):c.deep<t.deep:=by
 induction t with
 |nil=>cases h
 |cons b r _ ih =>
  rw [bs]at h;have hd:(cons b r).deep=max (b.deep+1) r.deep:=rfl;rcases aM.mp h with rfl | h
  ·omega
  ·have:=ih h;omega
theorem L0:∀t:Tr,0<t.AU
 |.nil=>Nat.one_pos
 |.cons b r=>by rw [AU];have:=L0 b;omega
end Tr
namespace L2
open PySem PySem.Spec PyProof.Rows
mutual
def EM:PyData→Option Tr
 |.tuple ds=>Ep ds
 |_=>none
def Ep:List PyData→Option Tr
 |[]=>some .nil
 |d::ds=>(EM d).bind fun b=>(Ep ds).map fun r=>.cons b r
end
section
variable{X:Cx}
def jd:R2:=fun x y H Q=>∃a b xs ys,x=.ref a∧y=.ref b∧H a=some (.tup xs)∧H b=some (.tup ys)∧xs.length+ys.length≤sizeLine∧∀p H',AO H H'→H' p=some (.tup (xs++ys))→Q (.ref p) H'
theorem dI:CY X (binaryOp .Add) jd:=by
 intro pins s σ H x y v u Q I rx ry h;obtain⟨a,b,xs,ys,rfl,rfl,ha,hb,hz,q⟩:=h;cases rx;cases ry;obtain⟨its,r1,p1,_⟩:=I.tuple (A8.of (K:=X.K) ha);obtain⟨its2,r2,p2,_⟩:=I.tuple (A8.of (K:=X.K) hb);by_cases hv:its=[]
 ·have hx:=r1.Ut.mp hv;subst hv hx;obtain⟨⟨cls,dd,data,sl⟩,ho,hc,n,hd⟩:=id p1;obtain⟨⟨cls2,dd2,data2,sl2⟩,ho2,hc2,n2,hd2⟩:=id p2;simp only at hc hd hc2 hd2;subst hc hd hc2 hd2;exact concat_meets ⟨_,ho,rfl⟩ ⟨_,ho2,rfl⟩ noFill_tuple_add seq_tuple_add PySem.F.slot_tuple_add PySem.F.entry_tuple_add (PySem.F.args_tuple_add_2 _ _)
   (tuple_addW0 a b _ _ n n2 dd dd2 sl sl2 (by simp)) ⟨ho,ho2,⟨.ref b,H,I,rfl,q b H (.refl H) (by simpa using hb)⟩⟩
 ·refine HT.eR p1 p2 hv (fun z=>?_) (fun z=>?_) (by rw [←r1.length,←r2.length];exact hz)
  ·have hy:=r2.Ut.mp z;subst hy;exact⟨.ref a,H,I,rfl,q a H (.refl H) (by simpa using ha)⟩
  ·refine⟨.ref s.heap.objs.size,_,I.laid (t':=s.toks) (o:=.tup (xs++ys)) (fun b ob q=>aD _ q) (aJ _) ?_,rfl,q _ _ (Bh (I.Ap.fresh (aJ _)) _) AX⟩;exact⟨by rw [List.length_append];exact hz,_,r1.append r2,IsTup.new _ _⟩
end
section
variable{P:Program}{w:World}{K:Fg}{mg:Str→Option Value}{base:Heap}{NN:List Str}{qual:Str}{fsc:Scope}{f:Addr}{cd:Value}{A:Around}{outer:List Env}{s:Shared}{H:Hp}{E:XK}
 {elt iter:Expr}{x:Str}{px pos:Pos}{ifs:List Expr}{scope:Scope}{wi:TI}{fr:List (Option Nat)}{ix:Nat}{tif:TT}{te:TE}{N:List Str}{pins pins0:List (Addr×Obj)}{σ σ0:St}
end
end L2
namespace Tim
open PySem PyProof.Rows
section pure
variable(N:Nat)(lt:Nat→Nat→Bool)
end pure
section
variable{prog:Program}{w:World}{A:Around}{E:Value→Shared→Prop}{s:Shared}{N:Nat}{lt:Nat→Nat→Bool}{κ:SortKind}{it:Nat→Keyed}
variable{p:Array Nat}{pend:Array (Nat×Nat×Nat)}{g:Nat}
section pure
variable(N:Nat)(lt:Nat→Nat→Bool)(a b:Array Nat)
end pure
section pure
variable(N:Nat)(lt:Nat→Nat→Bool)
end pure
end
end Tim
namespace GS
open PySem PySem.W PyProof.Rows PySem.SeqAt
abbrev Ext(h0 h:Heap):Prop:=∀c o,h0.get? c=some o→h.get? c=some o
def Qf(O:KeyOrd)(prog:Program)(w:World)(κ:SortKind)(A:Around)(s:Shared)(ks:List O.α)(us:List Value):Prop :=
 ∀(E:Value→Shared→Prop) (i j:Nat) (x y:O.α) (u v:Value) (Q:Bool→Shared→Prop),us[i]? = some u→us[j]? = some v→ks[i]? = some x→ks[j]? = some y→Q (O.blt x y) s→wpAny (model prog w) A (keyLt' κ u v) Q E s
structure YI(O:KeyOrd)(prog:Program)(w:World)(h0:Heap)(r:Nat)(ks:List O.α)(us:List Value):Prop where
 len:us.length=ks.length
 go:∃ok:SortKind→Prop,(∀(A:Around) (E:Value→Shared→Prop) (s:Shared) (Q:SortKind→Shared→Prop),Ext h0 s.heap→(∀κ,ok κ→Q κ s)→wpAny (model prog w) A (keyKind' us.toArray) Q E s) ∧
  ∀(A:Around) (s:Shared) (κ:SortKind),Ext h0 s.heap→A.units+r<cLine→ok κ→Qf O prog w κ A s ks us
def Runs(O:KeyOrd)(prog:Program)(w:World)(ks:List O.α):Prop :=
 ∀(d:O.α) (A:Around) (E:Value→Shared→Prop) (s:Shared) (κ:SortKind) (ws:List Value),ws.length=ks.length→2≤ws.length→Qf O prog w κ A s ks ws →
  wpAny (model prog w) A ((sortRuns').run (SortSt.mk' κ (ws.toArray.zip ws.toArray) #[] 7 none)) (fun r s'=>s'=s∧failedOf r.2=none∧∃ix:List Nat,ix.Perm (List.range ws.length) ∧
   (arrOf r.2).map (·.2)=(ix.map fun i=>ws.getD i Value.none).toArray∧(ix.map fun i=>ks.getD i d).Pairwise O.kle) E s
theorem Wd{O:KeyOrd}{prog:Program}{w:World}{ks:List O.α}(h64:ks.length<64):Runs O prog w ks:=by
 intro d A E s κ ws hl h2 ask;have h64:ws.length<64:=by omega
 refine kat_run (Q:=fun st' s'=>s'=s∧failedOf st'=none∧∃ix:List Nat,ix.Perm (List.range ws.length)∧(arrOf st').map (·.2)=(ix.map fun i=>ws.getD i Value.none).toArray∧(ix.map fun i=>ks.getD i d).Pairwise O.kle)
  (G:=fun p s'=>s'=s∧SM.Pm ws.length p∧SM.Up (O:=O) (fun i=>ks.getD i d) p ws.length) rfl h2 h64 (fun p st' s' hp har hf hG=>?_)
  (TH.OB (lt:=SM.F4 (O:=O) fun i=>ks.getD i d) (n:=ws.length) (fun i j C hi hj hC=>?_) _ (SM.sort (by omega)))
 ·obtain⟨rfl,hpm,hup⟩:=hG;have h1:p.toList.Perm (List.range ws.length):=by simpa using Array.perm_iff_toList_perm.mp hpm.perm
  refine⟨rfl,hf,p.toList,h1,kat_snds rfl har,?_⟩;refine List.pairwise_iff_getElem.mpr fun i j hi hj hij=>?_;rw [List.length_map,Array.length_toList,hp]at hi hj;have:=hup i j (by omega) hj;have e1:∀k,k<ws.length→∀hk,(p.toList.map fun i=>ks.getD i d)[k]'hk=ks.getD (p.getD k 0) d:=fun k hk hk'=>by
   rw [List.getElem_map,Array.getElem_toList,Array.getD,dif_pos (by omega)]
   rfl
  rw [e1 i hi,e1 j hj];exact this
 ·have gi:∀k,k<ws.length→∃u x,ws[k]? = some u∧ks[k]? = some x∧ws.getD k Value.none=u∧ks.getD k d=x:=fun k hk=>by
   refine⟨ws[k],ks[k]'(by omega),List.getElem?_eq_getElem hk,List.getElem?_eq_getElem (by omega),?_,?_⟩
   ·rw [List.getD_eq_getElem?_getD,List.getElem?_eq_getElem hk];rfl
   ·rw [List.getD_eq_getElem?_getD,List.getElem?_eq_getElem (by omega)];rfl
  obtain⟨u,x,q1,q2,q3,q4⟩:=gi i hi;obtain⟨v,y,r1,r2,r3,r4⟩:=gi j hj;unfold kas_ask;rw [q3,r3];refine ask _ i j x y u v C q1 r1 q2 r2 ?_;have hC:C (O.blt (ks.getD i d) (ks.getD j d)) s:=hC;rw [q4,r4]at hC;exact hC
section
variable{O:KeyOrd}{prog:Program}{w:World}{A:Around}{E:Value→Shared→Prop}{s:Shared}{h0:Heap}{r:Nat}{ks:List O.α}{us:List Value}
theorem Qf.rev{κ:SortKind}(hl:us.length=ks.length)(a:Qf O prog w κ A s ks us):Qf O prog w κ A s ks.reverse us.reverse:=fun E i j x y u v Q h1 h2 h3 h4 q=>by
 have b1:=(aE.mp h1).1;have b2:=(aE.mp h2).1;rw [List.length_reverse]at b1 b2;rw [List.getElem?_reverse (by omega)]at h1 h2 h3 h4;rw [←hl]at h3 h4;exact a E _ _ x y u v Q h1 h2 h3 h4 q
theorem Zc{α:Type}{R:α→α→Prop}:∀ {l:List α},l.length<2→l.Pairwise R
 |[],_=>.nil
 |[_],_=>List.pairwise_singleton ..
 |_::_::_,h=>by simp at h;omega
theorem Yl(d : O.α){a : Addr}{n : Nat}{b : Bool}{P : PySem.Fin→Shared→Prop}(C : YI O prog w h0 r ks us)(hx : Ext h0 s.heap)(ha0 : h0.objs.size≤a)(ho : s.heap.get? a = some (seqObj "list" us.toArray n))(hsz : us.length≤1000)(hr : Runs O prog w (if b then ks.reverse else ks))(hu : A.units + r < cLine)
 (h : ∀ ix : List Nat,ix.Perm (List.range us.length)→(ix.map fun i => ks.getD i d).Pairwise (fun x y => if b = true then O.kle y x else O.kle x y)→P (.done (.ret .none)) { s with heap:=sortedHeap s.heap a us (ix.map fun i => us.getD i Value.none).toArray }) :
    wpAny (model prog w) A (Builtin.«list.sort» ⟨[.ref a],[(Str.ofString "reverse",.bool b)]⟩) P E s := by
  rw [list_sort_rev]
  have ha : a < s.heap.objs.size:=aF ho
  refine Wb (listItems_at ho rfl ?_)
  refine Wb (listUpdate_at ho rfl ?_ (by rw [List.size_toArray,sizeLine_eq]; omega) (ar _))
  obtain ⟨e1,ho1⟩ : ∃ e1,(s.heap.update a (Obj.mapSeq fun _ => #[])).get? a = some (seqObj "list" #[] e1):=⟨_,get?_update_seq ho (fun _ => #[])⟩
  refine Wb (seqEpoch_at ho1 rfl ?_)
  refine Wb (wpAny_newTuple ?_ (by show us.length≤_; rw [sizeLine_eq]; omega))
  refine Wb (bY ?_ (ar _))
  refine aQ ?_
  have ho6 : (((s.heap.update a (Obj.mapSeq fun _ => #[])).push (seqObj "tuple" us.toArray 0)).push (seqObj "list" #[] 0)).get? a = some (seqObj "list" #[] e1) := by
    rw [Heap.get?_push_ne _ _ _ (by rw [size_push',Heap.size_update]; exact aG (aq ha)),Heap.get?_push_ne _ _ _ (by rw [Heap.size_update]; exact aG ha)]
    exact ho1
  have keep : Ext h0 (((s.heap.update a (Obj.mapSeq fun _ => #[])).push (seqObj "tuple" us.toArray 0)).push (seqObj "list" #[] 0)):=fun c o hc => by
    have hlt : c < h0.objs.size:=aF hc
    have hne : c≠a:=fun z => Nat.not_lt.mpr ha0 (z ▸ hlt)
    refine aD _ (aD _ ?_)
    rw [Heap.get?_update_ne _ _ _ _ hne]
    exact hx c o hc
  show wpAny (model prog w) A _ P E { s with heap:=((s.heap.update a (Obj.mapSeq fun _ => #[])).push (seqObj "tuple" us.toArray 0)).push (seqObj "list" #[] 0) }
  dsimp only
  have step : ∀ T : Sem PySem.Fin,wpAny (model prog w) A T P E { s with heap:=((s.heap.update a (Obj.mapSeq fun _ => #[])).push (seqObj "tuple" us.toArray 0)).push (seqObj "list" #[] 0) } →
      wpAny (model prog w) A (if b = true then (do let _ ← rule "list.sort.reverse"; T) else T) P E { s with heap:=((s.heap.update a (Obj.mapSeq fun _ => #[])).push (seqObj "tuple" us.toArray 0)).push (seqObj "list" #[] 0) } := by
    intro T hT
    split
    · exact Wb (bJ hT)
    · exact hT
  refine step _ ?_
  obtain ⟨ok,hkind,hask⟩:=C.go
  have hl:=C.len
  by_cases h2 : us.toArray.size < 2
  · rw [if_pos h2,if_pos h2]
    refine Wb (aA ?_)
    rw [StateT.run_pure]
    refine Wb (aA ?_)
    dsimp only
    have hz : us.length < 2 := by simpa using h2
    have hout:=TH.Qx b us hz
    refine Wb (seqEpoch_at ho6 rfl ?_)
    refine Wb (listUpdate_at ho6 rfl ?_ (ar _) (by
      refine aa (Nat.le_of_eq (bC Array.size hout)) ?_
      rw [List.size_toArray,sizeLine_eq]; omega))
    simp only [bne_self_eq_false,Bool.false_eq_true,if_false]
    have fin:=h (List.range us.length) (.refl _) (Zc (by simpa using hz))
    rw [TH.map_getD] at fin
    rw [← hout] at fin
    exact aA fin
  · rw [if_neg h2,if_neg h2]
    have hz : 2≤us.length := by simpa using h2
    refine Wb (hkind A E { s with heap:=((s.heap.update a (Obj.mapSeq fun _ => #[])).push (seqObj "tuple" us.toArray 0)).push (seqObj "list" #[] 0) } _ keep fun κ hκ => ?_)
    have ask:=hask A { s with heap:=((s.heap.update a (Obj.mapSeq fun _ => #[])).push (seqObj "tuple" us.toArray 0)).push (seqObj "list" #[] 0) } κ keep hu hκ
    obtain ⟨ws,kw,aw,hwl,hwk,hws,hrw,pick⟩ : ∃ (ws : List Value) (kw : List O.α),Qf O prog w κ A { s with heap:=((s.heap.update a (Obj.mapSeq fun _ => #[])).push (seqObj "tuple" us.toArray 0)).push (seqObj "list" #[] 0) } kw ws∧ws.length = us.length∧ws.length = kw.length ∧
        (if b = true then (us.toArray.zip us.toArray).reverse else us.toArray.zip us.toArray) = ws.toArray.zip ws.toArray∧Runs O prog w kw ∧
        ∀ ix : List Nat,ix.Perm (List.range ws.length)→(ix.map fun i => kw.getD i d).Pairwise O.kle→∃ iy : List Nat,iy.Perm (List.range us.length)∧(iy.map fun i => ks.getD i d).Pairwise (fun x y => if b = true then O.kle y x else O.kle x y) ∧
          (if b = true then ((ix.map fun i => ws.getD i Value.none).toArray).reverse else (ix.map fun i => ws.getD i Value.none).toArray) = (iy.map fun i => us.getD i Value.none).toArray := by
      cases b with
      | false => exact ⟨us,ks,ask,rfl,hl,rfl,hr,fun ix h1 h2 => ⟨ix,h1,by simpa using h2,rfl⟩⟩
      | true =>
        refine ⟨us.reverse,ks.reverse,ask.rev hl,by simp,by simp [hl],kat_pairs (ks:=us) (vs:=us) true rfl,hr,fun ix h1 h2 => ⟨(ix.map fun i => us.length - 1 - i).reverse,?_,?_,?_⟩⟩
        · rw [List.length_reverse] at h1
          refine (List.reverse_perm _).trans ((h1.map fun i => us.length - 1 - i).trans ?_)
          have : (List.range us.length).map (fun i => us.length - 1 - i) = (List.range us.length).reverse := by
            refine List.ext_getElem (by simp) fun i a1 a2 => ?_
            simp
          rw [this]
          exact List.reverse_perm _
        · have hb : ∀ i∈ix,i < us.length:=fun i hi => by simpa using h1.mem_iff.mp hi
          have e : ((ix.map fun i => us.length - 1 - i).reverse.map fun i => ks.getD i d) = (ix.map fun i => ks.reverse.getD i d).reverse := by
            rw [List.map_reverse,List.map_map]
            congr 1
            exact aX fun i hi => by
              have:=hb i hi
              show ks.getD (us.length - 1 - i) d = _
              rw [List.getD_eq_getElem?_getD,List.getD_eq_getElem?_getD,List.getElem?_reverse (by omega),hl]
          rw [e,List.pairwise_reverse]
          simpa using h2
        · have hb : ∀ i∈ix,i < us.length:=fun i hi => by simpa using h1.mem_iff.mp hi
          rw [if_pos rfl,List.map_reverse,List.map_map,List.reverse_toArray]
          congr 2
          exact aX fun i hi => by
            have:=hb i hi
            show us.reverse.getD i Value.none = us.getD (us.length - 1 - i) Value.none
            rw [List.getD_eq_getElem?_getD,List.getD_eq_getElem?_getD,List.getElem?_reverse (by omega)]
    rw [hws]
    refine Wb (ai (hrw d A E { s with heap:=((s.heap.update a (Obj.mapSeq fun _ => #[])).push (seqObj "tuple" us.toArray 0)).push (seqObj "list" #[] 0) } κ ws hwk (by omega) aw) ?_ fun _ _ z => z)
    rintro ⟨⟨⟩,st'⟩ s' ⟨rfl,hf,ix,hix,hout,hst⟩
    dsimp only
    refine Wb (seqEpoch_at ho6 rfl ?_)
    obtain ⟨iy,y1,y2,hfin⟩ : ∃ iy : List Nat,iy.Perm (List.range us.length)∧(iy.map fun i => ks.getD i d).Pairwise (fun x y => if b = true then O.kle y x else O.kle x y) ∧
        (if b = true then ((arrOf st').map (·.2)).reverse else (arrOf st').map (·.2)) = (iy.map fun i => us.getD i Value.none).toArray := by
      rw [show (arrOf st').map (·.2) = _ from hout]
      exact pick ix hix hst
    refine Wb (listUpdate_at ho6 rfl ?_ (ar _) (by
      refine aa (Nat.le_of_eq (bC Array.size hfin)) ?_
      have:=y1.length_eq
      rw [List.length_range] at this
      rw [List.size_toArray,List.length_map,this,sizeLine_eq]; omega))
    rw [show failedOf st' = none from hf]
    simp only [bne_self_eq_false,Bool.false_eq_true,if_false]
    have fin:=h iy y1 y2
    rw [← hfin] at fin
    exact aA fin
def Vd(prog:Program)(w:World)(A:Around)(E:Value→Shared→Prop)(s:Shared)(v:Value)(us:List Value):Prop :=
 ∀Q:List Value→Shared→Prop,(∀(h1:Heap) (tk:Nat),Ext s.heap h1→s.heap.objs.size≤h1.objs.size→Q us { s with heap:=h1,toks:=tk })→wpAny (model prog w) A (collect v) Q E s
theorem Tp{l:Addr}(hl:s.heap.IsList l us.toArray)(hz:us.length≤1000):Vd prog w A E s (.ref l) us:=fun Q h=>by
 refine collect_list hl (h _ _ (fun c o q=>?_) ?_) (by rw [sizeLine_eq];omega)
 ·have hlt:c<s.heap.objs.size:=aF q;rw [Heap.get?_update_ne _ _ _ _ (aG hlt),Heap.get?_push_ne _ _ _ (aG hlt)];exact q
 ·rw [Heap.size_update,size_push'];omega
theorem Ug(d:O.α){b:Bool}{Q:Value→Shared→Prop}{h1:Heap}{tk:Nat}{T:Sem PySem.Fin}(C:YI O prog w s.heap r ks us)(hsz:us.length≤1000)(hr:Runs O prog w (if b then ks.reverse else ks))(x1:Ext s.heap h1)(z1:s.heap.objs.size≤h1.objs.size)
 (h:∀(h':Heap) (D tk:Nat) (ix:List Nat) (e1:Nat),s.heap.objs.size≤D→Ext s.heap h'→h'.get? D=some (seqObj "list" (ix.map fun i=>us.getD i Value.none).toArray e1)→ix.Perm (List.range us.length)→(ix.map fun i=>ks.getD i d).Pairwise (fun x y=>if b=true then O.kle y x else O.kle x y)→Q (.ref D) { s with heap:=h',toks:=tk }) :
  (h1.push (seqObj "list" us.toArray 0)).get? h1.objs.size=some (seqObj "list" us.toArray 0)∧Ext s.heap (h1.push (seqObj "list" us.toArray 0)) ∧
  ∀ix:List Nat,ix.Perm (List.range us.length)→(ix.map fun i=>ks.getD i d).Pairwise (fun x y=>if b=true then O.kle y x else O.kle x y)→Q (.ref h1.objs.size) { s with heap:=sortedHeap (h1.push (seqObj "list" us.toArray 0)) h1.objs.size us (ix.map fun i=>us.getD i Value.none).toArray,toks:=tk }:=by
 have g1:(h1.push (seqObj "list" us.toArray 0)).get? h1.objs.size=some (seqObj "list" us.toArray 0):=aO _ rfl;refine⟨g1,fun b u e=>aD _ (x1 b u e),fun ix p1 p2=>?_⟩;obtain⟨e1,he1⟩:=sortedHeap_at (vs:=us) (out:=(ix.map fun i=>us.getD i Value.none).toArray) g1;refine h _ h1.objs.size tk ix e1 z1 (fun b u e=>?_) he1 p1 p2;have lb:b<h1.objs.size:=aF (x1 b u e);rw [sortedHeap_old (aG lb) (by rw [Heap.size_push];exact aq lb)];exact aD _ (x1 b u e)
theorem ZY(d:O.α){v:Value}{Q:Value→Shared→Prop}(G:Vd prog w A.in1 E s v us)(C:YI O prog w s.heap r ks us)(hsz:us.length≤1000)(hr:Runs O prog w ks)(hu:A.units+2+r<cLine)
 (h:∀(h':Heap) (D tk:Nat) (ix:List Nat) (e1:Nat),s.heap.objs.size≤D→Ext s.heap h'→h'.get? D=some (seqObj "list" (ix.map fun i=>us.getD i Value.none).toArray e1)→ix.Perm (List.range us.length)→(ix.map fun i=>ks.getD i d).Pairwise O.kle→Q (.ref D) { s with heap:=h',toks:=tk }) :
  wpAny (model prog w) A (call (.builtin "sorted") [v]) Q E s:=by
 refine Calls.call_function_entry kind_sorted plain_sorted entry_sorted (args_sorted1 _) ?_;unfold Builtin.«sorted»;refine Wb (m:=checkCount "sorted" 1 1 _) (aA ?_);refine Wb (G _ fun h1 tk x1 z1=>?_);refine Wb (bY ?_ (by rw [sizeLine_eq];omega));obtain⟨g1,x2,fin⟩:=Ug (T:=pure (.done (.ret .none))) (tk:=tk) (b:=false) d C hsz (by simpa using hr) x1 z1 (fun h' D tk ix e1 a1 a2 a3 a4 a5=>h h' D tk ix e1 a1 a2 a3 a4 (by simpa using a5));refine Wb (aQ (aW slot_list_sort ⟨_,g1,rfl⟩ entry_list_sort ?_ (args_list_sort _)));rw [TH.Km];refine Yl (s:={ s with heap:=h1.push (seqObj "list" us.toArray 0),toks:=tk }) d C x2 z1 g1 hsz (by simpa using hr) (by rw [show A.in1.in1.units=A.units+2 from rfl];omega) fun ix p1 p2=>⟨_,rfl,?_⟩;exact aA ⟨_,rfl,fin ix p1 p2⟩
end
end GS
set_option maxHeartbeats 0
namespace Tr
def pr(x:Tr×Tr):Tr:=.cons x.1 (.cons x.2 .nil)
end Tr
set_option maxHeartbeats 4000000
namespace TH
open PySem PySem.W PyProof.Rows PySem.SeqAt
theorem Xd{h:Heap}{a:Addr}{x y:Array Value}(h1:h.IsList a x)(h2:h.IsList a y):x=y:=by
 obtain⟨o,e,_,n,d⟩:=h1;obtain⟨o',e',_,n',d'⟩:=h2;rw [e]at e';cases e';rw [d]at d';cases d';rfl
theorem k9{s:Shared}{t u:Tr}{A:Around}{a b:Addr}{its its':List Value}(h1:s.heap.IsList a its.toArray)(k1:Vs s.heap t its)(h2:s.heap.IsList b its'.toArray)(k2:Vs s.heap u its')(hu:A.units+t.deep<cLine) :
  EqAt A s (.ref a) (.ref b) (decide (t=u)):=by
 have z1:its.toArray.size=t.bs.length:=by rw [Tr.C7,←Vs.length k1];simp
 have z2:its'.toArray.size=u.bs.length:=by rw [Tr.C7,←Vs.length k2];simp
 by_cases ea:a=b
 ·subst ea;have:=Xd h1 h2;have e2:its=its':=by simpa using this
  subst e2;rw [Vs.inj k1 k2,decide_eq_true rfl];exact EqAt.same _
 ·refine EqAt.of_refs ea ?_;by_cases hl:t.bs.length=u.bs.length
  ·have key:=RcAt.lists (s:=s) (A:=A) (e:=fun j=>decide (t.bs[j]? = u.bs[j]?)) h1 h2 (by omega) (by omega) fun j x1 x2=>by
    have:=Oj t u A.in1 its its' k1 k2 (by rw [show A.in1.units=A.units+1 from rfl];omega) j (by simpa using x1) (by simpa using x2)
    simpa using this
   have ev:(List.range its.toArray.size).all (fun j=>decide (t.bs[j]? = u.bs[j]?))=decide (t=u):=by
    rw [z1];by_cases hbc:t=u
    ·subst hbc;simp
    ·rw [decide_eq_false hbc];refine bA.mpr fun z=>hbc (Tr.SY (List.ext_getElem? fun i=>?_));by_cases hi:i<t.bs.length
     ·have:=aN.mp z i (bS.mpr (by omega))
      simpa using this
     ·rw [List.getElem?_eq_none (by omega),List.getElem?_eq_none (by omega)]
   rw [ev]at key;exact key
  ·rw [decide_eq_false (fun z=>hl (by rw [z]))];exact RcAt.lists_lengths h1 h2 (by simpa [z1,z2]using hl) (by omega)
section
open PySem.AutoSeq1 (wpAny_loadPart')
open PySem.MeetsSeq PySem.MeetsSeq2 PySem.MeetsSeq3
theorem dW{t u:List Tr}{i:Nat}(h1:i<t.length)(h2:i<u.length):Tr.Lz (t.drop i) (u.drop i)=if t[i]=u[i] then Tr.Lz (t.drop (i+1)) (u.drop (i+1)) else Tr.lt t[i] u[i]:=by
 rw [List.drop_eq_getElem_cons h1,List.drop_eq_getElem_cons h2,Tr.Lz]
theorem Yd{t u:List Tr}{i:Nat}(h:t.length≤i∨u.length≤i)(h1:i≤t.length)(h2:i≤u.length):Tr.Lz (t.drop i) (u.drop i)=decide (t.length<u.length):=by
 by_cases a:t.length≤i
 ·rw [List.drop_of_length_le a];by_cases b:u.length≤i
  ·rw [List.drop_of_length_le b,decide_eq_false (by omega)]
   rfl
  ·rw [List.drop_eq_getElem_cons (by omega),decide_eq_true (by omega)]
   rfl
 ·have b:u.length≤i:=by omega
  rw [List.drop_of_length_le b,List.drop_eq_getElem_cons (by omega),decide_eq_false (by omega)]
  rfl
theorem d9(l b:Addr)(items items2:Array Value)(n n2:Nat)(dd dd2:Option Addr)(sl sl2:Array (Option Value))(t u:Tr)(k:Nat) :
  ∀i:Nat,items.size-i=k→i≤items.size→i≤items2.size→Meets (Builtin.«list.__eq__.loop» ⟨[.ref l,.ref b,rawInt i,rawInt 0],[]⟩)
   (fun A R s=>s.heap.get? l=some { cls:=.type "list",dict:=dd,data:=.seq items n,slots:=sl }∧s.heap.get? b=some { cls:=.type "list",dict:=dd2,data:=.seq items2 n2,slots:=sl2 } ∧
    Vs s.heap t items.toList∧Vs s.heap u items2.toList∧A.units+t.deep<cLine ∧
    R (.ok (.ret (.bool (Tr.Lz (t.bs.drop i) (u.bs.drop i))))) s):=by
 induction k with
 |zero =>
  intro i hk hi1' hi2' prog w A R s h;obtain⟨hp,g,d,tk,os⟩:=s;obtain⟨hl,hb,hi,hj,hun,h⟩:=h;have z1:items.size=t.bs.length:=by rw [Tr.C7,←Vs.length hi];simp
  have z2:items2.size=u.bs.length:=by rw [Tr.C7,←Vs.length hj];simp
  wp_walk using wpAny_loadPart' hl,wpAny_loadPart' hb
  have hi1:items[((i:Nat):Int).toNat]? = none:=by simp;omega
  rw [hi1]
  wp_walk using wpAny_loadPart' hl,wpAny_loadPart' hb
  show R (.ok (.ret (.bool (decide (items.size<items2.size))))) _;rw [Yd (.inl (by omega)) (by omega) (by omega),←z1,←z2]at h;exact h
 |succ k ih =>
  intro i hk hi1' hi2' prog w A R s h;obtain⟨hp,g,d,tk,os⟩:=s;obtain⟨hl,hb,hi,hj,hun,h⟩:=h;have z1:items.size=t.bs.length:=by rw [Tr.C7,←Vs.length hi];simp
  have z2:items2.size=u.bs.length:=by rw [Tr.C7,←Vs.length hj];simp
  wp_walk using wpAny_loadPart' hl,wpAny_loadPart' hb
  have hlt:i<items.size:=by omega
  have hi1:items[((i:Nat):Int).toNat]? = some items[i]:=by simp [hlt]
  by_cases hlt2:i<items2.size
  ·have hi2:items2[((i:Nat):Int).toNat]? = some items2[i]:=by simp [hlt2]
   have hc:((i:Int)+1)=((i+1:Nat):Int):=by push_cast;rfl
   rw [hi1,hi2];obtain⟨a1,i1,c1,q1,q2,q3,q4,q5⟩:=hi.at (i:=i) (by simpa using hlt);obtain⟨a2,i2,c2,r1,r2,r3,r4,r5⟩:=hj.at (i:=i) (by simpa using hlt2);have e1:items[i]=.ref a1:=by rw [←q1];simp [hlt]
   have e2:items2[i]=.ref a2:=by rw [←r1];simp [hlt2]
   have t1:t.bs[i]'(by omega)=c1:=by
    have:=aL (l:=t.bs) (i:=i) (by omega);rw [q4]at this;exact(aY this).symm
   have t2:u.bs[i]'(by omega)=c2:=by
    have:=aL (l:=u.bs) (i:=i) (by omega);rw [r4]at this;exact(aY this).symm
   rw [dW (by omega) (by omega),t1,t2]at h;have he:=LF (s:=⟨hp,g,d,tk,os⟩) (A:=A.in1) q2 q3 r2 r3 (by rw [show A.in1.units=A.units+1 from rfl];omega);rw [e1,e2];refine Wb (he prog w _ _ ?_);cases hb':decide (c1=c2) with
   |true =>
    rw [if_pos (aP hb')]at h
    wp_walk
    rw [hc];exact⟨plainId_quiet plain_eq_loop _,codeAny_builtin entry_eq_loop (by
     rw [Around.under_plainId plain_eq_loop _];exact ih (i+1) (by omega) (by omega) (by omega) prog w A R _ ⟨hl,hb,hi,hj,hun,h⟩)⟩
   |false =>
    rw [if_neg (bM hb')]at h
    wp_walk using wpAny_loadPart' hl,wpAny_loadPart' hb
    rw [hi1,hi2,e1,e2];have hri:=R6 (c1.deep+1) c1 c2 A.in1 ⟨hp,g,d,tk,os⟩ a1 a2 i1 i2 (bL _) q2 q3 r2 r3 (by rw [show A.in1.units=A.units+1 from rfl];omega) prog w
    wp_walk using hri
    exact h
  ·have hi2:items2[((i:Nat):Int).toNat]? = none:=by simp;omega
   rw [hi1,hi2]
   wp_walk using wpAny_loadPart' hl,wpAny_loadPart' hb
   show R (.ok (.ret (.bool (decide (items.size<items2.size))))) _;rw [Yd (.inr (by omega)) (by omega) (by omega),←z1,←z2]at h;exact h
theorem cu(l b:Addr)(items items2:Array Value)(n n2:Nat)(dd dd2:Option Addr)(sl sl2:Array (Option Value))(t u:Tr) :
  Meets (Builtin.«list.__lt__» ⟨[.ref l,.ref b],[]⟩)
   (fun A R s=>s.heap.get? l=some { cls:=.type "list",dict:=dd,data:=.seq items n,slots:=sl }∧s.heap.get? b=some { cls:=.type "list",dict:=dd2,data:=.seq items2 n2,slots:=sl2 } ∧
    Vs s.heap t items.toList∧Vs s.heap u items2.toList∧A.units+t.deep<cLine ∧
    R (.ok (.ret (.bool (Tr.lt t u)))) s):=by
 intro prog w A R s h;obtain⟨hp,g,d,tk,os⟩:=s;obtain⟨hl,hb,hi,hj,hun,h⟩:=h;have f3:=AutoSeq1.sub_list_list
 wp_walk using wpAny_loadPart' hl,wpAny_loadPart' hb
 exact⟨plainId_quiet plain_eq_loop _,codeAny_builtin entry_eq_loop (by
  rw [Around.under_plainId plain_eq_loop _];exact d9 l b items items2 n n2 dd dd2 sl sl2 t u _ 0 rfl (ar _) (ar _) prog w A R _ ⟨hl,hb,hi,hj,hun,by rw [Tr.bo]at h;simpa using h⟩)⟩
end
end TH
namespace TH
open PySem PySem.W PyProof.Rows PySem.SeqAt
def K1(h:Heap)(k:Tr)(v:Value):Prop:=∃(a b l:Addr) (its its2:List Value) (t u:Tr),k=Tr.pr (t,u)∧v=.ref a∧h.IsTuple a [.ref b,.ref l].toArray∧h.IsTuple b its.toArray∧Vs h t its∧h.IsList l its2.toArray∧Vs h u its2
theorem Vs.ext{h h':Heap}(k:GS.Ext h h'){t:Tr}{us:List Value}(e:Vs h t us):Vs h' t us:=e.keeps fun b o e _=>k b o e
theorem VX{h h':Heap}(k:GS.Ext h h'){a:Addr}{x:Array Value}(e:h.IsTuple a x):h'.IsTuple a x:=let⟨o,e1,c,n,d⟩:=e;⟨o,k _ _ e1,c,n,d⟩
theorem Y9{h h':Heap}(k:GS.Ext h h'){a:Addr}{x:Array Value}(e:h.IsList a x):h'.IsList a x:=let⟨o,e1,c,n,d⟩:=e;⟨o,k _ _ e1,c,n,d⟩
theorem K1.ext{h h':Heap}(k:GS.Ext h h'){x:Tr}{v:Value}:K1 h x v→K1 h' x v:=fun⟨a,b,l,i1,i2,t,u,e1,e2,h1,h2,h3,h4,h5⟩ =>
 ⟨a,b,l,i1,i2,t,u,e1,e2,VX k h1,VX k h2,h3.ext k,Y9 k h4,h5.ext k⟩
section
open PySem.MeetsSeq PySem.MeetsSeq2 PySem.MeetsSeq3
variable{prog:Program}{w:World}{A:Around}{E:Value→Shared→Prop}{s:Shared}
theorem Zn{t u:Tr}{a b:Addr}{its its':List Value}{Q:Bool→Shared→Prop}(h1:s.heap.IsList a its.toArray)(k1:Vs s.heap t its)(h2:s.heap.IsList b its'.toArray)(k2:Vs s.heap u its')(hu:A.units+t.deep<cLine)(h:Q (Tr.lt t u) s):wpAny (model prog w) A (oneLt' false (.ref a) (.ref b)) Q E s:=by
 rw [oneLt'_eq];simp only [Bool.false_eq_true,if_false];obtain⟨⟨cls,dd,data,sl⟩,ho,hc,n,hdt⟩:=id h1;obtain⟨⟨cls2,dd2,data2,sl2⟩,ho2,hc2,n2,hdt2⟩:=id h2;simp only at hc hdt hc2 hdt2;subst hc hdt hc2 hdt2;refine Wb (richCompare_meets_room (op:=.Lt) ⟨_,ho,rfl⟩ ⟨_,ho2,rfl⟩ PySem.F.slot_list_lt PySem.F.entry_list_lt (PySem.F.args_list_lt_2 _ _) (cu a b its.toArray its'.toArray n n2 dd dd2 sl sl2 t u)
   ⟨ho,ho2,by simpa using k1,by simpa using k2,hu,show Value.bool (Tr.lt t u)≠Value.notImplemented∧_ from⟨(fun x=>nomatch x),wpAny_truthy_bool h⟩⟩ (by omega))
theorem dm{x y:Tr}{u v:Value}{Q:Bool→Shared→Prop}(h1:K1 s.heap x u)(h2:K1 s.heap y v)(hu:A.units+x.deep<cLine)(h:Q (Tr.lt x y) s):wpAny (model prog w) A (keyLt' (tuples' false) u v) Q E s:=by
 obtain⟨a,b,l,i1,i2,t1,u1,rfl,rfl,k1,k2,k3,k4,k5⟩:=h1;obtain⟨a',b',l',j1,j2,t2,u2,rfl,rfl,m1,m2,m3,m4,m5⟩:=h2;obtain⟨o,ho,hc,n,hd⟩:=id k1;obtain⟨o2,ho2,hc2,n2,hd2⟩:=id m1;have hdp:(Tr.pr (t1,u1)).deep=max (t1.deep+1) (max (u1.deep+1) 0):=rfl;refine kat_lt ho hd ho2 hd2 ?_;have hlt:Tr.lt (Tr.pr (t1,u1)) (Tr.pr (t2,u2))=if t1=t2 then(if u1=u2 then false else Tr.lt u1 u2) else Tr.lt t1 t2:=by
  unfold Tr.pr;rw [Tr.lt,Tr.lt]
  rfl
 rw [hlt]at h;show KatLex prog w A false (decide (2<2)) Q [(.ref b,.ref b'),(.ref l,.ref l')] 0 s;refine kat_cons (LF k2 k3 m2 m3 (by omega) prog w _ _ ?_);by_cases e1:t1=t2
 ·rw [decide_eq_true e1];rw [if_pos e1]at h;refine kat_yes (kat_cons (k9 k4 k5 m4 m5 (by omega) prog w _ _ ?_));by_cases e2:u1=u2
  ·rw [decide_eq_true e2];rw [if_pos e2]at h;exact kat_yes (kat_nil h)
  ·rw [decide_eq_false e2];rw [if_neg e2]at h;exact kat_no (by rw [Bool.false_and];exact Zn k4 k5 m4 m5 (by omega) h)
 ·rw [decide_eq_false e1];rw [if_neg e1]at h;exact kat_no (by rw [Bool.false_and];exact Pr k2 k3 m2 m3 (by omega) h)
def TU(h:Heap)(v:Value):Prop:=∃(a b:Addr) (xs:Array Value) (its:List Value),v=.ref a∧h.IsTuple a ((.ref b::its).toArray)∧h.IsTuple b xs
theorem RH{M:Model}:∀(us:List Value) {Q:List (Option Value)→Shared→Prop},(∀v∈us,TU s.heap v)→(∀fs:List Value,fs.length=us.length→(∀v∈fs,Looks M s.heap (typeOf v) (.type "tuple"))→Q (fs.map some) s)→wpAny M A (us.mapM firstOfTuple') Q E s
 |[],Q,_,h=>by
  rw [List.mapM_nil];exact aA (h [] rfl fun _ z=>by cases z)
 |v::us,Q,e,h=>by
  obtain⟨a,b,xs,its,rfl,h1,h2⟩:=e v ae;obtain⟨o,ho,hc,n,hd⟩:=id h1;rw [List.mapM_cons];refine Wb ?_;rw [kas_first_eq];refine Wb (Looks.here (show Looks M s.heap (typeOf (.ref a)) o.cls from(Looks.ld ho).andThen .now) ?_);rw [hc,if_neg (by first | decide | simp)];refine Wb (listItems_at ho hd (aA ?_));refine Wb (RH us (Q:=fun bs s'=>wpAny M A (pure ((.ref b::its).toArray[0]? :: bs)) Q E s') (fun v hv=>e v (aS _ hv)) fun fs hl hfs=>aA ?_);have:=h (.ref b::fs) (by simp [hl]) fun v hv=>by
   rcases aM.mp hv with rfl | hv
   ·exact KC h2
   ·exact hfs v hv
  simpa using this
theorem dw{M:Model}{us:List Value}{Q:SortKind→Shared→Prop}(e:∀v∈us,TU s.heap v)(h:Q (tuples' false) s):wpAny M A (keyKind' us.toArray) Q E s:=by
 rw [kat_kind_eq,List.mapM_toArray,map_eq_pure_bind];refine Wb (Wb (RH us e fun fs hl hfs=>aA ?_));rw [if_pos (by simp)];refine Wb (bJ ?_);have e1:((fs.map some).toArray.filterMap id)=fs.toArray:=by simp
 rw [e1];exact Wb (QE hfs (fun _=>aA h) (aA h))
theorem K1.tt{h:Heap}{x:Tr}{v:Value}:K1 h x v→TU h v:=fun⟨a,b,l,i1,i2,t,u,e1,e2,h1,h2,h3,h4,h5⟩=>⟨a,b,_,[.ref l],e2,h1,h2⟩
theorem dJ{h0:Heap}{r:Nat}{ks:List Tr}{us:List Value}(hl:us.length=ks.length)(he:∀(i:Nat) (x:Tr) (u:Value),ks[i]? = some x→us[i]? = some u→K1 h0 x u∧x.deep≤r):GS.YI Tr.ord prog w h0 r ks us :=
 ⟨hl,fun κ=>κ=tuples' false,fun A E s Q hx h=>dw (fun v hv=>by
  obtain⟨i,hi,rfl⟩:=List.getElem_of_mem hv;exact((he i _ _ (aL (by omega)) (aL hi)).1.ext hx).tt) (h _ rfl),
  fun A s κ hx hr hκ E i j x y u v Q h1 h2 h3 h4 q=>by
  subst hκ;obtain⟨c1,d1⟩:=he i x u h3 h1;obtain⟨c2,d2⟩:=he j y v h4 h2;exact dm (c1.ext hx) (c2.ext hx) (by omega) q⟩
end
end TH
namespace Tr
open PySem PyProof.Rows
def ji(prog:Program)(w:World)(ks:List Tr):Prop:=GS.Runs Tr.ord prog w ks
theorem UZ{prog:Program}{w:World}{ks:List Tr}(h:ks.length<64):ji prog w ks:=GS.Wd (O:=Tr.ord) h
end Tr
namespace L2
open PySem PySem.Spec PyProof.Rows
def Cv(B:Addr→Prop)(H:Hp)(k:Tr)(v:V):Prop:=∃(a l:Addr) (t u:Tr) (vt:V) (xs:List V),k=Tr.pr (t,u)∧v=.ref a∧¬B l∧H a=some (.tup [vt,.ref l])∧Tv H t vt∧H l=some (.lst xs)∧Ts H u xs
theorem Cv.same{B:Addr→Prop}{H H':Hp}{k:Tr}{v:V}(e:AO H H'):Cv B H k v→Cv B H' k v:=fun⟨a,l,t,u,vt,xs,h1,h2,h0,h3,h4,h5,h6⟩=>⟨a,l,t,u,vt,xs,h1,h2,h0,e _ _ h3,h4.same e,e _ _ h5,h6.same e⟩
structure nT(B:Addr→Prop)(H:Hp)(ks:List Tr)(ys:List V):Prop where
 len:ys.length=ks.length
 at_:∀(i:Nat) (k:Tr) (v:V),ks[i]? = some k→ys[i]? = some v→Cv B H k v
variable{B B':Addr→Prop}
section
variable{X:Cx}{pins:List (Addr×Obj)}{σ:St}{H:Hp}{s:Shared}
theorem Cv.raw(I:Inv X pins σ H s){k:Tr}{v:V}{u:Value}(h:Cv B H k v)(r:RelV v u):TH.K1 s.heap k u:=by
 obtain⟨a,l,t,w,vt,xs,rfl,rfl,_,h1,h2,h3,h4⟩:=h;cases r;obtain⟨its,rv,pl,hz⟩:=I.tuple (A8.of (K:=X.K) h1);obtain⟨i2,rv2,pl2,hz2⟩:=I.list (A4.of (K:=X.K) h3);obtain⟨u1,us1,rfl,r1,rv1⟩:∃u1 us1,its=u1::us1∧RelV vt u1∧Vals [V.ref l] us1:=by
  cases rv with
  |cons r t=>exact⟨_,_,rfl,r,t⟩
 obtain⟨u2,rfl,r2⟩:=rv1.one;cases r2;obtain⟨b,its1,rfl,hb1,hb2⟩:=h2.at I r1;exact⟨a,b,l,its1,i2,t,w,rfl,rfl,pl,hb1,hb2,pl2.isList,h4.vs I rv2⟩
end
abbrev Yb(x y:Str)(px py:Pos)(tk:Nat)(tp:Pos):Expr:=.Tuple [.Name x px,.Name y py] tk tp
theorem dr{ix iy:Nat}(h:ix≠iy)(σ:St)(a b c d:Option V):((((σ.set ix a).set iy b).set ix c).set iy d)=(σ.set ix c).set iy d:=by
 rw [List.set_comm _ _ h.symm,List.set_set,List.set_set]
def Pd(K:Fg)(wi:TI)(fr:List (Option Nat))(ix iy:Nat)(tif:TT)(te:TE):TE:=fun σ H Q=>wi σ H fun J H1=>∀D,H1 D=none→∃W:Nat→Nat→List V→Hp→Prop,(∃m,W 0 m [] (upd H1 D (.lst []))) ∧
 ∀i m ys H,W i m ys H→H D=some (.lst ys)∧((J.stop i H∧Q (.ref D) H)∨(J.go i H∧ys.length<sizeLine∧∀x H',J.FI i H x H'→∃a v1 v2,x=.ref a∧A8 K H' a [v1,v2] ∧
  tif (((carry fr σ).set ix (some v1)).set iy (some v2)) H' fun b H2=>if b=true then te (((carry fr σ).set ix (some v1)).set iy (some v2)) H2 fun y H3=>H3 D=some (.lst ys)∧∃m',m'<m∧W (i+1) m' (ys++[y]) (upd H3 D (.lst (ys++[y])))
   else ∃m',m'<m∧W (i+1) m' ys H2))
section
variable{X:Cx}{elt iter:Expr}{x y:Str}{px py tp pos:Pos}{tk:Nat}{ifs:List Expr}{scope:Scope}{wi:TI}{fr:List (Option Nat)}{ix iy:Nat}{tif:TT}{te:TE}{N:List Str}
theorem Ui{pins:List (Addr×Obj)}{σ:St}{H2:Hp}{s2:Shared}{Q:VK}{it:Addr}{fp:List Addr}{tn:Nat→Heap→Prop}{J:It}{cl:List (Str×Addr)}{E:Value→Shared→Prop}{RR:Value→Addr→Result→Shared→Prop}
 (S:EE scope N x ix)(S2:EE scope N y iy)(hxy:ix≠iy)(hcalm:X.calm=true)(hfr:ER N X.N scope X.env.scope fr 0=true)(hlen:fr.length=N.length)
 (hif:∀cl C s₀ H₀ fp,Lh (Ai X scope cl N C s₀ H₀ fp) ifs tif)(he:∀cl C s₀ H₀ fp,PE (Ai X scope cl N C s₀ H₀ fp) elt te)
 (I2:Inv X pins σ H2 s2)(T:Turn X.prog X.w X.K (Yb x y px py tk tp) J fp it tn)(st2:tn 0 s2.heap)(f2:∀b∈fp,KH X pins H2 b)
 (c1:∀x c,cl.lookup x=some c→X.env.cells.lookup x=some c)(c2:∀x∈scope.names,x.2=NameKind.free→∃c,cl.lookup x.1=some c)
 (W:∀D,H2 D=none→∃W:Nat→Nat→List V→Hp→Prop,(∃m,W 0 m [] (upd H2 D (.lst []))) ∧
   ∀i m ys H,W i m ys H→H D=some (.lst ys)∧((J.stop i H∧Q (.ref D) H)∨(J.go i H∧ys.length<sizeLine∧∀x H',J.FI i H x H'→∃a v1 v2,x=.ref a∧A8 X.K H' a [v1,v2] ∧
    tif (((carry fr σ).set ix (some v1)).set iy (some v2)) H' fun b H2=>if b=true then te (((carry fr σ).set ix (some v1)).set iy (some v2)) H2 fun y H3=>H3 D=some (.lst ys)∧∃m',m'<m∧W (i+1) m' (ys++[y]) (upd H3 D (.lst (ys++[y])))
     else ∃m',m'<m∧W (i+1) m' ys H2)))
 (fin:∀(D C:Addr) (s':Shared) (H':Hp) m,s'.heap.Ns C m→Q (.ref D) H'→(∀h',Heap.SameBut C s'.heap h'→Inv X pins σ H' { s' with heap:=h' })→C≠D→(∀b o,s2.heap.get? b=some o→b≠C)→H' C=none→s2.heap.objs.size≤C→RR (.ref D) C (.ok .next) s') :
  wpAny (model X.prog X.w) X.A (newList []) (fun acc s₃=>wpAny (model X.prog X.w) X.A (newFunctionEnv scope X.env.globals cl [] X.env.qual none .none (some X.env)) (fun cenv s₄ =>
   codeAny (model X.prog X.w) X.A (.compStart (.ListComp elt [⟨Yb x y px py tk tp,iter,ifs,0⟩] scope pos) 0 (.ref it) acc { cenv with scope:=relabel scope X.env }) (RR acc cenv.locals) s₄) E s₃) E s2:=by
 have hxv:(relabel scope X.env).names.lookup x=some .local:=lookup_relabel_local S.loc;have hyv:(relabel scope X.env).names.lookup y=some .local:=lookup_relabel_local S2.loc;refine NS (g:=Zr X.K 2 (Pk (Fj ix) (Pk (Fj iy) Yw))) S hcalm (fun σ'=>∀v w,(σ'.set ix v).set iy w=((carry fr σ).set ix v).set iy w) (fun _ _=>rfl) (fun C=>Kb (X:=Ai X scope cl N C s2 H2 fp) hcalm (DL (A1 (X:=Ai X scope cl N C s2 H2 fp) S.nd S.at_ (.inl hxv) (.inr hxv)) (DL (A1 (X:=Ai X scope cl N C s2 H2 fp) S2.nd S2.at_ (.inl hyv) (.inr hyv)) Ir))) hfr hlen hif he I2 T st2 f2 c1 c2 (fun D hD=>?_) fin;obtain⟨W,w0,st⟩:=W D hD;refine⟨W,w0,fun i m ys H w=>?_⟩;obtain⟨h1,h2 | ⟨h2,h3,h4⟩⟩:=st i m ys H w
 ·exact⟨h1,.inl h2⟩
 ·refine⟨h1,.inr ⟨h2,h3,fun x H' hy σ' hr=>?_⟩⟩;obtain⟨a,v1,v2,rfl,hs,q⟩:=h4 x H' hy;rw [←hr]at q;exact⟨a,[v1,v2],rfl,hs,rfl,v1,[v2],rfl,v2,[],rfl,rfl,fun v w=>by rw [dr hxy,hr],q⟩
theorem Zh(S:EE scope N x ix)(S2:EE scope N y iy)(hxy:ix≠iy)(hcalm:X.calm=true)(hfr:ER N X.N scope X.env.scope fr 0=true)(hlen:fr.length=N.length)(hfree:∀y∈scope.names,y.2=.free→X.env.scope.names.lookup y.1=some .cell∨X.env.scope.names.lookup y.1=some .free)
 (hi:PI X (Yb x y px py tk tp) iter wi)(hif:∀cl C s₀ H₀ fp,Lh (Ai X scope cl N C s₀ H₀ fp) ifs tif)(he:∀cl C s₀ H₀ fp,PE (Ai X scope cl N C s₀ H₀ fp) elt te)
 (hs:∀x,foldedSetIterable iter X.env x=pure x:=by intro _;rfl):PE X (.ListComp elt [⟨Yb x y px py tk tp,iter,ifs,0⟩] scope pos) (Pd X.K wi fr ix iy tif te):=by
 intro pins s σ H Q I hw;obtain⟨cl,hclos,c1,_,c2⟩:=Gp (env:=X.env) scope.names [] (fun y hy hf=>I.ok.has y.1 (hfree y hy hf)) (fun y c z=>by cases z);have hclos':closureFor scope X.env=pure cl:=by
  have e:closureFor scope X.env=((forIn scope.names [] (fun(x:Str×NameKind) (r:List (Str×Addr))=>do if(x.2==NameKind.free)=true then do let a ←cellOf X.env x.1;pure (ForInStep.yield ((x.1,a)::r)) else pure (ForInStep.yield r)):Sem (List (Str×Addr)))>>=fun cs=>pure cs):=rfl;rw [e,hclos]
  rfl
 rw [eval_ListComp];refine wpAny_comprehension_free (use:=none) rfl hs hclos' S.kind S.names (BB (hi pins s σ H _ I hw) fun v s1 h1=>BB h1 fun itv s2 h2=>?_);obtain⟨it,fp,tn,J,H2,e,I2,T,st2,f2,W⟩:=h2;subst e;refine Ui (RR:=fun acc C=>compPost (model X.prog X.w) X.A X.xe none (EP X pins σ Q) acc C) S S2 hxy hcalm hfr hlen hif he I2 T st2 f2 c1 c2 W ?_;intro D C s' H' m hn q hI _ _ _ _;exact⟨m,hn,fun h' hs'=>⟨.ref D,H',hI h' hs',rfl,q⟩⟩
end
section
variable{X:Cx}{elt iter:Expr}{x y:Str}{px py tp pos:Pos}{tk:Nat}{ifs:List Expr}{scope:Scope}{wi:TI}{tif:TT}{te:TE}
theorem RG(N:List Str)(ix iy:Nat)(fr:List (Option Nat))(hi:PI X (Yb x y px py tk tp) iter wi)(hif:∀cl C s₀ H₀ fp,Lh (Ai X scope cl N C s₀ H₀ fp) ifs tif)(he:∀cl C s₀ H₀ fp,PE (Ai X scope cl N C s₀ H₀ fp) elt te)
 (h1:Bk scope N x ix=true:=by decide +kernel)(h1':Bk scope N y iy=true:=by decide +kernel)(hxy:ix≠iy:=by decide)(h2:X.calm=true:=by rfl)(h3:ER N X.N scope X.env.scope fr 0=true:=by rfl)(h4:fr.length=N.length:=by rfl)(h5:freeOk X.env.scope scope.names=true:=by rfl)
 (hs:∀x,foldedSetIterable iter X.env x=pure x:=by intro _;rfl):PE X (.ListComp elt [⟨.Tuple [.Name x px,.Name y py] tk tp,iter,ifs,0⟩] scope pos) (Pd X.K wi fr ix iy tif te) :=
 Zh (G9 h1) (G9 h1') hxy h2 h3 h4 (MX h5) hi hif he hs
end
theorem Zg{K:Fg}{J:It}{n:Nat}{D:Addr}{H1:Hp}{fr:List (Option Nat)}{σ:St}{ix iy:Nat}{tif:TT}{te:TE}{G:Hp→Prop}(Pv:Nat→List V→Hp→Prop)(h0:Pv 0 [] (upd H1 D (.lst [])))
 (hgo:∀i ys H,i<n→Pv i ys H→H D=some (.lst ys)→J.go i H∧ys.length<sizeLine∧∀x H',J.FI i H x H'→∃a v1 v2,x=.ref a∧A8 K H' a [v1,v2] ∧
   tif (((carry fr σ).set ix (some v1)).set iy (some v2)) H' fun b H2=>if b=true then te (((carry fr σ).set ix (some v1)).set iy (some v2)) H2 fun y H3=>H3 D=some (.lst ys)∧∃m',m'<n-i∧CW Pv n D (i+1) m' (ys++[y]) (upd H3 D (.lst (ys++[y])))
    else ∃m',m'<n-i∧CW Pv n D (i+1) m' ys H2)
 (hstop:∀ys H,Pv n ys H→H D=some (.lst ys)→J.stop n H∧G H) :
  ∃W:Nat→Nat→List V→Hp→Prop,(∃m,W 0 m [] (upd H1 D (.lst []))) ∧
   ∀i m ys H,W i m ys H→H D=some (.lst ys)∧((J.stop i H∧G H)∨(J.go i H∧ys.length<sizeLine∧∀x H',J.FI i H x H'→∃a v1 v2,x=.ref a∧A8 K H' a [v1,v2] ∧
    tif (((carry fr σ).set ix (some v1)).set iy (some v2)) H' fun b H2=>if b=true then te (((carry fr σ).set ix (some v1)).set iy (some v2)) H2 fun y H3=>H3 D=some (.lst ys)∧∃m',m'<m∧W (i+1) m' (ys++[y]) (upd H3 D (.lst (ys++[y])))
     else ∃m',m'<m∧W (i+1) m' ys H2)):=by
 refine⟨CW Pv n D,⟨n,by simp,Nat.zero_le _,AX,h0⟩,?_⟩;rintro i m ys H ⟨rfl,hi,hH,p⟩;refine⟨hH,?_⟩;by_cases hlt:i<n
 ·exact .inr (hgo i ys H hlt p hH)
 ·have:i=n:=by omega
  subst this;exact .inl (hstop ys H p hH)
end L2
namespace ZT
open PySem PyProof.Rows
structure Apart(z TI TO i1 i2:Addr)(f1 f2:List Addr):Prop where
 a1:TI≠z∧TI≠TO∧TI≠i1∧TI≠i2
 a2:TO≠z∧TO≠i1∧TO≠i2
 a3:i1≠z∧i2≠z∧i1≠i2
 b1:z ∉ f1∧TO ∉ f1∧i2 ∉ f1
 b2:z ∉ f2∧TO ∉ f2∧i1 ∉ f2
section
variable{prog:Program}{w:World}{A:Around}{E:Value→Shared→Prop}{s:Shared}{z TI TO i1 i2:Addr}{f1 f2:List Addr}{n1 n2 k:Nat}{P1 P2:Nat→Value→Prop}{S1 S2:Nat→Heap→Prop}{a b:Value}
theorem B7{f:List Addr}{x:Addr}{h h':Heap}(hx:x ∉ f)(e:Heap.SameBut x h h'):∀c∈f,∀o,h.get? c=some o→h'.get? c=some o:=fun c hc o q=>(e.2 c fun y=>hx (y ▸ hc)).trans q
theorem item{Q:Value→Shared→Prop}(D1:Draws prog w A i1 f1 n1 P1 S1)(D2:Draws prog w A i2 f2 n2 P2 S2)(ap:Apart z TI TO i1 i2 f1 f2)(hz:IsZip s.heap z TI TO .none)(hI:IsPair s.heap TI (.ref i1) (.ref i2))(hO:IsPair s.heap TO a b)
 (t1:S1 k s.heap)(t2:S2 k s.heap)(l1:k<n1)(l2:k<n2)
 (q:∀x y h' tk,P1 k x→P2 k y→IsZip h' z TI TO (rawInt s.heap.objs.size)→IsPair h' TO x y→S1 (k+1) h'→S2 (k+1) h'→IsPair h' s.heap.objs.size x y→h'.objs.size=s.heap.objs.size+1 →
   (∀c o,c≠z→c≠TO→c≠i1→c≠i2→s.heap.get? c=some o→h'.get? c=some o)→Q (.ref s.heap.objs.size) { s with heap:=h',toks:=tk }) :
  wpAny (model prog w) A (Builtin.«zip.__next__» ⟨[.ref z],[]⟩) (fun fin s'=>∃v,fin=.done (.ret v)∧Q v s') E s:=by
 obtain⟨⟨c1,c2,c3,c4⟩,⟨c5,c6,c7⟩,⟨c8,c9,c10⟩,⟨d1,d2,d3⟩,d4,d5,d6⟩:=ap;show wpAny _ _ (field (.ref z) 2>>=_) _ _ _;refine Wb (ao hz rfl (x:=.bool false) rfl ?_);show wpAny _ _ (field (.ref z) 3>>=_) _ _ _;refine Wb (ao hz rfl (x:=.ref TI) rfl (Wb (az hI rfl ?_)));show wpAny _ _ (Builtin.SmallTypes.ownedTupleIsFree (.ref z)>>=_) _ _ _;unfold Builtin.SmallTypes.ownedTupleIsFree;refine Wb (Wb (ao hz rfl (x:=.none) rfl (aA ?_)));simp only [if_true];refine Wb (bJ (Wb (ao hz rfl (x:=.ref TO) rfl (Wb (bU hz (by simp) fun g1 z1 m1=>Wb ?_)))));have m1:Heap.SameBut z s.heap g1:=m1;have z1:IsZip g1 z TI TO .ellipsis:=z1;simp only [List.zipIdx_cons,List.zipIdx_nil,List.forIn_cons,List.forIn_nil];refine Wb (Wb (wpAny_onRaise ?_));show wpAny _ _ (Builtin.SmallTypes.nextOf (.ref i1)>>=_) _ _ _;refine Wb (D1.item k _ _ _ l1 (D1.frame _ _ _ t1 (B7 d1 m1)) fun x g2 tk2 p1 u1 m2=>aA ?_);have o2:IsPair g2 TO a b:=(m2.2 _ c6).trans ((m1.2 _ c5).trans hO);refine Wb (az o2 rfl (Wb (wpAny_updateSeq_pair o2 fun g3 o3 m3=>Wb (wpAny_letGo (aA ?_)))));have o3:IsPair g3 TO x b:=o3;have t2':S2 k g3:=D2.frame _ _ _ (D2.frame _ _ _ (D2.frame _ _ _ t2 (B7 d4 m1)) (B7 d6 m2)) (B7 d5 m3);refine Wb (Wb (wpAny_onRaise ?_));show wpAny _ _ (Builtin.SmallTypes.nextOf (.ref i2)>>=_) _ _ _;refine Wb (D2.item k _ _ _ l2 t2' fun y g4 tk4 p2 u2 m4=>aA ?_);have m3:Heap.SameBut TO g2 g3:=m3;have m4:Heap.SameBut i2 g3 g4:=m4;have o4:IsPair g4 TO x b:=(m4.2 _ c7).trans o3;refine Wb (az o4 rfl (Wb (wpAny_updateSeq_pair o4 fun g5 o5 m5=>Wb (wpAny_letGo (aA (aA ?_))))));have m5:Heap.SameBut TO g4 g5:=m5;have o5:IsPair g5 TO x y:=o5;refine Wb (az o5 rfl (Wb (wpAny_newTuple ?_)));have m2:Heap.SameBut i1 g1 g2:=m2;have sz:g5.objs.size=s.heap.objs.size:=by rw [m5.1,m4.1,m3.1,m2.1,m1.1]
 have z5:IsZip g5 z TI TO .ellipsis:=(m5.2 _ c5.symm).trans ((m4.2 _ c9.symm).trans ((m3.2 _ c5.symm).trans ((m2.2 _ c8.symm).trans z1)));have kp:∀c o,c≠z→c≠TO→c≠i1→c≠i2→s.heap.get? c=some o→g5.get? c=some o:=fun c o e1 e2 e3 e4 e=>(m5.2 _ e2).trans ((m4.2 _ e4).trans ((m3.2 _ e2).trans ((m2.2 _ e3).trans ((m1.2 _ e1).trans e))));have v1:S1 (k+1) g5:=D1.frame _ _ _ (D1.frame _ _ _ (D1.frame _ _ _ u1 (B7 d2 m3)) (B7 d3 m4)) (B7 d2 m5);have v2:S2 (k+1) g5:=D2.frame _ _ _ u2 (B7 d5 m5);show wpAny _ _ (Builtin.SmallTypes.ownedTupleHandOut (.ref z) (.ref g5.objs.size)>>=_) _ _ _;unfold Builtin.SmallTypes.ownedTupleHandOut;have z6:IsZip (g5.push { cls:=.type "tuple",data:=.seq #[x,y] }) z TI TO .ellipsis:=aD _ z5;refine Wb (Wb (bU z6 (by simp) fun g7 z7 m7=>bU (show IsZip g7 z TI TO (rawInt g5.objs.size) from z7) (by simp) fun g8 z8 m8=>?_));have z8:IsZip g8 z TI TO (rawInt g5.objs.size):=z8;have up:∀c o,c≠z→(g5.push { cls:=.type "tuple",data:=.seq #[x,y] }).get? c=some o→g8.get? c=some o:=fun c o e1 e=>(m8.2 _ e1).trans ((m7.2 _ e1).trans e);have zl:z<g5.objs.size:=aF z5;refine aA ⟨_,rfl,?_⟩;show Q (.ref g5.objs.size) _;have fin:=q x y g8 tk4 p1 p2 (by rw [←sz];exact z8) (up _ _ c5 (aD _ o5)) (D1.frame _ _ _ v1 fun c hc o e=>up c o (fun y=>d1 (y ▸ hc)) (aD _ e)) (D2.frame _ _ _ v2 fun c hc o e=>up c o (fun y=>d4 (y ▸ hc)) (aD _ e))
  (by rw [←sz];exact up _ _ (ag zl) (aO _ rfl)) (by rw [←sz,m8.1,m7.1,Heap.size_push]) fun c o e1 e2 e3 e4 e=>up c o e1 (aD _ (kp c o e1 e2 e3 e4 e))
 rw [sz];exact fin
theorem ended{Q:Fin→Shared→Prop}(D1:Draws prog w A i1 f1 n1 P1 S1)(D2:Draws prog w A i2 f2 n2 P2 S2)(ap:Apart z TI TO i1 i2 f1 f2)(hz:IsZip s.heap z TI TO .none)(hI:IsPair s.heap TI (.ref i1) (.ref i2))(hO:IsPair s.heap TO a b)
 (t1:S1 k s.heap)(t2:S2 k s.heap)(he:k=n1∨(k<n1∧k=n2))
 (q:∀h' e tk,(∀c o,c≠z→c≠TO→c≠i1→c≠i2→s.heap.get? c=some o→h'.get? c=some o)→(∃o,h'.get? e=some o∧o.cls=.type "StopIteration")→E (.ref e) { s with heap:=h',toks:=tk }) :
  wpAny (model prog w) A (Builtin.«zip.__next__» ⟨[.ref z],[]⟩) Q E s:=by
 obtain⟨⟨c1,c2,c3,c4⟩,⟨c5,c6,c7⟩,⟨c8,c9,c10⟩,⟨d1,d2,d3⟩,d4,d5,d6⟩:=ap;show wpAny _ _ (field (.ref z) 2>>=_) _ _ _;refine Wb (ao hz rfl (x:=.bool false) rfl ?_);show wpAny _ _ (field (.ref z) 3>>=_) _ _ _;refine Wb (ao hz rfl (x:=.ref TI) rfl (Wb (az hI rfl ?_)));show wpAny _ _ (Builtin.SmallTypes.ownedTupleIsFree (.ref z)>>=_) _ _ _;unfold Builtin.SmallTypes.ownedTupleIsFree;refine Wb (Wb (ao hz rfl (x:=.none) rfl (aA ?_)));simp only [if_true];refine Wb (bJ (Wb (ao hz rfl (x:=.ref TO) rfl (Wb (bU hz (by simp) fun g1 z1 m1=>Wb ?_)))));have m1:Heap.SameBut z s.heap g1:=m1;have z1:IsZip g1 z TI TO .ellipsis:=z1;simp only [List.zipIdx_cons,List.zipIdx_nil,List.forIn_cons,List.forIn_nil];refine Wb (Wb (wpAny_onRaise ?_));show wpAny _ _ (Builtin.SmallTypes.nextOf (.ref i1)>>=_) _ _ _;have t1':=D1.frame _ _ _ t1 (B7 d1 m1);rcases he with he | ⟨he1,he2⟩
 ·rw [he]at t1';refine Wb (D1.done _ _ _ t1' fun g2 e m2 ho=>?_);obtain⟨o,ho,hc⟩:=ho;have z2:IsZip g2 z TI TO .ellipsis:=m2 _ _ c8.symm z1;have ez:e≠z:=fun y=>by subst y;rw [z2]at ho;cases ho;simp at hc
  exact bU z2 (by simp) fun g3 _ m3=>q g3 e _ (fun c o e1 e2 e3 e4 y=>(m3.2 _ e1).trans (m2 _ _ e3 ((m1.2 _ e1).trans y))) ⟨o,(m3.2 _ ez).trans ho,hc⟩
 ·refine Wb (D1.item k _ _ _ he1 t1' fun x g2 tk2 p1 u1 m2=>aA ?_);have o2:IsPair g2 TO a b:=(m2.2 _ c6).trans ((m1.2 _ c5).trans hO);refine Wb (az o2 rfl (Wb (wpAny_updateSeq_pair o2 fun g3 o3 m3=>Wb (wpAny_letGo (aA ?_)))));have t2':S2 k g3:=D2.frame _ _ _ (D2.frame _ _ _ (D2.frame _ _ _ t2 (B7 d4 m1)) (B7 d6 m2)) (B7 d5 m3);rw [he2]at t2';have m2:Heap.SameBut i1 g1 g2:=m2;have m3:Heap.SameBut TO g2 g3:=m3;refine Wb (Wb (wpAny_onRaise ?_));show wpAny _ _ (Builtin.SmallTypes.nextOf (.ref i2)>>=_) _ _ _;refine Wb (D2.done _ _ _ t2' fun g4 e m4 ho=>?_);obtain⟨o,ho,hc⟩:=ho;have z4:IsZip g4 z TI TO .ellipsis:=m4 _ _ c9.symm ((m3.2 _ c5.symm).trans ((m2.2 _ c8.symm).trans z1));have ez:e≠z:=fun y=>by subst y;rw [z4]at ho;cases ho;simp at hc
  exact bU z4 (by simp) fun g5 _ m5=>q g5 e _ (fun c o e1 e2 e3 e4 y=>(m5.2 _ e1).trans (m4 _ _ e4 ((m3.2 _ e2).trans ((m2.2 _ e3).trans ((m1.2 _ e1).trans y))))) ⟨o,(m5.2 _ ez).trans ho,hc⟩
theorem next_item{Q:Option Value→Shared→Prop}(D1:Draws prog w A.in1 i1 f1 n1 P1 S1)(D2:Draws prog w A.in1 i2 f2 n2 P2 S2)(ap:Apart z TI TO i1 i2 f1 f2)(hz:IsZip s.heap z TI TO .none)(hI:IsPair s.heap TI (.ref i1) (.ref i2))(hO:IsPair s.heap TO a b)
 (t1:S1 k s.heap)(t2:S2 k s.heap)(l1:k<n1)(l2:k<n2)
 (q:∀x y h' tk,P1 k x→P2 k y→IsZip h' z TI TO (rawInt s.heap.objs.size)→IsPair h' TO x y→S1 (k+1) h'→S2 (k+1) h'→IsPair h' s.heap.objs.size x y→h'.objs.size=s.heap.objs.size+1 →
   (∀c o,c≠z→c≠TO→c≠i1→c≠i2→s.heap.get? c=some o→h'.get? c=some o)→Q (some (.ref s.heap.objs.size)) { s with heap:=h',toks:=tk }) :
  wpAny (model prog w) A (pyNext (.ref z)) Q E s:=by
 have hT:s.TypeIs (.ref z) "zip" := ⟨_,hz,rfl⟩;unfold pyNext;exact Wb (wpAny_attempt (aj (name:=Str.ofString "__next__") hT bW
  (aW bW hT F.entry_zip_next (item D1 D2 ap hz hI hO t1 t2 l1 l2 fun x y h' tk r1 r2 r3 r4 r5 r6 r7 r8 r9=>aA (q x y h' tk r1 r2 r3 r4 r5 r6 r7 r8 r9)) (F.args_zip_next_1 _))))
theorem next_end{Q:Option Value→Shared→Prop}(D1:Draws prog w A.in1 i1 f1 n1 P1 S1)(D2:Draws prog w A.in1 i2 f2 n2 P2 S2)(ap:Apart z TI TO i1 i2 f1 f2)(hz:IsZip s.heap z TI TO .none)(hI:IsPair s.heap TI (.ref i1) (.ref i2))(hO:IsPair s.heap TO a b)
 (t1:S1 k s.heap)(t2:S2 k s.heap)(he:k=n1∨(k<n1∧k=n2))
 (q:∀h' tk,(∀c o,c≠z→c≠TO→c≠i1→c≠i2→s.heap.get? c=some o→h'.get? c=some o)→Q none { s with heap:=h',toks:=tk }) :
  wpAny (model prog w) A (pyNext (.ref z)) Q E s:=by
 have hT:s.TypeIs (.ref z) "zip" := ⟨_,hz,rfl⟩;unfold pyNext;refine Wb (wpAny_attempt (aj (name:=Str.ofString "__next__") hT bW
  (aW bW hT F.entry_zip_next (ended D1 D2 ap hz hI hO t1 t2 he fun h' e tk kp ho=>?_) (F.args_zip_next_1 _))))
 obtain⟨o,ho,hc⟩:=ho;exact Wb (wpAny_isInstance (T := "StopIteration") (b:=true) ⟨o,ho,hc⟩ isSubtype_stop (aA (q _ _ kp)))
end
end ZT
namespace ZT
open PySem PyProof.Rows
def Sq(b:Bool)(h:Heap)(l:Addr)(xs:List Value):Prop:=if b then h.IsTuple l xs.toArray else h.IsList l xs.toArray
def Ee(b:Bool)(l:Addr):Obj:=if b then { cls:=.type "tuple_iterator",data:=.fields #[.ref l,.int 0 0] } else { cls:=.type "list_iterator",data:=.fields #[.ref l,.int 0 0] }
def Ko(b:Bool)(h:Heap)(it l:Addr)(k:Nat):Prop:=if b then h.IsTupleIter it l k else h.IsListIter it l k
theorem Sq.push{b:Bool}{h:Heap}{l:Addr}{xs:List Value}(o:Obj)(x:Sq b h l xs):Sq b (h.push o) l xs:=by
 cases b with
 |true=>obtain⟨u,e,r⟩:=(show h.IsTuple l xs.toArray from x);exact(show(h.push o).IsTuple l xs.toArray from⟨u,Heap.get?_push_of_some _ e,r⟩)
 |false=>obtain⟨u,e,r⟩:=(show h.IsList l xs.toArray from x);exact(show(h.push o).IsList l xs.toArray from⟨u,Heap.get?_push_of_some _ e,r⟩)
theorem Sq.keep{b:Bool}{h h':Heap}{l:Addr}{xs:List Value}(x:Sq b h l xs)(k:∀o,h.get? l=some o→h'.get? l=some o):Sq b h' l xs:=by
 cases b with
 |true=>obtain⟨u,e,r⟩:=(show h.IsTuple l xs.toArray from x);exact(show h'.IsTuple l xs.toArray from⟨u,k _ e,r⟩)
 |false=>obtain⟨u,e,r⟩:=(show h.IsList l xs.toArray from x);exact(show h'.IsList l xs.toArray from⟨u,k _ e,r⟩)
theorem Sq.lt{b:Bool}{h:Heap}{l:Addr}{xs:List Value}(x:Sq b h l xs):l<h.objs.size:=by
 cases b with
 |true=>obtain⟨u,e,r⟩:=(show h.IsTuple l xs.toArray from x);exact aF e
 |false=>obtain⟨u,e,r⟩:=(show h.IsList l xs.toArray from x);exact aF e
section
variable{prog:Program}{w:World}{A:Around}{E:Value→Shared→Prop}{s:Shared}
theorem VU{b:Bool}{l:Addr}{xs:List Value}{Q:Value→Shared→Prop}(x:Sq b s.heap l xs)(h:Q (.ref s.heap.objs.size) { s with heap:=s.heap.push (Ee b l) }):wpAny (model prog w) A (pyIter (.ref l)) Q E s:=by
 cases b with
 |true=>exact wpAny_pyIter_tuple x h
 |false=>exact wpAny_pyIter_list x h
theorem HQ(hh:A.handled=none)(b:Bool)(it l:Addr)(xs:List Value)(hne:l≠it):Draws prog w A it [it,l] xs.length (fun i v=>xs[i]? = some v) (fun i h=>Ko b h it l i∧Sq b h l xs):=by
 cases b with
 |true=>exact ET.draws hh it l xs hne
 |false =>
  have:=Draws.list (prog:=prog) (w:=w) hh it l hne xs.toArray
  simpa [Ko,Sq]using this
def zh(b1 b2:Bool)(h:Heap)(l1 l2:Addr):Heap :=
 ((((h.push (Ee b1 l1)).push (Ee b2 l2)).push { cls:=.type "tuple",data:=.seq #[.ref h.objs.size,.ref (h.push (Ee b1 l1)).objs.size] }).push { cls:=.type "tuple",data:=.seq #[.none,.none] }).push
  { cls:=.type "zip",data:=.fields #[.none,.bool false,.bool false,.ref ((h.push (Ee b1 l1)).push (Ee b2 l2)).objs.size,.ref (((h.push (Ee b1 l1)).push (Ee b2 l2)).push { cls:=.type "tuple",data:=.seq #[.ref h.objs.size,.ref (h.push (Ee b1 l1)).objs.size] }).objs.size] }
theorem dM(b1 b2:Bool)(l1 l2:Addr)(xs ys:List Value) :
  Meets (Builtin.«zip.__new__» ⟨[.type "zip",.ref l1,.ref l2],[]⟩) (fun _ R s=>Sq b1 s.heap l1 xs∧Sq b2 s.heap l2 ys ∧
   R (.ok (.ret (.ref ((((s.heap.push (Ee b1 l1)).push (Ee b2 l2)).push { cls:=.type "tuple",data:=.seq #[.ref s.heap.objs.size,.ref (s.heap.push (Ee b1 l1)).objs.size] }).push { cls:=.type "tuple",data:=.seq #[.none,.none] }).objs.size)) ) { s with heap:=zh b1 b2 s.heap l1 l2 }) :=
 .of_wp fun prog w A R s h=>by
  obtain⟨hp,g,d,tk,os⟩:=s;obtain⟨h1,h2,h⟩:=h;have hsub:=sub_zip;have i1:∀(A:Around) (E:Value→Shared→Prop) (Q:Value→Shared→Prop),Q (.ref hp.objs.size) ⟨hp.push (Ee b1 l1),g,d,tk,os⟩→wpAny (model prog w) A (pyIter (.ref l1)) Q E ⟨hp,g,d,tk,os⟩:=fun A E Q q=>VU (s:=⟨hp,g,d,tk,os⟩) h1 q;have i2:∀(A:Around) (E:Value→Shared→Prop) (Q:Value→Shared→Prop),Q (.ref (hp.push (Ee b1 l1)).objs.size) ⟨(hp.push (Ee b1 l1)).push (Ee b2 l2),g,d,tk,os⟩→wpAny (model prog w) A (pyIter (.ref l2)) Q E ⟨hp.push (Ee b1 l1),g,d,tk,os⟩:=fun A E Q q=>VU (s:=⟨hp.push (Ee b1 l1),g,d,tk,os⟩) (h2.push _) q
  wp_walk using i1,i2
  exact⟨_,rfl,h⟩
theorem Sf{b1 b2:Bool}{l1 l2:Addr}{xs ys:List Value}{Q:Value→Shared→Prop}(h1:Sq b1 s.heap l1 xs)(h2:Sq b2 s.heap l2 ys)
 (h:∀h',IsZip h' (s.heap.objs.size+4) (s.heap.objs.size+2) (s.heap.objs.size+3) .none→IsPair h' (s.heap.objs.size+2) (.ref s.heap.objs.size) (.ref (s.heap.objs.size+1))→IsPair h' (s.heap.objs.size+3) .none .none →
   Ko b1 h' s.heap.objs.size l1 0→Ko b2 h' (s.heap.objs.size+1) l2 0→(∀c o,s.heap.get? c=some o→h'.get? c=some o)→Q (.ref (s.heap.objs.size+4)) { s with heap:=h' }) :
  wpAny (model prog w) A (call (.type "zip") [.ref l1,.ref l2]) Q E s:=by
 refine callType_new F.called_zip (by decide) (F.typeCall_zip_2 _ _) (F.newCall_zip_2 _ _) (fun obj=>F.args_object_init_3 obj _ _) F.entry_zip_new (dM b1 b2 l1 l2 xs ys) ⟨h1,h2,?_⟩;have n1:(s.heap.push (Ee b1 l1)).objs.size=s.heap.objs.size+1:=Heap.size_push ..;have up:∀(g:Heap) (o:Obj) (c:Addr) (u:Obj),g.get? c=some u→(g.push o).get? c=some u:=fun g o c u e=>aD _ e;have a0:(s.heap.push (Ee b1 l1)).get? s.heap.objs.size=some (Ee b1 l1):=aO _ (by cases b1<;>rfl);generalize hg1:s.heap.push (Ee b1 l1)=g1 at n1 a0;have k1:∀c o,s.heap.get? c=some o→g1.get? c=some o:=fun c o e=>by rw [←hg1];exact up _ _ _ _ e
 have n2:(g1.push (Ee b2 l2)).objs.size=s.heap.objs.size+2:=by rw [Heap.size_push,n1]
 have a1:(g1.push (Ee b2 l2)).get? (s.heap.objs.size+1)=some (Ee b2 l2):=by rw [←n1];exact aO _ (by cases b2<;>rfl)
 generalize hg2:g1.push (Ee b2 l2)=g2 at n2 a1;have k2:∀c o,g1.get? c=some o→g2.get? c=some o:=fun c o e=>by rw [←hg2];exact up _ _ _ _ e
 have n3:(g2.push { cls:=.type "tuple",data:=.seq #[.ref s.heap.objs.size,.ref (s.heap.objs.size+1)] }).objs.size=s.heap.objs.size+3:=by rw [Heap.size_push,n2]
 have a2:IsPair (g2.push { cls:=.type "tuple",data:=.seq #[.ref s.heap.objs.size,.ref (s.heap.objs.size+1)] }) (s.heap.objs.size+2) (.ref s.heap.objs.size) (.ref (s.heap.objs.size+1)):=by rw [←n2];exact aO _ rfl
 generalize hg3:g2.push { cls:=.type "tuple",data:=.seq #[.ref s.heap.objs.size,.ref (s.heap.objs.size+1)] }=g3 at n3 a2;have k3:∀c o,g2.get? c=some o→g3.get? c=some o:=fun c o e=>by rw [←hg3];exact up _ _ _ _ e
 have n4:(g3.push { cls:=.type "tuple",data:=.seq #[.none,.none] }).objs.size=s.heap.objs.size+4:=by rw [Heap.size_push,n3]
 have a3:IsPair (g3.push { cls:=.type "tuple",data:=.seq #[.none,.none] }) (s.heap.objs.size+3) .none .none:=by rw [←n3];exact aO _ rfl
 generalize hg4:g3.push { cls:=.type "tuple",data:=.seq #[.none,.none] }=g4 at n4 a3;have k4:∀c o,g3.get? c=some o→g4.get? c=some o:=fun c o e=>by rw [←hg4];exact up _ _ _ _ e
 have ez:zh b1 b2 s.heap l1 l2=g4.push { cls:=.type "zip",data:=.fields #[.none,.bool false,.bool false,.ref (s.heap.objs.size+2),.ref (s.heap.objs.size+3)] }:=by
  unfold zh;rw [hg1,hg2,n1,hg3,hg4,n2,n3]
 have a4:IsZip (g4.push { cls:=.type "zip",data:=.fields #[.none,.bool false,.bool false,.ref (s.heap.objs.size+2),.ref (s.heap.objs.size+3)] }) (s.heap.objs.size+4) (s.heap.objs.size+2) (s.heap.objs.size+3) .none:=by rw [←n4];exact aO _ rfl
 rw [n1,hg3,hg4,n4,ez];show _∧_;have k5:∀c o,g4.get? c=some o→(g4.push { cls:=.type "zip",data:=.fields #[.none,.bool false,.bool false,.ref (s.heap.objs.size+2),.ref (s.heap.objs.size+3)] }).get? c=some o:=fun c o e=>up _ _ _ _ e;refine⟨⟨_,a4,rfl⟩,h _ a4 (k5 _ _ (k4 _ _ a2)) (k5 _ _ a3) ?_ ?_ fun c o e=>k5 _ _ (k4 _ _ (k3 _ _ (k2 _ _ (k1 _ _ e))))⟩
 ·have:=k5 _ _ (k4 _ _ (k3 _ _ (k2 _ _ a0)));cases b1 with
  |true=>exact⟨_,this,rfl,rfl⟩
  |false=>exact⟨_,this,rfl,rfl⟩
 ·have:=k5 _ _ (k4 _ _ (k3 _ _ a1));cases b2 with
  |true=>exact⟨_,this,rfl,rfl⟩
  |false=>exact⟨_,this,rfl,rfl⟩
end
end ZT
namespace L2
open PySem PySem.Spec PyProof.Rows
def Ew(b:Bool)(H:Hp)(a:Addr)(xs:List V):Prop:=if b then H a=some (.tup xs) else H a=some (.lst xs)
theorem Ew.inj{b:Bool}{H:Hp}{a:Addr}{xs ys:List V}(h:Ew b H a xs)(k:Ew b H a ys):xs=ys:=by
 cases b with
 |true=>have h:H a=some (.tup xs):=h;have k:H a=some (.tup ys):=k;rw [h]at k;cases k;rfl
 |false=>have h:H a=some (.lst xs):=h;have k:H a=some (.lst ys):=k;rw [h]at k;cases k;rfl
theorem Ew.none{b:Bool}{H:Hp}{a c:Addr}{xs:List V}(h:Ew b H a xs)(k:H c=none):a≠c:=fun z=>by
 subst z;cases b with
 |true=>have h:H a=some (.tup xs):=h;rw [k]at h;cases h
 |false=>have h:H a=some (.lst xs):=h;rw [k]at h;cases h
theorem Ew.raw{X:Cx}{pins:List (Addr×Obj)}{σ:St}{H:Hp}{s:Shared}(I:Inv X pins σ H s){b:Bool}{a:Addr}{xs:List V}(h:Ew b H a xs):∃its,Vals xs its∧ZT.Sq b s.heap a its:=by
 cases b with
 |true =>
  obtain⟨its,rv,p,_⟩:=I.tuple (A8.of (K:=X.K) (show H a=some (.tup xs) from h));exact⟨its,rv,p⟩
 |false =>
  obtain⟨its,rv,p,_⟩:=I.list (A4.of (K:=X.K) (show H a=some (.lst xs) from h));exact⟨its,rv,p.isList⟩
def jN(b1 b2:Bool)(a1 a2:Addr):It :=
 ⟨fun i H=>∃xs x ys y,Ew b1 H a1 xs∧Ew b2 H a2 ys∧xs[i]? = some x∧ys[i]? = some y,
  fun i H v H'=>∃p x y,v=.ref p∧H p=none∧H'=upd H p (.tup [x,y])∧(∀xs,Ew b1 H a1 xs→xs[i]? = some x)∧∀ys,Ew b2 H a2 ys→ys[i]? = some y,
  fun i H=>∃xs ys,Ew b1 H a1 xs∧Ew b2 H a2 ys∧(i=xs.length∨(i<xs.length∧i=ys.length))⟩
def nF(b1 b2:Bool)(a1 a2 z TI TO i1 i2:Addr):Nat→Heap→Prop:=fun i h=>IsZip h z TI TO .none∧IsPair h TI (.ref i1) (.ref i2)∧(∃a b,IsPair h TO a b)∧ZT.Ko b1 h i1 a1 i∧ZT.Ko b2 h i2 a2 i
theorem Mz{b:Bool}{h:Heap}{it l:Addr}{k:Nat}(x:ZT.Ko b h it l k):∃o,h.get? it=some o∧∀v,o.data≠.cell v:=by
 cases b with
 |true=>obtain⟨o,e,_,d⟩:=(show h.IsTupleIter it l k from x);exact⟨o,e,fun v z=>by rw [d]at z;cases z⟩
 |false=>obtain⟨o,e,_,d⟩:=(show h.IsListIter it l k from x);exact⟨o,e,fun v z=>by rw [d]at z;cases z⟩
theorem LI{b:Bool}{h h':Heap}{it l:Addr}{k:Nat}(x:ZT.Ko b h it l k)(e:∀o,h.get? it=some o→h'.get? it=some o):ZT.Ko b h' it l k:=by
 cases b with
 |true=>obtain⟨o,q,r⟩:=(show h.IsTupleIter it l k from x);exact(show h'.IsTupleIter it l k from⟨o,e _ q,r⟩)
 |false=>obtain⟨o,q,r⟩:=(show h.IsListIter it l k from x);exact(show h'.IsListIter it l k from⟨o,e _ q,r⟩)
theorem Z5{P:Program}{w:World}{K:Fg}{elts:List Expr}{x1}{pos:Pos}{b1 b2:Bool}{a1 a2 z TI TO i1 i2:Addr}(ne:[z,TI,TO,i1,i2].Nodup) :
  Turn P w K (.Tuple elts x1 pos) (jN b1 b2 a1 a2) [z,TI,TO,i1,i2] z (nF b1 b2 a1 a2 z TI TO i1 i2) where
 mem:=by simp
 obj:=fun i h st b hb=>by
  obtain⟨h1,h2,⟨u,v,h3⟩,h4,h5⟩:=st;have hb:b=z∨b=TI∨b=TO∨b=i1∨b=i2:=by simpa using hb
  rcases hb with rfl | rfl | rfl | rfl | rfl
  ·exact⟨_,h1,fun v y=>by cases y⟩
  ·exact⟨_,h2,fun v y=>by cases y⟩
  ·exact⟨_,h3,fun v y=>by cases y⟩
  ·exact Mz h4
  ·exact Mz h5
 keep:=fun i h h' st k=>by
  obtain⟨h1,h2,⟨u,v,h3⟩,h4,h5⟩:=st;exact⟨k z (by simp) _ h1,k TI (by simp) _ h2,⟨u,v,k TO (by simp) _ h3⟩,LI h4 fun o e=>k i1 (by simp) o e,LI h5 fun o e=>k i2 (by simp) o e⟩
 item:=by
  intro X hP hw hK hc i pins s σ H E I hf st hg;subst hP hw hK;obtain⟨xs,x,ys,y,q1,q2,hx,hy⟩:=hg;obtain⟨us,rv1,p1⟩:=q1.raw I;obtain⟨vs,rv2,p2⟩:=q2.raw I;obtain⟨u,hu,ru⟩:=rv1.get hx;obtain⟨v,hv,rv⟩:=rv2.get hy;obtain⟨t1,t2,⟨ta,tb,t3⟩,t4,t5⟩:=st;have e1:∀b∈[z,TI,TO,i1,i2],a1≠b:=fun b hb=>q1.none (hf b hb).1;have e2:∀b∈[z,TI,TO,i1,i2],a2≠b:=fun b hb=>q2.none (hf b hb).1;simp only [List.nodup_cons,List.mem_cons,List.not_mem_nil,or_false,not_or]at ne;obtain⟨⟨n1,n2,n3,n4⟩,⟨n5,n6,n7⟩,⟨n8,n9⟩,n10,_⟩:=ne;have ap:ZT.Apart z TI TO i1 i2 [i1,a1] [i2,a2]:=⟨⟨Ne.symm n1,n5,n6,n7⟩,⟨Ne.symm n2,n8,n9⟩,⟨Ne.symm n3,Ne.symm n4,n10⟩,
   ⟨by simp [n3,Ne.symm (e1 z (by simp))],by simp [n8,Ne.symm (e1 TO (by simp))],by simp [Ne.symm n10,Ne.symm (e1 i2 (by simp))]⟩,⟨by simp [n4,Ne.symm (e2 z (by simp))],by simp [n9,Ne.symm (e2 TO (by simp))],by simp [n10,Ne.symm (e2 i1 (by simp))]⟩⟩
  refine ZT.next_item (ZT.HQ (prog:=X.prog) (w:=X.w) (A:=X.A.in1) (I.ok.hd hc) b1 i1 a1 us (e1 i1 (by simp))) (ZT.HQ (prog:=X.prog) (w:=X.w) (A:=X.A.in1) (I.ok.hd hc) b2 i2 a2 vs (e2 i2 (by simp))) ap t1 t2 t3 ⟨t4,p1⟩ ⟨t5,p2⟩ (aE.mp hu).1 (aE.mp hv).1
   fun u' v' h' tk r1 r2 r3 r4 r5 r6 r7 r8 r9=>⟨_,rfl,wpAny_letOwnedTupleGo_zip (s:={ s with heap:=h',toks:=tk }) r3 fun h'' z'' sb=>?_⟩
  rw [hu]at r1;rw [hv]at r2;cases r1;cases r2;have keep:∀b o,b ∉ [z,TI,TO,i1,i2]→s.heap.get? b=some o→h''.get? b=some o:=fun b o hb q=>by
   simp only [List.mem_cons,List.not_mem_nil,or_false,not_or]at hb;exact(sb.2 b hb.1).trans (r9 b o hb.1 hb.2.2.1 hb.2.2.2.1 hb.2.2.2.2 q)
  have lt:∀b∈[z,TI,TO,i1,i2],b<s.heap.objs.size:=fun b hb=>by
   have hb:b=z∨b=TI∨b=TO∨b=i1∨b=i2:=by simpa using hb
   rcases hb with rfl | rfl | rfl | rfl | rfl
   ·exact aF t1
   ·exact aF t2
   ·exact aF t3
   ·obtain⟨o,e,_⟩:=Mz t4;exact aF e
   ·obtain⟨o,e,_⟩:=Mz t5;exact aF e
  have hTn:H s.heap.objs.size=none:=I.Ap.fresh (aJ _);have hT'':h''.get? s.heap.objs.size=some { cls:=.type "tuple",data:=.seq #[u,v] }:=(sb.2 _ (ag (lt z (by simp)))).trans r7;have neT:∀b o,s.heap.get? b=some o→b≠s.heap.objs.size:=fun b o q=>aG (aF q);have GU:∀b o,H b=some o→b ∉ [z,TI,TO,i1,i2]:=fun b o q hb=>by rw [(hf b hb).1]at q;cases q
  refine⟨.ref s.heap.objs.size,upd H s.heap.objs.size (.tup [x,y]),?_,rfl,⟨_,x,y,rfl,hTn,rfl,fun zs hz=>by rw [hz.inj q1];exact hx,fun zs hz=>by rw [hz.inj q2];exact hy⟩,⟨z'',?_,⟨u,v,?_⟩,?_,?_⟩,fun b hb=>?_⟩
  ·show Inv X pins σ _ { s with heap:=h'',gens:=s.gens,drawn:=s.drawn,toks:=tk };refine I.step (h':=h'') (g':=s.gens) (d':=s.drawn) (t':=tk) (ch:=[z,TI,TO,i1,i2]) (fun b hb=>?_) (fun b o _ _ hc q _=>keep b o hc q) (fun b o _ _ hc q _=>⟨o.slots,keep b o hc q⟩)
    (fun b o _ q n=>by rw [AM (neT b o q)];exact n) (fun b o hc q=>⟨o,keep b o hc q⟩) (fun b ys q=>by rw [AM (Aj q hTn)];exact q) (fun b o u q=>by rw [AM (Aj q hTn)];exact q)
    (fun b ps q=>⟨#[],by rw [AM (Aj q hTn),q];simp⟩) (fun m hm=>?_) (fun b o q=>?_) I.bare
   ·obtain⟨_,f1,_,f3,f4,f5⟩:=hf b hb;exact⟨f3,f1,f4,f5⟩
   ·obtain⟨o,es,ep,ho,r⟩:=hm;exact⟨o,es,ep,keep _ o (fun hb=>(hf _ hb).2.1 rfl) ho,r⟩
   ·by_cases hb:b=s.heap.objs.size
    ·subst hb;rw [AX]at q;cases q;exact⟨Xg,[u,v],.cons ru (.cons rv .nil),_,hT'',rfl,_,rfl⟩
    ·rw [AM hb]at q;refine(I.Ap b o q).JH (fun c w hc r=>keep c w ?_ r) (fun c r=>by rw [AM (Aj r hTn)];exact r) fun c ys r=>by rw [AM (Aj r hTn)];exact r
     rcases hc with rfl | hc
     ·exact GU _ _ q
     ·exact GU _ _ hc
  ·exact(sb.2 _ (Ne.symm n1)).trans (r9 _ _ (Ne.symm n1) n5 n6 n7 t2)
  ·exact(sb.2 _ (Ne.symm n2)).trans r4
  ·exact LI r5.1 fun o e=>(sb.2 _ (Ne.symm n3)).trans e
  ·exact LI r6.1 fun o e=>(sb.2 _ (Ne.symm n4)).trans e
  ·rw [AM (aG (lt b hb))];exact(hf b hb).1
 done:=by
  intro X hP hw hK hc i pins s σ H E I hf st hg;subst hP hw hK;obtain⟨xs,ys,q1,q2,he⟩:=hg;obtain⟨us,rv1,p1⟩:=q1.raw I;obtain⟨vs,rv2,p2⟩:=q2.raw I;obtain⟨t1,t2,⟨ta,tb,t3⟩,t4,t5⟩:=st;have e1:∀b∈[z,TI,TO,i1,i2],a1≠b:=fun b hb=>q1.none (hf b hb).1;have e2:∀b∈[z,TI,TO,i1,i2],a2≠b:=fun b hb=>q2.none (hf b hb).1;simp only [List.nodup_cons,List.mem_cons,List.not_mem_nil,or_false,not_or]at ne;obtain⟨⟨n1,n2,n3,n4⟩,⟨n5,n6,n7⟩,⟨n8,n9⟩,n10,_⟩:=ne;have ap:ZT.Apart z TI TO i1 i2 [i1,a1] [i2,a2]:=⟨⟨Ne.symm n1,n5,n6,n7⟩,⟨Ne.symm n2,n8,n9⟩,⟨Ne.symm n3,Ne.symm n4,n10⟩,
   ⟨by simp [n3,Ne.symm (e1 z (by simp))],by simp [n8,Ne.symm (e1 TO (by simp))],by simp [Ne.symm n10,Ne.symm (e1 i2 (by simp))]⟩,⟨by simp [n4,Ne.symm (e2 z (by simp))],by simp [n9,Ne.symm (e2 TO (by simp))],by simp [n10,Ne.symm (e2 i1 (by simp))]⟩⟩
  have he':i=us.length∨(i<us.length∧i=vs.length):=by rw [←rv1.length,←rv2.length];exact he
  refine ZT.next_end (ZT.HQ (prog:=X.prog) (w:=X.w) (A:=X.A.in1) (I.ok.hd hc) b1 i1 a1 us (e1 i1 (by simp))) (ZT.HQ (prog:=X.prog) (w:=X.w) (A:=X.A.in1) (I.ok.hd hc) b2 i2 a2 vs (e2 i2 (by simp))) ap t1 t2 t3 ⟨t4,p1⟩ ⟨t5,p2⟩ he' fun h' tk kp=>⟨rfl,?_⟩;have keep:∀b o,b ∉ [z,TI,TO,i1,i2]→s.heap.get? b=some o→h'.get? b=some o:=fun b o hb q=>by
   simp only [List.mem_cons,List.not_mem_nil,or_false,not_or]at hb;exact kp b o hb.1 hb.2.2.1 hb.2.2.2.1 hb.2.2.2.2 q
  have GU:∀b o,H b=some o→b ∉ [z,TI,TO,i1,i2]:=fun b o q hb=>by rw [(hf b hb).1]at q;cases q
  show Inv X pins σ _ { s with heap:=h',gens:=s.gens,drawn:=s.drawn,toks:=tk };refine I.step (h':=h') (g':=s.gens) (d':=s.drawn) (t':=tk) (ch:=[z,TI,TO,i1,i2]) (fun b hb=>?_) (fun b o _ _ hc q _=>keep b o hc q) (fun b o _ _ hc q _=>⟨o.slots,keep b o hc q⟩)
    (fun b o _ q n=>n) (fun b o hc q=>⟨o,keep b o hc q⟩) (fun b ys q=>q) (fun b o u q=>q)
    (fun b ps q=>⟨#[],by rw [q];simp⟩) (fun m hm=>?_) (fun b o q=>?_) I.bare
  ·obtain⟨_,f1,_,f3,f4,f5⟩:=hf b hb;exact⟨f3,f1,f4,f5⟩
  ·obtain⟨o,es,ep,ho,r⟩:=hm;exact⟨o,es,ep,keep _ o (fun hb=>(hf _ hb).2.1 rfl) ho,r⟩
  ·refine(I.Ap b o q).JH (fun c w hc r=>keep c w ?_ r) (fun c r=>r) fun c ys r=>r;rcases hc with rfl | hc
   ·exact GU _ _ q
   ·exact GU _ _ hc
 self:=fun _ _ _ _ _ st h=>wpAny_pyIter_zip st.1 h
def mf(ta:TA):TI:=fun σ H R=>ta σ H fun vs H1=>∃(b1 b2:Bool) (a1 a2:Addr),vs=[.ref a1,.ref a2]∧(∃xs,Ew b1 H1 a1 xs)∧(∃ys,Ew b2 H1 a2 ys)∧R (jN b1 b2 a1 a2) H1
theorem iP{X:Cx}{elts:List Expr}{x1}{tpos:Pos}{a b:Expr}{ta:TA}{p pos:Pos}(hg:Gl X "zip")(hm:X.mg "zip" = none)(ha:PA X [a,b] ta)(hs:starEach [a,b] X.env=[(false,eval a X.env),(false,eval b X.env)]:=by rfl)(hs2:starEach [b] X.env=[(false,eval b X.env)]:=by rfl) :
  PI X (.Tuple elts x1 tpos) (.Call (.Name "zip" p) [a,b] [] pos) (mf ta):=by
 intro pins s σ H R I h;refine Call_ (FL I hg hm boot_zip (au (BB (ha pos pins s σ H _ I h) fun us s1 ⟨vs,H1,I1,r1,q1⟩=>?_) (by rw [hs,hs2]) (by rw [hs2];rfl)));obtain⟨b1,b2,l1,l2,e,⟨xs,h1⟩,⟨ys,h2⟩,q⟩:=q1;subst e;cases r1 with
 |cons r rr =>
  cases rr with
  |cons r' rr =>
   cases rr;cases r;cases r';obtain⟨us,_,p1⟩:=h1.raw I1;obtain⟨vs,_,p2⟩:=h2.raw I1;refine ZT.Sf p1 p2 fun h' z1 z2 z3 z4 z5 hk=>wpAny_pyIter_zip z1 ?_;have I2:Inv X pins σ H1 { s1 with heap:=h' }:=I1.kept (t':=s1.toks) hk;refine⟨_,[s1.heap.objs.size+4,s1.heap.objs.size+2,s1.heap.objs.size+3,s1.heap.objs.size,s1.heap.objs.size+1],_,_,H1,rfl,I2,Z5 ?_,⟨z1,z2,⟨_,_,z3⟩,z4,z5⟩,fun b hb=>?_,q⟩
   ·simp
   have hb':s1.heap.objs.size≤b:=by
    have hb2:b=s1.heap.objs.size+4∨b=s1.heap.objs.size+2∨b=s1.heap.objs.size+3∨b=s1.heap.objs.size∨b=s1.heap.objs.size+1:=by simpa using hb
    rcases hb2 with h | h | h | h | h<;>rw [h]<;>first | exact aJ _ | exact Nat.le_add_right _ _
   exact I1.P5 hb' (I1.Ap.fresh hb')
def jP(K:Fg)(a:Addr):It :=
 ⟨fun i H=>∃xs x,A4 K H a xs∧xs[i]? = some x,fun i H v H'=>∃p x,v=.ref p∧H p=none∧H'=upd H p (.tup [.int i,x])∧∀xs,A4 K H a xs→xs[i]? = some x,fun i H=>∃xs,A4 K H a xs∧xs.length=i⟩
theorem V8{P:Program}{w:World}{K:Fg}{elts:List Expr}{x1}{pos:Pos}(a e it:Addr)(hne:e≠it) :
  Turn P w K (.Tuple elts x1 pos) (jP K a) [e,it] e (fun i h=>(∃old,IsEnum h e it (i:Nat) old)∧h.IsListIter it a i) where
 mem:=by simp
 obj:=fun i h st b hb=>by
  rcases aM.mp hb with rfl | hb
  ·obtain⟨⟨old,q⟩,_⟩:=st;exact⟨_,q,fun v z=>by cases z⟩
  ·have e2:b=it:=by simpa using hb
   subst e2;obtain⟨_,o,q,c,d⟩:=st;exact⟨o,q,fun v z=>by rw [d]at z;cases z⟩
 keep:=fun i h h' st k=>by
  obtain⟨⟨old,q⟩,o,q2,r⟩:=st;exact⟨⟨old,k e (by simp) _ q⟩,o,k it (by simp) _ q2,r⟩
 item:=by
  intro X hP hw hK hc i pins s σ H E I hf st hg;subst hP hw hK;obtain⟨xs,x,hq,hx⟩:=hg;obtain⟨its,rv,pL,hz⟩:=I.list hq;have p:=pL.isList;obtain⟨u,hu,ru⟩:=rv.get hx;obtain⟨⟨old,he⟩,hit⟩:=st;have hai:a≠it:=fun z=>by
   obtain⟨o,e1,c1,_⟩:=p;obtain⟨o2,e2,c2,_⟩:=hit;rw [z,e2]at e1;cases e1;rw [c1]at c2;exact absurd c2 (by decide)
  have hae:a≠e:=fun z=>by
   obtain⟨o,e1,c1,_⟩:=p;rw [z,he]at e1;cases e1;exact absurd (show Value.type "enumerate" = Value.type "list" from c1) (by decide)
  have hlt:i<its.length:=(aE.mp hu).1;have hE0:=hf e (by simp);have hI0:=hf it (by simp);refine wpAny_pyNext_enum_itemD (Draws.list (prog:=X.prog) (w:=X.w) (A:=X.A.in1) (I.ok.hd hc) it a hai its.toArray) he ⟨hit,p⟩ (by simpa using hlt) hne (by simp [hne,Ne.symm hae]) fun y h' tk hy ho hs' hT hsz hk=>⟨_,rfl,wpAny_letOwnedTupleGo_enum (s:={ s with heap:=h',toks:=tk+1 }) ho fun h'' he'' sb=>?_⟩;have hyu:y=u:=by
   have hy:its[i]? = some y:=by simpa using hy
   rw [hu]at hy;exact(aY hy).symm
  subst hyu;have keep:∀b o,b≠e→b≠it→s.heap.get? b=some o→h''.get? b=some o:=fun b o h1 h2 q=>(sb.2 b h1).trans (hk b o h1 h2 q);have hTe:s.heap.objs.size≠e:=ag (aF he);have hTi:s.heap.objs.size≠it:=let⟨_,q,_⟩:=hit;ag (aF q);have hT'':h''.get? s.heap.objs.size=some { cls:=.type "tuple",data:=.seq #[.int i tk,y] }:=(sb.2 _ hTe).trans hT;have hTn:H s.heap.objs.size=none:=I.Ap.fresh (aJ _);have neT:∀b o,s.heap.get? b=some o→b≠s.heap.objs.size:=fun b o q=>aG (aF q);have GU:∀b o,H b=some o→b≠e∧b≠it:=fun b o q=>⟨(fun z=>by rw [z,hE0.1]at q;cases q),(fun z=>by rw [z,hI0.1]at q;cases q)⟩;refine⟨.ref s.heap.objs.size,upd H s.heap.objs.size (.tup [.int i,x]),?_,rfl,⟨_,x,rfl,hTn,rfl,fun ys hy=>by rw [I.Tj hy hq];exact hx⟩,⟨⟨_,by simpa using he''⟩,?_⟩,fun b hb=>?_⟩
  ·show Inv X pins σ _ { s with heap:=h'',gens:=s.gens,drawn:=s.drawn,toks:=tk+1 };refine I.step (h':=h'') (g':=s.gens) (d':=s.drawn) (t':=tk+1) (ch:=[e,it]) (fun b hb=>?_) (fun b o _ _ hc q _=>keep b o (fun z=>hc (by simp [z])) (fun z=>hc (by simp [z])) q) (fun b o _ _ hc q _=>⟨o.slots,keep b o (fun z=>hc (by simp [z])) (fun z=>hc (by simp [z])) q⟩)
    (fun b o _ q n=>by rw [AM (neT b o q)];exact n) (fun b o hc q=>⟨o,keep b o (fun z=>hc (by simp [z])) (fun z=>hc (by simp [z])) q⟩) (fun b ys q=>by rw [AM (Aj q hTn)];exact q) (fun b o u q=>by rw [AM (Aj q hTn)];exact q)
    (fun b ps q=>⟨#[],by rw [AM (Aj q hTn),q];simp⟩) (fun m hm=>?_) (fun b o q=>?_) I.bare
   ·rcases aM.mp hb with rfl | hb
    ·exact⟨hE0.2.2.2.1,hE0.2.1,hE0.2.2.2.2.1,hE0.2.2.2.2.2⟩
    ·have e2:b=it:=by simpa using hb
     subst e2;exact⟨hI0.2.2.2.1,hI0.2.1,hI0.2.2.2.2.1,hI0.2.2.2.2.2⟩
   ·obtain⟨o,es,ep,ho,r⟩:=hm;exact⟨o,es,ep,keep _ o (Ne.symm hE0.2.1) (Ne.symm hI0.2.1) ho,r⟩
   ·by_cases hb:b=s.heap.objs.size
    ·subst hb;rw [AX]at q;cases q;exact⟨Xg,[.int i tk,y],.cons ⟨tk,rfl⟩ (.cons ru .nil),_,hT'',rfl,_,rfl⟩
    ·rw [AM hb]at q;refine(I.Ap b o q).JH (fun c v hc r=>keep c v ?_ ?_ r) (fun c r=>by rw [AM (Aj r hTn)];exact r) fun c ys r=>by rw [AM (Aj r hTn)];exact r
     ·rcases hc with rfl | hc
      ·exact(GU _ _ q).1
      ·exact(GU _ _ hc).1
     ·rcases hc with rfl | hc
      ·exact(GU _ _ q).2
      ·exact(GU _ _ hc).2
  ·obtain⟨⟨o,q,r⟩,_⟩:=hs';exact⟨o,(sb.2 it (Ne.symm hne)).trans q,r⟩
  ·rcases aM.mp hb with rfl | hb
   ·rw [AM (Ne.symm hTe)];exact hE0.1
   ·have e2:b=it:=by simpa using hb
    subst e2;rw [AM (Ne.symm hTi)];exact hI0.1
 done:=by
  intro X hP hw hK hc i pins s σ H E I hf st hg;subst hP hw hK;obtain⟨xs,hq,hx⟩:=hg;obtain⟨its,rv,pL,hz⟩:=I.list hq;have p:=pL.isList;obtain⟨⟨old,he⟩,hit⟩:=st;have hai:a≠it:=fun z=>by
   obtain⟨o,e1,c1,_⟩:=p;obtain⟨o2,e2,c2,_⟩:=hit;rw [z,e2]at e1;cases e1;rw [c1]at c2;exact absurd c2 (by decide)
  have hl:its.length=i:=by rw [←rv.length];exact hx
  subst hl;obtain⟨f0,f1,f2,f3,f4,f5⟩:=hf it (by simp);exact wpAny_pyNext_enum_endD (Draws.list (prog:=X.prog) (w:=X.w) (A:=X.A.in1) (I.ok.hd hc) it a hai its.toArray) he ⟨hit,p⟩ fun h' eb=>⟨rfl,I.turned (t':=s.toks) (fun b o hb q=>eb b o hb q) f0 f1 f3 f4 f5⟩
 self:=fun _ _ _ _ _ st h=>by
  obtain⟨⟨old,he⟩,_⟩:=st;exact wpAny_pyIter_enum he h
def gN(K:Fg)(ta:TA):TI:=fun σ H R=>ta σ H fun vs H1=>∃a,vs=[.ref a]∧(∃xs,A4 K H1 a xs)∧R (jP K a) H1
theorem Zp{X:Cx}{elts:List Expr}{x1}{tpos:Pos}{a:Expr}{ta:TA}{p pos:Pos}(hg:Gl X "enumerate")(hm:X.mg "enumerate" = none)(ha:PA X [a] ta)(hs:starEach [a] X.env=[(false,eval a X.env)]:=by rfl) :
  PI X (.Tuple elts x1 tpos) (.Call (.Name "enumerate" p) [a] [] pos) (gN X.K ta):=by
 intro pins s σ H R I h;refine Call_ (FL I hg hm boot_enumerate (au (BB (ha pos pins s σ H _ I h) fun us s1 ⟨vs,H1,I1,r1,q1⟩=>?_) hs rfl));obtain⟨t,e,⟨xs,hq⟩,q⟩:=q1;subst e;cases r1 with
 |cons r rr =>
  cases rr;cases r;obtain⟨its,rv,p',hz⟩:=I1.list hq;refine call_enumerate_list (show s1.heap.IsList t its.toArray from p'.isList) fun h' he hit hsz hk=>wpAny_pyIter_enum he ?_;have I2:Inv X pins σ H1 { s1 with heap:=h' }:=I1.kept (t':=s1.toks) hk;have hn:s1.heap.objs.size+1≠s1.heap.objs.size:=by omega
  refine⟨s1.heap.objs.size+1,[s1.heap.objs.size+1,s1.heap.objs.size],_,_,H1,rfl,I2,V8 t _ _ hn,⟨⟨_,he⟩,hit⟩,fun b hb=>?_,q⟩;have hb':s1.heap.objs.size≤b:=by
   have hb2:b=s1.heap.objs.size+1∨b=s1.heap.objs.size:=by simpa using hb
   rcases hb2 with z | z
   ·rw [z];exact Nat.le_succ _
   ·rw [z];exact aJ _
  exact I1.P5 hb' (I1.Ap.fresh hb')
def ZR(i:Expr):Prop:=∀ov iv,subscripted i false ov iv=operate [ov,iv] (getItem ov iv)
theorem eh{prog:Program}{w:World}{A:Around}{E:Value→Shared→Prop}{s:Shared}{env:Env}{value slice:Expr}{pos:Pos}{T id:String}{Q:Value→Shared→Prop}
 (hl:typeLookup (.type T) "__getitem__" = pure (some (.builtin id)))(hs:ZR slice)
 (h:wpAny (model prog w) A (eval value env) (fun o s₁=>wpAny (model prog w) A (eval slice env) (fun i s₂=>s₂.TypeIs o T∧wpAny (model prog w) A (getItem o i) Q E s₂) E s₁) E s) :
  wpAny (model prog w) A (eval (.Subscript value slice pos) env) Q E s:=by
 refine Subscript_ (ai h (fun o s₁ h₁=>ai h₁ (fun i s₂ h₂=>?_) fun _ _ x=>x) fun _ _ x=>x);obtain⟨hT,h₂⟩:=h₂;unfold subscriptTail;refine Wb ?_;rw [getitemInPython_of_ne hT.not_modules];refine Wb (wpAny_specialOf hT hl ?_);have fin:wpAny (model prog w) A (subscripted slice false o i) (fun r s₃=>wpAny (model prog w) A (letTemporaryGo value o r>>=fun _=>pure r) Q E s₃) E s₂:=by
  rw [hs o i];exact wpAny_operating (ai h₂ (fun r s₃ h₃=>Wb (wpAny_letTemporaryGo (aA h₃))) fun _ _ x=>x)
 first
  |exact aA (Wb fin)
  |exact Wb (aA (Wb fin))
  |exact Wb fin
end L2
namespace TH
open PySem PyProof.Rows PySem.SeqAt
def IX:Tr→List Int
 |.nil=>[]
 |.cons b r=>reduceHash (Builtin.Tuple.tupleHashOf (IX b))::IX r
def BD(t:Tr):Int:=reduceHash (Builtin.Tuple.tupleHashOf (IX t))
section
variable{prog:Program}{w:World}{E:Value→Shared→Prop}
theorem IsTuple.ty{h:Heap}{a:Addr}{x:Array Value}{s:Shared}(e:s.heap=h)(k:h.IsTuple a x):s.TypeIs (.ref a) "tuple" := by
 subst e;obtain⟨o,ho,hc,_⟩:=k;exact⟨o,ho,hc⟩
def Us(prog:Program)(w:World)(E:Value→Shared→Prop)(t:Tr):Prop:=∀(us:List Value) (A:Around) (s:Shared) (b:Array Int) (Q:Array Int→Shared→Prop),Vs s.heap t us→A.units+t.deep≤cLine →
 (∀tk b',b'.toList=b.toList++IX t→Q b' { s with toks:=tk })→wpAny (model prog w) A (forIn us b fun x r=>do let h ←pyHash x;pure PUnit.unit;pure (ForInStep.yield (r.push h))) Q E s
theorem NQ{t:Tr}(row:Us prog w E t){a:Addr}{its:List Value}{A:Around}{s:Shared}{Q:Int→Shared→Prop}(h1:s.heap.IsTuple a its.toArray)(h2:Vs s.heap t its)(hu:A.units+t.deep<cLine)
 (h:∀tk,Q (BD t) { s with toks:=tk }):wpAny (model prog w) A (pyHash (.ref a)) Q E s:=by
 have hT:=IsTuple.ty rfl h1;obtain⟨o,ho,hc,n,hd⟩:=id h1;refine PySem.W.pyHash_slot (T := "tuple") hT F.slot_tuple_hash F.entry_tuple_hash (F.args_tuple_hash_1 _) (beq_builtin_none _) (.inr (by omega)) ?_;show wpAny _ _ (Builtin.Tuple.tupleItemsOf (.ref a)>>=_) _ _ s;refine Wb (wpAny_tupleItemsOf ho hd ?_);refine Wb ?_;rw [←Array.forIn_toList];refine row its A.in1 s #[] _ h2 (by rw [Around.in1_units];omega) fun tk b hb=>?_;show wpAny _ _ (retInt (Builtin.Tuple.tupleHashOf b.toList)) _ _ _;rw [hb];exact Wb (wpAny_mkInt (aA ⟨_,_,rfl,h _⟩))
theorem OU:∀t:Tr,Us prog w E t
 |.nil=>fun us A s b Q e _ h=>by rw [Vs]at e;subst e;exact aA (h s.toks b (by simp [IX]))
 |.cons c r=>fun us A s b Q e hu h=>by
  rw [Vs]at e;obtain⟨a,its,rest,rfl,h1,h2,h3⟩:=e;have hd:(Tr.cons c r).deep=max (c.deep+1) r.deep:=rfl;rw [List.forIn_cons];refine Wb (Wb (NQ (OU c) h1 h2 (by omega) fun tk=>?_));refine Wb (aA (aA ?_));exact OU r rest A _ _ Q h3 (by omega) fun tk' b' hb=>h tk' b' (by simp [hb,IX,BD])
theorem e7{t:Tr}{a:Addr}{its:List Value}{A:Around}{s:Shared}{Q:Int→Shared→Prop}(h1:s.heap.IsTuple a its.toArray)(h2:Vs s.heap t its)(hu:A.units+t.deep<cLine)
 (h:∀tk,Q (BD t) { s with toks:=tk }):wpAny (model prog w) A (pyHash (.ref a)) Q E s:=NQ (OU t) h1 h2 hu h
def Good(h:Heap)(n:Nat)(v:Value):Prop:=∃a its t,v=.ref a∧h.IsTuple a its.toArray∧Vs h t its∧t.deep<n
theorem K6{h:Heap}:∀ {t:Tr} {us:List Value} {n:Nat},Vs h t us→t.deep≤n→∀v∈us,Good h n v
 |.nil,us,n,e,_,v,hv=>by rw [Vs]at e;subst e;cases hv
 |.cons c r,us,n,e,hd,v,hv=>by
  rw [Vs]at e;obtain⟨a,its,rest,rfl,h1,h2,h3⟩:=e;rw [Tr.deep]at hd;rcases aM.mp hv with rfl | hv
  ·exact⟨a,its,c,rfl,h1,h2,by omega⟩
  ·exact K6 h3 (by omega) v hv
theorem S4:∀(n:Nat) {v:Value} {A:Around} {s:Shared} {Q:Bool→Shared→Prop},Good s.heap n v→Q true s→wpAny (model prog w) A (hashByValue n v) Q E s
 |0,v,A,s,Q,⟨_,_,_,_,_,_,z⟩,_=>absurd z (ak _)
 |n+1,v,A,s,Q,⟨a,its,t,e,h1,h2,hd⟩,h=>by
  subst e;have hT:=IsTuple.ty rfl h1;obtain⟨o,ho,hc,k,hdt⟩:=id h1;unfold hashByValue;refine Wb (wpAny_specialOf hT F.slot_tuple_hash.lookup ?_);refine Wb (az ho hdt ?_);refine Wb ?_;show wpAny _ _ (forIn its.toArray _ _) _ _ s;rw [←Array.forIn_toList];refine wpAny_forIn_list _ (fun rest r s'=>r.1=none∧s'=s∧∀v∈rest,Good s.heap n v) _ ?_ ?_ _ _ ⟨rfl,rfl,K6 h2 (by omega)⟩
  ·rintro v rest r s' ⟨hr,rfl,hall⟩;refine Wb (S4 n (hall v ae) ?_);simp only [Bool.not_true,Bool.false_eq_true,if_false];exact aA ⟨rfl,rfl,fun u hu'=>hall u (aS _ hu')⟩
  ·rintro⟨r1,r2⟩ s' ⟨hr,rfl,_⟩;simp only at hr;subst hr;exact aA h
theorem quiet:∀(n:Nat) {v:Value} {A:Around} {s:Shared} {Q:Bool→Shared→Prop},Good s.heap n v→Q true s→wpAny (model prog w) A (eqIsQuiet n v) Q E s
 |0,v,A,s,Q,⟨_,_,_,_,_,_,z⟩,_=>absurd z (ak _)
 |n+1,v,A,s,Q,⟨a,its,t,e,h1,h2,hd⟩,h=>by
  subst e;have hT:=IsTuple.ty rfl h1;obtain⟨o,ho,hc,k,hdt⟩:=id h1;unfold eqIsQuiet;refine Wb (wpAny_specialOf hT F.slot_tuple_eq.lookup ?_);show wpAny _ _ (isInstance (.ref a) (.type "tuple")>>=_) _ _ s;refine Wb (wpAny_isInstance hT isSubtype_tuple_tuple ?_);simp only [Bool.not_true,Bool.false_eq_true,if_false];refine Wb (az ho hdt ?_);refine Wb ?_;show wpAny _ _ (forIn its.toArray _ _) _ _ s;rw [←Array.forIn_toList];refine wpAny_forIn_list _ (fun rest r s'=>r.1=none∧s'=s∧∀v∈rest,Good s.heap n v) _ ?_ ?_ _ _ ⟨rfl,rfl,K6 h2 (by omega)⟩
  ·rintro v rest r s' ⟨hr,rfl,hall⟩;refine Wb (quiet n (hall v ae) ?_);simp only [Bool.not_true,Bool.false_eq_true,if_false];exact aA ⟨rfl,rfl,fun u hu'=>hall u (aS _ hu')⟩
  ·rintro⟨r1,r2⟩ s' ⟨hr,rfl,_⟩;simp only at hr;subst hr;exact aA h
theorem Ny:∀(n:Nat) {v:Value} {A:Around} {s:Shared} {Q:Bool→Shared→Prop},Good s.heap n v→Q false s→wpAny (model prog w) A (ofAClassStatement n v) Q E s
 |0,v,A,s,Q,⟨_,_,_,_,_,_,z⟩,_=>absurd z (ak _)
 |n+1,v,A,s,Q,⟨a,its,t,e,h1,h2,hd⟩,h=>by
  subst e;have hT:=IsTuple.ty rfl h1;obtain⟨o,ho,hc,k,hdt⟩:=id h1;unfold ofAClassStatement;refine Wb (wpAny_typeOf hT ?_);have ht:("tuple" == "tuple")=true:=by rfl
  dsimp only;rw [if_pos ht];refine Wb (aA ?_);simp only [Bool.not_true,Bool.false_eq_true,if_false];refine Wb (az ho hdt ?_);refine Wb ?_;rw [←Array.forIn_toList];refine wpAny_forIn_list _ (fun rest r s'=>r.1=none∧s'=s∧∀v∈rest,Good s.heap n v) _ ?_ ?_ _ _ ⟨rfl,rfl,K6 h2 (by omega)⟩
  ·rintro v rest r s' ⟨hr,rfl,hall⟩;refine Wb (Ny n (hall v ae) ?_);simp only [Bool.false_eq_true,if_false];exact aA ⟨rfl,rfl,fun u hu'=>hall u (aS _ hu')⟩
  ·rintro⟨r1,r2⟩ s' ⟨hr,rfl,_⟩;simp only at hr;subst hr;exact aA h
theorem ZO{x:Value}{l:List Value}{A:Around}{s:Shared}{Q:Bool→Shared→Prop}(hx:Good s.heap 8 x)(hl:∀y∈l,Good s.heap 8 y)(h:Q false s):wpAny (model prog w) A (searchCouldBeSeen x l) Q E s:=by
  unfold searchCouldBeSeen
  refine Wb ?_
  refine wpAny_forIn_list _ (fun rest r s'=>r.1=none∧s'=s∧∀v∈rest,Good s.heap 8 v) _ ?_ ?_ _ _ ⟨rfl,rfl,hl⟩
  · rintro v rest r s' ⟨hr,rfl,hall⟩
    have go:∀b:Bool,wpAny (model prog w) A (if b=true then pure (ForInStep.yield (none,())) else do
        let q ←eqIsQuiet 8 x
        if(!q)=true then pure (ForInStep.done (some true,())) else do
          let q ←eqIsQuiet 8 v
          if(!q)=true then pure (ForInStep.done (some true,())) else do
            let q ←ofAClassStatement 8 x
            if q=true then pure (ForInStep.done (some true,())) else do
              let q ←ofAClassStatement 8 v
              if q=true then pure (ForInStep.done (some true,())) else pure (ForInStep.yield (none,())))
        (fun st s''=>match st with
          |ForInStep.yield r=>r.1=none∧s''=s'∧∀v∈rest,Good s'.heap 8 v
          |ForInStep.done r=>False) E s':=fun b=>by
      cases b with
      |true=>rw [if_pos rfl];exact aA ⟨rfl,rfl,fun u hu'=>hall u (aS _ hu')⟩
      |false =>
        rw [if_neg aK]
        refine Wb (quiet 8 hx ?_)
        simp only [Bool.not_true,Bool.false_eq_true,if_false]
        refine Wb (quiet 8 (hall v ae) ?_)
        simp only [Bool.not_true,Bool.false_eq_true,if_false]
        refine Wb (Ny 8 hx ?_)
        simp only [Bool.false_eq_true,if_false]
        refine Wb (Ny 8 (hall v ae) ?_)
        simp only [Bool.false_eq_true,if_false]
        exact aA ⟨rfl,rfl,fun u hu'=>hall u (aS _ hu')⟩
    refine ai (go _) (fun st s'' z=>?_) fun _ _ z=>z
    cases st with
    |yield r=>exact z
    |done r=>exact z.elim
  · rintro⟨r1,r2⟩ s' ⟨hr,rfl,_⟩
    simp only at hr
    subst hr
    exact aA h
end
end TH
namespace TH
open PySem PyProof.Rows PySem.SeqAt
abbrev ES:=Array (Int×Tr)
def NW(et:ES)(i:Nat):Int:=(et[i]?.map (·.1)).getD 0
def Wl(et:ES)(t:SetTable)(x:Tr)(h:Int):Option (Option Nat) :=
 if t.gaveWay then none else
 match t.probe (NW et) h (t.probeStart h) with
 |some (.empty j none)=>some (some j)
 |some (.candidate _ i _)=>match et[i]? with
  |some (_,y)=>if y=x then some none else none
  |none=>none
 |_=>none
def HU(st:ES×SetTable)(x:Tr):Option (ES×SetTable) :=
 if(st.2.fits st.1.size&&decide (st.1.size≤1000)&&st.2.plain)=false then none else
 match Wl st.1 st.2 x (BD x) with
 |none=>none
 |some none=>some st
 |some (some slot) =>
  if(st.2.put slot).1.tooFull=false then some (SetTable.insertAt st.1 (st.2.put slot).2 (BD x,x),(st.2.put slot).1) else
  if((st.2.put slot).1.fits (SetTable.insertAt st.1 (st.2.put slot).2 (BD x,x)).size&&decide (SetTable.sizeAbove (SetTable.grown (st.1.size+1))≤100000))=false then none else
  match (st.2.put slot).1.relaid ((SetTable.insertAt st.1 (st.2.put slot).2 (BD x,x)).map (·.1)) (SetTable.grown (st.1.size+1)) with
  |none=>none
  |some (t',order) =>
   if(order.filterMap ((SetTable.insertAt st.1 (st.2.put slot).2 (BD x,x))[·]?)).size=(SetTable.insertAt st.1 (st.2.put slot).2 (BD x,x)).size then
    some (order.filterMap ((SetTable.insertAt st.1 (st.2.put slot).2 (BD x,x))[·]?),t') else none
def Nz(G:Value→Tr→Prop)(h:Heap)(p:Int×Value)(q:Int×Tr):Prop:=p.1=q.1∧q.2.deep<8∧G p.2 q.2∧∃a its,p.2=.ref a∧h.IsTuple a its.toArray∧Vs h q.2 its
abbrev Dg(G:Value→Tr→Prop)(h:Heap)(ev:Array (Int×Value))(et:ES):Prop:=Paired (Nz G h) ev.toList et.toList
variable{G:Value→Tr→Prop}
section
variable{α β:Type}{F:α→β→Prop}
theorem Paired.get:∀ {l:List α} {m:List β},Paired F l m→∀ {i:Nat} {y:β},m[i]? = some y→∃x,l[i]? = some x∧F x y
 |_,_,.nil,i,y,h=>by simp at h
 |_,_,.cons h1 r,0,y,h=>by simp at h;subst h;exact⟨_,rfl,h1⟩
 |_,_,.cons h1 r,i+1,y,h=>Paired.get r (by simpa using h)
theorem Paired.none:∀ {l:List α} {m:List β},Paired F l m→∀ {i:Nat},m[i]? = Option.none→l[i]? = Option.none:=fun {l m} r i h=>by
 have:=r.length;rw [List.getElem?_eq_none_iff]at h ⊢;omega
theorem Paired.app{l2:List α}{m2:List β}(k:Paired F l2 m2):∀ {l:List α} {m:List β},Paired F l m→Paired F (l++l2) (m++m2)
 |_,_,.nil=>k
 |_,_,.cons h r=>.cons h (Paired.app k r)
theorem Paired.take:∀ {l:List α} {m:List β} (n:Nat),Paired F l m→Paired F (l.take n) (m.take n)
 |_,_,0,_=>by simpa using Paired.nil
 |_,_,n+1,.nil=>by simpa using Paired.nil
 |_,_,n+1,.cons h r=>.cons h (Paired.take n r)
theorem Paired.drop:∀ {l:List α} {m:List β} (n:Nat),Paired F l m→Paired F (l.drop n) (m.drop n)
 |_,_,0,h=>h
 |_,_,n+1,.nil=>by simpa using Paired.nil
 |_,_,n+1,.cons h r=>Paired.drop n r
theorem Paired.pick{l:List α}{m:List β}(r:Paired F l m):∀(o:List Nat),Paired F (o.filterMap (l[·]?)) (o.filterMap (m[·]?))
 |[]=>.nil
 |i::o=>by
  rw [List.filterMap_cons,List.filterMap_cons];cases e:m[i]? with
  |none=>rw [Paired.none r e];exact Paired.pick r o
  |some y =>
   obtain⟨x,e2,h⟩:=Paired.get r e;rw [e2];exact .cons h (Paired.pick r o)
theorem Paired.imp{G:α→β→Prop}(h:∀a b,F a b→G a b):∀ {l:List α} {m:List β},Paired F l m→Paired G l m
 |_,_,.nil=>.nil
 |_,_,.cons k r=>.cons (h _ _ k) (Paired.imp h r)
end
theorem IC{α:Type}(xs:Array α)(p:Nat)(x:α):(SetTable.insertAt xs p x).toList=xs.toList.take p++x::xs.toList.drop p:=by
 unfold SetTable.insertAt;simp [List.extract];rw [List.take_of_length_le (by simp)]
theorem Dg.fst{h:Heap}{ev:Array (Int×Value)}{et:ES}(r:Dg G h ev et):ev.map (·.1)=et.map (·.1):=by
 have key:∀ {l:List (Int×Value)} {m:List (Int×Tr)},Paired (Nz G h) l m→l.map (·.1)=m.map (·.1):=fun r=>by
  induction r with
  |nil=>rfl
  |cons k _ ih=>rw [List.map_cons,List.map_cons,ih,k.1]
 apply Array.toList_inj.mp
 simpa using key r
theorem Dg.size{h:Heap}{ev:Array (Int×Value)}{et:ES}(r:Dg G h ev et):ev.size=et.size:=by simpa using Paired.length r
theorem Dg.NW{h:Heap}{ev:Array (Int×Value)}{et:ES}(r:Dg G h ev et)(i:Nat):(ev[i]?.map (·.1)).getD 0=NW et i:=by
 have:=bC (fun a:Array Int=>a[i]?) r.fst;simp only [Array.getElem?_map]at this;rw [TH.NW,this]
theorem Dg.good{h:Heap}{ev:Array (Int×Value)}{et:ES}(r:Dg G h ev et):∀p∈ev.toList,Good h 8 p.2:=by
 have key:∀ {l:List (Int×Value)} {m:List (Int×Tr)},Paired (Nz G h) l m→∀p∈l,Good h 8 p.2:=fun r=>by
  induction r with
  |nil=>intro p hp;cases hp
  |cons k _ ih =>
   intro p hp;rcases aM.mp hp with rfl | hp
   ·obtain⟨_,hd,_,a,its,e,h1,h2⟩:=k;exact⟨a,its,_,e,h1,h2,hd⟩
   ·exact ih p hp
 exact key r
theorem Dg.at{h:Heap}{ev:Array (Int×Value)}{et:ES}(r:Dg G h ev et){i:Nat}{z:Int}{y:Tr}(e:et[i]? = some (z,y)):∃a its,ev[i]? = some (z,.ref a)∧h.IsTuple a its.toArray∧Vs h y its∧y.deep<8:=by
 obtain⟨⟨z',v⟩,h1,h2,hd,_,a,its,e2,h3,h4⟩:=Paired.get r (by simpa using e);have h2:z'=z:=h2;have e2:v=.ref a:=e2;subst h2 e2;exact⟨a,its,by simpa using h1,h3,h4,hd⟩
theorem Dg.keeps{h h':Heap}{ev:Array (Int×Value)}{et:ES}(k:∀b o,h.get? b=some o→o.cls=.type "tuple" → h'.get? b=some o)(r:Dg G h ev et):Dg G h' ev et :=
 Paired.imp (fun p q ⟨e,hd,hg,a,its,e2,h1,h2⟩=>⟨e,hd,hg,a,its,e2,(by obtain⟨o,ho,hc,n,hdt⟩:=h1;exact⟨o,k _ _ ho hc,hc,n,hdt⟩),h2.keeps k⟩) r
section
variable{prog:Program}{w:World}{E:Value→Shared→Prop}{A:Around}{s:Shared}{a xa:Addr}{o:Obj}{ev:Array (Int×Value)}{et:ES}{ep:Nat}{t:SetTable}{x:Tr}{its:List Value}{h:Int}
theorem Ys{r:Option Nat}{Q:SetFound→Shared→Prop}(ho:s.heap.get? a=some o)(hd:o.data=.set ev ep t)(hf:t.fits et.size=true)(R:Dg G s.heap ev et)(hx1:s.heap.IsTuple xa its.toArray)(hx2:Vs s.heap x its)(hxd:x.deep<8)
 (hu:A.units+8<cLine)(hs:Wl et t x h=some r)(h0:r=none→Q (.there none) s)(h1:∀j,r=some j→Q (.free j false) s):wpAny (model prog w) A (setSearch a (.ref xa) h true) Q E s:=by
 have hf':t.fits ev.size=true:=by rw [R.size];exact hf
 unfold Wl at hs;by_cases hg:t.gaveWay=true
 ·rw [if_pos hg]at hs;cases hs
 rw [if_neg hg]at hs;unfold setSearch;rw [show(100000:Nat)=99999+1 from rfl,setSearchFrom];refine Wb (bF ho hd hf' ?_);dsimp only;rw [if_neg hg];have hpr:∀f:Nat→Int,(∀i,f i=NW et i)→t.probe f h ((none:Option SetTable.Probe).getD (t.probeStart h))=t.probe (NW et) h (t.probeStart h):=fun f hf=>by
  rw [show f=NW et from funext hf];rfl
 generalize hst:t.probe _ h ((none:Option SetTable.Probe).getD (t.probeStart h))=pr;have hpr':pr=t.probe (NW et) h (t.probeStart h):=hst.symm.trans (hpr _ fun i=>R.NW i);clear hst hpr;subst hpr';cases hp:t.probe (NW et) h (t.probeStart h) with
 |none=>rw [hp]at hs;cases hs
 |some met =>
  rw [hp]at hs;cases met with
  |empty j dummy =>
   cases dummy with
   |none=>cases hs;exact aA (h1 j rfl)
   |some d=>cases hs
  |candidate j i next =>
   cases he:et[i]? with
   |none=>simp only [he]at hs;cases hs
   |some zy =>
    obtain⟨z,y⟩:=zy;simp only [he]at hs;by_cases hy:y=x
    ·rw [if_pos hy]at hs;cases hs;subst hy;obtain⟨b,its2,e1,e2,e3,e4⟩:=R.at he;cases hl:t.led with
     |true =>
      simp only [Bool.not_true,Bool.false_eq_true,if_false];rw [e1];refine Wb (aQ (LF e2 e3 hx1 hx2 (by omega) prog w E _ ?_));rw [decide_eq_true rfl];refine Wb (bF ho hd hf' ?_);exact aA (h0 rfl)
     |false =>
      simp only [Bool.not_false,if_true];refine Wb (ZO ⟨xa,its,_,rfl,hx1,hx2,hxd⟩ (fun v hv=>?_) ?_)
      ·obtain⟨p,hp1,rfl⟩:=aT.mp hv;exact R.good p (Array.mem_toList_iff.mpr (Array.mem_filter.mp (Array.mem_toList_iff.mp hp1)).1)
      simp only [Bool.false_eq_true,if_false];rw [e1];refine Wb (aQ (LF e2 e3 hx1 hx2 (by omega) prog w E _ ?_));rw [decide_eq_true rfl];refine Wb (bF ho hd hf' ?_);exact aA (h0 rfl)
    ·rw [if_neg hy]at hs;cases hs
theorem Gs{n:Nat}(h:n≤100000):n≤sizeLine:=aa h (by rw [sizeLine_eq];decide)
theorem VV{hp:Heap}(ho:hp.get? a=some o)(hd:o.data=.set ev ep t)(ev':Array (Int×Value))(t':SetTable):(hp.update a (Obj.putSet ev' t')).get? a=some { o with data:=.set ev' (ep+1) t' }:=by
 have:=Heap.get?_update_self (Obj.putSet ev' t') ho (by rw [putSet_of ev' t' hd];rfl);rw [putSet_of ev' t' hd]at this;exact this
theorem UJ{hp:Heap}(ho:hp.get? a=some o)(hc:o.cls=.type "set")(g:Obj→Obj):∀b u,hp.get? b=some u→u.cls=.type "tuple" →(hp.update a g).get? b=some u:=fun b u q hu=>by
 have:a≠b:=fun z=>by
  subst z;rw [ho]at q;cases q;rw [hc]at hu
  injection hu with z
  exact absurd z (by decide)
 rw [Heap.get?_update_other _ _ this];exact q
theorem gz{et' : ES}{t' : SetTable}{Q : Bool→Shared→Prop}(ho : s.heap.get? a = some o)(hc : o.cls = .type "set")(hd : o.data = .set ev ep t)(R : Dg G s.heap ev et)(hx1 : s.heap.IsTuple xa its.toArray)(hx2 : Vs s.heap x its)(hxd : x.deep < 8)(hxg : G (.ref xa) x)
 (hu : A.units + 8 < cLine)(hs : HU (et,t) x = some (et',t'))
 (k : ∀ (b : Bool) (h' : Heap) (tk : Nat) (ev' : Array (Int×Value)) (ep' : Nat),Heap.SameBut a s.heap h'→h'.get? a = some { o with data:=.set ev' ep' t' }→Dg G h' ev' et'→Q b { s with heap:=h',toks:=tk }) :
    wpAny (model prog w) A (setAdd a (.ref xa)) Q E s := by
  unfold setAdd
  refine aQ (Wb (e7 hx1 hx2 (by omega) fun tk => ?_))
  unfold setAddHashed
  refine aQ ?_
  unfold HU at hs
  by_cases h1 : (t.fits et.size && decide (et.size≤1000) && t.plain) = false
  · rw [if_pos h1] at hs; cases hs
  rw [if_neg h1] at hs
  simp only [Bool.not_eq_false,Bool.and_eq_true,decide_eq_true_eq] at h1
  obtain ⟨⟨hf,hz⟩,hpl⟩:=h1
  have hf' : t.fits ev.size = true := by rw [R.size]; exact hf
  cases hsr : Wl et t x (BD x) with
  | none => simp only [hsr] at hs; cases hs
  | some r =>
    simp only [hsr] at hs
    rw [show (100000 : Nat) = 99999 + 1 from rfl,setAddHashedIn]
    refine Wb (bF (s:={ s with toks:=tk }) ho hd hf' ?_)
    dsimp only
    have hbs : byScan (.ref xa) ev = false:=rfl
    rw [hbs,if_neg aK]
    refine Wb (Ys (s:={ s with toks:=tk }) ho hd hf R hx1 hx2 hxd hu hsr (fun hr => ?_) fun j hr => ?_)
    · subst hr
      cases hs
      exact aA (k _ s.heap tk ev ep (Heap.SameBut.refl ..) (by rw [ho,← hd]) R)
    · subst hr
      dsimp only at hs ⊢
      refine Wb (bF (s:={ s with toks:=tk }) ho hd hf' ?_)
      dsimp only
      have hpl2 : (t.put j).1.plain = true:=hpl
      rw [if_pos hpl2]
      refine Wb (S4 8 (s:={ s with toks:=tk }) ⟨xa,its,x,rfl,hx1,hx2,hxd⟩ ?_)
      simp only [if_true]
      have R1 : Dg G s.heap (SetTable.insertAt ev (t.put j).2 (BD x,.ref xa)) (SetTable.insertAt et (t.put j).2 (BD x,x)) := by
        unfold Dg
        rw [IC,IC]
        exact Paired.app (.cons ⟨rfl,hxd,hxg,xa,its,rfl,hx1,hx2⟩ (Paired.drop _ R)) (Paired.take _ R)
      have hz1 : (SetTable.insertAt ev (t.put j).2 (BD x,Value.ref xa)).size≤1001 := by
        have h2:=bC List.length (IC ev (t.put j).2 (BD x,Value.ref xa))
        simp only [Array.length_toList,List.length_append,List.length_take,List.length_cons,List.length_drop] at h2
        have:=R.size
        omega
      have hz2 : (SetTable.insertAt et (t.put j).2 (BD x,x)).size = (SetTable.insertAt ev (t.put j).2 (BD x,Value.ref xa)).size:=R1.size.symm
      refine Wb (wpAny_storeSet_of (s:={ s with toks:=tk }) ho hd ?_ (Gs (by omega)))
      have g1:=VV ho hd (SetTable.insertAt ev (t.put j).2 (BD x,.ref xa)) (t.put j).1
      have k1:=UJ ho hc (Obj.putSet (SetTable.insertAt ev (t.put j).2 (BD x,.ref xa)) (t.put j).1)
      have sb1:=aU s.heap a (Obj.putSet (SetTable.insertAt ev (t.put j).2 (BD x,.ref xa)) (t.put j).1)
      by_cases hfull : (t.put j).1.tooFull = false
      · rw [if_pos hfull] at hs
        cases hs
        rw [hfull]
        simp only [Bool.and_false,Bool.false_eq_true,if_false]
        exact aA (k _ _ tk _ _ sb1 g1 (R1.keeps k1))
      · rw [if_neg hfull] at hs
        have hfull : (t.put j).1.tooFull = true := by simpa using hfull
        rw [hfull]
        simp only [Bool.not_false,Bool.and_true,if_true]
        by_cases h2 : ((t.put j).1.fits (SetTable.insertAt et (t.put j).2 (BD x,x)).size && decide (SetTable.sizeAbove (SetTable.grown (et.size + 1))≤100000)) = false
        · rw [if_pos h2] at hs; cases hs
        rw [if_neg h2] at hs
        simp only [Bool.not_eq_false,Bool.and_eq_true,decide_eq_true_eq] at h2
        obtain ⟨hfit,hsa⟩:=h2
        cases hrl : (t.put j).1.relaid ((SetTable.insertAt et (t.put j).2 (BD x,x)).map (·.1)) (SetTable.grown (et.size + 1)) with
        | none => simp only [hrl] at hs; cases hs
        | some to =>
          obtain ⟨t2,order⟩:=to
          simp only [hrl] at hs
          by_cases h3 : (order.filterMap ((SetTable.insertAt et (t.put j).2 (BD x,x))[·]?)).size = (SetTable.insertAt et (t.put j).2 (BD x,x)).size
          · rw [if_pos h3] at hs
            cases hs
            have R2 : Dg G s.heap (order.filterMap ((SetTable.insertAt ev (t.put j).2 (BD x,Value.ref xa))[·]?)) (order.filterMap ((SetTable.insertAt et (t.put j).2 (BD x,x))[·]?)) := by
              unfold Dg
              have:=Paired.pick R1 order.toList
              simpa using this
            have g2:=VV g1 rfl (order.filterMap ((SetTable.insertAt ev (t.put j).2 (BD x,Value.ref xa))[·]?)) t'
            have k2:=UJ g1 hc (Obj.putSet (order.filterMap ((SetTable.insertAt ev (t.put j).2 (BD x,Value.ref xa))[·]?)) t')
            have sb2:=aU (s.heap.update a (Obj.putSet (SetTable.insertAt ev (t.put j).2 (BD x,.ref xa)) (t.put j).1)) a (Obj.putSet (order.filterMap ((SetTable.insertAt ev (t.put j).2 (BD x,Value.ref xa))[·]?)) t')
            refine Wb ?_
            unfold setRelay
            refine Wb (bF g1 rfl (by rw [← hz2]; exact hfit) ?_)
            dsimp only
            rw [R.size,if_neg (Nat.not_lt.mpr (Gs hsa))]
            refine Wb ?_
            rw [R1.fst,hrl]
            have hsz : (order.filterMap ((SetTable.insertAt ev (t.put j).2 (BD x,Value.ref xa))[·]?)).size = (SetTable.insertAt ev (t.put j).2 (BD x,Value.ref xa)).size := by rw [R2.size,h3,hz2]
            have hne : ¬ ((order.filterMap ((SetTable.insertAt ev (t.put j).2 (BD x,Value.ref xa))[·]?)).size != (SetTable.insertAt ev (t.put j).2 (BD x,Value.ref xa)).size) = true := by simp [hsz]
            show wpAny _ _ (do if (order.filterMap ((SetTable.insertAt ev (t.put j).2 (BD x,Value.ref xa))[·]?)).size != (SetTable.insertAt ev (t.put j).2 (BD x,Value.ref xa)).size then unsupported "internal:set-table-lost-an-element"
                               pure (order.filterMap ((SetTable.insertAt ev (t.put j).2 (BD x,Value.ref xa))[·]?),t')) _ _ _
            rw [if_neg hne]
            refine aA ?_
            refine wpAny_storeSet_of g1 rfl ?_ (Gs (by rw [hsz]; omega))
            exact aA (k _ _ tk _ _ (sb1.trans sb2) g2 ((R2.keeps k1).keeps k2))
          · rw [if_neg h3] at hs; cases hs
end
end TH
namespace TH
open PySem
def grow:List Tr→Tr→List Tr
 |_,.nil=>[]
 |pre,.cons b r=>((Tr.of (Tr.Bb (b.bs++[.nil]))::grow [] b).map fun g=>Tr.of (Tr.Bb (pre++g::r.bs)))++grow (pre++[b]) r
def lU(t:Tr):List Tr:=Tr.of (Tr.Bb (t.bs++[.nil]))::grow [] t
def ups(l:List Tr):List Tr:=l.flatMap lU
def MM(st:ES×SetTable):List Tr→Option (ES×SetTable)
 |[]=>some st
 |x::r=>(HU st x).bind fun st'=>MM st' r
def KS(led:Bool):ES×SetTable:=(#[],.fresh 0 0 led)
def O9(st:ES×SetTable):List Tr:=st.1.toList.map (·.2)
def tz:Nat→List Tr
 |0=>[.nil]
 |n+1=>(Tr.Bb ((ups (tz n)).eraseDups)).reverse
end TH
namespace TH
open PySem PyProof.Rows PySem.SeqAt
def Rz(G:Value→Tr→Prop)(h:Heap)(v:Value)(x:Tr):Prop:=x.deep<8∧G v x∧∃a its,v=.ref a∧h.IsTuple a its.toArray∧Vs h x its
abbrev Ip(G:Value→Tr→Prop)(h:Heap)(vs:List Value)(xs:List Tr):Prop:=Paired (Rz G h) vs xs
variable{G:Value→Tr→Prop}
theorem Rz.keeps{h h':Heap}(k:∀b o,h.get? b=some o→o.cls=.type "tuple" → h'.get? b=some o){v:Value}{x:Tr}(r:Rz G h v x):Rz G h' v x:=by
 obtain⟨hd,hg,a,its,e,h1,h2⟩:=r;exact⟨hd,hg,a,its,e,(by obtain⟨o,ho,hc,n,hdt⟩:=h1;exact⟨o,k _ _ ho hc,hc,n,hdt⟩),h2.keeps k⟩
theorem Ip.keeps{h h':Heap}(k:∀b o,h.get? b=some o→o.cls=.type "tuple" → h'.get? b=some o){vs:List Value}{xs:List Tr}(r:Ip G h vs xs):Ip G h' vs xs:=Paired.imp (fun _ _ z=>z.keeps k) r
def K7(G:Value→Tr→Prop)(h:Heap)(S:Addr)(st:ES×SetTable):Prop:=∃o ev ep,h.get? S=some o∧o.ExactSet∧o.data=.set ev ep st.2∧Dg G h ev st.1
theorem K7.keeps{h h':Heap}{S:Addr}{st:ES×SetTable}(x:K7 G h S st)(kS:∀o,h.get? S=some o→h'.get? S=some o)(k:∀b o,h.get? b=some o→o.cls=.type "tuple" → h'.get? b=some o):K7 G h' S st:=by
 obtain⟨o,ev,ep,h1,h2,h3,h4⟩:=x;exact⟨o,ev,ep,kS _ h1,h2,h3,h4.keeps k⟩
section
variable{prog:Program}{w:World}{A:Around}{R:Result→Shared→Prop}{I S:Addr}{fp wr:List Addr}{St:Nat→Heap→Prop}{items:Array Value}{xs:List Tr}{st':ES×SetTable}
theorem dS(W:Walks prog w A.in1 I fp wr items.size (fun i v=>items[i]? = some v) St)(hSf:S ∉ fp)(hcl:∀i h b o,St i h→b∈wr→h.get? b=some o→o.cls≠.type "tuple")(hu:A.units+10<cLine) :
  ∀(k i:Nat) (s:Shared) (st:ES×SetTable),items.size-i=k→i≤items.size→St i s.heap→K7 G s.heap S st→Ip G s.heap items.toList xs→MM st (xs.drop i)=some st' →
   (∀(h':Heap) (tk:Nat),(∀b o,b≠S→b ∉ wr→s.heap.get? b=some o→h'.get? b=some o)→(∀b o,s.heap.get? b=some o→o.cls=.type "tuple" → h'.get? b=some o)→K7 G h' S st'→R (.ok (.ret .none)) { s with heap:=h',toks:=tk }) →
   codeAny (model prog w) A (.builtin "set.update.loop" ⟨[.ref S,.ref I],[]⟩) R s:=by
 have hSw:S ∉ wr:=fun h=>hSf (W.sub _ h);intro k
 induction k with
 |zero =>
  intro i s st hk hi hst hS hT hrun hR;have hin:i=items.size:=by omega
  subst hin;have hlen:=Paired.length hT;rw [List.drop_of_length_le (by rw [←hlen];simp)]at hrun;cases hrun;refine codeAny_builtin F.entry_set_update_loop ?_;rw [Around.under_plainId F.plain_set_update_loop _];show wpAny _ A.in1 (pyNext (.ref I)>>=_) _ _ s;refine Wb (W.done s _ _ hst fun h' tk hm=>?_);show wpAny _ A.in1 (ret Value.none) _ _ _;have kt:∀b o,s.heap.get? b=some o→o.cls=.type "tuple" → h'.get? b=some o:=fun b o e hc=>hm b o (fun hb=>hcl _ _ b o hst hb e hc) e;exact aA (hR h' tk (fun b o _ hb e=>hm b o hb e) kt (hS.keeps (fun o e=>hm S o hSw e) kt))
 |succ k ih =>
  intro i s st hk hi hst hS hT hrun hR;have hlt:i<items.size:=by omega
  refine codeAny_builtin F.entry_set_update_loop ?_;rw [Around.under_plainId F.plain_set_update_loop _];show wpAny _ A.in1 (pyNext (.ref I)>>=_) _ _ s;refine Wb (W.item i s _ _ hlt hst fun v h1 tk hP hst' hm=>?_);have kt:∀b o,s.heap.get? b=some o→o.cls=.type "tuple" → h1.get? b=some o:=fun b o e hc=>hm b o (fun hb=>hcl _ _ b o hst hb e hc) e;have hS1:=hS.keeps (fun o e=>hm S o hSw e) kt;have hT1:=hT.keeps kt;have hlen:=Paired.length hT;have hxi:i<xs.length:=by rw [←hlen];simpa using hlt
  have hx:xs[i]? = some xs[i]:=aL hxi;obtain⟨v',hv',hxd,hxg,xa,its,e1,e2,e3⟩:=Paired.get hT1 hx;have hvv:v'=v:=by
   have h2:items.toList[i]? = some v:=by simpa using hP
   rw [h2]at hv';exact(aY hv').symm
  subst hvv;subst e1;rw [List.drop_eq_getElem_cons hxi,MM]at hrun;cases hadd:HU st xs[i]with
  |none=>rw [hadd]at hrun;cases hrun
  |some st1 =>
   rw [hadd]at hrun;obtain⟨o,ev,ep,g1,g2,g3,g4⟩:=hS1;obtain⟨et,t⟩:=st;obtain⟨et1,t1⟩:=st1;show wpAny _ A.in1 (holding [Value.ref xa] (setAdd S (.ref xa))>>=_) _ _ _;refine Wb (aQ (gz (s:={ s with heap:=h1,toks:=tk }) g1 g2.1 g3 g4 e2 e3 hxd hxg (by rw [Around.in1_units];omega) hadd fun b h2 tk2 ev2 ep2 sb gS R2=>?_));have kt2:∀b o,h1.get? b=some o→o.cls=.type "tuple" → h2.get? b=some o:=fun b o' e hc=>by
    rw [sb.2 b fun z=>?_]
    ·exact e
    ·subst z;rw [g1]at e;cases e;rw [g2.1]at hc
     injection hc with hc
     exact absurd hc (by decide)
   refine aA ⟨plainId_quiet F.plain_set_update_loop _,ih (i+1) { s with heap:=h2,toks:=tk2 } (et1,t1) (by omega) hlt (W.frame _ _ _ hst' fun b hb o' e=>?_) ⟨_,ev2,ep2,gS,g2,rfl,R2⟩ (hT1.keeps kt2) hrun fun h3 tk3 m3 kt3 S3=>?_⟩
   ·rw [sb.2 b fun z=>hSf (z ▸ hb)];exact e
   ·refine hR h3 tk3 (fun b o' hbS hb e=>?_) (fun b o' e hc=>kt3 b o' (kt2 b o' (kt b o' e hc) hc) hc) S3;refine m3 b o' hbS hb ?_;show h2.get? b=some o';rw [sb.2 b hbS];exact hm b o' hb e
end
end TH
namespace TH
open PySem PyProof.Rows PySem.SeqAt
section
variable{G:Value→Tr→Prop}{prog:Program}{w:World}{A:Around}{E:Value→Shared→Prop}{s:Shared}{l:Addr}{us:List Value}{xs:List Tr}
abbrev Fm(led:Bool):Obj:={ cls:=.type "set",dict:=none,data:=.set #[] 0 (.fresh 0 0 led) }
theorem WD(v:Value){Q1:Value→Shared→Prop}(k:Q1 (.ref s.heap.objs.size) { s with heap:=s.heap.push (Fm (!w.params.followText "set-order")) }) :
  codeAny (model prog w) A (.call (.builtin "set.__new__") ⟨[.type "set",v],[]⟩) (wants Q1 E) s:=by
 refine codeAny_of_tree (show wpAny _ A.in1 (checkBuiltinCall "set.__new__" ⟨[.type "set",v],[]⟩>>=fun _=>again (.builtin "set.__new__" ⟨[.type "set",v],[]⟩)) _ _ s from ?_);refine Wb (wpAny_of_eq (F.newCall_set_1 v) (aA ⟨plainId_quiet F.plain_set_new _,codeAny_builtin F.entry_set_new ?_⟩));rw [Around.under_plainId F.plain_set_new _];unfold Builtin.«set.__new__»;unfold Builtin.Frozenset.newClass;have q:=sub_set_self;obtain⟨h0,g0,d0,t0,o0⟩:=s;dsimp only
 wp_walk
 refine wpAny_askSetting (aA ?_);dsimp only;simp only [newObj];exact Wb (wpAny_alloc (aA (aA k)))
theorem Um{Q:Value→Shared→Prop}(hA:A.handled=none)(hL:s.heap.IsList l us.toArray)(hT:Ip G s.heap us xs)(hu:A.units+20<cLine){st:ES×SetTable}(hst:MM (KS (!w.params.followText "set-order")) xs=some st)
 (k:∀(h2:Heap) (tk:Nat),K7 G h2 s.heap.objs.size st→(∀b u,s.heap.get? b=some u→h2.get? b=some u)→Q (.ref s.heap.objs.size) { s with heap:=h2,toks:=tk }) :
  wpAny (model prog w) A (call (.type "set") [.ref l]) Q E s:=by
 obtain⟨mc,mt,hmro⟩:=F.called_set.mro;have q1:=F.called_set.made;have q2:=F.called_set.sub;have q3:=F.called_set.notType;have q4:=F.called_set.canCreate;have q5:=F.typeCall_set_1 (.ref l);refine wpAny_call (codeAny_of_tree (show wpAny _ _ (callAny (.type "set") _) _ _ _ from ?_));refine aA ⟨Code.quiet_builtin _ (by decide +kernel),codeAny_builtin F.entry_type_call ?_⟩;rw [Around.under_plain (weight_type_call_type "set" [.ref l] []) rfl]
 repeat (any_goals (first | assumption | wp_step))
 have hnew:=WD (prog:=prog) (w:=w) (s:=s) (A:=A.in1) (E:=E) (.ref l) (Q1:=fun v s1=>v=.ref s.heap.objs.size∧s1={ s with heap:=s.heap.push (Fm (!w.params.followText "set-order")) }) ⟨rfl,rfl⟩;refine codeAny_mono hnew fun r s1 hr=>?_;cases r with
 |error e=>exact hr
 |ok fl =>
  cases fl with
  |next=>exact hr.elim
  |brk=>exact hr.elim
  |cont=>exact hr.elim
  |ret obj =>
   obtain⟨rfl,rfl⟩:=hr;generalize (!w.params.followText "set-order")=led at hst;have gS:(s.heap.push (Fm led)).get? s.heap.objs.size=some (Fm led):=aO _ rfl;have tS:Shared.TypeIs { s with heap:=s.heap.push (Fm led) } (.ref s.heap.objs.size) "set" := ⟨_,gS,rfl⟩;have q6:=F.called_set.init.lookup;have q7:=F.called_set.init.bind (.ref s.heap.objs.size)
   repeat (any_goals (first | assumption | wp_step))
   have hinit:codeAny (model prog w) A.in1 (.call (.builtin "set.__init__") ⟨[.ref s.heap.objs.size,.ref l],[]⟩)
     (wants (fun v s2=>v=.none∧∃h2 tk,s2={ s with heap:=h2,toks:=tk }∧K7 G h2 s.heap.objs.size st∧∀b u,s.heap.get? b=some u→h2.get? b=some u) E) { s with heap:=s.heap.push (Fm led) }:=by
    refine codeAny_call_builtin F.called_set.init.plain F.entry_set_init (check_set_init_1 tS ?_);obtain⟨⟨c0,d0,dt0,sl0⟩,gl,c1,n0,dt1⟩:=id hL;simp only at c1 dt1;subst c1 dt1;have gl1:(s.heap.push (Fm led)).get? l=some ⟨.type "list",d0,.seq us.toArray n0,sl0⟩:=aD _ gl;have isl:(s.heap.push (Fm led)).IsList l us.toArray:=⟨_,gl1,rfl,n0,rfl⟩;have s1:=F.sub_list_set;have s2:=F.sub_list_frozenset;have s3:(Value.type "list" == Value.type "dict")=false:=by decide
    unfold Builtin.«set.__init__» noKeywords Builtin.Frozenset.updateFrom;generalize ePI:pyIter=PI
    wp_walk
    subst ePI;refine wpAny_pyIter_list isl (Wb (wpAny_runValue ?_));have ll:l<s.heap.objs.size:=aF gl;have zI:(s.heap.push (Fm led)).objs.size=s.heap.objs.size+1:=Heap.size_push ..;have neI:l≠(s.heap.push (Fm led)).objs.size:=by rw [zI];exact aG (aq ll)
    have nfp:s.heap.objs.size ∉ [(s.heap.push (Fm led)).objs.size,l]:=by
     simp only [List.mem_cons,List.not_mem_nil,or_false,not_or];exact⟨by rw [zI];exact aG (bL _),Nat.ne_of_gt ll⟩
    have hA3:A.in1.in1.in1.handled=none:=by simp [hA]
    refine dS (G:=G) (xs:=xs) (st':=st) (Walks.list hA3 _ l neI us.toArray) nfp (fun i h b o hit hb e hc=>?_) (by simp only [Around.in1_units];omega) _ 0 _ (KS led) rfl (ar _) ⟨⟨_,Heap.get?_push_size _ rfl,rfl,rfl⟩,isl.push _⟩ ?_ ?_ hst fun h2 tk m2 kt2 S2=>?_
    ·obtain⟨⟨oi,gi,ci,_⟩,_⟩:=hit;have:b=(s.heap.push (Fm led)).objs.size:=by simpa using hb
     subst this;rw [gi]at e;cases e;rw [ci]at hc
     injection hc with hc
     exact absurd hc (by decide)
    ·exact⟨Fm led,#[],0,Heap.get?_push_of_some _ gS,⟨rfl,rfl,rfl⟩,rfl,.nil⟩
    ·exact hT.keeps fun b o e _=>aD _ (aD _ e)
    ·refine aA ?_;show wpAny _ _ (ret Value.none) _ _ _;refine aA ⟨rfl,h2,tk,rfl,S2,fun b u e=>?_⟩;have lb:b<s.heap.objs.size:=aF e;refine m2 b u (aG lb) ?_ (aD _ (aD _ e));simp only [List.mem_cons,List.not_mem_nil,or_false];rw [zI];exact aG (aq lb)
   refine codeAny_mono hinit fun r2 s2 hr2=>?_;cases r2 with
   |error e=>exact hr2
   |ok f2 =>
    cases f2 with
    |next=>exact hr2.elim
    |brk=>exact hr2.elim
    |cont=>exact hr2.elim
    |ret v2 =>
     obtain⟨rfl,h2,tk,rfl,S2,k2⟩:=hr2
     repeat (any_goals (first | assumption | wp_step))
     exact k h2 tk S2 k2
end
end TH
namespace TH
open PySem PyProof.Rows PySem.SeqAt
theorem Qd:entryFor table "set.__iter__" = some Builtin.«frozenset.__iter__» :=
 entryFor_alias (id' := "frozenset.__iter__") (by kernel_rfl) rfl (by decide +kernel) (by kernel_rfl)
theorem D8:Slot "set_iterator" "__next__" "set_iterator.__next__" :=
 .of (owner := "set_iterator") (n := "__next__") (by rw [typeLookup_type,builtinLookup_eq_fast];kernel_rfl) (by decide +kernel)
  (by decide +kernel) (by decide +kernel) (by first | exact .inl (by decide +kernel) | exact .inr (by decide +kernel)) (by rw [isSubtype_type];kernel_rfl)
theorem Kq:entryFor table "set_iterator.__next__" = some Builtin.«set_iterator.__next__»:=entryFor_of_fast (by kernel_rfl)
theorem Ll(a:Value):argsOk "set_iterator.__next__" ⟨[a],[]⟩:=by unfold argsOk;kernel_rfl
theorem Li:Slot "set_iterator" "__iter__" "set_iterator.__iter__" :=
 .of (owner := "set_iterator") (n := "__iter__") (by rw [typeLookup_type,builtinLookup_eq_fast];kernel_rfl) (by decide +kernel)
  (by decide +kernel) (by decide +kernel) (by first | exact .inl (by decide +kernel) | exact .inr (by decide +kernel)) (by rw [isSubtype_type];kernel_rfl)
theorem QI:entryFor table "set_iterator.__iter__" = some Builtin.«dict_keyiterator.__iter__» :=
 entryFor_alias (id' := "dict_keyiterator.__iter__") (by kernel_rfl) rfl (by decide +kernel) (by kernel_rfl)
theorem Rc(a:Value):argsOk "set_iterator.__iter__" ⟨[a],[]⟩:=by unfold argsOk;kernel_rfl
section
variable{α:Type}{next:Nat→Nat}
theorem VM:∀(n k:Nat) (left:List α) (out:Array α),left.length=n→(pickOrder.go next n k left out).toList.Perm (out.toList++left)
 |0,k,left,out,h=>by
  have:left=[]:=List.eq_nil_of_length_eq_zero h;subst this;rw [pickOrder.go];simp
 |n+1,k,left,out,h=>by
  rw [pickOrder.go];have hlt:next k % left.length<left.length:=Nat.mod_lt _ (by omega);rw [List.getElem?_eq_getElem hlt];refine(VM n (k+1) _ _ (by rw [List.length_eraseIdx_of_lt hlt];omega)).trans ?_;rw [Array.toList_push,List.append_assoc];refine List.Perm.append_left _ ?_;rw [List.eraseIdx_eq_take_drop_succ];have e:left.take (next k % left.length)++left[next k % left.length]::left.drop (next k % left.length+1)=left:=by rw [←List.drop_eq_getElem_cons hlt,List.take_append_drop]
  have p:=List.perm_middle (a:=left[next k % left.length]) (l₁:=left.take (next k % left.length)) (l₂:=left.drop (next k % left.length+1));rw [e]at p;exact p.symm
theorem Yk(xs:Array α):(pickOrder next xs).toList.Perm xs.toList:=by
 unfold pickOrder
 simpa using VM xs.size 0 xs.toList #[] (by simp)
end
end TH
namespace TH
open PySem PyProof.Rows PySem.SeqAt
def FX(w:World)(S:Addr)(ep:Nat)(ev:Array (Int×Value)):Array (Int×Value):=if w.params.followText "set-order" = true then pickOrder (w.params.setOrder S ep) ev else ev
theorem Qw(w:World)(S:Addr)(ep:Nat)(ev:Array (Int×Value)):(FX w S ep ev).toList.Perm ev.toList:=by
 unfold FX;split
 ·exact Yk ev
 ·exact .refl _
theorem Ju(w:World)(S:Addr)(ep:Nat)(ev:Array (Int×Value)):(FX w S ep ev).size=ev.size:=by simpa using (Qw w S ep ev).length_eq
def Hk(t:SetTable):Nat→Nat
 |0=>0
 |i+1=>t.place.getD i 0+1
def EF(w:World)(t:SetTable)(i:Nat):Nat:=if w.params.followText "set-order" = true then 0 else Hk t i
def MP(t:SetTable)(n:Nat):Bool:=(List.range (n+1)).all fun i=>decide (SetTable.below t.place (Hk t i)=i)
abbrev Jr(w:World)(S:Addr)(t:SetTable)(ep n i:Nat):Obj:={ cls:=.type "set_iterator",data:=.fields #[rawInt ((EF w t i:Nat):Int),rawInt (i:Int),.ref S,rawInt (n:Int),rawInt (ep:Int)] }
structure Ez(w:World)(o:Obj)(ev:Array (Int×Value))(ep:Nat)(t:SetTable):Prop where
 ex:o.ExactSet
 dat:o.data=.set ev ep t
 fit:t.fits ev.size=true
 plain:t.plain=true
 led:t.led=!w.params.followText "set-order"
 walk:MP t ev.size=true
section
variable{prog:Program}{w:World}{A:Around}{E:Value→Shared→Prop}{s:Shared}{S I:Addr}{o:Obj}{ev:Array (Int×Value)}{ep i:Nat}{t:SetTable}
theorem QK{Q:Bool→Shared→Prop}(h:Q (w.params.followText "set-order") s):wpAny (model prog w) A setsByText Q E s:=by
 unfold setsByText;exact Wb (wpAny_askSetting (aA h))
theorem Ez.XS(W:Ez w o ev ep t):(!t.plain&&decide (ev.size > 1))=false:=by rw [W.plain];rfl
theorem Ez.place(W:Ez w o ev ep t):t.place.size=ev.size:=by
 have:=W.fit;unfold SetTable.fits at this;simp only [Bool.and_eq_true,beq_iff_eq]at this;exact this.1
theorem Sd{Q:Option (Value×Nat)→Shared→Prop}(W:Ez w o ev ep t)(ho:s.heap.get? S=some o)(hi:i≤ev.size)(h:Q ((FX w S ep ev)[i]?.map fun e=>(e.2,EF w t (i+1))) s) :
  wpAny (model prog w) A (setNext S (EF w t i) i ep) Q E s:=by
 unfold setNext;refine Wb (bF ho W.dat W.fit ?_);refine Wb (QK ?_);cases hb:w.params.followText "set-order" with
 |true =>
  rw [if_pos rfl];have hne:¬(ep != ep)=true:=by simp
  rw [if_neg hne];unfold setWalk;refine Wb (Wb (bF ho W.dat W.fit ?_));refine Wb (QK ?_);rw [if_pos hb];refine Wb (wpAny_askSetting (aA ?_));refine aA ?_;have e:FX w S ep ev=pickOrder (w.params.setOrder S ep) ev:=by unfold FX;rw [if_pos hb]
  rw [e]at h;have e2:EF w t i=EF w t (i+1):=by unfold EF;rw [if_pos hb,if_pos hb]
  rw [e2];exact h
 |false =>
  rw [if_neg aK];refine wpAny_ite_split (fun hd=>?_) fun _=>?_
  ·have:(!t.plain&&decide (ev.size > 1))=true:=hd;rw [W.XS]at this;cases this
  ·refine Wb ?_;have hl:t.led=true:=by rw [W.led,hb];rfl
   have hn:¬(!t.led && !ev.isEmpty)=true:=by rw [hl];simp
   show wpAny _ _ (if(!t.led && !ev.isEmpty)=true then unsupported "set:maker-not-led" else pure ()) _ _ _;rw [if_neg hn];refine aA (aA ?_);have hw:=W.walk;unfold MP at hw;have hw:=aN.mp hw i (bS.mpr (by omega));have hw:SetTable.below t.place (Hk t i)=i:=by simpa using hw
   have e1:EF w t i=Hk t i:=by unfold EF;rw [hb];rfl
   have e2:EF w t (i+1)=Hk t (i+1):=by unfold EF;rw [hb];rfl
   have e3:FX w S ep ev=ev:=by unfold FX;rw [hb];rfl
   rw [e2,e3]at h;rw [e1,hw];by_cases hlt:i<ev.size
   ·have hp:i<t.place.size:=by rw [W.place];exact hlt
    rw [Array.getElem?_eq_getElem hlt]at h ⊢;rw [Array.getElem?_eq_getElem hp];have e4:Hk t (i+1)=t.place[i]+1:=by
     rw [Hk,Array.getD_eq_getD_getElem?,Array.getElem?_eq_getElem hp]
     rfl
    rw [e4]at h;exact h
   ·rw [Array.getElem?_eq_none (by omega)]at h ⊢;exact h
theorem ZQ{Q:Option Value→Shared→Prop}{z:Int}{v:Value}(W:Ez w o ev ep t)(ho:s.heap.get? S=some o)(hI:s.heap.get? I=some (Jr w S t ep ev.size i))(hx:(FX w S ep ev)[i]? = some (z,v))
 (h:∀h',h'.get? I=some (Jr w S t ep ev.size (i+1))→Heap.SameBut I s.heap h'→Q (some v) { s with heap:=h' }):wpAny (model prog w) A (pyNext (.ref I)) Q E s:=by
 have hT:s.TypeIs (.ref I) "set_iterator" := ⟨_,hI,rfl⟩;have hlt:i<ev.size:=by
  have:=(Array.getElem?_eq_some_iff.mp hx).1;rw [Ju]at this;exact this
 unfold pyNext;refine Wb (wpAny_attempt (aj (name:=Str.ofString "__next__") hT D8 (aW D8 hT Kq ?_ (Ll _))));unfold Builtin.«set_iterator.__next__»;refine Wb (wpAny_of_eq (a:=(Value.ref I,[])) rfl ?_);refine Wb (wpAny_fieldsOf hI rfl ?_);show wpAny _ _ (setEntries S>>=_) _ _ s;refine Wb (wpAny_setEntries_of ho W.dat W.fit ?_);have hne:¬((ev.size:Int) != (ev.size:Int))=true:=by simp
 dsimp only;rw [if_neg hne];refine Wb ?_;show wpAny _ _ (setNext S (EF w t i) i ep) _ _ _;refine Sd W ho (by omega) ?_;rw [hx];show wpAny _ _ (setField (.ref I) 0 (rawInt ((EF w t (i+1):Nat):Int))>>=_) _ _ _;refine Wb (wpAny_setField hI rfl (by simp) ?_);have g1:(s.heap.update I (Obj.mapFields (·.setIfInBounds 0 (rawInt ((EF w t (i+1):Nat):Int))))).get? I=some { cls:=.type "set_iterator",data:=.fields #[rawInt ((EF w t (i+1):Nat):Int),rawInt (i:Int),.ref S,rawInt (ev.size:Int),rawInt (ep:Int)] } :=
  Heap.get?_update_self _ hI rfl
 refine Wb (wpAny_setField g1 rfl (by simp) ?_);refine aA ⟨_,rfl,wpAny_pure (h _ ?_ ((aU ..).trans (aU ..)))⟩;exact Heap.get?_update_self _ g1 rfl
theorem ZM{Q:Option Value→Shared→Prop}(hh:A.handled=none)(W:Ez w o ev ep t)(ho:s.heap.get? S=some o)(hI:s.heap.get? I=some (Jr w S t ep ev.size ev.size))
 (h:∀h',Heap.ExtBut I s.heap h'→Q none { s with heap:=h' }):wpAny (model prog w) A (pyNext (.ref I)) Q E s:=by
 have hT:s.TypeIs (.ref I) "set_iterator" := ⟨_,hI,rfl⟩;unfold pyNext;refine Wb (wpAny_attempt (aj (name:=Str.ofString "__next__") hT D8 (aW D8 hT Kq ?_ (Ll _))));unfold Builtin.«set_iterator.__next__»;refine Wb (wpAny_of_eq (a:=(Value.ref I,[])) rfl ?_);refine Wb (wpAny_fieldsOf hI rfl ?_);show wpAny _ _ (setEntries S>>=_) _ _ s;refine Wb (wpAny_setEntries_of ho W.dat W.fit ?_);have hne:¬((ev.size:Int) != (ev.size:Int))=true:=by simp
 dsimp only;rw [if_neg hne];refine Wb ?_;show wpAny _ _ (setNext S (EF w t ev.size) ev.size ep) _ _ _;refine Sd W ho (aJ _) ?_;rw [Array.getElem?_eq_none (by rw [Ju];exact aJ _)];show wpAny _ _ (setField (.ref I) 2 Value.none>>=_) _ _ _;refine Wb (wpAny_setField hI rfl (by simp) ?_);refine Wb ?_;simp only [newExc,newTuple];refine Wb (ay ?_ (by size_fits));refine Wb (m:=firstArgMember _ _) (wpAny_of_eq (a:=Value.none) (by first | rfl | (simp only [firstArgMember];rfl)) (ay ?_ (by size_fits)));simp only [raiseNew];refine Wb (wpAny_handled ?_);have hh1:A.in1.handled=none:=hh;rw [hh1];refine Wb (aA (wpAny_throw ?_));refine Wb (wpAny_isInstance (b:=true) (T := "StopIteration") ⟨_,Heap.get?_push_size _ rfl,rfl⟩ isSubtype_stop ?_);exact aA (h _ (((aU ..).extBut.push _).push _))
theorem Yx{Q:Value→Shared→Prop}(hI:s.heap.get? I=some (Jr w S t ep ev.size i))(h:Q (.ref I) s):wpAny (model prog w) A (pyIter (.ref I)) Q E s:=by
 have hT:s.TypeIs (.ref I) "set_iterator" := ⟨_,hI,rfl⟩;refine wpAny_pyIter_slot hT Li (aW Li hT QI ?_ (Rc _));show wpAny _ _ (ret (.ref I)) _ _ s;exact aA ⟨_,rfl, "set_iterator",_,hT,D8.lookup,h⟩
theorem YH(hh:A.handled=none)(hne:S≠I)(W:Ez w o ev ep t) :
  Walks prog w A I [I,S] [I] ev.size (fun i v=>∃z,(FX w S ep ev)[i]? = some (z,v)) (fun i h=>h.get? I=some (Jr w S t ep ev.size i)∧h.get? S=some o) where
 sub:=fun b hb=>by simp at hb;simp [hb]
 frame:=fun _ _ _ x k=>⟨k I (by simp) _ x.1,k S (by simp) _ x.2⟩
 item:=fun i s Q E hi x hQ=>by
  have hi':i<(FX w S ep ev).size:=by rw [Ju];exact hi
  obtain⟨z,v,hx⟩:∃z v,(FX w S ep ev)[i]? = some (z,v):=⟨(FX w S ep ev)[i].1,(FX w S ep ev)[i].2,by rw [Array.getElem?_eq_getElem hi']⟩;refine ZQ W x.2 x.1 hx fun h' g sb=>hQ v h' s.toks ⟨z,hx⟩ ⟨g,(sb.2 S hne).trans x.2⟩ fun b u hb e=>?_;rw [sb.2 b fun q=>hb (by simp [q])];exact e
 done:=fun s Q E x hQ=>ZM hh W x.2 x.1 fun h' eb=>hQ h' s.toks fun b u hb e=>eb b u (fun q=>hb (by simp [q])) e
 self:=fun _ _ _ _ x hQ=>Yx x.1 hQ
theorem a8{Q:Bool→Shared→Prop}(hT:s.TypeIs (.ref S) "set")(h:Q false s):wpAny (model prog w) A (Builtin.List.listLengthHint (.ref S)) Q E s:=by
 unfold Builtin.List.listLengthHint;refine Wb (wpAny_specialOf hT PySem.F.slot_set_len.lookup ?_);generalize hid:("set.__len__" : String)=id0
 wp_delta
 rw [show splitId id0=some ("set", "__len__") from by subst hid;decide +kernel];subst hid;refine Wb (wpAny_isInstance (b:=true) (T := "set") hT (by rw [isSubtype_type];kernel_rfl) ?_);refine wpAny_ite_split (fun z=>absurd z (by decide)) fun _=>?_;refine wpAny_ite_split (fun _=>?_) fun z=>absurd (by decide +kernel) z;exact Wb (wpAny_typeOf hT (aA h))
theorem ZK{Q:Value→Shared→Prop}(W:Ez w o ev ep t)(ho:s.heap.get? S=some o)(h:Q (.ref s.heap.objs.size) { s with heap:=s.heap.push (Jr w S t ep ev.size 0) }) :
  wpAny (model prog w) A (pyIter (.ref S)) Q E s:=by
 have hT:s.TypeIs (.ref S) "set" := ⟨o,ho,W.ex.1⟩;refine wpAny_pyIter_slot hT PySem.F.slot_set_iter (aW PySem.F.slot_set_iter hT Qd ?_ (PySem.F.args_set_iter_1 _));unfold Builtin.«frozenset.__iter__»;refine Wb (wpAny_of_eq (a:=S) rfl ?_);unfold Builtin.Frozenset.sizeOf;refine Wb (Wb (wpAny_setEntries_of ho W.dat W.fit (aA ?_)));unfold setDrawn;refine Wb (Wb (bF ho W.dat W.fit (Wb (QK (aA ?_)))));have hd:(!w.params.followText "set-order" && (!t.plain&&decide (ev.size > 1)))=false:=by rw [W.XS];simp
 refine wpAny_ite_split (fun z=>?_) fun _=>?_
 ·have:(!w.params.followText "set-order" && (!t.plain&&decide (ev.size > 1)))=true:=z;rw [hd]at this;cases this
 refine Wb (aA ?_);unfold setEpoch;refine Wb (Wb (bF ho W.dat W.fit (aA ?_)));have e0:EF w t 0=0:=by unfold EF Hk;split<;>rfl
 refine Wb (ay (aA ⟨_,rfl, "set_iterator",_,⟨_,Heap.get?_push_size _ rfl,rfl⟩,D8.lookup,?_⟩));unfold Jr at h;rw [e0]at h;exact h
theorem cz(W:Ez w o ev ep t):PySem.W.KdlSrc prog w "set" S S ev.size (fun i v=>∃z,(FX w S ep ev)[i]? = some (z,v)) (fun h=>h.get? S=some o) where
 type:=fun _ ho=>⟨o,ho,W.ex.1⟩
 there:=fun _ ho=>⟨aF ho,Heap.lt_size ho⟩
 keep:=fun _ _ ho k=>k S (.inl rfl) _ ho
 notList:=by decide
 notTuple:=by decide
 hint:=fun _ _ s _ ho h=>a8 ⟨o,ho,W.ex.1⟩ h
 iter:=fun A s hh ho=>⟨Jr w S t ep ev.size 0,_,(fun E Q h=>ZK W ho h),YH hh (aG (aF ho)) W,⟨aO _ rfl,Heap.get?_push_of_some _ ho⟩⟩
end
end TH
namespace TH
open PySem PyProof.Rows PySem.SeqAt
theorem Paired.perm{α β:Type}{F:α→β→Prop}{l l':List α}(p:l'.Perm l):∀ {m:List β},Paired F l m→∃m',m'.Perm m∧Paired F l' m':=by
 induction p with
 |nil=>intro m r;exact⟨m,.refl _,r⟩
 |cons x _ ih =>
  intro m r;cases r with
  |cons h r' =>
   obtain⟨m',p',q⟩:=ih r';exact⟨_::m',p'.cons _,.cons h q⟩
 |swap x y l =>
  intro m r;cases r with
  |cons h r' =>
   cases r' with
   |cons h' r''=>exact⟨_::_::_,List.Perm.swap ..,.cons h' (.cons h r'')⟩
 |trans _ _ ih1 ih2 =>
  intro m r;obtain⟨m1,p1,q1⟩:=ih2 r;obtain⟨m2,p2,q2⟩:=ih1 q1;exact⟨m2,p2.trans p1,q2⟩
variable{G:Value→Tr→Prop}
theorem U5{h:Heap}:∀ {l:List (Int×Value)} {m:List (Int×Tr)},Paired (Nz G h) l m→Vs h (Tr.of (m.map (·.2))) (l.map (·.2))
 |_,_,.nil=>by rw [List.map_nil,List.map_nil,Tr.of,Vs]
 |_,_,.cons (a:=(z,v)) ⟨_,_,_,a,its,e,h1,h2⟩ r=>by
  have e:v=.ref a:=e;subst e;rw [List.map_cons,List.map_cons,Tr.of,Vs];exact⟨a,its,_,rfl,h1,h2,U5 r⟩
theorem Qr{h:Heap}:∀ {l:List (Int×Value)} {m:List (Int×Tr)},Paired (Nz G h) l m→∀c∈m.map (·.2),c.deep<8
 |_,_,.nil,c,hc=>by cases hc
 |_,_,.cons ⟨_,hd,_⟩ r,c,hc=>by
  rw [List.map_cons]at hc;rcases aM.mp hc with rfl | hc
  ·exact hd
  ·exact Qr r c hc
theorem Xv{h:Heap}:∀ {l:List (Int×Value)} {m:List (Int×Tr)},Paired (Nz G h) l m→Paired G (l.map (·.2)) (m.map (·.2))
 |_,_,.nil=>.nil
 |_,_,.cons ⟨_,_,hg,_⟩ r=>.cons hg (Xv r)
theorem Paired.bh{α β:Type}{F:α→β→Prop}{l:List α}{m:List β}(r:Paired F l m)(d:α)(e:β):∀(ix:List Nat),(∀i∈ix,i<l.length)→Paired F (ix.map fun i=>l.getD i d) (ix.map fun i=>m.getD i e)
 |[],_=>.nil
 |i::ix,h=>by
  have hl:=r.length;have hi:=h i ae;have hm:m[i]? = some m[i]:=aL (by omega);obtain⟨x,e1,e2⟩:=Paired.get r hm;rw [List.map_cons,List.map_cons];refine .cons ?_ (Paired.bh r d e ix fun j hj=>h j (aS _ hj));rw [List.getD_eq_getElem?_getD,List.getD_eq_getElem?_getD,e1,hm];exact e2
theorem ZA{l m:List Tr}(p:l.Perm m):Tr.Bb l=Tr.Bb m:=Tr.KL (Tr.JM l) (Tr.JM m) ((Tr.Fb l).trans (p.trans (Tr.Fb m).symm))
section
variable{prog:Program}{w:World}{A:Around}{E:Value→Shared→Prop}{s:Shared}
theorem gather{T:String}{r d:Addr}{n:Nat}{P:Nat→Value→Prop}{OK:Heap→Prop}{R:List Value→Shared→Prop}(K:PySem.W.KdlSrc prog w T r d n P OK)(hA:A.handled=none)(Ap:OK s.heap)(hn:n≤sizeLine)
 (k:∀(h1:Heap) (tk:Nat) (acc:Array Value),s.heap.objs.size<h1.objs.size→(∀b u,s.heap.get? b=some u→h1.get? b=some u)→ItemsOf P acc n→R acc.toList { s with heap:=h1,toks:=tk }) :
  wpAny (model prog w) A (collect (.ref r)) R E s:=by
 obtain⟨lr,ld⟩:=K.there _ Ap;unfold collect;refine Wb (wpAny_runValue (codeAny_builtin entry_proto_collect' ?_));rw [Around.under_plainId PySem.F.plain_proto_collect _];show wpAny _ A.in1 (newList []>>=fun v=>again (.builtin "list.__iadd__" ⟨[v,.ref r],[]⟩)) _ _ s;refine Wb (ay (aA ⟨plainId_quiet PySem.F.plain_list_iadd _,codeAny_builtin entry_list_iadd' ?_⟩));rw [Around.under_plainId PySem.F.plain_list_iadd _];have g0:(s.heap.push { cls:=.type "list",data:=.seq ([]:List Value).toArray }).get? s.heap.objs.size=some { cls:=.type "list",data:=.seq #[] }:=aO _ rfl;have main:=PySem.W.kdl_extend (A:=A) (s:={ s with heap:=s.heap.push { cls:=.type "list",data:=.seq ([]:List Value).toArray } }) K hA
  (K.keep _ _ Ap fun _ _ _ e=>aD _ e) s.heap.objs.size (ag lr) (ag ld) (.ref s.heap.objs.size) 0 g0
  (R:=fun q s1=>∃h1 tk acc c,q=.ok (.ret (.ref s.heap.objs.size))∧s1={ s with heap:=h1,toks:=tk }∧(∀b u,s.heap.get? b=some u→h1.get? b=some u)∧h1.get? s.heap.objs.size=some { cls:=.type "list",dict:=none,data:=.seq acc c,slots:=#[] }∧ItemsOf P acc n)
  (fun h1 tk acc c k1 g1 ha=>⟨h1,tk,acc,c,rfl,rfl,fun b u e=>k1 b u (aG (aF e)) (aD _ e),g1,ha⟩) hn
 refine ai main (fun fin s1 x=>?_) fun e s1 x=>?_
 ·cases fin with
  |done f =>
   obtain⟨h1,tk,acc,c,e,rfl,k1,g1,ha⟩:=x;cases e;show wpAny _ A (load s.heap.objs.size>>=_) _ _ _;exact Wb (wpAny_load g1 (aA (k h1 tk acc (aF g1) k1 ha)))
  |again c1 =>
   refine⟨x.1,codeAny_mono x.2 fun q s2 y=>?_⟩;obtain⟨h1,tk,acc,c,rfl,rfl,k1,g1,ha⟩:=y;show wpAny _ A (load s.heap.objs.size>>=_) _ _ _;exact Wb (wpAny_load g1 (aA (k h1 tk acc (aF g1) k1 ha)))
 ·obtain⟨_,_,_,_,z,_⟩:=x;cases z
end
section
variable{prog:Program}{w:World}{A:Around}{E:Value→Shared→Prop}{s:Shared}{S:Addr}{o:Obj}{ev:Array (Int×Value)}{et:ES}{ep:Nat}{t:SetTable}
theorem Wa{Q:Value→Shared→Prop}(hA:A.handled=none)(W:Ez w o ev ep t)(ho:s.heap.get? S=some o)(R:Dg G s.heap ev et)(h64:et.size<64)(hu:A.units+20<cLine)
 (h:∀(h':Heap) (D tk e1:Nat) (us:List Value),s.heap.objs.size≤D→(∀b u,s.heap.get? b=some u→h'.get? b=some u)→h'.get? D=some (seqObj "list" us.toArray e1)→Paired G us (Tr.Bb (et.toList.map (·.2))).reverse→us.length<64 →
   Q (.ref D) { s with heap:=h',toks:=tk }):wpAny (model prog w) A (call (.builtin "sorted") [.ref S]) Q E s:=by
 have hsz:=R.size;refine Calls.call_function_entry kind_sorted plain_sorted entry_sorted (args_sorted1 _) ?_;unfold Builtin.«sorted»;refine Wb (m:=checkCount "sorted" 1 1 _) (aA ?_);refine Wb (gather (A:=A.in1) (cz W) hA ho (Gs (by omega)) fun h1 tk acc z1 k1 hacc=>?_);have hal:acc.toList=(FX w S ep ev).toList.map (·.2):=by
  apply List.ext_getElem?;intro j;rw [List.getElem?_map];by_cases hj:j<acc.size
  ·have e1:acc[j]? = some acc[j]:=Array.getElem?_eq_getElem hj;obtain⟨z,e2⟩:=hacc.2 j _ e1;rw [Array.getElem?_toList,e1,Array.getElem?_toList,e2]
   rfl
  ·have hj2:¬j<(FX w S ep ev).size:=by rw [Ju,←hacc.1];exact hj
   rw [List.getElem?_eq_none (by simpa using hj),List.getElem?_eq_none (by simpa using hj2)]
   rfl
 obtain⟨m,pm,rm⟩:=Paired.perm (Qw w S ep ev) R;have hvs:=U5 rm;rw [←hal]at hvs;have hd:(Tr.of (m.map (·.2))).deep≤8:=(Tr.Kn 8 _).mpr fun c hc=>by have:=Qr rm c hc;omega
 have hlen:acc.toList.length<64:=by rw [Array.length_toList,hacc.1,hsz];exact h64
 refine Wb (bY ?_ (Gs (by omega)));have g1:(h1.push (seqObj "list" acc.toList.toArray 0)).get? h1.objs.size=some (seqObj "list" acc.toList.toArray 0):=aO _ rfl;have k2:∀b u,s.heap.get? b=some u→(h1.push (seqObj "list" acc.toList.toArray 0)).get? b=some u:=fun b u e=>aD _ (k1 b u e);refine Wb (aQ (aW slot_list_sort ⟨_,g1,rfl⟩ entry_list_sort (IG (s:={ s with heap:=h1.push (seqObj "list" acc.toList.toArray 0),toks:=tk }) g1 (hvs.keeps fun b u e _=>k2 b u e) hlen
  (by rw [show A.in1.in1.units=A.units+2 from rfl];omega) fun ix a1 a2 a3=>⟨_,rfl,?_⟩) (args_list_sort _)))
 obtain⟨e1,he1⟩:=sortedHeap_at (vs:=acc.toList) (out:=(ix.map fun i=>acc.toList.getD i Value.none).toArray) g1;refine aA ⟨_,rfl,h _ h1.objs.size tk e1 (ix.map fun i=>acc.toList.getD i Value.none) ?_ (fun b u e=>?_) he1 ?_ (by rw [List.length_map,a1];exact hlen)⟩
 ·exact bK z1
 ·have lb:b<h1.objs.size:=aF (k1 b u e);rw [sortedHeap_old (aG lb) (by rw [Heap.size_push];exact aq lb)];exact k2 b u e
 ·have hg:=Xv rm;rw [←hal]at hg;have:=Paired.bh hg Value.none Tr.nil ix a2;rw [Tr.Rq]at a3;rw [a3,ZA (pm.map (·.2))]at this;exact this
end
end TH
namespace TH
open PySem PyProof.Rows PySem.SeqAt
section
variable{prog:Program}{w:World}{E:Value→Shared→Prop}
def Sr(prog:Program)(w:World)(E:Value→Shared→Prop)(t:Tr):Prop:=∀(us:List Value) (A:Around) (s:Shared) (b:Array Int) (Q:Array Int→Shared→Prop),Vs s.heap t us→A.units+t.deep≤cLine →
 (∀b',b'.toList=b.toList++IX t→Q b' { s with toks:=s.toks+(t.AU-1) })→wpAny (model prog w) A (forIn us b fun x r=>do let h ←pyHash x;pure PUnit.unit;pure (ForInStep.yield (r.push h))) Q E s
theorem MF{t:Tr}(row:Sr prog w E t){a:Addr}{its:List Value}{A:Around}{s:Shared}{Q:Int→Shared→Prop}(h1:s.heap.IsTuple a its.toArray)(h2:Vs s.heap t its)(hu:A.units+t.deep<cLine)
 (h:Q (BD t) { s with toks:=s.toks+t.AU }):wpAny (model prog w) A (pyHash (.ref a)) Q E s:=by
 have hT:=IsTuple.ty rfl h1;obtain⟨o,ho,hc,n,hd⟩:=id h1;refine PySem.W.pyHash_slot (T := "tuple") hT F.slot_tuple_hash F.entry_tuple_hash (F.args_tuple_hash_1 _) (beq_builtin_none _) (.inr (by omega)) ?_;show wpAny _ _ (Builtin.Tuple.tupleItemsOf (.ref a)>>=_) _ _ s;refine Wb (wpAny_tupleItemsOf ho hd ?_);refine Wb ?_;rw [←Array.forIn_toList];refine row its A.in1 s #[] _ h2 (by rw [Around.in1_units];omega) fun b hb=>?_;show wpAny _ _ (retInt (Builtin.Tuple.tupleHashOf b.toList)) _ _ _;rw [hb];have hk:s.toks+(t.AU-1)+1=s.toks+t.AU:=by have:=Tr.L0 t;omega
 refine Wb (wpAny_mkInt (aA ⟨_,_,rfl,?_⟩));rw [hk];exact h
theorem ML:∀t:Tr,Sr prog w E t
 |.nil=>fun us A s b Q e _ h=>by rw [Vs]at e;subst e;exact aA (h b (by simp [IX]))
 |.cons c r=>fun us A s b Q e hu h=>by
  rw [Vs]at e;obtain⟨a,its,rest,rfl,h1,h2,h3⟩:=e;have hd:(Tr.cons c r).deep=max (c.deep+1) r.deep:=rfl;have hk:(Tr.cons c r).AU=c.AU+r.AU:=rfl;have hr:=Tr.L0 r;rw [List.forIn_cons];refine Wb (Wb (MF (ML c) h1 h2 (by omega) ?_));refine Wb (aA (aA ?_));refine ML r rest A _ _ Q h3 (by omega) fun b' hb=>?_;have hz:s.toks+c.AU+(r.AU-1)=s.toks+((Tr.cons c r).AU-1):=by omega
  have:=h b' (by simp [hb,IX,BD]);rw [←hz]at this;exact this
def JA(prog:Program)(w:World):HeapKind prog w Tr where
 is:=fun h t a=>t.deep<8∧∃its,h.IsTuple a its.toArray∧Vs h t its
 hash:=BD
 draws:=Tr.AU
 room:=fun A=>A.units+8<cLine
 inj:=fun⟨_,i1,a1,a2⟩ ⟨_,i2,b1,b2⟩=>by
  have:=Gw a1 b1;have e:i1=i2:=by simpa using this
  subst e;exact Vs.inj a2 b2
 keeps:=fun {h h' k a d o es ep} ⟨hd,its,h1,h2⟩ ho hdt sb=>by
  have kt:∀b u,h.get? b=some u→u.cls=.type "tuple" →(∃x n,u.data=.seq x n)→h'.get? b=some u:=fun b u e _ ⟨x,n,hx⟩=>by
   rw [sb.2 b fun z=>?_]
   ·exact e
   ·subst z;rw [ho]at e;cases e;rw [hdt]at hx;cases hx
  have kv:∀ {t:Tr} {us:List Value},Vs h t us→Vs h' t us:=fun {t}=>by
   induction t with
   |nil=>intro us e;rw [Vs]at e ⊢;exact e
   |cons b r ih1 ih2 =>
    intro us e;rw [Vs]at e ⊢;obtain⟨a,its,rest,e1,⟨u,hu,hc,n,hx⟩,e3,e4⟩:=e;exact⟨a,its,rest,e1,⟨u,kt _ _ hu hc ⟨_,n,hx⟩,hc,n,hx⟩,ih1 e3,ih2 e4⟩
  obtain⟨u,hu,hc,n,hx⟩:=h1;exact⟨hd,its,⟨u,kt _ _ hu hc ⟨_,n,hx⟩,hc,n,hx⟩,kv h2⟩
 pyHash:=fun hr ⟨hd,its,h1,h2⟩ h=>MF (ML _) h1 h2 (by omega) h
 eqBool:=fun {A E s x y a b Q} hr ⟨hd,its,h1,h2⟩ ⟨_,its2,k1,k2⟩ h=>LF h1 h2 k1 k2 (by omega) prog w E Q h
 quiet:=fun⟨hd,its,h1,h2⟩ h=>quiet 8 ⟨_,its,_,rfl,h1,h2,hd⟩ h
end
end TH
namespace TH
open PySem PyProof.Rows
def BA:Option Tr→Int
 |none=>4238894112
 |some t=>BD t
def Cj:Option Tr→Nat
 |none=>1
 |some t=>t.AU
def FO(h:Heap):Option Tr→Value→Prop
 |none,v=>v=.none
 |some t,v=>∃a,v=.ref a∧t.deep<8∧∃its,h.IsTuple a its.toArray∧Vs h t its
abbrev KE:=Option Tr×Value×Value
def DM(x:KE):DictEntry:=⟨BA x.1,x.2.1,x.2.2⟩
theorem Pg{p:Nat→Bool}{j:Nat}:∀ {n:Nat},j<n→p j=true→(∀i,i<n→p i=true→i=j)→(List.range n).filter p=[j]
 |0,h,_,_=>absurd h (ak _)
 |n+1,h,hp,hu=>by
  rw [List.range_succ,List.filter_append];by_cases e:j=n
  ·subst e;have:(List.range j).filter p=[]:=List.filter_eq_nil_iff.mpr fun i hi hpi=>by
    have:=bS.mp hi;have:=hu i (by omega) hpi;omega
   rw [this];simp [hp]
  ·have hn:p n=false:=by
    cases q:p n with
    |false=>rfl
    |true=>exact absurd (hu n (by omega) q).symm e
   rw [Pg (show j<n by omega) hp fun i hi=>hu i (by omega)];simp [hn]
section
variable{prog:Program}{w:World}{A:Around}{E:Value→Shared→Prop}{s:Shared}{d:Addr}{o:Obj}{es:Array DictEntry}{ep:Nat}{xs:List KE}{k:Option Tr}{kv:Value}
theorem Ks(he:es.toList=xs.map DM)(j:Nat):es[j]? = (xs[j]?).map DM:=by rw [←Array.getElem?_toList,he,List.getElem?_map]
theorem OV(he:es.toList=xs.map DM):es.size=xs.length:=by rw [←Array.length_toList,he,List.length_map]
theorem Qm(he:es.toList=xs.map DM)(hap:∀x∈xs,BA x.1=BA k→x.1=k)(hno:∀x∈xs,x.1≠k):placesWithHash es.size (fun i=>es[i]?.map (·.hash)) (BA k)=[]:=by
 unfold placesWithHash;refine List.filter_eq_nil_iff.mpr fun i hi hp=>?_;dsimp only at hp;rw [Ks he]at hp;cases q:xs[i]? with
 |none=>rw [q]at hp;simp at hp
 |some x =>
  rw [q]at hp;have hx:=aI q;have:BA x.1=BA k:=by simpa [DM]using hp
  exact hno x hx (hap x hx this)
theorem O3(he:es.toList=xs.map DM)(hap:∀x∈xs,BA x.1=BA k→x.1=k)(hn:(xs.map (·.1)).Nodup){j:Nat}{x:KE}(hj:xs[j]? = some x)(hx:x.1=k):placesWithHash es.size (fun i=>es[i]?.map (·.hash)) (BA k)=[j]:=by
 unfold placesWithHash;have hl:j<xs.length:=(aE.mp hj).1;refine Pg (by rw [OV he];exact hl) (by dsimp only;rw [Ks he,hj,←hx];simp [DM]) fun i hi hp=>?_;dsimp only at hp;rw [Ks he]at hp;cases q:xs[i]? with
 |none=>rw [q]at hp;simp at hp
 |some y =>
  rw [q]at hp;have hy:=hap y (aI q) (by simpa [DM]using hp);have h1:(xs.map (·.1))[i]? = some k:=by rw [List.getElem?_map,q];show some y.1=_;rw [hy]
  have h2:(xs.map (·.1))[j]? = some k:=by rw [List.getElem?_map,hj];show some x.1=_;rw [hx]
  exact(List.getElem?_inj (aE.mp h1).1 hn).mp (h1.trans h2.symm)
theorem dY{Q:Bool→Shared→Prop}(h:Q true s):wpAny (model prog w) A (eqBool .none .none) Q E s:=by
 unfold eqBool;rw [if_pos (by rfl)];exact Wb (bJ (aA h))
theorem FO.inj{h:Heap}{x y:Option Tr}{v:Value}(a:FO h x v)(b:FO h y v):x=y:=by
 cases x with
 |none =>
  cases y with
  |none=>rfl
  |some t =>
   obtain⟨_,e,_⟩:=b;rw [show v=.none from a]at e;cases e
 |some u =>
  cases y with
  |none =>
   obtain⟨_,e,_⟩:=a;rw [show v=.none from b]at e;cases e
  |some t =>
   obtain⟨a1,e1,k1⟩:=a;obtain⟨a2,e2,k2⟩:=b;rw [e1]at e2;cases e2;obtain⟨_,i1,b1,b2⟩:=k1;obtain⟨_,i2,c1,c2⟩:=k2;have:i1=i2:=by simpa using Gw b1 c1
   subst this;rw [Vs.inj b2 c2]
theorem SA{Q:Option Nat→Shared→Prop}(hu:A.units+8<cLine)(hk:FO s.heap k kv)(ho:s.heap.get? d=some o)(hd:o.data=.dict es ep)(he:es.toList=xs.map DM)(his:∀x∈xs,FO s.heap x.1 x.2.1)(hn:(xs.map (·.1)).Nodup)(hap:∀x∈xs,BA x.1=BA k→x.1=k)
 (hno:(∀x∈xs,x.1≠k)→Q none s)(hyes:∀(j:Nat) (x:KE),xs[j]? = some x→x.1=k→Q (some j) s):wpAny (model prog w) A (dictFind d kv (BA k)) Q E s:=by
 unfold dictFind
 try with_reducible refine aQ ?_
 refine Wb (wpAny_dictEntries ho hd ?_);cases k with
 |none =>
  have hk:kv=.none:=hk;subst hk;dsimp only;by_cases hx:∃x∈xs,x.1=none
  ·obtain⟨x,hm,hx⟩:=hx;obtain⟨j,hj⟩:=ah.mp hm;have hp:=O3 (k:=none) he hap hn hj hx;have hej:es[j]? = some ⟨BA none,.none,x.2.2⟩:=by
    rw [Ks he,hj];have h1:=his x hm;rw [hx]at h1;show some (DM x)=_;unfold DM;rw [hx,show x.2.1=Value.none from h1]
   rw [hp];rw [if_pos (by simp [hej,carriedByValue])];unfold dictWalkPlain;simp only [List.forIn_cons,List.forIn_nil,hej];refine Wb (Wb ?_);rw [if_pos (by simp)];refine Wb (wpAny_dictEpoch ho hd (Wb (dY (Wb (wpAny_dictEpoch ho hd ?_)))));rw [if_neg (by simp),if_pos rfl];exact Wb (bJ (aA (aA (aA (hyes j x hj hx)))))
  ·have hp:=Qm (k:=none) he hap fun x hm z=>hx ⟨x,hm,z⟩;rw [hp,if_pos (by simp [carriedByValue])];unfold dictWalkPlain;simp only [List.forIn_nil];exact Wb (aA (aA (hno fun x hm z=>hx ⟨x,hm,z⟩)))
 |some t =>
  obtain⟨a,rfl,hta⟩:=hk;dsimp only;have hany:¬(es.any fun e=>e.key==Value.ref a&&e.hash != BA (some t))=true:=by
   intro z;rw [←Array.any_toList,he,List.any_eq_true]at z;obtain⟨e,hm,z⟩:=z;obtain⟨x,hx,rfl⟩:=aT.mp hm;rw [Bool.and_eq_true]at z;have h1:x.2.1=.ref a:=by simpa [DM]using z.1
   have h2:=his x hx;rw [h1]at h2;have h3:=h2.inj (show FO s.heap (some t) (.ref a) from⟨a,rfl,hta⟩);have h4:=z.2;rw [DM,h3]at h4;simp at h4
  by_cases hx:∃x∈xs,x.1=some t
  ·obtain⟨x,hm,hx⟩:=hx;obtain⟨j,hj⟩:=ah.mp hm;have hp:=O3 (k:=some t) he hap hn hj hx;have h1:=his x hm;rw [hx]at h1;obtain⟨b,hb,htb⟩:=h1;have hej:es[j]? = some ⟨BA (some t),.ref b,x.2.2⟩:=by
    rw [Ks he,hj];show some (DM x)=_;unfold DM;rw [hx,hb]
   have hst:([j].filterMap fun i=>es[i]?.map (·.key))=[.ref b]:=by simp [hej]
   rw [hp,hst,if_neg (by simp [carriedByValue]),if_neg hany];by_cases hone:(([Value.ref b]:List Value)==[Value.ref a])=true<;>(first | rw [if_pos hone] | rw [if_neg hone])<;>(first | refine Wb (aA ?_) | refine Wb (wpAny_tableMayTell_quiet (knd:=JA prog w) hta (fun v hv=>⟨t,b,List.mem_singleton.mp hv,htb⟩) ?_))<;>(
    rw [if_neg (by simp)];simp only [List.forIn_cons,List.forIn_nil,hej];refine Wb (Wb ?_);rw [if_pos (by simp)];refine Wb (wpAny_dictEpoch ho hd (Wb ((JA prog w).eqBool (x:=t) (y:=t) hu htb hta (Wb (wpAny_dictEpoch ho hd ?_)))));rw [if_neg (by simp),if_pos (by simp),if_neg (by simp)];refine Wb (bJ ?_);rw [if_pos (by simp)];exact aA (aA (aA (hyes j x hj hx))))
  ·have hp:=Qm (k:=some t) he hap fun x hm z=>hx ⟨x,hm,z⟩;rw [hp,if_neg (by simp [carriedByValue]),if_neg hany];rw [if_neg (by simp)];refine Wb (wpAny_tableMayTell_quiet (knd:=JA prog w) hta (fun v hv=>by cases hv) ?_);rw [if_neg (by simp)];simp only [List.forIn_nil];exact Wb (aA (aA (hno fun x hm z=>hx ⟨x,hm,z⟩)))
theorem UR{Q:Int→Shared→Prop}(hu:A.units+8<cLine)(hk:FO s.heap k kv)(h:Q (BA k) { s with toks:=s.toks+Cj k }):wpAny (model prog w) A (pyHash kv) Q E s:=by
 cases k with
 |some t =>
  obtain⟨a,rfl,hta⟩:=hk;exact(JA prog w).pyHash hu hta h
 |none =>
  have hk:kv=.none:=hk;subst hk;have ht:s.TypeIs .none "NoneType" := rfl;unfold pyHash pyHashByItsType;have hv:[Value.none].any Value.onHeap=false:=rfl;refine Wb ?_;rw [cRoomFor,if_neg (by rw [hv];exact aK)];refine aA ?_;refine Wb (wpAny_specialOf ht F.slot_NoneType_hash.lookup ?_);show wpAny _ _ (if(some (Value.builtin "NoneType.__hash__")==some Value.none)=true then _ else _) Q E s;rw [if_neg (by rw [beq_builtin_none];exact aK)];refine Wb (wpAny_specialOf ht F.slot_NoneType_hash.lookup ?_);show wpAny _ _ (callSpecialIfBoundUnlessNone? .none "__hash__" _>>=_) Q E s;refine Wb (wpAny_callSpecialIfBoundUnlessNone?_slot ht F.slot_NoneType_hash
   (aW F.slot_NoneType_hash ht F.entry_NoneType_hash
    (show wpAny _ _ (do ret (←mkInt 4238894112)) _ _ s from wpAny_ret_mkInt ?_) (F.args_NoneType_hash_1 _)))
  show wpAny _ _ (if(decide (-(2:Int) ^ 63≤4238894112)&&decide ((4238894112:Int)<2 ^ 63))=true then _ else _) Q E _;rw [if_pos (by decide)];exact aA h
def IZ(xs:List KE)(k:Option Tr):Option KE:=xs.find? fun x=>decide (x.1=k)
theorem Ku(hn:(xs.map (·.1)).Nodup){j:Nat}{x:KE}(hj:xs[j]? = some x)(hx:x.1=k):IZ xs k=some x:=by
 unfold IZ;cases q:xs.find? (fun x=>decide (x.1=k)) with
 |none=>exact absurd (bT hx) (List.find?_eq_none.mp q x (aI hj))
 |some y =>
  have h1:y.1=k:=by simpa using List.find?_some q
  obtain⟨i,hi⟩:=ah.mp (List.mem_of_find?_eq_some q);have e1:(xs.map (·.1))[i]? = some k:=by rw [List.getElem?_map,hi];show some y.1=_;rw [h1]
  have e2:(xs.map (·.1))[j]? = some k:=by rw [List.getElem?_map,hj];show some x.1=_;rw [hx]
  have:=(List.getElem?_inj (aE.mp e1).1 hn).mp (e1.trans e2.symm);subst this;rw [hi]at hj;exact hj
theorem IY(h:∀x∈xs,x.1≠k):IZ xs k=none:=List.find?_eq_none.mpr fun x hx=>by simpa using h x hx
structure EA(h:Heap)(d:Addr)(xs:List KE):Prop where
 ob:∃o es ep,h.get? d=some o∧o.ExactDict∧o.data=.dict es ep∧es.toList=xs.map DM
 ks:∀x∈xs,FO h x.1 x.2.1
 nd:(xs.map (·.1)).Nodup
theorem EA.ty(hm:EA s.heap d xs):s.TypeIs (.ref d) "dict" := let⟨o,_,_,ho,hc,_⟩:=hm.ob;⟨o,ho,hc.1⟩
theorem ju{Q:Option Value→Shared→Prop}(hu:A.units+8<cLine)(hk:FO s.heap k kv)(hm:EA s.heap d xs)(hap:∀x∈xs,BA x.1=BA k→x.1=k)(h:Q ((IZ xs k).map (·.2.2)) { s with toks:=s.toks+Cj k }):wpAny (model prog w) A (dictGet d kv) Q E s:=by
 obtain⟨o,es,ep,ho,_,hd,he⟩:=hm.ob;unfold dictGet
 try with_reducible refine aQ ?_
 refine Wb (UR hu hk (Wb (SA (s:={ s with toks:=s.toks+Cj k }) hu hk ho hd he hm.ks hm.nd hap (fun hno=>?_) fun j x hj hx=>?_)))
 ·rw [IY hno]at h;exact aA h
 ·rw [Ku hm.nd hj hx]at h;refine Wb (wpAny_dictEntries (s:={ s with toks:=s.toks+Cj k }) ho hd ?_);rw [Ks he j,hj];exact aA h
theorem fY{x:KE}{Q:Value→Shared→Prop}(hu:A.in1.units+8<cLine)(hk:FO s.heap k kv)(hm:EA s.heap d xs)(hap:∀x∈xs,BA x.1=BA k→x.1=k)(hx:IZ xs k=some x)(h:Q x.2.2 { s with toks:=s.toks+Cj k }):wpAny (model prog w) A (getItem (.ref d) kv) Q E s:=by
 unfold getItem
 try with_reducible refine aQ ?_
 refine Wb (wpAny_sequenceKey hm.ty (by decide) ?_);refine Wb (aj (name:=Str.ofString "__getitem__") hm.ty slot_dict_getitem (aW slot_dict_getitem hm.ty entry_dict_getitem ?_ (args_dict_getitem _ _)));show wpAny _ _ (dictGet d kv>>=_) _ _ s;refine Wb (ju hu hk hm hap ?_);rw [hx];exact aA ⟨x.2.2,rfl,wpAny_pure h⟩
def putN(k:Option Tr)(v:Value)(x:KE):KE:=if x.1=k then(x.1,x.2.1,v) else x
def Cm(xs:List KE)(k:Option Tr)(kv v:Value):List KE:=if(IZ xs k).isSome then xs.map (putN k v) else xs++[(k,kv,v)]
theorem OT(v:Value):∀xs:List KE,(xs.map (putN k v)).map (·.1)=xs.map (·.1)
 |[]=>rfl
 |x::xs=>by
  rw [List.map_cons,List.map_cons,List.map_cons,OT v xs]
  congr 1
  unfold putN;split<;>rfl
theorem LK{v:Value}:∀ {xs:List KE} {j:Nat} {x:KE},(xs.map (·.1)).Nodup→xs[j]? = some x→x.1=k→(xs.map DM).modify j (fun e=>{ e with val:=v })=(xs.map (putN k v)).map DM
 |[],_,_,_,h,_=>by simp at h
 |y::ys,0,x,hn,h,hx=>by
  have:y=x:=by simpa using h
  subst this;rw [List.map_cons,List.nodup_cons]at hn;rw [List.map_cons,List.map_cons,List.map_cons];have hno:ys.map (putN k v)=ys:=by
   refine(aX fun z hz=>?_).trans (List.map_id _);unfold putN;rw [if_neg fun e=>hn.1 (by rw [hx,←e];exact av hz)]
   rfl
  rw [hno];show { DM y with val:=v }::ys.map DM=_
  congr 1
  unfold putN;rw [if_pos hx]
  rfl
 |y::ys,j+1,x,hn,h,hx=>by
  have h':ys[j]? = some x:=by simpa using h
  rw [List.map_cons,List.nodup_cons]at hn;rw [List.map_cons,List.map_cons,List.map_cons];have hy:putN k v y=y:=by
   unfold putN;rw [if_neg fun e=>hn.1 (by rw [e,←hx];exact av (aI h'))]
  rw [hy];show DM y::(ys.map DM).modify j _=_;rw [LK hn.2 h' hx]
theorem FO.keep{h h':Heap}{k:Option Tr}{v:Value}{o:Obj}{es ep}(a:FO h k v)(prog:Program)(w:World)(ho:h.get? d=some o)(hd:o.data=.dict es ep)(sb:Heap.SameBut d h h'):FO h' k v:=by
 cases k with
 |none=>exact a
 |some t =>
  obtain⟨a1,e1,k1⟩:=a;exact⟨a1,e1,(JA prog w).keeps k1 ho hd sb⟩
theorem kN{v:Value}{Q:Unit→Shared→Prop}(hu:A.in1.units+8<cLine)(hk:FO s.heap k kv)(hm:EA s.heap d xs)(hap:∀x∈xs,BA x.1=BA k→x.1=k)(hz:xs.length≤sizeLine)
 (hQ:∀h',EA h' d (Cm xs k kv v)→Heap.SameBut d s.heap h'→Q () { s with heap:=h',toks:=s.toks+Cj k }):wpAny (model prog w) A (setItem (.ref d) kv v) Q E s:=by
 unfold setItem
 try with_reducible refine aQ ?_
 refine Wb (wpAny_sequenceKey hm.ty (by decide) ?_);refine Wb (aj (name:=Str.ofString "__setitem__") hm.ty slot_dict_setitem (aW slot_dict_setitem hm.ty entry_dict_setitem ?_ (args_dict_setitem _ _ _)));show wpAny _ _ (Builtin.Dict.notOrdered "__setitem__" ⟨[.ref d,kv,v],[]⟩>>=_) _ _ s;refine Wb (wpAny_notOrdered_dict hm.ty ?_);show wpAny _ _ (dictSet d kv v>>=_) _ _ s;refine Wb ?_;have fin:∀h',EA h' d (Cm xs k kv v)→Heap.SameBut d s.heap h'→wpAny (model prog w) A.in1 (ret .none) (fun fin s'=>∃v,fin=.done (.ret v)∧wpAny (model prog w) A (pure ()) Q E s') E { s with heap:=h',toks:=s.toks+Cj k }:=fun h' h1 h2=>aA ⟨.none,rfl,wpAny_pure (hQ h' h1 h2)⟩;obtain⟨o,es,ep,ho,hc,hd,he⟩:=hm.ob;unfold dictSet
 try with_reducible refine aQ ?_
 refine Wb (UR hu hk ?_);unfold dictSetHashed
 try with_reducible refine aQ ?_
 refine Wb (SA (s:={ s with toks:=s.toks+Cj k }) hu hk ho hd he hm.ks hm.nd hap (fun hno=>?_) fun j x hj hx=>?_)
 ·have es':Cm xs k kv v=xs++[(k,kv,v)]:=by unfold Cm;rw [IY hno];rfl
  rw [es']at fin;refine Wb (bJ (wpAny_updateDictKeys (hz:=by rw [OV he];exact hz) (s:={ s with toks:=s.toks+Cj k }) ho hd (fin _ ⟨⟨_,_,ep+1,Heap.get?_update_self _ ho (Obj.isFreed_of_dict (Obj.data_mapDictKeys hd _)),hc.mapDictKeys _,Obj.data_mapDictKeys hd _,?_⟩,fun y hy=>?_,?_⟩ (aU ..))))
  ·simp [he,DM]
  ·rcases ba.mp hy with h | h
   ·exact(hm.ks y h).keep prog w ho hd (aU ..)
   ·rw [List.mem_singleton.mp h];exact hk.keep prog w ho hd (aU ..)
  ·rw [List.map_append,List.nodup_append];refine⟨hm.nd,by simp,fun a ha b hb=>?_⟩;have:b=k:=by simpa using hb
   subst this;obtain⟨y,hy,rfl⟩:=aT.mp ha;exact hno y hy
 ·have es':Cm xs k kv v=xs.map (putN k v):=by unfold Cm;rw [Ku hm.nd hj hx];rfl
  rw [es']at fin;refine Wb (bJ (Wb (wpAny_updateDict (s:={ s with toks:=s.toks+Cj k }) ho hd (wpAny_point (fin _ ⟨⟨_,_,ep,Heap.get?_update_self _ ho (Obj.isFreed_of_dict (Obj.data_mapDict hd _)),hc.mapDict _,Obj.data_mapDict hd _,?_⟩,fun y hy=>?_,?_⟩ (aU ..))))))
  ·have:=LK (v:=v) hm.nd hj hx;rw [←he]at this;obtain⟨l⟩:=es
   simpa using this
  ·obtain⟨z,hz',rfl⟩:=aT.mp hy;unfold putN;split<;>exact(hm.ks z hz').keep prog w ho hd (aU ..)
  ·rw [OT];exact hm.nd
end
end TH
namespace L2
open PySem PySem.Spec PyProof.Rows
abbrev KR:=Option Tr×V×V
def Nv(q:KR)(x:TH.KE):Prop:=x.1=q.1∧RelV q.2.1 x.2.1∧RelV q.2.2 x.2.2
def dN(d:Addr)(r:List KR):HO:=.ext fun h=>(d==sysModules)=false∧∃o es ep xs,h.get? d=some o∧o.ExactDict∧o.data=.dict es ep∧es.toList=xs.map TH.DM∧PySem.Paired Nv r xs
def Ge(H:Hp):Option Tr→V→Prop
 |none,v=>v=.A7
 |some t,v=>t.deep<8∧Tv H t v
theorem Ge.same{H H':Hp}{k:Option Tr}{v:V}(h:Ge H k v)(e:AO H H'):Ge H' k v:=by
 cases k with
 |none=>exact h
 |some t=>exact⟨h.1,h.2.same e⟩
structure SJ(H:Hp)(d:Addr)(r:List KR)(k:Option Tr):Prop where
 at_:H d=some (dN d r)
 ks:∀q∈r,Ge H q.1 q.2.1
 nd:(r.map (·.1)).Nodup
 ap:∀q∈r,TH.BA q.1=TH.BA k→q.1=k
theorem Im{α β:Type}{R:α→β→Prop}{l:List α}{m:List β}(h:PySem.Paired R l m):∀x∈m,∃q∈l,R q x:=by
 induction h with
 |nil=>intro x hx;cases hx
 |cons a _ ih =>
  intro x hx;rcases aM.mp hx with rfl | hx
  ·exact⟨_,.head _,a⟩
  ·obtain⟨q,h1,h2⟩:=ih x hx;exact⟨q,.tail _ h1,h2⟩
theorem RK{r:List KR}{xs:List TH.KE}(h:PySem.Paired Nv r xs):xs.map (·.1)=r.map (·.1):=by
 induction h with
 |nil=>rfl
 |cons a _ ih=>rw [List.map_cons,List.map_cons,ih,a.1]
section
variable{X:Cx}{pins:List (Addr×Obj)}{σ:St}{H:Hp}{s:Shared}{pos:Pos}
theorem Ge.raw(I:Inv X pins σ H s){k:Option Tr}{v:V}{u:Value}(h:Ge H k v)(r:RelV v u):TH.FO s.heap k u:=by
 cases k with
 |none =>
  have h:v=.A7:=h;subst h;exact r
 |some t =>
  obtain⟨h1,a,ys,rfl,h2,h3⟩:=h;obtain⟨its,rv,p,_⟩:=I.tuple (A8.of (K:=X.K) h2);exact⟨a,r,h1,its,p,h3.vs I rv⟩
theorem SX(I:Inv X pins σ H s){d:Addr}{r:List KR}{k:Option Tr}(h:SJ H d r k):(d==sysModules)=false∧∃xs,TH.EA s.heap d xs∧PySem.Paired Nv r xs∧∀x∈xs,TH.BA x.1=TH.BA k→x.1=k:=by
 obtain⟨hs,o,es,ep,xs,g1,g2,g3,g4,g5⟩:=(show Cd X.prog X.w H s.heap d (dN d r) from I.Ap d _ h.at_).1;refine⟨hs,xs,⟨⟨o,es,ep,g1,g2,g3,g4⟩,fun x hx=>?_,by rw [RK g5];exact h.nd⟩,g5,fun x hx=>?_⟩
 ·obtain⟨q,h1,h2,h3,_⟩:=Im g5 x hx;rw [h2];exact(h.ks q h1).raw I h3
 ·obtain⟨q,h1,h2,_⟩:=Im g5 x hx;rw [h2];exact h.ap q h1
theorem T6{r:List KR}{xs:List TH.KE}(h:PySem.Paired Nv r xs)(k:Option Tr):match r.find? (fun q=>decide (q.1=k)) with
  |some q=>∃x,TH.IZ xs k=some x∧RelV q.2.2 x.2.2
  |none=>TH.IZ xs k=none:=by
 induction h with
 |nil=>exact rfl
 | @cons q x l m a _ ih =>
  unfold TH.IZ at ih ⊢;rw [List.find?_cons,List.find?_cons,a.1];by_cases z:q.1=k
  ·simp only [decide_eq_true z];exact⟨x,rfl,a.2.2⟩
  ·simp only [decide_eq_false z];exact ih
def ly:R2:=fun x y H Q=>∃d r k q,x=.ref d∧Ge H k y∧SJ H d r k∧r.find? (fun q=>decide (q.1=k))=some q∧Q q.2.2 H
theorem iw{o i:Expr}{td ty:TE}(hu:X.A.units+64<cLine)(ho:PE X o td)(hi:PE X i ty)(hs:ZR i):PE X (.Subscript o i pos) (YO ly td ty):=by
 intro pins s σ H Q I h;refine eh PySem.F.slot_dict_getitem.lookup hs (BB (ho pins s σ H _ I h) fun u s1 ⟨x,H1,I1,rx,q1⟩=>BB (hi pins s1 σ H1 _ I1 q1) fun iv s2 ⟨y,H2,I2,ry,q2⟩=>?_);obtain⟨d,r,k,q,rfl,hk,hD,hf,q3⟩:=q2;obtain rfl:u=Value.ref d:=rx;obtain⟨hsm,xs,hm,hp,hap⟩:=SX I2 hD;have hr:=T6 hp k;rw [hf]at hr;obtain⟨x,h1,h2⟩:=hr;exact⟨hm.ty,TH.fY (by show X.A.in1.units+8<cLine;rw [Around.in1_units];omega) (hk.raw I2 ry) hm hap h1 ⟨q.2.2,H2,I2.tok _,h2,q3⟩⟩
def Ma(r:List KR)(k:Option Tr)(kv v:V):List KR:=if(r.find? (fun q=>decide (q.1=k))).isSome then r.map (fun q=>if q.1=k then(q.1,q.2.1,v) else q) else r++[(k,kv,v)]
theorem eK{r:List KR}{xs:List TH.KE}{k:Option Tr}{kv v:V}{ku u:Value}(h:PySem.Paired Nv r xs)(hk:RelV kv ku)(hv:RelV v u):PySem.Paired Nv (Ma r k kv v) (TH.Cm xs k ku u):=by
 have hr:=T6 h k;unfold Ma TH.Cm;split at hr
 ·rename_i q e;obtain⟨x,h1,_⟩:=hr;rw [h1,e];simp only [Option.isSome_some,if_true];clear e h1 hk
  induction h with
  |nil=>exact .nil
  | @cons q x l m a _ ih =>
   rw [List.map_cons,List.map_cons];refine .cons ?_ ih;unfold TH.putN;rw [a.1];by_cases z:q.1=k
   ·rw [if_pos z,if_pos z];exact⟨rfl,a.2.1,hv⟩
   ·rw [if_neg z,if_neg z];exact a
 ·rename_i e;rw [hr,e];exact h.snoc ⟨rfl,hk,hv⟩
def cL:WX:=fun o i v H Q=>∃d r k,o=.ref d∧Ge H k i∧SJ H d r k∧r.length≤1000∧Q (upd H d (dN d (Ma r k i v)))
theorem hW(hu:X.A.units+64<cLine):ZP X cL:=by
 intro pins s σ H o i v ov iv u Q I ro ri rv h;obtain⟨d,r,k,rfl,hk,hD,hl,q⟩:=h;obtain rfl:ov=Value.ref d:=ro;obtain⟨hsm,xs,hm,hp,hap⟩:=SX I hD;have hle:xs.length=r.length:=by have:=bC List.length (RK hp);simpa using this
 refine TH.kN (by show X.A.in1.units+8<cLine;rw [Around.in1_units];omega) (hk.raw I ri) hm hap (aa (by omega:xs.length≤1000) (by rw [sizeLine_eq];decide)) fun h' hm' sb=>?_;obtain⟨o',es,ep,g1,g2,g3,g4⟩:=hm'.ob;refine⟨_,I.write (x:=d) (e:=d) (o:=dN d (Ma r k i v)) (t':=s.toks+TH.Cj k) (by rw [hD.at_];exact trivial) (.inl rfl) (fun b w' hb e=>(sb.2 b hb).trans e) ⟨o',g1⟩ ?_,q⟩;exact⟨⟨hsm,o',es,ep,_,g1,g2,g3,g4,eK hp ri rv⟩,⟨o',g1⟩,fun h1 h2 ⟨a,o,es,ep,xs,q,r⟩ k=>⟨a,o,es,ep,xs,k _ q,r⟩⟩
end
section
variable{X:Cx}
theorem X0(hc:X.calm=true):D3 X (.builtin "sum") (fun xs H Q=>∃(p:Addr) (ns:List Int),xs=[.ref p]∧A8 X.K H p (ns.map V.int)∧Q (.int ns.sum) H):=by
 intro pins s σ H xs us Q I r h;obtain⟨p,ns,rfl,hq,q⟩:=h;obtain⟨u,rfl,r1⟩:=r.one;cases r1;obtain⟨its,rv,pl,hz⟩:=I.tuple hq;have hi:=intsAre_of rv;obtain⟨xs,hx⟩:=hi.allInts.items;have hl':s.heap.IsTuple p (intItems xs):=hx ▸ pl
 have hlt:p<s.heap.objs.size:=by obtain⟨_,e,_⟩:=hl';exact aF e
 have e1:ns=xs.toList.map (·.1):=by
  rw [←nums_intItems,←hx];exact(show numsOf its.toArray.toList=ns from hi.numsOf).symm
 have e2:preSum (numAt xs) xs.size=ns.sum:=by
  rw [preSum_eq,List.take_of_length_le (by simp),e1]
 refine call_sum_walkG (wpAny_pyIter_tuple hl' ?_);refine⟨_,[_,p],[_],_,_,_,numAt xs,rfl,Walks.tuple (A:=X.A.in1) (I.ok.hd hc) _ p (aG hlt) (intItems xs),
  ⟨⟨_,Heap.get?_push_size _ rfl,rfl,rfl⟩,hl'.push _⟩,fun c hcc=>?_,(fun _ _=>intItems_at),fun h' tk t' hk=>?_⟩
 ·show c<(s.heap.push _).objs.size;rw [Heap.size_push];rcases aM.mp hcc with rfl | hcc
  ·exact bL _
  ·rw [List.mem_singleton.mp hcc];exact aq hlt
 ·have e3:preSum (numAt xs) (intItems xs).size=ns.sum:=by
   rw [←e2];simp [intItems]
  rw [e3];exact⟨.int _,H,I.kept (t':=tk) (PyProof.Rows.LSm.kept_iter hk),⟨t',rfl⟩,q⟩
end
end L2
set_option maxHeartbeats 1000000
namespace L2
open PySem PySem.Spec PyProof.Rows
theorem Rd.same{H H':Hp}{a:Addr}{u:HO}(e:AO H H')(h:Rd H a u):Rd H' a u:=by
 rcases h with h | ⟨o,h⟩
 ·exact .inl (e _ _ h)
 ·exact .inr ⟨o,e _ _ h⟩
def Bq:Tr→List PyData
 |.nil=>[]
 |.cons b r=>.tuple (Bq b)::Bq r
def CC:Option Tr→PyData
 |none=>.none
 |some t=>.tuple (Bq t)
mutual
def Du(H:Hp):PyData→V→Prop
 |.none,v=>v=.A7
 |.bool b,v=>v=.bl b
 |.int i,v=>v=.int i
 |.str x,v=>v=.str x
 |.tuple ds,v=>∃a xs,v=.ref a∧H a=some (.tup xs)∧Ae H ds xs
 |.list ds,v=>∃a xs,v=.ref a∧H a=some (.lst xs)∧Ae H ds xs
 |.dict kv,v=>(∃ea C:Addr,kv=[(.int (C:Nat),.none)]∧v=.ref ea∧H ea=some (lg ea (.ref C)))∨(∃(a:Addr) (ns:List Int),kv=[(.none,.list (ns.map .int))]∧v=.ref a∧Rd H a (.lst (ns.map V.int)))∨Jt H kv v
def Ae(H:Hp):List PyData→List V→Prop
 |[],xs=>xs=[]
 |d::ds,xs=>∃x r,xs=x::r∧Du H d x∧Ae H ds r
def Jt(H:Hp):List (PyData×PyData)→V→Prop
 |[],_=>False
 |(k0,d0)::t,v=>k0=.bool true∧d0=.none∧∃a r,v=.ref a∧H a=some (dN a r)∧(r.map (·.1)).Nodup∧E8 H t r
def E8(H:Hp):List (PyData×PyData)→List KR→Prop
 |[],r=>r=[]
 |(k,d)::t,r=>∃q r',r=q::r'∧k=CC q.1∧Ge H q.1 q.2.1∧Du H d q.2.2∧E8 H t r'
end
mutual
theorem Du.same{H H':Hp}(e:AO H H'):∀ {d:PyData} {v:V},Du H d v→Du H' d v
 |.none,_,h=>by rw [Du]at h ⊢;exact h
 |.bool _,_,h=>by rw [Du]at h ⊢;exact h
 |.int _,_,h=>by rw [Du]at h ⊢;exact h
 |.str _,_,h=>by rw [Du]at h ⊢;exact h
 |.tuple _,_,h=>by
  rw [Du]at h ⊢;obtain⟨a,xs,e1,h1,h2⟩:=h;exact⟨a,xs,e1,e _ _ h1,Ae.same e h2⟩
 |.list _,_,h=>by
  rw [Du]at h ⊢;obtain⟨a,xs,e1,h1,h2⟩:=h;exact⟨a,xs,e1,e _ _ h1,Ae.same e h2⟩
 |.dict _,_,h=>by
  rw [Du]at h ⊢;rcases h with ⟨ea,C,e1,e2,h1⟩ | ⟨a,ns,e1,e2,h1⟩ | h
  ·exact .inl ⟨ea,C,e1,e2,e _ _ h1⟩
  ·exact .inr (.inl ⟨a,ns,e1,e2,h1.same e⟩)
  ·exact .inr (.inr (Jt.same e h))
theorem Ae.same{H H':Hp}(e:AO H H'):∀ {ds:List PyData} {xs:List V},Ae H ds xs→Ae H' ds xs
 |[],_,h=>by rw [Ae]at h ⊢;exact h
 |_::_,_,h=>by
  rw [Ae]at h ⊢;obtain⟨x,r,e1,h1,h2⟩:=h;exact⟨x,r,e1,Du.same e h1,Ae.same e h2⟩
theorem Jt.same{H H':Hp}(e:AO H H'):∀ {kv:List (PyData×PyData)} {v:V},Jt H kv v→Jt H' kv v
 |[],_,h=>by rw [Jt]at h;exact h.elim
 |(_,_)::_,_,h=>by
  rw [Jt]at h ⊢;obtain⟨h1,h2,a,r,h3,h4,h5,h6⟩:=h;exact⟨h1,h2,a,r,h3,e _ _ h4,h5,E8.same e h6⟩
theorem E8.same{H H':Hp}(e:AO H H'):∀ {kv:List (PyData×PyData)} {r:List KR},E8 H kv r→E8 H' kv r
 |[],_,h=>by rw [E8]at h ⊢;exact h
 |(_,_)::_,_,h=>by
  rw [E8]at h ⊢;obtain⟨q,r',h1,h2,h3,h4,h5⟩:=h;exact⟨q,r',h1,h2,h3.same e,Du.same e h4,E8.same e h5⟩
end
mutual
theorem Du.br{K:Fg}{H:Hp}:∀ {d:PyData} {v:V},d.canLay0=true→Du H d v→Br K H d v
 |.none,_,_,h=>by rw [Du]at h;rw [Br];exact h
 |.bool _,_,_,h=>by rw [Du]at h;rw [Br];exact h
 |.int _,_,_,h=>by rw [Du]at h;rw [Br];exact h
 |.str _,_,_,h=>by rw [Du]at h;rw [Br];exact h
 |.tuple _,_,c,h=>by
  rw [Du]at h;rw [Br];obtain⟨a,xs,e1,h1,h2⟩:=h;exact⟨a,xs,e1,A8.of h1,Ae.br (by simp only [PyData.canLay0,Bool.and_eq_true]at c;first | exact c | exact c.2 | exact c.1) h2⟩
 |.list _,_,c,h=>by
  rw [Du]at h;rw [Br];obtain⟨a,xs,e1,h1,h2⟩:=h;exact⟨a,xs,e1,A4.of h1,Ae.br (by simp only [PyData.canLay0,Bool.and_eq_true]at c;first | exact c | exact c.2 | exact c.1) h2⟩
 |.dict _,_,c,h=>by simp [PyData.canLay0]at c
theorem Ae.br{K:Fg}{H:Hp}:∀ {ds:List PyData} {xs:List V},PyData.canLayAll0 ds=true→Ae H ds xs→Fp K H ds xs
 |[],_,_,h=>by rw [Ae]at h;rw [Fp];exact h
 |_::_,_,c,h=>by
  rw [Ae]at h;rw [Fp];obtain⟨x,r,e1,h1,h2⟩:=h;simp only [PyData.canLayAll0,Bool.and_eq_true]at c;exact⟨x,r,e1,Du.br c.1 h1,Ae.br c.2 h2⟩
end
theorem Ae.nil{H:Hp}:Ae H [] []:=by rw [Ae]
theorem Ae.cons{H:Hp}{d:PyData}{ds:List PyData}{x:V}{xs:List V}(h:Du H d x)(k:Ae H ds xs):Ae H (d::ds) (x::xs):=by rw [Ae];exact⟨x,xs,rfl,h,k⟩
theorem Ae.un{H:Hp}{d:PyData}{ds:List PyData}{xs:List V}(h:Ae H (d::ds) xs):∃x r,xs=x::r∧Du H d x∧Ae H ds r:=by rw [Ae]at h;exact h
theorem Ae.nil_eq{H:Hp}{xs:List V}(h:Ae H [] xs):xs=[]:=by rw [Ae]at h;exact h
theorem Ae.len{H:Hp}:∀ {ds:List PyData} {xs:List V},Ae H ds xs→xs.length=ds.length
 |[],_,h=>by rw [h.nil_eq];rfl
 |_::_,_,h=>by obtain⟨x,r,rfl,_,h2⟩:=h.un;simp [h2.len]
theorem Ae.get{H:Hp}:∀ {ds:List PyData} {xs:List V} {i:Nat} {d:PyData},Ae H ds xs→ds[i]? = some d→∃v,xs[i]? = some v∧Du H d v
 |[],_,i,_,_,e=>by simp at e
 |_::_,_,0,_,h,e=>by
  obtain⟨x,r,rfl,h1,_⟩:=h.un;simp at e;subst e;exact⟨x,rfl,h1⟩
 |_::_,_,i+1,_,h,e=>by
  obtain⟨x,r,rfl,_,h2⟩:=h.un;obtain⟨v,k1,k2⟩:=h2.get (i:=i) (by simpa using e);exact⟨v,by simpa using k1,k2⟩
theorem Ae.back{H:Hp}{ds:List PyData}{xs:List V}{i:Nat}{v:V}(h:Ae H ds xs)(e:xs[i]? = some v):∃d,ds[i]? = some d∧Du H d v:=by
 have hl:=h.len;have hi:i<ds.length:=by rw [←hl];exact(aE.mp e).1
 have hd:ds[i]? = some ds[i]:=by simp [hi]
 obtain⟨w,k1,k2⟩:=h.get hd;rw [e]at k1;cases k1;exact⟨_,hd,k2⟩
theorem Ae.app{H:Hp}:∀ {ds es:List PyData} {xs ys:List V},Ae H ds xs→Ae H es ys→Ae H (ds++es) (xs++ys)
 |[],_,_,_,h,k=>by rw [h.nil_eq];exact k
 |_::_,_,_,_,h,k=>by obtain⟨x,r,rfl,h1,h2⟩:=h.un;exact .cons h1 (h2.app k)
theorem Ae.take{H:Hp}:∀ {ds:List PyData} {xs:List V} (i:Nat),Ae H ds xs→Ae H (ds.take i) (xs.take i)
 |_,_,0,_=>by rw [List.take_zero,List.take_zero];exact .nil
 |[],_,i+1,h=>by rw [h.nil_eq];exact .nil
 |_::_,_,i+1,h=>by obtain⟨x,r,rfl,h1,h2⟩:=h.un;exact .cons h1 (h2.take i)
theorem Ae.drop{H:Hp}:∀ {ds:List PyData} {xs:List V} (i:Nat),Ae H ds xs→Ae H (ds.drop i) (xs.drop i)
 |_,_,0,h=>h
 |[],_,i+1,h=>by rw [h.nil_eq];exact .nil
 |_::_,_,i+1,h=>by obtain⟨x,r,rfl,h1,h2⟩:=h.un;exact h2.drop i
theorem Ae.rev{H:Hp}:∀ {ds:List PyData} {xs:List V},Ae H ds xs→Ae H ds.reverse xs.reverse
 |[],_,h=>by rw [h.nil_eq];exact .nil
 |_::_,_,h=>by
  obtain⟨x,r,rfl,h1,h2⟩:=h.un;rw [List.reverse_cons,List.reverse_cons];exact h2.rev.app (.cons h1 .nil)
inductive Oc where
 |lst (xs:List PyData) | Vv (kvs:List (List Key×PyData)) | FH (kvs:List (Option Tr×PyData))
inductive L where
 |no | d (x:PyData) | own (c:Oc)
abbrev Dv:=List L
def QO(G:Hp):List (List Key×PyData)→List (List Key×V)→Prop
 |[],r=>r=[]
 |q::t,r=>∃v r',r=(q.1,v)::r'∧Du G q.2 v∧QO G t r'
theorem QO.same{G G':Hp}(e:AO G G'):∀ {t:List (List Key×PyData)} {r:List (List Key×V)},QO G t r→QO G' t r
 |[],r,h=>h
 |q::t,r,h=>by
  obtain⟨v,r',rfl,h1,h2⟩:=h;exact⟨v,r',rfl,h1.same e,QO.same e h2⟩
abbrev HZ(kvs:List (Option Tr×PyData)):List (PyData×PyData):=kvs.map fun q=>(CC q.1,q.2)
abbrev Bo(kvs:List (Option Tr×PyData)):PyData:=.dict ((.bool true,.none)::HZ kvs)
def ID(G:Hp)(a:Addr):Oc→HO→Prop
 |.lst xs,o=>∃ys,o=.lst ys∧Ae G xs ys
 |.Vv kvs,o=>∃r,o=.dT r∧QO G kvs r
 |.FH kvs,o=>∃r,o=dN a r∧(r.map (·.1)).Nodup∧E8 G (HZ kvs) r
theorem ID.same{G G':Hp}{a:Addr}{c:Oc}{o:HO}(h:ID G a c o)(e:AO G G'):ID G' a c o:=by
 cases c with
 |FH kvs=>obtain⟨r,h1,h2,h3⟩:=h;exact⟨r,h1,h2,E8.same e h3⟩
 |lst xs=>obtain⟨ys,h1,h2⟩:=h;exact⟨ys,h1,h2.same e⟩
 |Vv kvs=>obtain⟨ys,h1,h2⟩:=h;exact⟨ys,h1,h2.same e⟩
theorem ID.SU{G:Hp}{a:Addr}{c:Oc}{xs:List V}(h:ID G a c (.tup xs)):False:=by
 cases c with
 |FH kvs=>obtain⟨r,h1,h2,h3⟩:=h;unfold dN at h1;cases h1
 |lst xs=>obtain⟨ys,h1,h2⟩:=h;cases h1
 |Vv kvs=>obtain⟨ys,h1,h2⟩:=h;cases h1
def Nw(G0 H0 G:Hp):Prop:=∀a o,G a=some o→G0 a=some o∨H0 a=none∨∃xs,o=HO.tup xs
structure Rw(G0 H0 G H:Hp)(σ:St)(δ:Dv)(ts:List (PyData×V)):Prop where
 ext:AO G0 G
 new:Nw G0 H0 G
 ins:AO G H
 keep:AO H0 H
 len:σ.length=δ.length
 dat:∀(i:Nat) (x:PyData),δ[i]? = some (L.d x)→∃v,σ[i]? = some (some v)∧Du G x v
 own:∀(i:Nat) (xs:Oc),δ[i]? = some (L.own xs)→∃(a:Addr) (ys:HO),σ[i]? = some (some (V.ref a))∧G a=none∧H0 a=none∧H a=some ys∧ID G a xs ys
 apart:∀(i j:Nat) (xs ys:Oc),i≠j→δ[i]? = some (L.own xs)→δ[j]? = some (L.own ys)→σ[i]?≠σ[j]?
 BX:∀p∈ts,Du G p.1 p.2
def DE(X:Cx)(e:Expr)(f:Dv→Option PyData):Prop:=∃t,PE X e t∧∀δ x,f δ=some x→∀G0 H0 G H σ ts (Q:VK),Rw G0 H0 G H σ δ ts→(∀v G' H',Rw G0 H0 G' H' σ δ ((x,v)::ts)→Q v H')→t σ H Q
def DA(X:Cx)(es:List Expr)(f:Dv→Option (List PyData)):Prop:=∃t,PA X es t∧∀δ xs,f δ=some xs→∀G0 H0 G H σ ts (Q:List V→Hp→Prop),Rw G0 H0 G H σ δ ts→(∀vs G' H',Rw G0 H0 G' H' σ δ (xs.zip vs++ts)→vs.length=xs.length→Q vs H')→t σ H Q
def DT(X:Cx)(e:Expr)(f:Dv→Option Bool):Prop:=∃t,PT X e t∧∀δ b,f δ=some b→∀G0 H0 G H σ ts (Q:Bool→Hp→Prop),Rw G0 H0 G H σ δ ts→(∀G' H',Rw G0 H0 G' H' σ δ ts→Q b H')→t σ H Q
section
variable{G0 H0 G H:Hp}{σ:St}{δ:Dv}{ts:List (PyData×V)}
theorem Rw.drop{p:PyData×V}(r:Rw G0 H0 G H σ δ (p::ts)):Rw G0 H0 G H σ δ ts:={ r with BX:=fun q hq=>r.BX q (.tail _ hq) }
theorem Rw.less{us:List (PyData×V)}(r:Rw G0 H0 G H σ δ ts)(h:∀p∈us,p∈ts):Rw G0 H0 G H σ δ us:={ r with BX:=fun q hq=>r.BX q (h q hq) }
theorem Rw.put{x:PyData}{v:V}(r:Rw G0 H0 G H σ δ ts)(h:Du G x v):Rw G0 H0 G H σ δ ((x,v)::ts):={ r with BX:=fun q hq=>by rcases aM.mp hq with rfl | hq;exact h;exact r.BX q hq }
theorem Rw.newObj{p:Addr}{o:HO}(r:Rw G0 H0 G H σ δ ts)(hp:H p=none):Rw G0 H0 (upd G p o) (upd H p o) σ δ ts:=by
 have hG:G p=none:=by
  cases q:G p with
  |none=>rfl
  |some u=>rw [r.ins _ _ q]at hp;cases hp
 have h0:H0 p=none:=by
  cases q:H0 p with
  |none=>rfl
  |some u=>rw [r.keep _ _ q]at hp;cases hp
 have e:AO G (upd G p o):=Bh hG o;refine⟨r.ext.trans e,fun a u h=>?_,fun a u h=>?_,r.keep.trans (Bh hp o),r.len,fun i x h=>?_,fun i xs h=>?_,r.apart,fun q hq=>(r.BX q hq).same e⟩
 ·by_cases ha:a=p
  ·subst ha;exact .inr (.inl h0)
  ·rw [AM ha]at h;exact r.new _ _ h
 ·by_cases ha:a=p
  ·subst ha;rw [AX]at h ⊢;exact h
  ·rw [AM ha]at h ⊢;exact r.ins _ _ h
 ·obtain⟨v,k1,k2⟩:=r.dat i x h;exact⟨v,k1,k2.same e⟩
 ·obtain⟨a,ys,k1,k2,k3,k4,k5⟩:=r.own i xs h;have ha:a≠p:=fun z=>by subst z;rw [k4]at hp;cases hp
  exact⟨a,ys,k1,by rw [AM ha];exact k2,k3,by rw [AM ha];exact k4,k5.same e⟩
theorem Rw.jM{p:Addr}{xs:List V}{H':Hp}(r:Rw G0 H0 G H σ δ ts)(e:AO H H')(hp:H' p=some (.tup xs)):Rw G0 H0 (upd G p (.tup xs)) H' σ δ ts:=by
 have e1:AO G (upd G p (.tup xs)):=fun a o h=>by
  by_cases ha:a=p
  ·subst ha;have:=e _ _ (r.ins _ _ h);rw [hp]at this;rw [AX];exact this
  ·rw [AM ha];exact h
 refine⟨r.ext.trans e1,fun a u h=>?_,fun a u h=>?_,r.keep.trans e,r.len,fun i x h=>?_,fun i xs h=>?_,r.apart,fun q hq=>(r.BX q hq).same e1⟩
 ·by_cases ha:a=p
  ·subst ha;rw [AX]at h;cases h;exact .inr (.inr ⟨_,rfl⟩)
  ·rw [AM ha]at h;exact r.new _ _ h
 ·by_cases ha:a=p
  ·subst ha;rw [AX]at h;rw [hp];exact h
  ·rw [AM ha]at h;exact e _ _ (r.ins _ _ h)
 ·obtain⟨v,k1,k2⟩:=r.dat i x h;exact⟨v,k1,k2.same e1⟩
 ·obtain⟨a,ys,k1,k2,k3,k4,k5⟩:=r.own i xs h;have ha:a≠p:=fun z=>by subst z;rw [e _ _ k4]at hp;cases hp;exact k5.SU
  exact⟨a,ys,k1,by rw [AM ha];exact k2,k3,e _ _ k4,k5.same e1⟩
theorem Rw.lift{G' H':Hp}(r:Rw G0 H0 G H σ δ ts)(h1:AO G G')(h2:Nw G H G')(h3:AO G' H')(h4:AO H H'):Rw G0 H0 G' H' σ δ ts:=by
 refine⟨r.ext.trans h1,fun a o h=>?_,h3,r.keep.trans h4,r.len,fun i x h=>?_,fun i xs h=>?_,r.apart,fun q hq=>(r.BX q hq).same h1⟩
 ·rcases h2 a o h with k | k | k
  ·exact r.new a o k
  ·right;left
   cases q:H0 a with
   |none=>rfl
   |some u=>rw [r.keep _ _ q]at k;cases k
  ·exact .inr (.inr k)
 ·obtain⟨v,k1,k2⟩:=r.dat i x h;exact⟨v,k1,k2.same h1⟩
 ·obtain⟨a,ys,k1,k2,k3,k4,k5⟩:=r.own i xs h;refine⟨a,ys,k1,?_,k3,h4 _ _ k4,k5.same h1⟩;cases q:G' a with
  |none=>rfl
  |some u =>
   rcases h2 a u q with z | z | ⟨xs',z⟩
   ·rw [k2]at z;cases z
   ·rw [k4]at z;cases z
   ·have:=h3 _ _ q;rw [h4 _ _ k4,z]at this;cases this;exact k5.SU.elim
end
section
variable{X:Cx}{a b c e:Expr}{es:List Expr}{f g h:Dv→Option PyData}{pos:Pos}
theorem AK{i j pos}:DE X (.Constant (.int i) j pos) (fun _=>some (.int i)):=⟨_,A5,fun δ x h G0 H0 G H σ ts Q r k=>by cases h;exact k _ _ _ (r.put (by rw [Du]))⟩
theorem R8{i j pos}:DE X (.Constant (.bool i) j pos) (fun _=>some (.bool i)):=⟨_,Ii,fun δ x h G0 H0 G H σ ts Q r k=>by cases h;exact k _ _ _ (r.put (by rw [Du]))⟩
theorem iB{j pos}:DE X (.Constant .none j pos) (fun _=>some .none):=⟨_,iW,fun δ x h G0 H0 G H σ ts Q r k=>by cases h;exact k _ _ _ (r.put (by rw [Du]))⟩
theorem UC{i j pos}:DE X (.Constant (.str i) j pos) (fun _=>some (.str i)):=⟨_,iC,fun δ x h G0 H0 G H σ ts Q r k=>by cases h;exact k _ _ _ (r.put (by rw [Du]))⟩
def nm(i:Nat)(δ:Dv):Option PyData:=match δ[i]? with | some (.d x)=>some x | _=>none
theorem WA{i:Nat}{δ:Dv}{x:PyData}(h:nm i δ=some x):δ[i]? = some (.d x):=by
 unfold nm at h;split at h
 ·rename_i y e;cases h;exact e
 ·cases h
theorem AB{i:Nat}{x:Str}(h:PE X (.Name x pos) (J6 i)):DE X (.Name x pos) (nm i):=⟨_,h,fun δ y hy G0 H0 G H σ ts Q r k=>by
 obtain⟨v,h1,h2⟩:=r.dat _ _ (WA hy);exact⟨v,h1,k _ _ _ (r.put h2)⟩⟩
def AI(o:PyData→PyData→Option PyData)(f g:Dv→Option PyData)(δ:Dv):Option PyData:=(f δ).bind fun x=>(g δ).bind fun y=>o x y
def EW(X:Cx)(m:Value→Value→Sem Value)(o:PyData→PyData→Option PyData):Prop:=∃r:R2,CY X m r∧∀x y z,o x y=some z→∀G0 H0 G H σ δ ts u v (Q:VK),Rw G0 H0 G H σ δ ts→Du G x u→Du G y v→(∀w G' H',Rw G0 H0 G' H' σ δ ((z,w)::ts)→Q w H')→r u v H Q
theorem two{x y:PyData}{f g:Dv→Option PyData}{δ:Dv}{o:PyData→PyData→Option PyData}{z:PyData}(h:AI o f g δ=some z):∃x y,f δ=some x∧g δ=some y∧o x y=some z:=by
 unfold AI at h;obtain⟨x,h1,h2⟩:=aB.mp h;obtain⟨y,h3,h4⟩:=aB.mp h2;exact⟨x,y,h1,h3,h4⟩
theorem Af{op:Operator}{o:PyData→PyData→Option PyData}(ho:EW X (binaryOp op) o)(ha:DE X a f)(hb:DE X b g):DE X (.BinOp a op b pos) (AI o f g):=by
 obtain⟨r,hr,kr⟩:=ho;obtain⟨ta,pa,ka⟩:=ha;obtain⟨tb,pb,kb⟩:=hb;refine⟨_,DD hr pa pb,fun δ z hz G0 H0 G H σ ts Q R0 k=>?_⟩;obtain⟨x,y,h1,h2,h3⟩:=two (x:=.none) (y:=.none) hz;refine ka δ x h1 G0 H0 G H σ ts _ R0 fun u G1 H1 R1=>?_;refine kb δ y h2 G0 H0 G1 H1 σ _ _ R1 fun v G2 H2 R2=>?_;exact kr x y z h3 G0 H0 G2 H2 σ δ ts u v Q (R2.drop.drop) (R2.BX (x,u) (.tail _ (.head _))) (R2.BX (y,v) (.head _)) k
theorem Yg{op:CmpOp}{o:PyData→PyData→Option PyData}(ho:EW X (compareOp op) o)(ha:DE X a f)(hb:DE X b g)(hm:behindInMarks op b=false):DE X (.Compare a [op] [b] pos) (AI o f g):=by
 obtain⟨r,hr,kr⟩:=ho;obtain⟨ta,pa,ka⟩:=ha;obtain⟨tb,pb,kb⟩:=hb;refine⟨_,P0 hr pa pb hm,fun δ z hz G0 H0 G H σ ts Q R0 k=>?_⟩;obtain⟨x,y,h1,h2,h3⟩:=two (x:=.none) (y:=.none) hz;refine ka δ x h1 G0 H0 G H σ ts _ R0 fun u G1 H1 R1=>?_;refine kb δ y h2 G0 H0 G1 H1 σ _ _ R1 fun v G2 H2 R2=>?_;exact kr x y z h3 G0 H0 G2 H2 σ δ ts u v Q (R2.drop.drop) (R2.BX (x,u) (.tail _ (.head _))) (R2.BX (y,v) (.head _)) k
end
section
variable{X:Cx}
def Q9(o o':PyData→PyData→Option PyData)(x y:PyData):Option PyData:=match o x y with | some z=>some z | none=>o' x y
theorem EW.or{m:Value→Value→Sem Value}{o o':PyData→PyData→Option PyData}(h:EW X m o)(h':EW X m o'):EW X m (Q9 o o'):=by
 obtain⟨r,hr,kr⟩:=h;obtain⟨r',hr',kr'⟩:=h';refine⟨_,CY.or hr hr',fun x y z hz G0 H0 G H σ δ ts u v Q R0 du dv k=>?_⟩;unfold Q9 at hz;split at hz
 ·rename_i z' e;cases hz;exact .inl (kr x y z e G0 H0 G H σ δ ts u v Q R0 du dv k)
 ·exact .inr (kr' x y z hz G0 H0 G H σ δ ts u v Q R0 du dv k)
theorem Mu{m:Value→Value→Sem Value}{C:Int→Int→Prop}{gv:Int→Int→V}{o:Int→Int→Option PyData}(ho:CY X m (rI C gv))(hC:∀i j z,o i j=some z→C i j∧∀H,Du H z (gv i j)) :
  EW X m (fun x y=>match x,y with | .int i,.int j=>o i j | _,_=>none):=by
 refine⟨_,ho,fun x y z hz G0 H0 G H σ δ ts u v Q R0 du dv k=>?_⟩;dsimp only at hz;split at hz
 ·rename_i i j;rw [Du]at du dv;obtain⟨h1,h2⟩:=hC i j z hz;exact⟨i,j,du,dv,h1,k _ _ _ (R0.put (h2 _))⟩
 ·cases hz
theorem Iy{m:Value→Value→Sem Value}{gv:Int→Int→V}{o:Int→Int→PyData}(ho:CY X m (Ql gv))(hC:∀i j H,Du H (o i j) (gv i j)) :
  EW X m (fun x y=>match x,y with | .int i,.int j=>some (o i j) | _,_=>none):=by
 refine⟨_,ho,fun x y z hz G0 H0 G H σ δ ts u v Q R0 du dv k=>?_⟩;dsimp only at hz;split at hz
 ·rename_i i j;cases hz;rw [Du]at du dv;exact⟨i,j,du,dv,k _ _ _ (R0.put (hC _ _ _))⟩
 ·cases hz
def CG:Nat:=1000
theorem QW{n:Nat}(h:n≤CG):n<sizeLine:=Q3 h
theorem Fe{n:Nat}(h:n≤CG):n≤sizeLine:=bK (Q3 h)
def fQ:PyData→PyData→Option PyData:=fun x y=>match x,y with | .int i,.int j=>some (.int (i+j)) | _,_=>none
def UA:PyData→PyData→Option PyData:=fun x y=>match x,y with | .int i,.int j=>some (.int (i-j)) | _,_=>none
def II(n:Nat)(i:Int):Bool:=decide (i.natAbs<2 ^ n)
def J3(i j:Int):Bool:=II 64 i||II 64 j||(II 9000 i&&II 9000 j)
def T5:PyData→PyData→Option PyData:=fun x y=>match x,y with | .int i,.int j=>(if J3 i j=true then some (.int (i*j)) else none) | _,_=>none
def N8:PyData→PyData→Option PyData:=fun x y=>match x,y with | .int i,.int j=>(if j≠0∧II 9000 j=true then some (.int (i.fdiv j)) else none) | _,_=>none
def CA:PyData→PyData→Option PyData:=fun x y=>match x,y with | .int i,.int j=>(if j≠0 then some (.int (i.fmod j)) else none) | _,_=>none
def L5:PyData→PyData→Option PyData:=fun x y=>match x,y with | .int i,.int j=>(if 0≤j∧j≤1000∧II 64 i=true then some (.int (i ^ j.toNat)) else none) | _,_=>none
theorem dH:EW X (binaryOp .Add) fQ:=Iy iq fun _ _ _=>by rw [Du]
theorem Vh:EW X (binaryOp .Sub) UA:=Iy Pl fun _ _ _=>by rw [Du]
theorem cU{i:Int}(h:II 64 i=true):-(2 ^ 64)<i∧i<2 ^ 64:=by
 have:=aP h;omega
theorem eS:EW X (binaryOp .Mult) T5:=Mu (o:=fun i j=>if J3 i j=true then some (.int (i*j)) else none) HS fun i j z h=>by
 split at h
 ·rename_i q;cases h;refine⟨?_,fun _=>by rw [Du]⟩;unfold J3 at q;rw [Bool.or_eq_true,Bool.or_eq_true,Bool.and_eq_true]at q;rcases q with (q | q) | q
  ·exact .inl (.inl (cU q))
  ·exact .inl (.inr (cU q))
  ·exact .inr ⟨9000,by decide,of_decide_eq_true q.1,of_decide_eq_true q.2⟩
 ·cases h
theorem U1:EW X (binaryOp .FloorDiv) N8:=Mu (o:=fun i j=>if j≠0∧II 9000 j=true then some (.int (i.fdiv j)) else none) GI fun i j z h=>by
 split at h
 ·rename_i q;cases h;exact⟨⟨q.1,9000,Nat.le_refl _,of_decide_eq_true q.2⟩,fun _=>by rw [Du]⟩
 ·cases h
theorem Dr:EW X (binaryOp .Mod) CA:=Mu (o:=fun i j=>if j≠0 then some (.int (i.fmod j)) else none) Qa fun i j z h=>by
 split at h
 ·rename_i q;cases h;exact⟨q,fun _=>by rw [Du]⟩
 ·cases h
theorem QH:EW X (binaryOp .Pow) L5:=Mu (o:=fun i j=>if 0≤j∧j≤1000∧II 64 i=true then some (.int (i ^ j.toNat)) else none) gq fun i j z h=>by
 split at h
 ·rename_i q;cases h;exact⟨⟨q.1,by omega,of_decide_eq_true q.2.2⟩,fun _=>by rw [Du]⟩
 ·cases h
def HI(p:Int→Int→Bool):PyData→PyData→Option PyData:=fun x y=>match x,y with | .int i,.int j=>some (.bool (p i j)) | _,_=>none
theorem WQ:EW X (compareOp .Lt) (HI fun i j=>decide (i<j)):=Iy (o:=fun i j=>.bool (decide (i<j))) Wi fun _ _ _=>by rw [Du]
theorem Ws:EW X (compareOp .Gt) (HI fun i j=>decide (j<i)):=Iy (o:=fun i j=>.bool (decide (j<i))) M1 fun _ _ _=>by rw [Du]
theorem je:EW X (compareOp .GtE) (HI fun i j=>decide (j≤i)):=Iy (o:=fun i j=>.bool (decide (j≤i))) cM fun _ _ _=>by rw [Du]
def Zd:PyData→PyData→Option PyData:=fun x y=>match x,y with | .list a,.list b=>(if a.length+b.length≤CG then some (.list (a++b)) else none) | _,_=>none
theorem dC:EW X (binaryOp .Add) Zd:=by
 refine⟨_,fe,fun x y z hz G0 H0 G H σ δ ts u v Q R0 du dv k=>?_⟩;unfold Zd at hz;split at hz
 ·rename_i a b;split at hz
  ·rename_i hl;cases hz;rw [Du]at du dv;obtain⟨p,xs,rfl,h1,h2⟩:=du;obtain⟨q,ys,rfl,h3,h4⟩:=dv;refine⟨p,q,xs,ys,rfl,rfl,R0.ins _ _ h1,R0.ins _ _ h3,Fe (by rw [h2.len,h4.len];exact hl),fun l hl'=>?_⟩;have R1:=R0.newObj (o:=.lst (xs++ys)) hl';refine k _ _ _ (R1.put ?_);rw [Du];have e:AO G (upd G l (.lst (xs++ys))):=fun a o h=>by
    have:=R0.ins _ _ h;rw [AM (Aj this hl')];exact h
   exact⟨l,xs++ys,rfl,AX,(h2.same e).app (h4.same e)⟩
  ·cases hz
 ·cases hz
def WH:PyData→PyData→Option PyData:=fun x y=>match x,y with | .tuple a,.tuple b=>(if a.length+b.length≤CG then some (.tuple (a++b)) else none) | _,_=>none
theorem dP:EW X (binaryOp .Add) WH:=by
 refine⟨_,dI,fun x y z hz G0 H0 G H σ δ ts u v Q R0 du dv k=>?_⟩;unfold WH at hz;split at hz
 ·rename_i a b;split at hz
  ·rename_i hl;cases hz;rw [Du]at du dv;obtain⟨p,xs,rfl,h1,h2⟩:=du;obtain⟨q,ys,rfl,h3,h4⟩:=dv;refine⟨p,q,xs,ys,rfl,rfl,R0.ins _ _ h1,R0.ins _ _ h3,Fe (by rw [h2.len,h4.len];exact hl),fun l H' e hp=>?_⟩;have R1:=R0.jM e hp;refine k _ _ _ (R1.put ?_);rw [Du];have e1:AO G (upd G l (.tup (xs++ys))):=fun a o h=>by
    by_cases ha:a=l
    ·subst ha;have:=e _ _ (R0.ins _ _ h);rw [hp]at this;rw [AX];exact this
    ·rw [AM ha];exact h
   exact⟨l,xs++ys,rfl,AX,(h2.same e1).app (h4.same e1)⟩
  ·cases hz
 ·cases hz
def Yv:PyData→PyData→Option PyData:=fun x y=>match x,y with | .str a,.str b=>(if a.length+b.length≤CG then some (.str (a++b)) else none) | _,_=>none
theorem dh:EW X (binaryOp .Add) Yv:=by
 refine⟨_,We,fun x y z hz G0 H0 G H σ δ ts u v Q R0 du dv k=>?_⟩;unfold Yv at hz;split at hz
 ·rename_i a b;split at hz
  ·rename_i hl;cases hz;rw [Du]at du dv;exact⟨a,b,du,dv,Fe hl,k _ _ _ (R0.put (by rw [Du]))⟩
  ·cases hz
 ·cases hz
def Bw:PyData→PyData→Option PyData:=Q9 fQ (Q9 Zd (Q9 WH Yv))
theorem BO:EW X (binaryOp .Add) Bw:=dH.or (dC.or (dP.or dh))
def Sm:PyData→PyData→Option PyData:=fun x y=>match x,y with | .list a,.int k=>(if a.length*k.toNat≤CG∧-1000000≤k∧k≤1000000 then some (.list (List.replicate k.toNat a).flatten) else none) | _,_=>none
theorem Ae.rep{H:Hp}{ds:List PyData}{xs:List V}(h:Ae H ds xs):∀n,Ae H (List.replicate n ds).flatten (List.replicate n xs).flatten
 |0=>.nil
 |n+1=>by rw [List.replicate_succ,List.replicate_succ,List.flatten_cons,List.flatten_cons];exact h.app (h.rep n)
theorem fE:EW X (binaryOp .Mult) Sm:=by
 refine⟨_,ic,fun x y z hz G0 H0 G H σ δ ts u v Q R0 du dv k=>?_⟩;unfold Sm at hz;split at hz
 ·rename_i a n;split at hz
  ·rename_i hl;cases hz;rw [Du]at du;rw [Du]at dv;obtain⟨p,xs,rfl,h1,h2⟩:=du;subst dv;refine⟨p,n,xs,rfl,rfl,R0.ins _ _ h1,by omega,by omega,Fe (by rw [h2.len];exact hl.1),fun l hl'=>?_⟩;have R1:=R0.newObj (o:=.lst (List.replicate n.toNat xs).flatten) hl';refine k _ _ _ (R1.put ?_);rw [Du];have e:AO G (upd G l (.lst (List.replicate n.toNat xs).flatten)):=fun a o h=>by
    have:=R0.ins _ _ h;rw [AM (Aj this hl')];exact h
   exact⟨l,_,rfl,AX,(h2.same e).rep _⟩
  ·cases hz
 ·cases hz
def DR:PyData→PyData→Option PyData:=Q9 T5 Sm
theorem Dy:EW X (binaryOp .Mult) DR:=eS.or fE
theorem Qn{d:PyData}(h:SeqAt.shaped d=true):d.canLay0=true:=by unfold SeqAt.shaped at h;rw [Bool.and_eq_true]at h;exact h.1
def F6(neg:Bool):PyData→PyData→Option PyData:=fun x y=>if SeqAt.shaped x=true∧SeqAt.shaped y=true then some (.bool (if neg then !PyData.eqv x y else PyData.eqv x y)) else none
theorem X3{m:Value→Value→Sem Value}{neg:Bool}(ho:CY X m (ZZ X.K neg)):EW X m (F6 neg):=by
 refine⟨_,ho,fun x y z hz G0 H0 G H σ δ ts u v Q R0 du dv k=>?_⟩;unfold F6 at hz;split at hz
 ·rename_i hs;cases hz;exact⟨x,y,(du.same R0.ins).br (Qn hs.1),(dv.same R0.ins).br (Qn hs.2),hs.1,hs.2,k _ _ _ (R0.put (by rw [Du]))⟩
 ·cases hz
theorem W2(hu:X.A.units+64<cLine):EW X (compareOp .Eq) (F6 false):=X3 (iR hu)
theorem M9(hu:X.A.units+64<cLine):EW X (compareOp .NotEq) (F6 true):=X3 (jU hu)
end
section
variable{X:Cx}{a b c e:Expr}{es:List Expr}{f g h:Dv→Option PyData}{pos p:Pos}
def Po:PyData→Option Bool
 |.bool b=>some b
 |_=>none
def Pf:PyData→Option Int
 |.int b=>some b
 |_=>none
theorem Sw{x:PyData}{b:Bool}(h:Po x=some b):x=.bool b:=by
 unfold Po at h;split at h
 ·cases h;rfl
 ·cases h
theorem O0{x:PyData}{b:Int}(h:Pf x=some b):x=.int b:=by
 unfold Pf at h;split at h
 ·cases h;rfl
 ·cases h
theorem L6(ha:DE X a f):DE X (.UnaryOp .USub a pos) (fun δ=>(f δ).bind fun x=>(Pf x).map fun i=>.int (-i)):=by
 obtain⟨ta,pa,ka⟩:=ha;refine⟨_,cS Xh pa,fun δ z hz G0 H0 G H σ ts Q R0 k=>?_⟩;obtain⟨x,h1,h2⟩:=aB.mp hz;obtain⟨i,h3,rfl⟩:=aC.mp h2;have:=O0 h3;subst this;refine ka δ _ h1 G0 H0 G H σ ts _ R0 fun u G1 H1 R1=>?_;have:=R1.BX _ (.head _);rw [Du]at this;exact⟨i,this,k _ _ _ (R1.drop.put (by rw [Du]))⟩
variable{fa fb:Dv→Option Bool}
def DW(X:Cx)(e:Expr)(f:Dv→Option Bool):Prop:=∃t,PW X e t∧∀δ b,f δ=some b→∀G0 H0 G H σ ts (Q:Bool→Hp→Prop),Rw G0 H0 G H σ δ ts→(∀G' H',Rw G0 H0 G' H' σ δ ts→Q b H')→t σ H Q
theorem DW.dt(h:DW X e fa):DT X e fa:=let⟨t,p,k⟩:=h;⟨t,p.pt,k⟩
theorem EG{op:CmpOp}{o:PyData→PyData→Option PyData}(ho:EW X (compareOp op) o)(ha:DE X a f)(hb:DE X b g)(hm:behindInMarks op b=false):DT X (.Compare a [op] [b] pos) (fun δ=>(AI o f g δ).bind Po):=by
 obtain⟨r,hr,kr⟩:=ho;obtain⟨ta,pa,ka⟩:=ha;obtain⟨tb,pb,kb⟩:=hb;refine⟨_,Co hr pa pb hm,fun δ z hz G0 H0 G H σ ts Q R0 k=>?_⟩;obtain⟨q,h0,h4⟩:=aB.mp hz;have:=Sw h4;subst this;obtain⟨x,y,h1,h2,h3⟩:=two (x:=.none) (y:=.none) h0;refine ka δ x h1 G0 H0 G H σ ts _ R0 fun u G1 H1 R1=>?_;refine kb δ y h2 G0 H0 G1 H1 σ _ _ R1 fun v G2 H2 R2=>?_;refine kr x y _ h3 G0 H0 G2 H2 σ δ ts u v _ (R2.drop.drop) (R2.BX (x,u) (.tail _ (.head _))) (R2.BX (y,v) (.head _)) fun w G3 H3 R3=>?_;have hu:=R3.BX _ (.head _);rw [Du]at hu;exact⟨z,hu,k _ _ R3.drop⟩
theorem JW(ha : DE X e f)(he : ∀ whole,isTrue e X.env whole = (do let v ← whole; standAt e.pos; holding [v] (truthy v)) := by intro _; rfl) : DT X e (fun δ => (f δ).bind Po) := by
  obtain ⟨ta,pa,ka⟩:=ha
  refine ⟨_,Gb pa he,fun δ z hz G0 H0 G H σ ts Q R0 k => ?_⟩
  obtain ⟨q,h0,h4⟩:=aB.mp hz
  have:=Sw h4; subst this
  refine ka δ _ h0 G0 H0 G H σ ts _ R0 fun u G1 H1 R1 => ?_
  have hu:=R1.BX _ (.head _)
  rw [Du] at hu
  exact ⟨z,hu,k _ _ R1.drop⟩
theorem Kt(ha:DT X a fa):DT X (.UnaryOp .Not a pos) (fun δ=>(fa δ).map fun c=>!c):=by
 obtain⟨ta,pa,ka⟩:=ha;refine⟨_,Gu pa,fun δ z hz G0 H0 G H σ ts Q R0 k=>?_⟩;obtain⟨i,h3,rfl⟩:=aC.mp hz;exact ka δ _ h3 G0 H0 G H σ ts _ R0 fun G1 H1 R1=>k _ _ R1
theorem IA{op:BoolOp}(ha:DT X a fa):DW X (.BoolOp op [a] pos) fa:=by
 obtain⟨ta,pa,ka⟩:=ha;cases op
 ·exact⟨_,Qe pa,ka⟩
 ·exact⟨_,PM pa,ka⟩
theorem Ij{rest:List Expr}(ha:DT X a fa)(hb:DW X (.BoolOp .Or (b::rest) pos) fb):DW X (.BoolOp .Or (a::b::rest) pos) (fun δ=>(fa δ).bind fun c=>if c=true then some true else fb δ):=by
 obtain⟨ta,pa,ka⟩:=ha;obtain⟨tb,pb,kb⟩:=hb;refine⟨_,Ro pa pb,fun δ z hz G0 H0 G H σ ts Q R0 k=>?_⟩;obtain⟨i,h3,h4⟩:=aB.mp hz;refine ka δ _ h3 G0 H0 G H σ ts _ R0 fun G1 H1 R1=>?_;split
 ·rename_i hc;rw [if_pos hc]at h4;cases h4;exact k _ _ R1
 ·rename_i hc;rw [if_neg hc]at h4;exact kb δ z h4 G0 H0 G1 H1 σ ts Q R1 k
variable{fs:Dv→Option (List PyData)}
theorem AE:DA X [] (fun _=>some []):=⟨_,A6,fun δ xs h G0 H0 G H σ ts Q R0 k=>by cases h;exact k [] G H (by simpa using R0) rfl⟩
theorem AD(ha:DE X e f)(hr:DA X es fs)(hs:starEach (e::es) X.env=(false,eval e X.env)::starEach es X.env:=by rfl):DA X (e::es) (fun δ=>(f δ).bind fun x=>(fs δ).map fun xs=>x::xs):=by
 obtain⟨ta,pa,ka⟩:=ha;obtain⟨tr,pr,kr⟩:=hr;refine⟨_,Aa pa pr hs,fun δ z hz G0 H0 G H σ ts Q R0 k=>?_⟩;obtain⟨x,h1,h2⟩:=aB.mp hz;obtain⟨xs,h3,rfl⟩:=aC.mp h2;refine ka δ x h1 G0 H0 G H σ ts _ R0 fun u G1 H1 R1=>?_;refine kr δ xs h3 G0 H0 G1 H1 σ _ _ R1 fun vs G2 H2 R2 hl=>?_;refine k (u::vs) G2 H2 (R2.less fun q hq=>?_) (by simp [hl]);simp only [List.zip_cons_cons,List.cons_append,List.mem_cons,List.mem_append]at hq ⊢;rcases hq with h | h | h
 ·exact .inr (.inl h)
 ·exact .inl h
 ·exact .inr (.inr h)
theorem Xi{G:Hp}:∀ {xs:List PyData} {vs:List V},vs.length=xs.length→(∀q∈xs.zip vs,Du G q.1 q.2)→Ae G xs vs
 |[],vs,hl,_=>by rw [List.eq_nil_of_length_eq_zero hl];exact .nil
 |x::xs,[],hl,_=>by simp at hl
 |x::xs,v::vs,hl,h=>.cons (h (x,v) (by simp)) (Xi (by simpa using hl) fun q hq=>h q (by simp [hq]))
theorem Rw.args{G0 H0 G H:Hp}{σ:St}{δ:Dv}{ts:List (PyData×V)}{xs:List PyData}{vs:List V}(r:Rw G0 H0 G H σ δ (xs.zip vs++ts))(hl:vs.length=xs.length):Ae G xs vs∧Rw G0 H0 G H σ δ ts :=
 ⟨Xi hl fun q hq=>r.BX q (bQ _ hq),r.less fun q hq=>aZ _ hq⟩
theorem Rw.MC{G0 H0 G H:Hp}{σ:St}{δ:Dv}{ts:List (PyData×V)}{xs:List PyData}{vs:List V}{p:Addr}(r:Rw G0 H0 G H σ δ ts)(d:Ae G xs vs)(hp:H p=none):Rw G0 H0 (upd G p (.lst vs)) (upd H p (.lst vs)) σ δ ((.list xs,.ref p)::ts):=by
 refine(r.newObj hp).put ?_;have e:AO G (upd G p (.lst vs)):=fun a o h=>by rw [AM (Aj (r.ins _ _ h) hp)];exact h
 rw [Du];exact⟨p,vs,rfl,AX,d.same e⟩
theorem Rw.W6{G0 H0 G H:Hp}{σ:St}{δ:Dv}{ts:List (PyData×V)}{xs:List PyData}{vs:List V}{p:Addr}(r:Rw G0 H0 G H σ δ ts)(d:Ae G xs vs)(hp:H p=none):Rw G0 H0 (upd G p (.tup vs)) (upd H p (.tup vs)) σ δ ((.tuple xs,.ref p)::ts):=by
 refine(r.newObj hp).put ?_;have e:AO G (upd G p (.tup vs)):=fun a o h=>by rw [AM (Aj (r.ins _ _ h) hp)];exact h
 rw [Du];exact⟨p,vs,rfl,AX,d.same e⟩
def GR(xs:List PyData):Option (List PyData):=if xs.length≤CG then some xs else none
theorem MV{xs ys:List PyData}(h:GR xs=some ys):xs=ys∧xs.length≤CG:=by
 unfold GR at h;split at h
 ·rename_i q;cases h;exact⟨rfl,q⟩
 ·cases h
theorem BG{x1}(ha:DA X es fs):DE X (.Tuple es x1 pos) (fun δ=>((fs δ).bind GR).map .tuple):=by
 obtain⟨ta,pa,ka⟩:=ha;refine⟨_,PQ pa,fun δ z hz G0 H0 G H σ ts Q R0 k=>?_⟩;obtain⟨ys,h1,rfl⟩:=aC.mp hz;obtain⟨xs,h2,h3⟩:=aB.mp h1;obtain⟨rfl,hl⟩:=MV h3;refine ka δ _ h2 G0 H0 G H σ ts _ R0 fun vs G1 H1 R1 hv=>?_;obtain⟨d,R2⟩:=R1.args hv;exact⟨Fe (by rw [hv];exact hl),fun q hq=>k _ _ _ (R2.W6 d hq)⟩
theorem DP(ha:DA X es fs):DE X (.List es pos) (fun δ=>((fs δ).bind GR).map .list):=by
 obtain⟨ta,pa,ka⟩:=ha;refine⟨_,Ym pa,fun δ z hz G0 H0 G H σ ts Q R0 k=>?_⟩;obtain⟨ys,h1,rfl⟩:=aC.mp hz;obtain⟨xs,h2,h3⟩:=aB.mp h1;obtain⟨rfl,hl⟩:=MV h3;refine ka δ _ h2 G0 H0 G H σ ts _ R0 fun vs G1 H1 R1 hv=>?_;obtain⟨d,R2⟩:=R1.args hv;exact⟨Fe (by rw [hv];exact hl),fun q hq=>k _ _ _ (R2.MC d hq)⟩
theorem Ae.Fu{H:Hp}{ds:List PyData}{xs:List V}{i:Int}{d:PyData}(h:Ae H ds xs)(e:Fu ds i=some d):∃v,Fu xs i=some v∧Du H d v:=by
 unfold L2.Fu at e ⊢;rw [h.len];obtain⟨j,h1,h2⟩:=aB.mp e;obtain⟨v,h3,h4⟩:=h.get h2;exact⟨v,by rw [h1];exact h3,h4⟩
theorem Qz{G:Hp}:∀ns:List Int,Ae G (ns.map .int) (ns.map V.int)
 |[]=>.nil
 |n::ns=>.cons (by rw [Du]) (Qz ns)
def BR:PyData→PyData→Option PyData:=fun x y=>match x,y with
 |.list xs,.int i=>Fu xs i
 |.tuple xs,.int i=>Fu xs i
 |.dict [(.none,.list xs)],.int i=>Fu xs i
 |.str z,.int i=>if z.length≤CG then(Fu z.cps.toList i).map fun c=>.str ⟨#[c]⟩ else none
 |_,_=>none
theorem BZ(ha:DE X a f)(hb:DE X b g)(hs:Qi b):DE X (.Subscript a b pos) (AI BR f g):=by
 obtain⟨ta,pa,ka⟩:=ha;obtain⟨tb,pb,kb⟩:=hb;refine⟨_,EI g9 pa pb hs,fun δ z hz G0 H0 G H σ ts Q R0 k=>?_⟩;obtain⟨x,y,h1,h2,h3⟩:=two (x:=.none) (y:=.none) hz;refine ka δ x h1 G0 H0 G H σ ts _ R0 fun u G1 H1 R1=>?_;refine kb δ y h2 G0 H0 G1 H1 σ _ _ R1 fun v G2 H2 R2=>?_;have du:=R2.BX (x,u) (.tail _ (.head _));have dv:=R2.BX (y,v) (.head _);unfold BR at h3;split at h3
 ·rw [Du]at du;rw [Du]at dv;obtain⟨p,xs,rfl,h4,h5⟩:=du;obtain⟨w,h6,h7⟩:=h5.Fu h3;exact .inl ⟨p,xs,_,w,rfl,dv,A4.of (R2.ins _ _ h4),h6,k _ _ _ (R2.drop.drop.put h7)⟩
 ·rw [Du]at du;rw [Du]at dv;obtain⟨p,xs,rfl,h4,h5⟩:=du;obtain⟨w,h6,h7⟩:=h5.Fu h3;exact .inr (.inl ⟨p,xs,_,w,rfl,dv,A8.of (R2.ins _ _ h4),h6,k _ _ _ (R2.drop.drop.put h7)⟩)
 ·rw [Du]at du;rw [Du]at dv;rcases du with ⟨ea,C,e1,_⟩ | ⟨p,ns,e1,rfl,h4⟩ | z
  rotate_left 2
  ·rw [Jt]at z;cases z.1
  ·simp at e1
  ·obtain rfl:_=ns.map PyData.int:=by simpa using e1
   obtain⟨w,h6,h7⟩:=(Qz (G:=_) ns).Fu h3;exact .inl ⟨p,_,_,w,rfl,dv,.inl (h4.same R2.ins),h6,k _ _ _ (R2.drop.drop.put h7)⟩
 ·rw [Du]at du;rw [Du]at dv;split at h3
  ·rename_i hl;obtain⟨ch,h6,rfl⟩:=aC.mp h3;exact .inr (.inr ⟨_,_,ch,du,dv,Fe hl,h6,k _ _ _ (R2.drop.drop.put (by rw [Du]))⟩)
  ·cases h3
 ·cases h3
end
def BH(g:MD):Sp:=fun vs H Q _=>∃ds x G,g ds=some x∧Ae G ds vs∧AO G H∧∀v G' H',AO G G'→Nw G H G'→AO G' H'→AO H H'→Du G' x v→Q v H'
section
variable{X:Cx}{a b c e:Expr}{es:List Expr}{f g h:Dv→Option PyData}{fs:Dv→Option (List PyData)}{pos p:Pos}
theorem Ab{k:Nat}{fA:Addr}{fd:FuncData}{ps:List Str}{m:MD}{x:Str}{st:Stmt}(T:Fn X.K X.mg x st ps fA fd)(F:AL X.prog X.w X.K X.mg X.base Ao k fA fd ps (BH m))(hr:DH k X.A)(hg:Gl X x)(ha:DA X (e::es) fs)
 (hdb:(x==("__debug__" : Str))=false:=by decide)(he:starEach (e::es) X.env=(false,eval e X.env)::starEach es X.env:=by rfl)(hpl:(backTo pos (starEach es X.env)).any (·.1)=false:=by rfl) :
  DE X (.Call (.Name x p) (e::es) [] pos) (fun δ=>(fs δ).bind m):=by
 obtain⟨ta,pa,ka⟩:=ha;refine⟨_,GF T F hr hg pa hdb he hpl,fun δ z hz G0 H0 G H σ ts Q R0 k=>?_⟩;obtain⟨xs,h1,h2⟩:=aB.mp hz;refine ka δ _ h1 G0 H0 G H σ ts _ R0 fun vs G1 H1 R1 hv=>?_;obtain⟨d,R2⟩:=R1.args hv;refine⟨xs,z,G1,h2,by rw [List.append_nil];exact d,R2.ins,fun v G' H' h3 h4 h5 h6 h7=>?_⟩;exact k _ _ _ ((R2.lift h3 h4 h5 h6).put h7)
def Jp(X:Cx)(v:Value)(o:MD):Prop:=∃r,D3 X v r∧∀xs z,o xs=some z→∀G0 H0 G H σ δ ts us (Q:VK),Rw G0 H0 G H σ δ ts→Ae G xs us→(∀w G' H',Rw G0 H0 G' H' σ δ ((z,w)::ts)→Q w H')→r us H Q
theorem B3{x:Str}{id:String}{o:MD}(hc:Jp X (.builtin id) o)(hg:Gl X x)(hm:X.mg x=none)(hv:bootBuiltins x=some (.builtin id))(ha:DA X (e::es) fs)(hn:x ≠ "__name__" := by decide)(hdb:(x==("__debug__" : Str))=false:=by decide)
 (he:starEach (e::es) X.env=(false,eval e X.env)::starEach es X.env:=by rfl)(hpl:(backTo pos (starEach es X.env)).any (·.1)=false:=by rfl):DE X (.Call (.Name x p) (e::es) [] pos) (fun δ=>(fs δ).bind o):=by
 obtain⟨r,hr,kr⟩:=hc;obtain⟨ta,pa,ka⟩:=ha;refine⟨_,CS hr hg hm hv pa hn hdb he hpl,fun δ z hz G0 H0 G H σ ts Q R0 k=>?_⟩;obtain⟨xs,h1,h2⟩:=aB.mp hz;refine ka δ _ h1 G0 H0 G H σ ts _ R0 fun vs G1 H1 R1 hv=>?_;obtain⟨d,R2⟩:=R1.args hv;exact kr xs z h2 G0 H0 G1 H1 σ δ ts vs Q R2 d k
theorem Hv{x:Str}{T:String}{o:MD}(hc:Jp X (.type T) o)(hg:Gl X x)(hm:X.mg x=none)(hv:bootBuiltins x=some (.type T))(ha:DA X (e::es) fs)(hn:x ≠ "__name__" := by decide)(hdb:(x==("__debug__" : Str))=false:=by decide)
 (he:starEach (e::es) X.env=(false,eval e X.env)::starEach es X.env:=by rfl)(hpl:(backTo pos (starEach es X.env)).any (·.1)=false:=by rfl):DE X (.Call (.Name x p) (e::es) [] pos) (fun δ=>(fs δ).bind o):=by
 obtain⟨r,hr,kr⟩:=hc;obtain⟨ta,pa,ka⟩:=ha;refine⟨_,RF hr hg hm hv pa hn hdb he hpl,fun δ z hz G0 H0 G H σ ts Q R0 k=>?_⟩;obtain⟨xs,h1,h2⟩:=aB.mp hz;refine ka δ _ h1 G0 H0 G H σ ts _ R0 fun vs G1 H1 R1 hv=>?_;obtain⟨d,R2⟩:=R1.args hv;exact kr xs z h2 G0 H0 G1 H1 σ δ ts vs Q R2 d k
theorem Ae.GX{H:Hp}{d:PyData}{xs:List V}(h:Ae H [d] xs):∃x,xs=[x]∧Du H d x:=by
 obtain⟨x,r,rfl,h1,h2⟩:=h.un;rw [h2.nil_eq];exact⟨x,rfl,h1⟩
theorem Ae.NZ{H:Hp}{d e:PyData}{xs:List V}(h:Ae H [d,e] xs):∃x y,xs=[x,y]∧Du H d x∧Du H e y:=by
 obtain⟨x,r,rfl,h1,h2⟩:=h.un;obtain⟨y,rfl,h3⟩:=h2.GX;exact⟨x,y,rfl,h1,h3⟩
def Fc:MD
 |[.list xs]=>some (.int xs.length)
 |[.tuple xs]=>some (.int xs.length)
 |[.dict [(.none,.list xs)]]=>some (.int xs.length)
 |_=>none
theorem Et:Jp X (.builtin "len") Fc:=by
 refine⟨_,MU,fun xs z hz G0 H0 G H σ δ ts us Q R0 d k=>?_⟩;unfold Fc at hz;split at hz
 ·cases hz;obtain⟨u,rfl,du⟩:=d.GX;rw [Du]at du;obtain⟨p,ys,rfl,h4,h5⟩:=du;refine⟨p,ys,rfl,.inl (A4.of (R0.ins _ _ h4)),?_⟩;rw [h5.len];exact k _ _ _ (R0.put (by rw [Du]))
 ·cases hz;obtain⟨u,rfl,du⟩:=d.GX;rw [Du]at du;obtain⟨p,ys,rfl,h4,h5⟩:=du;refine⟨p,ys,rfl,.inr (A8.of (R0.ins _ _ h4)),?_⟩;rw [h5.len];exact k _ _ _ (R0.put (by rw [Du]))
 ·cases hz;obtain⟨u,rfl,du⟩:=d.GX;rw [Du]at du;rcases du with ⟨ea,C,e1,_⟩ | ⟨p,ns,e1,rfl,h4⟩ | z
  rotate_left 2
  ·rw [Jt]at z;cases z.1
  ·simp at e1
  ·obtain rfl:_=ns.map PyData.int:=by simpa using e1
   refine⟨p,_,rfl,.inl (.inl (h4.same R0.ins)),?_⟩;rw [List.length_map]at k ⊢;exact k _ _ _ (R0.put (by rw [Du]))
 ·cases hz
def JD:MD
 |[.list xs]=>some (.tuple xs)
 |[.tuple xs]=>some (.tuple xs)
 |_=>none
theorem OQ:Jp X (.type "tuple") JD:=by
 refine⟨_,Rk,fun xs z hz G0 H0 G H σ δ ts us Q R0 d k=>?_⟩;unfold JD at hz;split at hz
 ·cases hz;obtain⟨u,rfl,du⟩:=d.GX;rw [Du]at du;obtain⟨p,ys,rfl,h4,h5⟩:=du;exact⟨p,ys,rfl,.inl ⟨A4.of (R0.ins _ _ h4),fun l hl=>k _ _ _ (R0.W6 h5 hl)⟩⟩
 ·cases hz;obtain⟨u,rfl,du⟩:=d.GX;have du':=du;rw [Du]at du;obtain⟨p,ys,rfl,h4,h5⟩:=du;exact⟨p,ys,rfl,.inr ⟨A8.of (R0.ins _ _ h4),k _ _ _ (R0.put du')⟩⟩
 ·cases hz
def Mr:MD
 |[.list xs]=>some (.list xs)
 |[.tuple xs]=>some (.list xs)
 |_=>none
theorem VN:Jp X (.type "list") Mr:=by
 refine⟨_,SQ,fun xs z hz G0 H0 G H σ δ ts us Q R0 d k=>?_⟩;unfold Mr at hz;split at hz
 ·cases hz;obtain⟨u,rfl,du⟩:=d.GX;rw [Du]at du;obtain⟨p,ys,rfl,h4,h5⟩:=du;exact⟨p,ys,rfl,.inl (A4.of (R0.ins _ _ h4)),fun l hl=>k _ _ _ (R0.MC h5 hl)⟩
 ·cases hz;obtain⟨u,rfl,du⟩:=d.GX;rw [Du]at du;obtain⟨p,ys,rfl,h4,h5⟩:=du;exact⟨p,ys,rfl,.inr (A8.of (R0.ins _ _ h4)),fun l hl=>k _ _ _ (R0.MC h5 hl)⟩
 ·cases hz
theorem Du.ty{K:Fg}{H:Hp}:∀ {d:PyData} {v:V},(∀kv,d≠.dict kv)→Du H d v→Fy K H v (.type (Np d))∧∀kv,d≠.dict kv
 |.none,_,_,h=>by rw [Du]at h;subst h;exact⟨.A7,by simp⟩
 |.bool _,_,_,h=>by rw [Du]at h;subst h;exact⟨.bl _,by simp⟩
 |.int _,_,_,h=>by rw [Du]at h;subst h;exact⟨.int _,by simp⟩
 |.str _,_,_,h=>by rw [Du]at h;subst h;exact⟨.str _,by simp⟩
 |.tuple _,_,_,h=>by rw [Du]at h;obtain⟨a,xs,rfl,h1,_⟩:=h;exact⟨.tup h1,by simp⟩
 |.list _,_,_,h=>by rw [Du]at h;obtain⟨a,xs,rfl,h1,_⟩:=h;exact⟨.lst h1,by simp⟩
 |.dict _,_,n,h=>absurd rfl (n _)
def Wr(q:PyData→Bool):PyData→Option PyData
 |.dict _=>none
 |x=>some (.bool (q x))
theorem eJ{q:PyData→Bool}{x z:PyData}(h:Wr q x=some z):(∀kv,x≠.dict kv)∧z=.bool (q x):=by
 unfold Wr at h;split at h
 ·cases h
 ·rename_i n;cases h;exact⟨fun kv e=>n kv e,rfl⟩
theorem PY{T:String}{q:PyData→Bool}{xT:Str}{p1 p2:Pos}(hk:∀d:PyData,(∀kv,d≠.dict kv)→PySem.W.kitOne X.K (.type (Np d)) (.type T)=some (q d))(hg:Gl X "isinstance")(hm:X.mg "isinstance" = none)(hgT:Gl X xT)(hmT:X.mg xT=none)(hvT:bootBuiltins xT=some (.type T))(ha:DE X a f)
 (hnT:xT ≠ "__name__" := by decide)(hdT:(xT==("__debug__" : Str))=false:=by decide)(hs1:starEach [a,.Name xT p2] X.env=(false,eval a X.env)::starEach [.Name xT p2] X.env:=by rfl)(hpl:(backTo pos (starEach [.Name xT p2] X.env)).any (·.1)=false:=by rfl) :
  DE X (.Call (.Name "isinstance" p1) [a,.Name xT p2] [] pos) (fun δ=>(f δ).bind (Wr q)):=by
 obtain⟨ta,pa,ka⟩:=ha;have pT:PE X (.Name xT p2) (tC (.ty T)):=Iu hgT hmT hvT rfl hnT hdT;refine⟨_,CS HV hg hm bG (Aa pa (Aa pT A6) hs1) (by decide) (by decide) hs1 hpl,fun δ z hz G0 H0 G H σ ts Q R0 k=>?_⟩;obtain⟨x,h1,h2⟩:=aB.mp hz;obtain⟨n1,rfl⟩:=eJ h2;refine ka δ _ h1 G0 H0 G H σ ts _ R0 fun u G1 H1 R1=>?_;have du:=R1.BX _ (.head _);obtain⟨t1,t2⟩:=(du.same R1.ins).ty (K:=X.K) n1;exact⟨u,.ty T,_,q x,rfl,by simp [P7],t1,hk x t2,k _ _ _ (R1.drop.put (by rw [Du]))⟩
end
inductive Ou where
 |nx (δ:Dv) | rt (x:PyData) | bk (δ:Dv) | ct (δ:Dv) | rn (xs:List PyData)
def Fin(G0 H0:Hp)(D:Ends):Ou→Prop
 |.nx δ=>∀σ G H,Rw G0 H0 G H σ δ []→D.nx σ H
 |.rt x=>∀v G H,AO G0 G→Nw G0 H0 G→AO G H→AO H0 H→Du G x v→D.rt v H
 |.bk δ=>∀σ G H,Rw G0 H0 G H σ δ []→D.bk σ H
 |.ct δ=>∀σ G H,Rw G0 H0 G H σ δ []→D.ct σ H
 |.rn xs=>∀a ys G H,AO G0 G→Nw G0 H0 G→AO G H→AO H0 H→H0 a=none→G a=none→H a=some (.lst ys)→Ae G xs ys→D.rt (.ref a) H
abbrev DF:=Dv→Option Ou
def DS(X:Cx)(st:Stmt)(F:DF):Prop:=∃t,PS X st t∧∀δ r,F δ=some r→∀G0 H0 G H σ D,Rw G0 H0 G H σ δ []→Fin G0 H0 D r→t D σ H
def PV(X:Cx)(st:List Stmt)(F:DF):Prop:=∃t,HB X st t∧∀δ r,F δ=some r→∀G0 H0 G H σ D,Rw G0 H0 G H σ δ []→Fin G0 H0 D r→t D σ H
def Ag(F1 F2:DF)(δ:Dv):Option Ou:=match F1 δ with
 |some (.nx δ')=>F2 δ'
 |o=>o
section
variable{X:Cx}{a b c e:Expr}{es:List Expr}{f g h:Dv→Option PyData}{fs:Dv→Option (List PyData)}{fa:Dv→Option Bool}{pos p:Pos}{st:Stmt}{sts sts':List Stmt}{F F1 F2:DF}
theorem HP:PV X [] (fun δ=>some (.nx δ)):=⟨_,Cp,fun δ r h G0 H0 G H σ D R k=>by cases h;exact k _ _ _ R⟩
theorem AN(h1:DS X st F1)(h2:PV X sts F2):PV X (st::sts) (Ag F1 F2):=by
 obtain⟨t1,p1,k1⟩:=h1;obtain⟨t2,p2,k2⟩:=h2;refine⟨_,Aw p1 p2,fun δ r h G0 H0 G H σ D R k=>?_⟩;unfold Ag at h;split at h
 ·rename_i δ' e1;exact k1 δ _ e1 G0 H0 G H σ _ R fun σ' G' H' R'=>k2 δ' r h G0 H0 G' H' σ' D R' k
 ·rename_i hne;refine k1 δ r h G0 H0 G H σ _ R ?_;cases r with
  |nx δ'=>exact absurd h (hne δ')
  |rt x=>exact k
  |bk δ'=>exact k
  |ct δ'=>exact k
  |rn xs=>exact k
theorem AW(h1:DS X st F1):PV X [st] F1:=by
 obtain⟨t1,p1,k1⟩:=h1;exact⟨_,Az p1,k1⟩
theorem B5(he:DE X e f):DS X (.Return (some e) pos) (fun δ=>(f δ).map .rt):=by
 obtain⟨t,p,k⟩:=he;refine⟨_,B9 p,fun δ r h G0 H0 G H σ D R q=>?_⟩;obtain⟨x,h1,rfl⟩:=aC.mp h;exact k δ x h1 G0 H0 G H σ [] _ R fun v G' H' R'=>q v G' H' R'.ext R'.new R'.ins R'.keep (R'.BX _ (.head _))
theorem dG(he:DE X e f)(hs:swapsWith e none pos.line X.env=pure false:=by rfl):DS X (.Expr e pos) (fun δ=>(f δ).map fun _=>.nx δ):=by
 obtain⟨t,p,k⟩:=he;refine⟨_,E5 p hs,fun δ r h G0 H0 G H σ D R q=>?_⟩;obtain⟨x,h1,rfl⟩:=aC.mp h;exact k δ x h1 G0 H0 G H σ [] _ R fun v G' H' R'=>q _ _ _ R'.drop
theorem LS(hc:DT X c fa)(h1:PV X sts F1)(h2:PV X sts' F2):DS X (.If c sts sts' pos) (fun δ=>(fa δ).bind fun c=>if c=true then F1 δ else F2 δ):=by
 obtain⟨tc,pc,kc⟩:=hc;obtain⟨t1,p1,k1⟩:=h1;obtain⟨t2,p2,k2⟩:=h2;refine⟨_,Em pc p1 p2,fun δ r h G0 H0 G H σ D R q=>?_⟩;obtain⟨i,h3,h4⟩:=aB.mp h;refine kc δ i h3 G0 H0 G H σ [] _ R fun G' H' R'=>?_;split
 ·rename_i hc;rw [if_pos hc]at h4;exact k1 δ r h4 G0 H0 G' H' σ D R' q
 ·rename_i hc;rw [if_neg hc]at h4;exact k2 δ r h4 G0 H0 G' H' σ D R' q
end
section
variable{G0 H0 G H:Hp}{σ:St}{δ:Dv}{ts:List (PyData×V)}
theorem Rw.HN{i:Nat}{x:PyData}{v:V}(r:Rw G0 H0 G H σ δ ((x,v)::ts)):Rw G0 H0 G H (σ.set i (some v)) (δ.set i (.d x)) ts:=by
 have hl:=r.len;refine⟨r.ext,r.new,r.ins,r.keep,by simp [hl],fun j y h=>?_,fun j ys h=>?_,fun j l ys zs hjl h1 h2=>?_,fun q hq=>r.BX q (.tail _ hq)⟩
 ·by_cases hj:i=j
  ·subst hj;by_cases hi:i<δ.length
   ·rw [List.getElem?_set_self hi]at h;cases h;exact⟨v,by rw [List.getElem?_set_self (by omega)],r.BX _ (.head _)⟩
   ·rw [List.getElem?_eq_none (by simp;omega)]at h;cases h
  ·rw [List.getElem?_set_ne hj]at h;obtain⟨w,k1,k2⟩:=r.dat j y h;exact⟨w,by rw [List.getElem?_set_ne hj];exact k1,k2⟩
 ·by_cases hj:i=j
  ·subst hj;by_cases hi:i<δ.length
   ·rw [List.getElem?_set_self hi]at h;cases h
   ·rw [List.getElem?_eq_none (by simp;omega)]at h;cases h
  ·rw [List.getElem?_set_ne hj]at h;obtain⟨w,k1,k2,k3⟩:=r.own j ys h;exact⟨w,k1,by rw [List.getElem?_set_ne hj];exact k2,k3⟩
 ·have nj:i≠j:=fun z=>by
   subst z;by_cases hi:i<δ.length
   ·rw [List.getElem?_set_self hi]at h1;cases h1
   ·rw [List.getElem?_eq_none (by simp;omega)]at h1;cases h1
  have nl:i≠l:=fun z=>by
   subst z;by_cases hi:i<δ.length
   ·rw [List.getElem?_set_self hi]at h2;cases h2
   ·rw [List.getElem?_eq_none (by simp;omega)]at h2;cases h2
  rw [List.getElem?_set_ne nj]at h1 ⊢;rw [List.getElem?_set_ne nl]at h2 ⊢;exact r.apart j l ys zs hjl h1 h2
end
section
variable{X:Cx}{e:Expr}{f:Dv→Option PyData}{pos p:Pos}
theorem A2{i:Nat}{x:Str}{pos':Pos}(hN:X.N.Nodup)(hi:X.N[i]? = some x)(hx:Loc X.env.scope x)(he:DE X e f)(hs:swapsWith e (some (.Name x pos')) pos.line X.env=pure false:=by rfl)(hf:X.fn x=true∨X.env.scope.names.lookup x=some .local:=by first | exact .inl rfl | exact .inr rfl | assumption) :
  DS X (.Assign [.Name x pos'] e pos) (fun δ=>(f δ).map fun y=>.nx (δ.set i (.d y))):=by
 obtain⟨t,p,k⟩:=he;refine⟨_,B1 hN hi hx p hs hf,fun δ r h G0 H0 G H σ D R q=>?_⟩;obtain⟨y,h1,rfl⟩:=aC.mp h;exact k δ y h1 G0 H0 G H σ [] _ R fun v G' H' R'=>q _ _ _ R'.HN
end
section
variable{G0 H0 G H:Hp}{σ:St}{δ:Dv}{ts:List (PyData×V)}
theorem Rw.base(r:Rw G0 H0 G H σ δ ts):Rw G H0 G H σ δ ts:={ r with ext:=AO.refl G,new:=fun _ _ h=>.inl h }
theorem Nw.trans{G1 G2:Hp}(a:Nw G0 H0 G1)(b:Nw G1 H0 G2):Nw G0 H0 G2:=fun c o h=>by
 rcases b c o h with z | z | z
 ·exact a c o z
 ·exact .inr (.inl z)
 ·exact .inr (.inr z)
theorem Rw.Tw{G' H':Hp}{σ':St}{δ':Dv}{ts':List (PyData×V)}(r:Rw G0 H0 G H σ δ ts)(q:Rw G H0 G' H' σ' δ' ts'):Rw G0 H0 G' H' σ' δ' ts':={ q with ext:=r.ext.trans q.ext,new:=r.new.trans q.new }
def Ed(i:Nat)(δ:Dv):Dv:=match δ[i]? with
 |some (.own (.lst xs))=>δ.set i (.d (.list xs))
 |some (.own (.FH kvs))=>δ.set i (.d (Bo kvs))
 |_=>δ
theorem Rw.letGo{i:Nat}{c:Oc}{x:PyData}(r:Rw G0 H0 G H σ δ ts)(hi:δ[i]? = some (.own c))(hx:∀a o,G a=none→ID G a c o→Du (upd G a o) x (.ref a)):∃a o,σ[i]? = some (some (.ref a))∧G a=none∧H0 a=none∧H a=some o∧ID G a c o∧Rw G0 H0 (upd G a o) H σ (δ.set i (.d x)) ts:=by
 obtain⟨a,o,k1,k2,k3,k4,k5⟩:=r.own i _ hi;have e:AO G (upd G a o):=Bh k2 _;have hlt:i<δ.length:=(aE.mp hi).1;refine⟨a,o,k1,k2,k3,k4,k5,r.ext.trans e,fun b o' h=>?_,fun b o' h=>?_,r.keep,by simp [r.len],fun j y h=>?_,fun j zs h=>?_,fun j l us ws hjl h1 h2=>?_,fun q hq=>(r.BX q hq).same e⟩
 ·by_cases hb:b=a
  ·subst hb;exact .inr (.inl k3)
  ·rw [AM hb]at h;exact r.new _ _ h
 ·by_cases hb:b=a
  ·subst hb;rw [AX]at h;rw [k4];exact h
  ·rw [AM hb]at h;exact r.ins _ _ h
 ·by_cases hj:i=j
  ·subst hj;rw [List.getElem?_set_self hlt]at h;cases h;exact⟨.ref a,k1,hx a o k2 k5⟩
  ·rw [List.getElem?_set_ne hj]at h;obtain⟨w,m1,m2⟩:=r.dat j y h;exact⟨w,m1,m2.same e⟩
 ·by_cases hj:i=j
  ·subst hj;rw [List.getElem?_set_self hlt]at h;cases h
  ·rw [List.getElem?_set_ne hj]at h;obtain⟨b,us,m1,m2,m3,m4,m5⟩:=r.own j zs h;have nb:b≠a:=fun z=>by subst z;exact r.apart i j _ zs hj hi h (by rw [k1,m1])
   exact⟨b,us,m1,by rw [AM nb];exact m2,m3,m4,m5.same e⟩
 ·have nj:i≠j:=fun z=>by subst z;rw [List.getElem?_set_self hlt]at h1;cases h1
  have nl:i≠l:=fun z=>by subst z;rw [List.getElem?_set_self hlt]at h2;cases h2
  rw [List.getElem?_set_ne nj]at h1;rw [List.getElem?_set_ne nl]at h2;exact r.apart j l us ws hjl h1 h2
theorem iV{a:Addr}{o:HO}{xs:List PyData}(hG:G a=none)(h:ID G a (.lst xs) o):Du (upd G a o) (.list xs) (.ref a):=by
 obtain⟨ys,rfl,k5⟩:=h;rw [Du];exact⟨a,ys,rfl,AX,k5.same (Bh hG _)⟩
theorem XR{a:Addr}{o:HO}{kvs:List (Option Tr×PyData)}(hG:G a=none)(h:ID G a (.FH kvs) o):Du (upd G a o) (Bo kvs) (.ref a):=by
 obtain⟨r,rfl,n,k5⟩:=h;rw [Du,Jt];exact .inr (.inr ⟨rfl,rfl,a,r,rfl,AX,n,E8.same (Bh hG _) k5⟩)
theorem Rw.Ed(i:Nat)(r:Rw G0 H0 G H σ δ ts):∃G',Rw G0 H0 G' H σ (L2.Ed i δ) ts:=by
 unfold L2.Ed;split
 ·rename_i xs hi;obtain⟨a,o,_,_,_,_,_,R⟩:=r.letGo (x:=.list xs) hi fun a o h=>iV h;exact⟨_,R⟩
 ·rename_i kvs hi;obtain⟨a,o,_,_,_,_,_,R⟩:=r.letGo (x:=Bo kvs) hi fun a o h=>XR h;exact⟨_,R⟩
 ·exact⟨G,r⟩
theorem Rw.Td{i:Nat}{xs:Oc}{ys:HO}{a:Addr}(r:Rw G0 H0 G H σ δ ts)(d:ID G a xs ys)(ha:H a=none):Rw G0 H0 G (upd H a ys) (σ.set i (some (.ref a))) (δ.set i (.own xs)) ts:=by
 have hG:G a=none:=by
  cases q:G a with
  |none=>rfl
  |some u=>rw [r.ins _ _ q]at ha;cases ha
 have h0:H0 a=none:=by
  cases q:H0 a with
  |none=>rfl
  |some u=>rw [r.keep _ _ q]at ha;cases ha
 have e:AO H (upd H a ys):=Bh ha _;have hl:=r.len;have other:∀(j:Nat) (zs:Oc),i≠j→(δ.set i (.own xs))[j]? = some (L.own zs)→δ[j]? = some (L.own zs):=fun j zs hj h=>by rw [List.getElem?_set_ne hj]at h;exact h
 have nota:∀(j:Nat) (zs:Oc),δ[j]? = some (L.own zs)→σ[j]?≠some (some (V.ref a)):=fun j zs h z=>by
  obtain⟨b,us,m1,m2,m3,m4,m5⟩:=r.own j zs h;rw [z]at m1;cases m1;rw [m4]at ha;cases ha
 refine⟨r.ext,r.new,r.ins.trans e,r.keep.trans e,by simp [hl],fun j y h=>?_,fun j zs h=>?_,fun j l us ws hjl h1 h2=>?_,r.BX⟩
 ·by_cases hj:i=j
  ·subst hj;by_cases hi:i<δ.length
   ·rw [List.getElem?_set_self hi]at h;cases h
   ·rw [List.getElem?_eq_none (by simp;omega)]at h;cases h
  ·rw [List.getElem?_set_ne hj]at h;obtain⟨w,m1,m2⟩:=r.dat j y h;exact⟨w,by rw [List.getElem?_set_ne hj];exact m1,m2⟩
 ·by_cases hj:i=j
  ·subst hj;by_cases hi:i<δ.length
   ·rw [List.getElem?_set_self hi]at h;cases h;exact⟨a,ys,by rw [List.getElem?_set_self (by omega)],hG,h0,AX,d⟩
   ·rw [List.getElem?_eq_none (by simp;omega)]at h;cases h
  ·have h:=other j zs hj h;obtain⟨b,us,m1,m2,m3,m4,m5⟩:=r.own j zs h;exact⟨b,us,by rw [List.getElem?_set_ne hj];exact m1,m2,m3,e _ _ m4,m5⟩
 ·by_cases hj:i=j
  ·subst hj;have hl2:i≠l:=hjl;have h2:=other l ws hl2 h2;by_cases hi:i<δ.length
   ·rw [List.getElem?_set_self (by omega),List.getElem?_set_ne hl2];exact fun z=>nota l ws h2 z.symm
   ·rw [List.getElem?_eq_none (by simp;omega)]at h1;cases h1
  ·have h1:=other j us hj h1;by_cases hk:i=l
   ·subst hk;by_cases hi:i<δ.length
    ·rw [List.getElem?_set_self (by omega),List.getElem?_set_ne hj];exact fun z=>nota j us h1 z
    ·rw [List.getElem?_eq_none (by simp;omega)]at h2;cases h2
   ·have h2:=other l ws hk h2;rw [List.getElem?_set_ne hj,List.getElem?_set_ne hk];exact r.apart j l us ws hjl h1 h2
theorem Rw.Rp{i:Nat}{xs xs':Oc}{ys:HO}{a:Addr}(r:Rw G0 H0 G H σ δ ts)(hi:δ[i]? = some (.own xs))(ha:σ[i]? = some (some (.ref a)))(d:ID G a xs' ys):Rw G0 H0 G (upd H a ys) σ (δ.set i (.own xs')) ts:=by
 obtain⟨a',ys0,k1,k2,k3,k4,k5⟩:=r.own i xs hi;rw [ha]at k1;cases k1;have hlt:i<δ.length:=(aE.mp hi).1;have hl:=r.len;refine⟨r.ext,r.new,fun b o h=>?_,fun b o h=>?_,by simp [hl],fun j y h=>?_,fun j zs h=>?_,fun j l us ws hjl h1 h2=>?_,r.BX⟩
 ·rw [AM (fun z=>by subst z;rw [k2]at h;cases h)];exact r.ins _ _ h
 ·rw [AM (fun z=>by subst z;rw [k3]at h;cases h)];exact r.keep _ _ h
 ·by_cases hj:i=j
  ·subst hj;rw [List.getElem?_set_self hlt]at h;cases h
  ·rw [List.getElem?_set_ne hj]at h;exact r.dat j y h
 ·by_cases hj:i=j
  ·subst hj;rw [List.getElem?_set_self hlt]at h;cases h;exact⟨a,ys,ha,k2,k3,AX,d⟩
  ·rw [List.getElem?_set_ne hj]at h;obtain⟨b,us,m1,m2,m3,m4,m5⟩:=r.own j zs h;have nb:b≠a:=fun z=>by subst z;exact r.apart i j xs zs hj hi h (by rw [ha,m1])
   exact⟨b,us,m1,m2,m3,by rw [AM nb];exact m4,m5⟩
 ·have f:∀(j:Nat) (us:Oc),(δ.set i (.own xs'))[j]? = some (L.own us)→∃us',δ[j]? = some (L.own us'):=fun j us h=>by
   by_cases hj:i=j
   ·subst hj;exact⟨xs,hi⟩
   ·rw [List.getElem?_set_ne hj]at h;exact⟨us,h⟩
  obtain⟨us',h1⟩:=f j us h1;obtain⟨ws',h2⟩:=f l ws h2;exact r.apart j l us' ws' hjl h1 h2
end
section
variable{X:Cx}{a b c e:Expr}{es:List Expr}{f g h:Dv→Option PyData}{fs:Dv→Option (List PyData)}{fa:Dv→Option Bool}{pos p:Pos}{st:Stmt}{sts sts':List Stmt}{F F1 F2:DF}
theorem Og(i:Nat)(h1:DS X st F):DS X st (fun δ=>F (Ed i δ)):=by
 obtain⟨t,p,k⟩:=h1;refine⟨t,p,fun δ r h G0 H0 G H σ D R q=>?_⟩;obtain⟨G',R'⟩:=R.Ed i;exact k _ r h G0 H0 G' H σ D R' q
theorem Hl{i:Nat}{x:Str}{pos' lp:Pos}(hN:X.N.Nodup)(hi:X.N[i]? = some x)(hx:Loc X.env.scope x)(ha:DA X es fs)(hs:swapsWith (.List es lp) (some (.Name x pos')) pos.line X.env=pure false:=by rfl)(hf:X.fn x=true∨X.env.scope.names.lookup x=some .local:=by first | exact .inl rfl | exact .inr rfl | assumption) :
  DS X (.Assign [.Name x pos'] (.List es lp) pos) (fun δ=>((fs δ).bind GR).map fun ys=>.nx (δ.set i (.own (.lst ys)))):=by
 obtain⟨t,p,k⟩:=ha;refine⟨_,B1 hN hi hx (Ym p) hs hf,fun δ r h G0 H0 G H σ D R q=>?_⟩;obtain⟨y,h1,rfl⟩:=aC.mp h;obtain⟨xs,h2,h3⟩:=aB.mp h1;obtain⟨rfl,hl⟩:=MV h3;refine k δ _ h2 G0 H0 G H σ [] _ R fun vs G1 H1 R1 hv=>?_;obtain⟨d,R2⟩:=R1.args hv;exact⟨Fe (by rw [hv];exact hl),fun l hl'=>q _ _ _ (R2.Td ⟨_,rfl,d⟩ hl')⟩
def ow(i:Nat)(δ:Dv):Option (List PyData):=match δ[i]? with
 |some (.own (.lst xs))=>some xs
 |_=>none
theorem Mv{i:Nat}{δ:Dv}{xs:List PyData}(h:ow i δ=some xs):δ[i]? = some (.own (.lst xs)):=by
 unfold ow at h;split at h
 ·rename_i y e;cases h;exact e
 ·cases h
theorem GO{i:Nat}{x:Str}{np ap cp:Pos}(hv:PE X (.Name x np) (J6 i))(he:DE X e f)
 (hP:∀ {to:TE} {t:TA},PE X (.Name x np) to→PA X [e] t→PS X (.Expr (.Call (.Attribute (.Name x np) "append" ap) [e] [] cp) pos) (R9 (fk X.K "list" Uv to t)))(hs1:starEach [e] X.env=(false,eval e X.env)::starEach [] X.env:=by rfl) :
  DS X (.Expr (.Call (.Attribute (.Name x np) "append" ap) [e] [] cp) pos) (fun δ=>(f δ).bind fun y=>(ow i δ).bind fun xs=>if xs.length<CG then some (.nx (δ.set i (.own (.lst (xs++[y]))))) else none):=by
 obtain⟨t,p,k⟩:=he;refine⟨_,hP hv (Aa p A6 hs1),fun δ r h G0 H0 G H σ D R q=>?_⟩;obtain⟨y,h1,h2⟩:=aB.mp h;obtain⟨xs,h3,h4⟩:=aB.mp h2;split at h4
 ·rename_i hl;cases h4;have hi:=Mv h3;obtain⟨a,_,k1,k2,k3,k4,⟨ys,rfl,k5⟩⟩:=R.own i _ hi;refine⟨.ref a,k1,.inl ⟨rfl,ys,A4.of k4⟩,?_⟩;refine k δ y h1 G0 H0 G H σ [] _ R fun u G1 H1 R1=>?_;obtain⟨a',_,m1,m2,m3,m4,⟨zs,rfl,m5⟩⟩:=R1.own i _ hi;rw [k1]at m1;cases m1;refine⟨a,zs,u,rfl,rfl,m4,QW (by rw [m5.len];omega),?_⟩;exact q _ _ _ (R1.drop.Rp hi k1 ⟨_,rfl,m5.app (.cons (R1.BX _ (.head _)) .nil)⟩)
 ·cases h4
theorem Q8{i:Nat}{x:Str}{np ap cp:Pos}(hv:PE X (.Name x np) (J6 i))(he:DE X e f)
 (hP:∀ {to:TE} {t:TA},PE X (.Name x np) to→PA X [e] t→PS X (.Expr (.Call (.Attribute (.Name x np) "extend" ap) [e] [] cp) pos) (R9 (fk X.K "list" Uu to t)))(hs1:starEach [e] X.env=(false,eval e X.env)::starEach [] X.env:=by rfl) :
  DS X (.Expr (.Call (.Attribute (.Name x np) "extend" ap) [e] [] cp) pos) (fun δ=>(f δ).bind fun y=>(ow i δ).bind fun xs=>match y with | .list zs=>(if xs.length+zs.length≤CG then some (.nx (δ.set i (.own (.lst (xs++zs))))) else none) | _=>none):=by
 obtain⟨t,p,k⟩:=he;refine⟨_,hP hv (Aa p A6 hs1),fun δ r h G0 H0 G H σ D R q=>?_⟩;obtain⟨y,h1,h2⟩:=aB.mp h;obtain⟨xs,h3,h4⟩:=aB.mp h2;split at h4
 ·rename_i zs;split at h4
  ·rename_i hl;cases h4;have hi:=Mv h3;obtain⟨a,_,k1,k2,k3,k4,⟨ys,rfl,k5⟩⟩:=R.own i _ hi;refine⟨.ref a,k1,.inl ⟨rfl,ys,A4.of k4⟩,?_⟩;refine k δ _ h1 G0 H0 G H σ [] _ R fun u G1 H1 R1=>?_;obtain⟨a',_,m1,m2,m3,m4,⟨us,rfl,m5⟩⟩:=R1.own i _ hi;rw [k1]at m1;cases m1;have du:=R1.BX _ (.head _);rw [Du]at du;obtain⟨b,ws,rfl,n1,n2⟩:=du;refine⟨a,b,us,ws,rfl,rfl,m4,R1.ins _ _ n1,Fe (by rw [m5.len,n2.len];exact hl),?_⟩;exact q _ _ _ (R1.drop.Rp hi k1 ⟨_,rfl,m5.app n2⟩)
  ·cases h4
 ·cases h4
theorem Y1{i:Nat}{x:Str}{np:Pos}(hv:PE X (.Name x np) (J6 i))(hb:DE X b g)(hs:Qi b):DE X (.Subscript (.Name x np) b pos) (fun δ=>(g δ).bind fun y=>(ow i δ).bind fun xs=>(Pf y).bind fun k=>Fu xs k):=by
 obtain⟨tb,pb,kb⟩:=hb;refine⟨_,EI Va hv pb hs,fun δ z hz G0 H0 G H σ ts Q R0 k=>?_⟩;obtain⟨y,h1,h2⟩:=aB.mp hz;obtain⟨xs,h3,h4⟩:=aB.mp h2;obtain⟨j,h5,h6⟩:=aB.mp h4;have:=O0 h5;subst this;obtain⟨a,_,k1,k2,k3,k4,⟨ys,rfl,k5⟩⟩:=R0.own i _ (Mv h3);refine⟨.ref a,k1,?_⟩;refine kb δ _ h1 G0 H0 G H σ ts _ R0 fun v G1 H1 R1=>?_;have dv:=R1.BX _ (.head _);rw [Du]at dv;obtain⟨a',_,m1,m2,m3,m4,⟨us,rfl,m5⟩⟩:=R1.own i _ (Mv h3);rw [k1]at m1;cases m1;obtain⟨w,h7,h8⟩:=m5.Fu h6;exact⟨a,us,j,w,rfl,dv,A4.of m4,h7,k _ _ _ (R1.drop.put h8)⟩
end
structure JR(J:It)(xs:List PyData)(G:Hp):Prop where
 stop:∀H,AO G H→J.stop xs.length H
 go:∀(i:Nat) (d:PyData) H,xs[i]? = some d→AO G H→J.go i H
 FI:∀(i:Nat) (d:PyData) H x H',xs[i]? = some d→AO G H→J.FI i H x H'→∀Gc,AO G Gc→AO Gc H→∃Gc',AO Gc Gc'∧Nw Gc H Gc'∧AO Gc' H'∧AO H H'∧Du Gc' d x
theorem Nw.refl{G H:Hp}:Nw G H G:=fun _ _ h=>.inl h
theorem fG{K:Fg}{G:Hp}{a:Addr}{ys:List V}{xs:List PyData}(ha:G a=some (.lst ys))(d:Ae G xs ys):JR (Vt K a) xs G where
 stop:=fun H e=>⟨ys,A4.of (e _ _ ha),by rw [d.len];exact aJ _⟩
 go:=fun i x H hx e=>by
  obtain⟨v,h1,_⟩:=d.get hx;exact⟨ys,v,A4.of (e _ _ ha),h1⟩
 FI:=fun i x H v H' hx e y Gc e1 e2=>by
  obtain⟨rfl,y⟩:=y;have h1:=y ys (A4.of (e _ _ ha));obtain⟨x',h2,h3⟩:=d.back h1;rw [hx]at h2;cases h2;exact⟨Gc,AO.refl _,Nw.refl,e2,AO.refl _,h3.same e1⟩
theorem gj{K:Fg}{G:Hp}{a:Addr}{ys:List V}{xs:List PyData}(ha:G a=some (.tup ys))(d:Ae G xs ys):JR (gW K a) xs G where
 stop:=fun H e=>⟨ys,A8.of (e _ _ ha),by rw [d.len];exact aJ _⟩
 go:=fun i x H hx e=>by
  obtain⟨v,h1,_⟩:=d.get hx;exact⟨ys,v,A8.of (e _ _ ha),h1⟩
 FI:=fun i x H v H' hx e y Gc e1 e2=>by
  obtain⟨rfl,y⟩:=y;have h1:=y ys (A8.of (e _ _ ha));obtain⟨x',h2,h3⟩:=d.back h1;rw [hx]at h2;cases h2;exact⟨Gc,AO.refl _,Nw.refl,e2,AO.refl _,h3.same e1⟩
def E6(lo:Int)(n:Nat):List PyData:=(List.range n).map fun k=>.int (lo+(k:Nat))
theorem YS{G:Hp}{lo:Int}{n:Nat}:JR (X8 lo n) (E6 lo n) G where
 stop:=fun H e=>by show n≤_;simp [E6]
 go:=fun i x H hx e=>by
  have:=(aE.mp hx).1;show i<n
  simpa [E6]using this
 FI:=fun i x H v H' hx e y Gc e1 e2=>by
  obtain⟨rfl,rfl⟩:=y;unfold E6 at hx;rw [List.getElem?_map]at hx;obtain⟨k,h1,rfl⟩:=aC.mp hx;have hk:k=i:=by
   have:=(aE.mp h1).1;rw [List.getElem?_range (by simpa using this)]at h1;cases h1;rfl
  subst hk;exact⟨Gc,AO.refl _,Nw.refl,e2,AO.refl _,by rw [Du]⟩
theorem OL{Gc H:Hp}{p:Addr}{d1 d2:PyData}{v1 v2:V}(e2:AO Gc H)(hp:H p=none)(h1:Du Gc d1 v1)(h2:Du Gc d2 v2) :
  ∃Gc',AO Gc Gc'∧Nw Gc H Gc'∧AO Gc' (upd H p (.tup [v1,v2]))∧AO H (upd H p (.tup [v1,v2]))∧Du Gc' (.tuple [d1,d2]) (.ref p):=by
 have hG:Gc p=none:=by
  cases q:Gc p with
  |none=>rfl
  |some u=>rw [e2 _ _ q]at hp;cases hp
 have e:AO Gc (upd Gc p (.tup [v1,v2])):=Bh hG _;refine⟨upd Gc p (.tup [v1,v2]),e,fun a o h=>?_,fun a o h=>?_,Bh hp _,?_⟩
 ·by_cases ha:a=p
  ·subst ha;exact .inr (.inl hp)
  ·rw [AM ha]at h;exact .inl h
 ·by_cases ha:a=p
  ·subst ha;rw [AX]at h ⊢;exact h
  ·rw [AM ha]at h ⊢;exact e2 _ _ h
 ·rw [Du];exact⟨p,[v1,v2],rfl,AX,.cons (h1.same e) (.cons (h2.same e) .nil)⟩
def Jn(xs:List PyData):List PyData:=xs.zipIdx.map fun q=>.tuple [.int (q.2:Nat),q.1]
theorem Jo{xs:List PyData}{i:Nat}{d:PyData}(h:(Jn xs)[i]? = some d):∃x,xs[i]? = some x∧d=.tuple [.int (i:Nat),x]:=by
 unfold Jn at h;rw [List.getElem?_map]at h;obtain⟨q,h1,rfl⟩:=aC.mp h;rw [List.getElem?_zipIdx]at h1;obtain⟨x,h2,rfl⟩:=aC.mp h1;exact⟨x,h2,by simp⟩
theorem ZJ{K:Fg}{G:Hp}{a:Addr}{ys:List V}{xs:List PyData}(ha:G a=some (.tup ys))(d:Ae G xs ys):JR (Vc K a) (Jn xs) G where
 stop:=fun H e=>⟨ys,A8.of (e _ _ ha),by rw [d.len];simp [Jn]⟩
 go:=fun i x H hx e=>by
  obtain⟨x',h0,rfl⟩:=Jo hx;obtain⟨v,h1,_⟩:=d.get h0;exact⟨ys,v,A8.of (e _ _ ha),h1⟩
 FI:=fun i x H v H' hx e y Gc e1 e2=>by
  obtain⟨x',h0,rfl⟩:=Jo hx;obtain⟨p,u,rfl,hp,rfl,y⟩:=y;have h1:=y ys (A8.of (e _ _ ha));obtain⟨x2,h2,h3⟩:=d.back h1;rw [h0]at h2;cases h2;exact OL e2 hp (by rw [Du]) (h3.same e1)
theorem a6{K:Fg}{G:Hp}{a:Addr}{ys:List V}{xs:List PyData}(ha:G a=some (.lst ys))(d:Ae G xs ys):JR (jP K a) (Jn xs) G where
 stop:=fun H e=>⟨ys,A4.of (e _ _ ha),by rw [d.len];simp [Jn]⟩
 go:=fun i x H hx e=>by
  obtain⟨x',h0,rfl⟩:=Jo hx;obtain⟨v,h1,_⟩:=d.get h0;exact⟨ys,v,A4.of (e _ _ ha),h1⟩
 FI:=fun i x H v H' hx e y Gc e1 e2=>by
  obtain⟨x',h0,rfl⟩:=Jo hx;obtain⟨p,u,rfl,hp,rfl,y⟩:=y;have h1:=y ys (A4.of (e _ _ ha));obtain⟨x2,h2,h3⟩:=d.back h1;rw [h0]at h2;cases h2;exact OL e2 hp (by rw [Du]) (h3.same e1)
def Nx(xs ys:List PyData):List PyData:=(xs.zip ys).map fun q=>.tuple [q.1,q.2]
theorem SE{xs ys:List PyData}{i:Nat}{d:PyData}(h:(Nx xs ys)[i]? = some d):∃x y,xs[i]? = some x∧ys[i]? = some y∧d=.tuple [x,y]:=by
 unfold Nx at h;rw [List.getElem?_map]at h;obtain⟨q,h1,rfl⟩:=aC.mp h;obtain⟨k1,k2⟩:=List.getElem?_zip_eq_some.mp h1;exact⟨q.1,q.2,k1,k2,rfl⟩
theorem gy{G:Hp}{b1 b2:Bool}{a1 a2:Addr}{us vs:List V}{xs ys:List PyData}(h1:G a1=some (if b1 then .tup us else .lst us))(h2:G a2=some (if b2 then .tup vs else .lst vs))(d1:Ae G xs us)(d2:Ae G ys vs):JR (jN b1 b2 a1 a2) (Nx xs ys) G where
 stop:=fun H e=>by
  have k1:=e _ _ h1;have k2:=e _ _ h2;refine⟨us,vs,?_,?_,?_⟩
  ·cases b1<;>simpa [Ew]using k1
  ·cases b2<;>simpa [Ew]using k2
  ·rw [d1.len,d2.len];simp [Nx];omega
 go:=fun i x H hx e=>by
  obtain⟨x1,x2,k1,k2,rfl⟩:=SE hx;obtain⟨v1,k3,_⟩:=d1.get k1;obtain⟨v2,k4,_⟩:=d2.get k2;have m1:=e _ _ h1;have m2:=e _ _ h2;refine⟨us,v1,vs,v2,?_,?_,k3,k4⟩
  ·cases b1<;>simpa [Ew]using m1
  ·cases b2<;>simpa [Ew]using m2
 FI:=fun i x H v H' hx e y Gc e1 e2=>by
  obtain⟨x1,x2,k1,k2,rfl⟩:=SE hx;obtain⟨p,v1,v2,rfl,hp,rfl,y1,y2⟩:=y;have m1:=e _ _ h1;have m2:=e _ _ h2;have z1:=y1 us (by cases b1<;>simpa [Ew]using m1);have z2:=y2 vs (by cases b2<;>simpa [Ew]using m2);obtain⟨w1,n1,n2⟩:=d1.back z1;obtain⟨w2,n3,n4⟩:=d2.back z2;rw [k1]at n1;cases n1;rw [k2]at n3;cases n3;exact OL e2 hp (n2.same e1) (n4.same e1)
def DI(X:Cx)(tg iter:Expr)(f:Dv→Option (List PyData)):Prop:=∃wi,PI X tg iter wi∧∀δ xs,f δ=some xs→∀G0 H0 G H σ ts (R:It→Hp→Prop),Rw G0 H0 G H σ δ ts→(∀J G' H',Rw G0 H0 G' H' σ δ ts→JR J xs G'→R J H')→wi σ H R
section
variable{X:Cx}{tg a b c e:Expr}{es:List Expr}{f g h:Dv→Option PyData}{fs:Dv→Option (List PyData)}{fa:Dv→Option Bool}{pos p:Pos}{st:Stmt}{sts sts':List Stmt}{F F1 F2:DF}
theorem PI.or{wi wi':TI}(h:PI X tg e wi)(h':PI X tg e wi'):PI X tg e (fun σ H R=>wi σ H R∨wi' σ H R):=fun pins s σ H R I q=>by
 rcases q with q | q
 ·exact h pins s σ H R I q
 ·exact h' pins s σ H R I q
def Fq:PyData→Option (List PyData)
 |.list xs=>some xs
 |.tuple xs=>some xs
 |_=>none
theorem Bu(he:DE X e f):DI X tg e (fun δ=>(f δ).bind Fq):=by
 obtain⟨t,p,k⟩:=he;refine⟨_,(KY p).or (iG p),fun δ xs h G0 H0 G H σ ts R R0 q=>?_⟩;obtain⟨x,h1,h2⟩:=aB.mp h;unfold Fq at h2;split at h2
 ·cases h2
  left
  refine k δ _ h1 G0 H0 G H σ ts _ R0 fun v G' H' R'=>?_;have du:=R'.BX _ (.head _);rw [Du]at du;obtain⟨a,ys,rfl,n1,n2⟩:=du;exact⟨a,rfl,⟨ys,A4.of (R'.ins _ _ n1)⟩,q _ _ _ R'.drop (fG n1 n2)⟩
 ·cases h2
  right
  refine k δ _ h1 G0 H0 G H σ ts _ R0 fun v G' H' R'=>?_;have du:=R'.BX _ (.head _);rw [Du]at du;obtain⟨a,ys,rfl,n1,n2⟩:=du;exact⟨a,rfl,⟨ys,A8.of (R'.ins _ _ n1)⟩,q _ _ _ R'.drop (gj n1 n2)⟩
 ·cases h2
def KA:List PyData→Option (List PyData)
 |[.int j]=>if -1000000≤j∧j≤1000000 then some (E6 0 j.toNat) else none
 |_=>none
def V2:List PyData→Option (List PyData)
 |[.int i,.int j]=>if -1000000≤i∧i≤1000000∧-1000000≤j∧j≤1000000 then some (E6 i (j-i).toNat) else none
 |_=>none
theorem Hn(hg:Gl X "range")(hm:X.mg "range" = none)(ha:DA X [a] fs)(hs:starEach [a] X.env=[(false,eval a X.env)]:=by rfl):DI X tg (.Call (.Name "range" p) [a] [] pos) (fun δ=>(fs δ).bind KA):=by
 obtain⟨t,p,k⟩:=ha;refine⟨_,Xp hg hm p hs,fun δ xs h G0 H0 G H σ ts R R0 q=>?_⟩;obtain⟨x,h1,h2⟩:=aB.mp h;refine k δ _ h1 G0 H0 G H σ ts _ R0 fun vs G' H' R' hv=>?_;obtain⟨d,R2⟩:=R'.args hv;unfold KA at h2;split at h2
 ·split at h2
  ·cases h2;obtain⟨u,rfl,du⟩:=d.GX;rw [Du]at du;subst du;exact⟨_,rfl,by omega,by omega,q _ _ _ R2 YS⟩
  ·cases h2
 ·cases h2
theorem Qq(hg:Gl X "range")(hm:X.mg "range" = none)(ha:DA X [a,b] fs)(hs:starEach [a,b] X.env=[(false,eval a X.env),(false,eval b X.env)]:=by rfl)(hs2:starEach [b] X.env=[(false,eval b X.env)]:=by rfl):DI X tg (.Call (.Name "range" p) [a,b] [] pos) (fun δ=>(fs δ).bind V2):=by
 obtain⟨t,p,k⟩:=ha;refine⟨_,YY hg hm p hs hs2,fun δ xs h G0 H0 G H σ ts R R0 q=>?_⟩;obtain⟨x,h1,h2⟩:=aB.mp h;refine k δ _ h1 G0 H0 G H σ ts _ R0 fun vs G' H' R' hv=>?_;obtain⟨d,R2⟩:=R'.args hv;unfold V2 at h2;split at h2
 ·split at h2
  ·cases h2;obtain⟨u,v,rfl,du,dv⟩:=d.NZ;rw [Du]at du dv;subst du dv;exact⟨_,_,rfl,⟨by omega,by omega,by omega,by omega⟩,q _ _ _ R2 YS⟩
  ·cases h2
 ·cases h2
def WG:List PyData→Option (List PyData)
 |[.list xs]=>some (Jn xs)
 |[.tuple xs]=>some (Jn xs)
 |_=>none
theorem cv{elts:List Expr}{x1}{tpos:Pos}(hg:Gl X "enumerate")(hm:X.mg "enumerate" = none)(ha:DA X [a] fs)(hs:starEach [a] X.env=[(false,eval a X.env)]:=by rfl):DI X (.Tuple elts x1 tpos) (.Call (.Name "enumerate" p) [a] [] pos) (fun δ=>(fs δ).bind WG):=by
 obtain⟨t,p,k⟩:=ha;refine⟨_,(Zp hg hm p hs).or (VH hg hm p hs),fun δ xs h G0 H0 G H σ ts R R0 q=>?_⟩;obtain⟨x,h1,h2⟩:=aB.mp h;unfold WG at h2;split at h2
 ·cases h2
  left
  refine k δ _ h1 G0 H0 G H σ ts _ R0 fun vs G' H' R' hv=>?_;obtain⟨d,R2⟩:=R'.args hv;obtain⟨u,rfl,du⟩:=d.GX;rw [Du]at du;obtain⟨a,ys,rfl,n1,n2⟩:=du;exact⟨a,rfl,⟨ys,A4.of (R2.ins _ _ n1)⟩,q _ _ _ R2 (a6 n1 n2)⟩
 ·cases h2
  right
  refine k δ _ h1 G0 H0 G H σ ts _ R0 fun vs G' H' R' hv=>?_;obtain⟨d,R2⟩:=R'.args hv;obtain⟨u,rfl,du⟩:=d.GX;rw [Du]at du;obtain⟨a,ys,rfl,n1,n2⟩:=du;exact⟨a,rfl,⟨ys,A8.of (R2.ins _ _ n1)⟩,q _ _ _ R2 (ZJ n1 n2)⟩
 ·cases h2
def zip2:List PyData→Option (List PyData)
 |[x,y]=>(Fq x).bind fun xs=>(Fq y).map fun ys=>Nx xs ys
 |_=>none
theorem Kp{G:Hp}{x:PyData}{v:V}{xs:List PyData}(h:Du G x v)(e:Fq x=some xs):∃(b:Bool) (a:Addr) (ys:List V),v=.ref a∧G a=some (if b then .tup ys else .lst ys)∧Ae G xs ys:=by
 unfold Fq at e;split at e
 ·cases e;rw [Du]at h;obtain⟨a,ys,rfl,n1,n2⟩:=h;exact⟨false,a,ys,rfl,n1,n2⟩
 ·cases e;rw [Du]at h;obtain⟨a,ys,rfl,n1,n2⟩:=h;exact⟨true,a,ys,rfl,n1,n2⟩
 ·cases e
theorem jb{elts:List Expr}{x1}{tpos:Pos}(hg:Gl X "zip")(hm:X.mg "zip" = none)(ha:DA X [a,b] fs)(hs:starEach [a,b] X.env=[(false,eval a X.env),(false,eval b X.env)]:=by rfl)(hs2:starEach [b] X.env=[(false,eval b X.env)]:=by rfl) :
  DI X (.Tuple elts x1 tpos) (.Call (.Name "zip" p) [a,b] [] pos) (fun δ=>(fs δ).bind zip2):=by
 obtain⟨t,p,k⟩:=ha;refine⟨_,iP hg hm p hs hs2,fun δ xs h G0 H0 G H σ ts R R0 q=>?_⟩;obtain⟨x,h1,h2⟩:=aB.mp h;refine k δ _ h1 G0 H0 G H σ ts _ R0 fun vs G' H' R' hv=>?_;obtain⟨d,R2⟩:=R'.args hv;unfold zip2 at h2;split at h2
 ·obtain⟨xs1,h3,h4⟩:=aB.mp h2;obtain⟨ys1,h5,rfl⟩:=aC.mp h4;obtain⟨u,v,rfl,du,dv⟩:=d.NZ;obtain⟨b1,a1,us,rfl,n1,n2⟩:=Kp du h3;obtain⟨b2,a2,ws,rfl,m1,m2⟩:=Kp dv h5;have s1:=R2.ins _ _ n1;have s2:=R2.ins _ _ m1;exact⟨b1,b2,a1,a2,rfl,⟨us,by cases b1<;>simpa [Ew]using s1⟩,⟨ws,by cases b2<;>simpa [Ew]using s2⟩,q _ _ _ R2 (gy n1 m1 n2 m2)⟩
 ·cases h2
def DG(X:Cx)(tg:Expr)(set:PyData→Dv→Option Dv):Prop:=∃g,PG X tg g∧∀δ x δ',set x δ=some δ'→∀G0 H0 G H σ v (Q:St→Hp→Prop),Rw G0 H0 G H σ δ [(x,v)]→(∀σ' G' H',Rw G0 H0 G' H' σ' δ' []→Q σ' H')→g v σ H Q
theorem CU{i:Nat}{x:Str}(h:PG X (.Name x pos) (Fj i)):DG X (.Name x pos) (fun y δ=>some (δ.set i (.d y))) :=
 ⟨_,h,fun δ y δ' e G0 H0 G H σ v Q R k=>by cases e;exact k _ _ _ R.HN⟩
def Di(i j:Nat)(y:PyData)(δ:Dv):Option Dv:=match y with
 |.tuple [u,v]=>some ((δ.set i (.d u)).set j (.d v))
 |_=>none
theorem O5{x y:Str}{i j:Nat}{px py:Pos}{k1}(h:PG X (.Tuple [.Name x px,.Name y py] k1 pos) (Zr X.K 2 (Pk (Fj i) (Pk (Fj j) Yw)))):DG X (.Tuple [.Name x px,.Name y py] k1 pos) (Di i j):=by
 refine⟨_,h,fun δ z δ' e G0 H0 G H σ v Q R k=>?_⟩;unfold Di at e;split at e
 ·cases e;have du:=R.BX _ (.head _);rw [Du]at du;obtain⟨a,ys,rfl,n1,n2⟩:=du;obtain⟨w1,w2,rfl,m1,m2⟩:=n2.NZ;refine⟨a,[w1,w2],rfl,A8.of (R.ins _ _ n1),rfl,w1,[w2],rfl,w2,[],rfl,rfl,?_⟩;exact k _ _ _ (((R.drop.put m2).put m1).HN.HN)
 ·cases e
def KG(set:PyData→Dv→Option Dv)(body:DF):List PyData→Dv→Option Ou
 |[],δ=>some (.nx δ)
 |x::xs,δ=>match (set x δ).bind body with
  |some (.nx δ')=>KG set body xs δ'
  |some (.ct δ')=>KG set body xs δ'
  |some (.bk δ')=>some (.nx δ')
  |some (.rt v)=>some (.rt v)
  |some (.rn v)=>some (.rn v)
  |none=>none
theorem CK{set:PyData→Dv→Option Dv}(hp:PassesOwn (model X.prog X.w) X.A X.env X.xe)(hc:X.calm=true)(hi:DI X tg e fs)(hg:DG X tg set)(hb:PV X sts F)(hs:∀x,foldedSetIterable e X.env x=pure x:=by intro _;rfl) :
  DS X (.For tg e sts [] pos) (fun δ=>(fs δ).bind fun xs=>KG set F xs δ):=by
 obtain⟨wi,pi,ki⟩:=hi;obtain⟨g,pg,kg⟩:=hg;obtain⟨tb,pb,kb⟩:=hb;refine⟨_,Pj hp hc pi pg pb hs,fun δ r h G0 H0 G H σ D R q=>?_⟩;obtain⟨xs,h1,h2⟩:=aB.mp h;refine ki δ xs h1 G0 H0 G H σ [] _ R fun J Ga Ha Ra it=>?_;refine⟨fun i m σ' H'=>m=xs.length-i∧i≤xs.length∧∃δ' G',KG set F (xs.drop i) δ'=some r∧Rw G0 H0 G' H' σ' δ' []∧AO Ga G',⟨xs.length,by simp,Nat.zero_le _,δ,Ga,by simpa using h2,Ra,AO.refl _⟩,?_⟩;rintro i m σ1 H1 ⟨rfl,hi,δ1,G1,f1,R1,s1⟩;have sH:AO Ga H1:=s1.trans R1.ins;by_cases hlt:i<xs.length
 ·right
  have hx:xs[i]? = some xs[i]:=by simp [hlt]
  refine⟨it.go i _ H1 hx sH,fun σ' H'=>i+1≤xs.length∧∃δ' G',KG set F (xs.drop (i+1)) δ'=some r∧Rw G0 H0 G' H' σ' δ' []∧AO Ga G',fun σ' H' n=>⟨xs.length-(i+1),by omega,rfl,n⟩,fun x H' y=>?_⟩;obtain⟨G2,e1,e2,e3,e4,e5⟩:=it.FI i _ H1 x H' hx sH y G1 s1 R1.ins;have R2:=(R1.lift e1 e2 e3 e4).put e5;have s2:=s1.trans e1;rw [List.drop_eq_getElem_cons hlt]at f1;unfold KG at f1;cases hb2:(set xs[i] δ1).bind F with
  |none=>rw [hb2]at f1;cases f1
  |some o =>
   obtain⟨δ2,k1,k2⟩:=aB.mp hb2;rw [hb2]at f1;have R2b:=R2.base;refine kg δ1 _ δ2 k1 G2 H0 G2 H' σ1 x _ R2b fun σ3 G3 H3 R3=>?_;refine kb δ2 o k2 G2 H0 G3 H3 σ3 _ R3 ?_;cases o with
   |nx δ3=>exact fun σ4 G4 H4 R4=>⟨hlt,δ3,G4,f1,R2.drop.Tw R4,s2.trans R4.ext⟩
   |ct δ3=>exact fun σ4 G4 H4 R4=>⟨hlt,δ3,G4,f1,R2.drop.Tw R4,s2.trans R4.ext⟩
   |bk δ3=>cases f1;exact fun σ4 G4 H4 R4=>q σ4 G4 H4 (R2.drop.Tw R4)
   |rt v=>cases f1;exact fun w G4 H4 h1 h2 h3 h4 h5=>q w G4 H4 (R2.ext.trans h1) (R2.new.trans h2) h3 h4 h5
   |rn v=>cases f1;exact fun w ys G4 H4 h1 h2=>q w ys G4 H4 (R2.ext.trans h1) (R2.new.trans h2)
 ·left
  have e:i=xs.length:=by omega
  subst e;refine⟨it.stop H1 sH,?_⟩;rw [List.drop_length]at f1;unfold KG at f1;cases f1;exact q _ _ _ R1
end
def tD(f:Dv→Option PyData):TE:=fun σ H Q=>∃δ x G0 H0 G ts,f δ=some x∧Rw G0 H0 G H σ δ ts∧∀v G' H',Rw G0 H0 G' H' σ δ ((x,v)::ts)→Q v H'
def Ur(f:Dv→Option Bool):TT:=fun σ H Q=>∃δ x G0 H0 G ts,f δ=some x∧Rw G0 H0 G H σ δ ts∧∀G' H',Rw G0 H0 G' H' σ δ ts→Q x H'
theorem DE.pe{X:Cx}{e:Expr}{f:Dv→Option PyData}(h:DE X e f):PE X e (tD f):=by
 obtain⟨t,p,k⟩:=h;intro pins s σ H Q I q;obtain⟨δ,x,G0,H0,G,ts,h1,h2,h3⟩:=q;exact p pins s σ H Q I (k δ x h1 G0 H0 G H σ ts Q h2 h3)
theorem DT.pt{X:Cx}{e:Expr}{f:Dv→Option Bool}(h:DT X e f):PT X e (Ur f):=by
 obtain⟨t,p,k⟩:=h;intro pins s σ H Q I q;obtain⟨δ,x,G0,H0,G,ts,h1,h2,h3⟩:=q;exact p pins s σ H Q I (k δ x h1 G0 H0 G H σ ts Q h2 h3)
def Qu(X:Cx)(ifs:List Expr)(f:Dv→Option Bool):Prop:=Lh X ifs (Ur f)
theorem EN{X:Cx}:Qu X [] (fun _=>some true):=by
 intro pins s σ H Q I q;obtain⟨δ,x,G0,H0,G,ts,h1,h2,h3⟩:=q;cases h1;exact Qb pins s σ H Q I (h3 _ _ h2)
theorem QZ{X:Cx}{c:Expr}{f:Dv→Option Bool}(h:DT X c f):Qu X [c] f:=dq h.pt
def BW(fr:List (Option Nat))(δ:Dv):Dv:=fr.map fun o=>match o with
 |some j=>(match δ[j]? with | some (.d x)=>.d x | _=>.no)
 |none=>.no
theorem Rw.inner{G0 H0 G H:Hp}{σ:St}{δ:Dv}{ts:List (PyData×V)}(fr:List (Option Nat))(r:Rw G0 H0 G H σ δ ts):Rw G H G H (carry fr σ) (BW fr δ) ts:=by
 have key:∀(i:Nat) (l:L),(BW fr δ)[i]? = some l→∃o,fr[i]? = some o∧l=(match o with | some j=>(match δ[j]? with | some (.d x)=>.d x | _=>.no) | none=>.no):=fun i l h=>by
  unfold BW at h;rw [List.getElem?_map]at h;obtain⟨o,h1,rfl⟩:=aC.mp h;exact⟨o,h1,rfl⟩
 have noown:∀(i:Nat) (xs:Oc),(BW fr δ)[i]?≠some (L.own xs):=fun i xs h=>by
  obtain⟨o,_,h2⟩:=key i _ h;split at h2
  ·split at h2<;>cases h2
  ·cases h2
 refine⟨AO.refl _,Nw.refl,r.ins,AO.refl _,by simp [carry,BW],fun i x h=>?_,fun i xs h=>absurd h (noown i xs),fun i j xs ys _ h=>absurd h (noown i xs),r.BX⟩;obtain⟨o,h1,h2⟩:=key i _ h;split at h2
 ·rename_i j;split at h2
  ·rename_i y hy;cases h2;obtain⟨v,k1,k2⟩:=r.dat j _ hy;refine⟨v,?_,k2⟩;unfold carry;rw [List.getElem?_map,h1];simp [k1]
  ·cases h2
 ·cases h2
theorem Rw.other{G0 H0 G H:Hp}{σ:St}{δ:Dv}{ts:List (PyData×V)}{D:Addr}{o:HO}(r:Rw G0 H0 G H σ δ ts)(hG:G D=none)(h0:H0 D=none)(ho:∀(i:Nat) (xs:Oc),δ[i]? = some (L.own xs)→σ[i]?≠some (some (V.ref D))):Rw G0 H0 G (upd H D o) σ δ ts:=by
 refine⟨r.ext,r.new,fun a u h=>?_,fun a u h=>?_,r.len,r.dat,fun i xs h=>?_,r.apart,r.BX⟩
 ·rw [AM (fun z=>by subst z;rw [hG]at h;cases h)];exact r.ins _ _ h
 ·rw [AM (fun z=>by subst z;rw [h0]at h;cases h)];exact r.keep _ _ h
 ·obtain⟨a,ys,k1,k2,k3,k4,k5⟩:=r.own i xs h;exact⟨a,ys,k1,k2,k3,by rw [AM (fun z=>by subst z;exact ho i xs h k1)];exact k4,k5⟩
theorem Rw.adopt{G0 H0 G H:Hp}{σ:St}{δ:Dv}{ts:List (PyData×V)}{D:Addr}{ys:List V}(r:Rw G0 H0 G H σ δ ts)(hD:H D=some (.lst ys))(hG:G D=none)(h0:H0 D=none)(ho:∀(i:Nat) (xs:Oc),δ[i]? = some (L.own xs)→σ[i]?≠some (some (V.ref D))):Rw G0 H0 (upd G D (.lst ys)) H σ δ ts:=by
 have e:AO G (upd G D (.lst ys)):=Bh hG _;refine⟨r.ext.trans e,fun a u h=>?_,fun a u h=>?_,r.keep,r.len,fun i x h=>?_,fun i xs h=>?_,r.apart,fun q hq=>(r.BX q hq).same e⟩
 ·by_cases ha:a=D
  ·subst ha;exact .inr (.inl h0)
  ·rw [AM ha]at h;exact r.new _ _ h
 ·by_cases ha:a=D
  ·subst ha;rw [AX]at h;rw [hD];exact h
  ·rw [AM ha]at h;exact r.ins _ _ h
 ·obtain⟨v,k1,k2⟩:=r.dat i x h;exact⟨v,k1,k2.same e⟩
 ·obtain⟨a,zs,k1,k2,k3,k4,k5⟩:=r.own i xs h;have ha:a≠D:=fun z=>by subst z;exact ho i xs h k1
  exact⟨a,zs,k1,by rw [AM ha];exact k2,k3,k4,k5.same e⟩
def Eg(set:PyData→Dv→Option Dv)(tif:Dv→Option Bool)(f:Dv→Option PyData)(δ:Dv)(x:PyData):Option (Option PyData) :=
 (set x δ).bind fun δ1=>(tif δ1).bind fun b=>if b=true then(f δ1).map some else some none
def collect(one:PyData→Option (Option PyData)):List PyData→Option (List PyData)
 |[]=>some []
 |x::xs=>(one x).bind fun o=>(collect one xs).map fun r=>o.toList++r
def CF(set:PyData→Dv→Option Dv)(tif:Dv→Option Bool)(f:Dv→Option PyData)(fr:List (Option Nat))(fs:Dv→Option (List PyData))(δ:Dv):Option (List PyData) :=
 (fs δ).bind fun xs=>(collect (Eg set tif f (BW fr δ)) xs).bind GR
def CM(set:PyData→Dv→Option Dv)(tif:Dv→Option Bool)(f:Dv→Option PyData)(fr:List (Option Nat))(fs:Dv→Option (List PyData))(δ:Dv):Option PyData :=
 (CF set tif f fr fs δ).map .list
structure VI(G0 H0 Ga:Hp)(σ:St)(δ:Dv)(ts:List (PyData×V))(one:PyData→Option (Option PyData))(xs full:List PyData)(D:Addr)(i:Nat)(ys:List V)(H:Hp):Prop where
 ex:∃G done rest,Rw G0 H0 G H σ δ ts∧AO Ga G∧G D=none∧collect one (xs.drop i)=some rest∧done++rest=full∧Ae G done ys
 h0:H0 D=none
 ap:∀(j:Nat) (us:Oc),δ[j]? = some (L.own us)→σ[j]?≠some (some (V.ref D))
theorem Pz{G0 H0 G H:Hp}{D:Addr}{ys:List V}(hG:G0 D=none)(hD:H0 D=some (.lst ys))(n:Nw G0 H0 G)(e:AO G H)(k:AO H0 H):G D=none:=by
 cases q:G D with
 |none=>rfl
 |some o =>
  rcases n _ _ q with z | z | ⟨us,z⟩
  ·rw [hG]at z;cases z
  ·rw [hD]at z;cases z
  ·have:=e _ _ q;rw [k _ _ hD,z]at this;cases this
section
variable{X:Cx}{elt iter:Expr}{x y:Str}{px py tp pos:Pos}{tk:Nat}{ifs:List Expr}{scope:Scope}{fs:Dv→Option (List PyData)}{tif:Dv→Option Bool}{f:Dv→Option PyData}
def B0(i:Nat)(y:PyData)(δ:Dv):Option Dv:=some (δ.set i (.d y))
theorem Oq{wi:TI}{ix:Nat}{fr:List (Option Nat)}(ki:∀(δ:Dv) (xs:List PyData),fs δ=some xs→∀(G0 H0 G H:Hp) (σ:St) (ts:List (PyData×V)) (R:It→Hp→Prop),Rw G0 H0 G H σ δ ts→(∀J G' H',Rw G0 H0 G' H' σ δ ts→JR J xs G'→R J H')→wi σ H R){δ:Dv}{zs:List PyData}(hz:CF (B0 ix) tif f fr fs δ=some zs){G0 H0 G H:Hp}{σ:St}{ts:List (PyData×V)}{Q:VK}(R0:Rw G0 H0 G H σ δ ts)(k:∀D ys G' H',Rw G0 H0 G' H' σ δ ts→H' D=some (.lst ys)→G' D=none→H0 D=none→(∀(j:Nat) (us:Oc),δ[j]? = some (L.own us)→σ[j]?≠some (some (V.ref D)))→Ae G' zs ys→Q (.ref D) H') :
  M6 wi fr ix (Ur tif) (tD f) σ H Q:=by
 unfold CF at hz;obtain⟨xs,m2,m3⟩:=aB.mp hz;obtain⟨full,m4,m5⟩:=aB.mp m3;obtain⟨rfl,hfew⟩:=MV m5;refine ki δ xs m2 G0 H0 G H σ ts _ R0 fun J Ga Ha Ra it D hD=>?_;have hGD:Ga D=none:=by
  cases q:Ga D with
  |none=>rfl
  |some u=>rw [Ra.ins _ _ q]at hD;cases hD
 have hHD:H0 D=none:=by
  cases q:H0 D with
  |none=>rfl
  |some u=>rw [Ra.keep _ _ q]at hD;cases hD
 have hap:∀(j:Nat) (us:Oc),δ[j]? = some (L.own us)→σ[j]?≠some (some (V.ref D)):=fun j us h z=>by
  obtain⟨a,ys,k1,k2,k3,k4,k5⟩:=Ra.own j us h;rw [z]at k1;cases k1;rw [k4]at hD;cases hD
 refine P9 (n:=xs.length) (VI G0 H0 Ga σ δ ts (Eg (B0 ix) tif f (BW fr δ)) xs full D) ⟨⟨Ga,[],full,Ra.other hGD hHD hap,AO.refl _,hGD,by simpa using m4,rfl,.nil⟩,hHD,hap⟩ ?_ ?_
 ·rintro i ys H1 hlt ⟨⟨G1,done,rest,R1,s1,g1,c1,e1,d1⟩,_,_⟩ hD1;have hx:xs[i]? = some xs[i]:=by simp [hlt]
  have sH:=s1.trans R1.ins;have hyl:ys.length<sizeLine:=QW (by
   rw [d1.len];have:done.length≤full.length:=by rw [←e1];simp
   omega)
  refine⟨it.go i _ H1 hx sH,hyl,fun v H' y=>?_⟩;obtain⟨G2,n1,n2,n3,n4,n5⟩:=it.FI i _ H1 v H' hx sH y G1 s1 R1.ins;have R2:=R1.lift n1 n2 n3 n4;have hD2:=n4 _ _ hD1;have g2:G2 D=none:=Pz g1 hD1 n2 n3 n4;rw [List.drop_eq_getElem_cons hlt]at c1;unfold collect at c1;obtain⟨o,c2,c3⟩:=aB.mp c1;obtain⟨rest',c4,rfl⟩:=aC.mp c3;unfold Eg B0 at c2;simp only [Option.bind_some]at c2;obtain⟨b,c5,c6⟩:=aB.mp c2;have Ri:=((R2.inner fr).put n5).HN (i:=ix);have Ri0:Rw G2 H' G2 H' ((carry fr σ).set ix (some v)) ((BW fr δ).set ix (.d xs[i])) []:=Ri.less fun q hq=>by cases hq
  refine⟨_,b,G2,H',G2,[],c5,Ri0,fun G3 H3 R3=>?_⟩;have R3o:=R2.lift R3.ext R3.new R3.ins R3.keep;have hD3:=R3.keep _ _ hD2;have g3:G3 D=none:=Pz g2 hD2 R3.new R3.ins R3.keep;dsimp only;split
  ·rename_i hb;rw [if_pos hb]at c6;obtain⟨w,c7,rfl⟩:=aC.mp c6;refine⟨_,w,G2,H',G3,[],c7,R3,fun u G4 H4 R4=>?_⟩;have R4o:=R2.lift R4.ext R4.new R4.ins R4.keep;have hD4:=R4.keep _ _ hD2;have g4:G4 D=none:=Pz g2 hD2 R4.new R4.ins R4.keep;refine⟨hD4,M7 hlt ⟨⟨G4,done++[w],rest',R4o.other g4 hHD hap,s1.trans (n1.trans R4.ext),g4,c4,by simpa using e1,(d1.same (n1.trans R4.ext)).app (.cons (R4.BX _ (.head _)) .nil)⟩,hHD,hap⟩⟩
  ·rename_i hb;rw [if_neg hb]at c6;cases c6;exact VR hlt hD3 ⟨⟨G3,done,rest',R3o,s1.trans (n1.trans R3.ext),g3,c4,by simpa using e1,d1.same (n1.trans R3.ext)⟩,hHD,hap⟩
 ·rintro ys H1 ⟨⟨G1,done,rest,R1,s1,g1,c1,e1,d1⟩,_,_⟩ hD1;refine⟨it.stop H1 (s1.trans R1.ins),?_⟩;rw [List.drop_length]at c1;cases c1;rw [List.append_nil]at e1;subst e1;exact k _ _ _ _ R1 hD1 g1 hHD hap d1
theorem L9{wi:TI}{ix:Nat}{fr:List (Option Nat)}(ki:∀(δ:Dv) (xs:List PyData),fs δ=some xs→∀(G0 H0 G H:Hp) (σ:St) (ts:List (PyData×V)) (R:It→Hp→Prop),Rw G0 H0 G H σ δ ts→(∀J G' H',Rw G0 H0 G' H' σ δ ts→JR J xs G'→R J H')→wi σ H R){δ:Dv}{z:PyData}(hz:CM (B0 ix) tif f fr fs δ=some z){G0 H0 G H:Hp}{σ:St}{ts:List (PyData×V)}{Q:VK}(R0:Rw G0 H0 G H σ δ ts)(k:∀v G' H',Rw G0 H0 G' H' σ δ ((z,v)::ts)→Q v H') :
  M6 wi fr ix (Ur tif) (tD f) σ H Q:=by
 unfold CM at hz;obtain⟨full,m1,rfl⟩:=aC.mp hz;refine Oq ki m1 R0 fun D ys G1 H1 R1 hD1 g1 hHD hap d1=>?_;have e:AO G1 (upd G1 D (.lst ys)):=Bh g1 _;have R2:=R1.adopt hD1 g1 hHD hap;refine k _ _ _ (R2.put ?_);rw [Du];exact⟨D,ys,rfl,AX,d1.same e⟩
theorem HR(N:List Str)(ix:Nat)(fr:List (Option Nat))(hi:DI X (.Name x px) iter fs)(hif:∀cl C s₀ H₀ fp,Qu (Ai X scope cl N C s₀ H₀ fp) ifs tif)(he:∀cl C s₀ H₀ fp,DE (Ai X scope cl N C s₀ H₀ fp) elt f)
 (h1:Bk scope N x ix=true:=by decide +kernel)(h2:X.calm=true:=by rfl)(h3:ER N X.N scope X.env.scope fr 0=true:=by rfl)(h4:fr.length=N.length:=by rfl)(h5:freeOk X.env.scope scope.names=true:=by rfl)
 (hs:∀x,foldedSetIterable iter X.env x=pure x:=by intro _;rfl):DE X (.ListComp elt [⟨.Name x px,iter,ifs,0⟩] scope pos) (CM (B0 ix) tif f fr fs):=by
 obtain⟨wi,pi,ki⟩:=hi;exact⟨_,LD N ix fr pi hif (fun cl C s₀ H₀ fp=>(he cl C s₀ H₀ fp).pe) h1 h2 h3 h4 h5 hs,fun δ z hz G0 H0 G H σ ts Q R0 k=>L9 ki hz R0 k⟩
theorem WZ{i:Nat}{z:Str}{pz spos:Pos}(N:List Str)(ix:Nat)(fr:List (Option Nat))(hN:X.N.Nodup)(hy:X.N[i]? = some z)(hly:X.env.scope.names.lookup z=some .local)(hi:DI X (.Name x px) iter fs)(hif:∀cl C s₀ H₀ fp,Qu (Ai X scope cl N C s₀ H₀ fp) ifs tif)(he:∀cl C s₀ H₀ fp,DE (Ai X scope cl N C s₀ H₀ fp) elt f)
 (h1:Bk scope N x ix=true:=by decide +kernel)(h2:X.calm=true:=by rfl)(h3:ER N X.N scope X.env.scope fr 0=true:=by rfl)(h4:fr.length=N.length:=by rfl)(h5:freeOk X.env.scope scope.names=true:=by rfl)
 (hsw:swapsWith (.ListComp elt [⟨.Name x px,iter,ifs,0⟩] scope pos) (some (.Name z pz)) spos.line X.env=pure true:=by rfl)
 (hs:∀x,foldedSetIterable iter X.env x=pure x:=by intro _;rfl):DS X (.Assign [.Name z pz] (.ListComp elt [⟨.Name x px,iter,ifs,0⟩] scope pos) spos) (fun δ=>(CM (B0 ix) tif f fr fs δ).map fun y=>.nx (δ.set i (.d y))):=by
 obtain⟨wi,pi,ki⟩:=hi;refine⟨_,NU N ix fr hN hy hly pi hif (fun cl C s₀ H₀ fp=>(he cl C s₀ H₀ fp).pe) h1 h2 h3 h4 h5 hsw hs,fun δ r h G0 H0 G H σ D R q=>?_⟩;obtain⟨y,h1,rfl⟩:=aC.mp h;exact L9 ki h1 R fun v G' H' R'=>q _ _ _ R'.HN
end
section
variable{X:Cx}{elt iter:Expr}{x y:Str}{px py tp pos:Pos}{tk:Nat}{ifs:List Expr}{scope:Scope}{fs:Dv→Option (List PyData)}{tif:Dv→Option Bool}{f:Dv→Option PyData}
theorem NY{wi:TI}{ix iy:Nat}{fr:List (Option Nat)}(ki:∀(δ:Dv) (xs:List PyData),fs δ=some xs→∀(G0 H0 G H:Hp) (σ:St) (ts:List (PyData×V)) (R:It→Hp→Prop),Rw G0 H0 G H σ δ ts→(∀J G' H',Rw G0 H0 G' H' σ δ ts→JR J xs G'→R J H')→wi σ H R){δ:Dv}{zs:List PyData}(hz:CF (Di ix iy) tif f fr fs δ=some zs){G0 H0 G H:Hp}{σ:St}{ts:List (PyData×V)}{Q:VK}(R0:Rw G0 H0 G H σ δ ts)(k:∀D ys G' H',Rw G0 H0 G' H' σ δ ts→H' D=some (.lst ys)→G' D=none→H0 D=none→(∀(j:Nat) (us:Oc),δ[j]? = some (L.own us)→σ[j]?≠some (some (V.ref D)))→Ae G' zs ys→Q (.ref D) H') :
  Pd X.K wi fr ix iy (Ur tif) (tD f) σ H Q:=by
 unfold CF at hz;obtain⟨xs,m2,m3⟩:=aB.mp hz;obtain⟨full,m4,m5⟩:=aB.mp m3;obtain⟨rfl,hfew⟩:=MV m5;refine ki δ xs m2 G0 H0 G H σ ts _ R0 fun J Ga Ha Ra it D hD=>?_;have hGD:Ga D=none:=by
  cases q:Ga D with
  |none=>rfl
  |some u=>rw [Ra.ins _ _ q]at hD;cases hD
 have hHD:H0 D=none:=by
  cases q:H0 D with
  |none=>rfl
  |some u=>rw [Ra.keep _ _ q]at hD;cases hD
 have hap:∀(j:Nat) (us:Oc),δ[j]? = some (L.own us)→σ[j]?≠some (some (V.ref D)):=fun j us h z=>by
  obtain⟨a,ys,k1,k2,k3,k4,k5⟩:=Ra.own j us h;rw [z]at k1;cases k1;rw [k4]at hD;cases hD
 refine Zg (n:=xs.length) (VI G0 H0 Ga σ δ ts (Eg (Di ix iy) tif f (BW fr δ)) xs full D) ⟨⟨Ga,[],full,Ra.other hGD hHD hap,AO.refl _,hGD,by simpa using m4,rfl,.nil⟩,hHD,hap⟩ ?_ ?_
 ·rintro i ys H1 hlt ⟨⟨G1,done,rest,R1,s1,g1,c1,e1,d1⟩,_,_⟩ hD1;have hx:xs[i]? = some xs[i]:=by simp [hlt]
  have sH:=s1.trans R1.ins;have hyl:ys.length<sizeLine:=QW (by
   rw [d1.len];have:done.length≤full.length:=by rw [←e1];simp
   omega)
  refine⟨it.go i _ H1 hx sH,hyl,fun v H' y=>?_⟩;obtain⟨G2,n1,n2,n3,n4,n5⟩:=it.FI i _ H1 v H' hx sH y G1 s1 R1.ins;have R2:=R1.lift n1 n2 n3 n4;have hD2:=n4 _ _ hD1;have g2:G2 D=none:=Pz g1 hD1 n2 n3 n4;rw [List.drop_eq_getElem_cons hlt]at c1;unfold collect at c1;obtain⟨o,c2,c3⟩:=aB.mp c1;obtain⟨rest',c4,rfl⟩:=aC.mp c3;unfold Eg at c2;obtain⟨δ1,c8,c9⟩:=aB.mp c2;obtain⟨b,c5,c6⟩:=aB.mp c9;unfold Di at c8;split at c8
  ·rename_i u1 u2 hu;cases c8;rw [hu,Du]at n5;obtain⟨pa,ps,rfl,q1,q2⟩:=n5;obtain⟨w1,w2,rfl,q3,q4⟩:=q2.NZ;have Ri:=(((R2.inner fr).put q4).put q3).HN (i:=ix) |>.HN (i:=iy)
   have Ri0:Rw G2 H' G2 H' (((carry fr σ).set ix (some w1)).set iy (some w2)) (((BW fr δ).set ix (.d u1)).set iy (.d u2)) []:=Ri.less fun q hq=>by cases hq
   refine⟨pa,w1,w2,rfl,A8.of (n3 _ _ q1),?_⟩;refine⟨_,b,G2,H',G2,[],c5,Ri0,fun G3 H3 R3=>?_⟩;have R3o:=R2.lift R3.ext R3.new R3.ins R3.keep;have hD3:=R3.keep _ _ hD2;have g3:G3 D=none:=Pz g2 hD2 R3.new R3.ins R3.keep;dsimp only;split
   ·rename_i hb;rw [if_pos hb]at c6;obtain⟨w,c7,rfl⟩:=aC.mp c6;refine⟨_,w,G2,H',G3,[],c7,R3,fun u G4 H4 R4=>?_⟩;have R4o:=R2.lift R4.ext R4.new R4.ins R4.keep;have hD4:=R4.keep _ _ hD2;have g4:G4 D=none:=Pz g2 hD2 R4.new R4.ins R4.keep;refine⟨hD4,M7 hlt ⟨⟨G4,done++[w],rest',R4o.other g4 hHD hap,s1.trans (n1.trans R4.ext),g4,c4,by simpa using e1,(d1.same (n1.trans R4.ext)).app (.cons (R4.BX _ (.head _)) .nil)⟩,hHD,hap⟩⟩
   ·rename_i hb;rw [if_neg hb]at c6;cases c6;exact VR hlt hD3 ⟨⟨G3,done,rest',R3o,s1.trans (n1.trans R3.ext),g3,c4,by simpa using e1,d1.same (n1.trans R3.ext)⟩,hHD,hap⟩
  ·cases c8
 ·rintro ys H1 ⟨⟨G1,done,rest,R1,s1,g1,c1,e1,d1⟩,_,_⟩ hD1;refine⟨it.stop H1 (s1.trans R1.ins),?_⟩;rw [List.drop_length]at c1;cases c1;rw [List.append_nil]at e1;subst e1;exact k _ _ _ _ R1 hD1 g1 hHD hap d1
theorem Wh{wi:TI}{ix iy:Nat}{fr:List (Option Nat)}(ki:∀(δ:Dv) (xs:List PyData),fs δ=some xs→∀(G0 H0 G H:Hp) (σ:St) (ts:List (PyData×V)) (R:It→Hp→Prop),Rw G0 H0 G H σ δ ts→(∀J G' H',Rw G0 H0 G' H' σ δ ts→JR J xs G'→R J H')→wi σ H R){δ:Dv}{z:PyData}(hz:CM (Di ix iy) tif f fr fs δ=some z){G0 H0 G H:Hp}{σ:St}{ts:List (PyData×V)}{Q:VK}(R0:Rw G0 H0 G H σ δ ts)(k:∀v G' H',Rw G0 H0 G' H' σ δ ((z,v)::ts)→Q v H') :
  Pd X.K wi fr ix iy (Ur tif) (tD f) σ H Q:=by
 unfold CM at hz;obtain⟨full,m1,rfl⟩:=aC.mp hz;refine NY ki m1 R0 fun D ys G1 H1 R1 hD1 g1 hHD hap d1=>?_;have e:AO G1 (upd G1 D (.lst ys)):=Bh g1 _;have R2:=R1.adopt hD1 g1 hHD hap;refine k _ _ _ (R2.put ?_);rw [Du];exact⟨D,ys,rfl,AX,d1.same e⟩
theorem Z0(N:List Str)(ix iy:Nat)(fr:List (Option Nat))(hi:DI X (.Tuple [.Name x px,.Name y py] tk tp) iter fs)(hif:∀cl C s₀ H₀ fp,Qu (Ai X scope cl N C s₀ H₀ fp) ifs tif)(he:∀cl C s₀ H₀ fp,DE (Ai X scope cl N C s₀ H₀ fp) elt f)
 (h1:Bk scope N x ix=true:=by decide +kernel)(h1':Bk scope N y iy=true:=by decide +kernel)(hxy:ix≠iy:=by decide)(h2:X.calm=true:=by rfl)(h3:ER N X.N scope X.env.scope fr 0=true:=by rfl)(h4:fr.length=N.length:=by rfl)(h5:freeOk X.env.scope scope.names=true:=by rfl)
 (hs:∀x,foldedSetIterable iter X.env x=pure x:=by intro _;rfl):DE X (.ListComp elt [⟨.Tuple [.Name x px,.Name y py] tk tp,iter,ifs,0⟩] scope pos) (CM (Di ix iy) tif f fr fs):=by
 obtain⟨wi,pi,ki⟩:=hi;exact⟨_,RG N ix iy fr pi hif (fun cl C s₀ H₀ fp=>(he cl C s₀ H₀ fp).pe) h1 h1' hxy h2 h3 h4 h5 hs,fun δ z hz G0 H0 G H σ ts Q R0 k=>Wh ki hz R0 k⟩
def GH(N:List Str)(ds:List PyData):Dv:=ds.map .d++List.replicate (N.length-ds.length) .no
def Cc(ps N:List Str)(F:DF)(ds:List PyData):Option PyData:=if ds.length=ps.length then(match F (GH N ds) with
 |some (.rt x)=>some x
 |some (.nx _)=>some .none
 |some (.rn xs)=>some (.list xs)
 |_=>none) else none
theorem Rw.start{N:List Str}{ds:List PyData}{vs:List V}{G H:Hp}(d:Ae G ds vs)(e:AO G H):Rw G H G H (start N vs) (GH N ds) []:=by
 have hl:=d.len;refine⟨AO.refl _,Nw.refl,e,AO.refl _,by simp [L2.start,GH,hl],fun i x h=>?_,fun i xs h=>?_,fun i j xs ys _ h=>?_,fun q hq=>by cases hq⟩
 ·unfold GH at h;by_cases hi:i<ds.length
  ·rw [List.getElem?_append_left (by simpa using hi),List.getElem?_map]at h;obtain⟨y,h1,h2⟩:=aC.mp h;cases h2;obtain⟨v,h3,h4⟩:=d.get h1;refine⟨v,?_,h4⟩;unfold L2.start;rw [List.getElem?_append_left (by simp;omega),List.getElem?_map,h3];rfl
  ·rw [List.getElem?_append_right (by simpa using hi),List.getElem?_replicate]at h;split at h<;>cases h
 ·unfold GH at h;by_cases hi:i<ds.length
  ·rw [List.getElem?_append_left (by simpa using hi),List.getElem?_map]at h;obtain⟨y,h1,h2⟩:=aC.mp h;cases h2
  ·rw [List.getElem?_append_right (by simpa using hi),List.getElem?_replicate]at h;split at h<;>cases h
 ·unfold GH at h;by_cases hi:i<ds.length
  ·rw [List.getElem?_append_left (by simpa using hi),List.getElem?_map]at h;obtain⟨y,h1,h2⟩:=aC.mp h;cases h2
  ·rw [List.getElem?_append_right (by simpa using hi),List.getElem?_replicate]at h;split at h<;>cases h
theorem cm{G H G' H':Hp}{a:Addr}{ys:List V}{xs:List PyData}(m1:AO G G')(m2:Nw G H G')(m3:AO G' H')(m5:H a=none)(m6:G' a=none)(m7:H' a=some (.lst ys))(m8:Ae G' xs ys) :
  AO G (upd G' a (.lst ys))∧Nw G H (upd G' a (.lst ys))∧AO (upd G' a (.lst ys)) H'∧Du (upd G' a (.lst ys)) (.list xs) (.ref a):=by
 refine⟨m1.trans (Bh m6 _),fun b o hb=>?_,fun b o hb=>?_,?_⟩
 ·by_cases z:b=a
  ·subst z;exact .inr (.inl m5)
  ·rw [AM z]at hb;exact m2 _ _ hb
 ·by_cases z:b=a
  ·subst z;rw [AX]at hb;rw [m7];exact hb
  ·rw [AM z]at hb;exact m3 _ _ hb
 ·rw [Du];exact⟨a,ys,rfl,AX,m8.same (Bh m6 _)⟩
theorem GA{P:Program}{w:World}{K:Fg}{mg:Str→Option Value}{base:Heap}{x:Str}{st:Stmt}{fA:Addr}{fd:FuncData}{N ps:List Str}{k:Nat}{F:DF}(T:Fn K mg x st ps fA fd)(S:Ad N ps (AR st))
 (hb:∀(cdv:Value) (A:Around) (outer:List Env) (s:Shared) (H:Hp) (E:XK),DH k (A.deeper (envOfC x (AR st) s.heap.objs.size fA cdv))→PV (Ca Ao P w K mg base N x (AR st) fA cdv A outer s H E).Jh (Ds st) F) :
  AL P w K mg base Ao (k+1) fA fd ps (BH (Cc ps N F)):=by
 refine T.F.ok S (fun vs H Q E h=>?_) fun cdv A outer s H vs Q E hr h=>?_
 ·obtain⟨ds,y,G,h1,h2,_⟩:=h;unfold Cc at h1;split at h1
  ·rename_i hl;rw [h2.len];exact hl
  ·cases h1
 ·obtain⟨ds,y,G,h1,h2,h3,h4⟩:=h;obtain⟨t,p,kk⟩:=hb cdv A outer s H E hr;refine⟨t,p,?_⟩;unfold Cc at h1;split at h1
  ·split at h1
   ·rename_i z e1;cases h1;exact kk _ _ e1 G H G H _ _ (Rw.start h2 h3) fun v G' H' m1 m2 m3 m4 m5=>h4 v G' H' m1 m2 m3 m4 m5
   ·rename_i δ e1;cases h1;exact kk _ _ e1 G H G H _ _ (Rw.start h2 h3) fun σ' G' H' R=>h4 .A7 G' H' R.ext R.new R.ins R.keep (by rw [Du])
   ·rename_i xs e1;cases h1;exact kk _ _ e1 G H G H _ _ (Rw.start h2 h3) fun a ys G' H' m1 m2 m3 m4 m5 m6 m7 m8=>let⟨n1,n2,n3,n4⟩:=cm m1 m2 m3 m5 m6 m7 m8;h4 _ _ H' n1 n2 n3 m4 n4
   ·cases h1
  ·cases h1
end
section
variable{X:Cx}{tg a b c e:Expr}{es:List Expr}{f g h:Dv→Option PyData}{fs:Dv→Option (List PyData)}{fa:Dv→Option Bool}{pos p p2:Pos}{st:Stmt}{sts sts':List Stmt}{F F1 F2:DF}
theorem Ss{x:Str}{i:Int}{tk:Tok}(hg:Gl X x)(hm:X.mg x=some (.int i tk))(hd:(x==("__debug__" : Str))=false:=by decide):DE X (.Name x pos) (fun _=>some (.int i)) :=
 ⟨_,Pt (v:=.int i) hg hm ⟨tk,rfl⟩ hd,fun δ x h G0 H0 G H σ ts Q r k=>by cases h;exact k _ _ _ (r.put (by rw [Du]))⟩
def DO(X:Cx)(o:Option Expr)(f:Dv→Option (Option Int)):Prop:=∃t,PO X o t∧∀δ x,f δ=some x→∀G0 H0 G H σ ts (Q:Option Int→Hp→Prop),Rw G0 H0 G H σ δ ts→(∀G' H',Rw G0 H0 G' H' σ δ ts→Q x H')→t σ H Q
variable{fo fu:Dv→Option (Option Int)}{lo hi:Option Expr}
theorem M5:DO X none (fun _=>some none):=⟨_,df,fun δ x h G0 H0 G H σ ts Q r k=>by cases h;exact k _ _ r⟩
theorem Mq(he:DE X e f):DO X (some e) (fun δ=>(f δ).bind fun x=>(Pf x).map some):=by
 obtain⟨t,p,k⟩:=he;refine⟨_,dz p,fun δ z h G0 H0 G H σ ts Q r q=>?_⟩;obtain⟨x,h1,h2⟩:=aB.mp h;obtain⟨i,h3,rfl⟩:=aC.mp h2;have:=O0 h3;subst this;refine k δ _ h1 G0 H0 G H σ ts _ r fun v G' H' R'=>?_;have hv:=R'.BX _ (.head _);rw [Du]at hv;exact⟨i,hv,q _ _ R'.drop⟩
def cutD(xs:List PyData)(lo hi:Option Int):List PyData:=(xs.drop (HT.Bd xs.length 0 lo)).take (HT.Bd xs.length xs.length hi-HT.Bd xs.length 0 lo)
theorem Ae.cut{H:Hp}{ds:List PyData}{xs:List V}(h:Ae H ds xs)(lo hi:Option Int):Ae H (cutD ds lo hi) (L3 xs lo hi):=by
 unfold cutD L3;rw [h.len];exact(h.drop _).take _
def Zm(x:PyData)(lo hi:Option Int):Option PyData:=match x with
 |.list xs=>some (.list (cutD xs lo hi))
 |.tuple xs=>if ¬(HT.Bd xs.length 0 lo=0∧HT.Bd xs.length xs.length hi=xs.length) then some (.tuple (cutD xs lo hi)) else none
 |_=>none
theorem LN(he:DE X e f)(hl:DO X lo fo)(hh:DO X hi fu):DE X (.Subscript e (.Slice lo hi none p2) pos) (fun δ=>(f δ).bind fun x=>(fo δ).bind fun l=>(fu δ).bind fun u=>Zm x l u):=by
 obtain⟨te,pe,ke⟩:=he;obtain⟨tl,pl,kl⟩:=hl;obtain⟨th,ph,kh⟩:=hh;refine⟨_,Z9 (dB.or jB) pe pl ph,fun δ z hz G0 H0 G H σ ts Q R0 k=>?_⟩;obtain⟨x,h1,h2⟩:=aB.mp hz;obtain⟨l,h3,h4⟩:=aB.mp h2;obtain⟨u,h5,h6⟩:=aB.mp h4;refine ke δ x h1 G0 H0 G H σ ts _ R0 fun v G1 H1 R1=>?_;refine kl δ l h3 G0 H0 G1 H1 σ _ _ R1 fun G2 H2 R2=>?_;refine kh δ u h5 G0 H0 G2 H2 σ _ _ R2 fun G3 H3 R3=>?_;have du:=R3.BX _ (.head _);unfold Zm at h6;split at h6
 ·cases h6;rw [Du]at du;obtain⟨a,ys,rfl,n1,n2⟩:=du;exact .inl ⟨a,ys,rfl,A4.of (R3.ins _ _ n1),fun q hq=>k _ _ _ (R3.drop.MC (n2.cut l u) hq)⟩
 ·split at h6
  ·rename_i hc;cases h6;rw [Du]at du;obtain⟨a,ys,rfl,n1,n2⟩:=du;exact .inr ⟨a,ys,rfl,A8.of (R3.ins _ _ n1),by rw [n2.len];exact hc,fun q hq=>k _ _ _ (R3.drop.W6 (n2.cut l u) hq)⟩
  ·cases h6
 ·cases h6
def Si:List PyData→Option (List Int)
 |[]=>some []
 |.int i::r=>(Si r).map fun l=>i::l
 |_::_=>none
theorem Ae.ints{H:Hp}:∀ {ds:List PyData} {xs:List V} {ns:List Int},Ae H ds xs→Si ds=some ns→xs=ns.map V.int
 |[],xs,ns,h,e=>by cases e;rw [h.nil_eq];rfl
 |.int i::r,xs,ns,h,e=>by
  unfold Si at e;obtain⟨l,h1,rfl⟩:=aC.mp e;obtain⟨x,q,rfl,k1,k2⟩:=h.un;rw [Du]at k1;subst k1;rw [List.map_cons,k2.ints h1]
 |.none::_,_,_,_,e=>by cases e
 |.bool _::_,_,_,_,e=>by cases e
 |.str _::_,_,_,_,e=>by cases e
 |.tuple _::_,_,_,_,e=>by cases e
 |.list _::_,_,_,_,e=>by cases e
 |.dict _::_,_,_,_,e=>by cases e
def Wu:MD
 |[.list xs]=>(Si xs).map fun ns=>.int ns.sum
 |[.tuple xs]=>(Si xs).map fun ns=>.int ns.sum
 |_=>none
theorem Yn(hc:X.calm=true):Jp X (.builtin "sum") Wu:=by
 refine⟨_,(SN hc).or (X0 hc),fun xs z hz G0 H0 G H σ δ ts us Q R0 d k=>?_⟩;unfold Wu at hz;split at hz
 ·obtain⟨ns,h1,rfl⟩:=aC.mp hz;obtain⟨u,rfl,du⟩:=d.GX;rw [Du]at du;obtain⟨q,ys,rfl,h4,h5⟩:=du;refine .inl ⟨q,ns,rfl,by rw [←h5.ints h1];exact A4.of (R0.ins _ _ h4),k _ _ _ (R0.put (by rw [Du]))⟩
 ·obtain⟨ns,h1,rfl⟩:=aC.mp hz;obtain⟨u,rfl,du⟩:=d.GX;rw [Du]at du;obtain⟨q,ys,rfl,h4,h5⟩:=du;refine .inr ⟨q,ns,rfl,by rw [←h5.ints h1];exact A8.of (R0.ins _ _ h4),k _ _ _ (R0.put (by rw [Du]))⟩
 ·cases hz
end
open PySem
abbrev fC(x:PyData):Dv→Option PyData:=fun _=>some x
abbrev JF(f:Dv→Option PyData):Dv→Option PyData:=fun δ=>(f δ).bind fun x=>(Pf x).map fun i=>.int (-i)
abbrev AG:Dv→Option (List PyData):=fun _=>some []
abbrev AA(f:Dv→Option PyData)(fs:Dv→Option (List PyData)):Dv→Option (List PyData):=fun δ=>(f δ).bind fun x=>(fs δ).map fun xs=>x::xs
abbrev Bz(fs:Dv→Option (List PyData)):Dv→Option PyData:=fun δ=>((fs δ).bind GR).map .tuple
abbrev D5(fs:Dv→Option (List PyData)):Dv→Option PyData:=fun δ=>((fs δ).bind GR).map .list
abbrev AJ(m:MD)(fs:Dv→Option (List PyData)):Dv→Option PyData:=fun δ=>(fs δ).bind m
abbrev V3(q:PyData→Bool)(f:Dv→Option PyData):Dv→Option PyData:=fun δ=>(f δ).bind (Wr q)
abbrev YU(i:Nat)(g:Dv→Option PyData):Dv→Option PyData:=fun δ=>(g δ).bind fun y=>(ow i δ).bind fun xs=>(Pf y).bind fun k=>Fu xs k
abbrev Rn:Dv→Option (Option Int):=fun _=>some none
abbrev Rx(f:Dv→Option PyData):Dv→Option (Option Int):=fun δ=>(f δ).bind fun x=>(Pf x).map some
abbrev W4(f:Dv→Option PyData)(fo fu:Dv→Option (Option Int)):Dv→Option PyData:=fun δ=>(f δ).bind fun x=>(fo δ).bind fun l=>(fu δ).bind fun u=>Zm x l u
abbrev LJ(f:Dv→Option PyData):Dv→Option Bool:=fun δ=>(f δ).bind Po
abbrev EH(o:PyData→PyData→Option PyData)(f g:Dv→Option PyData):Dv→Option Bool:=fun δ=>(AI o f g δ).bind Po
abbrev OJ(f:Dv→Option Bool):Dv→Option Bool:=fun δ=>(f δ).map fun c=>!c
abbrev Nh(f g:Dv→Option Bool):Dv→Option Bool:=fun δ=>(f δ).bind fun c=>if c=true then some true else g δ
abbrev CB(f:Dv→Option PyData):Dv→Option (List PyData):=fun δ=>(f δ).bind Fq
abbrev Fs(m:List PyData→Option (List PyData))(fs:Dv→Option (List PyData)):Dv→Option (List PyData):=fun δ=>(fs δ).bind m
abbrev Dx:Dv→Option Bool:=fun _=>some true
abbrev FQ(i:Nat):PyData→Dv→Option Dv:=fun y δ=>some (δ.set i (.d y))
abbrev Ih:DF:=fun δ=>some (.nx δ)
abbrev DK(f:Dv→Option PyData):DF:=fun δ=>(f δ).map .rt
abbrev km(f:Dv→Option PyData):DF:=fun δ=>(f δ).map fun _=>.nx δ
abbrev Lg(c:Dv→Option Bool)(F G:DF):DF:=fun δ=>(c δ).bind fun c=>if c=true then F δ else G δ
abbrev BM(i:Nat)(f:Dv→Option PyData):DF:=fun δ=>(f δ).map fun y=>.nx (δ.set i (.d y))
abbrev LH(i:Nat)(fs:Dv→Option (List PyData)):DF:=fun δ=>((fs δ).bind GR).map fun ys=>.nx (δ.set i (.own (.lst ys)))
abbrev OD(i:Nat)(f:Dv→Option PyData):DF:=fun δ=>(f δ).bind fun y=>(ow i δ).bind fun xs=>if xs.length<CG then some (.nx (δ.set i (.own (.lst (xs++[y]))))) else none
abbrev jI(i:Nat)(f:Dv→Option PyData):DF:=fun δ=>(f δ).bind fun y=>(ow i δ).bind fun xs=>match y with | .list zs=>(if xs.length+zs.length≤CG then some (.nx (δ.set i (.own (.lst (xs++zs))))) else none) | _=>none
abbrev DQ(fs:Dv→Option (List PyData))(set:PyData→Dv→Option Dv)(F:DF):DF:=fun δ=>(fs δ).bind fun xs=>KG set F xs δ
abbrev SK(i:Nat)(F:DF):DF:=fun δ=>F (Ed i δ)
theorem FW{P:Program}{w:World}{K:Fg}{mg:Str→Option Value}{base:Heap}{CX:GQ}{k:Nat}{f:Addr}{fd:FuncData}{ps:List Str}{sp:Sp}(h:∀vs H Q E,¬sp vs H Q E):AL P w K mg base CX k f fd ps sp :=
 ⟨fun _ _ _ _ z=>(h _ _ _ _ z).elim,fun _ _ _ _ _ _ _ _ _ _ _ _ _ z=>(h _ _ _ _ z).elim⟩
theorem Io{P:Program}{w:World}{K:Fg}{mg:Str→Option Value}{base:Heap}{CX:GQ}{k:Nat}{f:Addr}{fd:FuncData}{ps:List Str}{sp:Sp}{m:MD}(F:AL P w K mg base CX k f fd ps sp)
 (h:∀ds x,m ds=some x→∀(G H:Hp) (vs:List V) (Q:VK) (E:XK),Ae G ds vs→AO G H→(∀v G' H',AO G G'→Nw G H G'→AO G' H'→AO H H'→Du G' x v→Q v H')→sp vs H Q E):AL P w K mg base CX k f fd ps (BH m) :=
 F.imp fun vs H Q E z=>by
  obtain⟨ds,x,G,h1,h2,h3,h4⟩:=z;exact h ds x h1 G H vs Q E h2 h3 h4
def C0(G H:Hp):Hp:=fun a=>match H a with
 |some (.tup xs)=>some (.tup xs)
 |_=>G a
theorem bc{G H:Hp}{a:Addr}{xs:List V}(h:H a=some (.tup xs)):C0 G H a=some (.tup xs):=by unfold C0;rw [h]
section
variable{G0 H0 G H:Hp}{σ:St}{δ:Dv}{ts:List (PyData×V)}
theorem Rw.C0(r:Rw G0 H0 G H σ δ ts):Rw G0 H0 (L2.C0 G H) H σ δ ts:=by
 have e:AO G (L2.C0 G H):=fun a o h=>by
  unfold L2.C0;split
  ·rename_i xs hx;rw [r.ins _ _ h]at hx;exact hx.symm ▸ rfl
  ·exact h
 refine⟨r.ext.trans e,fun a o h=>?_,fun a o h=>?_,r.keep,r.len,fun i x h=>?_,fun i xs h=>?_,r.apart,fun q hq=>(r.BX q hq).same e⟩
 ·unfold L2.C0 at h;split at h
  ·cases h;exact .inr (.inr ⟨_,rfl⟩)
  ·exact r.new _ _ h
 ·unfold L2.C0 at h;split at h
  ·rename_i xs hx;rw [hx];exact h
  ·exact r.ins _ _ h
 ·obtain⟨v,k1,k2⟩:=r.dat i x h;exact⟨v,k1,k2.same e⟩
 ·obtain⟨a,ys,k1,k2,k3,k4,k5⟩:=r.own i xs h;refine⟨a,ys,k1,?_,k3,k4,k5.same e⟩;unfold L2.C0;rw [k4];split
  ·rename_i q;cases q;exact k5.SU.elim
  ·exact k2
end
theorem Fd{G:Hp}:∀ {t:Tr} {xs:List V},Ae G (Bq t) xs→Ts G t xs
 |.nil,xs,h=>by rw [Bq]at h;rw [Ts];exact h.nil_eq
 |.cons b r,xs,h=>by
  rw [Bq]at h;obtain⟨x,q,rfl,h1,h2⟩:=h.un;rw [Du]at h1;obtain⟨a,ys,rfl,h3,h4⟩:=h1;rw [Ts];exact⟨a,ys,q,rfl,h3,Fd h4,Fd h2⟩
theorem Ox{G H:Hp}:∀ {t:Tr} {xs:List V},Ts H t xs→Ae (C0 G H) (Bq t) xs
 |.nil,xs,h=>by rw [Ts]at h;rw [Bq,h];exact .nil
 |.cons b r,xs,h=>by
  rw [Ts]at h;obtain⟨a,ys,zs,rfl,h1,h2,h3⟩:=h;rw [Bq];refine .cons ?_ (Ox h3);rw [Du];exact⟨a,ys,rfl,bc h1,Ox h2⟩
mutual
theorem Hs:∀ {ds:List PyData} {t:Tr},Ep ds=some t→ds=Bq t
 |[],t,h=>by rw [Ep]at h;cases h;rw [Bq]
 |d::ds,t,h=>by
  rw [Ep]at h;obtain⟨b,h1,h2⟩:=aB.mp h;obtain⟨r,h3,rfl⟩:=aC.mp h2;rw [Bq,←Iq h1,←Hs h3]
theorem Iq:∀ {d:PyData} {t:Tr},EM d=some t→d=.tuple (Bq t)
 |.tuple ds,t,h=>by rw [EM]at h;rw [Hs h]
 |.none,_,h=>by simp [EM]at h
 |.bool _,_,h=>by simp [EM]at h
 |.int _,_,h=>by simp [EM]at h
 |.str _,_,h=>by simp [EM]at h
 |.list _,_,h=>by simp [EM]at h
 |.dict _,_,h=>by simp [EM]at h
end
def gk(rev:Bool)(t:Tr):Option PyData:=if t.bs.length<64∧t.deep≤60 then some (.list (Bq (Tr.of (if rev then Tr.Bb t.bs else(Tr.Bb t.bs).reverse)))) else none
def Hj(rev:Bool):MD
 |[x]=>(Fq x).bind fun ds=>(Ep ds).bind (gk rev)
 |_=>none
section
variable{X:Cx}{a b c e:Expr}{es:List Expr}{f g h:Dv→Option PyData}{fs:Dv→Option (List PyData)}{fa:Dv→Option Bool}{pos p:Pos}
theorem VE{rev:Bool}{G0 H0 G H:Hp}{σ:St}{δ:Dv}{ts:List (PyData×V)}{x z:PyData}{u:V}{Q:VK}(R0:Rw G0 H0 G H σ δ ts)(du:Du G x u)(hz:Hj rev [x]=some z)(k:∀w G' H',Rw G0 H0 G' H' σ δ ((z,w)::ts)→Q w H') :
  ∃(p:Addr) (ys:List V) (t:Tr),[u]=[.ref p]∧(A4 X.K H p ys∨A8 X.K H p ys)∧Ts H t ys∧ys.length<64∧t.deep≤60∧∀(l:Addr) (zs:List V),H l=none→Ts H (Tr.of (if rev then Tr.Bb t.bs else(Tr.Bb t.bs).reverse)) zs→Q (.ref l) (upd H l (.lst zs)):=by
 unfold Hj at hz;obtain⟨ds,h1,h2⟩:=aB.mp hz;obtain⟨t,h3,h4⟩:=aB.mp h2;unfold gk at h4;split at h4
 ·rename_i hc;cases h4;have hds:=Hs h3;obtain⟨bb,a,ys,rfl,n1,n2⟩:=Kp du h1;rw [hds]at n2;have ht:=(Fd n2).same R0.ins;have hl:ys.length=t.bs.length:=by rw [ht.len]
  refine⟨a,ys,t,rfl,?_,ht,by omega,hc.2,fun l zs hl' hz'=>?_⟩
  ·have:=R0.ins _ _ n1;cases bb
   ·exact .inl (A4.of (by simpa using this))
   ·exact .inr (A8.of (by simpa using this))
  ·have R1:=R0.C0;exact k _ _ _ (R1.MC (Ox hz') hl')
 ·cases h4
theorem U3(hu:X.A.units+64<cLine):Jp X (.builtin "sorted") (Hj false):=by
 refine⟨_,X1 hu,fun xs z hz G0 H0 G H σ δ ts us Q R0 d k=>?_⟩;cases xs with
 |nil=>cases hz
 |cons x r =>
  cases r with
  |cons y q=>cases hz
  |nil =>
   obtain⟨u,rfl,du⟩:=d.GX;exact VE R0 du hz k
theorem Te{e:Expr}{p pos kp kp2:Pos}{j}(hu:X.A.units+64<cLine)(hg:Gl X "sorted")(hm:X.mg "sorted" = none)(ha:DA X [e] fs)
 (hP:∀ {t:TA},PA X [e] t→PE X (.Call (.Name "sorted" p) [e] [⟨some "reverse",.Constant (.bool true) j kp2,kp⟩] pos) (fun σ H Q=>t σ H fun vs H1=>XT X.K vs H1 Q)) :
  DE X (.Call (.Name "sorted" p) [e] [⟨some "reverse",.Constant (.bool true) j kp2,kp⟩] pos) (AJ (Hj true) fs):=by
 obtain⟨t,p,k⟩:=ha;refine⟨_,hP p,fun δ z hz G0 H0 G H σ ts Q R0 q=>?_⟩;obtain⟨xs,h1,h2⟩:=aB.mp hz;refine k δ _ h1 G0 H0 G H σ ts _ R0 fun vs G1 H1 R1 hv=>?_;obtain⟨d,R2⟩:=R1.args hv;cases xs with
 |nil=>cases h2
 |cons x r =>
  cases r with
  |cons y q=>cases h2
  |nil =>
   obtain⟨u,rfl,du⟩:=d.GX;exact VE (rev:=true) R2 du h2 q
def ij(x k:PyData):Option PyData:=match x,k with
 |.list xs,.int i=>if i=-1 then some (.list xs.reverse) else none
 |_,_=>none
abbrev Za(f g:Dv→Option PyData):Dv→Option PyData:=AI ij f g
theorem Yt{p2:Pos}{k:Expr}(he:DE X e f)(hk:DE X k g):DE X (.Subscript e (.Slice none none (some k) p2) pos) (Za f g):=by
 obtain⟨te,pe,ke⟩:=he;obtain⟨tk,pk,kk⟩:=hk;refine⟨_,jL pe pk,fun δ z hz G0 H0 G H σ ts Q R0 k=>?_⟩;obtain⟨x,y,h1,h2,h3⟩:=two (x:=.none) (y:=.none) hz;refine ke δ x h1 G0 H0 G H σ ts _ R0 fun u G1 H1 R1=>?_;refine kk δ y h2 G0 H0 G1 H1 σ _ _ R1 fun v G2 H2 R2=>?_;have du:=R2.BX (x,u) (.tail _ (.head _));have dv:=R2.BX (y,v) (.head _);unfold ij at h3;split at h3
 ·split at h3
  ·rename_i hi;cases h3;subst hi;rw [Du]at du;rw [Du]at dv;obtain⟨a,ys,rfl,n1,n2⟩:=du;exact⟨a,ys,rfl,dv,A4.of (R2.ins _ _ n1),fun q hq=>k _ _ _ (R2.drop.drop.MC n2.rev hq)⟩
  ·cases h3
 ·cases h3
abbrev QL(i:Nat)(f g:Dv→Option PyData):DF:=fun δ=>(f δ).bind fun y=>(g δ).bind fun k=>(ow i δ).bind fun xs=>(Pf k).bind fun n=>(MK xs.length n).map fun j=>.nx (δ.set i (.own (.lst (xs.set j y))))
theorem Ae.set{H:Hp}{d:PyData}{v:V}(hd:Du H d v):∀ {ds:List PyData} {xs:List V} (j:Nat),Ae H ds xs→Ae H (ds.set j d) (xs.set j v)
 |[],_,_,h=>by rw [h.nil_eq];exact .nil
 |_::_,_,0,h=>by obtain⟨x,r,rfl,_,h2⟩:=h.un;exact .cons hd h2
 |_::_,_,j+1,h=>by obtain⟨x,r,rfl,h1,h2⟩:=h.un;exact .cons h1 (Ae.set hd j h2)
theorem Ye{i:Nat}{x:Str}{np sp:Pos}(hv:PE X (.Name x np) (J6 i))(hk:DE X a g)(he:DE X e f)
 (hP:∀ {te to ti:TE},PE X e te→PE X (.Name x np) to→PE X a ti→PS X (.Assign [.Subscript (.Name x np) a sp] e pos) (Qc te (a9 to ti b0))):DS X (.Assign [.Subscript (.Name x np) a sp] e pos) (QL i f g):=by
 obtain⟨te,pe,ke⟩:=he;obtain⟨tk,pk,kk⟩:=hk;refine⟨_,hP pe hv pk,fun δ r h G0 H0 G H σ D R q=>?_⟩;obtain⟨y,h1,h2⟩:=aB.mp h;obtain⟨n,h3,h4⟩:=aB.mp h2;obtain⟨xs,h5,h6⟩:=aB.mp h4;obtain⟨m,h7,h8⟩:=aB.mp h6;obtain⟨j,h9,rfl⟩:=aC.mp h8;have:=O0 h7;subst this;have hi:=Mv h5;refine ke δ y h1 G0 H0 G H σ [] _ R fun u G1 H1 R1=>?_;obtain⟨ad,_,k1,k2,k3,k4,⟨ys,rfl,k5⟩⟩:=R1.own i _ hi;refine⟨.ref ad,k1,?_⟩;refine kk δ _ h3 G0 H0 G1 H1 σ _ _ R1 fun v G2 H2 R2=>?_;have dv:=R2.BX (.int m,v) (.head _);rw [Du]at dv;obtain⟨ad',_,m1,m2,m3,m4,⟨zs,rfl,m5⟩⟩:=R2.own i _ hi;rw [k1]at m1;cases m1;refine⟨ad,zs,m,j,rfl,dv,m4,by rw [m5.len];exact h9,?_⟩;exact q _ _ _ (R2.drop.drop.Rp hi k1 ⟨_,rfl,m5.set (R2.BX (y,u) (.tail _ (.head _))) j⟩)
end
def Zy:L→L
 |.own (.lst xs)=>.d (.list xs)
 |.own (.FH kvs)=>.d (Bo kvs)
 |.own _=>.no
 |l=>l
def JC(δ:Dv):Dv:=δ.map Zy
section
variable{G0 H0 G H:Hp}{σ:St}{δ:Dv}{ts:List (PyData×V)}
theorem Rw.JC(r:Rw G0 H0 G H σ δ ts):Rw H H H H σ (L2.JC δ) ts:=by
 refine⟨AO.refl _,fun _ _ h=>.inl h,AO.refl _,AO.refl _,by rw [L2.JC,List.length_map];exact r.len,fun i x h=>?_,fun i xs h=>?_,fun i j xs ys _ h=>?_,fun q hq=>(r.BX q hq).same r.ins⟩
 ·unfold L2.JC at h;rw [List.getElem?_map]at h;obtain⟨l,h1,h2⟩:=aC.mp h;unfold Zy at h2;split at h2
  ·rename_i xs;cases h2;obtain⟨a,_,k1,k2,k3,k4,⟨ys,rfl,k5⟩⟩:=r.own i _ h1;refine⟨.ref a,k1,?_⟩;rw [Du];exact⟨a,ys,rfl,k4,k5.same r.ins⟩
  ·rename_i kvs;cases h2;obtain⟨a,_,k1,k2,k3,k4,⟨rr,rfl,k5,k6⟩⟩:=r.own i _ h1;refine⟨.ref a,k1,?_⟩;rw [Du,Jt];exact .inr (.inr ⟨rfl,rfl,a,rr,rfl,k4,k5,E8.same r.ins k6⟩)
  ·cases h2
  ·subst h2;obtain⟨v,k1,k2⟩:=r.dat i x h1;exact⟨v,k1,k2.same r.ins⟩
 all_goals
  unfold L2.JC at h;rw [List.getElem?_map]at h;obtain⟨l,h1,h2⟩:=aC.mp h;unfold Zy at h2;split at h2
  ·cases h2
  ·cases h2
  ·cases h2
  ·rename_i n1 n3 n2;subst h2;cases xs with
   |lst zs=>exact(n1 zs rfl).elim
   |FH zs=>exact(n3 zs rfl).elim
   |Vv zs=>exact(n2 (.Vv zs) rfl).elim
theorem Rw.on{H':Hp}(r:Rw G0 H0 G H σ δ ts)(e:AO H H'):Rw G0 H0 G H' σ δ ts:=r.lift (AO.refl _) Nw.refl (r.ins.trans e) e
end
section
variable{X:Cx}{a b c e:Expr}{es:List Expr}{f g h:Dv→Option PyData}{fs:Dv→Option (List PyData)}{fa:Dv→Option Bool}{pos p:Pos}
abbrev Pa(f:Dv→Option Bool):Dv→Option Bool:=fun δ=>f (JC δ)
theorem Vw(h:DT X e fa):DT X e (Pa fa):=by
 obtain⟨t,p,k⟩:=h;refine⟨t,p,fun δ z hz G0 H0 G H σ ts Q R q=>?_⟩;exact k _ z hz H H H H σ ts Q R.JC fun G' H' R'=>q _ _ (R.on R'.keep)
end
section
variable{F F1 F2:DF}{δ δ':Dv}{r:Option Ou}{c:Dv→Option Bool}{f g:Dv→Option PyData}{fs:Dv→Option (List PyData)}
theorem BC(h:F1 δ=some (.nx δ'))(k:F2 δ'=r):Ag F1 F2 δ=r:=by unfold Ag;rw [h];exact k
theorem eO{x:PyData}(h:F1 δ=some (.rt x)):Ag F1 F2 δ=some (.rt x):=by unfold Ag;rw [h]
theorem V1(h:c δ=some true)(k:F1 δ=r):Lg c F1 F2 δ=r:=by show(c δ).bind _=r;rw [h];exact k
theorem K8(h:c δ=some false)(k:F2 δ=r):Lg c F1 F2 δ=r:=by show(c δ).bind _=r;rw [h];exact k
theorem B2{i:Nat}{y:PyData}(h:f δ=some y):BM i f δ=some (.nx (δ.set i (.d y))):=by show(f δ).map _=_;rw [h];rfl
theorem Fi{y:PyData}(h:f δ=some y):DK f δ=some (.rt y):=by show(f δ).map _=_;rw [h];rfl
theorem AY{o:PyData→PyData→Option PyData}{x y:PyData}{z:Option PyData}(h1:f δ=some x)(h2:g δ=some y)(h3:o x y=z):AI o f g δ=z:=by unfold AI;rw [h1,h2];exact h3
theorem Ak{m:MD}{xs:List PyData}{z:Option PyData}(h1:fs δ=some xs)(h2:m xs=z):AJ m fs δ=z:=by show(fs δ).bind m=z;rw [h1];exact h2
theorem A0{x:PyData}{xs:List PyData}(h1:f δ=some x)(h2:fs δ=some xs):AA f fs δ=some (x::xs):=by show(f δ).bind _=_;rw [h1];show(fs δ).map _=_;rw [h2];rfl
theorem eC{xs:List PyData}(h:fs δ=some xs)(hl:xs.length≤CG):Bz fs δ=some (.tuple xs):=by show((fs δ).bind GR).map _=_;rw [h];show(GR xs).map _=_;unfold GR;rw [if_pos hl];rfl
theorem E3{o:PyData→PyData→Option PyData}{x y:PyData}{b:Bool}(h1:f δ=some x)(h2:g δ=some y)(h3:o x y=some (.bool b)):EH o f g δ=some b:=by show(AI o f g δ).bind Po=_;rw [AY h1 h2 h3];rfl
theorem M4{a b:Dv→Option Bool}{q:Option Bool}(h:a δ=some false)(k:b δ=q):Nh a b δ=q:=by show(a δ).bind _=q;rw [h];exact k
theorem P4{a:Dv→Option Bool}{b:Bool}(h:a δ=some b):OJ a δ=some (!b):=by show(a δ).map _=_;rw [h];rfl
theorem My{b:Bool}(h:f δ=some (.bool b)):LJ f δ=some b:=by show(f δ).bind Po=_;rw [h];rfl
theorem Sj{set:PyData→Dv→Option Dv}(Iv:Nat→Dv→Prop):∀(xs:List PyData) (δ:Dv) (n:Nat),Iv n δ→(∀(i:Nat) (x:PyData) (δ:Dv),xs[i]? = some x→Iv (n+i) δ→∃δ1 δ2,set x δ=some δ1∧F δ1=some (.nx δ2)∧Iv (n+i+1) δ2) →
  ∃δ',KG set F xs δ=some (.nx δ')∧Iv (n+xs.length) δ'
 |[],δ,n,h,_=>⟨δ,rfl,h⟩
 |x::xs,δ,n,h,k=>by
  obtain⟨δ1,δ2,h1,h2,h3⟩:=k 0 x δ rfl h;obtain⟨δ',h4,h5⟩:=Sj Iv xs δ2 (n+1) h3 fun i y δ hy hv=>by
   have:=k (i+1) y δ (by simpa using hy) (by rw [show n+(i+1)=n+1+i by omega];exact hv);rw [show n+(i+1)+1=n+1+i+1 by omega]at this;exact this
  refine⟨δ',?_,by rw [List.length_cons,show n+(xs.length+1)=n+1+xs.length by omega];exact h5⟩;unfold KG;rw [h1,Option.bind_some,h2];exact h4
theorem Ze{set:PyData→Dv→Option Dv}{xs:List PyData}(Iv:Nat→Dv→Prop)(hx:fs δ=some xs)(h0:Iv 0 δ)(hs:∀(i:Nat) (x:PyData) (δ:Dv),xs[i]? = some x→Iv i δ→∃δ1 δ2,set x δ=some δ1∧F δ1=some (.nx δ2)∧Iv (i+1) δ2) :
  ∃δ',DQ fs set F δ=some (.nx δ')∧Iv xs.length δ':=by
 obtain⟨δ',h1,h2⟩:=Sj (F:=F) (set:=set) Iv xs δ 0 h0 fun i x δ hx hv=>by
  have:=hs i x δ hx (by simpa using hv)
  simpa using this
 refine⟨δ',?_,by simpa using h2⟩;show(fs δ).bind _=_;rw [hx];exact h1
end
theorem Fo{ps N:List Str}{F:DF}{ds:List PyData}{x:PyData}(hl:ds.length=ps.length)(h:F (GH N ds)=some (.rt x)):Cc ps N F ds=some x:=by unfold Cc;rw [if_pos hl,h]
theorem QF{lo:Int}{n i:Nat}{x:PyData}(h:(E6 lo n)[i]? = some x):x=.int (lo+(i:Nat))∧i<n:=by
 unfold E6 at h;rw [List.getElem?_map]at h;obtain⟨j,hj,rfl⟩:=aC.mp h;have hl:=(aE.mp hj).1;rw [List.getElem?_range (by simpa using hl)]at hj;cases hj;exact⟨rfl,by simpa using hl⟩
theorem S7{δ:Dv}{f:Dv→Option PyData}{j:Int}(h:f δ=some (.int j))(h0:-1000000≤j)(h1:j≤1000000):Fs KA (AA f AG) δ=some (E6 0 j.toNat):=by
 show(AA f AG δ).bind KA=_;rw [A0 h (show AG δ=some [] from rfl)];exact if_pos ⟨h0,h1⟩
theorem Jb{n:Nat}{i:Int}(h:i.natAbs<2 ^ n):II n i=true:=bT h
theorem Ph{i j:Int}(h:J3 i j=true):DR (.int i) (.int j)=some (.int (i*j)):=by
 show Q9 T5 Sm (.int i) (.int j)=_;unfold Q9;rw [show T5 (.int i) (.int j)=some (.int (i*j)) from if_pos h]
theorem mul_r{i j:Int}(h:j.natAbs<2 ^ 64):DR (.int i) (.int j)=some (.int (i*j)):=Ph (by unfold J3;rw [Jb h];simp)
theorem jw{i j:Int}(h:i.natAbs<2 ^ 64):DR (.int i) (.int j)=some (.int (i*j)):=Ph (by unfold J3;rw [Jb h];simp)
theorem mod_is{i j:Int}(h:0<j):CA (.int i) (.int j)=some (.int (i % j)):=by
 show(if j≠0 then some (PyData.int (i.fmod j)) else none)=_;rw [if_pos (by omega),Int.fmod_eq_emod_of_nonneg _ (by omega)]
theorem Xz{i:Int}{n:Nat}(hn:n≤1000)(hi:II 64 i=true):L5 (.int i) (.int (n:Int))=some (.int (i ^ n)):=by
 show(if 0≤(n:Int)∧(n:Int)≤1000∧II 64 i=true then some (PyData.int (i ^ (n:Int).toNat)) else none)=_;rw [if_pos ⟨by omega,by omega,hi⟩,Int.toNat_natCast]
def Bc(ns:List Int):PyData:=.dict [(.none,.list (ns.map .int))]
theorem g6{H:Hp}{a:Addr}{ns:List Int}(h:Rd H a (.lst (ns.map V.int))):Du H (Bc ns) (.ref a):=by unfold Bc;rw [Du];exact .inr (.inl ⟨a,ns,rfl,rfl,h⟩)
def R5(K:Fg):Bool:=K.all fun p=>match p.2.cls with | .type n=>n != "list" |_=>true
theorem NJ{a:Addr}{o:Obj}:∀ {K:Fg},K.lookup a=some o→(a,o)∈K
 |[],h=>by cases h
 |(b,u)::K,h=>by
  rw [List.lookup_cons]at h;split at h
  ·rename_i e;cases h;rw [show a=b from by simpa using e];exact .head _
  ·exact .tail _ (NJ h)
theorem iD{K:Fg}{H:Hp}{a:Addr}{xs:List V}(hK:R5 K=true)(h:A4 K H a xs):Rd H a (.lst xs):=by
 rcases h with h | ⟨o,its,n,h1,h2,_⟩
 ·exact h
 ·unfold R5 at hK;rw [List.all_eq_true]at hK;have:=hK _ (NJ h1);rw [h2]at this;exact absurd this (by decide)
abbrev Xr:=PyData ⊕ Addr
def GC(g:List PyData→Option Xr):Sp:=fun vs H Q E=>∃ds r G,g ds=some r∧Ae G ds vs∧AO G H∧match r with
 |.inl x=>∀v G' H',AO G G'→Nw G H G'→AO G' H'→AO H H'→Du G' x v→Q v H'
 |.inr C=>∀H',AO H H'→E (.ref C) none H'
abbrev cq:=Ou ⊕ Addr
abbrev FZ:=Dv→Option cq
def fR(G0 H0:Hp)(D:Ends)(E:XK):cq→Prop
 |.inl o=>Fin G0 H0 D o
 |.inr C=>∀H',AO H0 H'→E (.ref C) none H'
def DX(X:Cx)(E:XK)(st:Stmt)(F:FZ):Prop:=∃t,PS X st t∧∀δ r,F δ=some r→∀G0 H0 G H σ D,Rw G0 H0 G H σ δ []→fR G0 H0 D E r→t D σ H
def RN(X:Cx)(E:XK)(sts:List Stmt)(F:FZ):Prop:=∃t,HB X sts t∧∀δ r,F δ=some r→∀G0 H0 G H σ D,Rw G0 H0 G H σ δ []→fR G0 H0 D E r→t D σ H
section
variable{X:Cx}{E:XK}{a b c e:Expr}{es:List Expr}{f g h:Dv→Option PyData}{fs:Dv→Option (List PyData)}{fa:Dv→Option Bool}{pos p:Pos}{st:Stmt}{sts sts':List Stmt}{F F1 F2:DF}{J J1 J2:FZ}
theorem Y2{t:TS}(h:HB X.Jh sts t):HB X sts t:=fun pins s σ H D I k=>ai (h pins s σ H D (I.GV _) k) (fun _ _ z=>z.Es) fun _ _ z=>z.elim
theorem gF{t:TE}(h:PE X.Jh e t):PE X e t:=fun pins s σ H Q I k=>ai (h pins s σ H Q (I.GV _) k) (fun _ _ ⟨v,H',I',r,q⟩=>⟨v,H',I'.Es,r,q⟩) fun _ _ z=>z.elim
theorem fc{t:TT}(h:PT X.Jh e t):PT X e t:=fun pins s σ H Q I k=>ai (h pins s σ H Q (I.GV _) k) (fun _ _ ⟨H',I',q⟩=>⟨H',I'.Es,q⟩) fun _ _ z=>z.elim
theorem X7{t:TA}(h:PA X.Jh es t):PA X es t:=fun p pins s σ H Q I k=>ai (h p pins s σ H Q (I.GV _) k) (fun _ _ ⟨v,H',I',r,q⟩=>⟨v,H',I'.Es,r,q⟩) fun _ _ z=>z.elim
abbrev S0(F:DF):FZ:=fun δ=>(F δ).map .inl
theorem MB(h:PV X.Jh sts F):RN X E sts (S0 F):=by
 obtain⟨t,p,k⟩:=h;refine⟨t,Y2 p,fun δ r h G0 H0 G H σ D R q=>?_⟩;obtain⟨o,h1,rfl⟩:=aC.mp h;exact k δ o h1 G0 H0 G H σ D R q
def LG(J1 J2:FZ)(δ:Dv):Option cq:=match J1 δ with
 |some (.inl (.nx δ'))=>J2 δ'
 |o=>o
theorem Qj:RN X E [] (fun δ=>some (.inl (.nx δ))):=⟨_,Cp,fun δ r h G0 H0 G H σ D R k=>by cases h;exact k _ _ _ R⟩
theorem Kr(h:DX X E st J):RN X E [st] J:=by
 obtain⟨t,p,k⟩:=h;exact⟨t,Az p,k⟩
theorem Iz(h1:DX X E st J1)(h2:RN X E sts J2):RN X E (st::sts) (LG J1 J2):=by
 obtain⟨t1,p1,k1⟩:=h1;obtain⟨t2,p2,k2⟩:=h2;refine⟨_,Aw p1 p2,fun δ r h G0 H0 G H σ D R q=>?_⟩;unfold LG at h;split at h
 ·rename_i δ' e1;exact k1 δ _ e1 G0 H0 G H σ _ R fun σ' G' H' R'=>k2 δ' r h G0 H0 G' H' σ' D R' q
 ·rename_i o hn;cases r with
  |inr C=>exact k1 δ _ h G0 H0 G H σ _ R q
  |inl o' =>
   cases o' with
   |nx δ'=>exact absurd h (hn δ')
   |rt x=>exact k1 δ _ h G0 H0 G H σ _ R q
   |bk x=>exact k1 δ _ h G0 H0 G H σ _ R q
   |ct x=>exact k1 δ _ h G0 H0 G H σ _ R q
   |rn x=>exact k1 δ _ h G0 H0 G H σ _ R q
abbrev Xm(c:Dv→Option Bool)(J1 J2:FZ):FZ:=fun δ=>(c δ).bind fun b=>if b=true then J1 δ else J2 δ
theorem Wz(hc:DT X.Jh c fa)(h1:RN X E sts J1)(h2:RN X E sts' J2):DX X E (.If c sts sts' pos) (Xm fa J1 J2):=by
 obtain⟨tc,pc,kc⟩:=hc;obtain⟨t1,p1,k1⟩:=h1;obtain⟨t2,p2,k2⟩:=h2;refine⟨_,Em (fc pc) p1 p2,fun δ r h G0 H0 G H σ D R q=>?_⟩;obtain⟨b,h3,h4⟩:=aB.mp h;refine kc δ _ h3 G0 H0 G H σ [] _ R fun G1 H1 R1=>?_;split
 ·rename_i hb;rw [if_pos hb]at h4;exact k1 δ r h4 G0 H0 G1 H1 σ D R1 q
 ·rename_i hb;rw [if_neg hb]at h4;exact k2 δ r h4 G0 H0 G1 H1 σ D R1 q
abbrev O1(C:Addr)(f:Dv→Option PyData):FZ:=fun δ=>(f δ).map fun _=>.inr C
theorem OP{x:Str}{C:Addr}{np cpos:Pos}(T:Exc X.K X.mg x C)(hL:Lets X E)(he:DE X.Jh e f)(hcalm:X.calm=true:=by rfl)(hg:Gl X x:=by rfl)(hd:(x==("__debug__" : Str))=false:=by decide)
 (hst:starEach [e] X.env=[(false,eval e X.env)]:=by rfl):DX X E (.Raise (some (.Call (.Name x np) [e] [] cpos)) none pos) (O1 C f):=by
 obtain⟨t,p,k⟩:=he;refine⟨_,Y0 T hL hcalm hg (gF p) hd hst,fun δ r h G0 H0 G H σ D R q=>?_⟩;obtain⟨y,h1,rfl⟩:=aC.mp h;exact k δ y h1 G0 H0 G H σ [] _ R fun v G' H' R'=>q _ R'.keep
theorem iU{k:Nat}{m:List PyData→Option Xr}{ta:TA}(ka:∀δ xs,fs δ=some xs→∀G0 H0 G H σ ts (Q:List V→Hp→Prop),Rw G0 H0 G H σ δ ts→(∀vs G' H',Rw G0 H0 G' H' σ δ (xs.zip vs++ts)→vs.length=xs.length→Q vs H')→ta σ H Q)
 {δ:Dv}{r:Xr}(hz:(fs δ).bind m=some r){G0 H0 G H:Hp}{σ:St}{Q:VK}{E':XK}(R:Rw G0 H0 G H σ δ [])(q1:∀x,r=.inl x→∀v G' H',Rw G0 H0 G' H' σ δ [(x,v)]→Q v H')(q2:∀C,r=.inr C→∀G' H',Rw G0 H0 G' H' σ δ []→E' (.ref C) none H') :
  ta σ H fun vs H1=>GC m (vs++[]) H1 Q E':=by
 obtain⟨xs,h1,h2⟩:=aB.mp hz;refine ka δ _ h1 G0 H0 G H σ [] _ R fun vs G1 H1 R1 hv=>?_;obtain⟨d,R2⟩:=R1.args hv;refine⟨xs,r,G1,h2,by rw [List.append_nil];exact d,R2.ins,?_⟩;cases r with
 |inl x=>exact fun v G' H' h3 h4 h5 h6 h7=>q1 x rfl _ _ _ ((R2.lift h3 h4 h5 h6).put h7)
 |inr C=>exact fun H' h=>q2 C rfl _ _ (R2.on h)
section
variable{k:Nat}{fA:Addr}{fd:FuncData}{ps:List Str}{m:List PyData→Option Xr}{x:Str}{st':Stmt}
abbrev WL(m:List PyData→Option Xr)(fs:Dv→Option (List PyData))(nx:PyData→Dv→Ou):FZ:=fun δ=>((fs δ).bind m).map fun r=>match r with
 |.inl x=>.inl (nx x δ)
 |.inr C=>.inr C
theorem d7(T:Fn X.K X.mg x st' ps fA fd)(F:AL X.prog X.w X.K X.mg X.base (Cf X.prog X.w) k fA fd ps (GC m))(hr:DH k X.A)(hP:Passes (Cf X.prog X.w) X E)(ha:DA X.Jh (e::es) fs)
 {pos2:Pos}(hP2:∀ {t:TE},PE X (.Call (.Name x p) (e::es) [] pos) t→PS X (.Expr (.Call (.Name x p) (e::es) [] pos) pos2) (R9 t))
 (hg:Gl X x:=by rfl)(hdb:(x==("__debug__" : Str))=false:=by decide)(he:starEach (e::es) X.env=(false,eval e X.env)::starEach es X.env:=by rfl)(hpl:(backTo pos (starEach es X.env)).any (·.1)=false:=by rfl) :
  DX X E (.Expr (.Call (.Name x p) (e::es) [] pos) pos2) (WL m fs fun _ δ=>.nx δ):=by
 obtain⟨ta,pa,ka⟩:=ha;refine⟨_,hP2 (Xw T F hr hg hP (X7 pa) hdb he hpl),fun δ r h G0 H0 G H σ D R q=>?_⟩;obtain⟨z,h1,rfl⟩:=aC.mp h;refine iU (k:=k) ka h1 R (fun x hx v G' H' R'=>?_) (fun C hC G' H' R'=>?_)
 ·subst hx;exact q _ _ _ R'.drop
 ·subst hC;exact q _ R'.keep
end
end
def Fv(ps N:List Str)(J:FZ)(ds:List PyData):Option Xr:=if ds.length=ps.length then(match J (GH N ds) with
 |some (.inl (.rt x))=>some (.inl x)
 |some (.inl (.nx _))=>some (.inl .none)
 |some (.inl (.rn xs))=>some (.inl (.list xs))
 |some (.inr C)=>some (.inr C)
 |_=>none) else none
section
variable{P:Program}{w:World}{K:Fg}{mg:Str→Option Value}{base:Heap}{x:Str}{st:Stmt}{fA:Addr}{fd:FuncData}{N ps:List Str}{k:Nat}
theorem Vy{qual:Str}{scope:Scope}{cd:Value}{A:Around}{outer:List Env}{s:Shared}{H:Hp}{E:XK} :
  Lets (Ca (Cf P w) P w K mg base N qual scope fA cd A outer s H E) E:=fun _ _ _ _ _ _ _ _ I hx hE=>cy I hx hE
theorem K2{qual:Str}{scope:Scope}{cd:Value}{A:Around}{outer:List Env}{s:Shared}{H:Hp}{E:XK}:Passes (Cf P w) (Ca (Cf P w) P w K mg base N qual scope fA cd A outer s H E) E:=jn fun _ _ _ z=>z
theorem Pb{J:FZ}(T:Fn K mg x st ps fA fd)(S:Ad N ps (AR st))
 (hb:∀(cdv:Value) (A:Around) (outer:List Env) (s:Shared) (H:Hp) (E:XK),DH k (A.deeper (envOfC x (AR st) s.heap.objs.size fA cdv))→RN (Ca (Cf P w) P w K mg base N x (AR st) fA cdv A outer s H E) E (Ds st) J) :
  AL P w K mg base (Cf P w) (k+1) fA fd ps (GC (Fv ps N J)):=by
 refine T.F.nS S (fun vs H Q E h=>?_) fun cdv A outer s H vs Q E hr h=>?_
 ·obtain⟨ds,y,G,h1,h2,_⟩:=h;unfold Fv at h1;split at h1
  ·rename_i hl;rw [h2.len];exact hl
  ·cases h1
 ·obtain⟨ds,y,G,h1,h2,h3,h4⟩:=h;obtain⟨t,p,kk⟩:=hb cdv A outer s H E hr;refine⟨t,p,?_⟩;unfold Fv at h1;split at h1
  ·split at h1
   ·rename_i z e1;cases h1;exact kk _ _ e1 G H G H _ _ (Rw.start h2 h3) fun v G' H' m1 m2 m3 m4 m5=>h4 v G' H' m1 m2 m3 m4 m5
   ·rename_i δ e1;cases h1;exact kk _ _ e1 G H G H _ _ (Rw.start h2 h3) fun σ' G' H' R=>h4 .A7 G' H' R.ext R.new R.ins R.keep (by rw [Du])
   ·rename_i xs e1;cases h1;exact kk _ _ e1 G H G H _ _ (Rw.start h2 h3) fun a ys G' H' m1 m2 m3 m4 m5 m6 m7 m8=>let⟨n1,n2,n3,n4⟩:=cm m1 m2 m3 m5 m6 m7 m8;h4 _ _ H' n1 n2 n3 m4 n4
   ·rename_i C e1;cases h1;exact kk _ _ e1 G H G H _ _ (Rw.start h2 h3) h4
   ·cases h1
  ·cases h1
theorem AL.nI{sp sp':Sp}(F:AL P w K mg base (Cf P w) k fA fd ps sp)(h:∀vs H Q E,sp' vs H Q E→sp vs H Q fun _ _ _=>False):AL P w K mg base Ao k fA fd ps sp' :=
 ⟨fun vs H Q E z=>F.len _ _ _ _ (h _ _ _ _ z),fun A outer s H args us vs Q E hr he hb hv hs=>codeAny_mono (F.run A outer s H args us vs Q _ hr he hb hv (h _ _ _ _ hs)) fun r s' z=>by
  cases r with
  |ok fl=>cases fl<;>exact z
  |error e=>obtain⟨_,_,_,_,_,_,_,z⟩:=z;exact z.elim⟩
def good(m:List PyData→Option Xr)(ds:List PyData):Option PyData:=match m ds with
 |some (.inl x)=>some x
 |_=>none
theorem Vz{m:List PyData→Option Xr}(F:AL P w K mg base (Cf P w) k fA fd ps (GC m)):AL P w K mg base Ao k fA fd ps (BH (good m)):=F.nI fun vs H Q E z=>by
 obtain⟨ds,x,G,h1,h2,h3,h4⟩:=z;unfold good at h1;split at h1
 ·rename_i y e;cases h1;exact⟨ds,.inl x,G,e,h2,h3,h4⟩
 ·cases h1
end
abbrev K0(fs:Dv→Option (List PyData)):DF:=fun δ=>(fs δ).map .rn
abbrev Pn(i:Nat):DF:=fun δ=>(ow i δ).map .rn
section
variable{X:Cx}{a b c e:Expr}{es:List Expr}{f g h:Dv→Option PyData}{fs:Dv→Option (List PyData)}{fa:Dv→Option Bool}{pos p:Pos}
theorem Ms{i:Nat}{x:Str}{np:Pos}(hv:PE X (.Name x np) (J6 i)):DS X (.Return (some (.Name x np)) pos) (Pn i):=by
 refine⟨_,B9 hv,fun δ r h G0 H0 G H σ D R q=>?_⟩;obtain⟨xs,h1,rfl⟩:=aC.mp h;obtain⟨a,_,k1,k2,k3,k4,⟨ys,rfl,k5⟩⟩:=R.own i _ (Mv h1);exact⟨.ref a,k1,q a ys G H R.ext R.new R.ins R.keep k3 k2 k4 k5⟩
end
section
variable{X:Cx}{elt iter:Expr}{x y:Str}{px py tp pos spos:Pos}{tk:Nat}{ifs:List Expr}{scope:Scope}{fs:Dv→Option (List PyData)}{tif:Dv→Option Bool}{f:Dv→Option PyData}
theorem fB(N:List Str)(ix:Nat)(fr:List (Option Nat))(hi:DI X (.Name x px) iter fs)(hif:∀cl C s₀ H₀ fp,Qu (Ai X scope cl N C s₀ H₀ fp) ifs tif)(he:∀cl C s₀ H₀ fp,DE (Ai X scope cl N C s₀ H₀ fp) elt f)
 (h1:Bk scope N x ix=true:=by decide +kernel)(h2:X.calm=true:=by rfl)(h3:ER N X.N scope X.env.scope fr 0=true:=by rfl)(h4:fr.length=N.length:=by rfl)(h5:freeOk X.env.scope scope.names=true:=by rfl)
 (hs:∀x,foldedSetIterable iter X.env x=pure x:=by intro _;rfl):DS X (.Return (some (.ListComp elt [⟨.Name x px,iter,ifs,0⟩] scope pos)) spos) (K0 (CF (B0 ix) tif f fr fs)):=by
 obtain⟨wi,pi,ki⟩:=hi;refine⟨_,B9 (LD N ix fr pi hif (fun cl C s₀ H₀ fp=>(he cl C s₀ H₀ fp).pe) h1 h2 h3 h4 h5 hs),fun δ r h G0 H0 G H σ D R q=>?_⟩;obtain⟨zs,m1,rfl⟩:=aC.mp h;exact Oq ki m1 R fun D' ys G' H' R' n1 n2 n3 n4 n5=>q _ _ _ _ R'.ext R'.new R'.ins R'.keep n3 n2 n1 n5
theorem OW(N:List Str)(ix iy:Nat)(fr:List (Option Nat))(hi:DI X (.Tuple [.Name x px,.Name y py] tk tp) iter fs)(hif:∀cl C s₀ H₀ fp,Qu (Ai X scope cl N C s₀ H₀ fp) ifs tif)(he:∀cl C s₀ H₀ fp,DE (Ai X scope cl N C s₀ H₀ fp) elt f)
 (h1:Bk scope N x ix=true:=by decide +kernel)(h1':Bk scope N y iy=true:=by decide +kernel)(hxy:ix≠iy:=by decide)(h2:X.calm=true:=by rfl)(h3:ER N X.N scope X.env.scope fr 0=true:=by rfl)(h4:fr.length=N.length:=by rfl)(h5:freeOk X.env.scope scope.names=true:=by rfl)
 (hs:∀x,foldedSetIterable iter X.env x=pure x:=by intro _;rfl):DS X (.Return (some (.ListComp elt [⟨.Tuple [.Name x px,.Name y py] tk tp,iter,ifs,0⟩] scope pos)) spos) (K0 (CF (Di ix iy) tif f fr fs)):=by
 obtain⟨wi,pi,ki⟩:=hi;refine⟨_,B9 (RG N ix iy fr pi hif (fun cl C s₀ H₀ fp=>(he cl C s₀ H₀ fp).pe) h1 h1' hxy h2 h3 h4 h5 hs),fun δ r h G0 H0 G H σ D R q=>?_⟩;obtain⟨zs,m1,rfl⟩:=aC.mp h;exact NY ki m1 R fun D' ys G' H' R' n1 n2 n3 n4 n5=>q _ _ _ _ R'.ext R'.new R'.ins R'.keep n3 n2 n1 n5
end
def ZF(ps N:List Str)(F:DF)(ds:List PyData):Option (List PyData):=if ds.length=ps.length then(match F (GH N ds) with
 |some (.rn xs)=>some xs
 |_=>none) else none
section
variable{P:Program}{w:World}{K:Fg}{mg:Str→Option Value}{base:Heap}{x:Str}{st:Stmt}{fA:Addr}{fd:FuncData}{N ps:List Str}{k:Nat}
theorem eA{F:DF}{ds xs:List PyData}(hl:ds.length=ps.length)(h:F (GH N ds)=some (.rn xs)):ZF ps N F ds=some xs:=by unfold ZF;rw [if_pos hl,h]
theorem VL{F:DF}{ds xs:List PyData}(hl:ds.length=ps.length)(h:F (GH N ds)=some (.rn xs)):Cc ps N F ds=some (.list xs):=by unfold Cc;rw [if_pos hl,h]
theorem VW{J:FZ}{ds:List PyData}{y:PyData}(hl:ds.length=ps.length)(h:J (GH N ds)=some (.inl (.rt y))):Fv ps N J ds=some (.inl y):=by unfold Fv;rw [if_pos hl,h]
theorem eT{J:FZ}{ds:List PyData}{δ:Dv}(hl:ds.length=ps.length)(h:J (GH N ds)=some (.inl (.nx δ))):Fv ps N J ds=some (.inl .none):=by unfold Fv;rw [if_pos hl,h]
theorem U2{J:FZ}{ds xs:List PyData}(hl:ds.length=ps.length)(h:J (GH N ds)=some (.inl (.rn xs))):Fv ps N J ds=some (.inl (.list xs)):=by unfold Fv;rw [if_pos hl,h]
end
section
variable{J J1 J2:FZ}{δ δ':Dv}{r:Option cq}{c:Dv→Option Bool}{fs:Dv→Option (List PyData)}{m:List PyData→Option Xr}{ds xs:List PyData}{f:Dv→Option PyData}{fr:List (Option Nat)}{g:PyData→PyData}
theorem QM(h:J1 δ=some (.inl (.nx δ')))(k:J2 δ'=r):LG J1 J2 δ=r:=by unfold LG;rw [h];exact k
theorem jz(h:c δ=some false)(k:J2 δ=r):Xm c J1 J2 δ=r:=by show(c δ).bind _=r;rw [h];exact k
theorem bg{nx:PyData→Dv→Ou}{y:PyData}(h:fs δ=some ds)(k:m ds=some (.inl y)):WL m fs nx δ=some (.inl (nx y δ)):=by show((fs δ).bind m).map _=_;rw [h];show(m ds).map _=_;rw [k];rfl
end
section
variable{F F1 F2:DF}{δ δ':Dv}{fs:Dv→Option (List PyData)}{xs:List PyData}{set:PyData→Dv→Option Dv}{r:Option Ou}
theorem Jq{Q:Dv→Prop}(h:F1 δ=some (.nx δ'))(k:∃δ2,F2 δ'=some (.nx δ2)∧Q δ2):∃δ2,Ag F1 F2 δ=some (.nx δ2)∧Q δ2:=let⟨δ2,a,b⟩:=k;⟨δ2,BC h a,b⟩
theorem Sk(Iv:Nat→Dv→Prop)(hx:fs δ=some xs)(h0:Iv 0 δ)(hs:∀(i:Nat) (x:PyData) (δ:Dv),xs[i]? = some x→Iv i δ→∃δ1,set x δ=some δ1∧∃δ2,F δ1=some (.nx δ2)∧Iv (i+1) δ2) :
  ∃δ',DQ fs set F δ=some (.nx δ')∧Iv xs.length δ':=Ze Iv hx h0 fun i x δ a b=>let⟨δ1,c,δ2,e,g⟩:=hs i x δ a b;⟨δ1,δ2,c,e,g⟩
theorem JB(Iv:Nat→Dv→Prop)(hx:fs δ=some xs)(h0:Iv 0 δ)(hs:∀(i:Nat) (x:PyData) (δ:Dv),xs[i]? = some x→Iv i δ→∃δ1,set x δ=some δ1∧∃δ2,F δ1=some (.nx δ2)∧Iv (i+1) δ2)
 (k:∀δ',Iv xs.length δ'→F2 δ'=r):Ag (DQ fs set F) F2 δ=r:=by
 obtain⟨δ',h1,h2⟩:=Sk Iv hx h0 hs;exact BC h1 (k δ' h2)
theorem VQ{f:Dv→Option PyData}{x:PyData}(h:f δ=some x)(k:Fq x=some xs):CB f δ=some xs:=by show(f δ).bind Fq=_;rw [h];exact k
end
abbrev U6:=List PyData ⊕ Addr
def b4(X:Cx)(E:XK)(e:Expr)(f:Dv→Option Xr):Prop:=∃t,PE X e t∧∀δ r,f δ=some r→∀G0 H0 G H σ ts (Q:VK),Rw G0 H0 G H σ δ ts→(∀x,r=.inl x→∀v G' H',Rw G0 H0 G' H' σ δ ((x,v)::ts)→Q v H')→(∀C,r=.inr C→∀H',AO H0 H'→E (.ref C) none H')→t σ H Q
def bz(X:Cx)(E:XK)(es:List Expr)(f:Dv→Option U6):Prop:=∃t,PA X es t∧∀δ r,f δ=some r→∀G0 H0 G H σ ts (Q:List V→Hp→Prop),Rw G0 H0 G H σ δ ts→(∀xs,r=.inl xs→∀vs G' H',Rw G0 H0 G' H' σ δ (xs.zip vs++ts)→vs.length=xs.length→Q vs H')→(∀C,r=.inr C→∀H',AO H0 H'→E (.ref C) none H')→t σ H Q
section
variable{X:Cx}{E:XK}{a b c e:Expr}{es:List Expr}{f:Dv→Option PyData}{fx:Dv→Option Xr}{gx:Dv→Option U6}{fs:Dv→Option (List PyData)}{pos p:Pos}
abbrev FG(f:Dv→Option (List PyData)):Dv→Option U6:=fun δ=>(f δ).map .inl
theorem KZ(h:DA X.Jh es fs):bz X E es (FG fs):=by
 obtain⟨t,p,k⟩:=h;refine⟨t,X7 p,fun δ r h G0 H0 G H σ ts Q R q1 q2=>?_⟩;obtain⟨o,h1,rfl⟩:=aC.mp h;exact k δ o h1 G0 H0 G H σ ts Q R (q1 o rfl)
def Ek(fx:Dv→Option Xr)(gx:Dv→Option U6)(δ:Dv):Option U6:=match fx δ with
 |some (.inl x)=>(match gx δ with
  |some (.inl xs)=>some (.inl (x::xs))
  |some (.inr C)=>some (.inr C)
  |none=>none)
 |some (.inr C)=>some (.inr C)
 |none=>none
theorem OS(ha:b4 X E e fx)(hr:bz X E es gx)(hs:starEach (e::es) X.env=(false,eval e X.env)::starEach es X.env:=by rfl):bz X E (e::es) (Ek fx gx):=by
 obtain⟨ta,pa,ka⟩:=ha;obtain⟨tr,pr,kr⟩:=hr;refine⟨_,Aa pa pr hs,fun δ r hz G0 H0 G H σ ts Q R q1 q2=>?_⟩;unfold Ek at hz;cases hf:fx δ with
 |none=>rw [hf]at hz;cases hz
 |some u =>
  rw [hf]at hz;cases u with
  |inr C =>
   cases hz;exact ka δ _ hf G0 H0 G H σ ts _ R (fun x hx=>by cases hx) fun C' hC=>by cases hC;exact q2 C rfl
  |inl x =>
   refine ka δ _ hf G0 H0 G H σ ts _ R (fun x' hx v G1 H1 R1=>?_) (fun C hC=>by cases hC);cases hx;cases hg:gx δ with
   |none=>rw [hg]at hz;cases hz
   |some w =>
    rw [hg]at hz;refine kr δ _ hg G0 H0 G1 H1 σ _ _ R1 (fun xs hxs vs G2 H2 R2 hl=>?_) (fun C hC H' h'=>?_)
    ·subst hxs;cases hz;refine q1 _ rfl (v::vs) G2 H2 (R2.less fun q hq=>?_) (by simp [hl]);simp only [List.zip_cons_cons,List.cons_append,List.mem_cons,List.mem_append]at hq ⊢;rcases hq with h | h | h
     ·exact .inr (.inl h)
     ·exact .inl h
     ·exact .inr (.inr h)
    ·subst hC;cases hz;exact q2 C rfl H' h'
def Cb(gx:Dv→Option U6)(m:List PyData→Option Xr)(δ:Dv):Option Xr:=match gx δ with
 |some (.inl xs)=>m xs
 |some (.inr C)=>some (.inr C)
 |none=>none
theorem HJ{k:Nat}{fA:Addr}{fd:FuncData}{ps:List Str}{m:List PyData→Option Xr}{x:Str}{st':Stmt}(T:Fn X.K X.mg x st' ps fA fd)(F:AL X.prog X.w X.K X.mg X.base (Cf X.prog X.w) k fA fd ps (GC m))(hr:DH k X.A)(hP:Passes (Cf X.prog X.w) X E)(ha:bz X E (e::es) gx)
 (hg:Gl X x:=by rfl)(hdb:(x==("__debug__" : Str))=false:=by decide)(he:starEach (e::es) X.env=(false,eval e X.env)::starEach es X.env:=by rfl)(hpl:(backTo pos (starEach es X.env)).any (·.1)=false:=by rfl) :
  b4 X E (.Call (.Name x p) (e::es) [] pos) (Cb gx m):=by
 obtain⟨ta,pa,ka⟩:=ha;refine⟨_,Xw T F hr hg hP pa hdb he hpl,fun δ r hz G0 H0 G H σ ts Q R q1 q2=>?_⟩;unfold Cb at hz;cases hg:gx δ with
 |none=>rw [hg]at hz;cases hz
 |some w =>
  rw [hg]at hz;refine ka δ _ hg G0 H0 G H σ ts _ R (fun xs hxs vs G1 H1 R1 hv=>?_) (fun C hC H' h'=>?_)
  ·subst hxs;obtain⟨d,R2⟩:=R1.args hv;refine⟨xs,r,G1,hz,by rw [List.append_nil];exact d,R2.ins,?_⟩;cases r with
   |inl y=>exact fun v G' H' h3 h4 h5 h6 h7=>q1 y rfl _ _ _ ((R2.lift h3 h4 h5 h6).put h7)
   |inr C=>exact fun H' h=>q2 C rfl H' (R2.keep.trans h)
  ·subst hC;cases hz;exact q2 C rfl H' h'
abbrev xE(fx:Dv→Option Xr)(nx:PyData→Dv→Ou):FZ:=fun δ=>(fx δ).map fun r=>match r with
 |.inl x=>.inl (nx x δ)
 |.inr C=>.inr C
theorem dD(he:b4 X E e fx):DX X E (.Return (some e) pos) (xE fx fun x _=>.rt x):=by
 obtain⟨t,p,k⟩:=he;refine⟨_,B9 p,fun δ r h G0 H0 G H σ D R q=>?_⟩;obtain⟨z,h1,rfl⟩:=aC.mp h;refine k δ z h1 G0 H0 G H σ [] _ R (fun x hx v G' H' R'=>?_) (fun C hC H' h'=>?_)
 ·subst hx;exact q _ _ _ R'.ext R'.new R'.ins R'.keep (R'.BX _ (.head _))
 ·subst hC;exact q _ h'
theorem Vu{i:Nat}{y:Str}{pos':Pos}(he:b4 X E e fx)(hN:X.N.Nodup)(hx:Loc X.env.scope y)(hi:X.N[i]? = some y:=by rfl)(hs:swapsWith e (some (.Name y pos')) pos.line X.env=pure false:=by rfl)(hf:X.fn y=true∨X.env.scope.names.lookup y=some .local:=by first | exact .inl rfl | exact .inr rfl | assumption) :
  DX X E (.Assign [.Name y pos'] e pos) (xE fx fun x δ=>.nx (δ.set i (.d x))):=by
 obtain⟨t,p,k⟩:=he;refine⟨_,B1 hN hi hx p hs hf,fun δ r h G0 H0 G H σ D R q=>?_⟩;obtain⟨z,h1,rfl⟩:=aC.mp h;refine k δ z h1 G0 H0 G H σ [] _ R (fun x hx v G' H' R'=>?_) (fun C hC H' h'=>?_)
 ·subst hx;exact q _ _ _ R'.HN
 ·subst hC;exact q _ h'
end
end L2
set_option maxHeartbeats 2000000
set_option maxHeartbeats 1000000
namespace L2
open PySem PySem.Spec PyProof.Rows
theorem YX(ns:List Int):(ns.map V.int).all Ie=true:=by
 rw [List.all_eq_true];intro x hx;obtain⟨i,_,rfl⟩:=aT.mp hx
 rfl
theorem Sb(i:Int):∀ns:List Int,bq (.int i) (ns.map V.int)=ns.contains i
 |[]=>rfl
 |n::ns=>by
  have ih:=Sb i ns;unfold bq at ih ⊢;rw [List.map_cons,List.any_cons,ih,List.contains_cons]
  congr 1
  show(n==i)=(i==n);rw [Bool.eq_iff_iff,beq_iff_eq,beq_iff_eq];exact eq_comm
end L2
set_option maxHeartbeats 4000000
namespace L2
open PySem PySem.Spec PyProof.Rows
def GT(H:Hp)(v:Value)(x:Tr):Prop:=∃a ys,v=.ref a∧H a=some (.tup ys)∧Ts H x ys
def V6(S:Addr)(ev:Array (Int×Value))(ep:Nat)(t:SetTable):HO:=.ext fun h=>∃o,h.get? S=some o∧o.ExactSet∧o.data=.set ev ep t
abbrev jQ(H:Hp)(p:Int×Value)(q:Int×Tr):Prop:=p.1=q.1∧q.2.deep<8∧GT H p.2 q.2
def ZI(H:Hp)(S:Addr)(st:TH.ES×SetTable):Prop:=∃ev ep,H S=some (V6 S ev ep st.2)∧PySem.Paired (jQ H) ev.toList st.1.toList
theorem GT.same{H H':Hp}{v:Value}{x:Tr}(h:GT H v x)(e:AO H H'):GT H' v x:=let⟨a,ys,e1,e2,e3⟩:=h;⟨a,ys,e1,e _ _ e2,e3.same e⟩
structure cg(w:World)(st:TH.ES×SetTable):Prop where
 fit:st.2.fits st.1.size=true
 plain:st.2.plain=true
 led:st.2.led=!w.params.followText "set-order"
 walk:TH.MP st.2 st.1.size=true
 small:st.1.size<64
section
variable{X:Cx}{pins:List (Addr×Obj)}{σ:St}{H:Hp}{s:Shared}
theorem YZ(I:Inv X pins σ H s){v:Value}{x:Tr}(g:GT H v x):∃a its,v=.ref a∧s.heap.IsTuple a its.toArray∧TH.Vs s.heap x its:=by
 obtain⟨a,ys,rfl,h1,h2⟩:=g;obtain⟨its,r,p,_⟩:=I.tuple (A8.of (K:=X.K) h1);exact⟨a,its,rfl,p,h2.vs I r⟩
theorem Se(I:Inv X pins σ H s):∀ {t:Tr} {ys:List V} {us:List Value},Ts H t ys→Vals ys us→t.deep≤8→TH.Ip (GT H) s.heap us t.bs
 |.nil,ys,us,h,r,_=>by
  rw [Ts]at h;subst h;cases r;exact .nil
 |.cons b q,ys,us,h,r,hd=>by
  rw [Ts]at h;obtain⟨a,zs,rest,rfl,h1,h2,h3⟩:=h;rw [Tr.deep]at hd;cases r with
  |cons r1 r2 =>
   cases r1;have g:GT H (.ref a) b:=⟨a,zs,rfl,h1,h2⟩;exact .cons ⟨by omega,g,YZ I g⟩ (Se I h3 r2 (by omega))
theorem ZH(I:Inv X pins σ H s){l:List (Int×Value)}{m:List (Int×Tr)}(h:PySem.Paired (jQ H) l m):PySem.Paired (TH.Nz (GT H) s.heap) l m :=
 TH.Paired.imp (fun _ _ ⟨a,b,c⟩=>⟨a,b,c,YZ I c⟩) h
theorem fi:∀ {us:List Value} {ts:List Tr},PySem.Paired (GT H) us ts→∃zs,Vals zs us∧Ts H (Tr.of ts) zs
 |_,_,.nil=>⟨[],.nil,by rw [Tr.of,Ts]⟩
 |_,_,.cons ⟨a,ys,e,h1,h2⟩ r=>by
  obtain⟨zs,r1,r2⟩:=fi r;subst e;exact⟨.ref a::zs,.cons rfl r1,by rw [Tr.of,Ts];exact⟨a,ys,zs,rfl,h1,h2,r2⟩⟩
def kQ(w:World)(K:Fg):List V→Hp→VK→Prop:=fun xs H Q=>∃p ys t st,xs=[.ref p]∧A4 K H p ys∧Ts H t ys∧t.deep≤8∧TH.MM (TH.KS (!w.params.followText "set-order")) t.bs=some st ∧
 ∀S H',AO H H'→ZI H' S st→Q (.ref S) H'
theorem XO(hc:X.calm=true)(hu:X.A.units+64<cLine):D3 X (.type "set") (kQ X.w X.K):=by
 intro pins s σ H xs us Q I r h;obtain⟨p,ys,t,st,rfl,hq,ht,hd,hst,q⟩:=h;obtain⟨u,rfl,r1⟩:=r.one;cases r1;obtain⟨its,rv,pl,hz⟩:=I.list hq;refine TH.Um (G:=GT H) (I.ok.hd hc) pl.isList (Se I ht rv hd) (by omega) hst fun h2 tk S2 k2=>?_;obtain⟨o,ev,ep,g1,g2,g3,g4⟩:=S2;have hf:=I.Ap.fresh (aJ s.heap.objs.size);have es:=Bh hf (V6 s.heap.objs.size ev ep st.2);refine⟨.ref s.heap.objs.size,upd H s.heap.objs.size (V6 s.heap.objs.size ev ep st.2),I.laid (t':=tk) k2 (aJ _) ?_,rfl,q _ _ es ⟨ev,ep,AX,TH.Paired.imp (fun _ _ ⟨a,b,c,_⟩=>⟨a,b,c.same es⟩) g4⟩⟩;exact⟨⟨o,g1,g2,g3⟩,⟨o,g1⟩,fun h1 h2 ⟨o,q1,q2⟩ k=>⟨o,k _ q1,q2⟩⟩
theorem eV(I:Inv X pins σ H s){S:Addr}{st:TH.ES×SetTable}(h:ZI H S st)(ok:cg X.w st):∃o ev ep,s.heap.get? S=some o∧TH.Ez X.w o ev ep st.2∧TH.Dg (GT H) s.heap ev st.1:=by
 obtain⟨ev,ep,h1,h2⟩:=h;obtain⟨⟨o,g1,g2,g3⟩,_,_⟩:=(show Cd X.prog X.w H s.heap S (V6 S ev ep st.2) from I.Ap S _ h1);have R:=ZH I h2;have hz:ev.size=st.1.size:=TH.Dg.size R;exact⟨o,ev,ep,g1,⟨g2,g3,by rw [hz];exact ok.fit,ok.plain,ok.led,by rw [hz];exact ok.walk⟩,R⟩
def jX(w:World):List V→Hp→VK→Prop:=fun xs H Q=>∃S st,xs=[.ref S]∧ZI H S st∧cg w st∧∀(l:Addr) (zs:List V),H l=none→zs.length<64→Ts H (Tr.of (Tr.Bb (TH.O9 st)).reverse) zs→Q (.ref l) (upd H l (.lst zs))
theorem WY(hc:X.calm=true)(hu:X.A.units+64<cLine):D3 X (.builtin "sorted") (jX X.w):=by
 intro pins s σ H xs us Q I r h;obtain⟨S,st,rfl,hS,ok,q⟩:=h;obtain⟨u,rfl,r1⟩:=r.one;cases r1;obtain⟨o,ev,ep,g1,W,R⟩:=eV I hS ok;refine TH.Wa (I.ok.hd hc) W g1 R ok.small (by omega) fun h' D tk e1 us hD k1 gD hp hl=>?_;obtain⟨zs,r1,r2⟩:=fi hp;have hz:zs.length<64:=by rw [r1.length];exact hl
 refine⟨.ref D,upd H D (.lst zs),I.laid (t':=tk) k1 hD ⟨bK (aH hz (by rw [sizeLine_eq];decide)),us,e1,r1,gD⟩,rfl,q D zs (I.Ap.fresh hD) hz r2⟩
end
open PySem PyProof.Rows
section
variable{prog:Program}{w:World}{A:Around}{E:Value→Shared→Prop}{s:Shared}
theorem dy{k:Int}{t:Tok}{Q:Option PySem.Fin×Unit→Shared→Prop}(xs:List Value)(f:Nat→Option PySem.Fin×Unit→Sem (ForInStep (Option PySem.Fin×Unit)))
 (hf:∀i y st,xs.toArray[i]? = some y→f i st=(do
      let b ←eqBool y (.int k t)
      if b=true then do
          let r ←retInt ↑i
          pure (ForInStep.done (some r,()))
        else pure (ForInStep.yield (none,())))):∀ {vs:List Value} {ns:List Int},IntsAre vs ns→∀(pre:List Value),pre++vs=xs→k∈ns →
    (∀t' s',s'={ s with toks:=s'.toks }→s.toks≤s'.toks→Q (some (.done (.ret (.int ((pre.length+ns.idxOf k:Nat):Int) t'))),()) s') →
    wpAny (model prog w) A (forIn (List.range' pre.length vs.length) (none,()) f) Q E s:=by
  intro vs ns hi
  induction hi with
  |nil=>intro _ _ hk;cases hk
  | @cons n u vs ns r ih =>
    intro pre hx hk h
    rw [List.length_cons,List.range'_succ,List.forIn_cons]
    refine Wb ?_
    rw [hf pre.length (.int n u) _ (by rw [←hx];simp)]
    refine Wb (wpAny_eqBool_int ?_)
    by_cases z:n=k
    · subst z
      rw [if_pos (by simp)]
      refine Wb ?_
      refine Wb (wpAny_mkInt (aA ?_))
      refine aA (aA ?_)
      have:=h s.toks { s with toks:=s.toks+1 } rfl (Nat.le_succ _)
      rw [List.idxOf_cons_self]at this
      exact this
    · rw [if_neg (by simpa using z)]
      refine aA ?_
      have hk':k∈ns:=(aM.mp hk).resolve_left fun e=>z e.symm
      have:=ih (pre++[.int n u]) (by rw [←hx,List.append_assoc];rfl) hk' (fun t' s' e1 e2=>by
        have:=h t' s' e1 e2
        rw [List.idxOf_cons,show(n==k)=false by simpa using z]at this
        rw [List.length_append,List.length_singleton,Nat.add_assoc,Nat.add_comm 1]
        exact this)
      rw [List.length_append,List.length_singleton]at this
      exact this
theorem OE{l:Addr}{vs:List Value}{ns:List Int}{k:Int}{t:Tok}{Q:Value→Shared→Prop}(hl:IsTup s.heap l vs.toArray)(hi:IntsAre vs ns)
 (hk:k∈ns)(h:∀t' s',s'={ s with toks:=s'.toks }→s.toks≤s'.toks→Q (.int (ns.idxOf k:Nat) t') s') :
  wpAny (model prog w) A (call (.builtin "tuple.index") [.ref l,.int k t]) Q E s:=by
 refine aW F.slot_tuple_index hl.typeIs F.entry_tuple_index ?_ (F.args_tuple_index_2 _ _);unfold Builtin.«tuple.index»;refine Wb (m:=selfAndSome _ _ _ _ _) (aA ?_);refine Wb (tupleItemsOf_ hl ?_);refine Wb (aA (Wb (aA (Wb ?_))));rw [Nat.min_self,Std.Legacy.Range.forIn_eq_forIn_range'];have z:Std.Legacy.Range.size [0:vs.toArray.size]=vs.length:=by simp [Std.Legacy.Range.size]
 rw [z];refine dy (k:=k) (t:=t) vs _ (fun i y st e=>by simp only [e]) hi [] rfl hk (fun t' s' e1 e2=>aA ⟨_,rfl,?_⟩);have:=h t' s' e1 e2;rw [List.length_nil,Nat.zero_add];exact this
end
end L2
set_option maxHeartbeats 1000000
namespace L2
open PySem PySem.Spec PyProof.Rows
def fF(K:Fg):V→List V→Hp→VK→Prop:=fun x xs H Q=>∃(p:Addr) (ns:List Int) (k:Int),x=.ref p∧xs=[.int k]∧A8 K H p (List.map V.int ns)∧k∈ns∧Q (.int (ns.idxOf k:Nat)) H
structure Own(K:Fg)(a:Addr)(ns:List Int):Prop where
 sq:∀H,A8 K H a (ns.map V.int)
 ty:∃o,K.lookup a=some o∧o.cls=.type "tuple" ∧ o.dict=none
section
variable{X:Cx}{a e:Expr}{f:Dv→Option PyData}{pos p p2:Pos}
theorem YN:iI X "tuple.index" (fF X.K):=by
 intro pins s σ H x xs v us Q I rx rv h;obtain⟨q,ns,k,rfl,rfl,hq,hk,h⟩:=h;cases rx;obtain⟨u,rfl,t,rfl⟩:=vals1 rv;obtain⟨its,r',pl,hz⟩:=I.tuple hq;refine OE pl (intsAre_of r') hk fun t' s' e1 e2=>?_;rw [e1];exact⟨.int (ns.idxOf k:Nat),H,I.tok _,⟨t',rfl⟩,h⟩
def bx(neg:Bool)(ns:List Int)(x:PyData):Option PyData:=match x with
 |.int i=>some (.bool (if neg then !(ns.contains i) else ns.contains i))
 |_=>none
def Xy(ns:List Int)(x:PyData):Option PyData:=match x with
 |.int i=>if i∈ns then some (.int (ns.idxOf i:Nat)) else none
 |_=>none
theorem fI{op:CmpOp}{neg:Bool}{x:Str}{c:Addr}{ns:List Int}(ho:CY X (compareOp op) (lJ X.K neg))(ha:DE X a f)(hg:Gl X x)(hm:X.mg x=some (.ref c))(hn:Own X.K c ns)(hk:behindInMarks op (.Name x p)=false:=by rfl)(hd:(x==("__debug__" : Str))=false:=by decide) :
  DT X (.Compare a [op] [.Name x p] pos) (fun δ=>((f δ).bind (bx neg ns)).bind Po):=by
 obtain⟨ta,pa,ka⟩:=ha;refine⟨_,Co ho pa (Pt (v:=.ref c) hg hm rfl hd) hk,fun δ z hz G0 H0 G H σ ts Q R0 k=>?_⟩;obtain⟨q,h0,h4⟩:=aB.mp hz;have:=Sw h4;subst this;obtain⟨y,h1,h2⟩:=aB.mp h0;refine ka δ y h1 G0 H0 G H σ ts _ R0 fun u G1 H1 R1=>?_;unfold bx at h2;split at h2
 ·cases h2;have du:=R1.BX (_,u) (.head _);rw [Du]at du;subst du;refine⟨c,_,rfl,.inr (hn.sq _),rfl,YX ns,?_⟩;rw [Sb];exact⟨_,rfl,k _ _ R1.drop⟩
 ·cases h2
theorem YW{x:Str}{c:Addr}{ns:List Int}{cp ap:Pos}(ha:DE X e f)(hg:Gl X x)(hm:X.mg x=some (.ref c))(hn:Own X.K c ns)(hd:(x==("__debug__" : Str))=false:=by decide)
 (hbase:attributeBase (.Name x p) "index" X.env (eval (.Name x p) X.env)=eval (.Name x p) X.env:=by rfl)
 (hfew:((backTo cp (starEach [e] X.env)).all (fun x=>!x.1)&&(backToKw cp (keywordEach [] X.env)).all (fun x=>x.1.isSome)
   && decide (([e]:List Expr).length+([]:List Keyword).length+(if([]:List Keyword).isEmpty then 0 else 1)<30))=true:=by rfl)
 (hline:(ap.endLine==cp.line)=true:=by rfl)(hs:starEach [e] X.env=(false,eval e X.env)::starEach [] X.env:=by rfl)(hplain:(backTo cp (starEach [] X.env)).any (·.1)=false:=by rfl) :
  DE X (.Call (.Attribute (.Name x p) "index" ap) [e] [] cp) (fun δ=>(f δ).bind (Xy ns)):=by
 obtain⟨ta,pa,ka⟩:=ha;refine⟨_,Hc PySem.F.plainAttrs_tuple PySem.F.slot_tuple_index PySem.F.type_tuple_index YN (Pt (v:=.ref c) hg hm rfl hd) (Aa pa A6 hs) hbase hfew hline hs hplain,fun δ z hz G0 H0 G H σ ts Q R0 k=>?_⟩;obtain⟨y,h1,h2⟩:=aB.mp hz;refine⟨.inr (.inl ⟨rfl,hn.ty⟩),?_⟩;refine ka δ y h1 G0 H0 G H σ ts _ R0 fun u G1 H1 R1=>?_;unfold Xy at h2;split at h2
 ·split at h2
  ·rename_i hi;cases h2;have du:=R1.BX (_,u) (.head _);rw [Du]at du;subst du;exact⟨c,ns,_,rfl,rfl,hn.sq _,hi,k _ _ _ (R1.drop.put (by rw [Du]))⟩
  ·cases h2
 ·cases h2
end
def Od(led:Bool)(l z:List Tr):Bool:=match TH.MM (TH.KS led) l with
 |some st=>decide ((Tr.Bb (TH.O9 st)).reverse=z)&&st.2.fits st.1.size&&st.2.plain&&decide (st.2.led=led)&&TH.MP st.2 st.1.size&&decide (st.1.size<64)
 |none=>false
theorem Z1{led:Bool}{l z:List Tr}(h:Od led l z=true):∃st,TH.MM (TH.KS led) l=some st∧(Tr.Bb (TH.O9 st)).reverse=z∧st.2.fits st.1.size=true∧st.2.plain=true∧st.2.led=led∧TH.MP st.2 st.1.size=true∧st.1.size<64:=by
 unfold Od at h;split at h
 ·rename_i st e;simp only [Bool.and_eq_true,decide_eq_true_eq]at h;obtain⟨⟨⟨⟨⟨h1,h2⟩,h3⟩,h4⟩,h5⟩,h6⟩:=h;exact⟨st,e,h1,h2,h3,h4,h5,h6⟩
 ·cases h
def WO(l:List Tr):List Tr:=match TH.MM (TH.KS true) l with
 |some st=>(Tr.Bb (TH.O9 st)).reverse
 |none=>[]
def HN(t:Tr):Option PyData:=if t.deep≤8∧Od true t.bs (WO t.bs)=true∧Od false t.bs (WO t.bs)=true then some (.list (Bq (Tr.of (WO t.bs)))) else none
def Kz:PyData→Option PyData
 |.list ds=>(Ep ds).bind HN
 |_=>none
section
variable{X:Cx}{e:Expr}{f:Dv→Option PyData}{pos p p2 pos2:Pos}
theorem PD(hc:X.calm=true)(hu:X.A.units+64<cLine)(hg:Gl X "sorted")(hm:X.mg "sorted" = none)(hg2:Gl X "set")(hm2:X.mg "set" = none)(ha:DE X e f)
 (hs1:starEach [e] X.env=(false,eval e X.env)::starEach [] X.env:=by rfl)(hs2:starEach [.Call (.Name "set" p2) [e] [] pos2] X.env=(false,eval (.Call (.Name "set" p2) [e] [] pos2) X.env)::starEach [] X.env:=by rfl)
 (hq1:(backTo pos2 (starEach [] X.env)).any (·.1)=false:=by rfl)(hq2:(backTo pos (starEach [] X.env)).any (·.1)=false:=by rfl) :
  DE X (.Call (.Name "sorted" p) [.Call (.Name "set" p2) [e] [] pos2] [] pos) (fun δ=>(f δ).bind Kz):=by
 obtain⟨ta,pa,ka⟩:=ha;refine⟨_,CS (WY hc hu) hg hm PyProof.Rows.boot_sorted (Aa (RF (XO hc hu) hg2 hm2 PyProof.Rows.boot_set (Aa pa A6 hs1) (by decide) (by decide) hs1 hq1) A6 hs2) (by decide) (by decide) hs2 hq2,fun δ z hz G0 H0 G H σ ts Q R0 k=>?_⟩;obtain⟨y,h1,h2⟩:=aB.mp hz;refine ka δ y h1 G0 H0 G H σ ts _ R0 fun u G1 H1 R1=>?_;unfold Kz at h2;split at h2
 ·rename_i ds;obtain⟨t,h3,h4⟩:=aB.mp h2;unfold HN at h4;split at h4
  ·rename_i hh;cases h4;have hds:=Hs h3;have du:=R1.BX (_,u) (.head _);obtain⟨bb,a,ys,rfl,n1,n2⟩:=Kp du (show Fq (.list ds)=some ds from rfl);have n1':H1 a=some (.lst ys):=by
    have:=R1.ins _ _ n1;cases bb
    ·simpa using this
    ·exact absurd n1 (by
      have du':=du;intro n1;rw [Du]at du';obtain⟨a',ys',e1,e2,_⟩:=du';cases e1;rw [e2]at n1;cases n1)
   rw [hds]at n2;have ht:=(Fd n2).same R1.ins;have both:∀led,Od led t.bs (WO t.bs)=true:=fun led=>by cases led;exact hh.2.2;exact hh.2.1
   obtain⟨st,r1,r2,r3,r4,r5,r6,r7⟩:=Z1 (both (!X.w.params.followText "set-order"));refine⟨a,ys,t,st,rfl,A4.of n1',ht,hh.1,r1,fun S H' e1 hS=>⟨S,st,rfl,hS,⟨r3,r4,r5,r6,r7⟩,fun l zs hl hz ht'=>?_⟩⟩;rw [r2]at ht';have R2:=(R1.drop.on e1).C0;exact k _ _ _ (R2.MC (Ox ht') hl)
  ·cases h4
 ·cases h2
end
end L2
set_option maxHeartbeats 4000000
set_option maxHeartbeats 1000000
set_option maxHeartbeats 4000000
namespace L2
open PySem PySem.Spec PyProof.Rows
def j5:V→List V→Hp→VK→Prop:=fun x xs H Q=>∃(p:Addr) (ys:List V) (row t:Tr) (v:V),x=.ref p∧xs=[v]∧H p=some (.lst ys)∧Ts H row ys∧row.deep≤60∧Tv H t v∧t∈row.bs∧Q (.int (row.bs.idxOf t:Nat)) H
theorem X2:∀ {l:List Tr} {t:Tr} {m:Nat},m<l.idxOf t→l[m]?≠some t
 |[],_,_,h=>by simp at h
 |x::l,t,m,h=>by
  rw [List.idxOf_cons]at h;by_cases z:x=t
  ·rw [show(x==t)=true by simpa using z]at h;exact absurd h (ak _)
  ·rw [show(x==t)=false by simpa using z]at h;cases m with
   |zero=>simpa using z
   |succ m=>simpa using X2 (l:=l) (t:=t) (m:=m) (by simpa using h)
section
variable{X:Cx}
theorem X4{pins:List (Addr×Obj)}{σ:St}{H:Hp}{s:Shared}(I:Inv X pins σ H s){t:Tr}{v:V}{u:Value}(h:Tv H t v)(r:RelV v u):∃a its,u=.ref a∧s.heap.IsTuple a its.toArray∧TH.Vs s.heap t its:=by
 obtain⟨a,ys,rfl,h1,h2⟩:=h;obtain⟨its,rv,p,_⟩:=I.tuple (A8.of (K:=X.K) h1);exact⟨a,its,r,p,h2.vs I rv⟩
open Classical in
theorem W0(hu:X.A.units+64<cLine):iI X "list.index" j5:=by
 intro pins s σ H x xs v us Q I rx rv h;obtain⟨p,ys,row,t,v',rfl,rfl,hp,ht,hd,tv,hm,q⟩:=h;obtain rfl:v=Value.ref p:=rx;obtain⟨u,rfl,ru⟩:=rv.one;obtain⟨its,n,r,ho,hz⟩:=I.lst hp;obtain⟨b,js,rfl,hb,vb⟩:=X4 I tv ru;have hl:=r.length;have htl:=ht.len;have at_:∀(i:Nat) (y:Value),its[i]? = some y→∃c a zs,row.bs[i]? = some c∧y=.ref a∧s.heap.IsTuple a zs.toArray∧TH.Vs s.heap c zs:=fun i y hy=>by
  have hi:i<its.length:=(aE.mp hy).1;have hyi:ys[i]? = some (ys[i]'(by omega)):=aL _;obtain⟨w,h1,h2⟩:=r.get hyi;rw [hy]at h1;cases h1;obtain⟨c,hc,tc⟩:=ht.get hyi;obtain⟨a,zs,e,h3,h4⟩:=X4 I tc h2;exact⟨c,a,zs,hc,e,h3,h4⟩
 have key:∀(i:Nat) (y:Value) (c:Tr),its[i]? = some y→row.bs[i]? = some c→decide (∃a zs,y=Value.ref a∧s.heap.IsTuple a zs.toArray∧TH.Vs s.heap t zs)=decide (c=t):=fun i y c hy hc=>by
  obtain⟨c',a,zs,h1,rfl,h3,h4⟩:=at_ i y hy;rw [hc]at h1;cases h1;refine decide_eq_decide.mpr ⟨fun⟨a',zs',e,k1,k2⟩=>?_,fun e=>⟨a,zs,rfl,h3,e ▸ h4⟩⟩;cases e;have:zs=zs':=by simpa using TH.Gw h3 k1
  subst this;exact TH.Vs.inj h4 k2
 have hj:row.bs.idxOf t<row.bs.length:=bH.mpr hm;have hj':row.bs.idxOf t<its.length:=by omega
 refine call_meets PySem.F.slot_list_index ⟨_,ho,rfl⟩ PySem.F.entry_list_index (PySem.F.args_list_index_2 _ _)
  (SeqAt.list_indexAt p its.toArray n none #[] (.ref b) (fun y=>decide (∃a zs,y=Value.ref a∧s.heap.IsTuple a zs.toArray∧TH.Vs s.heap t zs)) (row.bs.idxOf t) (by simpa using hj') ?_ ?_ ?_) ⟨ho,fun y hy=>?_,⟨.int _,H,I.tok _,⟨_,rfl⟩,q⟩⟩
 ·have h63:=Kk;omega
 ·show decide _=true;rw [key (row.bs.idxOf t) _ t (by simp) (by rw [List.getElem?_eq_getElem hj,List.getElem_idxOf hj])];simp
 ·intro m hm' hlt;have hm2:m<its.length:=by simpa using hm'
  have hm3:m<row.bs.length:=by omega
  show decide _=false;rw [key m _ row.bs[m] (by simp [hm2]) (aL hm3)];exact bE fun e=>X2 hlt (by rw [List.getElem?_eq_getElem hm3,e])
 ·obtain⟨i,hi,rfl⟩:=Array.getElem_of_mem hy;have hi':i<its.length:=by simpa using hi
  have hyi:its[i]? = some (its.toArray[i]):=by simp [hi']
  obtain⟨c,a,zs,h1,h2,h3,h4⟩:=at_ i _ hyi;have hc:c∈row.bs:=aI h1;have hcd:=Tr.N0 hc;show SeqAt.EqAt _ _ _ _ (decide _);rw [key i _ c hyi h1,h2];exact TH.LF h3 h4 hb vb (by rw [Around.in1_units];omega)
end
end L2
set_option maxHeartbeats 1000000
namespace L2
open PySem PySem.Spec PyProof.Rows
theorem Mm:∀t:Tr,Ep (Bq t)=some t
 |.nil=>by rw [Bq,Ep]
 |.cons b r=>by rw [Bq,Ep,EM,Mm b,Mm r];rfl
theorem Ov(t:Tr):EM (.tuple (Bq t))=some t:=by rw [EM];exact Mm t
theorem ZX{k l:Option Tr}(h:CC k=CC l):k=l:=by
 cases k with
 |none=>cases l with
  |none=>rfl
  |some u=>cases h
 |some t=>cases l with
  |none=>cases h
  |some u =>
   have:=bC EM h;rw [CC,CC,Ov,Ov]at this;exact this
def keyOf:PyData→Option (Option Tr)
 |.none=>some none
 |d=>(EM d).map some
theorem JO{d:PyData}{k:Option Tr}(h:keyOf d=some k):d=CC k:=by
 unfold keyOf at h;split at h
 ·cases h;rfl
 ·obtain⟨t,h1,rfl⟩:=aC.mp h;exact Iq h1
theorem Kv(k:Option Tr):keyOf (CC k)=some k:=by
 cases k with
 |none=>rfl
 |some t=>show(EM (.tuple (Bq t))).map some=_;rw [Ov];rfl
abbrev KD:=Option Tr×PyData
def J8(kvs:List KD)(k:Option Tr):Bool:=(match k with | none=>true | some t=>decide (t.deep<8))&&kvs.all fun q=>decide (TH.BA q.1≠TH.BA k)||decide (q.1=k)
def look(kvs:List KD)(k:Option Tr):Option PyData:=(kvs.find? fun q=>decide (q.1=k)).map (·.2)
def Py(kvs:List KD)(k:Option Tr)(v:PyData):List KD:=if(kvs.find? fun q=>decide (q.1=k)).isSome then kvs.map (fun q=>if q.1=k then(q.1,v) else q) else kvs++[(k,v)]
def Iw:List (PyData×PyData)→Option (List KD)
 |[]=>some []
 |(k,d)::t=>(keyOf k).bind fun l=>(Iw t).map fun r=>(l,d)::r
theorem Vm:∀ {es:List (PyData×PyData)} {kvs:List KD},Iw es=some kvs→es=HZ kvs
 |[],kvs,h=>by cases h;rfl
 |(k,d)::t,kvs,h=>by
  rw [Iw]at h;obtain⟨l,h1,h2⟩:=aB.mp h;obtain⟨r,h3,rfl⟩:=aC.mp h2;rw [JO h1,Vm h3];rfl
theorem Vi:∀kvs:List KD,Iw (HZ kvs)=some kvs
 |[]=>rfl
 |(k,d)::t=>by
  show(keyOf (CC k)).bind _=_;rw [Kv];show(Iw (HZ t)).map _=_;rw [Vi t];rfl
def PR(G:Hp)(p:KD)(q:KR):Prop:=q.1=p.1∧Ge G q.1 q.2.1∧Du G p.2 q.2.2
theorem SD{G:Hp}:∀ {kvs:List KD} {r:List KR},E8 G (HZ kvs) r→PySem.Paired (PR G) kvs r
 |[],r,h=>by
  have h:E8 G [] r:=h;rw [E8]at h;subst h;exact .nil
 |(k,d)::t,r,h=>by
  have h:E8 G ((CC k,d)::HZ t) r:=h;rw [E8]at h;obtain⟨q,r',rfl,h1,h2,h3,h4⟩:=h;exact .cons ⟨(ZX h1).symm,h2,h3⟩ (SD h4)
theorem T9{G:Hp}{kvs:List KD}{r:List KR}(h:PySem.Paired (PR G) kvs r):E8 G (HZ kvs) r:=by
 induction h with
 |nil=>show E8 G [] [];rw [E8]
 | @cons p q l m a _ ih =>
  show E8 G ((CC p.1,p.2)::HZ l) (q::m);rw [E8];exact⟨q,m,rfl,by rw [a.1],a.2.1,a.2.2,ih⟩
theorem dk{G:Hp}{kvs:List KD}{r:List KR}(h:PySem.Paired (PR G) kvs r):r.map (·.1)=kvs.map (·.1):=by
 induction h with
 |nil=>rfl
 |cons a _ ih=>rw [List.map_cons,List.map_cons,ih,a.1]
theorem Vf{G:Hp}{kvs:List KD}{r:List KR}(h:PySem.Paired (PR G) kvs r)(k:Option Tr):match kvs.find? (fun q=>decide (q.1=k)) with
  |some p=>∃q,r.find? (fun q=>decide (q.1=k))=some q∧Du G p.2 q.2.2
  |none=>r.find? (fun q=>decide (q.1=k))=none:=by
 induction h with
 |nil=>exact rfl
 | @cons p q l m a _ ih =>
  rw [List.find?_cons,List.find?_cons,a.1];by_cases z:p.1=k
  ·simp only [decide_eq_true z];exact⟨q,rfl,a.2.2⟩
  ·simp only [decide_eq_false z];exact ih
theorem f9{G:Hp}{kvs:List KD}{r:List KR}{k:Option Tr}{kv v:V}{d:PyData}(h:PySem.Paired (PR G) kvs r)(hk:Ge G k kv)(hv:Du G d v):PySem.Paired (PR G) (Py kvs k d) (Ma r k kv v):=by
 have hr:=Vf h k;unfold Py Ma;split at hr
 ·rename_i p e;obtain⟨q,h1,_⟩:=hr;rw [h1,e];simp only [Option.isSome_some,if_true];clear e h1 hk
  induction h with
  |nil=>exact .nil
  | @cons p q l m a _ ih =>
   rw [List.map_cons,List.map_cons];refine .cons ?_ ih;rw [a.1];by_cases z:p.1=k
   ·rw [if_pos z,if_pos z];exact⟨rfl,a.1 ▸ a.2.1,hv⟩
   ·rw [if_neg z,if_neg z];exact a
 ·rename_i e;rw [hr,e];exact h.snoc ⟨rfl,hk,hv⟩
theorem Xl{r:List KR}{k:Option Tr}{kv v:V}(h:(r.map (·.1)).Nodup):((Ma r k kv v).map (·.1)).Nodup:=by
 unfold Ma;split
 ·have:(r.map (fun q=>if q.1=k then(q.1,q.2.1,v) else q)).map (·.1)=r.map (·.1):=by
   rw [List.map_map];refine aX fun q _=>?_;show(if q.1=k then(q.1,q.2.1,v) else q).1=q.1;split<;>rfl
  rw [this];exact h
 ·rename_i hn;rw [List.map_append,List.nodup_append];refine⟨h,by simp,fun a ha b hb=>?_⟩;have:b=k:=by simpa using hb
  subst this;obtain⟨q,hq,rfl⟩:=aT.mp ha;intro e;have:r.find? (fun q=>decide (q.1=b))=none:=by
   cases z:r.find? (fun q=>decide (q.1=b)) with
   |none=>rfl
   |some w=>rw [z]at hn;exact absurd rfl hn
  exact List.find?_eq_none.mp this q hq (bT e)
theorem XE{G:Hp}{k:Option Tr}{v:V}{kvs:List KD}(h:Du G (CC k) v)(ho:J8 kvs k=true):Ge G k v:=by
 unfold J8 at ho;rw [Bool.and_eq_true]at ho;cases k with
 |none=>rw [CC,Du]at h;exact h
 |some t =>
  rw [CC,Du]at h;obtain⟨a,ys,rfl,h1,h2⟩:=h;exact⟨aP ho.1,a,ys,rfl,h1,Fd h2⟩
theorem cP{G H:Hp}{a:Addr}{kvs:List KD}{r:List KR}{k:Option Tr}(e:AO G H)(ha:H a=some (dN a r))(n:(r.map (·.1)).Nodup)(h:PySem.Paired (PR G) kvs r)(ho:J8 kvs k=true):SJ H a r k:=by
 refine⟨ha,fun q hq=>?_,n,fun q hq hh=>?_⟩
 ·obtain⟨p,_,h1,h2,_⟩:=Im h q hq;exact h2.same e
 ·obtain⟨p,hp,h1,_⟩:=Im h q hq;unfold J8 at ho;rw [Bool.and_eq_true]at ho;have:=aN.mp ho.2 p hp;rw [Bool.or_eq_true]at this;rw [h1]at hh ⊢;rcases this with z | z
  ·exact absurd hh (aP z)
  ·exact aP z
def od(i:Nat)(δ:Dv):Option (List KD):=match δ[i]? with
 |some (.own (.FH kvs))=>some kvs
 |_=>none
theorem b7{i:Nat}{δ:Dv}{kvs:List KD}(h:od i δ=some kvs):δ[i]? = some (.own (.FH kvs)):=by
 unfold od at h;split at h
 ·rename_i y e;cases h;exact e
 ·cases h
abbrev Z8(i:Nat)(f g:Dv→Option PyData):DF:=fun δ=>(f δ).bind fun y=>(g δ).bind fun n=>(od i δ).bind fun kvs=>(keyOf n).bind fun k=>if J8 kvs k=true∧kvs.length≤500 then some (.nx (δ.set i (.own (.FH (Py kvs k y))))) else none
def HK:PyData→PyData→Option PyData:=fun x y=>match x with
 |.dict ((.bool true,.none)::es)=>(Iw es).bind fun kvs=>(keyOf y).bind fun k=>if J8 kvs k=true then look kvs k else none
 |_=>none
theorem QP{kvs:List KD}{k:Option Tr}{d:PyData}(h:J8 kvs k=true)(hl:look kvs k=some d):HK (Bo kvs) (CC k)=some d:=by
 show(Iw (HZ kvs)).bind _=_;rw [Vi];show(keyOf (CC k)).bind _=_;rw [Kv];exact(if_pos h).trans hl
theorem eW{G:Hp}{kvs:List KD}{u:V}(h:Du G (Bo kvs) u):∃a r,u=.ref a∧G a=some (dN a r)∧(r.map (·.1)).Nodup∧PySem.Paired (PR G) kvs r:=by
 rw [Du,Jt]at h;rcases h with ⟨_,_,e,_⟩ | ⟨_,_,e,_⟩ | ⟨_,_,a,r,e,h1,h2,h3⟩
 ·simp at e
 ·simp at e
 ·exact⟨a,r,e,h1,h2,SD h3⟩
section
variable{X:Cx}{a b c e:Expr}{es:List Expr}{f g h:Dv→Option PyData}{pos p dp pos':Pos}
theorem Yu{i:Nat}{x:Str}{np sp:Pos}(hv:PE X (.Name x np) (J6 i))(hk:DE X a g)(he:DE X e f)
 (hP:∀ {te to ti:TE},PE X e te→PE X (.Name x np) to→PE X a ti→PS X (.Assign [.Subscript (.Name x np) a sp] e pos) (Qc te (a9 to ti cL))):DS X (.Assign [.Subscript (.Name x np) a sp] e pos) (Z8 i f g):=by
 obtain⟨te,pe,ke⟩:=he;obtain⟨tk,pk,kk⟩:=hk;refine⟨_,hP pe hv pk,fun δ r h G0 H0 G H σ D R q=>?_⟩;obtain⟨y,h1,h2⟩:=aB.mp h;obtain⟨n,h3,h4⟩:=aB.mp h2;obtain⟨kvs,h5,h6⟩:=aB.mp h4;obtain⟨k,h7,h8⟩:=aB.mp h6;split at h8
 ·rename_i hc;cases h8;have:=JO h7;subst this;have hi:=b7 h5;refine ke δ y h1 G0 H0 G H σ [] _ R fun u G1 H1 R1=>?_;obtain⟨ad,_,k1,k2,k3,k4,k5⟩:=R1.own i _ hi;refine⟨.ref ad,k1,?_⟩;refine kk δ _ h3 G0 H0 G1 H1 σ _ _ R1 fun v G2 H2 R2=>?_;have dv:=XE (R2.BX (CC k,v) (.head _)) hc.1;obtain⟨ad',_,m1,m2,m3,m4,⟨rr,rfl,m5,m6⟩⟩:=R2.own i _ hi;rw [k1]at m1;cases m1;have pr:=SD m6;have hl:rr.length=kvs.length:=by have:=bC List.length (dk pr);simpa using this
  refine⟨ad,rr,k,rfl,dv.same R2.ins,cP R2.ins m4 m5 pr hc.1,by omega,?_⟩;exact q _ _ _ (R2.drop.drop.Rp hi k1 ⟨_,rfl,Xl m5,T9 (f9 pr dv (R2.BX (y,u) (.tail _ (.head _))))⟩)
 ·cases h8
theorem JT(hu:X.A.units+64<cLine)(ha:DE X a f)(hb:DE X b g)(hs:ZR b):DE X (.Subscript a b pos) (AI HK f g):=by
 obtain⟨ta,pa,ka⟩:=ha;obtain⟨tb,pb,kb⟩:=hb;refine⟨_,iw hu pa pb hs,fun δ z hz G0 H0 G H σ ts Q R0 k=>?_⟩;obtain⟨x,y,h1,h2,h3⟩:=two (x:=.none) (y:=.none) hz;refine ka δ x h1 G0 H0 G H σ ts _ R0 fun u G1 H1 R1=>?_;refine kb δ y h2 G0 H0 G1 H1 σ _ _ R1 fun v G2 H2 R2=>?_;have du:=R2.BX (x,u) (.tail _ (.head _));have dv:=R2.BX (y,v) (.head _);unfold HK at h3;split at h3
 ·obtain⟨kvs,h4,h5⟩:=aB.mp h3;obtain⟨kk,h6,h7⟩:=aB.mp h5;split at h7
  ·rename_i hc;have:=Vm h4;subst this;have:=JO h6;subst this;obtain⟨ad,r,rfl,n1,n2,n3⟩:=eW du;have hf:=Vf n3 kk;unfold look at h7;obtain⟨p,h8,rfl⟩:=aC.mp h7;rw [h8]at hf;obtain⟨q,h9,h10⟩:=hf;exact⟨ad,r,kk,q,rfl,(XE dv hc).same R2.ins,cP R2.ins (R2.ins _ _ n1) n2 n3 hc,h9,k _ _ _ (R2.drop.drop.put h10)⟩
  ·cases h7
 ·cases h3
def E4(x y:PyData):Option PyData:=match x with
 |.list ds=>(Ep ds).bind fun row=>(EM y).bind fun t=>if t∈row.bs∧row.deep≤60 then some (.int (row.bs.idxOf t:Nat)) else none
 |_=>none
theorem Qv{i:Nat}{x:Str}{np cp ap:Pos}(hu:X.A.units+64<cLine)(hv:PE X (.Name x np) (J6 i))(ha:DE X e f)
 (hbase:attributeBase (.Name x np) "index" X.env (eval (.Name x np) X.env)=eval (.Name x np) X.env:=by rfl)
 (hfew:((backTo cp (starEach [e] X.env)).all (fun x=>!x.1)&&(backToKw cp (keywordEach [] X.env)).all (fun x=>x.1.isSome)
   && decide (([e]:List Expr).length+([]:List Keyword).length+(if([]:List Keyword).isEmpty then 0 else 1)<30))=true:=by rfl)
 (hline:(ap.endLine==cp.line)=true:=by rfl)(hs:starEach [e] X.env=(false,eval e X.env)::starEach [] X.env:=by rfl)(hplain:(backTo cp (starEach [] X.env)).any (·.1)=false:=by rfl) :
  DE X (.Call (.Attribute (.Name x np) "index" ap) [e] [] cp) (AI E4 (nm i) f):=by
 obtain⟨ta,pa,ka⟩:=ha;refine⟨_,Hc ax PySem.F.slot_list_index PySem.F.type_list_index (W0 hu) hv (Aa pa A6 hs) hbase hfew hline hs hplain,fun δ z hz G0 H0 G H σ ts Q R0 k=>?_⟩;obtain⟨y,n,h1,h2,h3⟩:=two (x:=.none) (y:=.none) hz;unfold E4 at h3;split at h3
 ·rename_i ds;obtain⟨row,h4,h5⟩:=aB.mp h3;obtain⟨t,h6,h7⟩:=aB.mp h5;split at h7
  ·rename_i hc;cases h7;obtain⟨w,k1,k2⟩:=R0.dat _ _ (WA h1);rw [Du]at k2;obtain⟨ad,ys,rfl,k3,k4⟩:=k2;refine⟨.ref ad,k1,.inl ⟨rfl,ys,A4.of (R0.ins _ _ k3)⟩,?_⟩;refine ka δ n h2 G0 H0 G H σ ts _ R0 fun u G1 H1 R1=>?_;have du:=R1.BX (_,u) (.head _);have:=Iq h6;subst this;rw [Du]at du;obtain⟨bd,zs,rfl,m1,m2⟩:=du;obtain⟨w',k1',k2'⟩:=R1.dat _ _ (WA h1);rw [k1]at k1';cases k1';rw [Du]at k2';obtain⟨ad',ys',e1,k3',k4'⟩:=k2';cases e1;have hds:=Hs h4;rw [hds]at k4';exact⟨ad,ys',row,t,_,rfl,rfl,R1.ins _ _ k3',(Fd k4').same R1.ins,hc.2,⟨bd,zs,rfl,R1.ins _ _ m1,(Fd m2).same R1.ins⟩,hc.1,k _ _ _ (R1.drop.put (by rw [Du]))⟩
  ·cases h7
 ·cases h3
end
mutual
def LO:PyData→Bool
 |.tuple ds=>J4 ds
 |.list ds=>J4 ds
 |.dict kv=>Wc kv
 |_=>true
def J4:List PyData→Bool
 |[]=>true
 |d::ds=>LO d&&J4 ds
def Wc:List (PyData×PyData)→Bool
 |[(.none,_)]=>true
 |_=>false
end
def less(G:Hp)(a:Addr):Hp:=fun b=>if b=a then none else G b
theorem HM{G:Hp}{a b:Addr}(h:b≠a):less G a b=G b:=if_neg h
theorem QB{G:Hp}{a:Addr}:less G a a=none:=if_pos rfl
theorem gV{a:Addr}{r:List KR}{xs:List V}:dN a r≠.tup xs:=fun h=>by unfold dN at h;cases h
theorem Xo{a:Addr}{r:List KR}{xs:List V}:dN a r≠.lst xs:=fun h=>by unfold dN at h;cases h
theorem gA{a:Addr}{r:List KR}{o:Obj}{u:HO}:dN a r≠.Ed o u:=fun h=>by unfold dN at h;cases h
mutual
theorem Uy{G:Hp}{a:Addr}{r:List KR}(ha:G a=some (dN a r)):∀ {d:PyData} {v:V},LO d=true→Du G d v→Du (less G a) d v
 |.none,_,_,h=>by rw [Du]at h ⊢;exact h
 |.bool _,_,_,h=>by rw [Du]at h ⊢;exact h
 |.int _,_,_,h=>by rw [Du]at h ⊢;exact h
 |.str _,_,_,h=>by rw [Du]at h ⊢;exact h
 |.tuple ds,_,n,h=>by
  rw [Du]at h ⊢;obtain⟨b,xs,e1,h1,h2⟩:=h;exact⟨b,xs,e1,by rw [HM fun z=>by subst z;rw [ha]at h1;exact gV (aY h1)];exact h1,Kx ha (by simpa [LO]using n) h2⟩
 |.list ds,_,n,h=>by
  rw [Du]at h ⊢;obtain⟨b,xs,e1,h1,h2⟩:=h;exact⟨b,xs,e1,by rw [HM fun z=>by subst z;rw [ha]at h1;exact Xo (aY h1)];exact h1,Kx ha (by simpa [LO]using n) h2⟩
 |.dict kv,v,n,h=>by
  rw [Du]at h ⊢;rcases h with ⟨ea,C,e1,e2,h1⟩ | ⟨b,ns,e1,e2,h1⟩ | h
  ·rw [e1]at n;simp [LO,Wc]at n
  ·refine .inr (.inl ⟨b,ns,e1,e2,?_⟩);rcases h1 with h1 | ⟨o,h1⟩
   ·exact .inl (by rw [HM fun z=>by subst z;rw [ha]at h1;exact Xo (aY h1)];exact h1)
   ·exact .inr ⟨o,by rw [HM fun z=>by subst z;rw [ha]at h1;exact gA (aY h1)];exact h1⟩
  ·exfalso
   cases kv with
   |nil=>rw [Jt]at h;exact h
   |cons p t =>
    obtain⟨k0,d0⟩:=p;rw [Jt]at h;rw [h.1]at n;simp [LO,Wc]at n
theorem Kx{G:Hp}{a:Addr}{r:List KR}(ha:G a=some (dN a r)):∀ {ds:List PyData} {xs:List V},J4 ds=true→Ae G ds xs→Ae (less G a) ds xs
 |[],_,_,h=>by rw [Ae]at h ⊢;exact h
 |d::ds,_,n,h=>by
  obtain⟨x,q,rfl,h1,h2⟩:=h.un;simp only [J4,Bool.and_eq_true]at n;exact .cons (Uy ha n.1 h1) (Kx ha n.2 h2)
end
def Wm:L→Bool
 |.own (.lst xs)=>J4 xs
 |.own _=>false
 |_=>true
def alone(i:Nat)(δ:Dv):Bool:=(δ.set i .no).all Wm
abbrev R7(i:Nat)(f:Dv→Option PyData):Dv→Option PyData:=fun δ=>(od i δ).bind fun kvs=>(f (δ.set i (.d (Bo kvs)))).bind fun x=>if LO x=true∧alone i δ=true then some x else none
end L2
set_option maxHeartbeats 4000000
namespace ZT
open PySem PyProof.Rows
def K9(h:Heap)(z TI TO T:Addr)(b:Bool):Prop:=h.get? z=some { cls:=.type "zip",data:=.fields #[rawInt T,.bool b,.bool false,.ref TI,.ref TO] }∧∃o,h.get? T=some o
section
variable{prog:Program}{w:World}{A:Around}{E:Value→Shared→Prop}{s:Shared}{z TI TO T i1 i2:Addr}{f1 f2:List Addr}{n1 n2 k:Nat}{P1 P2:Nat→Value→Prop}{S1 S2:Nat→Heap→Prop}{b:Bool}
theorem Vl{Q:Bool→Shared→Prop}(hz:K9 s.heap z TI TO T b)(hT:T≠z)(q:∀h',K9 h' z TI TO T true→Heap.SameBut z s.heap h'→Q false { s with heap:=h' }):wpAny (model prog w) A (Builtin.SmallTypes.ownedTupleIsFree (.ref z)) Q E s:=by
 obtain⟨hz,o,ho⟩:=hz;unfold Builtin.SmallTypes.ownedTupleIsFree;refine Wb (ao hz rfl (x:=rawInt T) rfl ?_);show wpAny _ _ (loadIfAlive (Int.toNat (T:Int))>>=_) _ _ _;rw [Int.toNat_natCast];refine Wb (PySem.W.kdx_alive ho ?_);show wpAny _ _ (field (.ref z) 1>>=_) _ _ _;refine Wb (ao hz rfl (x:=.bool b) rfl ?_);cases b with
 |true=>exact Wb (aA (aA (q _ ⟨hz,o,ho⟩ (Heap.SameBut.refl ..))))
 |false =>
  show wpAny _ _ (setField (.ref z) 1 (.bool true)>>=_) _ _ _;refine Wb (bU hz (by simp) fun g1 z1 m1=>aA (q g1 ⟨z1,o,(m1.2 _ hT).trans ho⟩ m1))
theorem Xe{Q:Value→Shared→Prop}(D1:Draws prog w A i1 f1 n1 P1 S1)(D2:Draws prog w A i2 f2 n2 P2 S2)(ap:Apart z TI TO i1 i2 f1 f2)(hz:K9 s.heap z TI TO T b)(hI:IsPair s.heap TI (.ref i1) (.ref i2))
 (hT:T≠z∧T≠i1∧T≠i2)(t1:S1 k s.heap)(t2:S2 k s.heap)(l1:k<n1)(l2:k<n2)
 (q:∀x y h' tk,P1 k x→P2 k y→K9 h' z TI TO T true→S1 (k+1) h'→S2 (k+1) h'→IsPair h' s.heap.objs.size x y→h'.objs.size=s.heap.objs.size+1 →
   (∀c o,c≠z→c≠i1→c≠i2→s.heap.get? c=some o→h'.get? c=some o)→Q (.ref s.heap.objs.size) { s with heap:=h',toks:=tk }) :
  wpAny (model prog w) A (Builtin.«zip.__next__» ⟨[.ref z],[]⟩) (fun fin s'=>∃v,fin=.done (.ret v)∧Q v s') E s:=by
 obtain⟨⟨c1,c2,c3,c4⟩,⟨c5,c6,c7⟩,⟨c8,c9,c10⟩,⟨d1,d2,d3⟩,d4,d5,d6⟩:=ap;show wpAny _ _ (field (.ref z) 2>>=_) _ _ _;refine Wb (ao hz.1 rfl (x:=.bool false) rfl ?_);show wpAny _ _ (field (.ref z) 3>>=_) _ _ _;refine Wb (ao hz.1 rfl (x:=.ref TI) rfl (Wb (az hI rfl ?_)));show wpAny _ _ (Builtin.SmallTypes.ownedTupleIsFree (.ref z)>>=_) _ _ _;refine Wb (Vl hz hT.1 fun g1 z1 m1=>?_);simp only [Bool.false_eq_true,if_false];have m1:Heap.SameBut z s.heap g1:=m1;rw [←Array.forIn_toList];simp only [List.forIn_cons,List.forIn_nil];refine Wb (Wb (Wb (aQ ?_)));show wpAny _ _ (Builtin.SmallTypes.nextOf (.ref i1)>>=_) _ _ _;refine Wb (D1.item k _ _ _ l1 (D1.frame _ _ _ t1 (B7 d1 m1)) fun x g2 tk2 p1 u1 m2=>aA (aA ?_));have m2:Heap.SameBut i1 g1 g2:=m2;have t2':S2 k g2:=D2.frame _ _ _ (D2.frame _ _ _ t2 (B7 d4 m1)) (B7 d6 m2);refine Wb (Wb (aQ ?_));show wpAny _ _ (Builtin.SmallTypes.nextOf (.ref i2)>>=_) _ _ _;refine Wb (D2.item k _ _ _ l2 t2' fun y g4 tk4 p2 u2 m4=>aA (aA (aA ?_)));have m4:Heap.SameBut i2 g2 g4:=m4;show wpAny _ _ (newTuple [x,y]>>=_) _ _ _;refine Wb (wpAny_newTuple (hsz:=by rw [sizeLine_eq];show(2:Nat)≤_;decide) ?_);have sz:g4.objs.size=s.heap.objs.size:=by rw [m4.1,m2.1,m1.1]
 have kp:∀c o,c≠i1→c≠i2→g1.get? c=some o→(g4.push { cls:=.type "tuple",data:=.seq #[x,y] }).get? c=some o:=fun c o e3 e4 e=>aD _ ((m4.2 _ e4).trans ((m2.2 _ e3).trans e));obtain⟨z1,o,ho⟩:=z1;have fin:=q x y (g4.push { cls:=.type "tuple",data:=.seq #[x,y] }) tk4 p1 p2 ⟨kp _ _ c8.symm c9.symm z1,o,kp _ _ hT.2.1 hT.2.2 ho⟩ (D1.frame _ _ _ (D1.frame _ _ _ u1 (B7 d3 m4)) fun c hc o e=>aD _ e) (D2.frame _ _ _ u2 fun c hc o e=>aD _ e)
  (by rw [←sz];exact aO _ rfl) (by rw [←sz,Heap.size_push]) fun c o e1 e3 e4 e=>kp c o e3 e4 ((m1.2 _ e1).trans e)
 rw [←sz]at fin;exact aA ⟨_,rfl,fin⟩
theorem Z2{Q:Fin→Shared→Prop}(D1:Draws prog w A i1 f1 n1 P1 S1)(D2:Draws prog w A i2 f2 n2 P2 S2)(ap:Apart z TI TO i1 i2 f1 f2)(hz:K9 s.heap z TI TO T b)(hI:IsPair s.heap TI (.ref i1) (.ref i2))
 (hT:T≠z)(t1:S1 k s.heap)(t2:S2 k s.heap)(he:k=n1∨(k<n1∧k=n2))
 (q:∀h' e tk,(∀c o,c≠z→c≠i1→c≠i2→s.heap.get? c=some o→h'.get? c=some o)→(∃o,h'.get? e=some o∧o.cls=.type "StopIteration")→E (.ref e) { s with heap:=h',toks:=tk }) :
  wpAny (model prog w) A (Builtin.«zip.__next__» ⟨[.ref z],[]⟩) Q E s:=by
 obtain⟨⟨c1,c2,c3,c4⟩,⟨c5,c6,c7⟩,⟨c8,c9,c10⟩,⟨d1,d2,d3⟩,d4,d5,d6⟩:=ap;show wpAny _ _ (field (.ref z) 2>>=_) _ _ _;refine Wb (ao hz.1 rfl (x:=.bool false) rfl ?_);show wpAny _ _ (field (.ref z) 3>>=_) _ _ _;refine Wb (ao hz.1 rfl (x:=.ref TI) rfl (Wb (az hI rfl ?_)));show wpAny _ _ (Builtin.SmallTypes.ownedTupleIsFree (.ref z)>>=_) _ _ _;refine Wb (Vl hz hT fun g1 z1 m1=>?_);simp only [Bool.false_eq_true,if_false];have m1:Heap.SameBut z s.heap g1:=m1;rw [←Array.forIn_toList];simp only [List.forIn_cons,List.forIn_nil];refine Wb (Wb (Wb (aQ ?_)));show wpAny _ _ (Builtin.SmallTypes.nextOf (.ref i1)>>=_) _ _ _;have t1':=D1.frame _ _ _ t1 (B7 d1 m1);rcases he with he | ⟨he1,he2⟩
 ·rw [he]at t1';refine Wb (D1.done _ _ _ t1' fun g2 e m2 ho=>?_);exact q g2 e _ (fun c o e1 e3 e4 y=>m2 _ _ e3 ((m1.2 _ e1).trans y)) ho
 ·refine Wb (D1.item k _ _ _ he1 t1' fun x g2 tk2 p1 u1 m2=>aA (aA ?_));have m2:Heap.SameBut i1 g1 g2:=m2;have t2':S2 k g2:=D2.frame _ _ _ (D2.frame _ _ _ t2 (B7 d4 m1)) (B7 d6 m2);rw [he2]at t2';refine Wb (Wb (aQ ?_));show wpAny _ _ (Builtin.SmallTypes.nextOf (.ref i2)>>=_) _ _ _;refine Wb (D2.done _ _ _ t2' fun g4 e m4 ho=>?_);exact q g4 e _ (fun c o e1 e3 e4 y=>m4 _ _ e4 ((m2.2 _ e3).trans ((m1.2 _ e1).trans y))) ho
theorem X5{Q:Option Value→Shared→Prop}(D1:Draws prog w A.in1 i1 f1 n1 P1 S1)(D2:Draws prog w A.in1 i2 f2 n2 P2 S2)(ap:Apart z TI TO i1 i2 f1 f2)(hz:K9 s.heap z TI TO T b)(hI:IsPair s.heap TI (.ref i1) (.ref i2))
 (hT:T≠z∧T≠i1∧T≠i2)(t1:S1 k s.heap)(t2:S2 k s.heap)(l1:k<n1)(l2:k<n2)
 (q:∀x y h' tk,P1 k x→P2 k y→K9 h' z TI TO T true→S1 (k+1) h'→S2 (k+1) h'→IsPair h' s.heap.objs.size x y→h'.objs.size=s.heap.objs.size+1 →
   (∀c o,c≠z→c≠i1→c≠i2→s.heap.get? c=some o→h'.get? c=some o)→Q (some (.ref s.heap.objs.size)) { s with heap:=h',toks:=tk }) :
  wpAny (model prog w) A (pyNext (.ref z)) Q E s:=by
 have hTy:s.TypeIs (.ref z) "zip" := ⟨_,hz.1,rfl⟩;unfold pyNext;exact Wb (wpAny_attempt (aj (name:=Str.ofString "__next__") hTy bW
  (aW bW hTy F.entry_zip_next (Xe D1 D2 ap hz hI hT t1 t2 l1 l2 fun x y h' tk r1 r2 r3 r4 r5 r6 r7 r8=>aA (q x y h' tk r1 r2 r3 r4 r5 r6 r7 r8)) (F.args_zip_next_1 _))))
theorem RV{Q:Option Value→Shared→Prop}(D1:Draws prog w A.in1 i1 f1 n1 P1 S1)(D2:Draws prog w A.in1 i2 f2 n2 P2 S2)(ap:Apart z TI TO i1 i2 f1 f2)(hz:K9 s.heap z TI TO T b)(hI:IsPair s.heap TI (.ref i1) (.ref i2))
 (hT:T≠z)(t1:S1 k s.heap)(t2:S2 k s.heap)(he:k=n1∨(k<n1∧k=n2))
 (q:∀h' tk,(∀c o,c≠z→c≠i1→c≠i2→s.heap.get? c=some o→h'.get? c=some o)→Q none { s with heap:=h',toks:=tk }) :
  wpAny (model prog w) A (pyNext (.ref z)) Q E s:=by
 have hTy:s.TypeIs (.ref z) "zip" := ⟨_,hz.1,rfl⟩;unfold pyNext;refine Wb (wpAny_attempt (aj (name:=Str.ofString "__next__") hTy bW
  (aW bW hTy F.entry_zip_next (Z2 D1 D2 ap hz hI hT t1 t2 he fun h' e tk kp ho=>?_) (F.args_zip_next_1 _))))
 obtain⟨o,ho,hc⟩:=ho;exact Wb (wpAny_isInstance (T := "StopIteration") (b:=true) ⟨o,ho,hc⟩ isSubtype_stop (aA (q _ _ kp)))
end
end ZT
namespace TH
open PySem PyProof.Rows
theorem OO:typeLookup (.type "zip") "__getattr__" = pure none:=by rw [typeLookup_type,builtinLookup_eq_fast];kernel_rfl
theorem RU:typeLookup (.type "zip") "keys" = pure none:=by rw [typeLookup_type,builtinLookup_eq_fast];kernel_rfl
theorem OM:entryFor table "zip.__getattribute__" = some Builtin.«object.__getattribute__» :=
 entryFor_alias (id' := "object.__getattribute__") (by kernel_rfl) (by decide +kernel) (by decide +kernel) (by kernel_rfl)
theorem bf(a:Addr)(xs:Array Value)(u:Tok) :
  Meets (Builtin.«object.__getattribute__» ⟨[.ref a,.str "keys" u],[]⟩) (fun A R s=>s.heap.get? a=some { cls:=.type "zip",dict:=none,data:=.fields xs,slots:=#[] }∧raisesAttr (.ref a) "keys" A R s) :=
 Meets.of_wp fun prog w A R s hs=>by
  obtain⟨hp,g,d,tk,os⟩:=s;obtain⟨hx,hs⟩:=hs;have hT:(⟨hp,g,d,tk,os⟩:Shared).TypeIs (.ref a) "zip" := ⟨_,hx,rfl⟩;have hmiss:=RU;unfold Builtin.«object.__getattribute__»
  repeat (any_goals (first | assumption | wp_step))
  exact wpAny_raiseAttrError hs.1 hs.2 (attrMsg_fits (by decide +kernel) (by size_fits))
theorem dR{prog:Program}{w:World}{A:Around}{E:Value→Shared→Prop}{s:Shared}{a:Addr}{xs:Array Value}{Q:Option Value→Shared→Prop}
 (hx:s.heap.get? a=some { cls:=.type "zip",dict:=none,data:=.fields xs,slots:=#[] })(hA:A.handled=none)
 (h:∀h' tk,(∀c o,s.heap.get? c=some o→h'.get? c=some o)→Q none { s with heap:=h',toks:=tk }) :
  wpAny (model prog w) A (getAttr? (.ref a) "keys") Q E s:=by
 obtain⟨hp,g,d,tk,os⟩:=s;have hT:∀tk',(⟨hp,g,d,tk',os⟩:Shared).TypeIs (.ref a) "zip" := fun _=>⟨_,hx,rfl⟩;have f1:=sub_AttributeError;have f3:=F.slot_zip_getattribute.lookup;have f4:=F.slot_zip_getattribute.bind (.ref a);have f5:=OO;unfold getAttr? getAttrBy? getAttrBy
 repeat (any_goals (first | assumption | exact hT _ | ((with_reducible show wpAny _ _ (call (Value.builtin "zip.__getattribute__") _ _) _ _ _);refine call_meets F.slot_zip_getattribute (hT _) OM (F.args_zip_getattribute_2 _ _) (bf a xs _) ⟨hx,hA,fun h' tk' e hx'=>?_⟩) | wp_step))
 obtain⟨t',u',he⟩:=hx'.there;show wpAny _ _ (getattributeRaised _ _ _ _ _ _ _) _ _ _;unfold getattributeRaised
 repeat (any_goals (first | assumption | wp_step))
 exact h _ _ hx'.keeps
section
variable{prog:Program}{w:World}{A:Around}{E:Value→Shared→Prop}{s:Shared}{k:Option Tr}{kv:Value}{d:Addr}{xs:List KE}
theorem Xb{v:Value}{Q:Unit→Shared→Prop}(hu:A.units+8<cLine)(hk:FO s.heap k kv)(hm:EA s.heap d xs)(hap:∀x∈xs,BA x.1=BA k→x.1=k)(hz:xs.length≤sizeLine)
 (fin:∀h',EA h' d (Cm xs k kv v)→Heap.SameBut d s.heap h'→Q () { s with heap:=h',toks:=s.toks+Cj k }):wpAny (model prog w) A (dictSet d kv v) Q E s:=by
 obtain⟨o,es,ep,ho,hc,hd,he⟩:=hm.ob;unfold dictSet
 try with_reducible refine aQ ?_
 refine Wb (UR hu hk ?_);unfold dictSetHashed
 try with_reducible refine aQ ?_
 refine Wb (SA (s:={ s with toks:=s.toks+Cj k }) hu hk ho hd he hm.ks hm.nd hap (fun hno=>?_) fun j x hj hx=>?_)
 ·have es':Cm xs k kv v=xs++[(k,kv,v)]:=by unfold Cm;rw [IY hno];rfl
  rw [es']at fin;refine Wb (bJ (wpAny_updateDictKeys (hz:=by rw [OV he];exact hz) (s:={ s with toks:=s.toks+Cj k }) ho hd (fin _ ⟨⟨_,_,ep+1,Heap.get?_update_self _ ho (Obj.isFreed_of_dict (Obj.data_mapDictKeys hd _)),hc.mapDictKeys _,Obj.data_mapDictKeys hd _,?_⟩,fun y hy=>?_,?_⟩ (aU ..))))
  ·simp [he,DM]
  ·rcases ba.mp hy with h | h
   ·exact(hm.ks y h).keep prog w ho hd (aU ..)
   ·rw [List.mem_singleton.mp h];exact hk.keep prog w ho hd (aU ..)
  ·rw [List.map_append,List.nodup_append];refine⟨hm.nd,by simp,fun a ha b hb=>?_⟩;have:b=k:=by simpa using hb
   subst this;obtain⟨y,hy,rfl⟩:=aT.mp ha;exact hno y hy
 ·have es':Cm xs k kv v=xs.map (putN k v):=by unfold Cm;rw [Ku hm.nd hj hx];rfl
  rw [es']at fin;refine Wb (bJ (Wb (wpAny_updateDict (s:={ s with toks:=s.toks+Cj k }) ho hd (wpAny_point (fin _ ⟨⟨_,_,ep,Heap.get?_update_self _ ho (Obj.isFreed_of_dict (Obj.data_mapDict hd _)),hc.mapDict _,Obj.data_mapDict hd _,?_⟩,fun y hy=>?_,?_⟩ (aU ..))))))
  ·have:=LK (v:=v) hm.nd hj hx;rw [←he]at this;obtain⟨l⟩:=es
   simpa using this
  ·obtain⟨z,hz',rfl⟩:=aT.mp hy;unfold putN;split<;>exact(hm.ks z hz').keep prog w ho hd (aU ..)
  ·rw [OT];exact hm.nd
end
section
variable{prog:Program}{w:World}{A:Around}{E:Value→Shared→Prop}{s:Shared}{z TI TO i1 i2 d n:Addr}{f1 f2:List Addr}{P1 P2:Nat→Value→Prop}{S1 S2:Nat→Heap→Prop}
def Tu(h:Heap)(z TI TO d:Addr):Prop:=(IsZip h z TI TO .none∧∃a b,IsPair h TO a b)∨∃T b,ZT.K9 h z TI TO T b∧d<T
theorem Tu.keep{h h':Heap}(st:Tu h z TI TO d)(hz:z<d)(hO:TO<d)(e:Heap.SameBut d h h'):Tu h' z TI TO d:=by
 rcases st with ⟨h1,a,b,h2⟩ | ⟨T,b,⟨h1,o,h2⟩,h3⟩
 ·exact .inl ⟨(e.2 _ (aG hz)).trans h1,a,b,(e.2 _ (aG hO)).trans h2⟩
 ·exact .inr ⟨T,b,⟨(e.2 _ (aG hz)).trans h1,o,(e.2 _ (ag h3)).trans h2⟩,h3⟩
structure cj(z TI TO i1 i2 d:Addr):Prop where
 z:z<d
 I:TI<d
 O:TO<d
 a:i1<d
 b:i2<d
theorem kG{n1 n2 k:Nat}{Q:Option Value→Shared→Prop}(lw:cj z TI TO i1 i2 d)(hd:d<s.heap.objs.size)(D1:Draws prog w A.in1 i1 f1 n1 P1 S1)(D2:Draws prog w A.in1 i2 f2 n2 P2 S2)(ap:ZT.Apart z TI TO i1 i2 f1 f2)(st:Tu s.heap z TI TO d)(hI:IsPair s.heap TI (.ref i1) (.ref i2))
 (t1:S1 k s.heap)(t2:S2 k s.heap)(l1:k<n1)(l2:k<n2)
 (q:∀x y h' tk,P1 k x→P2 k y→Tu h' z TI TO d→S1 (k+1) h'→S2 (k+1) h'→IsPair h' s.heap.objs.size x y→h'.objs.size=s.heap.objs.size+1 →
   (∀c o,c≠z→c≠TO→c≠i1→c≠i2→s.heap.get? c=some o→h'.get? c=some o)→Q (some (.ref s.heap.objs.size)) { s with heap:=h',toks:=tk }) :
  wpAny (model prog w) A (pyNext (.ref z)) Q E s:=by
 rcases st with ⟨h1,a,b,h2⟩ | ⟨T,b,h1,h3⟩
 ·exact ZT.next_item D1 D2 ap h1 hI h2 t1 t2 l1 l2 fun x y h' tk r1 r2 r3 r4 r5 r6 r7 r8 r9=>q x y h' tk r1 r2 (.inr ⟨_,false,⟨r3,_,r7⟩,hd⟩) r5 r6 r7 r8 r9
 ·exact ZT.X5 D1 D2 ap h1 hI ⟨ag (bZ lw.z h3),Nat.ne_of_gt (bZ lw.a h3),Nat.ne_of_gt (bZ lw.b h3)⟩ t1 t2 l1 l2 fun x y h' tk r1 r2 r3 r5 r6 r7 r8 r9=>q x y h' tk r1 r2 (.inr ⟨T,true,r3,h3⟩) r5 r6 r7 r8 fun c o e1 e2 e3 e4 e=>r9 c o e1 e3 e4 e
theorem Xk{n1 n2 k:Nat}{Q:Option Value→Shared→Prop}(lw:cj z TI TO i1 i2 d)(D1:Draws prog w A.in1 i1 f1 n1 P1 S1)(D2:Draws prog w A.in1 i2 f2 n2 P2 S2)(ap:ZT.Apart z TI TO i1 i2 f1 f2)(st:Tu s.heap z TI TO d)(hI:IsPair s.heap TI (.ref i1) (.ref i2))
 (t1:S1 k s.heap)(t2:S2 k s.heap)(he:k=n1∨(k<n1∧k=n2))
 (q:∀h' tk,(∀c o,c≠z→c≠TO→c≠i1→c≠i2→s.heap.get? c=some o→h'.get? c=some o)→Q none { s with heap:=h',toks:=tk }) :
  wpAny (model prog w) A (pyNext (.ref z)) Q E s:=by
 rcases st with ⟨h1,a,b,h2⟩ | ⟨T,b,h1,h3⟩
 ·exact ZT.next_end D1 D2 ap h1 hI h2 t1 t2 he q
 ·exact ZT.RV D1 D2 ap h1 hI (ag (bZ lw.z h3)) t1 t2 he fun h' tk kp=>q h' tk fun c o e1 e2 e3 e4 e=>kp c o e1 e3 e4 e
theorem Hh:plainId "dict.update.loop" = true:=by decide +kernel
theorem Nm:entryFor table "dict.update.loop" = some Builtin.«dict.update.loop»:=entryFor_of_fast (by kernel_rfl)
theorem EA.keep{h h':Heap}{xs:List KE}(hm:EA h d xs)(e:∀o,h.get? d=some o→h'.get? d=some o)(hk:∀x∈xs,FO h x.1 x.2.1→FO h' x.1 x.2.1):EA h' d xs:=by
 obtain⟨o,es,ep,ho,hr⟩:=hm.ob;exact⟨⟨o,es,ep,e _ ho,hr⟩,fun x hx=>hk x hx (hm.ks x hx),hm.nd⟩
def De(ks:List (Option Tr))(us vs:List Value):List KE:=ks.zip (us.zip vs)
theorem eL{ks:List (Option Tr)}{us vs:List Value}{j:Nat}{k:Option Tr}{u v:Value}(h1:ks[j]? = some k)(h2:us[j]? = some u)(h3:vs[j]? = some v):(De ks us vs)[j]? = some (k,u,v):=by
 unfold De;rw [List.getElem?_zip_eq_some];exact⟨h1,List.getElem?_zip_eq_some.mpr ⟨h2,h3⟩⟩
theorem Pq{ks:List (Option Tr)}{us vs:List Value}{x:KE}(h:x∈De ks us vs):∃j:Nat,ks[j]? = some x.1∧us[j]? = some x.2.1∧(De ks us vs)[j]? = some x:=by
 obtain⟨j,hj⟩:=ah.mp h;have hj':=hj;unfold De at hj;rw [List.getElem?_zip_eq_some]at hj;exact⟨j,hj.1,(List.getElem?_zip_eq_some.mp hj.2).1,hj'⟩
theorem lA{R:Result→Shared→Prop}{b1 b2:Bool}{l1 l2:Addr}{ks:List (Option Tr)}{us vs:List Value}{h0:Heap}(hh:A.handled=none)(hu:A.in1.units+8<cLine)(lw:cj z TI TO i1 i2 d)(hn:n≤z∧n≤TI∧n≤TO∧n≤i1∧n≤i2)(ap:ZT.Apart z TI TO i1 i2 [i1,l1] [i2,l2])
 (n1:l1≠i1)(n2:l2≠i2)(m1:l1<n)(m2:l2<n)(e1:us.length=ks.length)(e2:vs.length=ks.length)(hs:ks.length≤sizeLine)(nd:ks.Nodup)(ha:∀x∈ks,∀y∈ks,BA x=BA y→x=y)
 (hk:∀h',(∀c o,c<n→h0.get? c=some o→h'.get? c=some o)→∀(j:Nat) k kv,ks[j]? = some k→us[j]? = some kv→FO h' k kv)
 (hR:∀h' tk,(∀c o,c<n→h0.get? c=some o→h'.get? c=some o)→EA h' d (De ks us vs)→d<h'.objs.size→R (.ok (.ret .none)) { s with heap:=h',toks:=tk }) :
  ∀(m i:Nat) (h:Heap) (tk:Nat),ks.length-i=m→i≤ks.length→Tu h z TI TO d→IsPair h TI (.ref i1) (.ref i2)→ZT.Ko b1 h i1 l1 i∧ZT.Sq b1 h l1 us→ZT.Ko b2 h i2 l2 i∧ZT.Sq b2 h l2 vs→(∀c o,c<n→h0.get? c=some o→h.get? c=some o)→EA h d ((De ks us vs).take i)→d<h.objs.size →
   codeAny (model prog w) A (.builtin "dict.update.loop" ⟨[.ref d,.ref z,rawInt (i:Nat),.none],[]⟩) R { s with heap:=h,toks:=tk }:=by
 have D1:=ZT.HQ (prog:=prog) (w:=w) (A:=A.in1.in1) hh b1 i1 l1 us n1;have D2:=ZT.HQ (prog:=prog) (w:=w) (A:=A.in1.in1) hh b2 i2 l2 vs n2;have hel:(De ks us vs).length=ks.length:=by unfold De;simp [List.length_zip];omega
 intro m
 induction m with
 |zero =>
  intro i h tk hm hi st hI t1 t2 kp hD hd;have hin:i=ks.length:=by omega
  subst hin;refine codeAny_builtin Nm ?_;rw [Around.under_plainId Hh _];show wpAny _ A.in1 (pyNext (.ref z)>>=_) _ _ _;refine Wb (Xk (s:={ s with heap:=h,toks:=tk }) (A:=A.in1) lw D1 D2 ap st hI t1 t2 (.inl e1.symm) fun h' tk' kp'=>?_);show wpAny _ A.in1 (pure ()>>=_) _ _ _;refine Wb (aA (aA (hR h' tk' (fun c o hc e=>kp' c o (aG (aH hc hn.1)) (aG (aH hc hn.2.2.1)) (aG (aH hc hn.2.2.2.1)) (aG (aH hc hn.2.2.2.2)) (kp c o hc e)) ?_ ?_)))
  ·rw [←hel,List.take_length]at hD;refine hD.keep (fun o e=>kp' d o (ag lw.z) (ag lw.O) (ag lw.a) (ag lw.b) e) fun x hx _=>?_;obtain⟨j,j1,j2,_⟩:=Pq hx;exact hk h' (fun c o hc e=>kp' c o (aG (aH hc hn.1)) (aG (aH hc hn.2.2.1)) (aG (aH hc hn.2.2.2.1)) (aG (aH hc hn.2.2.2.2)) (kp c o hc e)) j _ _ j1 j2
  ·obtain⟨o,es,ep,ho,_⟩:=hD.ob;exact aF (kp' d o (ag lw.z) (ag lw.O) (ag lw.a) (ag lw.b) ho)
 |succ m ih =>
  intro i h tk hm hi st hI t1 t2 kp hD hd;have hlt:i<ks.length:=by omega
  refine codeAny_builtin Nm ?_;rw [Around.under_plainId Hh _];show wpAny _ A.in1 (pyNext (.ref z)>>=_) _ _ _;refine Wb (kG (s:={ s with heap:=h,toks:=tk }) (A:=A.in1) lw hd D1 D2 ap st hI t1 t2 (by omega) (by omega) fun x y h' tk' r1 r2 r3 r4 r5 r6 r7 r8=>?_);show wpAny _ A.in1 (holding _ _>>=_) _ _ _;refine Wb (aQ (Wb (wpAny_tryCatch ?_)));unfold Builtin.Dict.pairItems;refine Wb (wpAny_typeOf (T := "tuple") ⟨_,r6,rfl⟩ ?_);rw [if_pos (by decide)];refine Wb (az r6 rfl (aA ?_));show wpAny _ A.in1 (holding [x,y] (dictSet d x y)) _ _ _;have kp1:∀c o,c<n→h0.get? c=some o→h'.get? c=some o:=fun c o hc e=>r8 c o (aG (aH hc hn.1)) (aG (aH hc hn.2.2.1)) (aG (aH hc hn.2.2.2.1)) (aG (aH hc hn.2.2.2.2)) (kp c o hc e);have hki:ks[i]? = some ks[i]:=aL hlt;generalize ks[i]=kk at hki;have hD':EA h' d ((De ks us vs).take i):=hD.keep (fun o e=>r8 d o (ag lw.z) (ag lw.O) (ag lw.a) (ag lw.b) e) fun x hx _=>by
   obtain⟨j,j1,j2,_⟩:=Pq (bX hx);exact hk h' kp1 j _ _ j1 j2
  have hno:∀x∈(De ks us vs).take i,x.1≠kk:=fun q hq e=>by
   obtain⟨j,hj⟩:=ah.mp hq;have hji:j<i:=by have:=(aE.mp hj).1;rw [List.length_take]at this;omega
   rw [List.getElem?_take_of_lt hji]at hj;unfold De at hj;rw [List.getElem?_zip_eq_some]at hj;have:=(List.getElem?_inj (by omega) nd).mp ((hj.1.trans (by rw [e])).trans hki.symm);omega
  have hst:Cm ((De ks us vs).take i) kk x y=(De ks us vs).take (i+1):=by
   unfold Cm;rw [IY hno,List.take_succ,eL hki r1 r2]
   rfl
  refine aQ (Xb (s:={ s with heap:=h',toks:=tk' }) (k:=kk) hu (hk h' kp1 i _ _ hki r1) hD' (fun q hq e=>?_) (by rw [List.length_take];omega) fun h2 hN sb=>?_)
  ·obtain⟨j,j1,_,_⟩:=Pq (bX hq);exact ha _ (aI j1) _ (aI hki) e
  rw [hst]at hN;have nz:n<d:=aV hn.1 lw.z;have up:∀c o,c≠d→h'.get? c=some o→h2.get? c=some o:=fun c o hc e=>(sb.2 c hc).trans e;refine aA ⟨plainId_quiet Hh _,?_⟩;have:=ih (i+1) h2 (tk'+Cj kk) (by omega) hlt (r3.keep lw.z lw.O sb) (up _ _ (aG lw.I) (r8 _ _ ap.a1.1 ap.a1.2.1 ap.a1.2.2.1 ap.a1.2.2.2 hI))
   (D1.frame _ _ _ r4 fun c hc o e=>up c o ?_ e) (D2.frame _ _ _ r5 fun c hc o e=>up c o ?_ e) (fun c o hc e=>up c o (aG (bZ hc nz)) (kp1 c o hc e)) hN (by rw [sb.1];show d<h'.objs.size;rw [r7];exact aq hd)
  ·exact this
  ·rcases aM.mp hc with rfl | hc
   ·exact aG lw.a
   ·rw [List.mem_singleton.mp hc];exact aG (bZ m1 nz)
  ·rcases aM.mp hc with rfl | hc
   ·exact aG lw.b
   ·rw [List.mem_singleton.mp hc];exact aG (bZ m2 nz)
end
end TH
namespace TH
open PySem PyProof.Rows
theorem eD{prog:Program}{w:World}{A:Around}{E:Value→Shared→Prop}{s:Shared}{z TI TO i1 i2 n:Addr}{b1 b2:Bool}{l1 l2:Addr}{ks:List (Option Tr)}{us vs:List Value}{Q:Value→Shared→Prop}(hh:A.handled=none)(hu:A.in1.in1.units+8<cLine)(lw:cj z TI TO i1 i2 s.heap.objs.size)(hn:n≤z∧n≤TI∧n≤TO∧n≤i1∧n≤i2)(ap:ZT.Apart z TI TO i1 i2 [i1,l1] [i2,l2])
 (n1:l1≠i1)(n2:l2≠i2)(m1:l1<n)(m2:l2<n)(e1:us.length=ks.length)(e2:vs.length=ks.length)(hs:ks.length≤sizeLine)(nd:ks.Nodup)(ha:∀x∈ks,∀y∈ks,BA x=BA y→x=y)
 (hk:∀h',(∀c o,c<n→s.heap.get? c=some o→h'.get? c=some o)→∀(j:Nat) k kv,ks[j]? = some k→us[j]? = some kv→FO h' k kv)
 (hz:IsZip s.heap z TI TO .none)(hI:IsPair s.heap TI (.ref i1) (.ref i2))(hO:IsPair s.heap TO .none .none)(t1:ZT.Ko b1 s.heap i1 l1 0)(p1:ZT.Sq b1 s.heap l1 us)(t2:ZT.Ko b2 s.heap i2 l2 0)(p2:ZT.Sq b2 s.heap l2 vs)
 (q:∀h' tk,(∀c o,c<n→s.heap.get? c=some o→h'.get? c=some o)→EA h' s.heap.objs.size (De ks us vs)→s.heap.objs.size<h'.objs.size→Q (.ref s.heap.objs.size) { s with heap:=h',toks:=tk }) :
  wpAny (model prog w) A (call (.type "dict") [.ref z]) Q E s:=by
 refine callType_codes (Q₁:=fun obj s₁=>obj=.ref s.heap.objs.size∧s₁={ s with heap:=s.heap.push { cls:=.type "dict",data:=.dict #[] } }) F.kt_called_dict (F.kt_typeCall_dict_1 _) F.entry_dict_init (kt_code_dict_new _ ⟨rfl,rfl⟩) ?_;rintro obj s₁ ⟨rfl,rfl⟩;have up:∀c o,s.heap.get? c=some o→(s.heap.push { cls:=.type "dict",data:=.dict #[] }).get? c=some o:=fun c o e=>aD _ e;have hd0:(s.heap.push { cls:=.type "dict",data:=.dict #[] }).get? s.heap.objs.size=some { cls:=.type "dict",data:=.dict #[] }:=aO _ rfl;have sz0:(s.heap.push { cls:=.type "dict",data:=.dict #[] }).objs.size=s.heap.objs.size+1:=Heap.size_push ..;have hT:({ s with heap:=s.heap.push { cls:=.type "dict",data:=.dict #[] } }:Shared).TypeIs (.ref s.heap.objs.size) "dict" := ⟨_,hd0,rfl⟩;refine⟨hT,F.args_dict_init_2 _ _,?_⟩;unfold Builtin.«dict.__init__»;refine Wb ?_;unfold Builtin.Dict.selfAndRest;refine Wb (wpAny_notOrdered_dict hT ?_);show wpAny _ _ (pure (s.heap.objs.size,[Value.ref z])) _ _ _;refine aA ?_;show wpAny _ _ (Builtin.Dict.updateFrom "dict.__init__" s.heap.objs.size (.ref z) [] .none) _ _ _;unfold Builtin.Dict.updateFrom;refine Wb (wpAny_typeOf (T := "zip") ⟨_,up _ _ hz,rfl⟩ ?_);rw [if_pos (by decide)];refine Wb (dR (s:={ s with heap:=s.heap.push { cls:=.type "dict",data:=.dict #[] } }) (up _ _ hz) hh fun h' tk kp=>?_);have kp':∀c o,s.heap.get? c=some o→h'.get? c=some o:=fun c o e=>kp c o (up c o e);simp only [Option.isNone_none,if_true];refine Wb (bJ (Wb (wpAny_pyIter_zip (kp' _ _ hz) (aA ⟨plainId_quiet Hh _,?_⟩))));have:=lA (s:=s) (A:=A.in1) (prog:=prog) (w:=w) (h0:=s.heap) (b1:=b1) (b2:=b2) (R:=wants (fun r s₂=>r=.none∧Q (.ref s.heap.objs.size) s₂) E) hh hu lw hn ap n1 n2 m1 m2 e1 e2 hs nd ha hk (fun h' tk r1 r2 r3=>⟨rfl,q h' tk r1 r2 r3⟩) _ 0 h' tk rfl (ar _)
  (.inl ⟨kp' _ _ hz,_,_,kp' _ _ hO⟩) (kp' _ _ hI) ⟨?_,?_⟩ ⟨?_,?_⟩ (fun c o _ e=>kp' c o e) ?_ (aF (kp _ _ hd0))
 ·exact this
 ·cases b1 with
  |true=>obtain⟨o,q,r⟩:=(show s.heap.IsTupleIter i1 l1 0 from t1);exact(show h'.IsTupleIter i1 l1 0 from⟨o,kp' _ _ q,r⟩)
  |false=>obtain⟨o,q,r⟩:=(show s.heap.IsListIter i1 l1 0 from t1);exact(show h'.IsListIter i1 l1 0 from⟨o,kp' _ _ q,r⟩)
 ·exact p1.keep fun o e=>kp' _ _ e
 ·cases b2 with
  |true=>obtain⟨o,q,r⟩:=(show s.heap.IsTupleIter i2 l2 0 from t2);exact(show h'.IsTupleIter i2 l2 0 from⟨o,kp' _ _ q,r⟩)
  |false=>obtain⟨o,q,r⟩:=(show s.heap.IsListIter i2 l2 0 from t2);exact(show h'.IsListIter i2 l2 0 from⟨o,kp' _ _ q,r⟩)
 ·exact p2.keep fun o e=>kp' _ _ e
 ·exact⟨⟨_,#[],0,kp _ _ hd0,⟨rfl,rfl,rfl⟩,rfl,rfl⟩,fun x hx=>by simp at hx,by simp⟩
end TH
namespace TH
open PySem PyProof.Rows
theorem Qh{h h':Heap}(k:∀c o,h.get? c=some o→h'.get? c=some o):∀ {t:Tr} {us:List Value},Vs h t us→Vs h' t us
 |.nil,us,e=>e
 |.cons a t,us,e=>by
  obtain⟨b,its,r,rfl,hb,h1,h2⟩:=e;obtain⟨o,ho,hr⟩:=hb;exact⟨b,its,r,rfl,⟨o,k _ _ ho,hr⟩,Qh k h1,Qh k h2⟩
theorem FO.up{h h':Heap}(k:∀c o,h.get? c=some o→h'.get? c=some o){x:Option Tr}{v:Value}(a:FO h x v):FO h' x v:=by
 cases x with
 |none=>exact a
 |some t =>
  obtain⟨b,e,h1,its,⟨o,ho,hr⟩,h2⟩:=a;exact⟨b,e,h1,its,⟨o,k _ _ ho,hr⟩,Qh k h2⟩
end TH
namespace L2
open PySem PySem.Spec PyProof.Rows
theorem O6:∀ {ks:List (Option Tr)} {xs ys:List V} {us vs:List Value},Vals xs us→Vals ys vs→PySem.Paired Nv (ks.zip (xs.zip ys)) (TH.De ks us vs)
 |[],_,_,_,_,_,_=>by unfold TH.De;simp only [List.zip_nil_left];exact .nil
 |k::ks,_,_,_,_,.nil,_=>by unfold TH.De;simp only [List.zip_nil_left,List.zip_nil_right];exact .nil
 |k::ks,_,_,_,_,.cons _ _,.nil=>by unfold TH.De;simp only [List.zip_nil_right];exact .nil
 |k::ks,_,_,_,_,.cons a as,.cons b bs=>.cons ⟨rfl,a,b⟩ (O6 as bs)
def nR(ta:TA):TE:=fun σ H Q=>ta σ H fun vs H1=>∃(b1 b2:Bool) (a1 a2:Addr) (xs ys:List V) (ks:List (Option Tr)),vs=[.ref a1,.ref a2]∧Ew b1 H1 a1 xs∧Ew b2 H1 a2 ys∧xs.length=ks.length∧ys.length=ks.length∧ks.length≤1000∧ks.Nodup ∧
 (∀x∈ks,∀y∈ks,TH.BA x=TH.BA y→x=y)∧(∀(j:Nat) k v,ks[j]? = some k→xs[j]? = some v→Ge H1 k v)∧∀p,H1 p=none→Q (.ref p) (upd H1 p (dN p (ks.zip (xs.zip ys))))
theorem kn{X:Cx}{a b:Expr}{ta:TA}{p p2 pos pos2:Pos}(hc:X.calm=true)(hu:X.A.units+64<cLine)(hgd:Gl X "dict")(hmd:X.mg "dict" = none)(hg:Gl X "zip")(hm:X.mg "zip" = none)(ha:PA X [a,b] ta)
 (he:starEach [.Call (.Name "zip" p2) [a,b] [] pos2] X.env=(false,eval (.Call (.Name "zip" p2) [a,b] [] pos2) X.env)::starEach [] X.env:=by rfl)(hpl:(backTo pos (starEach [] X.env)).any (·.1)=false:=by rfl)
 (hs:starEach [a,b] X.env=[(false,eval a X.env),(false,eval b X.env)]:=by rfl)(hs2:starEach [b] X.env=[(false,eval b X.env)]:=by rfl) :
  PE X (.Call (.Name "dict" p) [.Call (.Name "zip" p2) [a,b] [] pos2] [] pos) (nR ta):=by
 intro pins s σ H Q I h;refine wpAny_Call_Name_kw (FL I hgd hmd boot_dict ?_ (by decide) (by decide));refine au ?_ he hpl;rw [he];show wpAny _ _ (spliced ((false,eval (.Call (.Name "zip" p2) [a,b] [] pos2) X.env)::backTo pos (starEach [] X.env))) _ _ s;refine Calls.spliced_cons ?_;refine Call_ (FL I hg hm boot_zip (au (BB (ha pos2 pins s σ H _ I h) fun us s1 ⟨vs,H1,I1,r1,q1⟩=>?_) (by rw [hs,hs2]) (by rw [hs2];rfl)));obtain⟨b1,b2,l1,l2,xs,ys,ks,e,h1,h2,e1,e2,e3,nd,hh,hk,q⟩:=q1;subst e;cases r1 with
 |cons r rr =>
  cases rr with
  |cons r' rr =>
   cases rr;cases r;cases r';obtain⟨us,rv1,p1⟩:=h1.raw I1;obtain⟨vs,rv2,p2⟩:=h2.raw I1;have lt1:=p1.lt;have lt2:=p2.lt;refine ZT.Sf p1 p2 fun h' z1 z2 z3 z4 z5 hkp=>?_;refine Calls.spliced_nil ?_;have s4:s1.heap.objs.size+4<h'.objs.size:=aF z1;have g1:∀m,m≤4→s1.heap.objs.size+m<h'.objs.size:=fun m hm=>aV (Nat.add_le_add_left hm _) s4;have ne:∀(x:Addr) m,x<s1.heap.objs.size→x≠s1.heap.objs.size+m:=fun x m hx=>aG (aH hx (Nat.le_add_right _ _));have ap:ZT.Apart (s1.heap.objs.size+4) (s1.heap.objs.size+2) (s1.heap.objs.size+3) s1.heap.objs.size (s1.heap.objs.size+1) [s1.heap.objs.size,l1] [s1.heap.objs.size+1,l2]:=by
    refine⟨⟨by simp,by simp,by simp,by simp⟩,⟨by simp,by simp,by simp⟩,⟨by simp,by simp,by simp⟩,⟨?_,?_,?_⟩,?_,?_,?_⟩
    ·simp [Ne.symm (ne l1 4 lt1)]
    ·simp [Ne.symm (ne l1 3 lt1)]
    ·simp [Ne.symm (ne l1 1 lt1)]
    ·simp [Ne.symm (ne l2 4 lt2)]
    ·simp [Ne.symm (ne l2 3 lt2)]
    ·simp only [List.mem_cons,List.not_mem_nil,or_false,not_or];exact⟨aG (bL _),Nat.ne_of_gt lt2⟩
   refine TH.eD (s:={ s1 with heap:=h' }) (n:=s1.heap.objs.size) (z:=s1.heap.objs.size+4) (TI:=s1.heap.objs.size+2) (TO:=s1.heap.objs.size+3) (i1:=s1.heap.objs.size) (i2:=s1.heap.objs.size+1) (b1:=b1) (b2:=b2) (ks:=ks) (us:=us) (vs:=vs) (I1.ok.hd hc) (by show X.A.in1.in1.units+8<cLine;rw [Around.in1_units,Around.in1_units];omega)
    ⟨s4,g1 2 (by decide),g1 3 (by decide),g1 0 (by decide),g1 1 (by decide)⟩ ⟨Nat.le_add_right _ _,Nat.le_add_right _ _,Nat.le_add_right _ _,Nat.le_refl _,Nat.le_add_right _ _⟩ ap (aG lt1) (ne l2 1 lt2) lt1 lt2 (by rw [←rv1.length];exact e1) (by rw [←rv2.length];exact e2) (aa e3 (by rw [sizeLine_eq];decide)) nd hh
    (fun h2 kp j k kv hj hv=>?_) z1 z2 z3 z4 (p1.keep fun o e=>hkp _ _ e) z5 (p2.keep fun o e=>hkp _ _ e) fun h2 tk kp hD hlt=>?_
   ·have hj2:j<xs.length:=by have:=(aE.mp hj).1;omega
    obtain⟨u',r1,r2⟩:=rv1.get (aL hj2);rw [hv]at r1;cases r1;exact((hk j k _ hj (aL hj2)).raw I1 r2).up fun c o e=>kp c o (aF e) (hkp c o e)
   ·have le:s1.heap.objs.size≤h'.objs.size:=bK (g1 0 (by decide));refine⟨.ref h'.objs.size,_,I1.laid (a:=h'.objs.size) (o:=dN h'.objs.size (ks.zip (xs.zip ys))) (t':=tk) (fun c o e=>kp c o (aF e) (hkp c o e)) le ?_,rfl,q _ (I1.Ap.fresh le)⟩;have hb:sysModules<s1.heap.objs.size:=bZ (by decide) (I1.mod.glob.keeps I1.bk).lt;have hn:(h'.objs.size==sysModules)=false:=beq_eq_false_iff_ne.mpr (Ne.symm (aG (aH hb le)));obtain⟨o,es,ep,g1,g2,g3,g4⟩:=hD.ob;exact⟨⟨hn,o,es,ep,_,g1,g2,g3,g4,O6 rv1 rv2⟩,⟨_,g1⟩,fun h1 h2 ⟨a,o,es,ep,xs,q,r⟩ k=>⟨a,o,es,ep,xs,k _ q,r⟩⟩
end L2
set_option maxHeartbeats 1000000
namespace L2
open PySem PySem.Spec PyProof.Rows
def keysOf:List PyData→Option (List (Option Tr))
 |[]=>some []
 |d::ds=>(keyOf d).bind fun k=>(keysOf ds).map fun r=>k::r
theorem keys_eq:∀ {ds:List PyData} {ks:List (Option Tr)},keysOf ds=some ks→ds=ks.map CC
 |[],ks,h=>by cases h;rfl
 |d::ds,ks,h=>by
  rw [keysOf]at h;obtain⟨k,h1,h2⟩:=aB.mp h;obtain⟨r,h3,rfl⟩:=aC.mp h2;rw [JO h1,keys_eq h3];rfl
theorem Uz:∀ks:List (Option Tr),keysOf (ks.map CC)=some ks
 |[]=>rfl
 |k::ks=>by rw [List.map_cons,keysOf,Kv,Option.bind_some,Uz ks];rfl
def W3(ks:List (Option Tr)):Bool:=decide ks.Nodup&&ks.all fun k=>(match k with | none=>true | some t=>decide (t.deep<8))&&ks.all fun q=>decide (TH.BA q≠TH.BA k)||decide (q=k)
abbrev fW(x y:PyData):Option (List KD):=(Fq x).bind fun ds=>(Fq y).bind fun es=>(keysOf ds).bind fun ks=>if W3 ks=true∧es.length=ks.length∧ks.length≤500 then some (ks.zip es) else none
def lH:List PyData→Option (List KD)
 |[x,y]=>fW x y
 |_=>none
abbrev i3(i:Nat)(fs:Dv→Option (List PyData)):DF:=fun δ=>((fs δ).bind lH).map fun kvs=>.nx (δ.set i (.own (.FH kvs)))
theorem jj{ks:List (Option Tr)}(h:W3 ks=true):ks.Nodup∧(∀x∈ks,∀y∈ks,TH.BA x=TH.BA y→x=y)∧∀t,some t∈ks→t.deep<8:=by
 unfold W3 at h;rw [Bool.and_eq_true]at h;refine⟨aP h.1,fun x hx y hy e=>?_,fun t ht=>?_⟩
 ·have:=aN.mp h.2 y hy;rw [Bool.and_eq_true]at this;have:=aN.mp this.2 x hx;rw [Bool.or_eq_true]at this;rcases this with z | z
  ·exact absurd e (aP z)
  ·exact aP z
 ·have:=aN.mp h.2 _ ht;rw [Bool.and_eq_true]at this;exact aP this.1
theorem XU{G:Hp}{k:Option Tr}{v:V}(h:Du G (CC k) v)(hd:∀t,k=some t→t.deep<8):Ge G k v:=by
 cases k with
 |none=>rw [CC,Du]at h;exact h
 |some t =>
  rw [CC,Du]at h;obtain⟨a,ys,rfl,h1,h2⟩:=h;exact⟨hd t rfl,a,ys,rfl,h1,Fd h2⟩
theorem YF{G:Hp}:∀ {ks:List (Option Tr)} {es:List PyData} {xs ys:List V},(∀t,some t∈ks→t.deep<8)→Ae G (ks.map CC) xs→Ae G es ys→PySem.Paired (PR G) (ks.zip es) (ks.zip (xs.zip ys))
 |[],es,xs,ys,_,_,_=>by simp only [List.zip_nil_left];exact .nil
 |k::ks,[],xs,ys,_,h1,h2=>by
  rw [h2.nil_eq];simp only [List.zip_nil_right];exact .nil
 |k::ks,e::es,xs,ys,hd,h1,h2=>by
  rw [List.map_cons]at h1;obtain⟨x,xs,rfl,d1,r1⟩:=h1.un;obtain⟨y,ys,rfl,d2,r2⟩:=h2.un;exact .cons ⟨rfl,XU d1 fun t e=>hd t (by rw [←show k=some t from e];exact .head _),d2⟩ (YF (fun t h=>hd t (.tail _ h)) r1 r2)
theorem U9{α β:Type}:∀ {ks:List α} {es:List β},es.length=ks.length→(ks.zip es).map (·.1)=ks
 |[],_,_=>by simp
 |k::ks,[],h=>by simp at h
 |k::ks,e::es,h=>by rw [List.zip_cons_cons,List.map_cons,U9 (by simpa using h)]
section
variable{X:Cx}{a b c e:Expr}{es:List Expr}{f g h:Dv→Option PyData}{fs:Dv→Option (List PyData)}{pos p p2 pos2 apos:Pos}
theorem kB{i:Nat}{x:Str}(hc:X.calm=true)(hu:X.A.units+64<cLine)(hgd:Gl X "dict")(hmd:X.mg "dict" = none)(hg:Gl X "zip")(hm:X.mg "zip" = none)(ha:DA X [a,b] fs)(hN:X.N.Nodup)(hi:X.N[i]? = some x)(hx:Loc X.env.scope x)
 (he:starEach [.Call (.Name "zip" p2) [a,b] [] pos2] X.env=(false,eval (.Call (.Name "zip" p2) [a,b] [] pos2) X.env)::starEach [] X.env:=by rfl)(hpl:(backTo pos (starEach [] X.env)).any (·.1)=false:=by rfl)
 (hs1:starEach [a,b] X.env=[(false,eval a X.env),(false,eval b X.env)]:=by rfl)(hs2:starEach [b] X.env=[(false,eval b X.env)]:=by rfl)
 (hs:swapsWith (.Call (.Name "dict" p) [.Call (.Name "zip" p2) [a,b] [] pos2] [] pos) (some (.Name x apos)) spos.line X.env=pure false:=by rfl)(hf:X.fn x=true∨X.env.scope.names.lookup x=some .local:=by first | exact .inl rfl | exact .inr rfl | assumption) :
  DS X (.Assign [.Name x apos] (.Call (.Name "dict" p) [.Call (.Name "zip" p2) [a,b] [] pos2] [] pos) spos) (i3 i fs):=by
 obtain⟨ta,pa,ka⟩:=ha;refine⟨_,B1 hN hi hx (kn hc hu hgd hmd hg hm pa he hpl hs1 hs2) hs hf,fun δ r h G0 H0 G H σ D R q=>?_⟩;obtain⟨kvs,h1,rfl⟩:=aC.mp h;obtain⟨as,h2,h3⟩:=aB.mp h1;unfold lH at h3;split at h3
 ·rename_i x y;obtain⟨ds,k1,h4⟩:=aB.mp h3;obtain⟨es,k2,h5⟩:=aB.mp h4;obtain⟨ks,k3,h6⟩:=aB.mp h5;split at h6
  ·rename_i hc;cases h6;refine ka δ _ h2 G0 H0 G H σ [] _ R fun vs G1 H1 R1 hv=>?_;obtain⟨d,R2⟩:=R1.args hv;obtain⟨u,v,rfl,du,dv⟩:=d.NZ;obtain⟨b1,a1,xs,rfl,n1,n2⟩:=Kp du k1;obtain⟨b2,a2,ys,rfl,m1,m2⟩:=Kp dv k2;have:=keys_eq k3;subst this;obtain⟨z1,z2,z3⟩:=jj hc.1;have l1:xs.length=ks.length:=by have:=n2.len;rw [List.length_map]at this;omega
   have l2:ys.length=ks.length:=by have:=m2.len;omega
   refine⟨b1,b2,a1,a2,xs,ys,ks,rfl,?_,?_,l1,l2,by omega,z1,z2,fun j k v hj hv=>?_,fun l hl=>q _ _ _ (R2.Td ⟨_,rfl,?_,T9 (YF z3 n2 m2)⟩ hl)⟩
   ·have:=R2.ins _ _ n1;cases b1
    ·exact this
    ·exact this
   ·have:=R2.ins _ _ m1;cases b2
    ·exact this
    ·exact this
   ·obtain⟨w,w1,w2⟩:=n2.get (i:=j) (d:=CC k) (by rw [List.getElem?_map,hj];rfl);rw [hv]at w1;cases w1;exact(XU w2 fun t e=>z3 t (by rw [←e];exact aI hj)).same R2.ins
   ·rw [U9 (by rw [List.length_zip,l1,l2,Nat.min_self])];exact z1
  ·cases h6
 ·cases h3
end
def Vx:PyData→Option Tr
 |.tuple [x,.list ds]=>(EM x).bind fun t=>(Ep ds).map fun u=>Tr.pr (t,u)
 |_=>none
def kD:Tr→PyData
 |.cons t (.cons u .nil)=>.tuple [.tuple (Bq t),.list (Bq u)]
 |_=>.none
theorem ip{d:PyData}{k:Tr}(h:Vx d=some k):d=kD k∧∃t u,k=Tr.pr (t,u):=by
 unfold Vx at h;split at h
 ·obtain⟨t,h1,h2⟩:=aB.mp h;obtain⟨u,h3,rfl⟩:=aC.mp h2;rw [Iq h1,Hs h3];exact⟨rfl,t,u,rfl⟩
 ·cases h
def cutsOf:List PyData→Option (List Tr)
 |[]=>some []
 |d::ds=>(Vx d).bind fun k=>(cutsOf ds).map fun r=>k::r
theorem VO:∀ {ds:List PyData} {ks:List Tr},cutsOf ds=some ks→ds=ks.map kD∧∀k∈ks,∃t u,k=Tr.pr (t,u)
 |[],ks,h=>by cases h;exact⟨rfl,fun k hk=>by cases hk⟩
 |d::ds,ks,h=>by
  rw [cutsOf]at h;obtain⟨k,h1,h2⟩:=aB.mp h;obtain⟨r,h3,rfl⟩:=aC.mp h2;obtain⟨e1,e2⟩:=ip h1;obtain⟨e3,e4⟩:=VO h3;refine⟨by rw [e1,e3];rfl,fun q hq=>?_⟩;rcases aM.mp hq with rfl | hq
  ·exact e2
  ·exact e4 q hq
def ie(ks:List Tr):Option PyData:=if ks.length<64∧∀k∈ks,k.deep≤30 then some (.list ((Tr.Bb ks).reverse.map kD)) else none
def UI:MD
 |[.list ds]=>(cutsOf ds).bind ie
 |_=>none
theorem Ae.pick{G:Hp}{ds:List PyData}{ys:List V}(h:Ae G ds ys):∀(ix:List Nat),(∀i∈ix,i<ys.length)→Ae G (ix.map fun i=>ds.getD i .none) (ix.map fun i=>ys.getD i .A7)
 |[],_=>by show Ae G [] [];rw [Ae]
 |i::ix,hx=>by
  have hi:=hx i (.head _);have hl:=h.len;rw [List.map_cons,List.map_cons,Ae];refine⟨_,_,rfl,?_,h.pick ix fun j hj=>hx j (.tail _ hj)⟩;have e1:ds[i]? = some (ds[i]'(by omega)):=aL _;obtain⟨v,h1,h2⟩:=h.get e1;rw [List.getD_eq_getElem?_getD,List.getD_eq_getElem?_getD,e1,h1];exact h2
theorem ia{G:Hp}{t u:Tr}{v:V}(h:Du G (kD (Tr.pr (t,u))) v):Cv (fun _=>False) G (Tr.pr (t,u)) v:=by
 have h:Du G (.tuple [.tuple (Bq t),.list (Bq u)]) v:=h;rw [Du]at h;obtain⟨a,xs,rfl,h1,h2⟩:=h;obtain⟨x,y,rfl,d1,d2⟩:=h2.NZ;rw [Du]at d1;rw [Du]at d2;obtain⟨b,zs,rfl,b1,b2⟩:=d1;obtain⟨l,ws,rfl,c1,c2⟩:=d2;exact⟨a,l,t,u,_,ws,rfl,rfl,id,h1,⟨b,zs,rfl,b1,Fd b2⟩,c1,Fd c2⟩
section
variable{X:Cx}
def fV(K:Fg):List V→Hp→VK→Prop:=fun xs H Q=>∃(p:Addr) (ys:List V) (ks:List Tr),xs=[.ref p]∧A4 K H p ys∧nT (fun _=>False) H ks ys∧ys.length<64∧(∀k∈ks,k.deep≤30) ∧
 ∀(l:Addr) (ix:List Nat),H l=none→(∀i∈ix,i<ys.length)→(ix.map fun i=>ks.getD i Tr.nil)=(Tr.Bb ks).reverse→Q (.ref l) (upd H l (.lst (ix.map fun i=>ys.getD i .A7)))
theorem WJ(hu:X.A.units+64<cLine):D3 X (.builtin "sorted") (fV X.K):=by
 intro pins s σ H xs us Q I r h;obtain⟨p,ys,ks,rfl,hq,hc,hz,hd,q⟩:=h;obtain⟨u,rfl,r1⟩:=r.one;cases r1;obtain⟨its,rv,pl,_⟩:=I.list hq;have hl:=rv.length;have hk:=hc.len;have C:GS.YI Tr.ord X.prog X.w s.heap 30 ks its:=TH.dJ (by omega) fun i x u h1 h2=>by
  have hi:=(aE.mp h2).1;have hy:=aL (l:=ys) (i:=i) (by omega);obtain⟨u',h3,h4⟩:=rv.get hy;rw [h2]at h3;cases h3;exact⟨(hc.at_ i x _ h1 hy).raw I h4,hd x (aI h1)⟩
 refine GS.ZY Tr.nil (GS.Tp pl.isList (by omega)) C (by omega) (Tr.UZ (by omega)) (by omega) fun h' D tk ix e1 hD k1 gD p1 p2=>?_;have hix:∀i∈ix,i<ys.length:=fun i hi=>by
  have:=bS.mp (p1.mem_iff.mp hi);omega
 have e:(ix.map fun i=>ks.getD i Tr.nil)=(Tr.Bb ks).reverse:=by
  refine Tr.PH p2 ?_;have h3:=p1.map fun i=>ks.getD i Tr.nil
  rwa [←hl,hk,TH.map_getD]at h3
 have hil:ix.length=its.length:=by rw [p1.length_eq,List.length_range]
 exact⟨.ref D,upd H D (.lst (ix.map fun i=>ys.getD i .A7)),I.laid (t':=tk) k1 hD ⟨by rw [List.length_map,hil,sizeLine_eq];omega,_,e1,rv.pick ix hix,gD⟩,rfl,q D _ (I.Ap.fresh hD) hix e⟩
theorem Zo(hu:X.A.units+64<cLine):Jp X (.builtin "sorted") UI:=by
 refine⟨_,WJ hu,fun xs z hz G0 H0 G H σ δ ts us Q R0 d k=>?_⟩;unfold UI at hz;split at hz
 ·rename_i ds;obtain⟨ks,h1,h2⟩:=aB.mp hz;obtain⟨e1,e2⟩:=VO h1;subst e1;unfold ie at h2;split at h2
  ·rename_i hc;cases h2;obtain⟨u,rfl,du⟩:=d.GX;rw [Du]at du;obtain⟨a,ys,rfl,n1,n2⟩:=du;have hl:=n2.len;rw [List.length_map]at hl;refine⟨a,ys,ks,rfl,A4.of (R0.ins _ _ n1),⟨hl,fun i q v hq hv=>?_⟩,by omega,hc.2,fun l ix hl' hx he=>?_⟩
   ·obtain⟨t,u,rfl⟩:=e2 q (aI hq);obtain⟨w,w1,w2⟩:=n2.get (i:=i) (d:=kD (Tr.pr (t,u))) (by rw [List.getElem?_map,hq];rfl);rw [hv]at w1;cases w1;exact(ia w2).same R0.ins
   ·have hp:=n2.pick ix hx;have:(ix.map fun i=>(ks.map kD).getD i .none)=(Tr.Bb ks).reverse.map kD:=by
     rw [←he,List.map_map];refine aX fun i hi=>?_;have:=hx i hi;rw [List.getD_eq_getElem?_getD,List.getElem?_map,List.getElem?_eq_getElem (by omega)];show kD _=kD (ks.getD i Tr.nil);rw [List.getD_eq_getElem?_getD,List.getElem?_eq_getElem (by omega)]
     rfl
    rw [this]at hp;exact k _ _ _ (R0.MC hp hl')
  ·cases h2
 ·cases hz
end
end L2
set_option maxHeartbeats 4000000
namespace L2
open PySem PySem.Spec PyProof.Rows
def fg(te:TE):TE:=fun σ H Q=>∀p,H p=none→te σ (upd H p (dN p [])) fun v H2=>H2 p=some (dN p [])∧Q (.ref p) (upd H2 p (dN p [(none,.A7,v)]))
theorem a7{X:Cx}{e:Expr}{te:TE}{j}{p1 pos:Pos}(hu:X.A.units+64<cLine)(he:PE X e te):PE X (.Dict [some (.Constant .none j p1)] [e] pos) (fg te):=by
 intro pins s σ H Q I q;have hn:=I.Ap.fresh (aJ s.heap.objs.size);have hb:sysModules<s.heap.objs.size:=bZ (by decide) (I.mod.glob.keeps I.bk).lt;have hns:(s.heap.objs.size==sysModules)=false:=beq_eq_false_iff_ne.mpr (Ne.symm (aG hb));have I1:Inv X pins σ (upd H s.heap.objs.size (dN s.heap.objs.size [])) { s with heap:=s.heap.push { cls:=.type "dict",data:=.dict #[] } }:=I.laid (a:=s.heap.objs.size) (o:=dN s.heap.objs.size []) (t':=s.toks) (fun _ _ q=>aD _ q) (aJ _)
  ⟨⟨hns,_,#[],0,[],Heap.get?_push_size _ rfl,⟨rfl,rfl,rfl⟩,rfl,rfl,.nil⟩,⟨_,Heap.get?_push_size _ rfl⟩,fun h1 h2 ⟨a,o,es,ep,xs,q,r⟩ k=>⟨a,o,es,ep,xs,k _ q,r⟩⟩
 rw [arm_eval_Dict,zip_pairTrees [some (.Constant .none j p1)] [e] X.env pos rfl rfl,dictDisplay_pairs _ (by simp [pairTrees]) (by simp [pairTrees])];refine Wb (wpAny_standAt (Wb ?_));unfold subDict;refine Wb (wpAny_alloc ?_);refine Wb (aQ ?_);rw [if_pos (by simp [pairTrees])];refine Wb (pairTrees_cons_walk (Constant_none (BB (he pins _ σ _ _ I1 (q _ hn)) fun v s2 ⟨x,H2,I2,r2,hp,q2⟩=>pairTrees_nil_walk ?_)));refine aQ ?_;rw [List.forIn_cons];have D:SJ H2 s.heap.objs.size [] none:=⟨hp,fun q hq=>by simp at hq,by simp,fun q hq=>by simp at hq⟩;obtain⟨_,xs,hm,pr,hap⟩:=SX I2 D;have hx:xs=[]:=by cases pr;rfl
 subst hx;refine Wb (Wb (Wb (TH.Xb (k:=none) (by omega) rfl hm hap (by simp) fun h' hm' sb=>aA ?_)));obtain⟨o',es,ep,g1,g2,g3,g4⟩:=hm'.ob;have I3:Inv X pins σ (upd H2 s.heap.objs.size (dN s.heap.objs.size [(none,.A7,x)])) { s2 with heap:=h',toks:=s2.toks+TH.Cj none }:=I2.write (x:=s.heap.objs.size) (e:=s.heap.objs.size) (o:=dN s.heap.objs.size [(none,.A7,x)]) (t':=s2.toks+TH.Cj none) (by rw [hp];exact trivial) (.inl rfl) (fun b w' hb e=>(sb.2 b hb).trans e) ⟨o',g1⟩
  ⟨⟨hns,o',es,ep,_,g1,g2,g3,g4,.cons ⟨rfl,rfl,r2⟩ .nil⟩,⟨o',g1⟩,fun h1 h2 ⟨a,o,es,ep,xs,q,r⟩ k=>⟨a,o,es,ep,xs,k _ q,r⟩⟩
 show wpAny _ _ (pure PUnit.unit) _ _ _;exact aA (aA (aA (aA ⟨.ref s.heap.objs.size,_,I3,rfl,q2⟩)))
end L2
set_option maxHeartbeats 1000000
namespace L2
open PySem PySem.Spec PyProof.Rows
abbrev Xn(i:Nat)(a b:Int):DF:=fun δ=>some (.nx (δ.set i (.own (.FH [(none,.tuple [.int a,.int b])]))))
theorem ZD{H:Hp}{p q:Addr}{a b c:HO}(h:p≠q):upd (upd (upd H p a) q b) p c=upd (upd H q b) p c:=by
 funext x
 by_cases z:x=p
 ·subst z;rw [AX,AX]
 ·rw [AM z,AM z];by_cases y:x=q
  ·subst y;rw [AX,AX]
  ·rw [AM y,AM y,AM z]
theorem Zf{X:Cx}{i:Nat}{x:Str}{a b:Int}{j1 j2 j3 cx}{p1 p2 p3 tp dp pos pos':Pos}(hu:X.A.units+64<cLine)(hN:X.N.Nodup)(hi:X.N[i]? = some x)(hx:Loc X.env.scope x)
 (hs:swapsWith (.Dict [some (.Constant .none j1 p1)] [.Tuple [.Constant (.int a) j2 p2,.Constant (.int b) j3 p3] cx tp] dp) (some (.Name x pos')) pos.line X.env=pure false:=by rfl)(hf:X.fn x=true∨X.env.scope.names.lookup x=some .local:=by first | exact .inl rfl | exact .inr rfl | assumption) :
  DS X (.Assign [.Name x pos'] (.Dict [some (.Constant .none j1 p1)] [.Tuple [.Constant (.int a) j2 p2,.Constant (.int b) j3 p3] cx tp] dp) pos) (Xn i a b) :=
 ⟨_,B1 hN hi hx (a7 hu (PQ (Aa A5 (Aa A5 A6)))) hs hf,fun δ r h G0 H0 G H σ D R q=>by
  cases h;refine fun p hp=>⟨by show(2:Nat)≤sizeLine;rw [sizeLine_eq];decide,fun l hl=>?_⟩;have hne:p≠l:=fun e=>by subst e;rw [AX]at hl;cases hl
  have hl':H l=none:=by rwa [AM (Ne.symm hne)]at hl
  refine⟨by rw [AM hne,AX],?_⟩;rw [ZD hne];have R1:=R.W6 (xs:=[.int a,.int b]) (vs:=[.int a,.int b]) (by rw [Ae];exact⟨_,_,rfl,by rw [Du],by rw [Ae];exact⟨_,_,rfl,by rw [Du],by rw [Ae]⟩⟩) hl';have dv:=R1.BX _ (.head _);exact q _ _ _ (R1.drop.Td ⟨[(none,.A7,.ref l)],rfl,by simp,T9 (.cons ⟨rfl,rfl,dv⟩ .nil)⟩ (by rw [AM hne];exact hp))⟩
theorem Xc{G0 H0 G H:Hp}{σ:St}{δ:Dv}{ts:List (PyData×V)}{i:Nat}{kvs:List KD}(R:Rw G0 H0 G H σ δ ts)(hi:δ[i]? = some (.own (.FH kvs)))(hal:alone i δ=true) :
  ∃G1:Hp,Rw G1 H0 G1 H σ (δ.set i (.d (Bo kvs))) ts∧∀x v G' H',LO x=true→Rw G1 H0 G' H' σ (δ.set i (.d (Bo kvs))) ((x,v)::ts)→∃G2,Rw G0 H0 G2 H' σ δ ((x,v)::ts):=by
 have hlt:i<δ.length:=(aE.mp hi).1;obtain⟨a,o,k1,k2,k3,k4,k5,R1⟩:=R.letGo (x:=Bo kvs) hi fun a o h=>XR h;obtain⟨r,rfl,k6,k7⟩:=k5;refine⟨upd G a (dN a r),R1.base,fun x v G' H' hnd R2=>⟨less G' a,?_⟩⟩;have ha:G' a=some (dN a r):=R2.ext _ _ AX;have eG:AO G (less G' a):=fun b u hb=>by
  have:b≠a:=fun z=>by subst z;rw [k2]at hb;cases hb
  rw [HM this];exact R2.ext _ _ (by rw [AM this];exact hb)
 have of:∀b u,less G' a b=some u→b≠a∧G' b=some u:=fun b u hb=>by
  by_cases z:b=a
  ·subst z;rw [QB]at hb;cases hb
  ·rw [HM z]at hb;exact⟨z,hb⟩
 refine⟨R.ext.trans eG,fun b u hb=>?_,fun b u hb=>R2.ins _ _ (of b u hb).2,R2.keep,R.len,fun j y hj=>?_,fun j c hj=>?_,R.apart,fun w hw=>?_⟩
 ·obtain⟨nb,hb⟩:=of b u hb;rcases R2.new b u hb with z | z | z
  ·rw [AM nb]at z;exact R.new _ _ z
  ·exact .inr (.inl z)
  ·exact .inr (.inr z)
 ·obtain⟨w,m1,m2⟩:=R.dat j y hj;exact⟨w,m1,m2.same eG⟩
 ·by_cases z:i=j
  ·subst z;rw [hi]at hj;cases hj;exact⟨a,dN a r,k1,QB,k3,R2.ins _ _ ha,r,rfl,k6,E8.same eG k7⟩
  ·obtain⟨b,us,m1,m2,m3,m4,m5⟩:=R2.own j c (by rw [List.getElem?_set_ne z];exact hj);refine⟨b,us,m1,?_,m3,m4,?_⟩
   ·by_cases w:b=a
    ·subst w;exact QB
    ·rw [HM w];exact m2
   ·have hjl:j<δ.length:=(aE.mp hj).1;have hm:L.own c∈δ.set i .no:=ah.mpr ⟨j,by rw [List.getElem?_set_ne z];exact hj⟩;have hc2:=aN.mp hal _ hm;cases c with
    |lst xs =>
     obtain⟨ys,e1,e2⟩:=m5;exact⟨ys,e1,Kx ha hc2 e2⟩
    |Vv xs=>cases hc2
    |FH xs=>cases hc2
 ·rcases aM.mp hw with rfl | hw
  ·exact Uy ha hnd (R2.BX _ (.head _))
  ·exact(R.BX w hw).same eG
section
variable{X:Cx}{x:Str}{px pos:Pos}{iter elt:Expr}{ifs:List Expr}{scope}{fs:Dv→Option (List PyData)}{tif:Dv→Option Bool}{f:Dv→Option PyData}
theorem UW{i:Nat}{z:Str}{pz spos:Pos}(l:Nat)(N:List Str)(ix:Nat)(fr:List (Option Nat))(hN:X.N.Nodup)(hy:X.N[i]? = some z)(hly:X.env.scope.names.lookup z=some .local)(hi:DI X (.Name x px) iter fs)(hif:∀cl C s₀ H₀ fp,Qu (Ai X scope cl N C s₀ H₀ fp) ifs tif)(he:∀cl C s₀ H₀ fp,DE (Ai X scope cl N C s₀ H₀ fp) elt f)
 (h1:Bk scope N x ix=true:=by decide +kernel)(h2:X.calm=true:=by rfl)(h3:ER N X.N scope X.env.scope fr 0=true:=by rfl)(h4:fr.length=N.length:=by rfl)(h5:freeOk X.env.scope scope.names=true:=by rfl)
 (hsw:swapsWith (.ListComp elt [⟨.Name x px,iter,ifs,0⟩] scope pos) (some (.Name z pz)) spos.line X.env=pure true:=by rfl)
 (hs:∀x,foldedSetIterable iter X.env x=pure x:=by intro _;rfl):DS X (.Assign [.Name z pz] (.ListComp elt [⟨.Name x px,iter,ifs,0⟩] scope pos) spos) (fun δ=>(R7 l (CM (B0 ix) tif f fr fs) δ).map fun y=>.nx (δ.set i (.d y))):=by
 obtain⟨wi,pi,ki⟩:=hi;refine⟨_,NU N ix fr hN hy hly pi hif (fun cl C s₀ H₀ fp=>(he cl C s₀ H₀ fp).pe) h1 h2 h3 h4 h5 hsw hs,fun δ r h G0 H0 G H σ D R q=>?_⟩;obtain⟨y,m1,rfl⟩:=aC.mp h;obtain⟨kvs,m2,m3⟩:=aB.mp m1;obtain⟨w,m4,m5⟩:=aB.mp m3;split at m5
 ·rename_i hc;cases m5;obtain⟨G1,R1,back⟩:=Xc R (b7 m2) hc.2;exact L9 ki m4 R1 fun v G' H' R'=>by
   obtain⟨G2,R2⟩:=back _ _ _ _ hc.1 R';exact q _ _ _ R2.HN
 ·cases m5
end
end L2
set_option maxHeartbeats 4000000
namespace Opn
open PySem PySem.W PyProof.Rows PySem.Calls
noncomputable def q0:Pos:=⟨0,0,0,0⟩
noncomputable def lI:Obj:={ cls:=.type "tuple",data:=.seq #[] }
noncomputable def lD:Obj:={ cls:=.none,data:=.fields #[] }
noncomputable def lF:Obj:={ cls:=.type "code",data:=.fields #[.str (Str.ofString "<module>") 182,.str (Str.ofString "<module>") 183,.str (Str.ofString "/claim/cut.py") 184,.int 1 0,.int 0 0,.int 0 0,.int 0 0,.int 0 0,.ref 11,.bool false,.int 181 0,.ref 12,.none,.none,.none,.none,.int 185 0,.int 1 0,.str (Str.ofString "/claim/cut.py") 186] }
noncomputable def lO:Obj:={ cls:=.type "frame",slots:=#[some (.ref 13),some (.ref 3),some (.ref 3),none,some (.str (Str.ofString "__main__") 164),none,some (.ref 0)] }
noncomputable def k8(P:Params):List Obj:=(boot_heap P).objs.toList++[lI,lD,lF,lO]
noncomputable def nN(P:Params)(o:Params→Obj)(l r:BT):BT:=.node (o P) l r
noncomputable def lN(P:Params)(o:Params→Obj):BT:=.node (o P) .nil .nil
noncomputable def jf(P:Params):BT :=
 nN P boot_o_0 (nN P boot_o_1 (nN P boot_o_3 (lN P boot_o_7) (.node lI .nil .nil)) (nN P boot_o_5 (lN P boot_o_9) (.node lF .nil .nil)))
  (nN P boot_o_2 (nN P boot_o_4 (lN P boot_o_8) (.node lD .nil .nil)) (nN P boot_o_6 (lN P boot_o_10) (.node lO .nil .nil)))
noncomputable def cH:Life:=Life.mk [] [] [] 0 [] [] false #[] [] 0 false false false 0 [2000,10,10] false 0 true [] [] 0 false
noncomputable def sA(w:World)(os:OsState):Shared:=⟨⟨⟨k8 w.params⟩,cH⟩,#[],boot_drawn,187,os⟩
noncomputable def sB(w:World)(os:OsState):SharedT:=⟨jf w.params,15,cH,#[],boot_drawn,187,os⟩
noncomputable def OI(p:Program):Env:={ scope:=p.main.scope,locals:=mainNs,globals:=mainNs,cells:=[],code:=.ref 13,frame:=some 14 }
noncomputable def cB(p:Program):Code:=.body (behindTheImports p) (OI p)
noncomputable abbrev IJ:Option Value:=some (.ref 6)
noncomputable abbrev bB:List Frame:=[topFrame q0]
noncomputable def WK(p:Program)(M:Nat)(w:World)(os:OsState):Option (Flow×SharedT×Code×Pos) :=
 PySem.W.Fast.tw10110043849684766642 PySem.W.Fast.tw14364793385576792824 p w 11 IJ 1 M (sB w os) (piecesOf (behindTheImports p) (OI p) (cB p) q0 bB)
noncomputable def WT(p:Program)(M:Nat)(w:World)(os:OsState):SharedT:=match WK p M w os with | some (_,s,_)=>s | none=>sB w os
theorem de{p:Program}{M:Nat}{w:World}{os:OsState}{r:Option (Flow×SharedT×Code×Pos)}(h:WK p M w os=r) :
  segRunT treeTable p w 11 IJ 1 M (sB w os) (piecesOf (behindTheImports p) (OI p) (cB p) q0 bB)=r:=by
 have e:segRunT treeTable=PySem.W.Fast.tw10110043849684766642 PySem.W.Fast.tw14364793385576792824:=congr PySem.W.Fast.te10110043849684766642 PySem.W.Fast.te14364793385576792824;rw [e];exact h
theorem gB{p:Program}{M M0:Nat}{posE:Pos}{w:World}{os:OsState}
 (pre:topGo treeTable p w 11 IJ 12 ⟨boot_heap w.params,#[],boot_drawn,boot_toks,os⟩ (topStub p)=some (sA w os,⟨denote treeTable (cB p),cB p,q0,bB⟩))
 (blk:segRun treeTable p w 11 IJ 1 1 (sA w os) (blockOf (behindTheImports p) (OI p) (cB p) q0 bB)=some (.next,(sB w os).abs,cB p,q0))
 (seg:WK p M w os=some (.next,WT p M w os,cB p,posE))
 (fin:∀s,topRun treeTable p w 11 IJ 2 s (restOf [] (OI p) (cB p) posE bB)=some s)(hM:M0=12+(1+(M+2))) :
  topRun treeTable p w 11 IJ M0 ⟨boot_heap w.params,#[],boot_drawn,boot_toks,os⟩ (topStub p)=some (WT p M w os).abs:=by
 subst hM;refine go_top pre (piece_block blk ?_);have h:=piece_app (rest:=[]) (segRun_of (de seg)) (fin _);rw [List.append_nil]at h;exact h
theorem dF{p q:Program}{loose:List Str}{Xt:Shared→Bool}{α:Type}{Yf:Shared→α}{Ya:World→α}{N M:Nat}{S:World→OsState→Shared}
 (open_:∀w:World,(fencedOpening treeTable p w N).map (fun s=>(s.heap,s.gens,s.drawn,s.toks))=some (boot_heap w.params,#[],boot_drawn,boot_toks))
 (size:∀w:World,((boot_heap w.params).isNs mainGlobals&&(#[]:Array GenState).size==0,(boot_heap w.params).objs.size,(boot_heap w.params).nsMap mainGlobals "__annotations__")=(true,11,IJ))
 (run:∀w os,topRun treeTable p w 11 IJ M ⟨boot_heap w.params,#[],boot_drawn,boot_toks,os⟩ (topStub p)=some (S w os))(le:Nat.ble M N=true)
 (ok:∀w os,(staticsOk (importedModules p.main.body) (boot_heap w.params) (S w os).heap&&namesBound p (S w os).heap&&gensDone (S w os)&&laidKept (boot_heap w.params) (S w os).heap)=true)
 (seen:∀w os,openSeen q loose (importedModules p.main.body) Xt true (S w os)=openGood q loose)
 (hY:∀w os,Yf (S w os)=Ya w):LeftO p q loose Xt Yf Ya N:=fun w=>by
 obtain⟨⟨h,gs,d,k,os⟩,e,e'⟩:=aC.mp (open_ w);obtain⟨rfl,rfl,rfl,rfl⟩:h=boot_heap w.params∧gs=#[]∧d=boot_drawn∧k=boot_toks:=by simpa using e'
 obtain⟨z1,z2,z3⟩:_∧_∧_:=by simpa only [Prod.mk.injEq]using size w
 have l1:=ok w os;have r:=topRun_mono (N-M) _ _ _ _ (run w os);rw [show M+(N-M)=N by have:=Nat.le_of_ble_eq_true le;omega]at r;have t:topFrom treeTable p w N ⟨boot_heap w.params,#[],boot_drawn,boot_toks,os⟩=some (S w os):=by
  unfold topFrom;dsimp only;rw [z1,z2,z3,r];show(match staticsOk (importedModules p.main.body) (boot_heap w.params) (S w os).heap&&namesBound p (S w os).heap&&gensDone (S w os)&&laidKept (boot_heap w.params) (S w os).heap with | true=>_ | false=>_)=_;rw [l1]
 unfold openEnds;rw [e];show(topFrom treeTable p w N _).map _=_;rw [t];exact bC some (Prod.ext (seen w os) (hY w os))
theorem j0(w:World):((boot_heap w.params).isNs mainGlobals&&(#[]:Array GenState).size==0,(boot_heap w.params).objs.size,(boot_heap w.params).nsMap mainGlobals "__annotations__")=(true,11,IJ):=by kernel_rfl
end Opn
namespace Q69
open PySem L2
def top(i:Nat):Stmt:=PySem.Challenge.pw_stepgrove_k69_weighings_mirrored.main.body.getD i (.Pass ⟨0,0,0,0⟩)
abbrev Mf:Stmt:=top 8
abbrev LM:Stmt:=top 9
abbrev Ia:Stmt:=top 10
abbrev GK:Stmt:=top 11
abbrev ED:Stmt:=top 12
abbrev HX:Stmt:=top 13
abbrev FU:Stmt:=top 14
abbrev KO:Stmt:=top 16
abbrev IH:Stmt:=top 17
abbrev GG:Stmt:=top 19
abbrev G7:Stmt:=top 20
abbrev IK:Stmt:=top 21
abbrev Gd:Stmt:=top 22
abbrev LA:Stmt:=top 23
abbrev C8:Stmt:=top 24
abbrev Gn:Stmt:=top 25
abbrev Jc:Stmt:=top 26
abbrev LR:Stmt:=top 27
abbrev Ej:Stmt:=top 30
abbrev Eo:Stmt:=top 31
abbrev Fz:Stmt:=top 33
abbrev Fw:Stmt:=top 34
abbrev E7:Stmt:=top 35
abbrev J9:Stmt:=top 36
abbrev JP:Stmt:=top 37
abbrev Hb:Stmt:=top 39
abbrev F7:Stmt:=top 40
abbrev LX:Stmt:=top 41
abbrev Gk:Stmt:=top 42
abbrev K4:Stmt:=top 43
abbrev KP:Stmt:=top 44
abbrev IB:Stmt:=top 45
abbrev JI:Stmt:=top 46
abbrev JY:Stmt:=top 47
abbrev G8:Stmt:=top 48
abbrev MH:Stmt:=top 49
abbrev J7:Stmt:=top 50
abbrev HG:Stmt:=top 51
abbrev Gj:Stmt:=top 52
abbrev bp:Stmt:=top 53
theorem X6{n:String}:P7 (.ty n)≠.none:=fun z=>nomatch z
def Wy:Sp:=fun vs H Q _=>∃a b,vs=[.int a,.int b]∧Q (.int (FM.gi a b)) H
def Sv:Sp:=fun vs H Q _=>∃t b m,vs=[.int t,.int b]∧b≠0∧m≤9000∧b.natAbs<2 ^ m∧∀l H',AO H H'→H' l=some (.tup (QY (Rat.divInt t b)))→Q (.ref l) H'
def i4(K:Fg)(op:Rat→Rat→Rat)(ok:Rat→Prop):Sp:=fun vs H Q _=>∃v w p q n,vs=[v,w]∧Rt K H p v∧Rt K H q w∧FM.Fits p n∧FM.Fits q n∧n≤4000∧ok q ∧
 ∀l H',AO H H'→H' l=some (.tup (QY (op p q)))→Q (.ref l) H'
section
variable{P:Program}{w:World}{K:Fg}{mg:Str→Option Value}{base:Heap}{f g:Addr}{fd gd:FuncData}
theorem Lq:Ad ["one", "other", "greater", "lesser", "rest"] ["one", "other"] (AR C8):=CN
def lC(σ:St):Nat:=match σ[3]? with | some (some (V.int l))=>l.natAbs | _=>0
theorem Lr(F:Fn K mg "greatest_divisor" C8 ["one", "other"] f fd)(Jz:mg "abs" = none):AL P w K mg base Ao 1 f fd ["one", "other"] Wy:=by
 have sc:=Lq;refine F.F.ok (k:=0) sc (fun vs H Q E h=>?_) (fun cdv A outer s H vs Q E hr h=>?_)
 ·obtain⟨a,b,rfl,_⟩:=h
  rfl
 obtain⟨a,b,rfl,q⟩:=h;refine⟨_,(Aw (B1 (i:=2) sc.nd rfl (Or.inl rfl) (CS LV rfl Jz PyProof.Rows.boot_abs (Aa (pv 0) A6)))
 (Aw (B1 (i:=3) sc.nd rfl (Or.inl rfl) (CS LV rfl Jz PyProof.Rows.boot_abs (Aa (pv 1) A6)))
 (Aw (OZ aR (Co cJ (pv 3) A5 (BL _))
  (Aw (B1 (i:=4) sc.nd rfl (Or.inl rfl) (DD Qa (pv 2) (pv 3)))
  (Aw (B1 (i:=2) sc.nd rfl (Or.inl rfl) (pv 3))
  (Az (B1 (i:=3) sc.nd rfl (Or.inl rfl) (pv 4))))))
 (Az (B9 (pv 2)))))),?_⟩
 refine⟨_,rfl,_,rfl,_,rfl,_,rfl,?_⟩;refine OY (fun σ H'=>∃g l r,σ=[some (.int a),some (.int b),some (.int g),some (.int l),r]∧H=H'∧Int.gcd g l=Int.gcd a b∧0≤g∧0≤l) (fun σ _=>lC σ) ?_ ?_ ?_
 ·exact⟨_,_,_,rfl,rfl,FM.VG a b,FM.abs_nonneg a,FM.abs_nonneg b⟩
 ·rintro σ H' ⟨g,l,r,rfl,rfl,hg,h0,h1⟩;refine⟨_,rfl,rfl,_,rfl,D7 (fun c=>?_) (fun c=>?_)⟩
  ·have hl:l≠0:=fun z=>by subst z;simp at c
   refine⟨_,rfl,_,rfl,_,_,rfl,rfl,hl,_,rfl,_,rfl,⟨_,_,_,rfl,rfl,?_,h1,FM.fmod_nonneg hl h1⟩,?_⟩
   ·rw [FM.T8];exact hg
   ·exact FM.Q0 g l hl
  ·have hl:l=0:=by simpa using c
   subst hl;refine⟨_,rfl,?_⟩;rw [FM.YG hg h0];exact q
 ·exact fun σ H Q Q' hq ⟨v,e,s,k,e2,q⟩=>⟨v,e,s,k,e2,hq _ _ q⟩
theorem P8:Ad ["top", "bottom", "shared"] ["top", "bottom"] (AR GG):=CN
theorem QN(F:Fn K mg "fraction_of" GG ["top", "bottom"] f fd)(BI:Fn K mg "greatest_divisor" C8 ["one", "other"] g gd)
 (C3:AL P w K mg base Ao 1 g gd ["one", "other"] Wy):AL P w K mg base Ao 2 f fd ["top", "bottom"] Sv:=by
 have sc:=P8;refine F.F.ok (k:=1) sc (fun vs H Q E h=>?_) (fun cdv A outer s H vs Q E hr h=>?_)
 ·obtain⟨t,b,m,rfl,_⟩:=h
  rfl
 obtain⟨t,b,m,rfl,hb,hm,hs,q⟩:=h;refine⟨_,(Aw (Em (Co W7 (pv 1) A5 (BL _))
  (Az UN)
  Cp)
 (Aw (B1 (i:=2) sc.nd rfl (Or.inl rfl) (GF BI C3 hr rfl (Aa (pv 0) (Aa (pv 1) A6))))
 (Aw (Em (Co Wi (pv 1) A5 (BL _))
  (Az (B1 (i:=2) sc.nd rfl (Or.inl rfl) (cS Xh (pv 2))))
  Cp)
 (Az (B9 (PQ (Aa (DD GI (pv 0) (pv 2)) (Aa (DD GI (pv 1) (pv 2)) A6)))))))),?_⟩
 refine⟨_,rfl,rfl,_,rfl,D7 (fun c=>absurd c (by simpa using hb)) (fun _=>?_)⟩;refine⟨_,rfl,_,rfl,t,b,rfl,?_⟩
 try dsimp only [Fj]
 refine N1 (fun σ' H'=>σ'=[some (.int t),some (.int b),some (.int (FM.gs t b))]∧H=H') (fun nx hn=>?_) ?_
 ·refine⟨_,rfl,_,_,rfl,rfl,_,rfl,D7 (fun c=>?_) (fun c=>?_)⟩
  ·have c':b<0:=aP c;refine⟨_,rfl,_,rfl,hn _ _ ⟨?_,rfl⟩⟩;unfold FM.gs;rw [if_pos c']
   rfl
  ·have c':¬b<0:=bM (bA.mpr c);refine hn _ _ ⟨?_,rfl⟩;unfold FM.gs;rw [if_neg c']
   rfl
 ·rintro σ' H' ⟨rfl,rfl⟩;have h0:FM.gs t b≠0:=FM.cb hb;have h1:(FM.gs t b).natAbs<2 ^ m:=aV (FM.cV hb) hs;refine⟨_,rfl,_,rfl,_,_,rfl,rfl,⟨h0,m,hm,h1⟩,_,rfl,_,rfl,_,_,rfl,rfl,⟨h0,m,hm,h1⟩,Xg,fun p hp=>?_⟩;refine q p _ (Bh hp _) ?_;rw [AX];show some (HO.tup [V.int (t.fdiv (FM.gs t b)),V.int (b.fdiv (FM.gs t b))])=_;rw [FM.Sn hb,FM.Tz hb]
  rfl
theorem RZ:Ad ["one", "other"] ["one", "other"] (AR G7):=CN
theorem Rg(F:Fn K mg "frac_times" G7 ["one", "other"] f fd)(DJ:Fn K mg "fraction_of" GG ["top", "bottom"] g gd)
 (IE:AL P w K mg base Ao 2 g gd ["top", "bottom"] Sv):AL P w K mg base Ao 3 f fd ["one", "other"] (i4 K (fun p q=>p*q) (fun _=>True)):=by
 have sc:=RZ;refine F.F.ok (k:=2) sc (fun vs H Q E h=>?_) (fun cdv A outer s H vs Q E hr h=>?_)
 ·obtain⟨v,w,p,q,n,rfl,_⟩:=h
  rfl
 obtain⟨v,w,p,q,n,rfl,⟨a,rfl,sp⟩,⟨b,rfl,sq⟩,hp,hq,hn,Ap,k⟩:=h;refine⟨_,(Az (B9 (GF DJ IE hr rfl (Aa (DD HS (EI EL (pv 0) A5 (fun _ _=>rfl)) (EI EL (pv 1) A5 (fun _ _=>rfl))) (Aa (DD HS (EI EL (pv 0) A5 (fun _ _=>rfl)) (EI EL (pv 1) A5 (fun _ _=>rfl))) A6))))),?_⟩;refine⟨_,rfl,_,_,_,_,rfl,rfl,sp,rfl,_,rfl,_,_,_,_,rfl,rfl,sq,rfl,_,_,rfl,rfl,QC hp.1 hq.1 (by omega),_,rfl,_,_,_,_,rfl,rfl,sp,rfl,_,rfl,_,_,_,_,rfl,rfl,sq,rfl,_,_,rfl,rfl,QC hp.d hq.d (by omega),_,_,n+n,rfl,FM.Mk p q,by omega,FM.dd hp hq,fun l H' e1 e2=>?_⟩;exact k l H' e1 (by rw [FM.N5 p q]at e2;exact e2)
end
def FE:PyData→Bool
 |.tuple [.int a,.int b]=>decide (1≤b)&&(FM.gi a b==1)
 |_=>false
theorem Nn{ds:List PyData}(h:ds.length≠2∨∃d0 d1,ds=[d0,d1]∧((Ho d0 && !GP d0)=false∨(Ho d1 && !GP d1)=false)):FE (.tuple ds)=false:=by
 rcases h with h | ⟨d0,d1,rfl,h⟩
 ·match ds,h with
  |[],_=>rfl
  |[a],_=>cases a<;>rfl
  |[_,_],h=>exact absurd rfl h
  |a::b::_::_,_=>cases a<;>first | rfl | (cases b<;>rfl)
 ·cases d0<;>first | rfl | (cases d1<;>first | rfl | (exfalso;rcases h with h | h<;>exact absurd h (by simp [Ho,GP])))
def YE:Sp:=fun vs H Q _=>∃l d v,vs=[v]∧Dt l H d v∧Q (.bl (Ho d && !GP d)) H
def Xq:Sp:=fun vs H Q _=>∃l d v,vs=[v]∧Dt l H d v∧Q (.bl (FE d)) H
theorem RM{d:PyData}(h:(Ho d && !GP d)=true):∃i,d=.int i:=by
 cases d<;>first | exact⟨_,rfl⟩ | (exact absurd h (by simp [Ho,GP])) | (rename_i b;cases b<;>exact absurd h (by decide))
section
variable{P:Program}{w:World}{K:Fg}{mg:Str→Option Value}{base:Heap}{f g g1 g2 g3 g4 g5:Addr}{fd gd gd1 gd2 gd3 gd4 gd5:FuncData}
theorem Ua:Ad ["thing"] ["thing"] (AR LA):=CN
theorem Uq(F:Fn K mg "is_whole" LA ["thing"] f fd)(Al:mg "isinstance" = none)(Mw:mg "int" = none)(Kl:mg "bool" = none):AL P w K mg base Ao 1 f fd ["thing"] YE:=by
 have sc:=Ua;refine F.F.ok (k:=0) sc (fun vs H Q E h=>?_) (fun cdv A outer s H vs Q E hr h=>?_)
 ·obtain⟨l,d,v,rfl,_⟩:=h
  rfl
 obtain⟨l,d,v,rfl,hd,q⟩:=h;refine⟨_,(Az (B9 (XD (CS HV rfl Al bG (Aa (pv 0) (Aa (Iu (v:=.ty "int") rfl Mw PyProof.Rows.boot_int rfl) A6))) (Xx (gL (CS HV rfl Al bG (Aa (pv 0) (Aa (Iu (v:=.ty "bool") rfl Kl PyProof.Rows.boot_bool rfl) A6)))))))),?_⟩;refine⟨_,rfl,_,_,_,_,rfl,X6,hd.ty,So K d hd.nodict,_,rfl,D7 (fun c=>⟨_,rfl,_,_,_,_,rfl,X6,hd.ty,RD K d hd.nodict,_,rfl,?_⟩) (fun c=>?_)⟩
 ·rw [c,Bool.true_and]at q;exact q
 ·rw [Bool.eq_false_iff.mpr c,Bool.false_and]at q;exact q
theorem QJ:Ad ["thing"] ["thing"] (AR IK):=CN
theorem P6(F:Fn K mg "is_fraction" IK ["thing"] f fd)(Gq:Fn K mg "is_whole" LA ["thing"] g1 gd1)(BI:Fn K mg "greatest_divisor" C8 ["one", "other"] g2 gd2)
 (Pe:AL P w K mg base Ao 1 g1 gd1 ["thing"] YE)(C3:AL P w K mg base Ao 1 g2 gd2 ["one", "other"] Wy)(Al:mg "isinstance" = none)(Bx:mg "tuple" = none)(Bm:mg "len" = none):AL P w K mg base Ao 2 f fd ["thing"] Xq:=by
 have sc:=QJ;refine F.F.ok (k:=1) sc (fun vs H Q E h=>?_) (fun cdv A outer s H vs Q E hr h=>?_)
 ·obtain⟨l,d,v,rfl,_⟩:=h
  rfl
 obtain⟨l,d,v,rfl,hd,q⟩:=h;refine⟨_,(Aw (Em (PW.pt (Ro (Gu (Gb (CS HV rfl Al bG (Aa (pv 0) (Aa (Iu (v:=.ty "tuple") rfl Bx bR rfl) A6))))) (PM (Co cJ (CS MU rfl Bm bD (Aa (pv 0) A6)) A5 (BL _)))))
  (Az (B9 Ii))
  Cp)
 (Aw (Em (PW.pt (Ro (Gu (Gb (GF Gq Pe hr rfl (Aa (EI EL (pv 0) A5 (fun _ _=>rfl)) A6)))) (PM (Gu (Gb (GF Gq Pe hr rfl (Aa (EI EL (pv 0) A5 (fun _ _=>rfl)) A6)))))))
  (Az (B9 Ii))
  Cp)
 (Az (B9 (XD (P0 cM (EI EL (pv 0) A5 (fun _ _=>rfl)) A5 (BL _)) (Xx (P0 W7 (GF BI C3 hr rfl (Aa (EI EL (pv 0) A5 (fun _ _=>rfl)) (Aa (EI EL (pv 0) A5 (fun _ _=>rfl)) A6))) A5 (BL _)))))))),?_⟩
 refine⟨_,rfl,_,_,_,_,rfl,X6,hd.ty,T7 K d hd.nodict,_,rfl,?_⟩;have no:Kf d=false→FE d=false:=fun z=>by cases d<;>first | rfl | exact absurd z (by simp [Kf])
 by_cases ht:Kf d=true
 ·rw [ht];obtain⟨ds,rfl⟩:∃ds,d=.tuple ds:=by cases d<;>first | exact⟨_,rfl⟩ | exact absurd ht (by simp [Kf])
  rw [Dt]at hd;obtain⟨a,xs,rfl,na,ha,hx⟩:=hd;have hlen:=hx.len;have s1:A8 K H a xs:=A8.of ha;refine Sl ⟨_,rfl,a,xs,rfl,.inr s1,rfl,_,rfl,D7 (fun c=>?_) (fun c=>?_)⟩
  ·have:ds.length≠2:=by
    rw [←hlen];intro z;rw [z]at c;exact absurd c (by decide)
   rw [Nn (.inl this)]at q;exact q
  ·have h2:xs.length=2:=by
    by_cases z:xs.length=2
    ·exact z
    ·exfalso
     refine c ?_;have:¬(V.int (xs.length:Nat)=V.int 2):=by simp;omega
     rw [decide_eq_false this];rfl
   obtain⟨d0,d1,rfl⟩:∃d0 d1,ds=[d0,d1]:=by
    match ds,(show ds.length=2 by omega) with
    |[x,y],_=>exact⟨x,y,rfl⟩
   rw [B8]at hx;obtain⟨x0,r,rfl,hx0,hx⟩:=hx;rw [B8]at hx;obtain⟨x1,r,rfl,hx1,hx⟩:=hx;rw [B8]at hx;subst hx;refine⟨_,rfl,_,_,_,_,rfl,rfl,s1,rfl,l,d0,x0,rfl,hx0,_,rfl,D7 (fun c0=>?_) (fun c0=>?_)⟩
   ·rw [Nn (.inr ⟨d0,d1,rfl,.inl (by simp at c0;rcases c0 with c | c<;>simp [c])⟩)]at q;exact q
   refine⟨_,rfl,_,_,_,_,rfl,rfl,s1,rfl,l,d1,x1,rfl,hx1,_,rfl,D7 (fun c1=>?_) (fun c1=>?_)⟩
   ·rw [Nn (.inr ⟨d0,d1,rfl,.inr (by simp at c1;rcases c1 with c | c<;>simp [c])⟩)]at q;exact q
   obtain⟨i,rfl⟩:=RM (d:=d0) (by simpa using c0);obtain⟨j,rfl⟩:=RM (d:=d1) (by simpa using c1);rw [Dt]at hx0 hx1;subst hx0 hx1;refine⟨_,rfl,_,_,_,_,rfl,rfl,s1,rfl,_,_,rfl,rfl,_,rfl,D7 (fun c=>?_) (fun c=>?_)⟩
   ·refine⟨_,rfl,_,_,_,_,rfl,rfl,s1,rfl,_,rfl,_,_,_,_,rfl,rfl,s1,rfl,i,j,rfl,rfl,?_⟩;have hj:1≤j:=by have:=aP c;omega
    have e:FE (.tuple [.int i,.int j])=decide (V.int (FM.gi i j)=V.int 1):=by
     rw [FE,decide_eq_true hj,Bool.true_and,Bool.eq_iff_iff];simp
    rw [e]at q;exact q
   ·have hj:¬1≤j:=fun z=>c (bT (by omega));have e:FE (.tuple [.int i,.int j])=false:=by rw [FE,decide_eq_false hj,Bool.false_and]
    rw [e]at q;exact q
 ·rw [Bool.eq_false_iff.mpr ht];rw [no (bA.mpr ht)]at q;exact Tq (Tq q)
end
def Gv:PyData→Bool
 |.list ds=>ds.all FE
 |_=>false
theorem Yq{d:PyData}(h:Hw d=false):Gv d=false:=by cases d<;>first | rfl | exact absurd h (by simp [Hw])
theorem ZC{d:PyData}(h:Hw d=true):∃ds,d=.list ds:=by cases d<;>first | exact⟨_,rfl⟩ | exact absurd h (by simp [Hw])
def d8:Sp:=fun vs H Q _=>∃l d v,vs=[v]∧Dt l H d v∧Q (.bl (Gv d)) H
section
variable{P:Program}{w:World}{K:Fg}{mg:Str→Option Value}{base:Heap}{f g g1 g2 g3 g4 g5:Addr}{fd gd gd1 gd2 gd3 gd4 gd5:FuncData}
theorem OA:Ad ["thing", "part"] ["thing"] (AR Gd):=CN
theorem N7(F:Fn K mg "are_fractions" Gd ["thing"] f fd)(GD:Fn K mg "is_fraction" IK ["thing"] g1 gd1)
 (Rf:AL P w K mg base Ao 2 g1 gd1 ["thing"] Xq)(Al:mg "isinstance" = none)(F8:mg "list" = none):AL P w K mg base Ao 3 f fd ["thing"] d8:=by
 have sc:=OA;refine F.F.ok (k:=2) sc (fun vs H Q E h=>?_) (fun cdv A outer s H vs Q E hr h=>?_)
 ·obtain⟨l,d,v,rfl,_⟩:=h
  rfl
 obtain⟨l,d,v,rfl,hd,q⟩:=h;refine⟨_,(Aw (Em (Gu (Gb (CS HV rfl Al bG (Aa (pv 0) (Aa (Iu (v:=.ty "list") rfl F8 PyProof.Rows.boot_list rfl) A6)))))
  (Az (B9 Ii))
  Cp)
 (Aw (Pj aR rfl (KY (pv 0)) (A1 (i:=1) sc.nd rfl (Or.inl rfl))
  (Az (Em (Gu (Gb (GF GD Rf hr rfl (Aa (pv 1) A6))))
   (Az (B9 Ii))
   Cp)))
 (Az (B9 Ii)))),?_⟩
 refine⟨_,rfl,_,_,_,_,rfl,X6,hd.ty,S5 K d hd.nodict,_,rfl,?_⟩;by_cases hL:Hw d=false
 ·rw [hL];rw [Yq hL]at q;exact Tq q
 have hL:Hw d=true:=by simpa using hL
 rw [hL];refine Sl ?_;obtain⟨ds,rfl⟩:=ZC hL;rw [Dt]at hd;obtain⟨a,xs,rfl,na,ha,ht⟩:=hd;have hlen:=ht.len;refine⟨_,rfl,a,rfl,⟨_,A4.of ha⟩,T1 (xs:=xs) (fun i σ H'=>∃r1,σ=[some (.ref a),r1]∧H=H'∧∀j c,j<i→ds[j]? = some c→FE c=true) ?_ ?_ ?_ ?_⟩
 ·exact⟨_,rfl,rfl,fun j c h=>absurd h (ak _)⟩
 ·rintro i σ H' _ ⟨r1,rfl,rfl,_⟩;exact A4.of ha
 ·rintro i x σ H' hx ⟨r1,rfl,rfl,hf⟩;obtain⟨c,hc,tc⟩:=ht.get hx;refine⟨_,rfl,l,c,x,rfl,tc,_,rfl,D7 (fun b=>?_) (fun b=>?_)⟩
  ·have hb:FE c=false:=by simpa using b
   have e:Gv (.list ds)=false:=bA.mpr fun z=>by
    rw [Gv,List.all_eq_true]at z;rw [z c (aI hc)]at hb;cases hb
   rw [e]at q;exact q
  ·have hb:FE c=true:=by simpa using b
   refine⟨_,rfl,rfl,fun j e hj he=>?_⟩;by_cases z:j=i
   ·subst z;rw [hc]at he;cases he;exact hb
   ·exact hf j e (by omega) he
 ·rintro σ H' ⟨r1,rfl,rfl,hf⟩;have e:Gv (.list ds)=true:=by
   rw [Gv,List.all_eq_true];intro c hc;obtain⟨j,hj⟩:=List.getElem?_of_mem hc;exact hf j c (by rw [hlen];exact(aE.mp hj).1) hj
  rw [e]at q;exact q
end
def b5:Sp:=fun vs H Q _=>∃(a:Addr) (bs:List Int) (k:Nat),vs=[.ref a]∧H a=some (.lst (bs.map V.int))∧(∀b∈bs,1≤b∧b.natAbs<2 ^ k)∧k*bs.length≤4000 ∧
 ∀c:Int,1≤c→c.natAbs<2 ^ (k*bs.length+1)→(∀b∈bs,b ∣ c)→Q (.int c) H
theorem Y6{c b:Int}(hc:1≤c)(hb:1≤b):1≤c.fdiv (FM.gi c b)*b∧c ∣ c.fdiv (FM.gi c b)*b∧b ∣ c.fdiv (FM.gi c b)*b∧(c.fdiv (FM.gi c b)).natAbs≤c.natAbs:=by
 have hg:0<FM.gi c b:=FM.L8 (by omega);obtain⟨q,hq⟩:=FM.Nc c b;obtain⟨r,hr⟩:=FM.Mb c b;have e:=FM.Ff (Int.ne_of_gt hg) hq;refine⟨?_,?_,Int.dvd_mul_left _ _,FM.FJ _ _⟩
 ·rw [e];have hq0:0<q:=by
   rcases Int.lt_or_le 0 q with h | h
   ·exact h
   ·have:=Int.mul_nonpos_of_nonneg_of_nonpos (Int.le_of_lt hg) h;omega
  exact Int.mul_pos hq0 (by omega)
 ·rw [e];refine⟨r,?_⟩;rw [hr]
  conv=>rhs;rw [hq]
  rw [←hr,Int.mul_comm (FM.gi c b) q,Int.mul_assoc,Int.mul_comm (FM.gi c b) r]
  conv=>lhs;rw [hr]
  rw [Int.mul_comm (FM.gi c b) r]
def cR:Sp:=fun vs H Q _=>∃(a:Addr) (xs:List V) (ps:List (Int×Int)) (k:Nat),vs=[.ref a]∧H a=some (.lst xs)∧xs.length=ps.length∧ps.length≤1000∧(∀(j:Nat) x p,xs[j]? = some x→ps[j]? = some p→∃c,x=.ref c∧H c=some (.tup [.int p.1,.int p.2])) ∧
 (∀p∈ps,1≤p.2∧p.1.natAbs<2 ^ k∧p.2.natAbs<2 ^ k)∧k*ps.length≤4000∧∀l H',AO H H'→H' l=some (.tup (QY (ps.map fun p=>Rat.divInt p.1 p.2).sum))→Q (.ref l) H'
theorem div_add(x y:Int){c:Int}(hc:c≠0):Rat.divInt (x+y) c=Rat.divInt x c+Rat.divInt y c:=by
 rw [Rat.divInt_add_divInt _ _ hc hc,←Int.add_mul,Rat.divInt_mul_right hc]
theorem div_one{t b c:Int}(hb:b≠0)(hc:c≠0)(h:b ∣ c):Rat.divInt (t*c.fdiv b) c=Rat.divInt t b:=by
 obtain⟨q,rfl⟩:=h;rw [FM.Ff hb rfl,Rat.divInt_mul_right (fun z=>hc (by rw [z,Int.mul_zero]))]
theorem U4{c:Int}(hc:c≠0):∀ {ps:List (Int×Int)},(∀p∈ps,p.2≠0∧p.2 ∣ c)→Rat.divInt (ps.map fun p=>p.1*c.fdiv p.2).sum c=(ps.map fun p=>Rat.divInt p.1 p.2).sum
 |[],_=>by simp
 |p::ps,h=>by
  obtain⟨h1,h2⟩:=h p ae;rw [List.map_cons,List.sum_cons,List.map_cons,List.sum_cons,div_add _ _ hc,div_one h1 hc h2,U4 hc fun q hq=>h q (aS _ hq)]
def cG:Sp:=fun vs H Q _=>∃(b:Int) (p k:Nat),vs=[.int b,.int p]∧b.natAbs<2 ^ k∧k*p≤4000∧Q (.int (b ^ p)) H
theorem Oe{b:Int}{k e p:Nat}(hb:b.natAbs<2 ^ k)(he:e≤p):(b ^ e).natAbs<2 ^ (k*p+1):=by
 rw [Int.natAbs_pow];have h1:b.natAbs ^ e≤(2 ^ k) ^ e:=Nat.pow_le_pow_left (bK hb) e;rw [←Nat.pow_mul]at h1;exact aV h1 (Nat.pow_lt_pow_right (by decide) (Nat.lt_succ_of_le (Nat.mul_le_mul_left k he)))
def nE(σ:St):Nat:=match σ[4]? with | some (some (V.int l))=>l.natAbs | _=>0
section
variable{P:Program}{w:World}{K:Fg}{mg:Str→Option Value}{base:Heap}{f g g1 g2:Addr}{fd gd gd1 gd2:FuncData}
theorem OX:Ad ["bottoms", "common", "bottom"] ["bottoms"] (AR Gn):=CN
theorem Nq(F:Fn K mg "common_bottom" Gn ["bottoms"] f fd)(BI:Fn K mg "greatest_divisor" C8 ["one", "other"] g gd)
 (C3:AL P w K mg base Ao 1 g gd ["one", "other"] Wy):AL P w K mg base Ao 2 f fd ["bottoms"] b5:=by
 have sc:=OX;refine F.F.ok (k:=1) sc (fun vs H Q E h=>?_) (fun cdv A outer s H vs Q E hr h=>?_)
 ·obtain⟨a,bs,k,rfl,_⟩:=h
  rfl
 obtain⟨a,bs,k,rfl,ha,hb,hk,q⟩:=h;refine⟨_,(Aw (B1 (i:=1) sc.nd rfl (Or.inl rfl) A5)
 (Aw (Pj aR rfl (KY (pv 0)) (A1 (i:=2) sc.nd rfl (Or.inl rfl))
  (Az (B1 (i:=1) sc.nd rfl (Or.inl rfl) (DD HS (DD GI (pv 1) (GF BI C3 hr rfl (Aa (pv 1) (Aa (pv 2) A6)))) (pv 2)))))
 (Az (B9 (pv 1))))),?_⟩
 refine⟨_,rfl,a,rfl,⟨_,A4.of ha⟩,T1 (xs:=bs.map V.int) (fun i σ H'=>∃(c:Int) (r:Option V),σ=[some (.ref a),some (.int c),r]∧H=H'∧1≤c∧c.natAbs<2 ^ (k*i+1)∧∀j b,j<i→bs[j]? = some b→b ∣ c) ?_ ?_ ?_ ?_⟩
 ·exact⟨1,_,rfl,rfl,by decide,by simp,fun j b h=>absurd h (ak _)⟩
 ·rintro i σ H' _ ⟨c,r,rfl,rfl,_⟩;exact A4.of ha
 ·rintro i x σ H' hx ⟨c,r,rfl,rfl,c1,c2,c3⟩;have hi:i<bs.length:=by have:=(aE.mp hx).1;simpa using this
  rw [List.getElem?_map,List.getElem?_eq_getElem hi]at hx;cases hx;obtain⟨b1,b2⟩:=hb _ (List.getElem_mem hi);obtain⟨s1,s2,s3,s4⟩:=Y6 c1 b1;have hg:FM.gi c bs[i]≠0:=Int.ne_of_gt (FM.L8 (by omega));have hki:k*i+k≤4000:=by
   have:k*(i+1)≤k*bs.length:=Nat.mul_le_mul_left k hi;rw [Nat.mul_succ]at this;omega
  have n1:(c.fdiv (FM.gi c bs[i])).natAbs<2 ^ (k*i+1):=aV s4 c2;refine⟨_,rfl,_,rfl,_,rfl,c,bs[i],rfl,_,_,rfl,rfl,⟨hg,k,by have:k*1≤k*bs.length:=Nat.mul_le_mul_left k (by omega);omega,Nat.lt_of_le_of_lt (FM.cE (by omega)) b2⟩,_,rfl,_,_,rfl,rfl,QC n1 b2 (by omega),_,_,rfl,rfl,s1,?_,fun j b hj hbj=>?_⟩
  ·have:=FM.JL n1 b2;rw [Nat.mul_succ,show k*i+k+1=k*i+1+k by omega];exact this
  ·by_cases z:j=i
   ·subst z;rw [List.getElem?_eq_getElem hi]at hbj;cases hbj;exact s3
   ·exact Int.dvd_trans (c3 j b (by omega) hbj) s2
 ·rintro σ H' ⟨c,r,rfl,rfl,c1,c2,c3⟩;rw [List.length_map]at c2 c3;refine⟨_,rfl,q c c1 c2 fun b hb=>?_⟩;obtain⟨j,hj⟩:=List.getElem?_of_mem hb;exact c3 j b (aE.mp hj).1 hj
theorem RT:Ad ["some", "bottom"] ["some"] (AR Jc):=CN
theorem RX(F:Fn K mg "frac_total" Jc ["some"] f fd)(FA:Fn K mg "common_bottom" Gn ["bottoms"] g1 gd1)(DJ:Fn K mg "fraction_of" GG ["top", "bottom"] g2 gd2)
 (PL:AL P w K mg base Ao 2 g1 gd1 ["bottoms"] b5)(IE:AL P w K mg base Ao 2 g2 gd2 ["top", "bottom"] Sv)(G5:mg "sum" = none):AL P w K mg base Ao 3 f fd ["some"] cR:=by
 have sc:=RT;refine F.F.ok (k:=2) sc (fun vs H Q E h=>?_) (fun cdv A outer s H vs Q E hr h=>?_)
 ·obtain⟨a,xs,ps,k,rfl,_⟩:=h
  rfl
 obtain⟨a,xs,ps,k,rfl,ha,hl,h1000,hx,hp,hk,q⟩:=h;have hk1:ps≠[]→k≤4000:=fun hne=>by
  have:k*1≤k*ps.length:=Nat.mul_le_mul_left k (List.length_pos_iff.mpr hne);omega
 have at_:∀(i:Nat) (hi:i<xs.length),∃(p:Int×Int) (c:Addr),ps[i]? = some p∧xs[i]=.ref c∧H c=some (.tup [.int p.1,.int p.2]):=fun i hi=>by
  have hpi:ps[i]? = some (ps[i]'(by omega)):=aL _;obtain⟨c,h1,h2⟩:=hx i xs[i] _ (aL hi) hpi;exact⟨_,c,hpi,h1,h2⟩
 refine⟨_,(Aw (B1 (i:=1) sc.nd rfl (Or.inr rfl) (GF FA PL hr rfl (Aa (LD [".0", "part"] 1 [none,none] (KY (pv 0)) (fun _ _ _ _ _=>Qb) (fun _ _ _ _ _=>(EI Pw (pv 1) A5 (fun _ _=>rfl)))) A6)))
 (Az (B9 (GF DJ IE hr rfl (Aa (CS (SN rfl) rfl G5 PyProof.Rows.boot_sum (Aa (LD [".0", "part", "bottom"] 1 [none,none,some 1] (KY (pv 0)) (fun _ _ _ _ _=>Qb) (fun _ _ _ _ _=>(DD HS (EI Pw (pv 1) A5 (fun _ _=>rfl)) (DD GI (pv 2) (EI Pw (pv 1) A5 (fun _ _=>rfl)))))) A6)) (Aa (pv 1) A6)))))),?_⟩
 refine⟨_,rfl,a,rfl,⟨_,A4.of ha⟩,fun D hD=>P9 (n:=xs.length) (fun i ys H'=>AO H H'∧ys=((ps.take i).map (·.2)).map V.int) ?_ ?_ ?_⟩
 ·exact⟨Bh hD _,rfl⟩
 ·rintro i ys H0 hi ⟨e0,rfl⟩ hD0;obtain⟨p,c,h1,h2,h3⟩:=at_ i hi;refine⟨⟨xs,xs[i],A4.of (e0 _ _ ha),by simp [hi]⟩,?_,fun x H' y=>?_⟩
  ·rw [List.length_map,List.length_map,List.length_take];exact aV (Nat.min_le_left _ _) (aH (show i<1000 by omega) (by rw [sizeLine_eq];decide))
  ·obtain⟨rfl,y⟩:=y;have hxi:=y xs (A4.of (e0 _ _ ha));rw [List.getElem?_eq_getElem hi,h2]at hxi;cases hxi;unfold Ww;refine Tq ⟨_,rfl,_,_,_,_,rfl,rfl,A8.of (e0 _ _ h3),rfl,hD0,M7 hi ⟨fun b o z=>?_,?_⟩⟩
   ·rw [AM (Aj z hD)];exact e0 _ _ z
   ·rw [List.take_succ,h1];simp
 rintro ys H0 ⟨e0,rfl⟩ hD0;refine⟨⟨xs,A4.of (e0 _ _ ha),Nat.le_refl _⟩,?_⟩;rw [hl,List.take_length]at hD0;refine⟨D,ps.map (·.2),k,rfl,hD0,fun b hb=>?_,by rw [List.length_map];exact hk,fun c c1 c2 c3=>?_⟩
 ·obtain⟨p,hp',rfl⟩:=aT.mp hb;exact⟨(hp p hp').1,(hp p hp').2.2⟩
 rw [List.length_map]at c2;refine⟨_,rfl,a,rfl,⟨_,A4.of (e0 _ _ ha)⟩,fun D2 hD2=>P9 (n:=xs.length) (fun i ys H'=>AO H0 H'∧ys=((ps.take i).map fun p=>p.1*c.fdiv p.2).map V.int) ?_ ?_ ?_⟩
 ·exact⟨Bh hD2 _,rfl⟩
 ·rintro i ys H1 hi ⟨e1,rfl⟩ hD1;have E1:=e0.trans e1;obtain⟨p,d,h1,h2,h3⟩:=at_ i hi;have hpm:=aI h1;have hkk:=hk1 (List.ne_nil_of_mem hpm);obtain⟨p1,p2,p3⟩:=hp p hpm;refine⟨⟨xs,xs[i],A4.of (E1 _ _ ha),by simp [hi]⟩,?_,fun x H' y=>?_⟩
  ·rw [List.length_map,List.length_map,List.length_take];exact aV (Nat.min_le_left _ _) (aH (show i<1000 by omega) (by rw [sizeLine_eq];decide))
  ·obtain⟨rfl,y⟩:=y;have hxi:=y xs (A4.of (E1 _ _ ha));rw [List.getElem?_eq_getElem hi,h2]at hxi;cases hxi;unfold Ww;refine Tq ⟨_,rfl,_,_,_,_,rfl,rfl,A8.of (E1 _ _ h3),rfl,_,rfl,_,rfl,_,_,_,_,rfl,rfl,A8.of (E1 _ _ h3),rfl,_,_,rfl,rfl,⟨by omega,k,by omega,p3⟩,_,_,rfl,rfl,QC p2 (aV (FM.FJ c p.2) c2) (by omega),hD1,M7 hi ⟨fun b o z=>?_,?_⟩⟩
   ·rw [AM (Aj z hD2)];exact e1 _ _ z
   ·rw [List.take_succ,h1];simp
 rintro ys H1 ⟨e1,rfl⟩ hD1;refine⟨⟨xs,A4.of ((e0.trans e1) _ _ ha),Nat.le_refl _⟩,?_⟩;rw [hl,List.take_length]at hD1;refine⟨D2,_,rfl,A4.of hD1,_,rfl,_,c,k*ps.length+1,rfl,by omega,by omega,c2,fun l H' e2 hl'=>?_⟩;refine q l H' (e0.trans (e1.trans e2)) ?_;rw [U4 (by omega) fun p hp'=>⟨by have:=(hp p hp').1;omega,c3 _ (av hp')⟩]at hl';exact hl'
theorem Uh:Ad ["base", "power", "product", "square", "left"] ["base", "power"] (AR LR):=CN
theorem UY(F:Fn K mg "power_of" LR ["base", "power"] f fd):AL P w K mg base Ao 1 f fd ["base", "power"] cG:=by
 have sc:=Uh;refine F.F.ok (k:=0) sc (fun vs H Q E h=>?_) (fun cdv A outer s H vs Q E hr h=>?_)
 ·obtain⟨b,p,k,rfl,_⟩:=h
  rfl
 obtain⟨b,p,k,rfl,hb,hk,q⟩:=h;refine⟨_,(Aw (B1 (i:=2) sc.nd rfl (Or.inl rfl) A5)
 (Aw (B1 (i:=3) sc.nd rfl (Or.inl rfl) (pv 0))
 (Aw (B1 (i:=4) sc.nd rfl (Or.inl rfl) (pv 1))
 (Aw (OZ aR (Co M1 (pv 4) A5 (BL _))
  (Aw (Em (Co W7 (DD jJ (pv 4) A5) A5 (BL _))
   (Az (B1 (i:=2) sc.nd rfl (Or.inl rfl) (DD HS (pv 2) (pv 3))))
   Cp)
  (Aw (B1 (i:=4) sc.nd rfl (Or.inl rfl) (DD eM (pv 4) A5))
  (Az (Em (Co M1 (pv 4) A5 (BL _))
   (Az (B1 (i:=3) sc.nd rfl (Or.inl rfl) (DD HS (pv 3) (pv 3))))
   Cp)))))
 (Az (B9 (pv 2))))))),?_⟩
 refine⟨_,rfl,_,rfl,?_⟩;refine OY (fun σ H'=>∃e f l:Nat,σ=[some (.int b),some (.int p),some (.int (b ^ e)),some (.int (b ^ f)),some (.int l)]∧H=H'∧e+f*l=p) (fun σ _=>nE σ) ?_ ?_ ?_
 ·refine⟨0,1,p,?_,rfl,by omega⟩;rw [Int.pow_zero,Int.pow_succ,Int.pow_zero,Int.one_mul]
  rfl
 ·rintro σ H' ⟨e,f,l,rfl,rfl,he⟩;refine⟨_,rfl,_,_,rfl,rfl,_,rfl,D7 (fun c=>?_) (fun c=>?_)⟩
  ·have hl:0<l:=by have:=aP c;omega
   have hfp:f≤p:=by
    have:f*1≤f*l:=Nat.mul_le_mul_left f hl;omega
   try dsimp only [Fj]
   refine N1 (fun σ' H'=>∃e':Nat,σ'=[some (.int b),some (.int p),some (.int (b ^ e')),some (.int (b ^ f)),some (.int l)]∧H=H'∧e'+f*(2*(l / 2))=p) (fun nx hnx=>?_) ?_
   ·refine⟨_,rfl,_,_,rfl,rfl,(by show(0:Int)<2;decide),rfl,_,rfl,D7 (fun c=>?_) (fun c=>?_)⟩
    ·have hodd:l % 2=1:=by
      have:((l:Int) % 2)=1:=by simpa using c
      omega
     refine⟨_,rfl,_,rfl,_,_,rfl,rfl,QC (Oe hb (show e≤p by omega)) (Oe hb hfp) (by omega),hnx _ _ ⟨e+f,?_,rfl,?_⟩⟩
     ·show [some (V.int b),some (V.int p),some (V.int (b ^ e*b ^ f)),some (V.int (b ^ f)),some (V.int l)]=_;rw [←Int.pow_add]
     ·have:l=2*(l / 2)+1:=by omega
      rw [←he]
      conv=>rhs;rw [this,Nat.mul_add,Nat.mul_one]
      omega
    ·have hev:l % 2=0:=by
      have:¬((l:Int) % 2)=1:=by simpa using c
      omega
     refine hnx _ _ ⟨e,rfl,rfl,?_⟩;rw [show 2*(l / 2)=l by omega];exact he
   ·rintro σ' _ ⟨e',rfl,rfl,he'⟩;refine⟨_,rfl,_,_,rfl,rfl,⟨by decide,by decide⟩,?_⟩;have el:((l:Int) / 2)=((l / 2:Nat):Int):=by omega
    refine⟨_,rfl,_,_,rfl,rfl,_,rfl,D7 (fun c=>?_) (fun c=>?_)⟩
    ·refine⟨_,rfl,_,rfl,_,_,rfl,rfl,QC (Oe hb hfp) (Oe hb hfp) (by omega),⟨e',f+f,l / 2,?_,rfl,?_⟩,?_⟩
     ·show [some (V.int b),some (V.int p),some (V.int (b ^ e')),some (V.int (b ^ f*b ^ f)),some (V.int ((l:Int) / 2))]=_;rw [el,←Int.pow_add]
     ·rw [←he',←Nat.two_mul,Nat.mul_assoc,Nat.mul_left_comm]
     ·show((l:Int) / 2).natAbs<((l:Nat):Int).natAbs;omega
    ·refine⟨⟨e',f,l / 2,?_,rfl,?_⟩,?_⟩
     ·show [some (V.int b),some (V.int p),some (V.int (b ^ e')),some (V.int (b ^ f)),some (V.int ((l:Int) / 2))]=_;rw [el]
     ·have:l / 2=0:=by have:=bM (bA.mpr c);omega
      rw [this]at he' ⊢
      simpa using he'
     ·show((l:Int) / 2).natAbs<((l:Nat):Int).natAbs;omega
  ·have hl:l=0:=by have:=bM (bA.mpr c);omega
   subst hl;rw [Nat.mul_zero,Nat.add_zero]at he;subst he;exact⟨_,rfl,q⟩
 ·exact fun σ H Q Q' hq ⟨v,e,s,k,e2,e3,e4,q1,q2⟩=>⟨v,e,s,k,e2,e3,e4,q1,hq _ _ q2⟩
end
def DU(H:Hp)(d:PyData)(v:V):Prop:=∃N:Nat,∀l,N≤l→Dt l H d v
def Oy(H:Hp)(ds:List PyData)(xs:List V):Prop:=∃N:Nat,∀l,N≤l→B8 l H ds xs
theorem DU.int{H:Hp}{i:Int}:DU H (.int i) (.int i):=⟨0,fun _ _=>.int⟩
theorem DU.bool{H:Hp}{i:Bool}:DU H (.bool i) (.bl i):=⟨0,fun _ _=>.bool⟩
theorem DU.A7{H:Hp}:DU H .none .A7:=⟨0,fun _ _=>.A7⟩
theorem DU.str{H:Hp}{x:Str}:DU H (.str x) (.str x):=⟨0,fun _ _=>.str⟩
theorem Oy.nil{H:Hp}:Oy H [] []:=⟨0,fun _ _=>.nil⟩
theorem Oy.cons{H:Hp}{d:PyData}{ds:List PyData}{x:V}{xs:List V}(h:DU H d x)(k:Oy H ds xs):Oy H (d::ds) (x::xs) :=
 let⟨N,a⟩:=h;let⟨M,b⟩:=k;⟨max N M,fun l hl=>.cons (a l (by omega)) (b l (by omega))⟩
theorem DU.lst{H:Hp}{a:Addr}{ds:List PyData}{xs:List V}(h:H a=some (.lst xs))(k:Oy H ds xs):DU H (.list ds) (.ref a) :=
 let⟨N,b⟩:=k;⟨max N (a+1),fun l hl=>.lst (aG (show a<l from aH (bL a) (aa (Nat.le_max_right _ _) hl))) h (b l (by omega))⟩
theorem DU.tup{H:Hp}{a:Addr}{ds:List PyData}{xs:List V}(h:H a=some (.tup xs))(k:Oy H ds xs):DU H (.tuple ds) (.ref a) :=
 let⟨N,b⟩:=k;⟨max N (a+1),fun l hl=>.tup (aG (show a<l from aH (bL a) (aa (Nat.le_max_right _ _) hl))) h (b l (by omega))⟩
theorem DU.nO{H:Hp}{ds:List PyData}{v:V}(h:DU H (.tuple ds) v):∃a xs,v=.ref a∧H a=some (.tup xs)∧Oy H ds xs:=by
 obtain⟨N,b⟩:=h;have h0:=b N (aJ _);rw [Dt]at h0;obtain⟨a,xs,rfl,_,ha,_⟩:=h0;refine⟨a,xs,rfl,ha,N,fun l hl=>?_⟩;have h1:=b l hl;rw [Dt]at h1;obtain⟨a',xs',e,_,ha',hx'⟩:=h1;cases e;rw [ha]at ha';cases ha';exact hx'
theorem DU.ints{H:Hp}{ps:List Int}{v:V}(h:DU H (.tuple (ps.map .int)) v):∃a,v=.ref a∧H a=some (.tup (ps.map V.int)):=by
 obtain⟨a,xs,rfl,ha,hx⟩:=h.nO;refine⟨a,rfl,?_⟩;rw [ha]
 congr 2
 obtain⟨N,b⟩:=hx;have:=b N (aJ _);clear b ha h
 induction ps generalizing xs with
 |nil=>rw [List.map_nil,B8]at this;exact this
 |cons p ps ih =>
  rw [List.map_cons,B8]at this;obtain⟨x,r,rfl,h1,h2⟩:=this;rw [Dt]at h1;subst h1;rw [List.map_cons,ih r h2]
mutual
theorem Rr{H:Hp}:∀ {d:PyData} {v:V},d.canLay0=true→Du H d v→DU H d v
 |.none,_,_,h=>by rw [Du]at h;subst h;exact .A7
 |.bool _,_,_,h=>by rw [Du]at h;subst h;exact .bool
 |.int _,_,_,h=>by rw [Du]at h;subst h;exact .int
 |.str _,_,_,h=>by rw [Du]at h;subst h;exact .str
 |.tuple _,_,c,h=>by
  rw [Du]at h;obtain⟨a,xs,rfl,h1,h2⟩:=h;exact .tup h1 (Pu (by simpa only [PyData.canLay0]using c) h2)
 |.list _,_,c,h=>by
  rw [Du]at h;obtain⟨a,xs,rfl,h1,h2⟩:=h;exact .lst h1 (Pu (by simpa only [PyData.canLay0]using c) h2)
 |.dict _,_,c,h=>by simp [PyData.canLay0]at c
theorem Pu{H:Hp}:∀ {ds:List PyData} {xs:List V},PyData.canLayAll0 ds=true→Ae H ds xs→Oy H ds xs
 |[],_,_,h=>by rw [h.nil_eq];exact .nil
 |_::_,_,c,h=>by
  obtain⟨x,r,rfl,h1,h2⟩:=h.un;simp only [PyData.canLayAll0,Bool.and_eq_true]at c;exact .cons (Rr c.1 h1) (Pu c.2 h2)
end
theorem V5{G H H':Hp}{l:Addr}{vs:List V}{ds:List PyData}(e0:AO G H)(e:AO H H')(hl:H' l=some (.tup vs))(d:Ae G ds vs):∃G',AO G G'∧Nw G H G'∧AO G' H'∧Du G' (.tuple ds) (.ref l):=by
 have e1:AO G (upd G l (.tup vs)):=fun a o h=>by
  by_cases ha:a=l
  ·subst ha;have:=e _ _ (e0 _ _ h);rw [hl]at this;rw [AX];exact this
  ·rw [AM ha];exact h
 refine⟨upd G l (.tup vs),e1,fun a u h=>?_,fun a u h=>?_,?_⟩
 ·by_cases ha:a=l
  ·subst ha;rw [AX]at h;cases h;exact .inr (.inr ⟨_,rfl⟩)
  ·rw [AM ha]at h;exact .inl h
 ·by_cases ha:a=l
  ·subst ha;rw [AX]at h;rw [hl];exact h
  ·rw [AM ha]at h;exact e _ _ (e0 _ _ h)
 ·rw [Du];exact⟨l,vs,rfl,AX,d.same e1⟩
theorem LL{G:Hp}:∀ps:List Int,Ae G (ps.map .int) (ps.map V.int)
 |[]=>.nil
 |p::ps=>.cons (by rw [Du]) (LL ps)
section
variable{P:Program}{w:World}{K:Fg}{mg:Str→Option Value}{base:Heap}{CX:GQ}{k:Nat}{f:Addr}{fd:FuncData}{ps:List Str}
def mB(q:PyData→Bool):MD
 |[d]=>if d.canLay0=true then some (.bool (q d)) else none
 |_=>none
theorem kZ{q:PyData→Bool}{d:PyData}(h:d.canLay0=true):mB q [d]=some (.bool (q d)):=if_pos h
theorem lT{q:PyData→Bool}{d:PyData}{b:Bool}(h:d.canLay0=true)(e:q d=b):mB q [d]=some (.bool b):=(kZ h).trans (by rw [e])
theorem nA{sp:Sp}{q:PyData→Bool}(F:AL P w K mg base CX k f fd ps sp)(h:∀(l:Addr) d v H Q E,Dt l H d v→(∀H',AO H H'→Q (.bl (q d)) H')→sp [v] H Q E):AL P w K mg base CX k f fd ps (BH (mB q)) :=
 Io F fun ds x hm G H vs Q E d e kk=>by
  unfold mB at hm;split at hm
  ·split at hm
   ·rename_i dd hc;cases hm;obtain⟨v,rfl,d1⟩:=d.GX;obtain⟨N,b⟩:=Rr hc (d1.same e);exact h N _ v H Q E (b N (aJ _)) fun H' e'=>kk _ G H' (.refl _) Nw.refl (e.trans e') e' (by rw [Du])
   ·cases hm
  ·cases hm
end
theorem Tg:∀ps:List Int,PyData.canLayAll0 (ps.map .int)=true
 |[]=>by simp [PyData.canLayAll0]
 |p::ps=>by rw [List.map_cons];simp only [PyData.canLayAll0,PyData.canLay0];rw [Tg ps];rfl
theorem Xf{ds:List PyData}(h:∀d∈ds,d.canLay0=true):PyData.canLayAll0 ds=true:=by
 induction ds with
 |nil=>simp [PyData.canLayAll0]
 |cons d ds ih=>simp only [PyData.canLayAll0];rw [h d (.head _),ih fun e he=>h e (.tail _ he)];rfl
theorem j7{ds:List PyData}(h:∀d∈ds,d.canLay0=true):(PyData.list ds).canLay0=true:=by simp only [PyData.canLay0];exact Xf h
section
variable{P:Program}{w:World}{K:Fg}{mg:Str→Option Value}{base:Heap}{f g:Addr}{fd gd:FuncData}
theorem UB:Ad ["_law_top", "_law_bottom", "_law_one", "_law_other"] ["_law_top", "_law_bottom"] (AR F7):=CN
theorem Tx(F:Fn K mg "_law_frac" F7 ["_law_top", "_law_bottom"] f fd)(Jz:mg "abs" = none):AL P w K mg base Ao 1 f fd ["_law_top", "_law_bottom"] Sv:=by
 have sc:=UB;refine F.F.ok (k:=0) sc (fun vs H Q E h=>?_) (fun cdv A outer s H vs Q E hr h=>?_)
 ·obtain⟨t,b,m,rfl,_⟩:=h
  rfl
 obtain⟨t,b,m,rfl,hb,hm,hs,q⟩:=h;refine⟨_,(Aw (B1 (i:=2) sc.nd rfl (Or.inl rfl) (CS LV rfl Jz PyProof.Rows.boot_abs (Aa (pv 0) A6)))
 (Aw (B1 (i:=3) sc.nd rfl (Or.inl rfl) (CS LV rfl Jz PyProof.Rows.boot_abs (Aa (pv 1) A6)))
 (Aw (OZ aR (Co M1 (pv 3) A5 (BL _))
  (Az (i7 (i:=2) (j:=3) rfl sc.nd rfl rfl (by decide) rfl rfl (Aa (pv 3) (Aa (DD Qa (pv 2) (pv 3)) A6)) rfl)))
 (Aw (Em (Co Wi (pv 1) A5 (BL _))
  (Az (B1 (i:=2) sc.nd rfl (Or.inl rfl) (DD Pl A5 (pv 2))))
  Cp)
 (Az (B9 (PQ (Aa (DD GI (pv 0) (pv 2)) (Aa (DD GI (pv 1) (pv 2)) A6))))))))),?_⟩
 refine⟨_,rfl,_,rfl,_,rfl,_,rfl,?_⟩;refine OY (fun σ H'=>∃g l,σ=[some (.int t),some (.int b),some (.int g),some (.int l)]∧H=H'∧Int.gcd g l=Int.gcd t b∧0≤g∧0≤l) (fun σ _=>lC σ) ?_ ?_ ?_
 ·exact⟨_,_,rfl,rfl,FM.VG t b,FM.abs_nonneg t,FM.abs_nonneg b⟩
 ·rintro σ H' ⟨g,l,rfl,rfl,hg,h0,h1⟩;refine⟨_,rfl,_,_,rfl,rfl,_,rfl,D7 (fun c=>?_) (fun c=>?_)⟩
  ·have hl':0<l:=aP c;have hl:l≠0:=by omega
   refine⟨_,rfl,_,rfl,_,rfl,_,_,rfl,rfl,hl,_,_,rfl,⟨_,_,rfl,rfl,?_,h1,FM.fmod_nonneg hl h1⟩,?_⟩
   ·rw [FM.T8];exact hg
   ·exact FM.Q0 g l hl
  ·have hl':¬0<l:=bM (bA.mpr c);have hl:l=0:=by omega
   subst hl;rw [FM.YG hg h0]
   try dsimp only [Fj]
   refine N1 (fun σ' H'=>σ'=[some (.int t),some (.int b),some (.int (FM.gs t b)),some (.int 0)]∧H=H') (fun nx hn=>?_) ?_
   ·refine⟨_,rfl,_,_,rfl,rfl,_,rfl,D7 (fun c=>?_) (fun c=>?_)⟩
    ·have c':b<0:=aP c;refine⟨_,rfl,_,_,rfl,rfl,hn _ _ ⟨?_,rfl⟩⟩;show [some (V.int t),some (V.int b),some (V.int (0-FM.gi t b)),some (V.int 0)]=_;unfold FM.gs;rw [if_pos c',Int.zero_sub]
    ·have c':¬b<0:=bM (bA.mpr c);refine hn _ _ ⟨?_,rfl⟩;unfold FM.gs;rw [if_neg c']
   ·rintro σ' H' ⟨rfl,rfl⟩;have h0:FM.gs t b≠0:=FM.cb hb;have h1:(FM.gs t b).natAbs<2 ^ m:=aV (FM.cV hb) hs;refine⟨_,rfl,_,rfl,_,_,rfl,rfl,⟨h0,m,hm,h1⟩,_,rfl,_,rfl,_,_,rfl,rfl,⟨h0,m,hm,h1⟩,Xg,fun p hp=>?_⟩;refine q p _ (Bh hp _) ?_;rw [AX];show some (HO.tup [V.int (t.fdiv (FM.gs t b)),V.int (b.fdiv (FM.gs t b))])=_;rw [FM.Sn hb,FM.Tz hb]
    rfl
 ·exact fun σ H Q Q' hq ⟨v,e,i,j,e1,e2,k,e3,q⟩=>⟨v,e,i,j,e1,e2,k,e3,hq _ _ q⟩
end
def UQ(n:Nat):Sp:=fun vs H Q _=>∃v t,vs=[v]∧Tv H t v∧t.deep<n∧n≤60∧∀H',AO H H'→Q (.bl t.DY) H'
def TQ:Sp:=fun vs H Q _=>∃v t,vs=[v]∧Tv H t v∧t.deep<8∧t.DY=true∧∀H',AO H H'→Q .A7 H'
theorem Y4{P:Program}{w:World}{K:Fg}{mg:Str→Option Value}{base:Heap}{CX:GQ}{k:Nat}{f:Addr}{fd:FuncData}{ps:List Str}{sp:Sp}(h:∀vs H Q E,¬sp vs H Q E):AL P w K mg base CX k f fd ps sp :=
 ⟨fun _ _ _ _ z=>(h _ _ _ _ z).elim,fun _ _ _ _ _ _ _ _ _ _ _ _ _ z=>(h _ _ _ _ z).elim⟩
section
variable{P:Program}{w:World}{K:Fg}{mg:Str→Option Value}{base:Heap}{f g g1 g2 g3 g4:Addr}{fd gd gd1 gd2 gd3 gd4:FuncData}
theorem WW:Ad ["thing", "k", "bough"] ["thing"] (AR Mf):=CN
theorem Ot(Ef:Fn K mg "is_tree" Mf ["thing"] f fd)(Al:mg "isinstance" = none)(Bx:mg "tuple" = none)(Dq:mg "enumerate" = none) :
  ∀n,AL P w K mg base Ao n f fd ["thing"] (UQ n)
 |0=>Y4 fun _ _ _ _ ⟨_,_,_,_,h,_⟩=>absurd h (ak _)
 |n+1=>by
  have sc:=WW;have L4:=Ot Ef Al Bx Dq n;refine Ef.F.ok (k:=n) sc (fun vs H Q E h=>?_) (fun cdv A outer s H vs Q E hr h=>?_)
  ·obtain⟨v,t,rfl,_⟩:=h
   rfl
  obtain⟨v,t,rfl,⟨a,xs,rfl,ha,ht⟩,hd,hn,q⟩:=h;refine⟨_,(Aw (Em (Gu (Gb (CS HV rfl Al bG (Aa (pv 0) (Aa (Iu (v:=.ty "tuple") rfl Bx bR rfl) A6)))))
  (Az (B9 Ii))
  Cp)
 (Aw (Pj aR rfl (VH rfl Dq (Aa (pv 0) A6)) (Kb rfl (DL (A1 (i:=1) sc.nd rfl (Or.inl rfl)) (DL (A1 (i:=2) sc.nd rfl (Or.inl rfl)) Ir)))
  (Aw (Em (PW.pt (XJ (Co M1 (pv 1) A5 (BL _)) (Qe (Co (dU (by have:=hr.units;exact this)) (pv 2) (EI EL (pv 0) (DD Pl (pv 1) A5) (fun _ _=>rfl)) (BL _)))))
   (Az Uk)
   Cp)
  (Az (Em (PW.pt (Ro (Gu (Gb (GF Ef L4 hr rfl (Aa (pv 2) A6)))) (PM (PW.pt (XJ (Co M1 (pv 1) A5 (BL _)) (Qe (Co (dn (by have:=hr.units;exact this)) (pv 2) (EI EL (pv 0) (DD Pl (pv 1) A5) (fun _ _=>rfl)) (BL _))))))))
   (Az (B9 Ii))
   Cp))))
 (Az (B9 Ii)))),?_⟩
  refine⟨_,rfl,_,_,_,_,rfl,X6,Fy.tup ha,XW K,_,rfl,Sl ?_⟩;have hlen:=ht.len;refine⟨_,rfl,a,rfl,⟨_,A8.of ha⟩,Zz (xs:=xs) (fun i σ H'=>∃r1 r2,σ=[some (.ref a),r1,r2]∧AO H H'∧(∀j c,j<i→t.bs[j]? = some c→c.DY=true)∧∀(j:Nat) (b c:Tr),j+1<i→t.bs[j]? = some b→t.bs[j+1]? = some c→Tr.lt b c=false) ?_ ?_ ?_ ?_⟩
  ·exact⟨_,_,rfl,AO.refl _,fun j c h=>absurd h (ak _),fun j b c h=>absurd h (ak _)⟩
  ·rintro i σ H' _ ⟨r1,r2,rfl,e,_⟩;exact A8.of (e _ _ ha)
  ·rintro i x σ H0 hx ⟨r1,r2,rfl,e0,hf,hl⟩ p hp;obtain⟨c,hc,tc⟩:=ht.get hx;have hcm:c∈t.bs:=aI hc;have hcd:=Tr.N0 hcm;have s1:=Bh hp (.tup [.int (i:Nat),x]);have e1:=e0.trans s1;refine⟨p,_,rfl,A8.of AX,rfl,_,_,rfl,_,_,rfl,rfl,?_⟩;have at1:=e1.tup (A8.of (K:=K) ha);have tc1:=tc.same e1;have next:∀(H':Hp),AO (upd H0 p (.tup [.int (i:Nat),x])) H'→c.DY=true→(∀(b:Tr),0<i→t.bs[i-1]? = some b→Tr.lt b c=false) →
     ∃r1 r2,[some (V.ref a),some (V.int (i:Nat)),some x]=[some (.ref a),r1,r2]∧AO H H'∧(∀j c,j<i+1→t.bs[j]? = some c→c.DY=true)∧∀(j:Nat) (b c:Tr),j+1<i+1→t.bs[j]? = some b→t.bs[j+1]? = some c→Tr.lt b c=false:=fun H' e' h1 h2=>by
    refine⟨_,_,rfl,e1.trans e',fun j d hj hjd=>?_,fun j b d hj hb hjd=>?_⟩
    ·by_cases z:j=i
     ·subst z;rw [hc]at hjd;cases hjd;exact h1
     ·exact hf j d (by omega) hjd
    ·by_cases z:j+1=i
     ·subst z;rw [hc]at hjd;cases hjd;exact h2 b (by omega) (by simpa using hb)
     ·exact hl j b d (by omega) hb hjd
   have fin:∀(H':Hp),AO (upd H0 p (.tup [.int (i:Nat),x])) H'→(c.DY=false∨∃b,0<i∧t.bs[i-1]? = some b∧Tr.lt b c=true)→Q (.bl false) H':=fun H' e' h=>by
    have hfalse:t.DY=false:=by
     refine bA.mpr fun z=>?_;obtain⟨z1,z2⟩:=(Tr.Nt t).mp z;rcases h with h | ⟨b,hi,hb,h⟩
     ·rw [z1 c hcm]at h;cases h
     ·rw [z2 (i-1) b c hb (by rw [show i-1+1=i by omega];exact hc)]at h;cases h
    have:=q H' (e1.trans e');rw [hfalse]at this;exact this
   have ahead:0<i→∃y b,Fu xs ((i:Int)-1)=some y∧t.bs[i-1]? = some b∧Tv H b y∧b.deep<t.deep:=fun hi=>by
    have hi2:i-1<xs.length:=by
     have:=(aE.mp hx).1;omega
    obtain⟨b,hb,tb⟩:=ht.get (i:=i-1) (v:=xs[i-1]) (by simp [hi2]);refine⟨xs[i-1],b,?_,hb,tb,Tr.N0 (aI hb)⟩;have:=Ea (xs:=xs) (j:=i-1) (v:=xs[i-1]) (by simp [hi2])
    rwa [show(((i-1:Nat)):Int)=(i:Int)-1 by omega]at this
   have body2:∀(nx:St→Hp→Prop),(∀H',AO (upd H0 p (.tup [.int (i:Nat),x])) H'→c.DY=true→(∀(b:Tr),0<i→t.bs[i-1]? = some b→Tr.lt b c=false)→nx [some (.ref a),some (.int (i:Nat)),some x] H')→True:=fun _ _=>trivial;refine⟨_,rfl,_,_,rfl,rfl,_,rfl,D7 (fun hk=>?_) (fun hk=>?_)⟩
   ·have hi:0<i:=by have:=aP hk;omega
    obtain⟨y,b,hat,hb,tb,hbd⟩:=ahead hi;refine⟨_,rfl,_,rfl,_,rfl,_,_,rfl,rfl,_,_,_,_,rfl,rfl,at1,hat,c,b,tc1,tb.same e1,by omega,_,rfl,D7 (fun hcb=>?_) (fun hcb=>?_)⟩
    ·have ecb:c=b:=by simpa using hcb
     refine next _ (AO.refl _) ?_ fun b' _ hb'=>?_
     ·rw [ecb];exact hf (i-1) b (by omega) hb
     ·rw [hb]at hb';cases hb';rw [ecb];exact Tr.lt_irrefl _
    ·refine⟨_,rfl,_,c,rfl,tc1,by omega,by omega,fun H2 e2=>⟨_,rfl,D7 (fun hcf=>?_) (fun hcf=>?_)⟩⟩
     ·exact fin H2 e2 (.inl (by simpa using hcf))
     ·have hcf':c.DY=true:=by simpa using hcf
      refine⟨_,rfl,_,_,rfl,rfl,_,rfl,D7 (fun _=>?_) (fun hk'=>absurd hk hk')⟩;refine⟨_,rfl,_,rfl,_,rfl,_,_,rfl,rfl,_,_,_,_,rfl,rfl,e2.tup at1,hat,c,b,tc1.same e2,(tb.same e1).same e2,by omega,_,rfl,D7 (fun hlt=>?_) (fun hlt=>?_)⟩
      ·exact fin H2 e2 (.inr ⟨b,hi,hb,hlt⟩)
      ·refine next H2 e2 hcf' fun b' _ hb'=>?_;rw [hb]at hb';cases hb'
       simpa using hlt
   ·have hi:¬0<i:=fun z=>hk (bT (by omega));refine Sl ?_;refine⟨_,rfl,_,c,rfl,tc1,by omega,by omega,fun H2 e2=>⟨_,rfl,D7 (fun hcf=>?_) (fun hcf=>?_)⟩⟩
    ·exact fin H2 e2 (.inl (by simpa using hcf))
    ·have hcf':c.DY=true:=by simpa using hcf
     refine⟨_,rfl,_,_,rfl,rfl,_,rfl,D7 (fun hk'=>absurd hk' hk) (fun _=>Sl ?_)⟩;exact next H2 e2 hcf' fun b' h _=>absurd h hi
  ·rintro σ H' ⟨r1,r2,rfl,e,hf,hl⟩;have htrue:t.DY=true:=(Tr.Nt t).mpr ⟨fun c hc=>by
    obtain⟨j,hj,rfl⟩:=List.getElem_of_mem hc;exact hf j _ (by omega) (aL hj),fun j b c hb hc=>hl j b c (by
     have:=(aE.mp hc).1;omega) hb hc⟩
   have:=q H' e;rw [htrue]at this;exact this
theorem NC:Ad ["thing"] ["thing"] (AR GK):=CN
theorem NF(F:Fn K mg "refuse_no_tree" GK ["thing"] f fd)(Ef:Fn K mg "is_tree" Mf ["thing"] g gd)(L4:AL P w K mg base Ao 8 g gd ["thing"] (UQ 8)) :
  AL P w K mg base Ao 9 f fd ["thing"] TQ:=by
 have sc:=NC;refine F.F.ok (k:=8) sc (fun vs H Q E h=>?_) (fun cdv A outer s H vs Q E hr h=>?_)
 ·obtain⟨v,t,rfl,_⟩:=h
  rfl
 obtain⟨v,t,rfl,tv,hd,hf,q⟩:=h;refine⟨_,(Az (Em (Gu (Gb (GF Ef L4 hr rfl (Aa (pv 0) A6))))
  (Az UN)
  Cp)),?_⟩
 refine⟨_,rfl,v,t,rfl,tv,hd,by decide,fun H' e=>⟨_,rfl,D7 (fun z=>?_) (fun _=>q H' e)⟩⟩;rw [hf]at z;cases z
end
def gT:MD
 |[d]=>(EM d).bind fun t=>if t.deep<8∧t.DY=true then some .none else none
 |_=>none
theorem nM{P:Program}{w:World}{K:Fg}{mg:Str→Option Value}{base:Heap}{CX:GQ}{k:Nat}{f:Addr}{fd:FuncData}{ps:List Str}(F:AL P w K mg base CX k f fd ps TQ):AL P w K mg base CX k f fd ps (BH gT) :=
 Io F fun ds x hm G H vs Q E d e kk=>by
  unfold gT at hm;split at hm
  ·obtain⟨t,h1,h2⟩:=aB.mp hm;split at h2
   ·rename_i hc;cases h2;have:=Iq h1;subst this;obtain⟨v,rfl,d1⟩:=d.GX;rw [Du]at d1;obtain⟨a,ys,rfl,n1,n2⟩:=d1;exact⟨_,t,rfl,⟨a,ys,rfl,e _ _ n1,(Fd n2).same e⟩,hc.1,hc.2,fun H' e'=>kk _ G H' (.refl _) Nw.refl (e.trans e') e' (by rw [Du])⟩
   ·cases h2
  ·cases hm
section
variable{P:Program}{w:World}{K:Fg}{mg:Str→Option Value}{base:Heap}{f:Addr}{fd:FuncData}
theorem Om:Ad ["tree"] ["tree"] (AR HX):=CN
def KU(Ar:MD):DF :=
 (DK (AI Bw (fC (.int 1)) (AJ Wu (AA (CM (B0 1) Dx (AJ Ar (AA (nm 1) AG)) [none,none] (CB (nm 0))) AG))))
def Ar:Nat→MD
 |0=>fun _=>none
 |n+1=>Cc ["tree"] ["tree"] (KU (Ar n))
theorem Jy{k:Nat}(CJ:Fn K mg "knots_within" HX ["tree"] f fd)(G5:mg "sum" = none):∀n,
  AL P w K mg base Ao (k+n+1) f fd ["tree"] (BH (Ar n))
 |0=>FW fun _ _ _ _ ⟨_,_,_,h,_⟩=>by cases h
 |n+1=>by
  have sc:=Om;have EX:=Jy (k:=k) CJ G5 n;refine GA (k:=k+n+1) (F:=KU (Ar n)) CJ sc fun cdv A outer s H E hr=>?_;exact(AW (B5 (Af BO AK (B3 (Yn rfl) rfl G5 PyProof.Rows.boot_sum (AD (HR [".0", "bough"] 1 [none,none] (Bu (AB (pv 0))) (fun _ _ _ _ _=>EN) (fun _ _ _ _ _=>(Ab CJ EX hr rfl (AD (AB (pv 1)) AE)))) AE)))))
theorem HA:Ad ["boughs"] ["boughs"] (AR ED):=CN
def MN:DF :=
 (DK (AJ JD (AA (AJ (Hj true) (AA (nm 0) AG)) AG)))
def AQ:MD:=Cc ["boughs"] ["boughs"] (MN)
theorem Lp{k:Nat}(F:Fn K mg "in_falling_order" ED ["boughs"] f fd)(A9:mg "sorted" = none)(Bx:mg "tuple" = none) :
  AL P w K mg base Ao (k+1) f fd ["boughs"] (BH (AQ)):=GA F HA fun cdv A outer s H E hr=>by
 have sc:=HA;exact(AW (B5 (Hv OQ rfl Bx bR (AD (Te (by have:=hr.units;exact this) rfl A9 (AD (AB (pv 0)) AE) (fun h=>SF (by have:=hr.units;exact this) rfl A9 h)) AE))))
theorem Ls:Ad ["tree", "larger", "k", "bough", "grown"] ["tree"] (AR FU):=CN
def Hm(AQ:MD)(Au:MD):DF :=
 (Ag (LH 1 (AA (AJ AQ (AA (AI Bw (nm 0) (Bz (AA (Bz AG) AG))) AG)) AG))
 (Ag (DQ (Fs WG (AA (nm 0) AG)) (Di 2 3)
  (DQ (CB (AJ Au (AA (nm 3) AG))) (FQ 4)
   (OD 1 (AJ AQ (AA (AI Bw (AI Bw (W4 (nm 0) Rn (Rx (nm 2))) (Bz (AA (nm 4) AG))) (W4 (nm 0) (Rx (AI Bw (nm 2) (fC (.int 1)))) Rn)) AG)))))
 (Pn 1)))
def Au(AQ:MD):Nat→MD
 |0=>fun _=>none
 |n+1=>Cc ["tree"] ["tree", "larger", "k", "bough", "grown"] (Hm AQ (Au AQ n))
theorem HD{k:Nat}{AQ:MD}(Bs:Fn K mg "trees_one_larger" FU ["tree"] f fd)
 {Cy:Addr}{Ce:FuncData}(BJ:Fn K mg "in_falling_order" ED ["boughs"] Cy Ce)(Av:AL P w K mg base Ao k Cy Ce ["boughs"] (BH AQ))(Dq:mg "enumerate" = none):∀n,
  AL P w K mg base Ao (k+n+1) f fd ["tree"] (BH (Au AQ n))
 |0=>FW fun _ _ _ _ ⟨_,_,_,h,_⟩=>by cases h
 |n+1=>by
  have sc:=Ls;have C9:=HD (k:=k) (AQ:=AQ) Bs BJ Av Dq n;have Av:=Av.mono (show k≤k+n+1 by omega);refine GA (k:=k+n+1) (F:=Hm AQ (Au AQ n)) Bs sc fun cdv A outer s H E hr=>?_;exact(AN (Hl (i:=1) sc.nd rfl (Or.inl rfl) (AD (Ab BJ Av hr rfl (AD (Af BO (AB (pv 0)) (BG (AD (BG AE) AE))) AE)) AE))
 (AN (CK aR rfl (cv rfl Dq (AD (AB (pv 0)) AE)) (O5 (Kb rfl (DL (A1 (i:=2) sc.nd rfl (Or.inl rfl)) (DL (A1 (i:=3) sc.nd rfl (Or.inl rfl)) Ir))))
  (AW (CK aR rfl (Bu (Ab Bs C9 hr rfl (AD (AB (pv 3)) AE))) (CU (A1 (i:=4) sc.nd rfl (Or.inl rfl)))
   (AW (GO (pv 1) (Ab BJ Av hr rfl (AD (Af BO (Af BO (LN (AB (pv 0)) M5 (Mq (AB (pv 2)))) (BG (AD (AB (pv 4)) AE))) (LN (AB (pv 0)) (Mq (Af BO (AB (pv 2)) AK)) M5)) AE)) (fun ho ha=>E5 (Hc ax bN bO FV ho ha)))))))
 (AW (Ms (pv 1)))))
theorem Ni:Ad ["many", "trees", "knots", "larger", "tree"] ["many"] (AR LM):=CN
def Wf(Au:MD)(C_TooMany:Addr):FZ :=
 (LG (Xm (Nh (EH (HI fun i j=>decide (i<j)) (nm 0) (fC (.int 1))) (EH (HI fun i j=>decide (j<i)) (nm 0) (fC (.int 7))))
  (O1 C_TooMany (fC (.str (Str.ofString "trees are listed for 1 to 7 knots"))))
  (fun δ=>some (.inl (.nx δ))))
 (S0 (Ag (BM 1 (D5 (AA (Bz AG) AG)))
 (Ag (DQ (Fs V2 (AA (fC (.int 1)) (AA (nm 0) AG))) (FQ 2)
  (Ag (LH 3 AG)
  (Ag (DQ (CB (nm 1)) (FQ 4)
   (jI 3 (AJ Au (AA (nm 4) AG))))
  (SK 3 (BM 1 (fun δ=>((nm 3) δ).bind Kz))))))
 (DK (nm 1))))))
def Dh(Au:MD)(C_TooMany:Addr):List PyData→Option Xr:=Fv ["many"] ["many", "trees", "knots", "larger", "tree"] (Wf Au C_TooMany)
theorem Uo{k:Nat}{Au:MD}{C_TooMany:Addr}(F:Fn K mg "trees_of" LM ["many"] f fd)
 {Hz:Addr}{HC:FuncData}(Bs:Fn K mg "trees_one_larger" FU ["tree"] Hz HC)(C9:AL P w K mg base Ao k Hz HC ["tree"] (BH Au))(Bt:mg "range" = none)(Mx:mg "set" = none)(A9:mg "sorted" = none){tk_MOST_KNOTS:Tok}(EY:mg "MOST_KNOTS" = some (.int 7 tk_MOST_KNOTS))(X_TooMany:Exc K mg "TooMany" C_TooMany) :
  AL P w K mg base (Cf P w) (k+1) f fd ["many"] (GC (Dh Au C_TooMany)):=Pb F Ni fun cdv A outer s H E hr=>by
 have sc:=Ni;exact(Iz (Wz (DW.dt (Ij (EG WQ (AB (pv 0)) AK (BL _)) (IA (EG Ws (AB (pv 0)) (Ss rfl EY) (BL _)))))
  (Kr (by exact OP X_TooMany Vy UC))
  Qj)
 (MB (AN (A2 (i:=1) sc.nd rfl (Or.inl rfl) (DP (AD (BG AE) AE)))
 (AN (CK aR rfl (Qq rfl Bt (AD AK (AD (AB (pv 0)) AE))) (CU (A1 (i:=2) sc.nd rfl (Or.inl rfl)))
  (AN (Hl (i:=3) sc.nd rfl (Or.inl rfl) AE)
  (AN (CK aR rfl (Bu (AB (pv 1))) (CU (A1 (i:=4) sc.nd rfl (Or.inl rfl)))
   (AW (Q8 (pv 3) (Ab Bs C9 hr rfl (AD (AB (pv 4)) AE)) (fun ho ha=>E5 (Hc ax PySem.F.slot_list_extend PySem.F.type_list_extend Qy ho ha)))))
  (AW (Og 3 (A2 (i:=1) sc.nd rfl (Or.inl rfl) (PD rfl (by have:=hr.units;exact this) rfl A9 rfl Mx (AB (pv 3)))))))))
 (AW (B5 (AB (pv 1))))))))
theorem Nd:Ad ["most", "trees", "many"] ["most"] (AR Ia):=CN
def Wn(Dh:List PyData→Option Xr)(C_TooMany:Addr):FZ :=
 (LG (Xm (Nh (EH (HI fun i j=>decide (i<j)) (nm 0) (fC (.int 0))) (EH (HI fun i j=>decide (j<i)) (nm 0) (fC (.int 7))))
  (O1 C_TooMany (fC (.str (Str.ofString "trees are listed up to 0 to 7 knots"))))
  (fun δ=>some (.inl (.nx δ))))
 (S0 (Ag (LH 1 AG)
 (Ag (DQ (Fs V2 (AA (fC (.int 1)) (AA (AI Bw (nm 0) (fC (.int 1))) AG))) (FQ 2)
  (jI 1 (AJ (good Dh) (AA (nm 2) AG))))
 (Pn 1)))))
def Bf(Dh:List PyData→Option Xr)(C_TooMany:Addr):List PyData→Option Xr:=Fv ["most"] ["most", "trees", "many"] (Wn Dh C_TooMany)
theorem Ue{k:Nat}{Dh:List PyData→Option Xr}{C_TooMany:Addr}(F:Fn K mg "trees_to" Ia ["most"] f fd)
 {PJ:Addr}{NV:FuncData}(Ib:Fn K mg "trees_of" LM ["many"] PJ NV)(LU:AL P w K mg base (Cf P w) k PJ NV ["many"] (GC Dh))(Bt:mg "range" = none){tk_MOST_KNOTS:Tok}(EY:mg "MOST_KNOTS" = some (.int 7 tk_MOST_KNOTS))(X_TooMany:Exc K mg "TooMany" C_TooMany) :
  AL P w K mg base (Cf P w) (k+1) f fd ["most"] (GC (Bf Dh C_TooMany)):=Pb F Nd fun cdv A outer s H E hr=>by
 have sc:=Nd;exact(Iz (Wz (DW.dt (Ij (EG WQ (AB (pv 0)) AK (BL _)) (IA (EG Ws (AB (pv 0)) (Ss rfl EY) (BL _)))))
  (Kr (by exact OP X_TooMany Vy UC))
  Qj)
 (MB (AN (Hl (i:=1) sc.nd rfl (Or.inl rfl) AE)
 (AN (CK aR rfl (Qq rfl Bt (AD AK (AD (Af BO (AB (pv 0)) AK) AE))) (CU (A1 (i:=2) sc.nd rfl (Or.inl rfl)))
  (AW (Q8 (pv 1) (Ab Ib (Vz LU) hr rfl (AD (AB (pv 2)) AE)) (fun ho ha=>E5 (Hc ax PySem.F.slot_list_extend PySem.F.type_list_extend Qy ho ha)))))
 (AW (Ms (pv 1)))))))
theorem GL:Ad ["thing"] ["thing"] (AR Eo):=CN
def Gg(DC:MD)(C_NoWeighing:Addr):FZ :=
 (Xm (Nh (OJ (LJ (AJ DC (AA (nm 0) AG)))) (LJ (fun δ=>((AJ Fc (AA (nm 0) AG)) δ).bind (bx true [0,1,2,4,8,17,37,85]))))
  (O1 C_NoWeighing (fC (.str (Str.ofString "a weighing is a list of a fraction for each tree of at most 0 to 7 knots"))))
  (fun δ=>some (.inl (.nx δ))))
def BF(DC:MD)(C_NoWeighing:Addr):List PyData→Option Xr:=Fv ["thing"] ["thing"] (Gg DC C_NoWeighing)
theorem Kc{k:Nat}{DC:MD}{C_NoWeighing:Addr}(F:Fn K mg "refuse_no_weighing" Eo ["thing"] f fd)
 {J0:Addr}{JZ:FuncData}(FD:Fn K mg "are_fractions" Gd ["thing"] J0 JZ)(GZ:AL P w K mg base Ao k J0 JZ ["thing"] (BH DC))(Bm:mg "len" = none){c_WEIGHING_LENGTHS:Addr}(CI:mg "WEIGHING_LENGTHS" = some (.ref c_WEIGHING_LENGTHS))(o_WEIGHING_LENGTHS:Own K c_WEIGHING_LENGTHS [0,1,2,4,8,17,37,85])(X_NoWeighing:Exc K mg "NoWeighing" C_NoWeighing) :
  AL P w K mg base (Cf P w) (k+1) f fd ["thing"] (GC (BF DC C_NoWeighing)):=Pb F GL fun cdv A outer s H E hr=>by
 have sc:=GL;exact(Kr (Wz (DW.dt (Ij (Kt (JW (Ab FD GZ hr rfl (AD (AB (pv 0)) AE)))) (IA (fI UO (B3 Et rfl Bm bD (AD (AB (pv 0)) AE)) rfl CI o_WEIGHING_LENGTHS))))
  (Kr (by exact OP X_NoWeighing Vy UC))
  Qj))
theorem IP:Ad ["weighing"] ["weighing"] (AR Ej):=CN
def JQ(BF:List PyData→Option Xr):FZ :=
 (LG (WL BF (AA (nm 0) AG) fun _ δ=>.nx δ)
 (S0 (DK (fun δ=>((AJ Fc (AA (nm 0) AG)) δ).bind (Xy [0,1,2,4,8,17,37,85])))))
def An(BF:List PyData→Option Xr):List PyData→Option Xr:=Fv ["weighing"] ["weighing"] (JQ BF)
theorem ND{k:Nat}{BF:List PyData→Option Xr}(F:Fn K mg "weighing_reach" Ej ["weighing"] f fd)
 {Gm:Addr}{GN:FuncData}(DZ:Fn K mg "refuse_no_weighing" Eo ["thing"] Gm GN)(Er:AL P w K mg base (Cf P w) k Gm GN ["thing"] (GC BF))(Bm:mg "len" = none){c_WEIGHING_LENGTHS:Addr}(CI:mg "WEIGHING_LENGTHS" = some (.ref c_WEIGHING_LENGTHS))(o_WEIGHING_LENGTHS:Own K c_WEIGHING_LENGTHS [0,1,2,4,8,17,37,85]) :
  AL P w K mg base (Cf P w) (k+1) f fd ["weighing"] (GC (An BF)):=Pb F IP fun cdv A outer s H E hr=>by
 have sc:=IP;exact(Iz (by exact d7 DZ Er hr K2 (by exact(AD (AB (pv 0)) AE)) (fun h=>E5 h))
 (MB (AW (B5 (YW (B3 Et rfl Bm bD (AD (AB (pv 0)) AE)) rfl CI o_WEIGHING_LENGTHS)))))
theorem QD:Ad ["tree", "cuts", "bough", "wider", "left", "parts", "trunk", "more"] ["tree"] (AR IH):=CN
def Le(AQ:MD)(BU:MD):DF :=
 (Ag (BM 1 (D5 (AA (Bz (AA (Bz AG) (AA (D5 AG) AG))) AG)))
 (Ag (DQ (CB (nm 0)) (FQ 2)
  (Ag (LH 3 AG)
  (Ag (DQ (CB (nm 1)) (Di 4 5)
   (Ag (OD 3 (Bz (AA (nm 4) (AA (AI Bw (nm 5) (D5 (AA (nm 2) AG))) AG))))
   (DQ (CB (AJ BU (AA (nm 2) AG))) (Di 6 7)
    (OD 3 (Bz (AA (AI Bw (nm 4) (Bz (AA (nm 6) AG))) (AA (AI Bw (nm 5) (nm 7)) AG)))))))
  (SK 3 (BM 1 (nm 3))))))
 (K0 (CF (Di 1 2) Dx (Bz (AA (AJ AQ (AA (nm 1) AG)) (AA (AJ (Hj true) (AA (nm 2) AG)) AG))) [none,none,none] (CB (nm 1))))))
def BU(AQ:MD):Nat→MD
 |0=>fun _=>none
 |n+1=>Cc ["tree"] ["tree", "cuts", "bough", "wider", "left", "parts", "trunk", "more"] (Le AQ (BU AQ n))
theorem Kj{k:Nat}{AQ:MD}(CV:Fn K mg "cuts_within" IH ["tree"] f fd)
 {Cy:Addr}{Ce:FuncData}(BJ:Fn K mg "in_falling_order" ED ["boughs"] Cy Ce)(Av:AL P w K mg base Ao k Cy Ce ["boughs"] (BH AQ))(A9:mg "sorted" = none):∀n,
  AL P w K mg base Ao (k+n+1) f fd ["tree"] (BH (BU AQ n))
 |0=>FW fun _ _ _ _ ⟨_,_,_,h,_⟩=>by cases h
 |n+1=>by
  have sc:=QD;have Ey:=Kj (k:=k) (AQ:=AQ) CV BJ Av A9 n;have Av:=Av.mono (show k≤k+n+1 by omega);refine GA (k:=k+n+1) (F:=Le AQ (BU AQ n)) CV sc fun cdv A outer s H E hr=>?_;exact(AN (A2 (i:=1) sc.nd rfl (Or.inl rfl) (DP (AD (BG (AD (BG AE) (AD (DP AE) AE))) AE)))
 (AN (CK aR rfl (Bu (AB (pv 0))) (CU (A1 (i:=2) sc.nd rfl (Or.inl rfl)))
  (AN (Hl (i:=3) sc.nd rfl (Or.inl rfl) AE)
  (AN (CK aR rfl (Bu (AB (pv 1))) (O5 (Kb rfl (DL (A1 (i:=4) sc.nd rfl (Or.inl rfl)) (DL (A1 (i:=5) sc.nd rfl (Or.inl rfl)) Ir))))
   (AN (GO (pv 3) (BG (AD (AB (pv 4)) (AD (Af BO (AB (pv 5)) (DP (AD (AB (pv 2)) AE))) AE))) (fun ho ha=>E5 (Hc ax bN bO FV ho ha)))
   (AW (CK aR rfl (Bu (Ab CV Ey hr rfl (AD (AB (pv 2)) AE))) (O5 (Kb rfl (DL (A1 (i:=6) sc.nd rfl (Or.inl rfl)) (DL (A1 (i:=7) sc.nd rfl (Or.inl rfl)) Ir))))
    (AW (GO (pv 3) (BG (AD (Af BO (AB (pv 4)) (BG (AD (AB (pv 6)) AE))) (AD (Af BO (AB (pv 5)) (AB (pv 7))) AE))) (fun ho ha=>E5 (Hc ax bN bO FV ho ha))))))))
  (AW (Og 3 (A2 (i:=1) sc.nd rfl (Or.inl rfl) (AB (pv 3))))))))
 (AW (OW [".0", "left", "parts"] 1 2 [none,none,none] (Bu (AB (pv 1))) (fun _ _ _ _ _=>EN) (fun _ _ _ _ _=>(BG (AD (Ab BJ Av hr rfl (AD (AB (pv 1)) AE)) (AD (Te (by have:=hr.units;exact this) rfl A9 (AD (AB (pv 2)) AE) (fun h=>SF (by have:=hr.units;exact this) rfl A9 h)) AE))))))))
theorem MO:Ad ["tree"] ["tree"] (AR KO):=CN
def UU(BU:MD)(Ck:MD):DF :=
 (Ag (km (AJ Ck (AA (nm 0) AG)))
 (DK (AI Bw (D5 (AA (Bz (AA (fC .none) (AA (D5 (AA (nm 0) AG)) AG))) AG)) (AJ UI (AA (AJ BU (AA (nm 0) AG)) AG)))))
def Cw(BU:MD)(Ck:MD):MD:=Cc ["tree"] ["tree"] (UU BU Ck)
theorem UH{k:Nat}{BU:MD}{Ck:MD}(F:Fn K mg "tree_cuts" KO ["tree"] f fd)
 {Lk:Addr}{Ke:FuncData}(CV:Fn K mg "cuts_within" IH ["tree"] Lk Ke)(Ey:AL P w K mg base Ao k Lk Ke ["tree"] (BH BU))
 {Jd:Addr}{IT:FuncData}(Eh:Fn K mg "refuse_no_tree" GK ["thing"] Jd IT)(GJ:AL P w K mg base Ao k Jd IT ["thing"] (BH Ck))(A9:mg "sorted" = none) :
  AL P w K mg base Ao (k+1) f fd ["tree"] (BH (Cw BU Ck)):=GA F MO fun cdv A outer s H E hr=>by
 have sc:=MO;exact(AN (dG (Ab Eh GJ hr rfl (AD (AB (pv 0)) AE)))
 (AW (B5 (Af BO (DP (AD (BG (AD iB (AD (DP (AD (AB (pv 0)) AE)) AE))) AE)) (B3 (Zo (by have:=hr.units;exact this)) rfl A9 PyProof.Rows.boot_sorted (AD (Ab CV Ey hr rfl (AD (AB (pv 0)) AE)) AE))))))
theorem Me:Ad ["cut", "ahead", "behind", "top", "bottom", "part"] ["cut", "ahead", "behind"] (AR J9):=CN
def NK:DF :=
 (Ag (BM 3 (AI BR (AI HK (nm 2) (AI BR (nm 0) (fC (.int 0)))) (fC (.int 0))))
 (Ag (BM 4 (AI BR (AI HK (nm 2) (AI BR (nm 0) (fC (.int 0)))) (fC (.int 1))))
 (Ag (DQ (CB (AI BR (nm 0) (fC (.int 1)))) (FQ 5)
  (Ag (BM 3 (AI DR (nm 3) (AI BR (AI HK (nm 1) (nm 5)) (fC (.int 0)))))
  (BM 4 (AI DR (nm 4) (AI BR (AI HK (nm 1) (nm 5)) (fC (.int 1)))))))
 (DK (Bz (AA (nm 3) (AA (nm 4) AG)))))))
def B6:MD:=Cc ["cut", "ahead", "behind"] ["cut", "ahead", "behind", "top", "bottom", "part"] (NK)
theorem T3{k:Nat}(F:Fn K mg "cut_share" J9 ["cut", "ahead", "behind"] f fd) :
  AL P w K mg base Ao (k+1) f fd ["cut", "ahead", "behind"] (BH (B6)):=GA F Me fun cdv A outer s H E hr=>by
 have sc:=Me;exact(AN (A2 (i:=3) sc.nd rfl (Or.inl rfl) (BZ (JT (by have:=hr.units;exact this) (AB (pv 2)) (BZ (AB (pv 0)) AK (fun _ _=>rfl)) (fun _ _=>rfl)) AK (fun _ _=>rfl)))
 (AN (A2 (i:=4) sc.nd rfl (Or.inl rfl) (BZ (JT (by have:=hr.units;exact this) (AB (pv 2)) (BZ (AB (pv 0)) AK (fun _ _=>rfl)) (fun _ _=>rfl)) AK (fun _ _=>rfl)))
 (AN (CK aR rfl (Bu (BZ (AB (pv 0)) AK (fun _ _=>rfl))) (CU (A1 (i:=5) sc.nd rfl (Or.inl rfl)))
  (AN (A2 (i:=3) sc.nd rfl (Or.inl rfl) (Af Dy (AB (pv 3)) (BZ (JT (by have:=hr.units;exact this) (AB (pv 1)) (AB (pv 5)) (fun _ _=>rfl)) AK (fun _ _=>rfl))))
  (AW (A2 (i:=4) sc.nd rfl (Or.inl rfl) (Af Dy (AB (pv 4)) (BZ (JT (by have:=hr.units;exact this) (AB (pv 1)) (AB (pv 5)) (fun _ _=>rfl)) AK (fun _ _=>rfl)))))))
 (AW (B5 (BG (AD (AB (pv 3)) (AD (AB (pv 4)) AE))))))))
theorem Hx:Ad ["weighing", "trees", "ahead", "behind", "tree", "others"] ["weighing"] (AR Fz):=CN
def F3(B6:MD)(Bj:MD)(Eb:MD)(Cw:MD)(Bf:List PyData→Option Xr)(An:List PyData→Option Xr):FZ :=
 (LG (xE (Cb (Ek (Cb (FG (AA (nm 0) AG)) An) (FG AG)) Bf) fun x δ=>.nx (δ.set 1 (.d x)))
 (S0 (Ag (i3 2 (AA (nm 1) (AA (nm 0) AG)))
 (Ag (Xn 3 1 1)
 (Ag (DQ (CB (nm 1)) (FQ 4)
  (Ag (SK 2 (BM 5 (R7 3 (CM (B0 1) (EH (F6 true) (AI BR (nm 1) (fC (.int 0))) (nm 4)) (AJ B6 (AA (nm 1) (AA (nm 2) (AA (nm 3) AG)))) [none,none,some 2,some 3,some 4] (CB (AJ Cw (AA (nm 4) AG)))))))
  (Z8 3 (AJ Bj (AA (AJ Eb (AA (nm 5) AG)) (AA (Bz (AA (JF (fC (.int 1))) (AA (fC (.int 1)) AG))) AG))) (nm 4))))
 (SK 3 (K0 (CF (B0 1) Dx (AI HK (nm 2) (nm 1)) [none,none,some 3] (CB (nm 1))))))))))
def Bg(B6:MD)(Bj:MD)(Eb:MD)(Cw:MD)(Bf:List PyData→Option Xr)(An:List PyData→Option Xr):List PyData→Option Xr:=Fv ["weighing"] ["weighing", "trees", "ahead", "behind", "tree", "others"] (F3 B6 Bj Eb Cw Bf An)
theorem MI{k:Nat}{B6:MD}{Bj:MD}{Eb:MD}{Cw:MD}{Bf:List PyData→Option Xr}{An:List PyData→Option Xr}(F:Fn K mg "weighing_undone" Fz ["weighing"] f fd)
 {Ng:Addr}{MW:FuncData}(Hd:Fn K mg "cut_share" J9 ["cut", "ahead", "behind"] Ng MW)(KI:AL P w K mg base Ao k Ng MW ["cut", "ahead", "behind"] (BH B6))
 {FP:Addr}{E2:FuncData}(Dw:Fn K mg "frac_times" G7 ["one", "other"] FP E2)(Ec:AL P w K mg base Ao k FP E2 ["one", "other"] (BH Bj))
 {MT:Addr}{Lf:FuncData}(Gx:Fn K mg "frac_total" Jc ["some"] MT Lf)(JX:AL P w K mg base Ao k MT Lf ["some"] (BH Eb))
 {NI:Addr}{MQ:FuncData}(Hf:Fn K mg "tree_cuts" KO ["tree"] NI MQ)(KN:AL P w K mg base Ao k NI MQ ["tree"] (BH Cw))
 {G6:Addr}{GB:FuncData}(Ei:Fn K mg "trees_to" Ia ["most"] G6 GB)(Fl:AL P w K mg base (Cf P w) k G6 GB ["most"] (GC Bf))
 {Dz:Addr}{DN:FuncData}(CH:Fn K mg "weighing_reach" Ej ["weighing"] Dz DN)(Cn:AL P w K mg base (Cf P w) k Dz DN ["weighing"] (GC An))(S6:mg "dict" = none)(NB:mg "zip" = none) :
  AL P w K mg base (Cf P w) (k+1) f fd ["weighing"] (GC (Bg B6 Bj Eb Cw Bf An)):=Pb F Hx fun cdv A outer s H E hr=>by
 have sc:=Hx;exact(Iz (by exact Vu (i:=1) (HJ Ei Fl hr K2 (OS (HJ CH Cn hr K2 (KZ (by exact(AD (AB (pv 0)) AE)))) (KZ (by exact AE)))) sc.nd (Or.inl rfl))
 (MB (AN (kB (i:=2) rfl (by have:=hr.units;exact this) rfl S6 rfl NB (AD (AB (pv 1)) (AD (AB (pv 0)) AE)) sc.nd rfl (Or.inr rfl))
 (AN (Zf (i:=3) (by have:=hr.units;exact this) sc.nd rfl (Or.inr rfl))
 (AN (CK aR rfl (Bu (AB (pv 1))) (CU (A1 (i:=4) sc.nd rfl (Or.inr rfl)))
  (AN (Og 2 (UW (i:=5) 3 [".0", "cut", "ahead", "behind", "tree"] 1 [none,none,some 2,some 3,some 4] sc.nd rfl rfl (Bu (Ab Hf KN hr rfl (AD (AB (pv 4)) AE))) (fun _ _ _ _ _=>(QZ (EG (M9 (by have:=hr.units;exact this)) (BZ (AB (pv 1)) AK (fun _ _=>rfl)) (AB (pv 4)) (BL _)))) (fun _ _ _ _ _=>(Ab Hd KI hr rfl (AD (AB (pv 1)) (AD (AB (pv 2)) (AD (AB (pv 3)) AE)))))))
  (AW (Yu (pv 3) (AB (pv 4)) (Ab Dw Ec hr rfl (AD (Ab Gx JX hr rfl (AD (AB (pv 5)) AE)) (AD (BG (AD (L6 AK) (AD AK AE))) AE))) (fun h1 h2 h3=>SV h1 (SG h2 h3 (hW (by have:=hr.units;exact this))))))))
 (AW (Og 3 (fB [".0", "tree", "behind"] 1 [none,none,some 3] (Bu (AB (pv 1))) (fun _ _ _ _ _=>EN) (fun _ _ _ _ _=>(JT (by have:=hr.units;exact this) (AB (pv 2)) (AB (pv 1)) (fun _ _=>rfl)))))))))))
theorem Lm:Ad ["part", "power"] ["part", "power"] (AR JP):=CN
def Md(El:MD):DF :=
 (DK (Bz (AA (AJ El (AA (AI BR (nm 0) (fC (.int 0))) (AA (nm 1) AG))) (AA (AJ El (AA (AI BR (nm 0) (fC (.int 1))) (AA (nm 1) AG))) AG))))
def Bv(El:MD):MD:=Cc ["part", "power"] ["part", "power"] (Md El)
theorem Rb{k:Nat}{El:MD}(F:Fn K mg "frac_power" JP ["part", "power"] f fd)
 {PN:Addr}{NR:FuncData}(GY:Fn K mg "power_of" LR ["base", "power"] PN NR)(IW:AL P w K mg base Ao k PN NR ["base", "power"] (BH El)) :
  AL P w K mg base Ao (k+1) f fd ["part", "power"] (BH (Bv El)):=GA F Lm fun cdv A outer s H E hr=>by
 have sc:=Lm;exact(AW (B5 (BG (AD (Ab GY IW hr rfl (AD (BZ (AB (pv 0)) AK (fun _ _=>rfl)) (AD (AB (pv 1)) AE))) (AD (Ab GY IW hr rfl (AD (BZ (AB (pv 0)) AK (fun _ _=>rfl)) (AD (AB (pv 1)) AE))) AE)))))
theorem Hr:Ad ["weighing", "part", "trees"] ["weighing", "part"] (AR Fw):=CN
def IM(Bv:MD)(Bj:MD)(Ar:MD)(Bf:List PyData→Option Xr)(An:List PyData→Option Xr):FZ :=
 (LG (xE (Cb (Ek (Cb (FG (AA (nm 0) AG)) An) (FG AG)) Bf) fun x δ=>.nx (δ.set 2 (.d x)))
 (S0 (K0 (CF (Di 1 2) Dx (AJ Bj (AA (nm 2) (AA (AJ Bv (AA (nm 3) (AA (AJ Ar (AA (nm 1) AG)) AG))) AG))) [none,none,none,some 1] (Fs zip2 (AA (nm 2) (AA (nm 0) AG)))))))
def Be(Bv:MD)(Bj:MD)(Ar:MD)(Bf:List PyData→Option Xr)(An:List PyData→Option Xr):List PyData→Option Xr:=Fv ["weighing", "part"] ["weighing", "part", "trees"] (IM Bv Bj Ar Bf An)
theorem Lx{k:Nat}{Bv:MD}{Bj:MD}{Ar:MD}{Bf:List PyData→Option Xr}{An:List PyData→Option Xr}(F:Fn K mg "weighing_turned" Fw ["weighing", "part"] f fd)
 {Lw:Addr}{Ln:FuncData}(Gy:Fn K mg "frac_power" JP ["part", "power"] Lw Ln)(JG:AL P w K mg base Ao k Lw Ln ["part", "power"] (BH Bv))
 {FP:Addr}{E2:FuncData}(Dw:Fn K mg "frac_times" G7 ["one", "other"] FP E2)(Ec:AL P w K mg base Ao k FP E2 ["one", "other"] (BH Bj))
 {KQ:Addr}{Jw:FuncData}(CJ:Fn K mg "knots_within" HX ["tree"] KQ Jw)(EX:AL P w K mg base Ao k KQ Jw ["tree"] (BH Ar))
 {G6:Addr}{GB:FuncData}(Ei:Fn K mg "trees_to" Ia ["most"] G6 GB)(Fl:AL P w K mg base (Cf P w) k G6 GB ["most"] (GC Bf))
 {Dz:Addr}{DN:FuncData}(CH:Fn K mg "weighing_reach" Ej ["weighing"] Dz DN)(Cn:AL P w K mg base (Cf P w) k Dz DN ["weighing"] (GC An))(NB:mg "zip" = none) :
  AL P w K mg base (Cf P w) (k+1) f fd ["weighing", "part"] (GC (Be Bv Bj Ar Bf An)):=Pb F Hr fun cdv A outer s H E hr=>by
 have sc:=Hr;exact(Iz (by exact Vu (i:=2) (HJ Ei Fl hr K2 (OS (HJ CH Cn hr K2 (KZ (by exact(AD (AB (pv 0)) AE)))) (KZ (by exact AE)))) sc.nd (Or.inl rfl))
 (MB (AW (OW [".0", "tree", "weight", "part"] 1 2 [none,none,none,some 1] (jb rfl NB (AD (AB (pv 2)) (AD (AB (pv 0)) AE))) (fun _ _ _ _ _=>EN) (fun _ _ _ _ _=>(Ab Dw Ec hr rfl (AD (AB (pv 2)) (AD (Ab Gy JG hr rfl (AD (AB (pv 3)) (AD (Ab CJ EX hr rfl (AD (AB (pv 1)) AE)) AE))) AE))))))))
theorem GW:Ad ["weighing"] ["weighing"] (AR E7):=CN
def HE(Be:List PyData→Option Xr)(Bg:List PyData→Option Xr):FZ :=
 (xE (Cb (Ek (Cb (FG (AA (nm 0) AG)) Bg) (FG (AA (Bz (AA (JF (fC (.int 1))) (AA (fC (.int 1)) AG))) AG))) Be) fun x _=>.rt x)
def BE(Be:List PyData→Option Xr)(Bg:List PyData→Option Xr):List PyData→Option Xr:=Fv ["weighing"] ["weighing"] (HE Be Bg)
theorem LZ{k:Nat}{Be:List PyData→Option Xr}{Bg:List PyData→Option Xr}(F:Fn K mg "weighing_mirrored" E7 ["weighing"] f fd)
 {IL:Addr}{Hy:FuncData}(EK:Fn K mg "weighing_turned" Fw ["weighing", "part"] IL Hy)(Fx:AL P w K mg base (Cf P w) k IL Hy ["weighing", "part"] (GC Be))
 {IQ:Addr}{Hi:FuncData}(EJ:Fn K mg "weighing_undone" Fz ["weighing"] IQ Hi)(F0:AL P w K mg base (Cf P w) k IQ Hi ["weighing"] (GC Bg)) :
  AL P w K mg base (Cf P w) (k+1) f fd ["weighing"] (GC (BE Be Bg)):=Pb F GW fun cdv A outer s H E hr=>by
 have sc:=GW;exact(Kr (by exact dD (HJ EK Fx hr K2 (OS (HJ EJ F0 hr K2 (KZ (by exact(AD (AB (pv 0)) AE)))) (KZ (by exact(AD (BG (AD (L6 AK) (AD AK AE))) AE)))))))
theorem MR:Ad ["_law_script", "_law_k", "_law_cell_here", "_law_number"] ["_law_script", "_law_k"] (AR Hb):=CN
def KJ:DF :=
 (Ag (BM 2 (fC (.int 0)))
 (Ag (Lg (EH (HI fun i j=>decide (i<j)) (nm 1) (AJ Fc (AA (nm 0) AG)))
  (BM 2 (AI BR (nm 0) (nm 1)))
  Ih)
 (Ag (Lg (EH (HI fun i j=>decide (j≤i)) (nm 2) (AI L5 (fC (.int 10)) (fC (.int 18))))
  (DK (AI CA (AI UA (nm 2) (AI L5 (fC (.int 10)) (fC (.int 18)))) (AI L5 (fC (.int 10)) (fC (.int 60)))))
  Ih)
 (Ag (BM 3 (AI CA (AI Bw (AI Bw (AI DR (nm 2) (fC (.int 48271))) (AI DR (nm 1) (fC (.int 69621)))) (fC (.int 11))) (fC (.int 2147483629))))
 (Ag (BM 3 (AI CA (AI DR (nm 3) (nm 3)) (fC (.int 2147483587))))
 (DK (AI Bw (AI DR (nm 3) (fC (.int 2147483563))) (AI CA (AI DR (nm 3) (nm 3)) (fC (.int 2147483563))))))))))
def Ac:MD:=Cc ["_law_script", "_law_k"] ["_law_script", "_law_k", "_law_cell_here", "_law_number"] (KJ)
theorem Sa{k:Nat}(F:Fn K mg "_law_cell" Hb ["_law_script", "_law_k"] f fd)(Bm:mg "len" = none) :
  AL P w K mg base Ao (k+1) f fd ["_law_script", "_law_k"] (BH (Ac)):=GA F MR fun cdv A outer s H E hr=>by
 have sc:=MR;exact(AN (A2 (i:=2) sc.nd rfl (Or.inl rfl) AK)
 (AN (LS (EG WQ (AB (pv 1)) (B3 Et rfl Bm bD (AD (AB (pv 0)) AE)) (BL _))
  (AW (A2 (i:=2) sc.nd rfl (Or.inl rfl) (BZ (AB (pv 0)) (AB (pv 1)) (fun _ _=>rfl))))
  HP)
 (AN (LS (EG je (AB (pv 2)) (Af QH AK AK) (BL _))
  (AW (B5 (Af Dr (Af Vh (AB (pv 2)) (Af QH AK AK)) (Af QH AK AK))))
  HP)
 (AN (A2 (i:=3) sc.nd rfl (Or.inl rfl) (Af Dr (Af BO (Af BO (Af Dy (AB (pv 2)) AK) (Af Dy (AB (pv 1)) AK)) AK) AK))
 (AN (A2 (i:=3) sc.nd rfl (Or.inl rfl) (Af Dr (Af Dy (AB (pv 3)) (AB (pv 3))) AK))
 (AW (B5 (Af BO (Af Dy (AB (pv 3)) AK) (Af Dr (Af Dy (AB (pv 3)) (AB (pv 3))) AK)))))))))
theorem Nj:Ad ["_law_one", "_law_other"] ["_law_one", "_law_other"] (AR LX):=CN
def Oi(Aq:MD):DF :=
 (DK (AJ Aq (AA (AI Bw (AI DR (AI BR (nm 0) (fC (.int 0))) (AI BR (nm 1) (fC (.int 1)))) (AI DR (AI BR (nm 1) (fC (.int 0))) (AI BR (nm 0) (fC (.int 1))))) (AA (AI DR (AI BR (nm 0) (fC (.int 1))) (AI BR (nm 1) (fC (.int 1)))) AG))))
def Dc(Aq:MD):MD:=Cc ["_law_one", "_law_other"] ["_law_one", "_law_other"] (Oi Aq)
theorem Ub{k:Nat}{Aq:MD}(F:Fn K mg "_law_add" LX ["_law_one", "_law_other"] f fd)
 {Dp:Addr}{DB:FuncData}(CQ:Fn K mg "_law_frac" F7 ["_law_top", "_law_bottom"] Dp DB)(Cu:AL P w K mg base Ao k Dp DB ["_law_top", "_law_bottom"] (BH Aq)) :
  AL P w K mg base Ao (k+1) f fd ["_law_one", "_law_other"] (BH (Dc Aq)):=GA F Nj fun cdv A outer s H E hr=>by
 have sc:=Nj;exact(AW (B5 (Ab CQ Cu hr rfl (AD (Af BO (Af Dy (BZ (AB (pv 0)) AK (fun _ _=>rfl)) (BZ (AB (pv 1)) AK (fun _ _=>rfl))) (Af Dy (BZ (AB (pv 1)) AK (fun _ _=>rfl)) (BZ (AB (pv 0)) AK (fun _ _=>rfl)))) (AD (Af Dy (BZ (AB (pv 0)) AK (fun _ _=>rfl)) (BZ (AB (pv 1)) AK (fun _ _=>rfl))) AE)))))
theorem NL:Ad ["_law_one", "_law_other"] ["_law_one", "_law_other"] (AR Gk):=CN
def PF(Aq:MD):DF :=
 (DK (AJ Aq (AA (AI DR (AI BR (nm 0) (fC (.int 0))) (AI BR (nm 1) (fC (.int 0)))) (AA (AI DR (AI BR (nm 0) (fC (.int 1))) (AI BR (nm 1) (fC (.int 1)))) AG))))
def Ax(Aq:MD):MD:=Cc ["_law_one", "_law_other"] ["_law_one", "_law_other"] (PF Aq)
theorem Ul{k:Nat}{Aq:MD}(F:Fn K mg "_law_mul" Gk ["_law_one", "_law_other"] f fd)
 {Dp:Addr}{DB:FuncData}(CQ:Fn K mg "_law_frac" F7 ["_law_top", "_law_bottom"] Dp DB)(Cu:AL P w K mg base Ao k Dp DB ["_law_top", "_law_bottom"] (BH Aq)) :
  AL P w K mg base Ao (k+1) f fd ["_law_one", "_law_other"] (BH (Ax Aq)):=GA F NL fun cdv A outer s H E hr=>by
 have sc:=NL;exact(AW (B5 (Ab CQ Cu hr rfl (AD (Af Dy (BZ (AB (pv 0)) AK (fun _ _=>rfl)) (BZ (AB (pv 1)) AK (fun _ _=>rfl))) (AD (Af Dy (BZ (AB (pv 0)) AK (fun _ _=>rfl)) (BZ (AB (pv 1)) AK (fun _ _=>rfl))) AE)))))
theorem Tc:Ad ["_law_tree"] ["_law_tree"] (AR KP):=CN
def Nb(A3:MD):DF :=
 (DK (AJ JD (AA (Za (AJ (Hj false) (AA (CM (B0 1) Dx (AJ A3 (AA (nm 1) AG)) [none,none] (CB (nm 0))) AG)) (JF (fC (.int 1)))) AG)))
def A3:Nat→MD
 |0=>fun _=>none
 |n+1=>Cc ["_law_tree"] ["_law_tree"] (Nb (A3 n))
theorem MG{k:Nat}(CO:Fn K mg "_law_kept" KP ["_law_tree"] f fd)(A9:mg "sorted" = none)(Bx:mg "tuple" = none):∀n,
  AL P w K mg base Ao (k+n+1) f fd ["_law_tree"] (BH (A3 n))
 |0=>FW fun _ _ _ _ ⟨_,_,_,h,_⟩=>by cases h
 |n+1=>by
  have sc:=Tc;have Cs:=MG (k:=k) CO A9 Bx n;refine GA (k:=k+n+1) (F:=Nb (A3 n)) CO sc fun cdv A outer s H E hr=>?_;exact(AW (B5 (Hv OQ rfl Bx bR (AD (Yt (B3 (U3 (by have:=hr.units;exact this)) rfl A9 PyProof.Rows.boot_sorted (AD (HR [".0", "_law_bough"] 1 [none,none] (Bu (AB (pv 0))) (fun _ _ _ _ _=>EN) (fun _ _ _ _ _=>(Ab CO Cs hr rfl (AD (AB (pv 1)) AE)))) AE)) (L6 AK)) AE))))
theorem QR:Ad ["_law_tree", "_law_found", "_law_k"] ["_law_tree"] (AR IB):=CN
def Lo(A3:MD)(BV:MD):DF :=
 (Ag (BM 1 (D5 (AA (AJ A3 (AA (AI Bw (nm 0) (Bz (AA (Bz AG) AG))) AG)) AG)))
 (Ag (DQ (Fs KA (AA (AJ Fc (AA (nm 0) AG)) AG)) (FQ 2)
  (BM 1 (AI Bw (nm 1) (CM (B0 1) Dx (AJ A3 (AA (AI Bw (AI Bw (W4 (nm 2) Rn (Rx (nm 3))) (Bz (AA (nm 1) AG))) (W4 (nm 2) (Rx (AI Bw (nm 3) (fC (.int 1)))) Rn)) AG)) [none,none,some 0,some 2] (CB (AJ BV (AA (AI BR (nm 0) (nm 2)) AG)))))))
 (DK (nm 1))))
def BV(A3:MD):Nat→MD
 |0=>fun _=>none
 |n+1=>Cc ["_law_tree"] ["_law_tree", "_law_found", "_law_k"] (Lo A3 (BV A3 n))
theorem Kd{k:Nat}{A3:MD}(CZ:Fn K mg "_law_longer" IB ["_law_tree"] f fd)
 {NP:Addr}{Lu:FuncData}(CO:Fn K mg "_law_kept" KP ["_law_tree"] NP Lu)(Cs:AL P w K mg base Ao k NP Lu ["_law_tree"] (BH A3))(Bm:mg "len" = none)(Bt:mg "range" = none):∀n,
  AL P w K mg base Ao (k+n+1) f fd ["_law_tree"] (BH (BV A3 n))
 |0=>FW fun _ _ _ _ ⟨_,_,_,h,_⟩=>by cases h
 |n+1=>by
  have sc:=QR;have Eu:=Kd (k:=k) (A3:=A3) CZ CO Cs Bm Bt n;have Cs:=Cs.mono (show k≤k+n+1 by omega);refine GA (k:=k+n+1) (F:=Lo A3 (BV A3 n)) CZ sc fun cdv A outer s H E hr=>?_;exact(AN (A2 (i:=1) sc.nd rfl (Or.inl rfl) (DP (AD (Ab CO Cs hr rfl (AD (Af BO (AB (pv 0)) (BG (AD (BG AE) AE))) AE)) AE)))
 (AN (CK aR rfl (Hn rfl Bt (AD (B3 Et rfl Bm bD (AD (AB (pv 0)) AE)) AE)) (CU (A1 (i:=2) sc.nd rfl (Or.inr rfl)))
  (AW (A2 (i:=1) sc.nd rfl (Or.inl rfl) (Af BO (AB (pv 1)) (HR [".0", "_law_more", "_law_tree", "_law_k"] 1 [none,none,some 0,some 2] (Bu (Ab CZ Eu hr rfl (AD (BZ (AB (pv 0)) (AB (pv 2)) (fun _ _=>rfl)) AE))) (fun _ _ _ _ _=>EN) (fun _ _ _ _ _=>(Ab CO Cs hr rfl (AD (Af BO (Af BO (LN (AB (pv 2)) M5 (Mq (AB (pv 3)))) (BG (AD (AB (pv 1)) AE))) (LN (AB (pv 2)) (Mq (Af BO (AB (pv 3)) AK)) M5)) AE))))))))
 (AW (B5 (AB (pv 1))))))
theorem Lc:Ad ["_law_most", "_law_found", "_law_row", "_law_many", "_law_wider", "_law_tree"] ["_law_most"] (AR JI):=CN
def TX(BV:MD):DF :=
 (Ag (BM 1 (D5 AG))
 (Ag (BM 2 (D5 (AA (Bz AG) AG)))
 (Ag (DQ (Fs KA (AA (nm 0) AG)) (FQ 3)
  (Ag (BM 1 (AI Bw (nm 1) (nm 2)))
  (Ag (BM 4 (D5 AG))
  (Ag (DQ (CB (nm 2)) (FQ 5)
   (BM 4 (AI Bw (nm 4) (AJ BV (AA (nm 5) AG)))))
  (BM 2 (fun δ=>((nm 4) δ).bind Kz))))))
 (DK (nm 1)))))
def CT(BV:MD):MD:=Cc ["_law_most"] ["_law_most", "_law_found", "_law_row", "_law_many", "_law_wider", "_law_tree"] (TX BV)
theorem RY{k:Nat}{BV:MD}(F:Fn K mg "_law_trees" JI ["_law_most"] f fd)
 {Lb:Addr}{KW:FuncData}(CZ:Fn K mg "_law_longer" IB ["_law_tree"] Lb KW)(Eu:AL P w K mg base Ao k Lb KW ["_law_tree"] (BH BV))(Bt:mg "range" = none)(Mx:mg "set" = none)(A9:mg "sorted" = none) :
  AL P w K mg base Ao (k+1) f fd ["_law_most"] (BH (CT BV)):=GA F Lc fun cdv A outer s H E hr=>by
 have sc:=Lc;exact(AN (A2 (i:=1) sc.nd rfl (Or.inl rfl) (DP AE))
 (AN (A2 (i:=2) sc.nd rfl (Or.inl rfl) (DP (AD (BG AE) AE)))
 (AN (CK aR rfl (Hn rfl Bt (AD (AB (pv 0)) AE)) (CU (A1 (i:=3) sc.nd rfl (Or.inl rfl)))
  (AN (A2 (i:=1) sc.nd rfl (Or.inl rfl) (Af BO (AB (pv 1)) (AB (pv 2))))
  (AN (A2 (i:=4) sc.nd rfl (Or.inl rfl) (DP AE))
  (AN (CK aR rfl (Bu (AB (pv 2))) (CU (A1 (i:=5) sc.nd rfl (Or.inl rfl)))
   (AW (A2 (i:=4) sc.nd rfl (Or.inl rfl) (Af BO (AB (pv 4)) (Ab CZ Eu hr rfl (AD (AB (pv 5)) AE))))))
  (AW (A2 (i:=2) sc.nd rfl (Or.inl rfl) (PD rfl (by have:=hr.units;exact this) rfl A9 rfl Mx (AB (pv 4)))))))))
 (AW (B5 (AB (pv 1)))))))
theorem JK:Ad ["_law_script", "_law_at", "_law_reach", "_law_found", "_law_numbers", "_law_k", "_law_number"] ["_law_script", "_law_at", "_law_reach"] (AR G8):=CN
def FC(Ac:MD)(Aq:MD):DF :=
 (Ag (LH 3 AG)
 (Ag (LH 4 (AA (AJ Ac (AA (nm 0) (AA (nm 1) AG))) (AA (AJ Ac (AA (nm 0) (AA (AI Bw (nm 1) (fC (.int 1))) AG))) AG)))
 (Ag (DQ (Fs KA (AA (AI BR (D5 (AA (fC (.int 0)) (AA (fC (.int 1)) (AA (fC (.int 2)) (AA (fC (.int 4)) (AA (fC (.int 8)) (AA (fC (.int 17)) (AA (fC (.int 37)) AG)))))))) (nm 2)) AG)) (FQ 5)
  (Ag (BM 6 (YU 4 (AI CA (nm 5) (fC (.int 2)))))
  (Ag (OD 3 (AJ Aq (AA (AI UA (AI CA (nm 6) (fC (.int 11))) (fC (.int 5))) (AA (AI Bw (fC (.int 1)) (AI CA (AI N8 (nm 6) (fC (.int 11))) (fC (.int 5)))) AG))))
  (Ag (QL 4 (AI N8 (nm 6) (fC (.int 55))) (AI CA (nm 5) (fC (.int 2))))
  (Lg (Pa (EH (F6 false) (AI BR (nm 4) (AI CA (nm 5) (fC (.int 2)))) (fC (.int 0))))
   (QL 4 (AI CA (AI DR (AI Bw (AI Bw (AJ Ac (AA (nm 0) (AA (nm 1) AG))) (AJ Ac (AA (nm 0) (AA (AI Bw (nm 1) (fC (.int 1))) AG)))) (AI DR (fC (.int 7919)) (nm 5))) (fC (.int 48271))) (fC (.int 2147483647))) (AI CA (nm 5) (fC (.int 2))))
   Ih)))))
 (Pn 3))))
def Bp(Ac:MD)(Aq:MD):MD:=Cc ["_law_script", "_law_at", "_law_reach"] ["_law_script", "_law_at", "_law_reach", "_law_found", "_law_numbers", "_law_k", "_law_number"] (FC Ac Aq)
theorem N4{k:Nat}{Ac:MD}{Aq:MD}(F:Fn K mg "_law_weighing" G8 ["_law_script", "_law_at", "_law_reach"] f fd)
 {F9:Addr}{FR:FuncData}(CP:Fn K mg "_law_cell" Hb ["_law_script", "_law_k"] F9 FR)(Ct:AL P w K mg base Ao k F9 FR ["_law_script", "_law_k"] (BH Ac))
 {Dp:Addr}{DB:FuncData}(CQ:Fn K mg "_law_frac" F7 ["_law_top", "_law_bottom"] Dp DB)(Cu:AL P w K mg base Ao k Dp DB ["_law_top", "_law_bottom"] (BH Aq))(Bt:mg "range" = none) :
  AL P w K mg base Ao (k+1) f fd ["_law_script", "_law_at", "_law_reach"] (BH (Bp Ac Aq)):=GA F JK fun cdv A outer s H E hr=>by
 have sc:=JK;exact(AN (Hl (i:=3) sc.nd rfl (Or.inl rfl) AE)
 (AN (Hl (i:=4) sc.nd rfl (Or.inl rfl) (AD (Ab CP Ct hr rfl (AD (AB (pv 0)) (AD (AB (pv 1)) AE))) (AD (Ab CP Ct hr rfl (AD (AB (pv 0)) (AD (Af BO (AB (pv 1)) AK) AE))) AE)))
 (AN (CK aR rfl (Hn rfl Bt (AD (BZ (DP (AD AK (AD AK (AD AK (AD AK (AD AK (AD AK (AD AK AE)))))))) (AB (pv 2)) (fun _ _=>rfl)) AE)) (CU (A1 (i:=5) sc.nd rfl (Or.inl rfl)))
  (AN (A2 (i:=6) sc.nd rfl (Or.inl rfl) (Y1 (pv 4) (Af Dr (AB (pv 5)) AK) (fun _ _=>rfl)))
  (AN (GO (pv 3) (Ab CQ Cu hr rfl (AD (Af Vh (Af Dr (AB (pv 6)) AK) AK) (AD (Af BO AK (Af Dr (Af U1 (AB (pv 6)) AK) AK)) AE))) (fun ho ha=>E5 (Hc ax bN bO FV ho ha)))
  (AN (Ye (pv 4) (Af Dr (AB (pv 5)) AK) (Af U1 (AB (pv 6)) AK) (fun h1 h2 h3=>SV h1 (SG h2 h3 set_list)))
  (AW (LS (Vw (EG (W2 (by have:=hr.units;exact this)) (BZ (AB (pv 4)) (Af Dr (AB (pv 5)) AK) (fun _ _=>rfl)) AK (BL _)))
   (AW (Ye (pv 4) (Af Dr (AB (pv 5)) AK) (Af Dr (Af Dy (Af BO (Af BO (Ab CP Ct hr rfl (AD (AB (pv 0)) (AD (AB (pv 1)) AE))) (Ab CP Ct hr rfl (AD (AB (pv 0)) (AD (Af BO (AB (pv 1)) AK) AE)))) (Af Dy AK (AB (pv 5)))) AK) AK) (fun h1 h2 h3=>SV h1 (SG h2 h3 set_list))))
   HP))))))
 (AW (Ms (pv 3))))))
def Oh(Ac:MD)(Aq:MD):List PyData→Option (List PyData):=ZF ["_law_script", "_law_at", "_law_reach"] ["_law_script", "_law_at", "_law_reach", "_law_found", "_law_numbers", "_law_k", "_law_number"] (FC Ac Aq)
theorem Oo:Ad ["_law_found"] ["_law_found"] (AR MH):=CN
def Qo:DF :=
 (Ag (Lg (Nh (OJ (LJ (V3 Kf (nm 0)))) (EH (F6 true) (AJ Fc (AA (nm 0) AG)) (fC (.int 2))))
  (DK (fC (.bool false)))
  Ih)
 (DK (AI (F6 false) (AJ Fc (AA (CM (B0 1) (Nh (OJ (LJ (V3 Ho (nm 1)))) (LJ (V3 GP (nm 1)))) (nm 1) [none,none] (CB (nm 0))) AG)) (fC (.int 0)))))
def Cz:MD:=Cc ["_law_found"] ["_law_found"] (Qo)
theorem W5{k:Nat}(F:Fn K mg "_law_is" MH ["_law_found"] f fd)(Kl:mg "bool" = none)(Mw:mg "int" = none)(Al:mg "isinstance" = none)(Bm:mg "len" = none)(Bx:mg "tuple" = none) :
  AL P w K mg base Ao (k+1) f fd ["_law_found"] (BH (Cz)):=GA F Oo fun cdv A outer s H E hr=>by
 have sc:=Oo;exact(AN (LS (DW.dt (Ij (Kt (JW (PY (T7 _) rfl Al rfl Bx bR (AB (pv 0))))) (IA (EG (M9 (by have:=hr.units;exact this)) (B3 Et rfl Bm bD (AD (AB (pv 0)) AE)) AK (BL _)))))
  (AW (B5 R8))
  HP)
 (AW (B5 (Yg (W2 (by have:=hr.units;exact this)) (B3 Et rfl Bm bD (AD (HR [".0", "_law_one"] 1 [none,none] (Bu (AB (pv 0))) (fun _ _ _ _ _=>(QZ (DW.dt (Ij (Kt (JW (PY (So _) rfl Al rfl Mw PyProof.Rows.boot_int (AB (pv 1))))) (IA (JW (PY (RD _) rfl Al rfl Kl PyProof.Rows.boot_bool (AB (pv 1))))))))) (fun _ _ _ _ _=>(AB (pv 1)))) AE)) AK (BL _)))))
theorem MA:Ad ["_law_found", "_law_due"] ["_law_found", "_law_due"] (AR J7):=CN
def Nk(Cz:MD):DF :=
 (Ag (Lg (Nh (OJ (LJ (V3 Hw (nm 0)))) (EH (HI fun i j=>decide (j<i)) (AJ Fc (AA (CM (B0 1) (OJ (LJ (AJ Cz (AA (nm 1) AG)))) (nm 1) [none,none] (CB (nm 0))) AG)) (fC (.int 0))))
  (DK (fC (.bool false)))
  Ih)
 (DK (AI (F6 false) (nm 0) (nm 1))))
def CD(Cz:MD):MD:=Cc ["_law_found", "_law_due"] ["_law_found", "_law_due"] (Nk Cz)
theorem Th{k:Nat}{Cz:MD}(F:Fn K mg "_law_same" J7 ["_law_found", "_law_due"] f fd)
 {Qp:Addr}{Pc:FuncData}(Jj:Fn K mg "_law_is" MH ["_law_found"] Qp Pc)(Mg:AL P w K mg base Ao k Qp Pc ["_law_found"] (BH Cz))(Al:mg "isinstance" = none)(Bm:mg "len" = none)(F8:mg "list" = none) :
  AL P w K mg base Ao (k+1) f fd ["_law_found", "_law_due"] (BH (CD Cz)):=GA F MA fun cdv A outer s H E hr=>by
 have sc:=MA;exact(AN (LS (DW.dt (Ij (Kt (JW (PY (S5 _) rfl Al rfl F8 PyProof.Rows.boot_list (AB (pv 0))))) (IA (EG Ws (B3 Et rfl Bm bD (AD (HR [".0", "_law_one"] 1 [none,none] (Bu (AB (pv 0))) (fun _ _ _ _ _=>(QZ (Kt (JW (Ab Jj Mg hr rfl (AD (AB (pv 1)) AE)))))) (fun _ _ _ _ _=>(AB (pv 1)))) AE)) AK (BL _)))))
  (AW (B5 R8))
  HP)
 (AW (B5 (Yg (W2 (by have:=hr.units;exact this)) (AB (pv 0)) (AB (pv 1)) (BL _)))))
theorem Na:Ad ["_law_factors", "_law_found", "_law_factor"] ["_law_factors"] (AR K4):=CN
def Ol(Ax:MD):DF :=
 (Ag (BM 1 (Bz (AA (fC (.int 1)) (AA (fC (.int 1)) AG))))
 (Ag (DQ (CB (nm 0)) (FQ 2)
  (BM 1 (AJ Ax (AA (nm 1) (AA (nm 2) AG)))))
 (DK (nm 1))))
def Dd(Ax:MD):MD:=Cc ["_law_factors"] ["_law_factors", "_law_found", "_law_factor"] (Ol Ax)
theorem Uc{k:Nat}{Ax:MD}(F:Fn K mg "_law_all" K4 ["_law_factors"] f fd)
 {EC:Addr}{Dk:FuncData}(Cq:Fn K mg "_law_mul" Gk ["_law_one", "_law_other"] EC Dk)(DV:AL P w K mg base Ao k EC Dk ["_law_one", "_law_other"] (BH Ax)) :
  AL P w K mg base Ao (k+1) f fd ["_law_factors"] (BH (Dd Ax)):=GA F Na fun cdv A outer s H E hr=>by
 have sc:=Na;exact(AN (A2 (i:=1) sc.nd rfl (Or.inl rfl) (BG (AD AK (AD AK AE))))
 (AN (CK aR rfl (Bu (AB (pv 0))) (CU (A1 (i:=2) sc.nd rfl (Or.inl rfl)))
  (AW (A2 (i:=1) sc.nd rfl (Or.inl rfl) (Ab Cq DV hr rfl (AD (AB (pv 1)) (AD (AB (pv 2)) AE))))))
 (AW (B5 (AB (pv 1))))))
theorem Rj:Ad ["_law_tree"] ["_law_tree"] (AR JY):=CN
def Ly(Ay:MD):DF :=
 (DK (AI Bw (fC (.int 1)) (AJ Wu (AA (CM (B0 1) Dx (AJ Ay (AA (nm 1) AG)) [none,none] (CB (nm 0))) AG))))
def Ay:Nat→MD
 |0=>fun _=>none
 |n+1=>Cc ["_law_tree"] ["_law_tree"] (Ly (Ay n))
theorem Lj{k:Nat}(C4:Fn K mg "_law_knots" JY ["_law_tree"] f fd)(G5:mg "sum" = none):∀n,
  AL P w K mg base Ao (k+n+1) f fd ["_law_tree"] (BH (Ay n))
 |0=>FW fun _ _ _ _ ⟨_,_,_,h,_⟩=>by cases h
 |n+1=>by
  have sc:=Rj;have FY:=Lj (k:=k) C4 G5 n;refine GA (k:=k+n+1) (F:=Ly (Ay n)) C4 sc fun cdv A outer s H E hr=>?_;exact(AW (B5 (Af BO AK (B3 (Yn rfl) rfl G5 PyProof.Rows.boot_sum (AD (HR [".0", "_law_bough"] 1 [none,none] (Bu (AB (pv 0))) (fun _ _ _ _ _=>EN) (fun _ _ _ _ _=>(Ab C4 FY hr rfl (AD (AB (pv 1)) AE)))) AE)))))
theorem PK:Ad ["_law_tree", "_law_rows", "_law_bough", "_law_some", "_law_wider", "_law_one"] ["_law_tree"] (AR HG):=CN
def Ki(BK:MD):DF :=
 (Ag (BM 1 (D5 (AA (Bz (AA (Bz AG) (AA (Bz AG) AG))) AG)))
 (Ag (DQ (CB (nm 0)) (FQ 2)
  (Ag (BM 3 (AI Bw (D5 (AA (Bz (AA (Bz AG) (AA (Bz (AA (nm 2) AG)) AG))) AG)) (CM (Di 1 2) Dx (Bz (AA (Bz (AA (nm 1) AG)) (AA (nm 2) AG))) [none,none,none] (CB (AJ BK (AA (nm 2) AG))))))
  (Ag (BM 4 (D5 AG))
  (Ag (DQ (CB (nm 1)) (FQ 5)
   (BM 4 (AI Bw (nm 4) (CM (B0 1) Dx (Bz (AA (AI Bw (AI BR (nm 2) (fC (.int 0))) (AI BR (nm 1) (fC (.int 0)))) (AA (AI Bw (AI BR (nm 2) (fC (.int 1))) (AI BR (nm 1) (fC (.int 1)))) AG))) [none,none,some 5] (CB (nm 3))))))
  (BM 1 (nm 4))))))
 (K0 (CF (Di 1 2) Dx (Bz (AA (AJ JD (AA (Za (AJ (Hj false) (AA (nm 1) AG)) (JF (fC (.int 1)))) AG)) (AA (nm 2) AG))) [none,none,none] (CB (nm 1))))))
def BK:Nat→MD
 |0=>fun _=>none
 |n+1=>Cc ["_law_tree"] ["_law_tree", "_law_rows", "_law_bough", "_law_some", "_law_wider", "_law_one"] (Ki (BK n))
theorem Jx{k:Nat}(CL:Fn K mg "_law_subsets" HG ["_law_tree"] f fd)(A9:mg "sorted" = none)(Bx:mg "tuple" = none):∀n,
  AL P w K mg base Ao (k+n+1) f fd ["_law_tree"] (BH (BK n))
 |0=>FW fun _ _ _ _ ⟨_,_,_,h,_⟩=>by cases h
 |n+1=>by
  have sc:=PK;have EU:=Jx (k:=k) CL A9 Bx n;refine GA (k:=k+n+1) (F:=Ki (BK n)) CL sc fun cdv A outer s H E hr=>?_;exact(AN (A2 (i:=1) sc.nd rfl (Or.inl rfl) (DP (AD (BG (AD (BG AE) (AD (BG AE) AE))) AE)))
 (AN (CK aR rfl (Bu (AB (pv 0))) (CU (A1 (i:=2) sc.nd rfl (Or.inl rfl)))
  (AN (A2 (i:=3) sc.nd rfl (Or.inl rfl) (Af BO (DP (AD (BG (AD (BG AE) (AD (BG (AD (AB (pv 2)) AE)) AE))) AE)) (Z0 [".0", "_law_trunk", "_law_parts"] 1 2 [none,none,none] (Bu (Ab CL EU hr rfl (AD (AB (pv 2)) AE))) (fun _ _ _ _ _=>EN) (fun _ _ _ _ _=>(BG (AD (BG (AD (AB (pv 1)) AE)) (AD (AB (pv 2)) AE)))))))
  (AN (A2 (i:=4) sc.nd rfl (Or.inl rfl) (DP AE))
  (AN (CK aR rfl (Bu (AB (pv 1))) (CU (A1 (i:=5) sc.nd rfl (Or.inr rfl)))
   (AW (A2 (i:=4) sc.nd rfl (Or.inl rfl) (Af BO (AB (pv 4)) (HR [".0", "_law_two", "_law_one"] 1 [none,none,some 5] (Bu (AB (pv 3))) (fun _ _ _ _ _=>EN) (fun _ _ _ _ _=>(BG (AD (Af BO (BZ (AB (pv 2)) AK (fun _ _=>rfl)) (BZ (AB (pv 1)) AK (fun _ _=>rfl))) (AD (Af BO (BZ (AB (pv 2)) AK (fun _ _=>rfl)) (BZ (AB (pv 1)) AK (fun _ _=>rfl))) AE)))))))))
  (AW (A2 (i:=1) sc.nd rfl (Or.inl rfl) (AB (pv 4))))))))
 (AW (OW [".0", "_law_trunk", "_law_parts"] 1 2 [none,none,none] (Bu (AB (pv 1))) (fun _ _ _ _ _=>EN) (fun _ _ _ _ _=>(BG (AD (Hv OQ rfl Bx bR (AD (Yt (B3 (U3 (by have:=hr.units;exact this)) rfl A9 PyProof.Rows.boot_sorted (AD (AB (pv 1)) AE)) (L6 AK)) AE)) (AD (AB (pv 2)) AE))))))))
theorem JE:Ad ["_law_trees_here", "_law_one", "_law_other", "_law_found", "_law_k", "_law_worth", "_law_trunk", "_law_parts", "_law_shares"] ["_law_trees_here", "_law_one", "_law_other"] (AR Gj):=CN
def Ji(Dc:MD)(Dd:MD)(Ax:MD)(BK:MD):DF :=
 (Ag (LH 3 AG)
 (Ag (DQ (Fs KA (AA (AJ Fc (AA (nm 0) AG)) AG)) (FQ 4)
  (Ag (BM 5 (AI BR (nm 1) (nm 4)))
  (Ag (DQ (CB (AJ BK (AA (AI BR (nm 0) (nm 4)) AG))) (Di 6 7)
   (Ag (BM 8 (CM (B0 1) Dx (AI BR (nm 2) (AI E4 (nm 3) (nm 1))) [none,none,some 1,some 0] (CB (nm 7))))
   (BM 5 (AJ Dc (AA (nm 5) (AA (AJ Ax (AA (AI BR (nm 2) (AI E4 (nm 0) (nm 6))) (AA (AJ Dd (AA (nm 8) AG)) AG))) AG))))))
  (OD 3 (nm 5)))))
 (Pn 3)))
def Bl(Dc:MD)(Dd:MD)(Ax:MD)(BK:MD):MD:=Cc ["_law_trees_here", "_law_one", "_law_other"] ["_law_trees_here", "_law_one", "_law_other", "_law_found", "_law_k", "_law_worth", "_law_trunk", "_law_parts", "_law_shares"] (Ji Dc Dd Ax BK)
theorem OG{k:Nat}{Dc:MD}{Dd:MD}{Ax:MD}{BK:MD}(F:Fn K mg "_law_composed" Gj ["_law_trees_here", "_law_one", "_law_other"] f fd)
 {O7:Addr}{NO:FuncData}(Ig:Fn K mg "_law_add" LX ["_law_one", "_law_other"] O7 NO)(LY:AL P w K mg base Ao k O7 NO ["_law_one", "_law_other"] (BH Dc))
 {Ow:Addr}{NX:FuncData}(Ic:Fn K mg "_law_all" K4 ["_law_factors"] Ow NX)(LP:AL P w K mg base Ao k Ow NX ["_law_factors"] (BH Dd))
 {EC:Addr}{Dk:FuncData}(Cq:Fn K mg "_law_mul" Gk ["_law_one", "_law_other"] EC Dk)(DV:AL P w K mg base Ao k EC Dk ["_law_one", "_law_other"] (BH Ax))
 {Kh:Addr}{Jm:FuncData}(CL:Fn K mg "_law_subsets" HG ["_law_tree"] Kh Jm)(EU:AL P w K mg base Ao k Kh Jm ["_law_tree"] (BH BK))(Bm:mg "len" = none)(Bt:mg "range" = none) :
  AL P w K mg base Ao (k+1) f fd ["_law_trees_here", "_law_one", "_law_other"] (BH (Bl Dc Dd Ax BK)):=GA F JE fun cdv A outer s H E hr=>by
 have sc:=JE;exact(AN (Hl (i:=3) sc.nd rfl (Or.inl rfl) AE)
 (AN (CK aR rfl (Hn rfl Bt (AD (B3 Et rfl Bm bD (AD (AB (pv 0)) AE)) AE)) (CU (A1 (i:=4) sc.nd rfl (Or.inl rfl)))
  (AN (A2 (i:=5) sc.nd rfl (Or.inl rfl) (BZ (AB (pv 1)) (AB (pv 4)) (fun _ _=>rfl)))
  (AN (CK aR rfl (Bu (Ab CL EU hr rfl (AD (BZ (AB (pv 0)) (AB (pv 4)) (fun _ _=>rfl)) AE))) (O5 (Kb rfl (DL (A1 (i:=6) sc.nd rfl (Or.inl rfl)) (DL (A1 (i:=7) sc.nd rfl (Or.inl rfl)) Ir))))
   (AN (WZ (i:=8) [".0", "_law_part", "_law_one", "_law_trees_here"] 1 [none,none,some 1,some 0] sc.nd rfl rfl (Bu (AB (pv 7))) (fun _ _ _ _ _=>EN) (fun _ _ _ _ _=>(BZ (AB (pv 2)) (Qv (i:=3) (by have:=hr.units;exact this) (pv 3) (AB (pv 1))) (fun _ _=>rfl))))
   (AW (A2 (i:=5) sc.nd rfl (Or.inl rfl) (Ab Ig LY hr rfl (AD (AB (pv 5)) (AD (Ab Cq DV hr rfl (AD (BZ (AB (pv 2)) (Qv (i:=0) (by have:=hr.units;exact this) (pv 0) (AB (pv 6))) (fun _ _=>rfl)) (AD (Ab Ic LP hr rfl (AD (AB (pv 8)) AE)) AE))) AE)))))))
  (AW (GO (pv 3) (AB (pv 5)) (fun ho ha=>E5 (Hc ax bN bO FV ho ha)))))))
 (AW (Ms (pv 3)))))
theorem Xs:Ad ["_law_script", "_law_reach", "_law_weighing_here", "_law_trees_here", "_law_handed", "_law_found", "_law_turned", "_law_k", "_law_noughts"] ["_law_script"] (AR bp):=CN
def cN(Ac:MD)(Bl:MD)(Ay:MD)(Ax:MD)(CD:MD)(CT:MD)(Bp:MD)(BE:List PyData→Option Xr):DF :=
 (Ag (BM 1 (AI CA (AJ Ac (AA (nm 0) (AA (fC (.int 0)) AG))) (fC (.int 6))))
 (Ag (BM 2 (AJ Bp (AA (nm 0) (AA (fC (.int 1)) (AA (nm 1) AG)))))
 (Ag (BM 3 (AJ CT (AA (nm 1) AG)))
 (Ag (BM 4 (AJ Mr (AA (nm 2) AG)))
 (Ag (BM 5 (AJ (good BE) (AA (nm 4) AG)))
 (Ag (Lg (Nh (OJ (LJ (AJ CD (AA (nm 5) (AA (AJ Mr (AA (nm 5) AG)) AG))))) (Nh (EH (F6 true) (AJ Fc (AA (nm 5) AG)) (AJ Fc (AA (nm 2) AG))) (EH (F6 true) (nm 4) (nm 2))))
  (DK (fC (.bool false)))
  Ih)
 (Ag (LH 6 AG)
 (Ag (DQ (Fs KA (AA (AJ Fc (AA (nm 3) AG)) AG)) (FQ 7)
  (OD 6 (AJ Ax (AA (AI BR (nm 5) (nm 7)) (AA (Bz (AA (AI BR (D5 (AA (fC (.int 1)) (AA (JF (fC (.int 1))) AG))) (AI CA (AJ Ay (AA (AI BR (nm 3) (nm 7)) AG)) (fC (.int 2)))) (AA (fC (.int 1)) AG))) AG)))))
 (Ag (BM 8 (AI DR (D5 (AA (Bz (AA (fC (.int 0)) (AA (fC (.int 1)) AG))) AG)) (AJ Fc (AA (nm 3) AG))))
 (Ag (Lg (Pa (Nh (EH (F6 true) (AJ Bl (AA (nm 3) (AA (nm 2) (AA (nm 6) AG)))) (nm 8)) (EH (F6 true) (AJ Bl (AA (nm 3) (AA (nm 6) (AA (nm 2) AG)))) (nm 8))))
  (DK (fC (.bool false)))
  Ih)
 (DK (AJ CD (AA (AJ (good BE) (AA (nm 5) AG)) (AA (nm 2) AG))))))))))))))
def b6(Ac:MD)(Bl:MD)(Ay:MD)(Ax:MD)(CD:MD)(CT:MD)(Bp:MD)(BE:List PyData→Option Xr):MD:=Cc ["_law_script"] ["_law_script", "_law_reach", "_law_weighing_here", "_law_trees_here", "_law_handed", "_law_found", "_law_turned", "_law_k", "_law_noughts"] (cN Ac Bl Ay Ax CD CT Bp BE)
theorem fz{k:Nat}{Ac:MD}{Bl:MD}{Ay:MD}{Ax:MD}{CD:MD}{CT:MD}{Bp:MD}{BE:List PyData→Option Xr}(F:Fn K mg "law" bp ["_law_script"] f fd)
 {F9:Addr}{FR:FuncData}(CP:Fn K mg "_law_cell" Hb ["_law_script", "_law_k"] F9 FR)(Ct:AL P w K mg base Ao k F9 FR ["_law_script", "_law_k"] (BH Ac))
 {Js:Addr}{Ja:FuncData}(D9:Fn K mg "_law_composed" Gj ["_law_trees_here", "_law_one", "_law_other"] Js Ja)(FK:AL P w K mg base Ao k Js Ja ["_law_trees_here", "_law_one", "_law_other"] (BH Bl))
 {Mh:Addr}{La:FuncData}(C4:Fn K mg "_law_knots" JY ["_law_tree"] Mh La)(FY:AL P w K mg base Ao k Mh La ["_law_tree"] (BH Ay))
 {EC:Addr}{Dk:FuncData}(Cq:Fn K mg "_law_mul" Gk ["_law_one", "_law_other"] EC Dk)(DV:AL P w K mg base Ao k EC Dk ["_law_one", "_law_other"] (BH Ax))
 {Nf:Addr}{L1:FuncData}(F5:Fn K mg "_law_same" J7 ["_law_found", "_law_due"] Nf L1)(He:AL P w K mg base Ao k Nf L1 ["_law_found", "_law_due"] (BH CD))
 {MY:Addr}{Ld:FuncData}(Gr:Fn K mg "_law_trees" JI ["_law_most"] MY Ld)(JV:AL P w K mg base Ao k MY Ld ["_law_most"] (BH CT))
 {Jl:Addr}{Je:FuncData}(E9:Fn K mg "_law_weighing" G8 ["_law_script", "_law_at", "_law_reach"] Jl Je)(Gf:AL P w K mg base Ao k Jl Je ["_law_script", "_law_at", "_law_reach"] (BH Bp))
 {HF:Addr}{Gh:FuncData}(Ci:Fn K mg "weighing_mirrored" E7 ["weighing"] HF Gh)(D4:AL P w K mg base (Cf P w) k HF Gh ["weighing"] (GC BE))(Bm:mg "len" = none)(F8:mg "list" = none)(Bt:mg "range" = none) :
  AL P w K mg base Ao (k+1) f fd ["_law_script"] (BH (b6 Ac Bl Ay Ax CD CT Bp BE)):=GA F Xs fun cdv A outer s H E hr=>by
 have sc:=Xs;exact(AN (A2 (i:=1) sc.nd rfl (Or.inl rfl) (Af Dr (Ab CP Ct hr rfl (AD (AB (pv 0)) (AD AK AE))) AK))
 (AN (A2 (i:=2) sc.nd rfl (Or.inl rfl) (Ab E9 Gf hr rfl (AD (AB (pv 0)) (AD AK (AD (AB (pv 1)) AE)))))
 (AN (A2 (i:=3) sc.nd rfl (Or.inl rfl) (Ab Gr JV hr rfl (AD (AB (pv 1)) AE)))
 (AN (A2 (i:=4) sc.nd rfl (Or.inl rfl) (Hv VN rfl F8 PyProof.Rows.boot_list (AD (AB (pv 2)) AE)))
 (AN (A2 (i:=5) sc.nd rfl (Or.inl rfl) (Ab Ci (Vz D4) hr rfl (AD (AB (pv 4)) AE)))
 (AN (LS (DW.dt (Ij (Kt (JW (Ab F5 He hr rfl (AD (AB (pv 5)) (AD (Hv VN rfl F8 PyProof.Rows.boot_list (AD (AB (pv 5)) AE)) AE))))) (Ij (EG (M9 (by have:=hr.units;exact this)) (B3 Et rfl Bm bD (AD (AB (pv 5)) AE)) (B3 Et rfl Bm bD (AD (AB (pv 2)) AE)) (BL _)) (IA (EG (M9 (by have:=hr.units;exact this)) (AB (pv 4)) (AB (pv 2)) (BL _))))))
  (AW (B5 R8))
  HP)
 (AN (Hl (i:=6) sc.nd rfl (Or.inl rfl) AE)
 (AN (CK aR rfl (Hn rfl Bt (AD (B3 Et rfl Bm bD (AD (AB (pv 3)) AE)) AE)) (CU (A1 (i:=7) sc.nd rfl (Or.inl rfl)))
  (AW (GO (pv 6) (Ab Cq DV hr rfl (AD (BZ (AB (pv 5)) (AB (pv 7)) (fun _ _=>rfl)) (AD (BG (AD (BZ (DP (AD AK (AD (L6 AK) AE))) (Af Dr (Ab C4 FY hr rfl (AD (BZ (AB (pv 3)) (AB (pv 7)) (fun _ _=>rfl)) AE)) AK) (fun _ _=>rfl)) (AD AK AE))) AE))) (fun ho ha=>E5 (Hc ax bN bO FV ho ha)))))
 (AN (A2 (i:=8) sc.nd rfl (Or.inl rfl) (Af Dy (DP (AD (BG (AD AK (AD AK AE))) AE)) (B3 Et rfl Bm bD (AD (AB (pv 3)) AE))))
 (AN (LS (Vw (DW.dt (Ij (EG (M9 (by have:=hr.units;exact this)) (Ab D9 FK hr rfl (AD (AB (pv 3)) (AD (AB (pv 2)) (AD (AB (pv 6)) AE)))) (AB (pv 8)) (BL _)) (IA (EG (M9 (by have:=hr.units;exact this)) (Ab D9 FK hr rfl (AD (AB (pv 3)) (AD (AB (pv 6)) (AD (AB (pv 2)) AE)))) (AB (pv 8)) (BL _))))))
  (AW (B5 R8))
  HP)
 (AW (B5 (Ab F5 He hr rfl (AD (Ab Ci (Vz D4) hr rfl (AD (AB (pv 5)) AE)) (AD (AB (pv 2)) AE)))))))))))))))
end
abbrev kz:MD:=A3 9
abbrev dQ:MD:=BV kz 9
abbrev Ht:MD:=CT dQ
abbrev mL:MD:=Au AQ 9
abbrev Kg(C:Addr):List PyData→Option Xr:=Bf (Dh mL C) C
def AF:Nat→List Tr
 |0=>[]
 |n+1=>AF n++TH.tz n
abbrev AZ(n:Nat):PyData:=.list (Bq (Tr.of (AF n)))
theorem eZ:Ht [.int 0]=some (AZ 0):=by kernel_rfl
theorem cw:Ht [.int 1]=some (AZ 1):=by kernel_rfl
theorem dj:Ht [.int 2]=some (AZ 2):=by kernel_rfl
theorem eE:Ht [.int 3]=some (AZ 3):=by kernel_rfl
theorem ec:Ht [.int 4]=some (AZ 4):=by kernel_rfl
theorem eU:Ht [.int 5]=some (AZ 5):=by kernel_rfl
theorem mO(C:Addr):Kg C [.int 0]=some (.inl (AZ 0)):=by kernel_rfl
theorem my(C:Addr):Kg C [.int 1]=some (.inl (AZ 1)):=by kernel_rfl
theorem mv(C:Addr):Kg C [.int 2]=some (.inl (AZ 2)):=by kernel_rfl
theorem mj(C:Addr):Kg C [.int 3]=some (.inl (AZ 3)):=by kernel_rfl
theorem lq(C:Addr):Kg C [.int 4]=some (.inl (AZ 4)):=by kernel_rfl
theorem mC(C:Addr):Kg C [.int 5]=some (.inl (AZ 5)):=by kernel_rfl
theorem Z6{n:Nat}(h:n≤5):Ht [.int (n:Nat)]=some (AZ n):=by
 rcases n with _ | _ | _ | _ | _ | _ | n
 ·exact eZ
 ·exact cw
 ·exact dj
 ·exact eE
 ·exact ec
 ·exact eU
 ·omega
theorem b9{n:Nat}(h:n≤5)(C:Addr):Kg C [.int (n:Nat)]=some (.inl (AZ n)):=by
 rcases n with _ | _ | _ | _ | _ | _ | n
 ·exact mO C
 ·exact my C
 ·exact mv C
 ·exact mj C
 ·exact lq C
 ·exact mC C
 ·omega
def BQ:Nat→Nat
 |0=>0 | 1=>1 | 2=>2 | 3=>4 | 4=>8 | 5=>17 | 6=>37 | _=>85
theorem EB:∀n,n≤5→(AF n).length=BQ n∧∀t∈AF n,t.deep≤8∧t.AU≤5∧1≤t.AU:=by decide +kernel
def AH(r:Rat):PyData:=.tuple [.int r.num,.int (r.den:Int)]
theorem gY(r:Rat):FE (AH r)=true:=by
 have h:=r.den_nz;have k:=r.reduced;rw [AH,FE,decide_eq_true (show(1:Int)≤(r.den:Int) by omega),Bool.true_and];rw [beq_iff_eq];unfold FM.gi;unfold Nat.Coprime at k;rw [show r.num.gcd (r.den:Int)=1 from k]
 rfl
theorem DU.rat{H:Hp}{q:Rat}{v:V}(h:DU H (AH q) v):∃p,v=.ref p∧H p=some (.tup (QY q)):=h.ints (ps:=[q.num,(q.den:Int)])
def Mj:PyData→Rat
 |.tuple [.int a,.int b]=>Rat.divInt a b
 |_=>0
theorem LB(r:Rat):Mj (AH r)=r:=FM.Dl r
theorem QV(r:Rat):(AH r).canLay0=true:=by unfold AH;simp only [PyData.canLay0];exact Tg [r.num,(r.den:Int)]
open Classical in
noncomputable def mT(ds:List PyData):Option PyData:=match ds with
 |[x,y]=>if ∃p q,x=AH p∧y=AH q∧FM.Fits p 400∧FM.Fits q 400 then some (AH (Mj x*Mj y)) else none
 |_=>none
theorem cc{p q:Rat}(hp:FM.Fits p 400)(hq:FM.Fits q 400):mT [AH p,AH q]=some (AH (p*q)):=by
 unfold mT;refine(if_pos ⟨p,q,rfl,rfl,hp,hq⟩).trans ?_;rw [LB,LB]
section
variable{P:Program}{w:World}{K:Fg}{mg:Str→Option Value}{base:Heap}{CX:GQ}{k:Nat}{f:Addr}{fd:FuncData}{ps:List Str}
theorem toT(F:AL P w K mg base CX k f fd ps (i4 K (fun p q=>p*q) fun _=>True)):AL P w K mg base CX k f fd ps (BH mT) :=
 Io F fun ds x hm G H vs Q E d e kk=>by
  unfold mT at hm;split at hm
  ·split at hm
   ·rename_i hh;obtain⟨p,q,rfl,rfl,hp,hq⟩:=hh;cases hm;rw [LB,LB]at kk;obtain⟨v1,v2,rfl,d1,d2⟩:=d.NZ;obtain⟨a,rfl,ha⟩:=(Rr (QV p) (d1.same e)).rat;obtain⟨b,rfl,hb⟩:=(Rr (QV q) (d2.same e)).rat;refine⟨_,_,p,q,400,rfl,.of ha,.of hb,hp,hq,by decide,trivial,fun l H' e' hl'=>?_⟩;obtain⟨G',n1,n2,n3,n4⟩:=V5 e e' hl' (LL [(p*q).num,((p*q).den:Int)]);exact kk _ G' H' n1 n2 n3 e' n4
   ·cases hm
  ·cases hm
def L7(ds:List PyData):Option PyData:=match ds with
 |[.int t,.int b]=>if b≠0∧b.natAbs<2 ^ 400 then some (AH (Rat.divInt t b)) else none
 |_=>none
theorem mx(F:AL P w K mg base CX k f fd ps Sv):AL P w K mg base CX k f fd ps (BH L7) :=
 Io F fun ds x hm G H vs Q E d e kk=>by
  unfold L7 at hm;split at hm
  ·split at hm
   ·rename_i hh;cases hm;obtain⟨v1,v2,rfl,d1,d2⟩:=d.NZ;rw [Du]at d1 d2;subst d1 d2;refine⟨_,_,400,rfl,hh.1,by decide,hh.2,fun l H' e' hl'=>?_⟩;obtain⟨G',n1,n2,n3,n4⟩:=V5 e e' hl' (LL [(Rat.divInt _ _).num,((Rat.divInt _ _).den:Int)]);exact kk _ G' H' n1 n2 n3 e' n4
   ·cases hm
  ·cases hm
def S9(ds:List PyData):Option PyData:=match ds with
 |[.int b,.int p]=>if b.natAbs<2 ^ 10∧0≤p∧p≤400 then some (.int (b ^ p.toNat)) else none
 |_=>none
theorem lV(F:AL P w K mg base CX k f fd ps cG):AL P w K mg base CX k f fd ps (BH S9) :=
 Io F fun ds x hm G H vs Q E d e kk=>by
  unfold S9 at hm;split at hm
  ·split at hm
   ·rename_i hh;cases hm;obtain⟨v1,v2,rfl,d1,d2⟩:=d.NZ;rw [Du]at d1 d2;subst d1 d2;rename_i b p;refine⟨b,p.toNat,10,?_,hh.1,by omega,kk _ G H (.refl _) Nw.refl e (.refl _) (by rw [Du])⟩;rw [show((p.toNat:Nat):Int)=p by omega]
   ·cases hm
  ·cases hm
end
theorem Sh{n:Nat}{ds:List PyData}(h:∀d∈ds,Ok n d):WB n ds:=by
 induction ds with
 |nil=>exact⟨by simp [PyData.canLayAll0],by simp [PyData.depthAll]⟩
 |cons d ds ih =>
  obtain⟨a,b⟩:=h d (.head _);obtain⟨a',b'⟩:=ih fun e he=>h e (.tail _ he);exact⟨by simp only [PyData.canLayAll0];rw [a,a'];rfl,by simp only [PyData.depthAll];omega⟩
theorem i8{n:Nat}{ds:List PyData}(h:∀d∈ds,Ok n d):Ok (n+1) (.list ds):=.lst (Sh h)
theorem lu{n:Nat}{ds:List PyData}(h:∀d∈ds,Ok n d):Ok (n+1) (.tuple ds):=.tup (Sh h)
theorem YA(r:Rat):Ok 1 (AH r):=lu (n:=0) fun d hd=>by
 rcases aM.mp hd with rfl | hd
 ·exact .int
 ·rw [List.mem_singleton.mp hd];exact .int
theorem ne_self{x:PyData}{n:Nat}(h:Ok n x)(hn:n≤64):F6 true x x=some (.bool false):=by
 refine(if_pos ⟨h.shaped hn,h.shaped hn⟩).trans ?_;rw [Nu x h.1];rfl
theorem Zs{x:PyData}{n:Nat}(h:Ok n x)(hn:n≤64):F6 false x x=some (.bool true):=by
 refine(if_pos ⟨h.shaped hn,h.shaped hn⟩).trans ?_;rw [Nu x h.1];rfl
theorem Ve(x y:Int):F6 false (.int x) (.int y)=some (.bool (decide (x=y))):=by
 have h:SeqAt.shaped (.int x)=true∧SeqAt.shaped (.int y)=true:=⟨(Ok.int (n:=0)).shaped (by decide),(Ok.int (n:=0)).shaped (by decide)⟩;refine(if_pos h).trans ?_;simp [PyData.eqv];exact Bool.eq_iff_iff.mpr (by simp)
theorem YJ{i:Nat}{f g:Dv→Option PyData}{δ:Dv}{y:PyData}{p:Nat}{xs:List PyData}(h:f δ=some y)(k:g δ=some (.int (p:Nat)))(o:ow i δ=some xs)(hp:p<xs.length):QL i f g δ=some (.nx (δ.set i (.own (.lst (xs.set p y))))):=by
 show(f δ).bind _=_;rw [h];show(g δ).bind _=_;rw [k];show(ow i δ).bind _=_;rw [o];show(MK xs.length (p:Int)).map _=_;have:MK xs.length (p:Int)=some p:=by
  unfold MK;rw [if_pos (by omega)]
  first | rfl | (rw [if_pos (by omega)];simp) | simp [hp]
 rw [this];rfl
theorem Su{i j:Int}{n:Nat}(h1:i.natAbs<2 ^ n)(h2:j.natAbs<2 ^ n)(hn:n≤9000):DR (.int i) (.int j)=some (.int (i*j)):=Ph (by
 unfold J3;rw [Jb (n:=9000) (aH h1 (af (by decide) hn)),Jb (n:=9000) (aH h2 (af (by decide) hn))];simp)
theorem div_is{i j:Int}(h:0<j)(h2:j.natAbs<2 ^ 64):N8 (.int i) (.int j)=some (.int (i / j)):=by
 refine(if_pos ⟨by omega,Jb (aH h2 (af (by decide) (by decide)))⟩).trans ?_;rw [Int.fdiv_eq_ediv_of_nonneg _ (by omega)]
theorem S8{t b:Int}(h:b≠0)(h2:b.natAbs<2 ^ 400):L7 [.int t,.int b]=some (AH (Rat.divInt t b)):=if_pos ⟨h,h2⟩
theorem TF{F:DF}{δ:Dv}{o:Ou}(h:F δ=some o):S0 F δ=some (.inl o):=by show(F δ).map _=_;rw [h];rfl
theorem zip_map{α β:Type}{f:α→PyData}{g:β→PyData}:∀(xs:List α) (ys:List β),Nx (xs.map f) (ys.map g)=(xs.zip ys).map fun z=>.tuple [f z.1,g z.2]
 |[],ys=>by cases ys<;>rfl
 |x::xs,[]=>rfl
 |x::xs,y::ys=>by
  rw [List.map_cons,List.map_cons,List.zip_cons_cons,List.map_cons,←zip_map xs ys];rfl
theorem EZ:∀ts:List Tr,Bq (Tr.of ts)=ts.map fun t=>.tuple (Bq t)
 |[]=>rfl
 |t::ts=>by rw [List.map_cons,←EZ ts];rfl
abbrev AV(ws:List Rat):PyData:=.list (ws.map AH)
theorem iZ(ws:List Rat):Gv (AV ws)=true:=by
 show(ws.map AH).all FE=true;rw [List.all_eq_true];intro d hd;obtain⟨r,_,rfl⟩:=aT.mp hd;exact gY r
theorem gn(ws:List Rat):(AV ws).canLay0=true:=j7 fun d hd=>by obtain⟨t,_,rfl⟩:=aT.mp hd;exact QV t
abbrev iQ(C:Addr):List PyData→Option Xr:=BF (mB Gv) C
abbrev FT(C:Addr):List PyData→Option Xr:=An (iQ C)
theorem iz{n:Nat}(hn:n≤5){ws:List Rat}(hl:ws.length=BQ n)(C:Addr):iQ C [AV ws]=some (.inl .none):=by
 refine eT (δ:=[.d (AV ws)]) rfl ?_;unfold Gg;refine jz (M4 (P4 (My (Ak (xs:=[AV ws]) rfl (lT (gn ws) (iZ ws))))) ?_) rfl;refine My ?_;show bx true _ (.int ((ws.map AH).length:Nat))=_;rw [List.length_map,hl];rcases n with _ | _ | _ | _ | _ | _ | n<;>first | rfl | omega
theorem UG{n:Nat}(hn:n≤5){ws:List Rat}(hl:ws.length=BQ n)(C:Addr):FT C [AV ws]=some (.inl (.int (n:Nat))):=by
 refine VW rfl ?_;unfold JQ;refine QM (bg (ds:=[AV ws]) rfl (iz hn hl C)) ?_;have e:DK (fun δ=>((AJ Fc (AA (nm 0) AG)) δ).bind (Xy [0,1,2,4,8,17,37,85])) [.d (AV ws)]=some (.rt (.int (n:Nat))):=by
  refine Fi ?_;show Xy _ (.int ((ws.map AH).length:Nat))=_;rw [List.length_map,hl];rcases n with _ | _ | _ | _ | _ | _ | n<;>first | rfl | omega
 exact TF e
theorem cW(ws:List Rat):Ok 2 (AV ws):=i8 fun d hd=>by obtain⟨q,_,rfl⟩:=aT.mp hd;exact YA q
theorem QG(ns:List Int)(k:Nat):∃c,Ac [Bc ns,.int (k:Nat)]=some (.int c):=by
 suffices hh:∃c,KJ [.d (Bc ns),.d (.int (k:Nat)),.no,.no]=some (.rt (.int c)) by
  obtain⟨c,h⟩:=hh;exact⟨c,Fo rfl h⟩
 unfold KJ;have e1:∃c0,(Lg (EH (HI fun i j=>decide (i<j)) (nm 1) (AJ Fc (AA (nm 0) AG))) (BM 2 (AI BR (nm 0) (nm 1))) Ih) [.d (Bc ns),.d (.int (k:Nat)),.d (.int 0),.no]=some (.nx [.d (Bc ns),.d (.int (k:Nat)),.d (.int c0),.no]):=by
  have t:EH (HI fun i j=>decide (i<j)) (nm 1) (AJ Fc (AA (nm 0) AG)) [.d (Bc ns),.d (.int (k:Nat)),.d (.int 0),.no]=some (decide ((k:Int)<((ns.map PyData.int).length:Nat))):=E3 (x:=.int (k:Nat)) (y:=.int ((ns.map PyData.int).length:Nat)) rfl rfl rfl;rw [List.length_map]at t;by_cases z:k<ns.length
  ·rw [decide_eq_true (show(k:Int)<(ns.length:Nat) by omega)]at t;exact⟨ns[k],V1 t (B2 (AY (x:=Bc ns) (y:=.int (k:Nat)) rfl rfl (Ea (by rw [List.getElem?_map,List.getElem?_eq_getElem z];rfl))))⟩
  ·rw [decide_eq_false (show ¬(k:Int)<(ns.length:Nat) by omega)]at t;exact⟨0,K8 t rfl⟩
 obtain⟨c0,e1⟩:=e1;have p18:AI L5 (fC (.int 10)) (fC (.int 18)) [.d (Bc ns),.d (.int (k:Nat)),.d (.int c0),.no]=some (.int ((10:Int) ^ 18)):=AY (x:=.int 10) (y:=.int 18) rfl rfl (Xz (n:=18) (by decide) (by decide));have p60:AI L5 (fC (.int 10)) (fC (.int 60)) [.d (Bc ns),.d (.int (k:Nat)),.d (.int c0),.no]=some (.int ((10:Int) ^ 60)):=AY (x:=.int 10) (y:=.int 60) rfl rfl (Xz (n:=60) (by decide) (by decide));have t2:EH (HI fun i j=>decide (j≤i)) (nm 2) (AI L5 (fC (.int 10)) (fC (.int 18))) [.d (Bc ns),.d (.int (k:Nat)),.d (.int c0),.no]=some (decide ((10:Int) ^ 18≤c0)):=E3 (x:=.int c0) (y:=.int ((10:Int) ^ 18)) rfl p18 rfl;by_cases z:(10:Int) ^ 18≤c0
 ·rw [decide_eq_true z]at t2;exact⟨_,BC rfl (BC e1 (eO (V1 t2 (Fi (AY (x:=.int (c0-(10:Int) ^ 18)) (AY (x:=.int c0) rfl p18 rfl) p60 (mod_is (Int.pow_pos (by decide))))))))⟩
 ·rw [decide_eq_false z]at t2;have hn:∀(a:Int) (m:Int),0<m→m<2 ^ 60→(a % m).natAbs<2 ^ 64:=fun a m h0 h1=>by
   have:=Int.emod_nonneg a (by omega:m≠0);have:=Int.emod_lt_of_pos a h0;omega
  generalize hv:(c0*48271+(k:Int)*69621+11) % 2147483629=v;have v1:v.natAbs<2 ^ 64:=by rw [←hv];exact hn _ _ (by decide) (by decide)
  generalize hu:v*v % 2147483587=u;have u1:u.natAbs<2 ^ 64:=by rw [←hu];exact hn _ _ (by decide) (by decide)
  refine⟨_,BC rfl (BC e1 (BC (K8 t2 rfl) (BC (B2 (y:=.int v) ?_) (BC (B2 (y:=.int u) ?_) (Fi (AY (x:=.int (u*2147483563)) (y:=.int (u*u % 2147483563)) (AY (x:=.int u) (y:=.int 2147483563) rfl rfl (mul_r (by decide))) (AY (x:=.int (u*u)) (y:=.int 2147483563) (AY (x:=.int u) (y:=.int u) rfl rfl (mul_r u1)) rfl (mod_is (by decide))) rfl))))))⟩
  ·refine AY (x:=.int (c0*48271+(k:Int)*69621+11)) (y:=.int 2147483629) (AY (x:=.int (c0*48271+(k:Int)*69621)) (y:=.int 11) (AY (x:=.int (c0*48271)) (y:=.int ((k:Int)*69621)) (AY (x:=.int c0) (y:=.int 48271) rfl rfl (mul_r (by decide))) (AY (x:=.int (k:Nat)) (y:=.int 69621) rfl rfl (mul_r (by decide))) rfl) rfl rfl) rfl ((mod_is (by decide)).trans ?_);rw [hv]
  ·refine AY (x:=.int (v*v)) (y:=.int 2147483587) (AY (x:=.int v) (y:=.int v) rfl rfl (mul_r v1)) rfl ((mod_is (by decide)).trans ?_);rw [hu]
theorem XF{α:Type}{i j:Nat}{f:Dv→Option PyData}{fs:Dv→Option (List PyData)}{δ:Dv}{fr:List (Option Nat)}{zs:List α}{a b g:α→PyData}(hx:fs δ=some (zs.map fun z=>.tuple [a z,b z]))(hl:zs.length≤CG)
 (h:∀z∈zs,f (((BW fr δ).set i (.d (a z))).set j (.d (b z)))=some (g z)):CF (Di i j) Dx f fr fs δ=some (zs.map g):=by
 unfold CF;rw [hx,Option.bind_some];have:∀zs:List α,(∀z∈zs,f (((BW fr δ).set i (.d (a z))).set j (.d (b z)))=some (g z))→L2.collect (Eg (Di i j) Dx f (BW fr δ)) (zs.map fun z=>.tuple [a z,b z])=some (zs.map g):=fun zs=>by
  induction zs with
  |nil=>intro _;rfl
  |cons z zs ih =>
   intro h;rw [List.map_cons,List.map_cons];unfold L2.collect;rw [ih fun y hy=>h y (.tail _ hy)];have e:Eg (Di i j) Dx f (BW fr δ) (.tuple [a z,b z])=some (some (g z)):=by
    unfold Eg Di;rw [Option.bind_some];show(some true).bind _=_;rw [Option.bind_some,if_pos rfl,h z (.head _)]
    rfl
   rw [e];rfl
 rw [this zs h,Option.bind_some,GR,if_pos (by rw [List.length_map];exact hl)]
theorem Q4{α:Type}{i:Nat}{f:Dv→Option PyData}{fs:Dv→Option (List PyData)}{δ:Dv}{fr:List (Option Nat)}{zs:List α}{a g:α→PyData}(hx:fs δ=some (zs.map a))(hl:zs.length≤CG)
 (h:∀z∈zs,f ((BW fr δ).set i (.d (a z)))=some (g z)):CF (B0 i) Dx f fr fs δ=some (zs.map g):=by
 unfold CF;rw [hx,Option.bind_some];have:∀zs:List α,(∀z∈zs,f ((BW fr δ).set i (.d (a z)))=some (g z))→L2.collect (Eg (B0 i) Dx f (BW fr δ)) (zs.map a)=some (zs.map g):=fun zs=>by
  induction zs with
  |nil=>intro _;rfl
  |cons z zs ih =>
   intro h;rw [List.map_cons,List.map_cons];unfold L2.collect;rw [ih fun y hy=>h y (.tail _ hy)];have e:Eg (B0 i) Dx f (BW fr δ) (a z)=some (some (g z)):=by
    unfold Eg B0;rw [Option.bind_some];show(some true).bind _=_;rw [Option.bind_some,if_pos rfl,h z (.head _)]
    rfl
   rw [e];rfl
 rw [this zs h,Option.bind_some,GR,if_pos (by rw [List.length_map];exact hl)]
def Bi(m:Int)(c:Nat)(q:Rat):Prop:=∃a:Int,q=Rat.divInt a m∧a.natAbs≤c
theorem Bi.mono{m:Int}{c d:Nat}{q:Rat}(h:Bi m c q)(l:c≤d):Bi m d q:=let⟨a,e,k⟩:=h;⟨a,e,Nat.le_trans k l⟩
theorem Bi.add{m:Int}{c d:Nat}{p q:Rat}(hm:m≠0)(h:Bi m c p)(k:Bi m d q):Bi m (c+d) (p+q):=by
 obtain⟨a,rfl,h1⟩:=h;obtain⟨b,rfl,h2⟩:=k;exact⟨a+b,by rw [Rat.divInt_add_divInt _ _ hm hm,←Int.add_mul,Rat.divInt_mul_right hm],by omega⟩
theorem Bi.mul{m n:Int}{c d:Nat}{p q:Rat}(h:Bi m c p)(k:Bi n d q):Bi (m*n) (c*d) (p*q):=by
 obtain⟨a,rfl,h1⟩:=h;obtain⟨b,rfl,h2⟩:=k;exact⟨a*b,by rw [Rat.divInt_mul_divInt],by rw [Int.natAbs_mul];exact Nat.mul_le_mul h1 h2⟩
theorem Bi.up{m k:Int}{c:Nat}{q:Rat}(hk:k≠0)(h:Bi m c q):Bi (m*k) (c*k.natAbs) q:=by
 obtain⟨a,rfl,h1⟩:=h;exact⟨a*k,by rw [Rat.divInt_mul_right hk],by rw [Int.natAbs_mul];exact Nat.mul_le_mul h1 (aJ _)⟩
theorem Bi.zero{m:Int}{c:Nat}:Bi m c 0:=⟨0,by rw [Rat.zero_divInt],by simp⟩
theorem Bi.fits{m:Int}{c n:Nat}{q:Rat}(hm:m≠0)(h:Bi m c q)(h1:c<2 ^ n)(h2:m.natAbs<2 ^ n):FM.Fits q n:=by
 obtain⟨a,rfl,h3⟩:=h;exact .Xu hm (aV h3 h1) h2
theorem Bi.sum{m:Int}{c:Nat}(hm:m≠0):∀ {l:List Rat} {n:Nat},l.length≤n→(∀q∈l,Bi m c q)→Bi m (n*c) l.sum
 |[],n,_,_=>by rw [List.sum_nil];exact .zero
 |q::l,0,h,_=>by simp at h
 |q::l,n+1,h,k=>by
  rw [List.sum_cons];have:=(k q (.head _)).add hm (Bi.sum hm (l:=l) (n:=n) (by simpa using h) fun x hx=>k x (.tail _ hx));exact this.mono (by rw [Nat.succ_mul];omega)
theorem ei(v:Int):Bi 60 300 (Rat.divInt (v % 11-5) (1+v / 11 % 5)):=by
 have h:v / 11 % 5=0∨v / 11 % 5=1∨v / 11 % 5=2∨v / 11 % 5=3∨v / 11 % 5=4:=by omega
 have go:∀(b k:Int),k≠0→b*k=60→k.natAbs≤60→Bi 60 300 (Rat.divInt (v % 11-5) b):=fun b k hk e hl=>⟨(v % 11-5)*k,by rw [←e,Rat.divInt_mul_right hk],by
  rw [Int.natAbs_mul];have h5:(v % 11-5).natAbs≤5:=by omega
  exact aa (Nat.mul_le_mul h5 hl) (by decide)⟩
 rcases h with h | h | h | h | h<;>rw [h]
 ·exact go _ 60 (by decide) (by decide) (by decide)
 ·exact go _ 30 (by decide) (by decide) (by decide)
 ·exact go _ 20 (by decide) (by decide) (by decide)
 ·exact go _ 15 (by decide) (by decide) (by decide)
 ·exact go _ 12 (by decide) (by decide) (by decide)
theorem iL{i:Nat}{fs:Dv→Option (List PyData)}{δ:Dv}{ys:List PyData}(h:fs δ=some ys)(hl:ys.length≤CG):LH i fs δ=some (.nx (δ.set i (.own (.lst ys)))):=by
 show((fs δ).bind GR).map _=_;rw [h];show(GR ys).map _=_;unfold GR;rw [if_pos hl];rfl
theorem jG(ns:List Int)(a:Nat){n:Nat}(hn:n≤5):∃ws:List Rat,FC Ac L7 [.d (Bc ns),.d (.int (a:Nat)),.d (.int (n:Nat)),.no,.no,.no,.no]=some (.rn (ws.map AH))∧ws.length=BQ n∧∀q∈ws,Bi 60 300 q:=by
 obtain⟨c1,hc1⟩:=QG ns a;obtain⟨c2,hc2⟩:=QG ns (a+1);have k1:∀(l2 l3 l4 l5 l6:L),AJ Ac (AA (nm 0) (AA (nm 1) AG)) [.d (Bc ns),.d (.int (a:Nat)),l2,l3,l4,l5,l6]=some (.int c1):=fun _ _ _ _ _=>Ak (xs:=[Bc ns,.int (a:Nat)]) rfl hc1;have k2:∀(l2 l3 l4 l5 l6:L),AJ Ac (AA (nm 0) (AA (AI Bw (nm 1) (fC (.int 1))) AG)) [.d (Bc ns),.d (.int (a:Nat)),l2,l3,l4,l5,l6]=some (.int c2):=fun _ _ _ _ _=>Ak (xs:=[Bc ns,.int ((a+1:Nat):Int)]) rfl hc2
 let Iv:Nat→Dv→Prop:=fun i δ=>∃(qs:List Rat) (cs:List Int) (l5 l6:L),δ=[.d (Bc ns),.d (.int (a:Nat)),.d (.int (n:Nat)),.own (.lst (qs.map AH)),.own (.lst (cs.map .int)),l5,l6]∧qs.length=i∧cs.length=2∧∀q∈qs,Bi 60 300 q
 have hr:Fs KA (AA (AI BR (D5 (AA (fC (.int 0)) (AA (fC (.int 1)) (AA (fC (.int 2)) (AA (fC (.int 4)) (AA (fC (.int 8)) (AA (fC (.int 17)) (AA (fC (.int 37)) AG)))))))) (nm 2)) AG) [.d (Bc ns),.d (.int (a:Nat)),.d (.int (n:Nat)),.own (.lst []),.own (.lst [.int c1,.int c2]),.no,.no]=some (E6 0 (BQ n)):=by
  have:AI BR (D5 (AA (fC (.int 0)) (AA (fC (.int 1)) (AA (fC (.int 2)) (AA (fC (.int 4)) (AA (fC (.int 8)) (AA (fC (.int 17)) (AA (fC (.int 37)) AG)))))))) (nm 2) [.d (Bc ns),.d (.int (a:Nat)),.d (.int (n:Nat)),.own (.lst []),.own (.lst [.int c1,.int c2]),.no,.no]=some (.int (BQ n:Nat)):=by
   refine AY (x:=.list [.int 0,.int 1,.int 2,.int 4,.int 8,.int 17,.int 37]) (y:=.int (n:Nat)) rfl rfl (Ea ?_);rcases n with _ | _ | _ | _ | _ | _ | n<;>first | rfl | omega
  have h85:BQ n≤85:=by rcases n with _ | _ | _ | _ | _ | _ | n<;>first | decide | omega
  exact(S7 this (by omega) (by omega)).trans (by rw [Int.toNat_natCast])
 have step:∀(i:Nat) (x:PyData) (δ:Dv),(E6 0 (BQ n))[i]? = some x→Iv i δ→∃δ1,FQ 5 x δ=some δ1∧∃δ2,(Ag (BM 6 (YU 4 (AI CA (nm 5) (fC (.int 2)))))
  (Ag (OD 3 (AJ L7 (AA (AI UA (AI CA (nm 6) (fC (.int 11))) (fC (.int 5))) (AA (AI Bw (fC (.int 1)) (AI CA (AI N8 (nm 6) (fC (.int 11))) (fC (.int 5)))) AG))))
  (Ag (QL 4 (AI N8 (nm 6) (fC (.int 55))) (AI CA (nm 5) (fC (.int 2))))
  (Lg (Pa (EH (F6 false) (AI BR (nm 4) (AI CA (nm 5) (fC (.int 2)))) (fC (.int 0))))
   (QL 4 (AI CA (AI DR (AI Bw (AI Bw (AJ Ac (AA (nm 0) (AA (nm 1) AG))) (AJ Ac (AA (nm 0) (AA (AI Bw (nm 1) (fC (.int 1))) AG)))) (AI DR (fC (.int 7919)) (nm 5))) (fC (.int 48271))) (fC (.int 2147483647))) (AI CA (nm 5) (fC (.int 2))))
   Ih)))) δ1=some (.nx δ2)∧Iv (i+1) δ2:=by
  rintro i x δ hx ⟨qs,cs,l5,l6,rfl,hq,hc,hf⟩;obtain⟨rfl,hi⟩:=QF hx;rw [Int.zero_add];have hi85:i<85:=by
   have:BQ n≤85:=by rcases n with _ | _ | _ | _ | _ | _ | n<;>first | decide | omega
   omega
  obtain⟨p,hp⟩:∃p:Nat,(i:Int) % 2=(p:Int):=⟨i % 2,by omega⟩;have p2:p<2:=by omega
  have pc:p<cs.length:=by omega
  have em:∀(l0 l1 l2 l3 l4 l6:L),AI CA (nm 5) (fC (.int 2)) [l0,l1,l2,l3,l4,.d (.int (i:Nat)),l6]=some (.int (p:Nat)):=fun _ _ _ _ _ _=>AY (x:=.int (i:Nat)) (y:=.int 2) rfl rfl ((mod_is (by decide)).trans (by rw [hp]));have eg:(cs.map PyData.int)[p]? = some (.int cs[p]):=by rw [List.getElem?_map,List.getElem?_eq_getElem pc];rfl
  generalize cs[p]=v at eg;have hb:1+v / 11 % 5≠0:=by omega
  refine⟨[.d (Bc ns),.d (.int (a:Nat)),.d (.int (n:Nat)),.own (.lst (qs.map AH)),.own (.lst (cs.map .int)),.d (.int (i:Nat)),l6],rfl,?_⟩;refine Jq (δ':=[.d (Bc ns),.d (.int (a:Nat)),.d (.int (n:Nat)),.own (.lst (qs.map AH)),.own (.lst (cs.map .int)),.d (.int (i:Nat)),.d (.int v)]) (B2 (y:=.int v) ?_) ?_
  ·show(AI CA (nm 5) (fC (.int 2)) _).bind _=_;rw [em];exact Ea eg
  have hd:Rat.divInt (v % 11-5) (1+v / 11 % 5)=Rat.divInt (v % 11-5) (1+v / 11 % 5):=rfl;have fq:Bi 60 300 (Rat.divInt (v % 11-5) (1+v / 11 % 5)):=ei v;refine Jq (δ':=[.d (Bc ns),.d (.int (a:Nat)),.d (.int (n:Nat)),.own (.lst ((qs++[Rat.divInt (v % 11-5) (1+v / 11 % 5)]).map AH)),.own (.lst (cs.map .int)),.d (.int (i:Nat)),.d (.int v)]) ?_ ?_
  ·have e:AJ L7 (AA (AI UA (AI CA (nm 6) (fC (.int 11))) (fC (.int 5))) (AA (AI Bw (fC (.int 1)) (AI CA (AI N8 (nm 6) (fC (.int 11))) (fC (.int 5)))) AG)) [.d (Bc ns),.d (.int (a:Nat)),.d (.int (n:Nat)),.own (.lst (qs.map AH)),.own (.lst (cs.map .int)),.d (.int (i:Nat)),.d (.int v)]=some (AH (Rat.divInt (v % 11-5) (1+v / 11 % 5))):=by
    refine Ak (xs:=[.int (v % 11-5),.int (1+v / 11 % 5)]) (A0 (AY (x:=.int (v % 11)) (y:=.int 5) (AY (x:=.int v) (y:=.int 11) rfl rfl (mod_is (by decide))) rfl rfl) (A0 (AY (x:=.int 1) (y:=.int (v / 11 % 5)) rfl (AY (x:=.int (v / 11)) (y:=.int 5) (AY (x:=.int v) (y:=.int 11) rfl rfl (div_is (by decide) (by decide))) rfl (mod_is (by decide))) rfl) rfl)) (S8 hb ?_);exact aH (show(1+v / 11 % 5).natAbs<2 ^ 4 by omega) (af (by decide) (by decide))
   show(AJ _ _ _).bind _=_;rw [e];show(if(qs.map AH).length<CG then _ else _)=_;rw [if_pos (by rw [List.length_map,hq];unfold CG;omega),List.map_append]
   rfl
  refine Jq (YJ (y:=.int (v / 55)) (p:=p) (AY (x:=.int v) (y:=.int 55) rfl rfl (div_is (by decide) (by decide))) (em _ _ _ _ _ _) (xs:=cs.map .int) rfl (by rw [List.length_map];exact pc)) ?_;have es:(cs.map PyData.int).set p (.int (v / 55))=(cs.set p (v / 55)).map PyData.int:=by rw [List.map_set]
  have done:∀cs':List Int,cs'.length=2→Iv (i+1) [.d (Bc ns),.d (.int (a:Nat)),.d (.int (n:Nat)),.own (.lst ((qs++[Rat.divInt (v % 11-5) (1+v / 11 % 5)]).map AH)),.own (.lst (cs'.map .int)),.d (.int (i:Nat)),.d (.int v)]:=fun cs' h2=>⟨_,cs',_,_,rfl,by rw [List.length_append,hq];rfl,h2,fun q hq'=>by
   rcases ba.mp hq' with h | h
   ·exact hf q h
   ·rw [List.mem_singleton.mp h];exact fq⟩
  show ∃δ2,Lg _ _ _ [.d (Bc ns),.d (.int (a:Nat)),.d (.int (n:Nat)),.own (.lst ((qs++[Rat.divInt (v % 11-5) (1+v / 11 % 5)]).map AH)),.own (.lst ((cs.map PyData.int).set p (.int (v / 55)))),.d (.int (i:Nat)),.d (.int v)]=some (.nx δ2)∧Iv (i+1) δ2;rw [es];have hs2:(cs.set p (v / 55)).length=2:=by rw [List.length_set,hc]
  have et:Pa (EH (F6 false) (AI BR (nm 4) (AI CA (nm 5) (fC (.int 2)))) (fC (.int 0))) [.d (Bc ns),.d (.int (a:Nat)),.d (.int (n:Nat)),.own (.lst ((qs++[Rat.divInt (v % 11-5) (1+v / 11 % 5)]).map AH)),.own (.lst ((cs.set p (v / 55)).map .int)),.d (.int (i:Nat)),.d (.int v)]=some (decide (v / 55=0)):=by
   refine E3 (x:=.int (v / 55)) (y:=.int 0) (AY (x:=.list ((cs.set p (v / 55)).map .int)) (y:=.int (p:Nat)) rfl (em _ _ _ _ _ _) (Ea ?_)) rfl (Ve _ _);rw [List.getElem?_map,List.getElem?_set_self pc];rfl
  by_cases z:v / 55=0
  ·rw [decide_eq_true z]at et;refine⟨_,V1 et (YJ (y:=.int ((c1+c2+7919*(i:Int))*48271 % 2147483647)) (p:=p) ?_ (em _ _ _ _ _ _) (xs:=(cs.set p (v / 55)).map .int) rfl (by rw [List.length_map,hs2];exact p2)),?_⟩
   ·exact AY (x:=.int ((c1+c2+7919*(i:Int))*48271)) (y:=.int 2147483647) (AY (x:=.int (c1+c2+7919*(i:Int))) (y:=.int 48271) (AY (x:=.int (c1+c2)) (y:=.int (7919*(i:Int))) (AY (x:=.int c1) (y:=.int c2) (k1 _ _ _ _ _) (k2 _ _ _ _ _) rfl) (AY (x:=.int 7919) (y:=.int (i:Nat)) rfl rfl (jw (by decide))) rfl) rfl (mul_r (by decide))) rfl (mod_is (by decide))
   ·show Iv (i+1) [.d (Bc ns),.d (.int (a:Nat)),.d (.int (n:Nat)),.own (.lst ((qs++[Rat.divInt (v % 11-5) (1+v / 11 % 5)]).map AH)),.own (.lst (((cs.set p (v / 55)).map PyData.int).set p (.int ((c1+c2+7919*(i:Int))*48271 % 2147483647)))),.d (.int (i:Nat)),.d (.int v)];rw [←List.map_set];exact done _ (by rw [List.length_set,hs2])
  ·rw [decide_eq_false z]at et;exact⟨_,K8 et rfl,done _ hs2⟩
 obtain⟨δ',f1,qs,cs,l5,l6,rfl,hq,_,hf⟩:=Sk Iv hr ⟨[],[c1,c2],_,_,rfl,rfl,rfl,fun q h=>by cases h⟩ step;refine⟨qs,?_,?_,hf⟩
 ·unfold FC;refine BC rfl (BC (δ':=[.d (Bc ns),.d (.int (a:Nat)),.d (.int (n:Nat)),.own (.lst []),.own (.lst [.int c1,.int c2]),.no,.no]) ?_ (BC f1 rfl));exact iL (i:=4) (ys:=[.int c1,.int c2]) (δ:=[.d (Bc ns),.d (.int (a:Nat)),.d (.int (n:Nat)),.own (.lst []),.no,.no,.no]) (A0 (k1 _ _ _ _ _) (A0 (k2 _ _ _ _ _) rfl)) (by show(2:Nat)≤CG;decide)
 ·rw [hq];unfold E6;simp
theorem Zl(ns:List Int)(a:Nat){n:Nat}(hn:n≤5):∃ws:List Rat,Bp Ac L7 [Bc ns,.int (a:Nat),.int (n:Nat)]=some (AV ws)∧Oh Ac L7 [Bc ns,.int (a:Nat),.int (n:Nat)]=some (ws.map AH)∧ws.length=BQ n∧∀q∈ws,Bi 60 300 q :=
 let⟨ws,h,h1,h2⟩:=jG ns a hn
 ⟨ws,VL rfl h,eA rfl h,h1,h2⟩
open Classical in
abbrev JN(p:Int×Int):PyData:=.tuple [.int p.1,.int p.2]
def cA:PyData→Rat
 |.list ds=>(ds.map Mj).sum
 |_=>0
open Classical in
noncomputable def Ob(ds:List PyData):Option PyData:=match ds with
 |[x]=>if ∃ps:List (Int×Int),x=.list (ps.map JN)∧ps.length≤20∧∀p∈ps,1≤p.2∧p.1.natAbs<2 ^ 200∧p.2.natAbs<2 ^ 200 then some (AH (cA x)) else none
 |_=>none
theorem dZ{ps:List (Int×Int)}(h1:ps.length≤20)(h2:∀p∈ps,1≤p.2∧p.1.natAbs<2 ^ 200∧p.2.natAbs<2 ^ 200):Ob [.list (ps.map JN)]=some (AH (ps.map fun p=>Rat.divInt p.1 p.2).sum):=by
 unfold Ob;refine(if_pos ⟨ps,rfl,h1,h2⟩).trans ?_;show some (AH ((ps.map JN).map Mj).sum)=_;rw [List.map_map]
 rfl
theorem j8{G:Hp}{p:Int×Int}{v:V}(h:Du G (JN p) v):∃c,v=.ref c∧G c=some (.tup [.int p.1,.int p.2]):=by
 rw [Du]at h;obtain⟨c,xs,rfl,h1,h2⟩:=h;obtain⟨x,y,rfl,k1,k2⟩:=h2.NZ;rw [Du]at k1 k2;subst k1 k2;exact⟨c,rfl,h1⟩
section
variable{P:Program}{w:World}{K:Fg}{mg:Str→Option Value}{base:Heap}{CX:GQ}{k:Nat}{f:Addr}{fd:FuncData}{ps:List Str}
theorem kU(F:AL P w K mg base CX k f fd ps cR):AL P w K mg base CX k f fd ps (BH Ob) :=
 Io F fun ds x hm G H vs Q E d e kk=>by
  unfold Ob at hm;split at hm
  ·split at hm
   ·rename_i hh;obtain⟨qs,rfl,h1,h2⟩:=hh;cases hm;obtain⟨v,rfl,d1⟩:=d.GX;rw [Du]at d1;obtain⟨a,xs,rfl,n1,n2⟩:=d1;have hl:=n2.len;rw [List.length_map]at hl;have ht:cA (.list (qs.map JN))=(qs.map fun p=>Rat.divInt p.1 p.2).sum:=by
     show((qs.map JN).map Mj).sum=_;rw [List.map_map];rfl
    rw [ht]at kk;refine⟨a,xs,qs,200,rfl,e _ _ n1,hl,by omega,fun j x p hx hp=>?_,h2,by omega,fun l H' e' hl'=>?_⟩
    ·obtain⟨v,k1,k2⟩:=n2.get (i:=j) (d:=JN p) (by rw [List.getElem?_map,hp];rfl);rw [hx]at k1;cases k1;obtain⟨c,r1,r2⟩:=j8 k2;exact⟨c,r1,e _ _ r2⟩
    ·obtain⟨G',m1,m2,m3,m4⟩:=V5 e e' hl' (LL [((qs.map fun p=>Rat.divInt p.1 p.2).sum).num,(((qs.map fun p=>Rat.divInt p.1 p.2).sum).den:Int)]);exact kk _ G' H' m1 m2 m3 e' m4
   ·cases hm
  ·cases hm
end
abbrev tD(t:Tr):PyData:=.tuple (Bq t)
theorem nD:(AF 5).Nodup:=by decide +kernel
def Ah(ws:List Rat)(t:Tr):Rat:=ws.getD ((AF 5).idxOf t) 0
theorem Zu{l m:List Rat}(h:l.Perm m):l.sum=m.sum:=by
 induction h with
 |nil=>rfl
 |cons x _ ih=>rw [List.sum_cons,List.sum_cons,ih]
 |swap x y l=>rw [List.sum_cons,List.sum_cons,List.sum_cons,List.sum_cons,←Rat.add_assoc,←Rat.add_assoc,Rat.add_comm y x]
 |trans _ _ h1 h2=>exact h1.trans h2
theorem da{ws:List Rat}(hw:∀q∈ws,Bi 60 300 q)(t:Tr):Bi 60 300 (Ah ws t):=by
 unfold Ah;rw [List.getD_eq_getElem?_getD];cases h:ws[(AF 5).idxOf t]? with
 |none=>exact .zero
 |some q=>exact hw q (aI h)
theorem Ik(n:Nat):((60:Int) ^ n)≠0:=Int.pow_ne_zero (by decide)
theorem ej{i:Nat}{f:Dv→Option PyData}{δ:Dv}{kvs:List KD}{x:PyData}(h1:od i δ=some kvs)(h2:f (δ.set i (.d (Bo kvs)))=some x)(h3:LO x=true)(h4:alone i δ=true):R7 i f δ=some x:=by
 show(od i δ).bind _=_;rw [h1];show(f _).bind _=_;rw [h2];exact if_pos ⟨h3,h4⟩
theorem gg{i:Nat}{f g:Dv→Option PyData}{δ:Dv}{kvs:List KD}{k:Option Tr}{y:PyData}(h1:f δ=some y)(h2:g δ=some (CC k))(h3:od i δ=some kvs)(h4:J8 kvs k=true)(h5:kvs.length≤500):Z8 i f g δ=some (.nx (δ.set i (.own (.FH (Py kvs k y))))):=by
 show(f δ).bind _=_;rw [h1];show(g δ).bind _=_;rw [h2];show(od i δ).bind _=_;rw [h3];show(keyOf (CC k)).bind _=_;rw [Kv];exact if_pos ⟨h4,h5⟩
theorem Il{i:Nat}{t:Tr}(h:(AF 5)[i]? = some t):(AF 5).idxOf t=i:=by
 have hm:=aI h;have hl:=bH.mpr hm;have h2:(AF 5)[(AF 5).idxOf t]? = some t:=by rw [List.getElem?_eq_getElem hl,List.getElem_idxOf hl]
 exact(List.getElem?_inj hl nD).mp (h2.trans h.symm)
theorem NA{i:Nat}{u:Tr}(hu:u∈AF 5)(h:(AF 5).idxOf u<i):u∈(AF 5).take i:=by
 have hl:=bH.mpr hu;refine aI (i:=(AF 5).idxOf u) ?_;rw [List.getElem?_take_of_lt h,List.getElem?_eq_getElem hl,List.getElem_idxOf hl]
theorem Zb{i:Nat}{t:Tr}(h:(AF 5)[i]? = some t):t ∉ (AF 5).take i:=fun z=>by
 obtain⟨j,hj⟩:=ah.mp z;have hj':j<i:=by have:=(aE.mp hj).1;rw [List.length_take]at this;omega
 rw [List.getElem?_take_of_lt hj']at hj;have:=Il hj;rw [Il h]at this;omega
theorem Lv(n:Nat):∀k,∃us,AF (n+k)=AF n++us
 |0=>⟨[],by rw [List.append_nil];rfl⟩
 |k+1=>by
  obtain⟨us,h⟩:=Lv n k;exact⟨us++TH.tz (n+k),by rw [←List.append_assoc,←h];rfl⟩
theorem HY{n:Nat}(hn:n≤5){i:Nat}{t:Tr}(h:(AF n)[i]? = some t):(AF 5)[i]? = some t:=by
 obtain⟨us,hu⟩:=Lv n (5-n);rw [show n+(5-n)=5 by omega]at hu;rw [hu,List.getElem?_append_left (aE.mp h).1];exact h
theorem WV{ws:List Rat}{i:Nat}{t:Tr}{q:Rat}(h:(AF 5)[i]? = some t)(hq:ws[i]? = some q):Ah ws t=q:=by
 unfold Ah;rw [Il h,List.getD_eq_getElem?_getD,hq];rfl
abbrev N2:MD:=Ax L7
theorem TK{p q:Rat}(hp:FM.Fits p 190)(hq:FM.Fits q 190):N2 [AH p,AH q]=some (AH (p*q)):=by
 refine Fo rfl ?_;unfold PF;refine Fi (Ak (xs:=[.int (p.num*q.num),.int ((p.den:Int)*q.den)]) (A0 (AY (x:=.int p.num) (y:=.int q.num) rfl rfl (Su hp.1 hq.1 (by decide))) (A0 (AY (x:=.int (p.den:Int)) (y:=.int (q.den:Int)) rfl rfl (Su hp.d hq.d (by decide))) rfl)) ?_);refine(S8 (FM.Mk p q) (aH (FM.dd hp hq) (af (by decide) (by decide)))).trans ?_;rw [FM.N5]
abbrev XA:MD:=Dc L7
theorem il{p q:Rat}(hp:FM.Fits p 190)(hq:FM.Fits q 190):XA [AH p,AH q]=some (AH (p+q)):=by
 refine Fo rfl ?_;unfold Oi;refine Fi (Ak (xs:=[.int (p.num*q.den+q.num*p.den),.int ((p.den:Int)*q.den)]) (A0 (AY (x:=.int (p.num*q.den)) (y:=.int (q.num*p.den)) (AY (x:=.int p.num) (y:=.int (q.den:Int)) rfl rfl (Su hp.1 hq.d (by decide))) (AY (x:=.int q.num) (y:=.int (p.den:Int)) rfl rfl (Su hq.1 hp.d (by decide))) rfl) (A0 (AY (x:=.int (p.den:Int)) (y:=.int (q.den:Int)) rfl rfl (Su hp.d hq.d (by decide))) rfl)) ?_);refine(S8 (FM.Mk p q) (aH (FM.dd hp hq) (af (by decide) (by decide)))).trans ?_;rw [FM.jR]
theorem TZ{n:Nat}(hn:n≤5){t:Tr}(h:t∈AF n)(h5:t∈AF 5):E4 (AZ n) (tD t)=some (.int ((AF 5).idxOf t:Nat)):=by
 have hb:(Tr.of (AF n)).bs=AF n:=Tr.Rq _;have hd:(Tr.of (AF n)).deep≤60:=aa ((Tr.Kn 9 _).mpr fun c hc=>by have:=((EB n hn).2 c hc).1;omega) (by decide);show(Ep (Bq (Tr.of (AF n)))).bind _=_;rw [Mm];show(EM (tD t)).bind _=_;rw [Ov];refine(if_pos ⟨by rw [hb];exact h,hd⟩).trans ?_;rw [hb];obtain⟨i,hi⟩:=ah.mp h;have hl:=bH.mpr h;have h2:(AF n)[(AF n).idxOf t]? = some t:=by rw [List.getElem?_eq_getElem hl,List.getElem_idxOf hl]
 rw [Il (HY hn h2)]
def iE(kvs:List KD)(l:L):Prop:=l=.own (.FH kvs)∨l=.d (Bo kvs)
theorem Zq{kvs:List KD}{a b l:L}{r:List L}(h:iE kvs l):Ed 2 (a::b::l::r)=a::b :: .d (Bo kvs)::r:=by
 rcases h with rfl | rfl<;>rfl
theorem Sy{n:Nat}(hn:n≤5){i:Nat}(hi:i≤(AF n).length){u:Tr}(h:u∈(AF 5).take i):u∈AF n:=by
 obtain⟨us,hu⟩:=Lv n (5-n);rw [show n+(5-n)=5 by omega]at hu;rw [hu,List.take_append_of_le_length hi]at h;exact bX h
theorem U0:∀(l:List Rat) (q:Rat),(l++[q]).sum=l.sum+q
 |[],q=>by rw [List.nil_append,List.sum_cons,List.sum_nil,Rat.add_zero,Rat.zero_add]
 |x::l,q=>by rw [List.cons_append,List.sum_cons,List.sum_cons,U0 l q,Rat.add_assoc]
theorem VC{ix:Nat}{f:Dv→Option PyData}{tif:Dv→Option Bool}{fs:Dv→Option (List PyData)}{fr:List (Option Nat)}{xs:List PyData}{δ:Dv}(hx:fs δ=some xs)(h:∀x∈xs,tif ((BW fr δ).set ix (.d x))=some false):CM (B0 ix) tif f fr fs δ=some (.list []):=by
 unfold CM CF;rw [hx,Option.bind_some];have:∀xs:List PyData,(∀x∈xs,tif ((BW fr δ).set ix (.d x))=some false)→L2.collect (Eg (B0 ix) tif f (BW fr δ)) xs=some []:=fun xs=>by
  induction xs with
  |nil=>intro _;rfl
  |cons x xs ih =>
   intro h;unfold L2.collect;rw [ih fun y hy=>h y (.tail _ hy)];have e:Eg (B0 ix) tif f (BW fr δ) x=some none:=by
    unfold Eg B0;rw [Option.bind_some];show(tif _).bind _=_;rw [h x (.head _),Option.bind_some,if_neg (by decide)]
   rw [e];rfl
 rw [this xs h,Option.bind_some]
 rfl
theorem kC(p:Rat):Cz [AH p]=some (.bool true):=by
 refine Fo rfl ?_;unfold Qo;refine BC (K8 (M4 rfl (E3 (x:=.int 2) (y:=.int 2) rfl rfl ?_)) rfl) (Fi (AY (x:=.int 0) (y:=.int 0) (Ak (xs:=[.list []]) (A0 (VC (xs:=[.int p.num,.int (p.den:Int)]) rfl fun x hx=>?_) rfl) rfl) rfl (Ve 0 0)))
 ·exact(ne_self (Ok.int (n:=0)) (by decide))
 ·rcases aM.mp hx with rfl | hx
  ·rfl
  ·rw [List.mem_singleton.mp hx];rfl
theorem VT(ws:List Rat):CD Cz [AV ws,AV ws]=some (.bool true):=by
 refine Fo rfl ?_;unfold Nk;refine BC (K8 (M4 rfl (E3 (x:=.int 0) (y:=.int 0) (Ak (xs:=[.list []]) (A0 (VC (xs:=ws.map AH) rfl fun x hx=>?_) rfl) rfl) rfl rfl)) rfl) (Fi (AY (x:=AV ws) (y:=AV ws) rfl rfl (Zs (cW ws) (by decide))));obtain⟨q,_,rfl⟩:=aT.mp hx;exact P4 (My (Ak (xs:=[AH q]) rfl (kC q)))
abbrev OC:=Option Tr×List Tr
abbrev TC:=Tr×List Tr
abbrev ME(c:OC):PyData:=.tuple [CC c.1,.list (c.2.map tD)]
abbrev bw(c:TC):PyData:=.tuple [tD c.1,.tuple (c.2.map tD)]
def WI:PyData→Option OC
 |.tuple [x,.list ds]=>(keyOf x).bind fun k=>(Ep ds).map fun u=>(k,u.bs)
 |_=>none
def Wk:PyData→Option TC
 |.tuple [x,.tuple ds]=>(EM x).bind fun k=>(Ep ds).map fun u=>(k,u.bs)
 |_=>none
theorem YL(u:Tr):Bq u=u.bs.map tD:=by
 have:=EZ u.bs
 rwa [Tr.O8]at this
theorem kI{d:PyData}{c:OC}(h:WI d=some c):d=ME c:=by
 unfold WI at h;split at h
 ·obtain⟨k,h1,h2⟩:=aB.mp h;obtain⟨u,h3,rfl⟩:=aC.mp h2;rw [JO h1,Hs h3,YL]
 ·cases h
theorem kj{d:PyData}{c:TC}(h:Wk d=some c):d=bw c:=by
 unfold Wk at h;split at h
 ·obtain⟨k,h1,h2⟩:=aB.mp h;obtain⟨u,h3,rfl⟩:=aC.mp h2;rw [Iq h1,Hs h3,YL u]
 ·cases h
def allOf{α:Type}(f:PyData→Option α):List PyData→Option (List α)
 |[]=>some []
 |d::ds=>(f d).bind fun x=>(allOf f ds).map fun r=>x::r
theorem all_eq{α:Type}{f:PyData→Option α}{g:α→PyData}(hf:∀ {d x},f d=some x→d=g x):∀ {ds:List PyData} {xs:List α},allOf f ds=some xs→ds=xs.map g
 |[],xs,h=>by cases h;rfl
 |d::ds,xs,h=>by
  rw [allOf]at h;obtain⟨x,h1,h2⟩:=aB.mp h;obtain⟨r,h3,rfl⟩:=aC.mp h2;rw [hf h1,all_eq hf h3];rfl
abbrev M3:MD:=Cw (BU AQ 9) gT
abbrev Mp:MD:=BK 9
def listOf{α:Type}(f:PyData→Option α)(m:MD)(t:Tr):Option (List α):=match m [tD t]with
 |some (.list ds)=>allOf f ds
 |_=>none
theorem Q6{α:Type}{f:PyData→Option α}{g:α→PyData}(hf:∀ {d x},f d=some x→d=g x){m:MD}{t:Tr}{xs:List α}(h:listOf f m t=some xs):m [tD t]=some (.list (xs.map g)):=by
 unfold listOf at h;split at h
 ·rename_i ds e;rw [e,all_eq hf h]
 ·cases h
def Df(t:Tr):List OC:=(listOf WI M3 t).getD []
def D6(t:Tr):List TC:=(listOf Wk Mp t).getD []
def cI(t:Tr):Bool:=match listOf WI M3 t,listOf Wk Mp t with
 |some as,some bs=>decide (as.length≤17)&&decide (as.head? = some (none,[t]))&&(as.tail.map fun c=>(c.1,Tr.Bb c.2)).isPerm (bs.map fun c=>(some c.1,Tr.Bb c.2))
  && bs.all fun c=>decide (c.1∈AF 5)&&decide ((AF 5).idxOf c.1≤(AF 5).idxOf t)&&(c.2.all fun p=>decide (p∈AF 5)&&decide ((AF 5).idxOf p<(AF 5).idxOf t))&&decide (c.2.length≤4)&&decide (c.1.AU+(c.2.map Tr.AU).sum=t.AU)
 |_,_=>false
theorem eF:(AF 5).all cI=true:=by decide +kernel
structure kP(t:Tr):Prop where
 a:M3 [tD t]=some (.list ((Df t).map ME))
 b:Mp [tD t]=some (.list ((D6 t).map bw))
 len:(Df t).length≤17
 hd:∃as,Df t=(none,[t])::as∧(as.map fun c=>(c.1,Tr.Bb c.2)).Perm ((D6 t).map fun c=>(some c.1,Tr.Bb c.2))
 el:∀c∈D6 t,c.1∈AF 5∧(AF 5).idxOf c.1≤(AF 5).idxOf t∧(∀p∈c.2,p∈AF 5∧(AF 5).idxOf p<(AF 5).idxOf t)∧c.2.length≤4∧c.1.AU+(c.2.map Tr.AU).sum=t.AU
theorem Gi{t:Tr}(ht:t∈AF 5):kP t:=by
 have:=aN.mp eF t ht;unfold cI at this;split at this
 ·rename_i a b e1 e2;have ea:Df t=a:=by unfold Df;rw [e1];rfl
  have eb:D6 t=b:=by unfold D6;rw [e2];rfl
  simp only [Bool.and_eq_true,decide_eq_true_eq,List.all_eq_true]at this;obtain⟨⟨⟨h1,h2⟩,h3⟩,h4⟩:=this;refine⟨by rw [ea];exact Q6 kI e1,by rw [eb];exact Q6 kj e2,by rw [ea];exact h1,?_,fun c hc=>?_⟩
  ·rw [ea,eb];cases a with
   |nil=>simp at h2
   |cons x as =>
    rw [List.head?_cons]at h2;cases h2;exact⟨as,rfl,List.isPerm_iff.mp h3⟩
  ·rw [eb]at hc;obtain⟨⟨⟨⟨k1,k2⟩,k3⟩,k4⟩,k5⟩:=h4 c hc;exact⟨k1,k2,fun p hp=>k3 p hp,k4,k5⟩
 ·cases this
def Dj:List Rat→Rat
 |[]=>1
 |q::l=>q*Dj l
theorem ZN{l m:List Rat}(h:l.Perm m):Dj l=Dj m:=by
 induction h with
 |nil=>rfl
 |cons x _ ih=>rw [Dj,Dj,ih]
 |swap x y l=>rw [Dj,Dj,Dj,Dj,←Rat.mul_assoc,←Rat.mul_assoc,Rat.mul_comm y x]
 |trans _ _ h1 h2=>exact h1.trans h2
theorem Ux:∀(l:List Rat) (q:Rat),Dj (l++[q])=Dj l*q
 |[],q=>by show q*1=1*q;rw [Rat.mul_one,Rat.one_mul]
 |x::l,q=>by rw [List.cons_append,Dj,Dj,Ux l q,Rat.mul_assoc]
def C6(b:List Rat):Option Tr→Rat
 |none=>1
 |some t=>Ah b t
def EV(a b:List Rat)(c:OC):Rat:=C6 b c.1*Dj (c.2.map (Ah a))
def HL(a b:List Rat)(c:TC):Rat:=Ah b c.1*Dj (c.2.map (Ah a))
def Bn(a b:List Rat)(t:Tr):Rat:=((Df t).map (EV a b)).sum
theorem VP(a b:List Rat)(c:OC):EV a b (c.1,Tr.Bb c.2)=EV a b c:=by
 unfold EV;rw [ZN ((Tr.Fb c.2).map (Ah a))]
theorem ZW(a b:List Rat){t:Tr}(ht:t∈AF 5):Ah a t+((D6 t).map (HL a b)).sum=Bn a b t:=by
 obtain⟨as,e,hp⟩:=(Gi ht).hd;unfold Bn;rw [e,List.map_cons,List.sum_cons];have e1:EV a b (none,[t])=Ah a t:=by
  show(1:Rat)*(Ah a t*1)=_;rw [Rat.one_mul,Rat.mul_one]
 have e2:(as.map (EV a b)).sum=((D6 t).map (HL a b)).sum:=by
  have:=Zu (hp.map (EV a b));rw [List.map_map,List.map_map]at this;have f1:as.map (EV a b ∘ fun c=>(c.1,Tr.Bb c.2))=as.map (EV a b):=aX fun c _=>VP a b c;have f2:(D6 t).map (EV a b ∘ fun c=>(some c.1,Tr.Bb c.2))=(D6 t).map (HL a b):=aX fun c _=>VP a b (some c.1,c.2);rw [f1,f2]at this;exact this
 rw [e1,e2]
def JU(p:Int×Int)(q:Rat):Int×Int:=(p.1*q.num,p.2*q.den)
def En(b:Rat)(qs:List Rat):Int×Int:=qs.foldl JU (b.num,(b.den:Int))
theorem Qt:∀(qs:List Rat) (p:Int×Int),Rat.divInt (qs.foldl JU p).1 (qs.foldl JU p).2=Rat.divInt p.1 p.2*Dj qs
 |[],p=>by rw [Dj,Rat.mul_one];rfl
 |q::qs,p=>by
  rw [List.foldl_cons,Qt qs,Dj,←Rat.mul_assoc]
  congr 1
  show Rat.divInt (p.1*q.num) (p.2*q.den)=_
  conv=>rhs;rw [←FM.Dl q,Rat.divInt_mul_divInt]
theorem ZS(b:Rat)(qs:List Rat):Rat.divInt (En b qs).1 (En b qs).2=b*Dj qs:=by
 unfold En;rw [Qt]
 congr 1
 exact FM.Dl b
theorem RS:∀(qs:List Rat) (p:Int×Int),1≤p.2→1≤(qs.foldl JU p).2
 |[],p,h=>h
 |q::qs,p,h=>by
  rw [List.foldl_cons];refine RS qs _ ?_;have h1:0<(q.den:Int):=by have:=q.den_nz;omega
  have:=Int.mul_pos (show 0<p.2 by omega) h1;show 1≤p.2*q.den;omega
theorem UL{n:Nat}:∀(qs:List Rat) (p:Int×Int) (m:Nat),(∀q∈qs,FM.Fits q n)→p.1.natAbs<2 ^ m→p.2.natAbs<2 ^ m→(qs.foldl JU p).1.natAbs<2 ^ (m+n*qs.length)∧(qs.foldl JU p).2.natAbs<2 ^ (m+n*qs.length)
 |[],p,m,_,h1,h2=>⟨h1,h2⟩
 |q::qs,p,m,hq,h1,h2=>by
  have f:=hq q (.head _);have:=UL qs (JU p q) (m+n) (fun x hx=>hq x (.tail _ hx)) (FM.JL h1 f.1) (FM.JL h2 f.d);rw [List.foldl_cons,List.length_cons,show m+n*(qs.length+1)=m+n+n*qs.length by rw [Nat.mul_succ];omega];exact this
def K5:List (Option Tr):=(AF 5).map some++[none]
theorem gX:(K5.all fun k=>(match k with | none=>true | some t=>decide (t.deep<8))&&K5.all fun q=>decide (TH.BA q≠TH.BA k)||decide (q=k))=true:=by decide +kernel
theorem b8{g:Option Tr→PyData}{ks:List (Option Tr)}{k:Option Tr}(h:∀q∈ks,q∈K5)(hk:k∈K5):J8 (ks.map fun k=>(k,g k)) k=true:=by
 have:=aN.mp gX k hk;rw [Bool.and_eq_true]at this;unfold J8;rw [Bool.and_eq_true];refine⟨this.1,List.all_eq_true.mpr fun q hq=>?_⟩;obtain⟨u,hu,rfl⟩:=aT.mp hq;exact aN.mp this.2 u (h u hu)
theorem Rl{g:Option Tr→PyData}{k:Option Tr}:∀ {ks:List (Option Tr)},k∈ks→look (ks.map fun k=>(k,g k)) k=some (g k)
 |u::ks,h=>by
  unfold look;rw [List.map_cons,List.find?_cons];by_cases z:u=k
  ·subst z;simp
  ·rw [show decide ((u,g u).1=k)=false from bE z];exact Rl ((aM.mp h).resolve_left fun e=>z e.symm)
theorem Zi{g:Option Tr→PyData}{k:Option Tr}{ks:List (Option Tr)}(h:k ∉ ks)(y:PyData):Py (ks.map fun k=>(k,g k)) k y=(ks.map fun k=>(k,g k))++[(k,y)]:=by
 unfold Py;have:(ks.map fun k=>(k,g k)).find? (fun q=>decide (q.1=k))=none:=List.find?_eq_none.mpr fun q hq=>by
  obtain⟨u,hu,rfl⟩:=aT.mp hq;have:u≠k:=fun e=>h (e ▸ hu)
  simpa using this
 rw [this];rfl
abbrev C5(b:List Rat)(ks:List (Option Tr)):List KD:=ks.map fun k=>(k,AH (C6 b k))
abbrev Jg(n:Nat):List (Option Tr):=(AF n).map some
theorem fv:∀n,n≤5→W3 (Jg n)=true:=by decide +kernel
theorem Jv{n:Nat}(hn:n≤5){u:Tr}(hu:u∈AF n):u∈AF 5:=by
 obtain⟨k,hk⟩:=ah.mp hu;exact aI (HY hn hk)
theorem Wt{n:Nat}(hn:n≤5):∀q∈Jg n,q∈K5:=fun q hq=>by
 obtain⟨t,ht,rfl⟩:=aT.mp hq;exact bQ _ (av (Jv hn ht))
theorem XB{n:Nat}(hn:n≤5){ws:List Rat}(hl:ws.length=BQ n):(AF n).map (Ah ws)=ws:=by
 have tl:=(EB n hn).1;refine List.ext_getElem? fun i=>?_;rw [List.getElem?_map];by_cases h:i<(AF n).length
 ·have h1:(AF n)[i]? = some (AF n)[i]:=aL h;have h2:ws[i]? = some (ws[i]'(by omega)):=aL _;rw [h1,h2];show some (Ah ws (AF n)[i])=_;rw [WV (HY hn h1) h2]
 ·rw [List.getElem?_eq_none (by omega),List.getElem?_eq_none (by omega)];rfl
theorem LQ{n:Nat}(hn:n≤5):BQ n≤17:=by rcases n with _ | _ | _ | _ | _ | _ | n<;>first | decide | omega
theorem jq{n:Nat}(hn:n≤5){ws:List Rat}(hl:ws.length=BQ n):fW (AZ n) (AV ws)=some (C5 ws (Jg n)):=by
 have tl:=(EB n hn).1;have h17:=LQ hn;have e:Bq (Tr.of (AF n))=(Jg n).map CC:=by rw [EZ,List.map_map];rfl
 show(keysOf (Bq (Tr.of (AF n)))).bind _=_;rw [e,Uz];have lk:(Jg n).length=BQ n:=by rw [List.length_map,tl]
 refine(if_pos ⟨fv n hn,by rw [List.length_map,hl,lk],by omega⟩).trans ?_
 congr 1
 conv=>lhs;rw [←XB hn hl]
 rw [List.map_map,C5,List.map_map,List.zip_map']
 rfl
theorem cF{i j:Int}{m:Nat}(h1:i.natAbs<2 ^ m)(hm:m≤9000)(h2:j.natAbs<2 ^ 190):DR (.int i) (.int j)=some (.int (i*j)):=Ph (by
 unfold J3;rw [Jb (n:=9000) (aH h1 (af (by decide) hm)),Jb (n:=9000) (aH h2 (af (by decide) (by decide)))];simp)
theorem take_snoc{α:Type}{l:List α}{i:Nat}{x:α}(h:l[i]? = some x):l.take (i+1)=l.take i++[x]:=by rw [List.take_succ,h];rfl
theorem ZU{a b:List Rat}{c:OC}{ka kb:List (Option Tr)}(ha:∀q∈ka,q∈K5)(hb:∀q∈kb,q∈K5)(h1:c.1∈kb)(h2:∀p∈c.2,some p∈ka)(wa:∀t,FM.Fits (Ah a t) 190)(wb:FM.Fits (C6 b c.1) 190)(hl:c.2.length≤20) :
  B6 [ME c,Bo (C5 a ka),Bo (C5 b kb)]=some (JN (En (C6 b c.1) (c.2.map (Ah a)))):=by
 refine Fo rfl ?_;unfold NK;have g1:HK (Bo (C5 b kb)) (CC c.1)=some (AH (C6 b c.1)):=QP (b8 hb (hb _ h1)) (Rl h1);have e1:∀(l3 l4 l5:L),AI HK (nm 2) (AI BR (nm 0) (fC (.int 0))) [.d (ME c),.d (Bo (C5 a ka)),.d (Bo (C5 b kb)),l3,l4,l5]=some (AH (C6 b c.1)):=fun _ _ _=>AY (x:=Bo (C5 b kb)) (y:=CC c.1) rfl (AY (x:=ME c) (y:=.int 0) rfl rfl rfl) g1;refine BC (B2 (y:=.int (C6 b c.1).num) (AY (x:=AH (C6 b c.1)) (y:=.int 0) (e1 _ _ _) rfl rfl)) ?_;refine BC (B2 (y:=.int ((C6 b c.1).den:Int)) (AY (x:=AH (C6 b c.1)) (y:=.int 1) (e1 _ _ _) rfl rfl)) ?_;refine JB (xs:=c.2.map tD) (fun i δ=>∃l5,δ=[.d (ME c),.d (Bo (C5 a ka)),.d (Bo (C5 b kb)),.d (.int (En (C6 b c.1) ((c.2.take i).map (Ah a))).1),.d (.int (En (C6 b c.1) ((c.2.take i).map (Ah a))).2),l5]) rfl ⟨.no,rfl⟩ (fun i x δ hx hI=>?_) fun δ' hI=>?_
 ·obtain⟨l5,rfl⟩:=hI;rw [List.getElem?_map]at hx;obtain⟨p,hp,rfl⟩:=aC.mp hx;have hpa:=h2 p (aI hp);have g2:HK (Bo (C5 a ka)) (tD p)=some (AH (Ah a p)):=QP (k:=some p) (b8 ha (ha _ hpa)) (Rl hpa);have e2:∀(l3 l4:L),AI HK (nm 1) (nm 5) [.d (ME c),.d (Bo (C5 a ka)),.d (Bo (C5 b kb)),l3,l4,.d (tD p)]=some (AH (Ah a p)):=fun _ _=>AY (x:=Bo (C5 a ka)) (y:=tD p) rfl rfl g2;have et:(c.2.take (i+1)).map (Ah a)=(c.2.take i).map (Ah a)++[Ah a p]:=by rw [take_snoc hp,List.map_append];rfl
  have bd:=UL ((c.2.take i).map (Ah a)) ((C6 b c.1).num,((C6 b c.1).den:Int)) 190 (fun q hq=>by obtain⟨t,_,rfl⟩:=aT.mp hq;exact wa t) wb.1 wb.d;have hm:190+190*((c.2.take i).map (Ah a)).length≤9000:=by
   rw [List.length_map,List.length_take];have:min i c.2.length≤20:=by omega
   omega
  have es:En (C6 b c.1) ((c.2.take (i+1)).map (Ah a))=JU (En (C6 b c.1) ((c.2.take i).map (Ah a))) (Ah a p):=by
   unfold En;rw [et,List.foldl_append]
   rfl
  refine⟨_,rfl,Jq (B2 (AY (x:=.int (En (C6 b c.1) ((c.2.take i).map (Ah a))).1) (y:=.int (Ah a p).num) rfl (AY (x:=AH (Ah a p)) (y:=.int 0) (e2 _ _) rfl rfl) (cF bd.1 hm (wa p).1))) ?_⟩;refine⟨_,B2 (AY (x:=.int (En (C6 b c.1) ((c.2.take i).map (Ah a))).2) (y:=.int ((Ah a p).den:Int)) rfl (AY (x:=AH (Ah a p)) (y:=.int 1) (e2 _ _) rfl rfl) (cF bd.2 hm (wa p).d)),.d (tD p),?_⟩;rw [es]
  rfl
 ·obtain⟨l5,rfl⟩:=hI;rw [List.length_map,List.take_length]
  rfl
structure V7(a b:List Rat):Prop where
 wa:∀t,FM.Fits (Ah a t) 190
 wb:∀t,FM.Fits (Ah b t) 190
 sh:∀ {t:Tr},t∈AF 5→∀c∈Df t,(En (C6 b c.1) (c.2.map (Ah a))).1.natAbs<2 ^ 200∧(En (C6 b c.1) (c.2.map (Ah a))).2.natAbs<2 ^ 200
 pr:∀ {t:Tr},t∈AF 5→∀c∈D6 t,∀m,FM.Fits (Dj ((c.2.map (Ah a)).take m)) 190
 vb:∀ {t:Tr},t∈AF 5→∀c∈D6 t,FM.Fits (HL a b c) 190
 su:∀ {t:Tr},t∈AF 5→∀m,FM.Fits (Ah a t+(((D6 t).take m).map (HL a b)).sum) 190
theorem Yy:FM.Fits 1 190:=⟨by decide,by decide⟩
theorem fw{a b:List Rat}(F:V7 a b)(k:Option Tr):FM.Fits (C6 b k) 190:=by
 cases k with
 |none=>exact Yy
 |some t=>exact F.wb t
theorem VA{n:Nat}(hn:n≤5){i:Nat}{t:Tr}(hi:(AF n)[i]? = some t):∀c∈Df t,(c.1∈Jg n++[none])∧(∀p∈c.2,p∈AF n)∧c.2.length≤20:=by
 have ht5:=HY hn hi;have hm:=aI ht5;have hin:i<(AF n).length:=(aE.mp hi).1;have T:=Gi hm;obtain⟨as,e,hp⟩:=T.hd;have mem:∀u,u∈AF 5→(AF 5).idxOf u≤(AF 5).idxOf t→u∈AF n:=fun u h1 h2=>by
  rw [Il ht5]at h2;exact Sy hn (Nat.succ_le_of_lt hin) (NA h1 (Nat.lt_succ_of_le h2))
 intro c hc;rw [e]at hc;rcases aM.mp hc with rfl | hc
 ·exact⟨by simp,fun p hp=>by rw [List.mem_singleton.mp hp];exact aI hi,by show(1:Nat)≤20;decide⟩
 ·obtain⟨d,hd,e2⟩:=aT.mp (hp.mem_iff.mp (av hc));obtain⟨k1,k2,k3,k4,_⟩:=T.el d hd;have f1:c.1=some d.1:=(bC Prod.fst e2).symm;have f2:Tr.Bb c.2=Tr.Bb d.2:=(bC Prod.snd e2).symm;have f3:c.2.Perm d.2:=(Tr.Fb c.2).symm.trans (by rw [f2];exact Tr.Fb d.2);refine⟨?_,fun p hp=>?_,by rw [f3.length_eq];omega⟩
  ·rw [f1];exact bQ _ (av (mem _ k1 k2))
  ·obtain⟨q1,q2⟩:=k3 p (f3.mem_iff.mp hp);exact mem p q1 (bK q2)
theorem jt{n:Nat}(hn:n≤5):∀q∈Jg n++[none],q∈K5:=fun q hq=>by
 rcases ba.mp hq with h | h
 ·exact Wt hn q h
 ·rw [List.mem_singleton.mp h];exact aZ _ (.head _)
structure FN(a:List Rat):Prop where
 len:a.length≤17
 w:∀t∈AF 5,Bi (60 ^ t.AU) (2 ^ (12*t.AU)) (Ah a t)
theorem IV{t:Tr}(ht:t∈AF 5):1≤t.AU∧t.AU≤5:=by
 have:=(EB 5 (by decide)).2 t ht;omega
theorem ko{a:List Rat}(hl:a.length≤17){t:Tr}(ht:t ∉ AF 5):Ah a t=0:=by
 have h17:(AF 5).length=17:=(EB 5 (by decide)).1;unfold Ah;rw [List.idxOf_eq_length ht,h17,List.getD_eq_getElem?_getD,List.getElem?_eq_none hl]
 rfl
theorem WN{k:Nat}(h1:1≤k){q:Rat}(h:Bi (60 ^ k) (2 ^ (12*k)) q):FM.Fits q (13*k):=by
 refine h.fits (Ik _) (Nat.pow_lt_pow_right (by decide) (by omega)) ?_;rw [Int.natAbs_pow];have:Int.natAbs 60 ^ k≤(2 ^ 12) ^ k:=Nat.pow_le_pow_left (by decide) _;rw [←Nat.pow_mul]at this;exact aV this (Nat.pow_lt_pow_right (by decide) (by omega))
theorem YB(n:Nat):FM.Fits 0 (n+1):=by
 refine(Bi.zero (m:=1) (c:=0)).fits (by decide) ?_ ?_
 ·exact Nat.pow_pos (by decide)
 ·exact Nat.one_lt_two_pow (by omega)
theorem FN.f{a:List Rat}(h:FN a){t:Tr}(ht:t∈AF 5):FM.Fits (Ah a t) (13*t.AU):=WN (IV ht).1 (h.w t ht)
theorem FN.WE{a:List Rat}(h:FN a)(t:Tr):FM.Fits (Ah a t) 190:=by
 by_cases ht:t∈AF 5
 ·exact(h.f ht).mono (by have:=IV ht;omega)
 ·rw [ko h.len ht];exact YB 189
def Sx:Option Tr→Nat
 |none=>0
 |some t=>t.AU
theorem gJ:((AF 5).all fun t=>((Df t).all fun c=>decide (Sx c.1+(c.2.map Tr.AU).sum=t.AU)&&(c.2.all fun p=>decide (p∈AF 5))&&(match c.1 with | none=>true | some u=>decide (u∈AF 5))))=true:=by decide +kernel
theorem Zv{t:Tr}(ht:t∈AF 5){c:OC}(hc:c∈Df t):Sx c.1+(c.2.map Tr.AU).sum=t.AU∧(∀p∈c.2,p∈AF 5)∧∀u,c.1=some u→u∈AF 5:=by
 have:=aN.mp (aN.mp gJ t ht) c hc;rw [Bool.and_eq_true,Bool.and_eq_true]at this;obtain⟨⟨h1,h2⟩,h3⟩:=this;refine⟨aP h1,fun p hp=>aP (aN.mp h2 p hp),fun u hu=>?_⟩;rw [hu]at h3;exact aP h3
theorem Vp{a:List Rat}(ha:FN a):∀(ps:List Tr) (p:Int×Int) (m:Nat),(∀u∈ps,u∈AF 5)→p.1.natAbs<2 ^ m→p.2.natAbs<2 ^ m→((ps.map (Ah a)).foldl JU p).1.natAbs<2 ^ (m+13*(ps.map Tr.AU).sum)∧((ps.map (Ah a)).foldl JU p).2.natAbs<2 ^ (m+13*(ps.map Tr.AU).sum)
 |[],p,m,_,h1,h2=>⟨h1,h2⟩
 |u::ps,p,m,hu,h1,h2=>by
  have f:=ha.f (hu u (.head _));have:=Vp ha ps (JU p (Ah a u)) (m+13*u.AU) (fun x hx=>hu x (.tail _ hx)) (FM.JL h1 f.1) (FM.JL h2 f.d);rw [List.map_cons,List.map_cons,List.foldl_cons,List.sum_cons,show m+13*(u.AU+(ps.map Tr.AU).sum)=m+13*u.AU+13*(ps.map Tr.AU).sum by omega];exact this
theorem Ry{a:List Rat}(ha:FN a):∀(ps:List Tr),(∀u∈ps,u∈AF 5)→Bi (60 ^ (ps.map Tr.AU).sum) (2 ^ (12*(ps.map Tr.AU).sum)) (Dj (ps.map (Ah a)))
 |[],_=>⟨1,by kernel_rfl,by decide⟩
 |u::ps,hu=>by
  have:=(ha.w u (hu u (.head _))).mul (Ry ha ps fun x hx=>hu x (.tail _ hx));rw [List.map_cons,List.map_cons,List.sum_cons,Dj,Nat.mul_add,Nat.pow_add,Int.pow_add];exact this
theorem UE:∀(l:List Nat) (m:Nat),(l.take m).sum≤l.sum
 |[],m=>by simp
 |x::l,0=>by simp
 |x::l,m+1=>by
  rw [List.take_succ_cons,List.sum_cons,List.sum_cons];exact Nat.add_le_add_left (UE l m) _
theorem la{t:Tr}(ht:t∈AF 5):(D6 t).length≤16:=by
 obtain⟨as,e,hp⟩:=(Gi ht).hd;have h1:=(Gi ht).len;have h2:=hp.length_eq;rw [List.length_map,List.length_map]at h2;rw [e,List.length_cons]at h1;omega
theorem fP{a b:List Rat}(ha:FN a)(hb:FN b){t:Tr}(ht:t∈AF 5){c:TC}(hc:c∈D6 t):Bi (60 ^ t.AU) (2 ^ (12*t.AU)) (HL a b c):=by
 obtain⟨k1,_,k3,_,k5⟩:=(Gi ht).el c hc;have:=(hb.w c.1 k1).mul (Ry ha c.2 fun u hu=>(k3 u hu).1);rw [←Int.pow_add,←Nat.pow_add,←Nat.mul_add,k5]at this;exact this
theorem WR{a b:List Rat}(ha:FN a)(hb:FN b):V7 a b where
 wa:=ha.WE
 wb:=hb.WE
 sh:=fun {t} ht c hc=>by
  obtain⟨h1,h2,h3⟩:=Zv ht hc;have hk:=IV ht;have hb1:FM.Fits (C6 b c.1) (13*Sx c.1+1):=by
   cases e:c.1 with
   |none=>exact show FM.Fits 1 1 from⟨by decide,by decide⟩
   |some u=>exact(hb.f (h3 u e)).mono (Nat.le_succ _)
  have:=Vp ha c.2 ((C6 b c.1).num,((C6 b c.1).den:Int)) (13*Sx c.1+1) h2 hb1.1 hb1.d;have h4:2 ^ (13*Sx c.1+1+13*(c.2.map Tr.AU).sum)≤2 ^ 200:=af (by decide) (by omega);exact⟨aH this.1 h4,Nat.lt_of_lt_of_le this.2 h4⟩
 pr:=fun {t} ht c hc m=>by
  obtain⟨k1,_,k3,_,k5⟩:=(Gi ht).el c hc;have hk:=IV ht;have hs:=UE (c.2.map Tr.AU) m;rw [←List.map_take]at hs;have:=Ry ha (c.2.take m) fun u hu=>(k3 u (bX hu)).1;rw [show(c.2.map (Ah a)).take m=(c.2.take m).map (Ah a) from List.map_take.symm];by_cases z:((c.2.take m).map Tr.AU).sum=0
  ·rw [z]at this;exact this.fits (by decide) (by decide) (by decide)
  ·exact(WN (by omega) this).mono (by omega)
 vb:=fun {t} ht c hc=>(WN (IV ht).1 (fP ha hb ht hc)).mono (by have:=IV ht;omega)
 su:=fun {t} ht m=>by
  have h1:Bi (60 ^ t.AU) (16*2 ^ (12*t.AU)) (((D6 t).take m).map (HL a b)).sum:=Bi.sum (Ik _) (by rw [List.length_map,List.length_take];have:=la ht;omega) fun q hq=>by
   obtain⟨c,hc,rfl⟩:=aT.mp hq;exact fP ha hb ht (bX hc)
  have hk:=IV ht;refine((ha.w t ht).add (Ik _) h1).fits (Ik _) ?_ ?_
  ·have:2 ^ (12*t.AU)≤2 ^ 60:=af (by decide) (by omega);have h2:2 ^ (12*t.AU)+16*2 ^ (12*t.AU)≤17*2 ^ 60:=by omega
   exact aV h2 (by decide)
  ·rw [Int.natAbs_pow];exact aV (af (by decide) hk.2) (by decide)
theorem jv{a b:List Rat}(ha:FN a)(hb:FN b){t:Tr}(ht:t∈AF 5){c:OC}(hc:c∈Df t):Bi (60 ^ t.AU) (2 ^ (12*t.AU)) (EV a b c):=by
 obtain⟨h1,h2,h3⟩:=Zv ht hc;have hb1:Bi (60 ^ Sx c.1) (2 ^ (12*Sx c.1)) (C6 b c.1):=by
  cases e:c.1 with
  |none=>exact⟨1,by kernel_rfl,by decide⟩
  |some u=>exact hb.w u (h3 u e)
 have:=hb1.mul (Ry ha c.2 h2);rw [←Int.pow_add,←Nat.pow_add,←Nat.mul_add,h1]at this;exact this
theorem Zx{a b:List Rat}(ha:FN a)(hb:FN b){t:Tr}(ht:t∈AF 5){l:List OC}(hl:l.length≤17)(h:∀c∈l,c∈Df t):FM.Fits (l.map (EV a b)).sum 190:=by
 have hk:=IV ht;refine(Bi.sum (m:=60 ^ t.AU) (c:=2 ^ (12*t.AU)) (n:=17) (Ik _) (by rw [List.length_map];exact hl) fun q hq=>?_).fits (Ik _) ?_ ?_
 ·obtain⟨c,hc,rfl⟩:=aT.mp hq;exact jv ha hb ht (h c hc)
 ·have:2 ^ (12*t.AU)≤2 ^ 60:=af (by decide) (by omega);have h2:17*2 ^ (12*t.AU)≤17*2 ^ 60:=by omega
  exact aV h2 (by decide)
 ·rw [Int.natAbs_pow];exact aV (af (by decide) hk.2) (by decide)
abbrev Mon:=List Nat
abbrev Cg:=List (Mon×Int)
def Dm(x:Nat→Rat):Mon→Rat
 |[]=>1
 |i::m=>x i*Dm x m
def BP(x:Nat→Rat):Cg→Rat
 |[]=>0
 |t::p=>(t.2:Rat)*Dm x t.1+BP x p
def QU(a:Nat):Mon→Mon
 |[]=>[a]
 |b::m=>if a≤b then a::b::m else b::QU a m
theorem Vq(x:Nat→Rat)(a:Nat):∀m:Mon,Dm x (QU a m)=x a*Dm x m
 |[]=>rfl
 |b::m=>by
  unfold QU;split
  ·rfl
  ·show x b*Dm x (QU a m)=x a*(x b*Dm x m);rw [Vq x a m,←Rat.mul_assoc,←Rat.mul_assoc,Rat.mul_comm (x b)]
def mulM:Mon→Mon→Mon
 |[],n=>n
 |a::m,n=>QU a (mulM m n)
theorem VY(x:Nat→Rat):∀m n:Mon,Dm x (mulM m n)=Dm x m*Dm x n
 |[],n=>by show Dm x n=1*Dm x n;rw [Rat.one_mul]
 |a::m,n=>by
  show Dm x (QU a (mulM m n))=x a*Dm x m*Dm x n;rw [Vq,VY x m n,Rat.mul_assoc]
def K3(m:Mon)(c:Int):Cg→Cg
 |[]=>if c=0 then [] else [(m,c)]
 |(n,d)::p=>if m=n then(if c+d=0 then p else(n,c+d)::p) else(n,d)::K3 m c p
theorem US:((0:Int):Rat)=0:=rfl
theorem eI(a b:Int):((a+b:Int):Rat)=(a:Rat)+(b:Rat):=Rat.intCast_add a b
theorem eN(a b:Int):((a*b:Int):Rat)=(a:Rat)*(b:Rat):=Rat.intCast_mul a b
theorem N9(x:Nat→Rat)(m:Mon)(c:Int):∀p:Cg,BP x (K3 m c p)=(c:Rat)*Dm x m+BP x p
 |[]=>by
  unfold K3;split
  ·rename_i e;subst e;show(0:Rat)=((0:Int):Rat)*_+0;rw [US,Rat.zero_mul,Rat.add_zero]
  ·rfl
 |(n,d)::p=>by
  unfold K3;split
  ·rename_i e;subst e;have h:(c:Rat)*Dm x m+BP x ((m,d)::p)=((c+d:Int):Rat)*Dm x m+BP x p:=by
    show(c:Rat)*Dm x m+((d:Rat)*Dm x m+BP x p)=_;rw [←Rat.add_assoc,←Rat.add_mul,eI]
   rw [h];split
   ·rename_i e;rw [e,US,Rat.zero_mul,Rat.zero_add]
   ·rfl
  ·show(d:Rat)*Dm x n+BP x (K3 m c p)=_;rw [N9 x m c p];show _=(c:Rat)*Dm x m+((d:Rat)*Dm x n+BP x p);rw [←Rat.add_assoc,←Rat.add_assoc,Rat.add_comm (_*_) (_*_)]
def HU:Cg→Cg→Cg
 |[],q=>q
 |t::p,q=>K3 t.1 t.2 (HU p q)
theorem Mn(x:Nat→Rat):∀p q:Cg,BP x (HU p q)=BP x p+BP x q
 |[],q=>by show BP x q=0+_;rw [Rat.zero_add]
 |t::p,q=>by
  show BP x (K3 t.1 t.2 (HU p q))=(t.2:Rat)*Dm x t.1+BP x p+BP x q;rw [N9,Mn x p q,Rat.add_assoc]
def Oa(m:Mon)(c:Int):Cg→Cg
 |[]=>[]
 |t::p=>K3 (mulM m t.1) (c*t.2) (Oa m c p)
theorem Ka(x:Nat→Rat)(m:Mon)(c:Int):∀p:Cg,BP x (Oa m c p)=(c:Rat)*Dm x m*BP x p
 |[]=>by show(0:Rat)=_*0;rw [Rat.mul_zero]
 |t::p=>by
  show BP x (K3 (mulM m t.1) (c*t.2) (Oa m c p))=_;rw [N9,Ka x m c p,VY,eN];show _=(c:Rat)*Dm x m*((t.2:Rat)*Dm x t.1+BP x p);rw [Rat.mul_add]
  congr 1
  rw [Rat.mul_assoc,Rat.mul_assoc,←Rat.mul_assoc (t.2:Rat),Rat.mul_comm (t.2:Rat) (Dm x m),Rat.mul_assoc]
def Jk:Cg→Cg→Cg
 |[],_=>[]
 |t::p,q=>HU (Oa t.1 t.2 q) (Jk p q)
theorem QX(x:Nat→Rat):∀p q:Cg,BP x (Jk p q)=BP x p*BP x q
 |[],q=>by show(0:Rat)=0*_;rw [Rat.zero_mul]
 |t::p,q=>by
  show BP x (HU (Oa t.1 t.2 q) (Jk p q))=((t.2:Rat)*Dm x t.1+BP x p)*BP x q;rw [Mn,Ka,QX x p q,Rat.add_mul]
def WM(p:Cg):Cg:=Oa [] (-1) p
theorem eY(x:Nat→Rat)(p:Cg):BP x (WM p)=- BP x p:=by
 unfold WM;rw [Ka];show((-1:Int):Rat)*1*BP x p=_;rw [Rat.mul_one,show((-1:Int):Rat)=-1 from rfl,Rat.neg_mul,Rat.one_mul]
def Mo:List Cg→Cg
 |[]=>[([],1)]
 |p::l=>Jk p (Mo l)
theorem TN(x:Nat→Rat):∀l:List Cg,BP x (Mo l)=Dj (l.map (BP x))
 |[]=>by show((1:Int):Rat)*1+0=1;rw [Rat.mul_one,Rat.add_zero];rfl
 |p::l=>by
  show BP x (Jk p (Mo l))=BP x p*Dj (l.map (BP x));rw [QX,TN x l]
def TM:List Cg→Cg
 |[]=>[]
 |p::l=>HU p (TM l)
theorem Vj(x:Nat→Rat):∀l:List Cg,BP x (TM l)=(l.map (BP x)).sum
 |[]=>rfl
 |p::l=>by
  show BP x (HU p (TM l))=_;rw [Mn,Vj x l,List.map_cons,List.sum_cons]
abbrev Ps:=List Cg
def D0(A:Ps)(t:Tr):Cg:=A.getD ((AF 5).idxOf t) []
def bP(B:Ps):Option Tr→Cg
 |none=>[([],1)]
 |some t=>D0 B t
def Mt(A B:Ps)(t:Tr):Cg:=TM ((Df t).map fun c=>Jk (bP B c.1) (Mo (c.2.map (D0 A))))
def Tb(n:Nat)(x:Nat→Rat)(A:Ps)(a:List Rat):Prop:=∀t∈AF n,Ah a t=BP x (D0 A t)
theorem Tb.b{n:Nat}{x:Nat→Rat}{B:Ps}{b:List Rat}(h:Tb n x B b){k:Option Tr}(hk:k∈Jg n++[none]):C6 b k=BP x (bP B k):=by
 cases k with
 |none=>show(1:Rat)=((1:Int):Rat)*1+0;rw [Rat.mul_one,Rat.add_zero];rfl
 |some t =>
  refine h t ?_;rcases ba.mp hk with z | z
  ·obtain⟨u,hu,e⟩:=aT.mp z;cases e;exact hu
  ·simp at z
theorem QT{n:Nat}(hn:n≤5){x:Nat→Rat}{A B:Ps}{a b:List Rat}(ha:Tb n x A a)(hb:Tb n x B b){t:Tr}(ht:t∈AF n):Bn a b t=BP x (Mt A B t):=by
 obtain⟨i,hi⟩:=ah.mp ht;unfold Bn Mt;rw [Vj,List.map_map]
 congr 1
 refine aX fun c hc=>?_;obtain⟨k1,k2,_⟩:=VA hn hi c hc;show C6 b c.1*Dj (c.2.map (Ah a))=BP x (Jk (bP B c.1) (Mo (c.2.map (D0 A))));rw [QX,TN,←hb.b k1,List.map_map]
 congr 2
 exact aX fun p hp=>ha p (k2 p hp)
def Ba:Ps:=(List.range 17).map fun i=>[([i],1)]
theorem Vo(n:Nat){ws:List Rat}(hl:ws.length≤17):Tb n (fun i=>ws.getD i 0) Ba ws:=fun t _=>by
 unfold Ah D0 Ba;by_cases h:(AF 5).idxOf t<17
 ·rw [List.getD_eq_getElem?_getD (l:=List.map _ _),List.getElem?_map,List.getElem?_range h];show _=((1:Int):Rat)*(ws.getD ((AF 5).idxOf t) 0*1)+0;rw [Rat.add_zero,Rat.mul_one,show((1:Int):Rat)=1 from rfl,Rat.one_mul]
 ·rw [List.getD_eq_getElem?_getD (l:=List.map _ _),List.getElem?_eq_none (by rw [List.length_map,List.length_range];omega),List.getD_eq_getElem?_getD,List.getElem?_eq_none (by omega)]
  rfl
def Am(n:Nat)(x:Nat→Rat)(A:Ps):List Rat:=(AF n).map fun t=>BP x (D0 A t)
theorem Mi{n:Nat}(hn:n≤5)(x:Nat→Rat)(A:Ps):Tb n x A (Am n x A):=fun t ht=>by
 obtain⟨i,hi⟩:=ah.mp ht;refine WV (HY hn hi) ?_;unfold Am;rw [List.getElem?_map,hi]
 rfl
theorem Wg{n:Nat}(hn:n≤5)(x:Nat→Rat)(A:Ps):(Am n x A).length=BQ n:=by unfold Am;rw [List.length_map,(EB n hn).1]
theorem RI{x:Nat→Rat}(hx:∀i,Bi 60 300 (x i)):∀m:Mon,Bi (60 ^ m.length) (300 ^ m.length) (Dm x m)
 |[]=>⟨1,by kernel_rfl,by decide⟩
 |i::m=>by
  have:=(hx i).mul (RI hx m);rw [Dm,List.length_cons,Nat.pow_succ',Int.pow_succ'];exact this
def Rm(p:Cg):Nat:=(p.map fun t=>t.2.natAbs).sum
theorem RL{x:Nat→Rat}(hx:∀i,Bi 60 300 (x i)){k:Nat}:∀ {p:Cg},(∀t∈p,t.1.length≤k)→Bi (60 ^ k) (Rm p*300 ^ k) (BP x p)
 |[],_=>.zero
 |t::p,h=>by
  have h1:=h t (.head _);have e1:=(RI hx t.1).up (k:=60 ^ (k-t.1.length)) (Ik _);rw [←Int.pow_add,show t.1.length+(k-t.1.length)=k by omega,Int.natAbs_pow]at e1;have e2:Bi (60 ^ k) (300 ^ k) (Dm x t.1):=e1.mono (by
   have:300 ^ t.1.length*Int.natAbs 60 ^ (k-t.1.length)≤300 ^ t.1.length*300 ^ (k-t.1.length):=Nat.mul_le_mul (aJ _) (Nat.pow_le_pow_left (by decide) _)
   rwa [←Nat.pow_add,show t.1.length+(k-t.1.length)=k by omega]at this)
  have e3:Bi 1 t.2.natAbs (t.2:Rat):=⟨t.2,(FM.Dl (t.2:Rat)).symm,Nat.le_refl _⟩;have e4:=e3.mul e2;rw [Int.one_mul]at e4;have:=e4.add (Ik _) (RL hx (p:=p) fun u hu=>h u (.tail _ hu));show Bi (60 ^ k) (Rm (t::p)*300 ^ k) ((t.2:Rat)*Dm x t.1+BP x p);refine this.mono (Nat.le_of_eq ?_);unfold Rm;rw [List.map_cons,List.sum_cons,Nat.add_mul]
def M8(p:Cg)(k:Nat):Bool:=(p.all fun t=>decide (t.1.length≤k))&&decide (Rm p*300 ^ k≤2 ^ (12*k))
theorem XI{x:Nat→Rat}(hx:∀i,Bi 60 300 (x i)){p:Cg}{k:Nat}(h:M8 p k=true):Bi (60 ^ k) (2 ^ (12*k)) (BP x p):=by
 unfold M8 at h;rw [Bool.and_eq_true]at h;exact(RL hx fun t ht=>aP (aN.mp h.1 t ht)).mono (aP h.2)
theorem Vn{ws:List Rat}(hw:∀q∈ws,Bi 60 300 q)(i:Nat):Bi 60 300 (ws.getD i 0):=by
 rw [List.getD_eq_getElem?_getD];cases h:ws[i]? with
 |none=>exact .zero
 |some q=>exact hw q (aI h)
def kJ(U:Ps)(t:Tr):Cg:=WM (TM (((Df t).filter fun c=>decide (c.1≠some t)).map fun c=>Jk (bP U c.1) (Mo (c.2.map (D0 Ba)))))
def BN:Ps:=(AF 5).foldl (fun U t=>U++[kJ U t]) []
theorem kM:((AF 5).all fun t=>decide (Mt Ba BN t=[]))=true:=by decide +kernel
theorem jh:((AF 5).all fun t=>decide (Mt BN Ba t=[]))=true:=by decide +kernel
theorem iO:((AF 5).all fun t=>M8 (D0 BN t) t.AU&&M8 (D0 Ba t) t.AU)=true:=by decide +kernel
theorem jH{n:Nat}(hn:n≤5){x:Nat→Rat}(hx:∀i,Bi 60 300 (x i)){A:Ps}(h:∀t∈AF 5,M8 (D0 A t) t.AU=true):FN (Am n x A):=by
 have hl:=Wg hn x A;have h17:=LQ hn;refine⟨by omega,fun t ht=>?_⟩;by_cases z:t∈AF n
 ·rw [Mi hn x A t z];exact XI hx (h t ht)
 ·have:Ah (Am n x A) t=0:=by
   unfold Ah;have hlu:=bH.mpr ht;have e:(AF 5)[(AF 5).idxOf t]? = some t:=by rw [List.getElem?_eq_getElem hlu,List.getElem_idxOf hlu]
   rw [List.getD_eq_getElem?_getD,List.getElem?_eq_none]
   ·rfl
   ·rw [hl,←(EB n hn).1];refine Nat.le_of_not_lt fun y=>z ?_;exact Sy hn (aJ _) (NA ht y)
  rw [this];exact .zero
theorem kR{ws:List Rat}(hl:ws.length≤17)(hw:∀q∈ws,Bi 60 300 q):FN ws:=⟨hl,fun t ht=>by
 have hk:=IV ht;have:=(da hw t).up (k:=60 ^ (t.AU-1)) (Ik _);rw [←Int.pow_succ',show t.AU-1+1=t.AU by omega]at this;refine this.mono ?_;rw [Int.natAbs_pow];have h1:300*Int.natAbs 60 ^ (t.AU-1)≤2 ^ 12*(2 ^ 12) ^ (t.AU-1):=Nat.mul_le_mul (by decide) (Nat.pow_le_pow_left (by decide) _)
 rwa [←Nat.pow_succ',show(t.AU-1).succ=t.AU by omega,←Nat.pow_mul]at h1⟩
def W8(n:Nat)(ws:List Rat):List Rat:=Am n (fun i=>ws.getD i 0) BN
structure fh(n:Nat)(ws us:List Rat):Prop where
 len:us.length=BQ n
 sw:FN ws
 su:FN us
 l:∀t∈AF n,Bn ws us t=0
 r:∀t∈AF n,Bn us ws t=0
theorem fL{n:Nat}(hn:n≤5){ws:List Rat}(hl:ws.length=BQ n)(hw:∀q∈ws,Bi 60 300 q):fh n ws (W8 n ws):=by
 have h17:=LQ hn;have w1:=Vo n (ws:=ws) (by omega);have w2:=Mi hn (fun i=>ws.getD i 0) BN;refine⟨Wg hn _ _,kR (by omega) hw,jH hn (Vn hw) fun t ht=>?_,fun t ht=>?_,fun t ht=>?_⟩
 ·have:=aN.mp iO t ht;rw [Bool.and_eq_true]at this;exact this.1
 ·rw [show Bn ws (W8 n ws) t=_ from QT hn w1 w2 ht,of_decide_eq_true (aN.mp kM t (Jv hn ht))]
  rfl
 ·rw [show Bn (W8 n ws) ws t=_ from QT hn w2 w1 ht,of_decide_eq_true (aN.mp jh t (Jv hn ht))]
  rfl
theorem fH{n:Nat}(hn:n≤5){x:Nat→Rat}{A:Ps}{a:List Rat}(hl:a.length=BQ n)(h:Tb n x A a):Am n x A=a:=by
 rw [←XB hn hl];exact aX fun t ht=>(h t ht).symm
def Zt(f:Tr→Cg):Ps:=(AF 5).map f
theorem Yj(f:Tr→Cg){t:Tr}(ht:t∈AF 5):D0 (Zt f) t=f t:=by
 unfold D0 Zt;have hlu:=bH.mpr ht;rw [List.getD_eq_getElem?_getD,List.getElem?_map,List.getElem?_eq_getElem hlu,List.getElem_idxOf hlu]
 rfl
def ja(p q:Cg):Bool:=decide (HU p (WM q)=[])
theorem kd{p q:Cg}(h:ja p q=true)(x:Nat→Rat):BP x p=BP x q:=by
 have e:=bC (BP x) (aP h);rw [Mn,eY]at e;have e:BP x p + - BP x q=0:=e;rw [←Rat.sub_eq_add_neg]at e;have:=bC (fun r=>r+BP x q) e
 simpa [Rat.sub_add_cancel,Rat.zero_add]using this
theorem mn{n:Nat}(hn:n≤5){A B:Ps}(h:((AF 5).all fun t=>ja (D0 A t) (D0 B t))=true)(x:Nat→Rat):Am n x A=Am n x B :=
 aX fun t ht=>kd (aN.mp h t (Jv hn ht)) x
theorem fX{n:Nat}(hn:n≤5){A B:Ps}(h:((AF 5).all fun t=>decide (Mt A B t=[]))=true)(x:Nat→Rat):∀t∈AF n,Bn (Am n x A) (Am n x B) t=0:=fun t ht=>by
 rw [QT hn (Mi hn x A) (Mi hn x B) ht,of_decide_eq_true (aN.mp h t (Jv hn ht))]
 rfl
theorem Tt{α:Type}{i:Nat}{f:Dv→Option PyData}{tif:Dv→Option Bool}{fs:Dv→Option (List PyData)}{δ:Dv}{fr:List (Option Nat)}{zs:List α}{a g:α→PyData}{p:α→Bool}(hx:fs δ=some (zs.map a))(hl:zs.length≤CG)
 (ht:∀z∈zs,tif ((BW fr δ).set i (.d (a z)))=some (p z))(h:∀z∈zs,p z=true→f ((BW fr δ).set i (.d (a z)))=some (g z)):CF (B0 i) tif f fr fs δ=some ((zs.filter p).map g):=by
 unfold CF;rw [hx,Option.bind_some];have:∀zs:List α,(∀z∈zs,tif ((BW fr δ).set i (.d (a z)))=some (p z))→(∀z∈zs,p z=true→f ((BW fr δ).set i (.d (a z)))=some (g z))→L2.collect (Eg (B0 i) tif f (BW fr δ)) (zs.map a)=some ((zs.filter p).map g):=fun zs=>by
  induction zs with
  |nil=>intro _ _;rfl
  |cons z zs ih =>
   intro ht h;rw [List.map_cons];unfold L2.collect;rw [ih (fun y hy=>ht y (.tail _ hy)) fun y hy=>h y (.tail _ hy)];cases hp:p z with
   |true =>
    have e:Eg (B0 i) tif f (BW fr δ) (a z)=some (some (g z)):=by
     unfold Eg B0;rw [Option.bind_some];show(tif _).bind _=_;rw [ht z (.head _),hp,Option.bind_some,if_pos rfl,h z (.head _) hp]
     rfl
    rw [e,List.filter_cons_of_pos hp];rfl
   |false =>
    have e:Eg (B0 i) tif f (BW fr δ) (a z)=some none:=by
     unfold Eg B0;rw [Option.bind_some];show(tif _).bind _=_;rw [ht z (.head _),hp,Option.bind_some,if_neg (by decide)]
    rw [e,List.filter_cons_of_neg (by rw [hp];decide)];rfl
 rw [this zs ht h,Option.bind_some,GR,if_pos (by rw [List.length_map];exact aa (List.length_filter_le _ _) hl)]
theorem iA:(K5.all fun k=>(AF 5).all fun t=>match F6 true (CC k) (tD t) with | some (.bool b)=>b==decide (k≠some t) | _=>false)=true:=by decide +kernel
theorem jF{k:Option Tr}(hk:k∈K5){t:Tr}(ht:t∈AF 5):F6 true (CC k) (tD t)=some (.bool (decide (k≠some t))):=by
 have:=aN.mp (aN.mp iA k hk) t ht;split at this
 ·rename_i b e;rw [e,eq_of_beq this]
 ·cases this
theorem dc:((AF 5).all fun t=>decide ((Df t).filter (fun c=>decide (c.1=some t))=[(some t,[])])&&(Df t).all fun c=>match c.1 with | none=>true | some u=>decide ((AF 5).idxOf u≤(AF 5).idxOf t))=true:=by decide +kernel
theorem cQ{t:Tr}(ht:t∈AF 5):(Df t).filter (fun c=>decide (c.1=some t))=[(some t,[])]∧∀c∈Df t,∀u,c.1=some u→(AF 5).idxOf u≤(AF 5).idxOf t:=by
 have:=aN.mp dc t ht;rw [Bool.and_eq_true]at this;refine⟨aP this.1,fun c hc u hu=>?_⟩;have:=aN.mp this.2 c hc;rw [hu]at this;exact aP this
theorem TY{α:Type}(p:α→Bool)(f:α→Rat):∀l:List α,(l.map f).sum=((l.filter p).map f).sum+((l.filter fun x=>!p x).map f).sum
 |[]=>by show(0:Rat)=0+0;rw [Rat.add_zero]
 |x::l=>by
  rw [List.map_cons,List.sum_cons,TY p f l];cases h:p x with
  |true=>rw [List.filter_cons_of_pos h,List.filter_cons_of_neg (by simp [h]),List.map_cons,List.sum_cons,Rat.add_assoc]
  |false=>rw [List.filter_cons_of_neg (by simp [h]),List.filter_cons_of_pos (by simp [h]),List.map_cons,List.sum_cons,←Rat.add_assoc,←Rat.add_assoc,Rat.add_comm (f x)]
abbrev rest(t:Tr):List OC:=(Df t).filter fun c=>decide (c.1≠some t)
theorem Y8(a b:List Rat){t:Tr}(ht:t∈AF 5)(h:Bn a b t=0):((rest t).map (EV a b)).sum * -1=Ah b t:=by
 have e:=TY (fun c:OC=>decide (c.1=some t)) (EV a b) (Df t);rw [(cQ ht).1]at e;have e2:((Df t).filter fun x=>!decide (x.1=some t))=rest t:=List.filter_congr fun c _=>by simp
 rw [e2]at e;have e3:(([(some t,[])]:List OC).map (EV a b)).sum=Ah b t:=by
  show Ah b t*1+0=_;rw [Rat.mul_one,Rat.add_zero]
 rw [e3]at e;unfold Bn at h;rw [h]at e;generalize ((rest t).map (EV a b)).sum=s at e;have:s=- Ah b t:=by
  have h2:s=(Ah b t+s)-Ah b t:=by rw [Rat.add_comm,Rat.add_sub_cancel]
  rw [h2,←e,Rat.sub_eq_add_neg,Rat.zero_add]
 rw [this,Rat.mul_neg,Rat.mul_one,Rat.neg_neg]
theorem RP:∀L:List (Int×Int),J4 (L.map JN)=true
 |[]=>rfl
 |q::L=>by rw [List.map_cons,J4,RP L];rfl
noncomputable abbrev XQ(C1 C2:Addr):List PyData→Option Xr:=Bg B6 mT Ob M3 (Kg C2) (FT C1)
theorem lW{n:Nat}(hn:n≤5){a b:List Rat}(ha:a.length=BQ n)(hb:b.length=BQ n)(F:V7 a b)(h0:∀t∈AF n,Bn a b t=0)(hs:∀t∈AF 5,FM.Fits ((rest t).map (EV a b)).sum 190)(C1 C2:Addr):F3 B6 mT Ob M3 (Kg C2) (FT C1) [.d (AV a),.no,.no,.no,.no,.no]=some (.inl (.rn (b.map AH))):=by
 have tl:=(EB n hn).1;have h17:=LQ hn;unfold F3;refine QM (δ':=[.d (AV a),.d (AZ n),.no,.no,.no,.no]) ?_ ?_
 ·have e:Cb (Ek (Cb (FG (AA (nm 0) AG)) (FT C1)) (FG AG)) (Kg C2) [.d (AV a),.no,.no,.no,.no,.no]=some (.inl (AZ n)):=by
   have e1:Cb (FG (AA (nm 0) AG)) (FT C1) [.d (AV a),.no,.no,.no,.no,.no]=some (.inl (.int (n:Nat))):=UG hn ha C1;have e2:Ek (Cb (FG (AA (nm 0) AG)) (FT C1)) (FG AG) [.d (AV a),.no,.no,.no,.no,.no]=some (.inl [.int (n:Nat)]):=by unfold Ek;rw [e1];rfl
   unfold Cb at e2 ⊢;rw [e2];exact b9 hn C2
  show(Cb _ _ _).map _=_;rw [e]
  rfl
 refine TF ?_;have z1:∀(l2 l3 l4 l5:L),i3 2 (AA (nm 1) (AA (nm 0) AG)) [.d (AV a),.d (AZ n),l2,l3,l4,l5]=some (.nx [.d (AV a),.d (AZ n),.own (.FH (C5 a (Jg n))),l3,l4,l5]):=fun _ _ _ _=>by
  show(fW (AZ n) (AV a)).map _=_;rw [jq hn ha];rfl
 refine BC (z1 _ _ _ _) ?_;refine BC (δ':=[.d (AV a),.d (AZ n),.own (.FH (C5 a (Jg n))),.own (.FH (C5 b [none])),.no,.no]) rfl ?_;refine JB (xs:=(AF n).map tD) (fun i δ=>∃l2 l4 l5,δ=[.d (AV a),.d (AZ n),l2,.own (.FH (C5 b (none::((AF n).take i).map some))),l4,l5]∧iE (C5 a (Jg n)) l2∧Wm l5=true) ?_ ⟨_,.no,.no,rfl,.inl rfl,rfl⟩ (fun i x δ hx hI=>?_) fun δ' hI=>?_
 ·show some (Bq (Tr.of (AF n)))=_;rw [EZ]
 ·obtain⟨l2,l4,l5,rfl,hh,hn5⟩:=hI;rw [List.getElem?_map]at hx;obtain⟨t,hti,rfl⟩:=aC.mp hx;have hi:i<(AF n).length:=(aE.mp hti).1;have ht5:=HY hn hti;have hm:=aI ht5;have htn:=aI hti;have T:=Gi hm;have el:=VA hn hti;have hlen:=T.len;have kb5:∀q∈none::((AF n).take i).map some,q∈K5:=fun q hq=>by
   rcases aM.mp hq with rfl | hq
   ·exact aZ _ (.head _)
   ·obtain⟨u,hu,rfl⟩:=aT.mp hq;exact bQ _ (av (Jv hn (bX hu)))
  have hrest:∀c∈Df t,c.1≠some t→c.1∈none::((AF n).take i).map some:=fun c hc hne=>by
   cases e:c.1 with
   |none=>exact .head _
   |some u =>
    refine .tail _ (av ?_);have h5:=(Zv hm hc).2.2 u e;have hle:=(cQ hm).2 c hc u e;rw [Il ht5]at hle;have hlt:(AF 5).idxOf u<i:=by
     rcases Nat.lt_or_ge ((AF 5).idxOf u) i with z | z
     ·exact z
     ·have hlu:=bH.mpr h5;have e2:(AF 5)[(AF 5).idxOf u]? = some u:=by rw [List.getElem?_eq_getElem hlu,List.getElem_idxOf hlu]
      rw [show(AF 5).idxOf u=i by omega,ht5]at e2;cases e2;exact absurd e hne
    obtain⟨us,hu⟩:=Lv n (5-n);rw [show n+(5-n)=5 by omega]at hu;have:=NA h5 hlt
    rwa [hu,List.take_append_of_le_length (bK hi)]at this
  refine⟨[.d (AV a),.d (AZ n),l2,.own (.FH (C5 b (none::((AF n).take i).map some))),.d (tD t),l5],rfl,?_⟩;have e5:SK 2 (BM 5 (R7 3 (CM (B0 1) (EH (F6 true) (AI BR (nm 1) (fC (.int 0))) (nm 4)) (AJ B6 (AA (nm 1) (AA (nm 2) (AA (nm 3) AG)))) [none,none,some 2,some 3,some 4] (CB (AJ M3 (AA (nm 4) AG)))))) [.d (AV a),.d (AZ n),l2,.own (.FH (C5 b (none::((AF n).take i).map some))),.d (tD t),l5]
    = some (.nx [.d (AV a),.d (AZ n),.d (Bo (C5 a (Jg n))),.own (.FH (C5 b (none::((AF n).take i).map some))),.d (tD t),.d (.list (((rest t).map fun c:OC=>En (C6 b c.1) (c.2.map (Ah a))).map JN))]):=by
   show BM 5 _ (Ed 2 _)=_;rw [Zq hh];refine(B2 (y:=.list (((rest t).map fun c:OC=>En (C6 b c.1) (c.2.map (Ah a))).map JN)) (ej (kvs:=C5 b (none::((AF n).take i).map some)) rfl ?_ (RP _) ?_)).trans rfl
   ·show(CF _ _ _ _ _ _).map PyData.list=_;rw [Tt (zs:=Df t) (a:=ME) (p:=fun c=>decide (c.1≠some t)) (g:=fun c:OC=>JN (En (C6 b c.1) (c.2.map (Ah a)))) (VQ (x:=.list ((Df t).map ME)) (Ak (xs:=[tD t]) rfl T.a) rfl) (by unfold CG;omega) (fun c hc=>?_) fun c hc hp=>?_]
    ·rw [List.map_map];rfl
    ·exact E3 (x:=CC c.1) (y:=tD t) (AY (x:=ME c) (y:=.int 0) rfl rfl rfl) rfl (jF (jt hn _ (el c hc).1) hm)
    ·obtain⟨k1,k2,k3⟩:=el c hc;exact Ak (xs:=[ME c,Bo (C5 a (Jg n)),Bo (C5 b (none::((AF n).take i).map some))]) rfl (ZU (Wt hn) kb5 (hrest c hc (aP hp)) (fun p hp=>av (k2 p hp)) F.wa (fw F _) k3)
   ·unfold alone;show(true&&(true&&(true&&(true&&(true&&(Wm l5&&true))))))=true;rw [hn5];rfl
  refine Jq e5 ?_;have hnew:(some t:Option Tr) ∉ none::((AF n).take i).map some:=fun z=>by
   rcases aM.mp z with z | z
   ·cases z
   ·obtain⟨u,hu,e⟩:=aT.mp z;cases e;refine Zb ht5 ?_;obtain⟨us,hu'⟩:=Lv n (5-n);rw [show n+(5-n)=5 by omega]at hu';rw [hu',List.take_append_of_le_length (bK hi)];exact hu
  have hrl:(rest t).length≤17:=aa (List.length_filter_le _ _) hlen;have tot:Ob [.list (((rest t).map fun c:OC=>En (C6 b c.1) (c.2.map (Ah a))).map JN)]=some (AH ((rest t).map (EV a b)).sum):=by
   refine(dZ (by rw [List.length_map];omega) fun q hq=>?_).trans ?_
   ·obtain⟨c,hc,rfl⟩:=aT.mp hq;have:=F.sh hm c (List.mem_filter.mp hc).1;exact⟨RS _ _ (by have:=(C6 b c.1).den_nz;show(1:Int)≤((C6 b c.1).den:Int);omega),this.1,this.2⟩
   ·rw [List.map_map]
    congr 3
    exact aX fun c _=>ZS _ _
  have tm:mT [AH ((rest t).map (EV a b)).sum,AH (-1)]=some (AH (Ah b t)):=by
   refine(cc ((hs t hm).mono (by decide)) ⟨by decide,by decide⟩).trans ?_;rw [Y8 a b hm (h0 t htn)]
  refine⟨[.d (AV a),.d (AZ n),.d (Bo (C5 a (Jg n))),.own (.FH (C5 b (none::((AF n).take (i+1)).map some))),.d (tD t),.d (.list (((rest t).map fun c:OC=>En (C6 b c.1) (c.2.map (Ah a))).map JN))],((gg (k:=some t) (kvs:=C5 b (none::((AF n).take i).map some)) (y:=AH (Ah b t)) (Ak (xs:=[AH ((rest t).map (EV a b)).sum,AH (-1)]) (A0 (Ak (xs:=[.list (((rest t).map fun c:OC=>En (C6 b c.1) (c.2.map (Ah a))).map JN)]) rfl tot) (A0 rfl rfl)) tm) rfl rfl (b8 kb5 (bQ _ (av hm))) (by rw [List.length_map,List.length_cons,List.length_map,List.length_take];omega)).trans ?_),_,_,_,rfl,.inr rfl,rfl⟩;rw [Zi hnew];have:C5 b (none::((AF n).take (i+1)).map some)=C5 b (none::((AF n).take i).map some)++[(some t,AH (Ah b t))]:=by
   rw [take_snoc hti,List.map_append,←List.cons_append,C5,List.map_append]
   rfl
  rw [this]
  rfl
 ·obtain⟨l2,l4,l5,rfl,hh,_⟩:=hI;rw [List.length_map,List.take_length];have kb5:∀q∈none::(AF n).map some,q∈K5:=fun q hq=>by
   rcases aM.mp hq with rfl | hq
   ·exact aZ _ (.head _)
   ·exact Wt hn q hq
  have c:CF (B0 1) Dx (AI HK (nm 2) (nm 1)) [none,none,some 3] (CB (nm 1)) [.d (AV a),.d (AZ n),l2,.d (Bo (C5 b (none::(AF n).map some))),l4,l5]=some ((AF n).map fun t=>AH (Ah b t)):=by
   refine Q4 (zs:=AF n) (a:=tD) ?_ (by rw [tl];unfold CG;omega) fun t ht=>?_
   ·show some (Bq (Tr.of (AF n)))=_;rw [EZ]
   ·have hk:some t∈none::(AF n).map some:=.tail _ (av ht);exact AY (x:=Bo (C5 b (none::(AF n).map some))) (y:=tD t) rfl rfl (QP (k:=some t) (b8 kb5 (kb5 _ hk)) (Rl hk))
  show(CF _ _ _ _ _ [.d (AV a),.d (AZ n),l2,.d (Bo (C5 b (none::(AF n).map some))),l4,l5]).map _=_;rw [c,show((AF n).map fun t=>AH (Ah b t))=((AF n).map (Ah b)).map AH by rw [List.map_map];rfl,XB hn hb]
  rfl
theorem ky{n:Nat}(hn:n≤5){a b:List Rat}(ha:a.length=BQ n)(hb:b.length=BQ n)(sa:FN a)(sb:FN b)(h0:∀t∈AF n,Bn a b t=0)(C1 C2:Addr):XQ C1 C2 [AV a]=some (.inl (AV b)) :=
 U2 rfl (lW hn ha hb (WR sa sb) h0 (fun t ht=>Zx sa sb ht (aa (List.length_filter_le _ _) (Gi ht).len) fun c hc=>(List.mem_filter.mp hc).1) C1 C2)
theorem Sz{p:Rat}{n:Nat}(h:FM.Fits p n):∀k:Nat,FM.Fits (p ^ k) (n*k+1)
 |0=>⟨by rw [Rat.num_pow,Int.pow_zero,Nat.mul_zero];decide,by rw [Rat.den_pow,Nat.pow_zero,Nat.mul_zero];decide⟩
 |k+1=>by
  rw [Rat.pow_succ];have:=(Sz h k).times h;rw [show n*(k+1)+1=n*k+1+n by rw [Nat.mul_succ];omega];exact this
theorem kL{p:Rat}(hp:FM.Fits p 10){k:Nat}(hk:k≤10):Bv S9 [AH p,.int (k:Nat)]=some (AH (p ^ k)):=by
 refine Fo rfl ?_;unfold Md;have e:∀b:Int,b.natAbs<2 ^ 10→S9 [.int b,.int (k:Nat)]=some (.int (b ^ k)):=fun b hb=>by
  refine(if_pos ⟨hb,by omega,by omega⟩).trans ?_;rw [Int.toNat_natCast]
 refine Fi ((eC (A0 (Ak (xs:=[.int p.num,.int (k:Nat)]) rfl (e _ hp.1)) (A0 (Ak (xs:=[.int (p.den:Int),.int (k:Nat)]) rfl (e _ hp.d)) rfl)) (by show(2:Nat)≤CG;decide)).trans ?_);unfold AH;rw [Rat.num_pow,Rat.den_pow,Int.natCast_pow]
theorem m9:∀t∈AF 5,Ar 9 [tD t]=some (.int (t.AU:Nat)):=by
 have h:((AF 5).all fun t=>match Ar 9 [tD t]with | some (.int i)=>decide (i=(t.AU:Int)) | _=>false)=true:=by decide +kernel
 intro t ht;have:=aN.mp h t ht;split at this
 ·rename_i i e;rw [e,of_decide_eq_true this]
 ·cases this
noncomputable abbrev gP(C1 C2:Addr):List PyData→Option Xr:=Be (Bv S9) mT (Ar 9) (Kg C2) (FT C1)
def O4(n:Nat)(ws:List Rat)(p:Rat):List Rat:=((AF n).zip ws).map fun z=>z.2*p ^ z.1.AU
theorem Yr{n:Nat}(hn:n≤5){ws:List Rat}(hl:ws.length=BQ n)(hw:∀q∈ws,FM.Fits q 300){p:Rat}(hp:FM.Fits p 10)(C1 C2:Addr):gP C1 C2 [AV ws,AH p]=some (.inl (AV (O4 n ws p))):=by
 refine U2 rfl ?_;unfold IM;have h17:BQ n≤17:=by rcases n with _ | _ | _ | _ | _ | _ | n<;>first | decide | omega
 refine QM (δ':=[.d (AV ws),.d (AH p),.d (AZ n)]) ?_ ?_
 ·have e:Cb (Ek (Cb (FG (AA (nm 0) AG)) (FT C1)) (FG AG)) (Kg C2) [.d (AV ws),.d (AH p),.no]=some (.inl (AZ n)):=by
   have e1:Cb (FG (AA (nm 0) AG)) (FT C1) [.d (AV ws),.d (AH p),.no]=some (.inl (.int (n:Nat))):=UG hn hl C1;have e2:Ek (Cb (FG (AA (nm 0) AG)) (FT C1)) (FG AG) [.d (AV ws),.d (AH p),.no]=some (.inl [.int (n:Nat)]):=by unfold Ek;rw [e1];rfl
   unfold Cb at e2 ⊢;rw [e2];exact b9 hn C2
  show(Cb _ _ _).map _=_;rw [show Cb (Ek (Cb (FG (AA (nm 0) AG)) (FT C1)) (FG AG)) (Kg C2) (GH ["weighing", "part", "trees"] [AV ws,AH p])=_ from e]
  rfl
 ·have e:CF (Di 1 2) Dx (AJ mT (AA (nm 2) (AA (AJ (Bv S9) (AA (nm 3) (AA (AJ (Ar 9) (AA (nm 1) AG)) AG))) AG))) [none,none,none,some 1] (Fs zip2 (AA (nm 2) (AA (nm 0) AG))) [.d (AV ws),.d (AH p),.d (AZ n)]=some (((AF n).zip ws).map fun z=>AH (z.2*p ^ z.1.AU)):=by
   refine XF (a:=fun z=>.tuple (Bq z.1)) (b:=fun z=>AH z.2) ?_ ?_ fun z hz=>?_
   ·show some (Nx (Bq (Tr.of (AF n))) (ws.map AH))=_;rw [EZ,zip_map]
   ·rw [List.length_zip];unfold CG;omega
   ·have ht:=(List.of_mem_zip hz).1;have hz2:=(List.of_mem_zip hz).2;have hk:=(EB n hn).2 _ ht;refine Ak (xs:=[AH z.2,AH (p ^ z.1.AU)]) (A0 rfl (A0 (Ak (xs:=[AH p,.int (z.1.AU:Nat)]) (A0 rfl (A0 (Ak (xs:=[.tuple (Bq z.1)]) rfl (m9 _ (Jv hn ht))) rfl)) (kL hp (by omega))) rfl)) ?_;exact cc ((hw _ hz2).mono (by decide)) ((Sz hp _).mono (by omega))
  have e':K0 (CF (Di 1 2) Dx (AJ mT (AA (nm 2) (AA (AJ (Bv S9) (AA (nm 3) (AA (AJ (Ar 9) (AA (nm 1) AG)) AG))) AG))) [none,none,none,some 1] (Fs zip2 (AA (nm 2) (AA (nm 0) AG)))) [.d (AV ws),.d (AH p),.d (AZ n)]=some (.rn ((O4 n ws p).map AH)):=by
   show(CF _ _ _ _ _ _).map _=_;rw [e];unfold O4;rw [List.map_map];rfl
  exact TF e'
def V9(n:Nat)(ws:List Rat):List Rat:=O4 n ws (-1)
noncomputable abbrev cZ(C1 C2:Addr):List PyData→Option Xr:=BE (gP C1 C2) (XQ C1 C2)
theorem Xj{n:Nat}(hn:n≤5){a b:List Rat}(ha:a.length=BQ n)(hb:b.length=BQ n)(sa:FN a)(sb:FN b)(h0:∀t∈AF n,Bn a b t=0)(C1 C2:Addr):cZ C1 C2 [AV a]=some (.inl (AV (V9 n b))):=by
 refine VW rfl ?_;unfold HE;have e1:Cb (FG (AA (nm 0) AG)) (XQ C1 C2) [.d (AV a)]=some (.inl (AV b)):=ky hn ha hb sa sb h0 C1 C2;have e2:Ek (Cb (FG (AA (nm 0) AG)) (XQ C1 C2)) (FG (AA (Bz (AA (JF (fC (.int 1))) (AA (fC (.int 1)) AG))) AG)) [.d (AV a)]=some (.inl [AV b,AH (-1)]):=by unfold Ek;rw [e1];rfl
 have hf:∀q∈b,FM.Fits q 300:=fun q hq=>by
  obtain⟨i,hi⟩:=ah.mp hq;have hil:i<b.length:=(aE.mp hi).1;have h17:=LQ hn;have h5:(AF 5).length=17:=(EB 5 (by decide)).1;have ht:(AF 5)[i]? = some ((AF 5)[i]'(by omega)):=aL _;rw [←WV ht hi];exact(sb.WE _).mono (by decide)
 have e:Cb (Ek (Cb (FG (AA (nm 0) AG)) (XQ C1 C2)) (FG (AA (Bz (AA (JF (fC (.int 1))) (AA (fC (.int 1)) AG))) AG))) (gP C1 C2) [.d (AV a)]=some (.inl (AV (V9 n b))):=by
  unfold Cb at e2 ⊢;rw [e2];exact Yr hn hb hf ⟨by decide,by decide⟩ C1 C2
 show(Cb _ _ [.d (AV a)]).map _=_;rw [e]
 rfl
def mP(U:Ps):Ps:=Zt fun t=>Oa [] (if t.AU % 2=0 then 1 else -1) (D0 U t)
theorem ed:∀k,k≤5→(-1:Rat) ^ k=(((if k % 2=0 then 1 else -1:Int)):Rat):=by
 intro k h;rcases k with _ | _ | _ | _ | _ | _ | k
 ·kernel_rfl
 ·kernel_rfl
 ·kernel_rfl
 ·kernel_rfl
 ·kernel_rfl
 ·kernel_rfl
 ·omega
theorem cD{n:Nat}(hn:n≤5)(x:Nat→Rat)(U:Ps):V9 n (Am n x U)=Am n x (mP U):=by
 unfold V9 O4 Am;have:∀l:List Tr,l.zip (l.map fun t=>BP x (D0 U t))=l.map fun t=>(t,BP x (D0 U t)):=fun l=>by
  induction l with
  |nil=>rfl
  |cons t l ih=>rw [List.map_cons,List.zip_cons_cons,ih];rfl
 rw [this,List.map_map];refine aX fun t ht=>?_;have hk:=(EB n hn).2 t ht;show BP x (D0 U t)*(-1) ^ t.AU=BP x (D0 (mP U) t);unfold mP;rw [Yj _ (Jv hn ht),Ka,ed _ hk.2.1];show _=_*1*_;rw [Rat.mul_one,Rat.mul_comm]
abbrev UM:MD:=Dd N2
theorem gQ{qs:List Rat}(h:∀m,FM.Fits (Dj (qs.take m)) 190)(h2:∀q∈qs,FM.Fits q 190):UM [AV qs]=some (AH (Dj qs)):=by
 refine Fo rfl ?_;unfold Ol;refine BC (B2 (y:=AH 1) rfl) ?_;refine JB (xs:=qs.map AH) (fun i δ=>∃l2,δ=[.d (AV qs),.d (AH (Dj (qs.take i))),l2]) rfl ⟨.no,rfl⟩ (fun i x δ hx hI=>?_) fun δ' hI=>?_
 ·obtain⟨l2,rfl⟩:=hI;rw [List.getElem?_map]at hx;obtain⟨q,hq,rfl⟩:=aC.mp hx;refine⟨_,rfl,_,B2 (y:=AH (Dj (qs.take (i+1)))) (Ak (xs:=[AH (Dj (qs.take i)),AH q]) rfl ((TK (h i) (h2 q (aI hq))).trans ?_)),_,rfl⟩;rw [take_snoc hq,Ux]
 ·obtain⟨l2,rfl⟩:=hI;rw [List.length_map,List.take_length]
  rfl
abbrev bj:MD:=Bl XA UM N2 Mp
theorem Tf{n:Nat}(hn:n≤5){a b:List Rat}(ha:a.length=BQ n)(hb:b.length=BQ n)(F:V7 a b):bj [AZ n,AV a,AV b]=some (AV ((AF n).map (Bn a b))):=by
 have tl:=(EB n hn).1;have h17:=LQ hn;refine VL rfl ?_;unfold Ji;refine BC (δ':=[.d (AZ n),.d (AV a),.d (AV b),.own (.lst []),.no,.no,.no,.no,.no]) rfl ?_;refine JB (xs:=E6 0 (BQ n)) (fun i δ=>∃l4 l5 l6 l7 l8,δ=[.d (AZ n),.d (AV a),.d (AV b),.own (.lst ((((AF n).take i).map (Bn a b)).map AH)),l4,l5,l6,l7,l8]) ?_ ⟨.no,.no,.no,.no,.no,rfl⟩ (fun i x δ hx hI=>?_) fun δ' hI=>?_
 ·refine(S7 (j:=(BQ n:Nat)) ?_ (by omega) (by omega)).trans (by rw [Int.toNat_natCast]);show some (PyData.int ((Bq (Tr.of (AF n))).length:Nat))=_;rw [EZ,List.length_map,tl]
 ·obtain⟨l4,l5,l6,l7,l8,rfl⟩:=hI;obtain⟨rfl,hi⟩:=QF hx;rw [Int.zero_add];have hi':i<(AF n).length:=by omega
  have hti:(AF n)[i]? = some (AF n)[i]:=aL hi';generalize (AF n)[i]=t at hti;have ht5:=HY hn hti;have hm:=aI ht5;have T:=Gi hm;have wat:∀ {ws:List Rat},ws.length=BQ n→∀ {u:Tr},u∈AF n→ws[(AF 5).idxOf u]? = some (Ah ws u):=fun {ws} hl {u} hu=>by
   obtain⟨j,hj⟩:=ah.mp hu;have hj5:=Il (HY hn hj);have:j<ws.length:=by have:=(aE.mp hj).1;omega
   rw [hj5,List.getElem?_eq_getElem this,WV (HY hn hj) (aL this)]
  have mem:∀u,u∈AF 5→(AF 5).idxOf u≤(AF 5).idxOf t→u∈AF n:=fun u h1 h2=>by
   rw [Il ht5]at h2;exact Sy hn (Nat.succ_le_of_lt hi') (NA h1 (Nat.lt_succ_of_le h2))
  refine⟨[.d (AZ n),.d (AV a),.d (AV b),.own (.lst ((((AF n).take i).map (Bn a b)).map AH)),.d (.int (i:Nat)),l5,l6,l7,l8],rfl,?_⟩;refine Jq (B2 (y:=AH (Ah a t)) (AY (x:=AV a) (y:=.int (i:Nat)) rfl rfl (Ea (by have:=wat ha (aI hti);rw [Il ht5]at this;rw [List.getElem?_map,this];rfl)))) ?_;have f1:∃l6' l7' l8',DQ (CB (AJ Mp (AA (AI BR (nm 0) (nm 4)) AG))) (Di 6 7)
   (Ag (BM 8 (CM (B0 1) Dx (AI BR (nm 2) (AI E4 (nm 3) (nm 1))) [none,none,some 1,some 0] (CB (nm 7))))
   (BM 5 (AJ XA (AA (nm 5) (AA (AJ N2 (AA (AI BR (nm 2) (AI E4 (nm 0) (nm 6))) (AA (AJ UM (AA (nm 8) AG)) AG))) AG)))))
   [.d (AZ n),.d (AV a),.d (AV b),.own (.lst ((((AF n).take i).map (Bn a b)).map AH)),.d (.int (i:Nat)),.d (AH (Ah a t)),l6,l7,l8]=some (.nx [.d (AZ n),.d (AV a),.d (AV b),.own (.lst ((((AF n).take i).map (Bn a b)).map AH)),.d (.int (i:Nat)),.d (AH (Bn a b t)),l6',l7',l8']):=by
   let Iv:Nat→Dv→Prop:=fun m δ=>∃l6 l7 l8,δ=[.d (AZ n),.d (AV a),.d (AV b),.own (.lst ((((AF n).take i).map (Bn a b)).map AH)),.d (.int (i:Nat)),.d (AH (Ah a t+(((D6 t).take m).map (HL a b)).sum)),l6,l7,l8]
   have hx0:CB (AJ Mp (AA (AI BR (nm 0) (nm 4)) AG)) [.d (AZ n),.d (AV a),.d (AV b),.own (.lst ((((AF n).take i).map (Bn a b)).map AH)),.d (.int (i:Nat)),.d (AH (Ah a t)),l6,l7,l8]=some ((D6 t).map bw) :=
    VQ (x:=.list ((D6 t).map bw)) (Ak (xs:=[tD t]) (A0 (AY (x:=AZ n) (y:=.int (i:Nat)) rfl rfl (Ea (by rw [EZ,List.getElem?_map,hti];rfl))) rfl) T.b) rfl
   have i0:Iv 0 [.d (AZ n),.d (AV a),.d (AV b),.own (.lst ((((AF n).take i).map (Bn a b)).map AH)),.d (.int (i:Nat)),.d (AH (Ah a t)),l6,l7,l8]:=by
    refine⟨l6,l7,l8,?_⟩;rw [List.take_zero,List.map_nil,List.sum_nil,Rat.add_zero]
   obtain⟨δ',f1,l6',l7',l8',rfl⟩:=Sk (set:=Di 6 7) (F:=Ag (BM 8 (CM (B0 1) Dx (AI BR (nm 2) (AI E4 (nm 3) (nm 1))) [none,none,some 1,some 0] (CB (nm 7))))
   (BM 5 (AJ XA (AA (nm 5) (AA (AJ N2 (AA (AI BR (nm 2) (AI E4 (nm 0) (nm 6))) (AA (AJ UM (AA (nm 8) AG)) AG))) AG))))) Iv hx0 i0 (fun m x δ hx hI=>by
    obtain⟨l6,l7,l8,rfl⟩:=hI;rw [List.getElem?_map]at hx;obtain⟨c,hc,rfl⟩:=aC.mp hx;have hcm:=aI hc;obtain⟨k1,k2,k3,k4,_⟩:=T.el c hcm;have cn:=mem c.1 k1 k2;refine⟨[.d (AZ n),.d (AV a),.d (AV b),.own (.lst ((((AF n).take i).map (Bn a b)).map AH)),.d (.int (i:Nat)),.d (AH (Ah a t+(((D6 t).take m).map (HL a b)).sum)),.d (tD c.1),.d (.tuple (c.2.map tD)),l8],rfl,?_⟩;have e8:CM (B0 1) Dx (AI BR (nm 2) (AI E4 (nm 3) (nm 1))) [none,none,some 1,some 0] (CB (nm 7)) [.d (AZ n),.d (AV a),.d (AV b),.own (.lst ((((AF n).take i).map (Bn a b)).map AH)),.d (.int (i:Nat)),.d (AH (Ah a t+(((D6 t).take m).map (HL a b)).sum)),.d (tD c.1),.d (.tuple (c.2.map tD)),l8]=some (AV (c.2.map (Ah a))):=by
     show(CF _ _ _ _ _ _).map PyData.list=_;rw [Q4 (zs:=c.2) (a:=tD) (g:=fun p=>AH (Ah a p)) rfl (by unfold CG;omega) fun p hp=>?_]
     ·show some (PyData.list _)=some (PyData.list _);rw [List.map_map];rfl
     ·obtain⟨q1,q2⟩:=k3 p hp;have pn:=mem p q1 (bK q2);exact AY (x:=AV a) (y:=.int ((AF 5).idxOf p:Nat)) rfl (AY (x:=AZ n) (y:=tD p) rfl rfl (TZ hn pn q1)) (Ea (by rw [List.getElem?_map,wat ha pn];rfl))
    refine Jq (B2 e8) ?_;have hall:UM [AV (c.2.map (Ah a))]=some (AH (Dj (c.2.map (Ah a)))):=gQ (F.pr hm c hcm) fun q hq=>by obtain⟨u,_,rfl⟩:=aT.mp hq;exact F.wa u
    have fp:=F.pr hm c hcm (c.2.map (Ah a)).length;rw [List.take_length]at fp;refine⟨_,B2 (y:=AH (Ah a t+(((D6 t).take (m+1)).map (HL a b)).sum)) (Ak (xs:=[AH (Ah a t+(((D6 t).take m).map (HL a b)).sum),AH (HL a b c)]) (A0 rfl (A0 (Ak (xs:=[AH (Ah b c.1),AH (Dj (c.2.map (Ah a)))]) (A0 (AY (x:=AV b) (y:=.int ((AF 5).idxOf c.1:Nat)) rfl (AY (x:=AZ n) (y:=tD c.1) rfl rfl (TZ hn cn k1)) (Ea (by rw [List.getElem?_map,wat hb cn];rfl))) (A0 (Ak (xs:=[AV (c.2.map (Ah a))]) rfl hall) rfl)) (TK (F.wb _) fp)) rfl)) ((il (F.su hm m) (F.vb hm c hcm)).trans ?_)),_,_,_,rfl⟩;rw [take_snoc hc,List.map_append,List.map_cons,List.map_nil,U0,Rat.add_assoc])
   refine⟨l6',l7',l8',f1.trans ?_⟩;rw [List.length_map,List.take_length,ZW a b hm]
  obtain⟨l6',l7',l8',f1⟩:=f1;refine Jq f1 ⟨[.d (AZ n),.d (AV a),.d (AV b),.own (.lst ((((AF n).take (i+1)).map (Bn a b)).map AH)),.d (.int (i:Nat)),.d (AH (Bn a b t)),l6',l7',l8'],?_,_,_,_,_,_,rfl⟩;show(if((((AF n).take i).map (Bn a b)).map AH).length<CG then _ else _)=_;rw [if_pos (by rw [List.length_map,List.length_map,List.length_take];unfold CG;omega),take_snoc hti,List.map_append,List.map_append]
  rfl
 ·obtain⟨l4,l5,l6,l7,l8,rfl⟩:=hI;have hz:(E6 0 (BQ n)).length=BQ n:=by unfold E6;simp
  rw [hz,←tl,List.take_length]
  rfl
theorem hU(x:PyData)(n:Nat)(h:n≤500):DR (.list [x]) (.int (n:Nat))=some (.list (List.replicate n [x]).flatten):=by
 show(match T5 (.list [x]) (.int (n:Nat)) with | some z=>some z | none=>Sm (.list [x]) (.int (n:Nat)))=_;exact if_pos ⟨by unfold CG;simp;omega,by omega,by omega⟩
theorem VJ{α:Type}(x:PyData):∀l:List α,(List.replicate l.length [x]).flatten=l.map fun _=>x
 |[]=>rfl
 |y::l=>by rw [List.length_cons,List.replicate_succ,List.flatten_cons,VJ x l];rfl
theorem lY:∀t∈AF 5,Ay 9 [tD t]=some (.int (t.AU:Nat)):=by
 have h:((AF 5).all fun t=>match Ay 9 [tD t]with | some (.int i)=>decide (i=(t.AU:Int)) | _=>false)=true:=by decide +kernel
 intro t ht;have:=aN.mp h t ht;split at this
 ·rename_i i e;rw [e,of_decide_eq_true this]
 ·cases this
theorem nH:((AF 5).all fun t=>decide (Mt (mP BN) (mP Ba) t=[]))=true:=by decide +kernel
theorem me:((AF 5).all fun t=>ja (D0 (mP (mP Ba)) t) (D0 Ba t))=true:=by decide +kernel
theorem mM:([Ba,BN,mP BN,mP Ba].all fun P=>(AF 5).all fun t=>M8 (D0 P t) t.AU)=true:=by decide +kernel
theorem mh:∀k,k≤5→(Bz (AA (AI BR (D5 (AA (fC (.int 1)) (AA (JF (fC (.int 1))) AG))) (fC (.int ((k:Nat) % 2:Int)))) (AA (fC (.int 1)) AG))) []=some (AH ((if k % 2=0 then 1 else -1:Int):Rat)):=by
 intro k h;rcases k with _ | _ | _ | _ | _ | _ | k
 ·kernel_rfl
 ·kernel_rfl
 ·kernel_rfl
 ·kernel_rfl
 ·kernel_rfl
 ·kernel_rfl
 ·omega
theorem gU(k:Nat):(((if k % 2=0 then 1 else -1:Int)):Rat)*(((if k % 2=0 then 1 else -1:Int)):Rat)=1:=by
 split
 ·kernel_rfl
 ·kernel_rfl
theorem ZV(k:Nat):FM.Fits (((if k % 2=0 then 1 else -1:Int)):Rat) 190:=by
 split
 ·exact⟨by decide,by decide⟩
 ·exact⟨by decide,by decide⟩
noncomputable abbrev iK(C1 C2:Addr):MD:=b6 Ac bj (Ay 9) N2 (CD Cz) Ht (Bp Ac L7) (cZ C1 C2)
theorem gC(ns:List Int)(C1 C2:Addr):iK C1 C2 [Bc ns]=some (.bool true):=by
 refine Fo rfl ?_;obtain⟨c0,hc0⟩:=QG ns 0;obtain⟨n,en⟩:∃n:Nat,c0 % 6=(n:Int):=⟨(c0 % 6).toNat,by omega⟩;have hn:n≤5:=by omega
 obtain⟨ws,hws,_,hl,hw⟩:=Zl ns 1 hn;have h17:=LQ hn;have tl:=(EB n hn).1;have U:=fL hn hl hw;have ew:ws=Am n (fun i=>ws.getD i 0) Ba:=(fH hn hl (Vo n (by omega))).symm;have xs:∀i,Bi 60 300 ((fun i=>ws.getD i 0) i):=Vn hw;have eu:W8 n ws=Am n (fun i=>ws.getD i 0) BN:=rfl;rw [eu]at U;generalize (fun i=>ws.getD i 0)=x at xs ew U;subst ew;have sm:∀P∈[Ba,BN,mP BN,mP Ba],FN (Am n x P):=fun P hP=>jH hn xs fun t ht=>aN.mp (aN.mp mM P hP) t ht;have lL:=Wg hn x;have mi1:good (cZ C1 C2) [AV (Am n x Ba)]=some (AV (Am n x (mP BN))):=by
  unfold good;rw [Xj hn (lL _) (lL _) (sm Ba (.head _)) (sm BN (.tail _ (.head _))) U.l C1 C2,cD hn]
 have mi2:good (cZ C1 C2) [AV (Am n x (mP BN))]=some (AV (Am n x Ba)):=by
  unfold good;rw [Xj hn (lL _) (lL _) (sm (mP BN) (.tail _ (.tail _ (.head _)))) (sm (mP Ba) (.tail _ (.tail _ (.tail _ (.head _))))) (fX hn nH x) C1 C2,cD hn,mn hn me x]
 have nough:∀ {a b:List Rat},(∀t∈AF n,Bn a b t=0)→AV ((AF n).map (Bn a b))=.list ((AF n).map fun _=>AH 0):=fun {a b} h=>by
  show PyData.list (((AF n).map (Bn a b)).map AH)=_;rw [List.map_map]
  congr 1
  exact aX fun t ht=>by show AH (Bn a b t)=_;rw [h t ht]
 have l1:bj [AZ n,AV (Am n x Ba),AV (Am n x BN)]=some (.list ((AF n).map fun _=>AH 0)):=(Tf hn hl U.len (WR U.sw U.su)).trans (by rw [nough U.l]);have l2:bj [AZ n,AV (Am n x BN),AV (Am n x Ba)]=some (.list ((AF n).map fun _=>AH 0)):=(Tf hn U.len hl (WR U.su U.sw)).trans (by rw [nough U.r]);have okN:Ok 2 (.list ((AF n).map fun _=>AH 0)):=i8 fun d hd=>by obtain⟨q,_,rfl⟩:=aT.mp hd;exact YA 0
 have smM:=sm (mP BN) (.tail _ (.tail _ (.head _)));unfold cN;refine BC (B2 (y:=.int (n:Nat)) (AY (x:=.int c0) (y:=.int 6) (Ak (xs:=[Bc ns,.int 0]) rfl hc0) rfl ((mod_is (by decide)).trans (by rw [en])))) ?_;refine BC (B2 (Ak (xs:=[Bc ns,.int 1,.int (n:Nat)]) rfl hws)) ?_;refine BC (B2 (Ak (xs:=[.int (n:Nat)]) rfl (Z6 hn))) ?_;refine BC (B2 (y:=AV (Am n x Ba)) rfl) ?_;refine BC (B2 (Ak (xs:=[AV (Am n x Ba)]) rfl mi1)) ?_;refine BC (K8 ?_ rfl) ?_
 ·refine M4 (P4 (My (Ak (xs:=[AV (Am n x (mP BN)),AV (Am n x (mP BN))]) rfl (VT _)))) (M4 (E3 (x:=.int (((Am n x (mP BN)).map AH).length:Nat)) (y:=.int (((Am n x Ba).map AH).length:Nat)) rfl rfl ?_) (E3 (x:=AV (Am n x Ba)) (y:=AV (Am n x Ba)) rfl rfl (ne_self (cW _) (by decide))));rw [List.length_map,List.length_map,lL,lL];exact ne_self (Ok.int (n:=0)) (by decide)
 refine BC (δ':=[.d (Bc ns),.d (.int (n:Nat)),.d (AV (Am n x Ba)),.d (AZ n),.d (AV (Am n x Ba)),.d (AV (Am n x (mP BN))),.own (.lst []),.no,.no]) rfl ?_;refine JB (xs:=E6 0 (BQ n)) (fun i δ=>∃l7,δ=[.d (Bc ns),.d (.int (n:Nat)),.d (AV (Am n x Ba)),.d (AZ n),.d (AV (Am n x Ba)),.d (AV (Am n x (mP BN))),.own (.lst ((((AF n).take i).map fun t=>BP x (D0 BN t)).map AH)),l7,.no]) ?_ ⟨.no,rfl⟩ (fun i y δ hx hI=>?_) fun δ' hI=>?_
 ·refine(S7 (j:=(BQ n:Nat)) ?_ (by omega) (by omega)).trans (by rw [Int.toNat_natCast]);show some (PyData.int ((Bq (Tr.of (AF n))).length:Nat))=_;rw [EZ,List.length_map,tl]
 ·obtain⟨l7,rfl⟩:=hI;obtain⟨rfl,hi⟩:=QF hx;rw [Int.zero_add];have hi':i<(AF n).length:=by omega
  have hti:(AF n)[i]? = some (AF n)[i]:=aL hi';generalize (AF n)[i]=t at hti;have ht5:=HY hn hti;have hm:=aI ht5;have htn:=aI hti;have hk:=(EB n hn).2 t htn;have ef:(Am n x (mP BN))[i]? = some (Ah (Am n x (mP BN)) t):=by
   rw [Mi hn x (mP BN) t htn];unfold Am;rw [List.getElem?_map,hti]
   rfl
  have ev:Ah (Am n x (mP BN)) t*(((if t.AU % 2=0 then 1 else -1:Int)):Rat)=BP x (D0 BN t):=by
   rw [Mi hn x (mP BN) t htn];unfold mP;rw [Yj _ hm,Ka];show _*1*_*_=_;rw [Rat.mul_one,Rat.mul_comm,←Rat.mul_assoc,gU,Rat.one_mul]
  refine⟨[.d (Bc ns),.d (.int (n:Nat)),.d (AV (Am n x Ba)),.d (AZ n),.d (AV (Am n x Ba)),.d (AV (Am n x (mP BN))),.own (.lst ((((AF n).take i).map fun t=>BP x (D0 BN t)).map AH)),.d (.int (i:Nat)),.no],rfl,_,?_,.d (.int (i:Nat)),rfl⟩;have e:AJ N2 (AA (AI BR (nm 5) (nm 7)) (AA (Bz (AA (AI BR (D5 (AA (fC (.int 1)) (AA (JF (fC (.int 1))) AG))) (AI CA (AJ (Ay 9) (AA (AI BR (nm 3) (nm 7)) AG)) (fC (.int 2)))) (AA (fC (.int 1)) AG))) AG)) [.d (Bc ns),.d (.int (n:Nat)),.d (AV (Am n x Ba)),.d (AZ n),.d (AV (Am n x Ba)),.d (AV (Am n x (mP BN))),.own (.lst ((((AF n).take i).map fun t=>BP x (D0 BN t)).map AH)),.d (.int (i:Nat)),.no]=some (AH (BP x (D0 BN t))):=by
   refine Ak (xs:=[AH (Ah (Am n x (mP BN)) t),AH (((if t.AU % 2=0 then 1 else -1:Int)):Rat)]) (A0 (AY (x:=AV (Am n x (mP BN))) (y:=.int (i:Nat)) rfl rfl (Ea (by rw [List.getElem?_map,ef];rfl))) (A0 ?_ rfl)) ((TK (smM.WE t) (ZV _)).trans (by rw [ev]));have em:AI CA (AJ (Ay 9) (AA (AI BR (nm 3) (nm 7)) AG)) (fC (.int 2)) [.d (Bc ns),.d (.int (n:Nat)),.d (AV (Am n x Ba)),.d (AZ n),.d (AV (Am n x Ba)),.d (AV (Am n x (mP BN))),.own (.lst ((((AF n).take i).map fun t=>BP x (D0 BN t)).map AH)),.d (.int (i:Nat)),.no]=some (.int ((t.AU:Nat) % 2:Int)):=AY (x:=.int (t.AU:Nat)) (y:=.int 2) (Ak (xs:=[tD t]) (A0 (AY (x:=AZ n) (y:=.int (i:Nat)) rfl rfl (Ea (by rw [EZ,List.getElem?_map,hti];rfl))) rfl) (lY t hm)) rfl (mod_is (by decide));have:=mh t.AU hk.2.1;refine Eq.trans ?_ this;show((AA (AI BR _ (AI CA _ _)) _ _).bind GR).map _=_;show(((AI BR (D5 (AA (fC (.int 1)) (AA (JF (fC (.int 1))) AG))) (AI CA (AJ (Ay 9) (AA (AI BR (nm 3) (nm 7)) AG)) (fC (.int 2))) _).bind _).bind GR).map _=_;have e2:AI BR (D5 (AA (fC (.int 1)) (AA (JF (fC (.int 1))) AG))) (AI CA (AJ (Ay 9) (AA (AI BR (nm 3) (nm 7)) AG)) (fC (.int 2))) [.d (Bc ns),.d (.int (n:Nat)),.d (AV (Am n x Ba)),.d (AZ n),.d (AV (Am n x Ba)),.d (AV (Am n x (mP BN))),.own (.lst ((((AF n).take i).map fun t=>BP x (D0 BN t)).map AH)),.d (.int (i:Nat)),.no]=BR (.list [.int 1,.int (-1)]) (.int ((t.AU:Nat) % 2:Int)):=by
    show(some (PyData.list [.int 1,.int (-1)])).bind _=_;show(AI CA _ _ _).bind _=_;rw [em]
    rfl
   rw [e2]
   rfl
  show(AJ _ _ [.d (Bc ns),.d (.int (n:Nat)),.d (AV (Am n x Ba)),.d (AZ n),.d (AV (Am n x Ba)),.d (AV (Am n x (mP BN))),.own (.lst ((((AF n).take i).map fun t=>BP x (D0 BN t)).map AH)),.d (.int (i:Nat)),.no]).bind _=_;rw [e];show(if((((AF n).take i).map fun t=>BP x (D0 BN t)).map AH).length<CG then _ else _)=_;rw [if_pos (by rw [List.length_map,List.length_map,List.length_take];unfold CG;omega),take_snoc hti,List.map_append,List.map_append]
  rfl
 ·obtain⟨l7,rfl⟩:=hI;have hz:(E6 0 (BQ n)).length=BQ n:=by unfold E6;simp
  rw [hz,←tl,List.take_length];refine BC (B2 (y:=.list ((AF n).map fun _=>AH 0)) (AY (x:=.list [AH 0]) (y:=.int ((AF n).length:Nat)) rfl ?_ ((hU _ _ (by omega)).trans (by rw [VJ])))) ?_
  ·show some (PyData.int ((Bq (Tr.of (AF n))).length:Nat))=_;rw [EZ,List.length_map]
  refine BC (K8 ?_ rfl) ?_
  ·exact M4 (E3 (x:=.list ((AF n).map fun _=>AH 0)) (y:=.list ((AF n).map fun _=>AH 0)) (Ak (xs:=[AZ n,AV (Am n x Ba),AV (Am n x BN)]) rfl l1) rfl (ne_self okN (by decide))) (E3 (x:=.list ((AF n).map fun _=>AH 0)) (y:=.list ((AF n).map fun _=>AH 0)) (Ak (xs:=[AZ n,AV (Am n x BN),AV (Am n x Ba)]) rfl l2) rfl (ne_self okN (by decide)))
  exact Fi (Ak (xs:=[AV (Am n x Ba),AV (Am n x Ba)]) (A0 (Ak (xs:=[AV (Am n x (mP BN))]) rfl mi2) rfl) (VT _))
def cf(K:Fg)(a:Addr)(ns:List Int):Bool:=match K.lookup a with
 |some o=>(match o.cls with | .type n=>n == "tuple" |_=>false)&&o.dict.isNone&&(match o.data with
  |.seq its _=>decide (its.size≤1000)&&decide (its.toList.map TV=ns.map fun i=>some (V.int i))
  |_=>false)
 |none=>false
theorem Ta:∀ {ns:List Int} {us:List Value},us.map TV=ns.map (fun i=>some (V.int i))→Vals (ns.map V.int) us
 |[],[],_=>.nil
 |[],u::us,h=>by simp at h
 |n::ns,[],h=>by simp at h
 |n::ns,u::us,h=>by
  rw [List.map_cons,List.map_cons,List.cons.injEq]at h;refine .cons ?_ (Ta h.2);cases u with
  |int i t =>
   have:=h.1;simp [TV]at this;subst this;exact⟨t,rfl⟩
  |_=>have:=h.1;simp [TV]at this
theorem jV{K:Fg}{a:Addr}{ns:List Int}(h:cf K a ns=true):Own K a ns:=by
 unfold cf at h;split at h
 ·rename_i o e;rw [Bool.and_eq_true,Bool.and_eq_true]at h;obtain⟨⟨h1,h2⟩,h3⟩:=h;have c1:o.cls=.type "tuple" := by
   split at h1
   ·rename_i n e';rw [e',eq_of_beq h1]
   ·cases h1
  have c2:o.dict=none:=by simpa using h2
  split at h3
  ·rename_i its n e';rw [Bool.and_eq_true,decide_eq_true_eq,decide_eq_true_eq]at h3;exact⟨fun H=>.inr ⟨o,its,n,e,c1,e',Nat.le_trans h3.1 (by rw [sizeLine_eq];decide),Ta h3.2⟩,o,e,c1,c2⟩
  ·cases h3
 ·cases h
def W9(K:Fg):Sp:=fun vs H Q _=>∃(a:Addr) (ns:List Int),vs=[.ref a]∧A4 K H a (ns.map V.int)∧ns.length≤63∧∀H',Q (.bl true) H'
theorem fZ{P:Program}{w:World}{K:Fg}{mg:Str→Option Value}{base:Heap}{f:Addr}{fd:FuncData}{k:Nat}{C1 C2:Addr}(hK:R5 K=true)(F:AL P w K mg base Ao k f fd ["_law_script"] (BH (iK C1 C2))):AL P w K mg base Ao k f fd ["_law_script"] (W9 K) :=
 F.imp fun vs H Q E z=>by
  obtain⟨a,ns,rfl,hS,_,q⟩:=z;refine⟨[Bc ns],.bool true,H,gC ns C1 C2,.cons (g6 (iD hK hS)) .nil,.refl _,fun v G' H' _ _ _ _ dv=>?_⟩;rw [Du]at dv;subst dv;exact q H'
section
open PySem.W PyProof.Rows PySem.Calls
abbrev Ex:Program:=PySem.Challenge.pw_stepgrove_k69_weighings_mirrored
abbrev B4:OpenLaw:=PySem.Challenge.rw_stepgrove_k69_weighings_mirrored
noncomputable abbrev dE(P:Params)(x:String)(t:Nat)(v:Value):DictEntry:=⟨PyData.keyHash P (Str.ofString x),.str (Str.ofString x) t,v⟩
noncomputable abbrev sV(x:String)(t:Nat):Value:=.str (Str.ofString x) t
noncomputable abbrev fO(n:String)(i:Nat)(m:String)(t c:Nat):Obj:=⟨.type "function",none,.func (fnOf n n (Fh (top i)) (Ds (top i)) (AR (top i)) .none .none .none (.str (Str.ofString m) t) none (.ref c) .none),#[]⟩
noncomputable abbrev cO(n:String)(t l a k r:Nat)(b:Bool)(r2:Nat)(v1 v2 v3 v4:Value)(t2:Nat):Obj:=⟨.type "code",none,.fields #[sV n t,sV n (t+1),sV "/claim/cut.py" (t+2),.int l 0,.int a 0,.int 0 0,.int 0 0,.int k 0,.ref r,.bool b,.int 181 0,.ref r2,v1,v2,v3,v4,.int t2 0,.int l 0,sV "/claim/cut.py" (t2+1)],#[]⟩
noncomputable def kH:Params→Frag:=fun P =>
 (nat_lit 2,⟨.none,none,(.dict #[] 0),#[]⟩) ::
 (nat_lit 3,⟨(.type "dict"),none,(.dict #[dE P "__name__" 165 (sV "law_stepgrove_k69_weighings_mirrored" 494),dE P "__doc__" 166 .none,dE P "__package__" 167 .none,dE P "__loader__" 168 (.builtin "__main__.__loader__#opaque"),dE P "__spec__" 169 .none,dE P "__annotations__" 170 (.ref 6),dE P "__builtins__" 171 (.ref 4),dE P "__file__" 173 (sV "/claim/cut.py" 172),dE P "__cached__" 174 .none,dE P "GroveError" 206 (.ref 24),dE P "NoBottom" 222 (.ref 37),dE P "NoTree" 238 (.ref 49),dE P "NoWeighing" 254 (.ref 61),dE P "TooMany" 270 (.ref 73),dE P "MOST_KNOTS" 274 (.int 7 273),dE P "is_tree" 283 (.ref 82),dE P "trees_of" 294 (.ref 89),dE P "trees_to" 303 (.ref 96),dE P "refuse_no_tree" 310 (.ref 103),dE P "in_falling_order" 317 (.ref 110),dE P "knots_within" 323 (.ref 115),dE P "trees_one_larger" 334 (.ref 122),dE P "tree_cuts" 343 (.ref 129),dE P "cuts_within" 349 (.ref 134),dE P "fraction_of" 360 (.ref 141),dE P "frac_times" 368 (.ref 148),dE P "is_fraction" 375 (.ref 155),dE P "are_fractions" 383 (.ref 162),dE P "is_whole" 390 (.ref 169),dE P "greatest_divisor" 401 (.ref 176),dE P "common_bottom" 410 (.ref 183),dE P "frac_total" 416 (.ref 188),dE P "power_of" 427 (.ref 195),dE P "WEIGHING_LENGTHS" 438 (.ref 196),dE P "weighing_reach" 445 (.ref 203),dE P "refuse_no_weighing" 452 (.ref 210),dE P "weighing_undone" 460 (.ref 215),dE P "weighing_turned" 466 (.ref 220),dE P "weighing_mirrored" 473 (.ref 227),dE P "cut_share" 485 (.ref 234),dE P "frac_power" 493 (.ref 241),dE P "_law_cell" 505 (.ref 248),dE P "_law_frac" 515 (.ref 255),dE P "_law_add" 523 (.ref 262),dE P "_law_mul" 531 (.ref 269),dE P "_law_all" 540 (.ref 276),dE P "_law_kept" 546 (.ref 281),dE P "_law_longer" 552 (.ref 286),dE P "_law_trees" 564 (.ref 293),dE P "_law_knots" 570 (.ref 298),dE P "_law_weighing" 583 (.ref 305),dE P "_law_is" 589 (.ref 310),dE P "_law_same" 595 (.ref 315),dE P "_law_subsets" 601 (.ref 320),dE P "_law_composed" 607 (.ref 325),dE P "law" 622 (.ref 332)] 56),#[]⟩) ::
 (nat_lit 15,⟨(.type "tuple"),none,(.seq #[(.type "ValueError")] 0),#[]⟩) ::
 (nat_lit 22,⟨(.type "tuple"),none,(.seq #[] 0),#[]⟩) ::
 (nat_lit 23,⟨(.type "dict"),none,(.dict #[dE P "__module__" 196 (sV "stepgrove.errors" 187),dE P "__firstlineno__" 200 (.int 2 199),dE P "__static_attributes__" 201 (.ref 22),dE P "__weakref__" 203 (.ref 25),dE P "__doc__" 204 .none] 3),#[]⟩) ::
 (nat_lit 24,⟨(.type "type"),none,(.cls ⟨Str.ofString "GroveError",[(.type "ValueError")],[(.ref 24),(.type "ValueError"),(.type "Exception"),(.type "BaseException"),(.type "object")],23,Str.ofString "GroveError",true,[],[(.ref 37),(.ref 49),(.ref 61),(.ref 73)],false,none,false⟩),#[some (.ref 15),none,some (sV "GroveError" 189),some (sV "GroveError" 197),some (.builtin "ValueError.__new__"),some (.bool true)]⟩) ::
 (nat_lit 25,⟨(.type "getset_descriptor"),none,(.fields #[(sV "__weakref__" 202),(.ref 24),(.builtin "ExceptionGroup.__weakref__"),.none]),#[]⟩) ::
 (nat_lit 28,⟨(.type "tuple"),none,(.seq #[(.ref 24)] 0),#[]⟩) ::
 (nat_lit 35,⟨(.type "tuple"),none,(.seq #[] 0),#[]⟩) ::
 (nat_lit 36,⟨(.type "dict"),none,(.dict #[dE P "__module__" 214 (sV "stepgrove.errors" 187),dE P "__firstlineno__" 218 (.int 4 217),dE P "__static_attributes__" 219 (.ref 35),dE P "__doc__" 220 .none] 2),#[]⟩) ::
 (nat_lit 37,⟨(.type "type"),none,(.cls ⟨Str.ofString "NoBottom",[(.ref 24)],[(.ref 37),(.ref 24),(.type "ValueError"),(.type "Exception"),(.type "BaseException"),(.type "object")],36,Str.ofString "NoBottom",true,[],[],false,none,false⟩),#[some (.ref 28),none,some (sV "NoBottom" 207),some (sV "NoBottom" 215),some (.builtin "ValueError.__new__"),some (.bool true)]⟩) ::
 (nat_lit 40,⟨(.type "tuple"),none,(.seq #[(.ref 24)] 0),#[]⟩) ::
 (nat_lit 47,⟨(.type "tuple"),none,(.seq #[] 0),#[]⟩) ::
 (nat_lit 48,⟨(.type "dict"),none,(.dict #[dE P "__module__" 230 (sV "stepgrove.errors" 187),dE P "__firstlineno__" 234 (.int 6 233),dE P "__static_attributes__" 235 (.ref 47),dE P "__doc__" 236 .none] 2),#[]⟩) ::
 (nat_lit 49,⟨(.type "type"),none,(.cls ⟨Str.ofString "NoTree",[(.ref 24)],[(.ref 49),(.ref 24),(.type "ValueError"),(.type "Exception"),(.type "BaseException"),(.type "object")],48,Str.ofString "NoTree",true,[],[],false,none,false⟩),#[some (.ref 40),none,some (sV "NoTree" 223),some (sV "NoTree" 231),some (.builtin "ValueError.__new__"),some (.bool true)]⟩) ::
 (nat_lit 52,⟨(.type "tuple"),none,(.seq #[(.ref 24)] 0),#[]⟩) ::
 (nat_lit 59,⟨(.type "tuple"),none,(.seq #[] 0),#[]⟩) ::
 (nat_lit 60,⟨(.type "dict"),none,(.dict #[dE P "__module__" 246 (sV "stepgrove.errors" 187),dE P "__firstlineno__" 250 (.int 8 249),dE P "__static_attributes__" 251 (.ref 59),dE P "__doc__" 252 .none] 2),#[]⟩) ::
 (nat_lit 61,⟨(.type "type"),none,(.cls ⟨Str.ofString "NoWeighing",[(.ref 24)],[(.ref 61),(.ref 24),(.type "ValueError"),(.type "Exception"),(.type "BaseException"),(.type "object")],60,Str.ofString "NoWeighing",true,[],[],false,none,false⟩),#[some (.ref 52),none,some (sV "NoWeighing" 239),some (sV "NoWeighing" 247),some (.builtin "ValueError.__new__"),some (.bool true)]⟩) ::
 (nat_lit 64,⟨(.type "tuple"),none,(.seq #[(.ref 24)] 0),#[]⟩) ::
 (nat_lit 71,⟨(.type "tuple"),none,(.seq #[] 0),#[]⟩) ::
 (nat_lit 72,⟨(.type "dict"),none,(.dict #[dE P "__module__" 262 (sV "stepgrove.errors" 187),dE P "__firstlineno__" 266 (.int 10 265),dE P "__static_attributes__" 267 (.ref 71),dE P "__doc__" 268 .none] 2),#[]⟩) ::
 (nat_lit 73,⟨(.type "type"),none,(.cls ⟨Str.ofString "TooMany",[(.ref 24)],[(.ref 73),(.ref 24),(.type "ValueError"),(.type "Exception"),(.type "BaseException"),(.type "object")],72,Str.ofString "TooMany",true,[],[],false,none,false⟩),#[some (.ref 64),none,some (sV "TooMany" 255),some (sV "TooMany" 263),some (.builtin "ValueError.__new__"),some (.bool true)]⟩) ::
 (nat_lit 81,cO "is_tree" 275 14 1 3 76 true 77 .none (.ref 78) (.ref 79) (.ref 80) 281) ::
 (nat_lit 82,fO "is_tree" 8 "stepgrove.trees" 271 81) ::
 (nat_lit 88,cO "trees_of" 284 23 1 3 83 true 84 .none (.ref 85) (.ref 86) (.ref 87) 292) ::
 (nat_lit 89,fO "trees_of" 9 "stepgrove.trees" 271 88) ::
 (nat_lit 95,cO "trees_to" 295 33 1 3 90 true 91 .none (.ref 92) (.ref 93) (.ref 94) 301) ::
 (nat_lit 96,fO "trees_to" 10 "stepgrove.trees" 271 95) ::
 (nat_lit 102,cO "refuse_no_tree" 304 40 1 3 97 true 98 .none (.ref 99) (.ref 100) (.ref 101) 308) ::
 (nat_lit 103,fO "refuse_no_tree" 11 "stepgrove.trees" 271 102) ::
 (nat_lit 109,cO "in_falling_order" 311 43 1 3 104 true 105 .none (.ref 106) (.ref 107) (.ref 108) 315) ::
 (nat_lit 110,fO "in_falling_order" 12 "stepgrove.trees" 271 109) ::
 (nat_lit 114,cO "knots_within" 318 45 1 3 111 true 112 .none .none .none (.ref 113) 321) ::
 (nat_lit 115,fO "knots_within" 13 "stepgrove.trees" 271 114) ::
 (nat_lit 121,cO "trees_one_larger" 324 47 1 3 116 true 117 .none (.ref 118) (.ref 119) (.ref 120) 332) ::
 (nat_lit 122,fO "trees_one_larger" 14 "stepgrove.trees" 271 121) ::
 (nat_lit 128,cO "tree_cuts" 337 54 1 3 123 true 124 .none (.ref 125) (.ref 126) (.ref 127) 341) ::
 (nat_lit 129,fO "tree_cuts" 16 "stepgrove.cuts" 335 128) ::
 (nat_lit 133,cO "cuts_within" 344 57 1 3 130 true 131 .none .none .none (.ref 132) 347) ::
 (nat_lit 134,fO "cuts_within" 17 "stepgrove.cuts" 335 133) ::
 (nat_lit 140,cO "fraction_of" 352 68 2 3 135 true 136 .none (.ref 137) (.ref 138) (.ref 139) 358) ::
 (nat_lit 141,fO "fraction_of" 19 "stepgrove.fracs" 350 140) ::
 (nat_lit 147,cO "frac_times" 361 75 2 3 142 true 143 .none (.ref 144) (.ref 145) (.ref 146) 366) ::
 (nat_lit 148,fO "frac_times" 20 "stepgrove.fracs" 350 147) ::
 (nat_lit 154,cO "is_fraction" 369 77 1 3 149 true 150 .none (.ref 151) (.ref 152) (.ref 153) 373) ::
 (nat_lit 155,fO "is_fraction" 21 "stepgrove.fracs" 350 154) ::
 (nat_lit 161,cO "are_fractions" 376 83 1 3 156 true 157 .none (.ref 158) (.ref 159) (.ref 160) 381) ::
 (nat_lit 162,fO "are_fractions" 22 "stepgrove.fracs" 350 161) ::
 (nat_lit 168,cO "is_whole" 384 90 1 3 163 true 164 .none (.ref 165) (.ref 166) (.ref 167) 388) ::
 (nat_lit 169,fO "is_whole" 23 "stepgrove.fracs" 350 168) ::
 (nat_lit 175,cO "greatest_divisor" 391 92 2 3 170 true 171 .none (.ref 172) (.ref 173) (.ref 174) 399) ::
 (nat_lit 176,fO "greatest_divisor" 24 "stepgrove.fracs" 350 175) ::
 (nat_lit 182,cO "common_bottom" 402 100 1 3 177 true 178 .none (.ref 179) (.ref 180) (.ref 181) 408) ::
 (nat_lit 183,fO "common_bottom" 25 "stepgrove.fracs" 350 182) ::
 (nat_lit 187,cO "frac_total" 411 105 1 3 184 true 185 .none .none .none (.ref 186) 414) ::
 (nat_lit 188,fO "frac_total" 26 "stepgrove.fracs" 350 187) ::
 (nat_lit 194,cO "power_of" 417 108 2 3 189 true 190 .none (.ref 191) (.ref 192) (.ref 193) 425) ::
 (nat_lit 195,fO "power_of" 27 "stepgrove.fracs" 350 194) ::
 (nat_lit 196,⟨(.type "tuple"),none,(.seq #[(.int 0 430),(.int 1 431),(.int 2 432),(.int 4 433),(.int 8 434),(.int 17 435),(.int 37 436),(.int 85 437)] 0),#[]⟩) ::
 (nat_lit 202,cO "weighing_reach" 439 121 1 3 197 true 198 .none (.ref 199) (.ref 200) (.ref 201) 443) ::
 (nat_lit 203,fO "weighing_reach" 30 "stepgrove.weights" 428 202) ::
 (nat_lit 209,cO "refuse_no_weighing" 446 124 1 3 204 true 205 .none (.ref 206) (.ref 207) (.ref 208) 450) ::
 (nat_lit 210,fO "refuse_no_weighing" 31 "stepgrove.weights" 428 209) ::
 (nat_lit 214,cO "weighing_undone" 455 128 1 3 211 true 212 .none .none .none (.ref 213) 458) ::
 (nat_lit 215,fO "weighing_undone" 33 "stepgrove.weighings" 453 214) ::
 (nat_lit 219,cO "weighing_turned" 461 136 2 3 216 true 217 .none .none .none (.ref 218) 464) ::
 (nat_lit 220,fO "weighing_turned" 34 "stepgrove.weighings" 453 219) ::
 (nat_lit 226,cO "weighing_mirrored" 467 139 1 3 221 true 222 .none (.ref 223) (.ref 224) (.ref 225) 471) ::
 (nat_lit 227,fO "weighing_mirrored" 35 "stepgrove.weighings" 453 226) ::
 (nat_lit 233,cO "cut_share" 474 141 3 3 228 true 229 .none (.ref 230) (.ref 231) (.ref 232) 483) ::
 (nat_lit 234,fO "cut_share" 36 "stepgrove.weighings" 453 233) ::
 (nat_lit 240,cO "frac_power" 486 148 2 3 235 true 236 .none (.ref 237) (.ref 238) (.ref 239) 491) ::
 (nat_lit 241,fO "frac_power" 37 "stepgrove.weighings" 453 240) ::
 (nat_lit 247,cO "_law_cell" 496 151 2 3 242 true 243 .none (.ref 244) (.ref 245) (.ref 246) 503) ::
 (nat_lit 248,fO "_law_cell" 39 "law_stepgrove_k69_weighings_mirrored" 494 247) ::
 (nat_lit 254,cO "_law_frac" 506 160 2 3 249 true 250 .none (.ref 251) (.ref 252) (.ref 253) 513) ::
 (nat_lit 255,fO "_law_frac" 40 "law_stepgrove_k69_weighings_mirrored" 494 254) ::
 (nat_lit 261,cO "_law_add" 516 168 2 3 256 true 257 .none (.ref 258) (.ref 259) (.ref 260) 521) ::
 (nat_lit 262,fO "_law_add" 41 "law_stepgrove_k69_weighings_mirrored" 494 261) ::
 (nat_lit 268,cO "_law_mul" 524 170 2 3 263 true 264 .none (.ref 265) (.ref 266) (.ref 267) 529) ::
 (nat_lit 269,fO "_law_mul" 42 "law_stepgrove_k69_weighings_mirrored" 494 268) ::
 (nat_lit 275,cO "_law_all" 532 172 1 3 270 true 271 .none (.ref 272) (.ref 273) (.ref 274) 538) ::
 (nat_lit 276,fO "_law_all" 43 "law_stepgrove_k69_weighings_mirrored" 494 275) ::
 (nat_lit 280,cO "_law_kept" 541 177 1 3 277 true 278 .none .none .none (.ref 279) 544) ::
 (nat_lit 281,fO "_law_kept" 44 "law_stepgrove_k69_weighings_mirrored" 494 280) ::
 (nat_lit 285,cO "_law_longer" 547 179 1 3 282 true 283 .none .none .none (.ref 284) 550) ::
 (nat_lit 286,fO "_law_longer" 45 "law_stepgrove_k69_weighings_mirrored" 494 285) ::
 (nat_lit 292,cO "_law_trees" 553 184 1 3 287 true 288 .none (.ref 289) (.ref 290) (.ref 291) 562) ::
 (nat_lit 293,fO "_law_trees" 46 "law_stepgrove_k69_weighings_mirrored" 494 292) ::
 (nat_lit 297,cO "_law_knots" 565 194 1 3 294 true 295 .none .none .none (.ref 296) 568) ::
 (nat_lit 298,fO "_law_knots" 47 "law_stepgrove_k69_weighings_mirrored" 494 297) ::
 (nat_lit 304,cO "_law_weighing" 571 196 3 3 299 true 300 .none (.ref 301) (.ref 302) (.ref 303) 581) ::
 (nat_lit 305,fO "_law_weighing" 48 "law_stepgrove_k69_weighings_mirrored" 494 304) ::
 (nat_lit 309,cO "_law_is" 584 206 1 3 306 true 307 .none .none .none (.ref 308) 587) ::
 (nat_lit 310,fO "_law_is" 49 "law_stepgrove_k69_weighings_mirrored" 494 309) ::
 (nat_lit 314,cO "_law_same" 590 210 2 3 311 true 312 .none .none .none (.ref 313) 593) ::
 (nat_lit 315,fO "_law_same" 50 "law_stepgrove_k69_weighings_mirrored" 494 314) ::
 (nat_lit 319,cO "_law_subsets" 596 214 1 3 316 true 317 .none .none .none (.ref 318) 599) ::
 (nat_lit 320,fO "_law_subsets" 51 "law_stepgrove_k69_weighings_mirrored" 494 319) ::
 (nat_lit 324,cO "_law_composed" 602 223 3 3 321 true 322 .none .none .none (.ref 323) 605) ::
 (nat_lit 325,fO "_law_composed" 52 "law_stepgrove_k69_weighings_mirrored" 494 324) ::
 (nat_lit 331,cO "law" 608 232 1 3 326 true 327 .none (.ref 328) (.ref 329) (.ref 330) 620) ::
 (nat_lit 332,fO "law" 53 "law_stepgrove_k69_weighings_mirrored" 494 331)::[]
abbrev qX:Program:=view Ex [1,2,3,4,5,7,8,9,10,11,12,13,14,16,17,19,20,21,22,23,24,25,26,27,29,30,31,33,34,35,36,37,39,40,41,42,43,44,45,46,47,48,49,50,51,52,53]
noncomputable abbrev hX:Hook:=kHook kH [nat_lit 2,nat_lit 3,nat_lit 15,nat_lit 22,nat_lit 23,nat_lit 24,nat_lit 25,nat_lit 28,nat_lit 35,nat_lit 36,nat_lit 37,nat_lit 40,nat_lit 47,nat_lit 48,nat_lit 49,nat_lit 52,nat_lit 59,nat_lit 60,nat_lit 61,nat_lit 64,nat_lit 71,nat_lit 72,nat_lit 73,nat_lit 81,nat_lit 82,nat_lit 88,nat_lit 89,nat_lit 95,nat_lit 96,nat_lit 102,nat_lit 103,nat_lit 109,nat_lit 110,nat_lit 114,nat_lit 115,nat_lit 121,nat_lit 122,nat_lit 128,nat_lit 129,nat_lit 133,nat_lit 134,nat_lit 140,nat_lit 141,nat_lit 147,nat_lit 148,nat_lit 154,nat_lit 155,nat_lit 161,nat_lit 162,nat_lit 168,nat_lit 169,nat_lit 175,nat_lit 176,nat_lit 182,nat_lit 183,nat_lit 187,nat_lit 188,nat_lit 194,nat_lit 195,nat_lit 196,nat_lit 202,nat_lit 203,nat_lit 209,nat_lit 210,nat_lit 214,nat_lit 215,nat_lit 219,nat_lit 220,nat_lit 226,nat_lit 227,nat_lit 233,nat_lit 234,nat_lit 240,nat_lit 241,nat_lit 247,nat_lit 248,nat_lit 254,nat_lit 255,nat_lit 261,nat_lit 262,nat_lit 268,nat_lit 269,nat_lit 275,nat_lit 276,nat_lit 280,nat_lit 281,nat_lit 285,nat_lit 286,nat_lit 292,nat_lit 293,nat_lit 297,nat_lit 298,nat_lit 304,nat_lit 305,nat_lit 309,nat_lit 310,nat_lit 314,nat_lit 315,nat_lit 319,nat_lit 320,nat_lit 324,nat_lit 325,nat_lit 331,nat_lit 332] (fun _=>by kernel_rfl)
noncomputable def dX:DefRec:=⟨Str.ofString "law",Fh (top 53),Ds (top 53),AR (top 53),⟨232,0,246,71⟩⟩
theorem kx:B4.wellSaid=true:=(congrFun PySem.W.Fast.te9446332074065402090 _).trans (by kernel_rfl)
theorem mG(w:World)(os:OsState):topGo treeTable Ex w 11 Opn.IJ 12 ⟨boot_heap w.params,#[],boot_drawn,boot_toks,os⟩ (topStub Ex)=some (Opn.sA w os,⟨denote treeTable (Opn.cB Ex),Opn.cB Ex,Opn.q0,Opn.bB⟩):=by kernel_rfl
theorem ma(w:World)(os:OsState):segRun treeTable Ex w 11 Opn.IJ 1 1 (Opn.sA w os) (blockOf (behindTheImports Ex) (Opn.OI Ex) (Opn.cB Ex) Opn.q0 Opn.bB)=some (.next,(Opn.sB w os).abs,Opn.cB Ex,Opn.q0):=by kernel_rfl
theorem lz(w:World)(s:Shared):topRun treeTable Ex w 11 Opn.IJ 2 s (restOf [] (Opn.OI Ex) (Opn.cB Ex) ⟨232,0,246,71⟩ Opn.bB)=some s:=by kernel_rfl
theorem lj(w:World)(os:OsState):Opn.WK Ex 2314 w os=some (.next,Opn.WT Ex 2314 w os,Opn.cB Ex,⟨232,0,246,71⟩):=by kernel_rfl
noncomputable abbrev sX(w:World)(os:OsState):Shared:=(Opn.WT Ex 2314 w os).abs
theorem Pb(w:World)(os:OsState):(staticsOk (importedModules Ex.main.body) (boot_heap w.params) (sX w os).heap&&namesBound Ex (sX w os).heap&&gensDone (sX w os)&&laidKept (boot_heap w.params) (sX w os).heap)=true:=by kernel_rfl
theorem kX(w:World)(os:OsState):hX.obs (sX w os)=hX.val w:=by kernel_rfl
noncomputable abbrev jY:Shared→Bool:=fun s=>xlAt qX [] s&&recOk (RowW.records B4.row.toRowW) s
theorem j4(w:World)(os:OsState):openSeen qX [] (importedModules Ex.main.body) jY true (sX w os)=openGood qX []:=by kernel_rfl
theorem kK(w:World):(fencedOpening treeTable Ex w 4752).map (fun s=>(s.heap,s.gens,s.drawn,s.toks))=some (boot_heap w.params,#[],boot_drawn,boot_toks):=boot_open (p:=Ex) (N:=4752) (by kernel_rfl) (by kernel_rfl) (fun _=>by kernel_rfl) w
theorem kW:LeftO Ex qX [] jY hX.obs hX.val 4752:=Opn.dF (M:=2329) (S:=sX) kK Opn.j0 (fun w os=>Opn.gB (mG w os) (ma w os) (lj w os) (lz w) (by kernel_rfl)) (by kernel_rfl) Pb j4 kX
theorem mi:defOf qX B4.row.name=some (dX,[]):=by kernel_rfl
theorem lx:Ex.theDef B4.row.name=some (dX.params,dX.body,dX.scope):=by kernel_rfl
theorem nG:kwWritten? dX.params.kwonlyargs dX.params.kw_defaults=some []:=by kernel_rfl
theorem mU:(chainsOk qX&&opensWell B4.row.prog&&(frees B4.row.toRowW&&B4.row.within.isEmpty))=true:=by kernel_rfl
theorem kq:Ex.bare:=⟨rfl,rfl,rfl,rfl,rfl,by decide +kernel⟩
theorem openX(hw:B4.row.toRowW.promised)(hc:WalkO qX [] (XL qX []) hX.says B4.row.toRowW dX [] (fun f vs=>PySem.call f vs)):B4.Holds :=
 holds_law kx fun said=>holds_open (r:=B4.row) (q:=qX) (loose:=[]) (Xt:=jY) (XP:=XL qX []) (Yf:=hX.obs) (Ya:=hX.val) (YP:=hX.says) (d:=dX) (kwd:=[]) (N:=4752) kW hX.of hX.keeps (fun s e=>xl_of s (Bool.and_eq_true_iff.mp e).1) XL.keeps mi lx nG (fun s e=>recFacts_of (Bool.and_eq_true_iff.mp e).2) rfl said mU kq hw hc
end
section
open PySem.W
theorem fnX{w:World}{mg:Str→Option Value}{h:Heap}(X:(kH w.params).In h)(G:h.Ns mainGlobals mg)(n:String)(i:Nat)(m:String)(t c f:Nat)(ps:List Str)
 (ha:nsIn (kH w.params) mainGlobals (Str.ofString n)=some (some (.ref f)):=by kernel_rfl)(hl:(kH w.params).lookup f=some (fO n i m t c):=by kernel_rfl)(hc:codeIn (kH w.params) (.ref c) (Str.ofString n)=true:=by kernel_rfl)(hk:keepIn (kH w.params) (.ref f)=true:=by kernel_rfl)
 (hb:∀(kV doc pm:Value) (an:Option Addr) (cdv ct:Value) (us:List Value),us.length=ps.length→bindArgs (fnOf (Str.ofString n) (Str.ofString n) (Fh (top i)) (Ds (top i)) (AR (top i)) .none kV doc pm an cdv ct) ⟨us,[]⟩=pure (ps.zip us):=by first | (exact fun _ _ _ _ _ _ us hl=>match us,hl with | [_],_=>rfl) | (exact fun _ _ _ _ _ _ us hl=>match us,hl with | [_,_],_=>rfl) | (exact fun _ _ _ _ _ _ us hl=>match us,hl with | [_,_,_],_=>rfl) | (exact fun _ _ _ _ _ _ us hl=>match us,hl with | [_,_,_,_],_=>rfl) | (exact fun _ _ _ _ _ _ us hl=>match us,hl with | [_,_,_,_,_],_=>rfl)) :
  Fn (kH w.params) mg (Str.ofString n) (top i) ps f (fnOf (Str.ofString n) (Str.ofString n) (Fh (top i)) (Ds (top i)) (AR (top i)) .none .none .none (.str (Str.ofString m) t) none (.ref c) .none) :=
 ⟨XY hl hc hk,(XY (st:=top i) hl hc hk).binds hb,mg_of X G ha⟩
set_option maxHeartbeats 4000000 in
theorem mr(w:World)(mg:Str→Option Value)(fa:Addr)(h:Heap)(X:(kH w.params).In h)(G:h.Ns mainGlobals mg)(hfa:mg "law" = some (.ref fa)) :
  ∃fd:FuncData,(∀(s:Shared) (v:Value),BindsTo s fd ⟨[v],[]⟩ [("_law_script",v)])∧∀base:Heap,(kH w.params).In base→base.Ns mainGlobals mg→AL B4.prog w (kH w.params) mg base Ao 22 fa fd ["_law_script"] (W9 (kH w.params)):=by
 have e:=hfa.symm.trans (mg_of X G (v:=.ref 332) (by kernel_rfl));cases e;have Ef:=fnX X G "is_tree" 8 "stepgrove.trees" 271 81 82 ["thing"];have Ib:=fnX X G "trees_of" 9 "stepgrove.trees" 271 88 89 ["many"];have Ei:=fnX X G "trees_to" 10 "stepgrove.trees" 271 95 96 ["most"];have Eh:=fnX X G "refuse_no_tree" 11 "stepgrove.trees" 271 102 103 ["thing"];have BJ:=fnX X G "in_falling_order" 12 "stepgrove.trees" 271 109 110 ["boughs"];have CJ:=fnX X G "knots_within" 13 "stepgrove.trees" 271 114 115 ["tree"];have Bs:=fnX X G "trees_one_larger" 14 "stepgrove.trees" 271 121 122 ["tree"];have Hf:=fnX X G "tree_cuts" 16 "stepgrove.cuts" 335 128 129 ["tree"];have CV:=fnX X G "cuts_within" 17 "stepgrove.cuts" 335 133 134 ["tree"];have DJ:=fnX X G "fraction_of" 19 "stepgrove.fracs" 350 140 141 ["top", "bottom"];have Dw:=fnX X G "frac_times" 20 "stepgrove.fracs" 350 147 148 ["one", "other"];have GD:=fnX X G "is_fraction" 21 "stepgrove.fracs" 350 154 155 ["thing"];have FD:=fnX X G "are_fractions" 22 "stepgrove.fracs" 350 161 162 ["thing"];have Gq:=fnX X G "is_whole" 23 "stepgrove.fracs" 350 168 169 ["thing"];have BI:=fnX X G "greatest_divisor" 24 "stepgrove.fracs" 350 175 176 ["one", "other"];have FA:=fnX X G "common_bottom" 25 "stepgrove.fracs" 350 182 183 ["bottoms"];have Gx:=fnX X G "frac_total" 26 "stepgrove.fracs" 350 187 188 ["some"];have GY:=fnX X G "power_of" 27 "stepgrove.fracs" 350 194 195 ["base", "power"];have CH:=fnX X G "weighing_reach" 30 "stepgrove.weights" 428 202 203 ["weighing"];have DZ:=fnX X G "refuse_no_weighing" 31 "stepgrove.weights" 428 209 210 ["thing"];have EJ:=fnX X G "weighing_undone" 33 "stepgrove.weighings" 453 214 215 ["weighing"];have EK:=fnX X G "weighing_turned" 34 "stepgrove.weighings" 453 219 220 ["weighing", "part"];have Ci:=fnX X G "weighing_mirrored" 35 "stepgrove.weighings" 453 226 227 ["weighing"];have Hd:=fnX X G "cut_share" 36 "stepgrove.weighings" 453 233 234 ["cut", "ahead", "behind"];have Gy:=fnX X G "frac_power" 37 "stepgrove.weighings" 453 240 241 ["part", "power"];have CP:=fnX X G "_law_cell" 39 "law_stepgrove_k69_weighings_mirrored" 494 247 248 ["_law_script", "_law_k"];have CQ:=fnX X G "_law_frac" 40 "law_stepgrove_k69_weighings_mirrored" 494 254 255 ["_law_top", "_law_bottom"];have Ig:=fnX X G "_law_add" 41 "law_stepgrove_k69_weighings_mirrored" 494 261 262 ["_law_one", "_law_other"];have Cq:=fnX X G "_law_mul" 42 "law_stepgrove_k69_weighings_mirrored" 494 268 269 ["_law_one", "_law_other"];have Ic:=fnX X G "_law_all" 43 "law_stepgrove_k69_weighings_mirrored" 494 275 276 ["_law_factors"];have CO:=fnX X G "_law_kept" 44 "law_stepgrove_k69_weighings_mirrored" 494 280 281 ["_law_tree"];have CZ:=fnX X G "_law_longer" 45 "law_stepgrove_k69_weighings_mirrored" 494 285 286 ["_law_tree"];have Gr:=fnX X G "_law_trees" 46 "law_stepgrove_k69_weighings_mirrored" 494 292 293 ["_law_most"];have C4:=fnX X G "_law_knots" 47 "law_stepgrove_k69_weighings_mirrored" 494 297 298 ["_law_tree"];have E9:=fnX X G "_law_weighing" 48 "law_stepgrove_k69_weighings_mirrored" 494 304 305 ["_law_script", "_law_at", "_law_reach"]
 have Jj:=fnX X G "_law_is" 49 "law_stepgrove_k69_weighings_mirrored" 494 309 310 ["_law_found"];have F5:=fnX X G "_law_same" 50 "law_stepgrove_k69_weighings_mirrored" 494 314 315 ["_law_found", "_law_due"];have CL:=fnX X G "_law_subsets" 51 "law_stepgrove_k69_weighings_mirrored" 494 319 320 ["_law_tree"];have D9:=fnX X G "_law_composed" 52 "law_stepgrove_k69_weighings_mirrored" 494 324 325 ["_law_trees_here", "_law_one", "_law_other"];have lB:=fnX X G "law" 53 "law_stepgrove_k69_weighings_mirrored" 494 331 332 ["_law_script"];have Bm:mg "len" = none:=mg_none_of X G (by kernel_rfl);have Bt:mg "range" = none:=mg_none_of X G (by kernel_rfl);have Jz:mg "abs" = none:=mg_none_of X G (by kernel_rfl);have Al:mg "isinstance" = none:=mg_none_of X G (by kernel_rfl);have Mw:mg "int" = none:=mg_none_of X G (by kernel_rfl);have Kl:mg "bool" = none:=mg_none_of X G (by kernel_rfl);have Bx:mg "tuple" = none:=mg_none_of X G (by kernel_rfl);have F8:mg "list" = none:=mg_none_of X G (by kernel_rfl);have Dq:mg "enumerate" = none:=mg_none_of X G (by kernel_rfl);have G5:mg "sum" = none:=mg_none_of X G (by kernel_rfl);have NB:mg "zip" = none:=mg_none_of X G (by kernel_rfl);have A9:mg "sorted" = none:=mg_none_of X G (by kernel_rfl);have Mx:mg "set" = none:=mg_none_of X G (by kernel_rfl);have S6:mg "dict" = none:=mg_none_of X G (by kernel_rfl);have a_MK:nsIn (kH w.params) mainGlobals "MOST_KNOTS" = some (some (.int 7 273)):=by kernel_rfl
 have a_WL:nsIn (kH w.params) mainGlobals "WEIGHING_LENGTHS" = some (some (.ref 196)):=by kernel_rfl
 have a_GroveError:PySem.W.nsIn (kH w.params) mainGlobals "GroveError" = some (some (.ref 24)):=by kernel_rfl
 have a_NoWeighing:PySem.W.nsIn (kH w.params) mainGlobals "NoWeighing" = some (some (.ref 61)):=by kernel_rfl
 have a_TooMany:PySem.W.nsIn (kH w.params) mainGlobals "TooMany" = some (some (.ref 73)):=by kernel_rfl
 have iu:=PySem.W.mg_of X G a_GroveError;have Ti:=PySem.W.mg_of X G a_NoWeighing;have YM:=PySem.W.mg_of X G a_TooMany;have X_TooMany:Exc (kH w.params) mg "TooMany" 73:=⟨YM,by kernel_rfl⟩;have be_TooMany:Vr (kH w.params) 73 24 true:=⟨by kernel_rfl,by kernel_rfl,by kernel_rfl,by kernel_rfl⟩;have xk_TooMany:iH (kH w.params) 73:=⟨by kernel_rfl,by kernel_rfl,by kernel_rfl,by kernel_rfl,by kernel_rfl,by kernel_rfl,by kernel_rfl,by kernel_rfl⟩;have tV_TooMany:PySem.W.kitOne (kH w.params) (.ref 73) (.type "ValueError")=some true:=by kernel_rfl
 have t_TooMany_GroveError:PySem.W.kitOne (kH w.params) (.ref 73) (.ref 24)=some true:=by kernel_rfl
 have t_TooMany_NoWeighing:PySem.W.kitOne (kH w.params) (.ref 73) (.ref 61)=some false:=by kernel_rfl
 have t_TooMany_TooMany:PySem.W.kitOne (kH w.params) (.ref 73) (.ref 73)=some true:=by kernel_rfl
 have X_NoWeighing:Exc (kH w.params) mg "NoWeighing" 61:=⟨Ti,by kernel_rfl⟩;have be_NoWeighing:Vr (kH w.params) 61 24 true:=⟨by kernel_rfl,by kernel_rfl,by kernel_rfl,by kernel_rfl⟩;have xk_NoWeighing:iH (kH w.params) 61:=⟨by kernel_rfl,by kernel_rfl,by kernel_rfl,by kernel_rfl,by kernel_rfl,by kernel_rfl,by kernel_rfl,by kernel_rfl⟩;have tV_NoWeighing:PySem.W.kitOne (kH w.params) (.ref 61) (.type "ValueError")=some true:=by kernel_rfl
 have t_NoWeighing_GroveError:PySem.W.kitOne (kH w.params) (.ref 61) (.ref 24)=some true:=by kernel_rfl
 have t_NoWeighing_NoWeighing:PySem.W.kitOne (kH w.params) (.ref 61) (.ref 61)=some true:=by kernel_rfl
 have t_NoWeighing_TooMany:PySem.W.kitOne (kH w.params) (.ref 61) (.ref 73)=some false:=by kernel_rfl
 have hK:R5 (kH w.params)=true:=by kernel_rfl
 refine⟨fnOf (Str.ofString "law") (Str.ofString "law") (Fh (top 53)) (Ds (top 53)) (AR (top 53)) .none .none .none (.str (Str.ofString "law_stepgrove_k69_weighings_mirrored") 494) none (.ref 331) .none,fun s v=>.of_eq rfl,fun base _ _=>?_⟩;have EY:=PySem.W.mg_of X G a_MK;have CI:=PySem.W.mg_of X G a_WL;have o_WEIGHING_LENGTHS:Own (kH w.params) 196 [0,1,2,4,8,17,37,85]:=jV (by kernel_rfl);have ZG:=Lr (P:=B4.prog) (w:=w) (base:=base) BI Jz;have fj:=QN DJ BI ZG;have Ec:=toT (Rg Dw DJ fj);have IW:=lV (UY (P:=B4.prog) (w:=w) (base:=base) GY);have mq:=Nq FA BI ZG;have ml:=RX Gx FA DJ mq (fj.mono (by decide)) G5;have JX:=kU ml;have mw:=Uq (P:=B4.prog) (w:=w) (base:=base) Gq Al Mw Kl;have fM:=P6 GD Gq BI mw ZG Al Bx Bm;have mQ:=N7 FD GD fM Al F8;have GZ:=nA (q:=Gv) mQ (fun l d v H Q E hd hq=>⟨l,d,v,rfl,hd,hq H (.refl H)⟩);have Cu:=mx (Tx (P:=B4.prog) (w:=w) (base:=base) CQ Jz);have mm:=Ot (P:=B4.prog) (w:=w) (base:=base) Ef Al Bx Dq 8;have GJ:=nM (NF Eh Ef mm);have EX:=Jy (P:=B4.prog) (w:=w) (base:=base) (k:=0) CJ G5 9;have Av:=Lp (P:=B4.prog) (w:=w) (base:=base) (k:=0) BJ A9 Bx;have C9:=HD (P:=B4.prog) (w:=w) (base:=base) (k:=1) Bs BJ (Av.mono (by decide)) Dq 9;have LU:=Uo (P:=B4.prog) (w:=w) (base:=base) (k:=11) Ib Bs (C9.mono (by decide)) Bt Mx A9 EY X_TooMany;have Fl:=Ue (P:=B4.prog) (w:=w) (base:=base) (k:=12) Ei Ib (LU.mono (by decide)) Bt EY X_TooMany;have Er:=Kc (P:=B4.prog) (w:=w) (base:=base) (k:=3) DZ FD (GZ.mono (by decide)) Bm CI o_WEIGHING_LENGTHS X_NoWeighing;have Cn:=ND (P:=B4.prog) (w:=w) (base:=base) (k:=4) CH DZ (Er.mono (by decide)) Bm CI o_WEIGHING_LENGTHS;have Ey:=Kj (P:=B4.prog) (w:=w) (base:=base) (k:=1) CV BJ (Av.mono (by decide)) A9 9;have KN:=UH (P:=B4.prog) (w:=w) (base:=base) (k:=11) Hf CV (Ey.mono (by decide)) Eh (GJ.mono (by decide)) A9;have KI:=T3 (P:=B4.prog) (w:=w) (base:=base) (k:=0) Hd;have JG:=Rb (P:=B4.prog) (w:=w) (base:=base) (k:=4) Gy GY (IW.mono (by decide));have F0:=MI (P:=B4.prog) (w:=w) (base:=base) (k:=13) EJ Hd (KI.mono (by decide)) Dw (Ec.mono (by decide)) Gx (JX.mono (by decide)) Hf (KN.mono (by decide)) Ei (Fl.mono (by decide)) CH (Cn.mono (by decide)) S6 NB;have Fx:=Lx (P:=B4.prog) (w:=w) (base:=base) (k:=13) EK Gy (JG.mono (by decide)) Dw (Ec.mono (by decide)) CJ (EX.mono (by decide)) Ei (Fl.mono (by decide)) CH (Cn.mono (by decide)) NB;have D4:=LZ (P:=B4.prog) (w:=w) (base:=base) (k:=14) Ci EK (Fx.mono (by decide)) EJ (F0.mono (by decide));have Ct:=Sa (P:=B4.prog) (w:=w) (base:=base) (k:=0) CP Bm;have LY:=Ub (P:=B4.prog) (w:=w) (base:=base) (k:=1) Ig CQ (Cu.mono (by decide));have DV:=Ul (P:=B4.prog) (w:=w) (base:=base) (k:=1) Cq CQ (Cu.mono (by decide));have Cs:=MG (P:=B4.prog) (w:=w) (base:=base) (k:=0) CO A9 Bx 9;have Eu:=Kd (P:=B4.prog) (w:=w) (base:=base) (k:=10) CZ CO (Cs.mono (by decide)) Bm Bt 9;have JV:=RY (P:=B4.prog) (w:=w) (base:=base) (k:=20) Gr CZ (Eu.mono (by decide)) Bt Mx A9;have Gf:=N4 (P:=B4.prog) (w:=w) (base:=base) (k:=1) E9 CP (Ct.mono (by decide)) CQ (Cu.mono (by decide)) Bt;have Mg:=W5 (P:=B4.prog) (w:=w) (base:=base) (k:=0) Jj Kl Mw Al Bm Bx
 have He:=Th (P:=B4.prog) (w:=w) (base:=base) (k:=1) F5 Jj (Mg.mono (by decide)) Al Bm F8;have LP:=Uc (P:=B4.prog) (w:=w) (base:=base) (k:=2) Ic Cq (DV.mono (by decide));have FY:=Lj (P:=B4.prog) (w:=w) (base:=base) (k:=0) C4 G5 9;have EU:=Jx (P:=B4.prog) (w:=w) (base:=base) (k:=0) CL A9 Bx 9;have FK:=OG (P:=B4.prog) (w:=w) (base:=base) (k:=10) D9 Ig (LY.mono (by decide)) Ic (LP.mono (by decide)) Cq (DV.mono (by decide)) CL (EU.mono (by decide)) Bm Bt;have jg:=fz (P:=B4.prog) (w:=w) (base:=base) (k:=21) lB CP (Ct.mono (by decide)) D9 (FK.mono (by decide)) C4 (FY.mono (by decide)) Cq (DV.mono (by decide)) F5 (He.mono (by decide)) Gr (JV.mono (by decide)) E9 (Gf.mono (by decide)) Ci (D4.mono (by decide)) Bm F8 Bt;exact fZ hK jg
theorem walkX:WalkO qX [] (XL qX []) hX.says B4.row.toRowW dX [] (fun f vs=>PySem.call f vs) :=
 L2.eH (l:=B4) (n:=63) (k:=22) (x := "_law_script") (CX:=fun _=>Ao) (K:=kH) (sp:=fun w=>W9 (kH w.params)) rfl (by decide) rfl ⟨rfl,by decide,by decide⟩ (fun w h Y=>kIn_of Y) mr (fun _ _ a ns hl _ hS=>⟨a,ns,rfl,hS,hl,fun _=>rfl⟩) fun _ _ _ _ _ z=>z
end
end Q69
open PySem PySem.W PyProof.Rows
set_option maxRecDepth 100000 in
theorem PySem.Challenge.cw_stepgrove_k69_weighings_mirrored_holds : PySem.Challenge.rw_stepgrove_k69_weighings_mirrored.Holds := by
  refine Q69.openX ?hw Q69.walkX
  w_witness2
#print axioms PySem.Challenge.cw_stepgrove_k69_weighings_mirrored_holds
