import PyProof.Rows.All
import Wide.All
import OpenK.AllK
import Wide.FinOn
import Lean
import PyProof.EqAt
import PyProof.EqKinds
import PyProof.TupleCall
import PySem.Challenge.RW_stepgrove_k48_orders_of_tables
set_option Elab.async false
set_option linter.all false
set_option maxRecDepth 100000
abbrev MD:=List PySem.PyData→Option PySem.PyData
abbrev Fg:=PySem.W.Frag
abbrev Wb:=@PySem.wpAny_bind
abbrev PD:=PySem.PyData
abbrev SD:=PySem.Shared
abbrev VL:=PySem.Value
abbrev AD:=PySem.Addr
abbrev aA:=@PySem.wpAny_pure
abbrev aB:=@Option.bind_eq_some_iff
abbrev aC:=@PySem.Heap.get?_push_of_some
abbrev aD:=@List.getElem?_eq_some_iff
abbrev aE:=@PySem.Heap.lt_size
abbrev aF:=@Nat.le_refl
abbrev aG:=@Option.map_eq_some_iff
abbrev aH:=@PySem.Heap.get?_push_size
abbrev aI:=@List.getElem?_eq_getElem
abbrev aJ:=@Nat.ne_of_lt
abbrev aK:=@Nat.lt_of_lt_of_le
abbrev aL:=@Bool.false_ne_true
abbrev aM:=@PySem.PassesOwn.never
abbrev aN:=@List.mem_cons
abbrev aO:=@Nat.le_trans
abbrev aP:=@List.mem_cons_of_mem
abbrev aQ:=@List.mem_of_getElem?
abbrev aR:=@List.mem_cons_self
abbrev aS:=@List.mem_append_right
abbrev aT:=@PySem.wpAny_call_entry
abbrev aU:=@List.mem_map
abbrev aV:=@PySem.wpAny_holding
abbrev aW:=@Nat.pow_le_pow_right
abbrev aX:=@PySem.wpAny_seqItems
abbrev aY:=@PySem.boot_len
abbrev aZ:=@PySem.wpAny_field
abbrev aa:=@PySem.wpAny_callSpecial?_slot
abbrev ae:=@Nat.lt_of_le_of_lt
abbrev af:=@PySem.Heap.SameBut.update
abbrev ag:=@PySem.wpAny_setField_rec
abbrev ah:=@Option.some.inj
abbrev ai:=@List.all_eq_true
abbrev aj:=@of_decide_eq_true
abbrev ak:=@PySem.wpAny_mono
abbrev ao:=@Nat.not_lt_zero
abbrev aq:=@PySem.wpAny_newObj_type
abbrev ar:=@Bool.eq_false_iff
abbrev au:=@PyProof.Rows.boot_isinstance
abbrev av:=@PyProof.Rows.callWith_type1
abbrev aw:=@PySem.F.plainAttrs_list
abbrev ax:=@List.eq_nil_of_length_eq_zero
abbrev ay:=@Nat.mul_le_mul_left
abbrev az:=@Nat.lt_succ_of_lt
abbrev bA:=@PySem.wpAny_setState_of
abbrev bC:=@List.map_inj_left
abbrev bD:=@PySem.W.kia_one
abbrev bE:=@Nat.zero_le
abbrev bF:=@List.mem_range
abbrev bG:=@Nat.le_of_lt
abbrev bH:=@of_decide_eq_false
abbrev bI:=@PySem.F.slot_list_append
abbrev bJ:=@PySem.F.type_list_append
abbrev bK:=@PySem.wpAny_onRaise
abbrev bL:=@List.mem_append_left
abbrev bM:=@congrArg
abbrev bN:=@List.length_map
abbrev bO:=@List.map_congr_left
abbrev bP:=@PySem.wpAny_rule
abbrev bQ:=@decide_eq_false
abbrev bR:=@PyProof.Rows.KeyOrd.kle_refl
abbrev bS:=@Nat.ne_of_gt
abbrev bT:=@PySem.F.slot_zip_next
abbrev bU:=@List.getElem?_of_mem
abbrev bV:=@PyProof.Rows.boot_tuple
abbrev bW:=@Nat.lt_succ_self
abbrev bX:=@Nat.mul_le_mul
abbrev bY:=@PyProof.Rows.boot_list
abbrev bZ:=@List.mem_append
abbrev ba:=@PyProof.Rows.boot_sum
namespace L2
open PySem PySem.Spec PyProof.Rows
abbrev Key:=Sum Int Str
def Zb:Key→VL→Bool
 |.inl k,v=>Value.isInt k v
 |.inr x,v=>Value.isStrOf x v
def jj(w:World):Key→Int
 |.inl k=>hashInt k
 |.inr x=>hashStr w x
def Cq:∀ {k:Key} {v:VL},Zb k v=true→(∃i t,k=Sum.inl i∧v=Value.int i t)∨(∃x t,k=Sum.inr x∧v=Value.str x t)
 |.inl i,v,h=>by
  obtain⟨t,e⟩:=Value.isInt_shape (k:=i) (v:=v) h;exact .inl ⟨i,t,rfl,e⟩
 |.inr x,v,h=>by
  obtain⟨t,e⟩:=Value.isStrOf_shape (x:=x) (v:=v) h;exact .inr ⟨x,t,rfl,e⟩
def iA(a b:Int):decide ((Sum.inl a:Key)=Sum.inl b)=(a==b):=by
 by_cases e:a=b
 ·subst e;simp
 ·have h:¬(Sum.inl a:Key)=Sum.inl b:=fun q=>e (Sum.inl.inj q);rw [decide_eq_false h];exact(beq_eq_false_iff_ne.mpr e).symm
def eG(a b:Str):decide ((Sum.inr a:Key)=Sum.inr b)=decide (a=b):=by
 by_cases e:a=b
 ·subst e;simp
 ·have h:¬(Sum.inr a:Key)=Sum.inr b:=fun q=>e (Sum.inr.inj q);rw [decide_eq_false h,decide_eq_false e]
def er(a:Int)(b:Str):decide ((Sum.inl a:Key)=Sum.inr b)=false:=bQ (fun q=>nomatch q)
def ej(a:Str)(b:Int):decide ((Sum.inr a:Key)=Sum.inl b)=false:=bQ (fun q=>nomatch q)
def U4(prog:Program)(w:World):PySem.KeyKind prog w Key where
 is:=Zb
 hash:=jj w
 inj:=fun v a b ha hb=>by
  rcases Cq ha with ⟨i,t,rfl,rfl⟩|⟨x,t,rfl,rfl⟩
  ·rcases Cq hb with ⟨j,u,rfl,e⟩|⟨y,u,rfl,e⟩
   ·injection e with e1 _;rw [e1]
   ·exact nomatch e
  ·rcases Cq hb with ⟨j,u,rfl,e⟩|⟨y,u,rfl,e⟩
   ·exact nomatch e
   ·injection e with e1 _;rw [e1]
 byValue:=fun k v h=>by
  rcases Cq h with ⟨i,t,rfl,rfl⟩|⟨x,t,rfl,rfl⟩<;>rfl
 pyHash:=fun hv h=>by
  rcases Cq hv with ⟨i,t,rfl,rfl⟩|⟨x,t,rfl,rfl⟩
  ·exact wpAny_pyHash_int h
  ·exact wpAny_pyHash_str h
 eqBool:=fun hu hv h=>by
  rcases Cq hu with ⟨i,t,rfl,rfl⟩|⟨x,t,rfl,rfl⟩
  ·rcases Cq hv with ⟨j,u,rfl,rfl⟩|⟨y,u,rfl,rfl⟩
   ·rw [iA]at h;exact wpAny_eqBool_int h
   ·rw [er]at h;exact SeqAt.EqAt.int_str i t y u _ _ _ _ h
  ·rcases Cq hv with ⟨j,u,rfl,rfl⟩|⟨y,u,rfl,rfl⟩
   ·rw [ej]at h;exact SeqAt.EqAt.str_int x t j u _ _ _ _ h
   ·rw [eG]at h;exact wpAny_eqBool_str h
 «strs»:=fun k x t v h=>by
  rcases Cq h with ⟨i,u,rfl,e⟩|⟨y,u,rfl,e⟩
  ·exact nomatch e
  ·injection e with e1 _
   subst e1;cases v<;>rfl
inductive V where
 |Bb|bl (b:Bool)|int (i:Int)|str (x:Str)|MW (b:Array UInt8)|Fw (b:UInt64)|ref (a:Addr)|ty (n:String)
 deriving DecidableEq
def RelV:V→VL→Prop
 |.Bb,u=>u=Value.none
 |.bl b,u=>u=Value.bool b
 |.int i,u=>∃t,u=Value.int i t
 |.str x,u=>∃t,u=Value.str x t
 |.MW b,u=>∃t,u=Value.bytes b t
 |.Fw b,u=>∃t,u=Value.float b t
 |.ref a,u=>u=Value.ref a
 |.ty n,u=>u=Value.type n
abbrev Vals:List V→List VL→Prop:=Paired RelV
def Vals.length{xs:List V}{us:List VL}(r:Vals xs us):xs.length=us.length:=Paired.length r
def Vals.get:∀ {xs:List V} {us:List VL} {i:Nat} {x:V},Vals xs us→xs[i]? = some x→∃u,us[i]? = some u∧RelV x u
 |_,_,_,_,.nil,e=>by simp at e
 |_,_,0,_,.cons r _,e=>by simp at e;subst e;exact⟨_,rfl,r⟩
 |_,_,i+1,x,.cons _ t,e=>by
  obtain⟨u,h1,h2⟩:=Vals.get (i:=i) (x:=x) t (by simpa using e);exact⟨u,by simpa using h1,h2⟩
def Vals.set{x:V}{u:VL}(r:RelV x u):∀ {xs:List V} {us:List VL} (i:Nat),Vals xs us→Vals (xs.set i x) (us.set i u)
 |_,_,_,.nil=>.nil
 |_,_,0,.cons _ t=>.cons r t
 |_,_,i+1,.cons q t=>.cons q (Vals.set r i t)
def Vals.append:∀ {xs ys:List V} {us ws:List VL},Vals xs us→Vals ys ws→Vals (xs++ys) (us++ws)
 |_,_,_,_,.nil,s=>s
 |_,_,_,_,.cons r t,s=>.cons r (Vals.append t s)
def Vals.take:∀ {xs:List V} {us:List VL} (n:Nat),Vals xs us→Vals (xs.take n) (us.take n)
 |_,_,0,_=>.nil
 |_,_,_+1,.nil=>.nil
 |_,_,n+1,.cons r t=>.cons r (Vals.take n t)
def Vals.drop:∀ {xs:List V} {us:List VL} (n:Nat),Vals xs us→Vals (xs.drop n) (us.drop n)
 |_,_,0,r=>r
 |_,_,_+1,.nil=>.nil
 |_,_,n+1,.cons _ t=>Vals.drop n t
def Y1:Option V→Option VL→Prop
 |some v,some u=>RelV v u
 |none,none=>True
 |_,_=>False
def KV{κ:Type}:List (κ×V)→List (κ×VL)→Prop:=Paired fun(p:κ×V) (q:κ×VL)=>p.1=q.1∧RelV p.2 q.2
def kV:Key→V
 |.inl i=>.int i
 |.inr x=>.str x
inductive HO where
 |lst (xs:List V)
 |tup (xs:List V)
 |dK (kvs:List (Key×V))|dT (kvs:List (List Key×V))
 |set (S:Int→Bool) (n:Nat)
 |ins (C dx:Addr) (fs:List (Str×V))
 |own (x:Addr)
 |xd (fs:List (Str×V))
 |met (f x:Addr)
 |ei (lo hi:Int)
 |Fu (o:Obj) (u:HO)
 |Ti (ps:Array Value)
 |ext (φ:Heap→Prop)
abbrev Hp:=AD→Option HO
def upd(H:Hp)(a:AD)(o:HO):Hp:=fun b=>if b=a then some o else H b
def AL{H:Hp}{a:AD}{o:HO}:upd H a o a=some o:=by unfold upd;rw [if_pos rfl]
def AJ{H:Hp}{a b:AD}{o:HO}(h:b≠a):upd H a o b=H b:=by unfold upd;rw [if_neg h]
def Vx{H:Hp}{a b:AD}{o u:HO}(h:H a=some o)(h':H b=some u)(d:o≠u):a≠b:=by
 intro e;subst e;rw [h]at h';exact d (ah h')
def AU{H:Hp}{a b:AD}{o:HO}(h:H a=some o)(h':H b=none):a≠b:=by
 intro e;subst e;rw [h]at h';cases h'
section
variable(P:Program)(w:World)
def Cb(H:Hp)(h:Heap)(a:AD):HO→Prop
 |.lst xs=>xs.length≤sizeLine∧∃(its:List VL) (n:Nat),Vals xs its∧h.get? a=some { cls:=.type "list",data:=.seq its.toArray n }
 |.tup xs=>xs.length≤sizeLine∧∃its:List VL,Vals xs its∧IsTup h a its.toArray
 |.dK kvs=>kvs.length≤sizeLine∧(a==sysModules)=false∧∃vs,KV kvs vs∧h.DictOf (U4 P w) a vs
 |.dT kvs=>kvs.length≤sizeLine∧(a==sysModules)=false∧∃xs:List (List Key×AD×VL),
   Paired (fun(p:List Key×V) (q:List Key×AD×VL)=>p.1=q.1∧H q.2.1=some (.tup (p.1.map kV))∧RelV p.2 q.2.2) kvs xs ∧
   ∃o es ep,h.get? a=some o∧o.ExactDict∧o.data=.dict es ep∧es.toList=xs.map (entryOfKey (tupleKind (U4 P w)))∧(xs.map (·.1)).Nodup
 |.set S n=>h.SetOf (intKind P w) a S n
 |.ins C dx fs=>H dx=some (.own a)∧fs.length≤1000∧dx≠a∧h.get? a=some (PySem.W.instObj C dx) ∧
   ∃mA,h.Ns1 dx mA∧(∀f,Y1 (fs.lookup f) (mA f))∧PySem.Within mA (fs.map (·.1))
 |.own _=>∃o,h.get? a=some o
 |.xd fs=>∃mA,h.Ns1 a mA∧∀f,Y1 (fs.lookup f) (mA f)
 |.ei lo hi=>∃t u v,h.get? a=some { cls:=.type "range",data:=.fields #[.int lo t,.int hi u,.int 1 v] }
 |.Fu o u=>h.get? a=some o∧Cb H h a u
 |.Ti ps=>h.get? a=some { cls:=.none,data:=.fields ps }
 |.met f x=>h.get? a=some (PySem.W.methodObj (.ref f) (.ref x))
 |.ext φ=>φ h∧(∃o,h.get? a=some o)∧∀h1 h2:Heap,φ h1→(∀o,h1.get? a=some o→h2.get? a=some o)→φ h2
def Ek(H:Hp)(h:Heap):Prop:=∀a o,H a=some o→Cb P w H h a o
end
section
variable{P:Program}{w:World}{H H':Hp}{h h':Heap}{a:AD}{o:HO}
def Cb.lt(x:Cb P w H h a o):a<h.objs.size:=by
 cases o with
 |lst xs=>obtain⟨_,_,_,_,e⟩:=x;exact aE e
 |tup xs=>obtain⟨_,_,_,p⟩:=x;exact p.lt
 |dK kvs=>obtain⟨_,_,_,_,o,_,_,e,_⟩:=x;exact aE e
 |dT kvs=>obtain⟨_,_,_,_,o,_,_,e,_⟩:=x;exact aE e
 |set S n=>obtain⟨o,_,_,_,e,_⟩:=x;exact aE e
 |ins C dx fs=>obtain⟨_,_,_,e,_⟩:=x;exact aE e
 |own y=>obtain⟨_,e⟩:=x;exact aE e
 |xd fs=>obtain⟨_,⟨_,_,_,e,_⟩,_⟩:=x;exact aE e
 |ei lo hi=>obtain⟨_,_,_,e⟩:=x;exact aE e
 |Fu ob u=>obtain⟨e,_⟩:=x;exact aE e
 |Ti ps=>exact aE (show h.get? a=some _ from x)
 |met f y=>exact aE (show h.get? a=some _ from x)
 |ext φ=>obtain⟨_,⟨_,e⟩,_⟩:=x;exact aE e
def Paired.gf{α β:Type}{F G:α→β→Prop}:∀ {l₁:List α} {l₂:List β},Paired F l₁ l₂→(∀a b,F a b→G a b)→Paired G l₁ l₂
 |_,_,.nil,_=>.nil
 |_,_,.cons r t,f=>.cons (f _ _ r) (Paired.gf t f)
def Cb.Hs(x:Cb P w H h a o)(k:∀b u,(b=a∨H b=some (.own a))→h.get? b=some u→h'.get? b=some u)
 (ho:∀b,H b=some (.own a)→H' b=some (.own a))(ht:∀b xs,H b=some (.tup xs)→H' b=some (.tup xs)):Cb P w H' h' a o:=by
 induction o with
 |lst xs=>obtain⟨z,its,n,r,e⟩:=x;exact⟨z,its,n,r,k _ _ (.inl rfl) e⟩
 |tup xs=>obtain⟨z,its,r,ob,e,c⟩:=x;exact⟨z,its,r,ob,k _ _ (.inl rfl) e,c⟩
 |dK kvs=>obtain⟨z,y,vs,r,ob,es,ep,e,c⟩:=x;exact⟨z,y,vs,r,ob,es,ep,k _ _ (.inl rfl) e,c⟩
 |dT kvs =>
  obtain⟨z,y,xs,r,ob,es,ep,e,c⟩:=x;exact⟨z,y,xs,Paired.gf r fun p q z=>⟨z.1,ht _ _ z.2.1,z.2.2⟩,ob,es,ep,k _ _ (.inl rfl) e,c⟩
 |set S n=>obtain⟨ob,es,ep,t,e,c⟩:=x;exact⟨ob,es,ep,t,k _ _ (.inl rfl) e,c⟩
 |ins C dx fs =>
  obtain⟨d,z,ne,e,mA,⟨od,es,ep,e2,c⟩,r⟩:=x;exact⟨ho _ d,z,ne,k _ _ (.inl rfl) e,mA,⟨od,es,ep,k _ _ (.inr d) e2,c⟩,r⟩
 |own y=>obtain⟨ob,e⟩:=x;exact⟨ob,k _ _ (.inl rfl) e⟩
 |xd fs=>obtain⟨mA,⟨od,es,ep,e,c⟩,r⟩:=x;exact⟨mA,⟨od,es,ep,k _ _ (.inl rfl) e,c⟩,r⟩
 |ei lo hi=>obtain⟨t,u,v,e⟩:=x;exact⟨t,u,v,k _ _ (.inl rfl) e⟩
 |Fu ob u ih=>obtain⟨e,q⟩:=x;exact⟨k _ _ (.inl rfl) e,ih q⟩
 |Ti ps =>
  have e:h.get? a=some { cls:=.none,data:=.fields ps }:=x;show h'.get? a=some { cls:=.none,data:=.fields ps };exact k a _ (.inl rfl) e
 |met f y =>
  have e:h.get? a=some (PySem.W.methodObj (.ref f) (.ref y)):=x;show h'.get? a=some (PySem.W.methodObj (.ref f) (.ref y));exact k a _ (.inl rfl) e
 |ext φ=>obtain⟨p,⟨o,e⟩,st⟩:=x;exact⟨st _ _ p fun o q=>k _ _ (.inl rfl) q,⟨o,k _ _ (.inl rfl) e⟩,st⟩
def Ek.lt(x:Ek P w H h)(e:H a=some o):a<h.objs.size:=(x a o e).lt
def Ek.fresh(x:Ek P w H h)(e:h.objs.size≤a):H a=none:=by
 cases q:H a with
 |none=>rfl
 |some u=>exact absurd (aK (x.lt q) e) (Nat.lt_irrefl _)
def Ek.kept(x:Ek P w H h)(k:∀b u,h.get? b=some u→h'.get? b=some u):Ek P w H h':=fun a o e =>
 (x a o e).Hs (fun b u _ q=>k b u q) (fun _ q=>q) fun _ _ q=>q
def Ek.laid(x:Ek P w H h)(k:∀b u,h.get? b=some u→h'.get? b=some u)(hp:h.objs.size≤a)(new:Cb P w (upd H a o) h' a o):Ek P w (upd H a o) h':=fun b u e=>by
 have hn:=x.fresh hp;by_cases hb:b=a
 ·subst hb;rw [AL]at e;cases e;exact new
 ·rw [AJ hb]at e;exact(x b u e).Hs (fun c v _ q=>k c v q) (fun c q=>by rw [AJ (AU q hn)];exact q) fun c xs q=>by rw [AJ (AU q hn)];exact q
end
def Rd(H:Hp)(a:AD)(u:HO):Prop:=H a=some u∨∃o,H a=some (.Fu o u)
def Rd.ok{P:Program}{w:World}{H:Hp}{h:Heap}{a:AD}{u:HO}(r:Rd H a u)(x:Ek P w H h):Cb P w H h a u:=by
 rcases r with r|⟨o,r⟩
 ·exact x a u r
 ·obtain⟨_,q⟩:=x a _ r;exact q
def Zc:Option HO→Prop
 |some (.lst _)=>True
 |some (.dK _)=>True
 |some (.dT _)=>True
 |some (.set _ _)=>True
 |some (.ins _ _ _)=>True
 |some (.ext _)=>True
 |_=>False
section
variable{P:Program}{w:World}{H:Hp}{h h':Heap}{x e:AD}{o':HO}
def Ek.write(ok:Ek P w H h)(mu:Zc (H x))(he:e=x∨H e=some (.own x))(k:∀b u,b≠e→h.get? b=some u→h'.get? b=some u)(heo:∃u,h'.get? e=some u)
 (new:Cb P w (upd H x o') h' x o'):Ek P w (upd H x o') h':=fun b u q=>by
 have nown:∀c y,H c=some (.own y)→c≠x:=fun c y r z=>by subst z;rw [r]at mu;exact mu
 have TQ:∀c xs,H c=some (.tup xs)→c≠x:=fun c xs r z=>by subst z;rw [r]at mu;exact mu
 by_cases hb:b=x
 ·subst hb;rw [AL]at q;cases q;exact new
 ·rw [AJ hb]at q;by_cases hbe:b=e
  ·have q':H b=some (.own x):=by
    rcases he with z|z
    ·exact absurd (hbe.trans z) hb
    ·rw [hbe];exact z
   rw [q]at q';cases q';obtain⟨v,hv⟩:=heo;exact⟨v,by rw [hbe];exact hv⟩
  ·refine(ok b u q).Hs (fun c v hc r=>k c v ?_ r) (fun c r=>by rw [AJ (nown c b r)];exact r) fun c xs r=>by rw [AJ (TQ c xs r)];exact r
   rcases hc with rfl|hc
   ·exact hbe
   ·rintro rfl;rcases he with z|z
    ·exact nown c b hc z
    ·rw [hc]at z;cases z;exact hb rfl
end
structure Un(fs ex:List Addr)(H H':Hp)(h h':Heap):Prop where
 keep:∀b o,h.get? b=some o→H b=none→b ∉ fs→b ∉ ex→h'.get? b=some o
 slot:∀b o,h.get? b=some o→H b=none→b∈fs→b ∉ ex→∃sl,h'.get? b=some { o with slots:=sl }
 free:∀b o,h.get? b=some o→H b=none→b ∉ ex→H' b=none
 there:∀b o,h.get? b=some o→b ∉ ex→∃o',h'.get? b=some o'
 BG:∀b xs,H b=some (.tup xs)→H' b=some (.tup xs)
 Js:∀b o u,H b=some (.Fu o u)→H' b=some (.Fu o u)
 Ku:∀b ps,H b=some (.Ti ps)→∃more,H' b=some (.Ti (ps++more))
section
variable{fs fs' ex ex':List AD}{H H1 H2:Hp}{h h1 h2 h':Heap}{a x e:AD}{o:HO}
def Un.any(u:Un fs ex H H1 h h1){b:AD}{ob:Obj}(q:h.get? b=some ob)(n:H b=none)(hx:b ∉ ex):∃sl,h1.get? b=some { ob with slots:=sl }:=by
 by_cases hb:b∈fs
 ·exact u.slot b ob q n hb hx
 ·exact⟨ob.slots,u.keep b ob q n hb hx⟩
def Un.kept(k:∀b u,h.get? b=some u→h'.get? b=some u):Un fs ex H H h h' :=
 ⟨fun b ob q _ _ _=>k b ob q,fun b ob q _ _ _=>⟨ob.slots,k b ob q⟩,fun _ _ _ n _=>n,fun b ob q _=>⟨ob,k b ob q⟩,fun _ _ q=>q,fun _ _ _ q=>q,fun _ ps q=>⟨#[],by rw [q];simp⟩⟩
def Un.refl:Un fs ex H H h h:=Un.kept fun _ _ q=>q
def Un.laid(k:∀b u,h.get? b=some u→h'.get? b=some u)(hp:h.objs.size≤a)(hn:H a=none):Un fs ex H (upd H a o) h h' where
 keep:=fun b u q _ _ _=>k b u q
 slot:=fun b u q _ _ _=>⟨u.slots,k b u q⟩
 free:=fun b u q n _=>by rw [AJ (aJ (aK (aE q) hp))];exact n
 there:=fun b u q _=>⟨u,k b u q⟩
 BG:=fun b xs q=>by rw [AJ (AU q hn)];exact q
 Js:=fun b u xs q=>by rw [AJ (AU q hn)];exact q
 Ku:=fun b ps q=>⟨#[],by rw [AJ (AU q hn),q];simp⟩
def Un.write(mu:Zc (H x))(he:e=x∨H e=some (.own x))(k:∀b u,b≠e→h.get? b=some u→h'.get? b=some u)(heo:∃u,h'.get? e=some u):Un fs ex H (upd H x o) h h':=by
 have hx:∀b,H b=none→b≠x:=fun b n z=>by subst z;rw [n]at mu;exact mu
 have hb:∀b,H b=none→b≠e:=fun b n z=>by
  subst z;rcases he with r|r
  ·exact hx b n r
  ·rw [n]at r;cases r
 have hm:∀b u,H b=some u→¬Zc (some u)→b≠x:=fun b u q nm z=>by subst z;rw [q]at mu;exact nm mu
 refine⟨fun b u q n _ _=>k b u (hb b n) q,fun b u q n _ _=>⟨u.slots,k b u (hb b n) q⟩,fun b u q n _=>by rw [AJ (hx b n)];exact n,fun b u q _=>?_,
  fun b xs q=>by rw [AJ (hm b _ q fun z=>z)];exact q,fun b u xs q=>by rw [AJ (hm b _ q fun z=>z)];exact q,fun b ps q=>⟨#[],by rw [AJ (hm b _ q fun z=>z),q];simp⟩⟩
 by_cases hbe:b=e
 ·subst hbe;exact heo
 ·exact⟨u,k b u hbe q⟩
end
def EX(h:Heap)(H:Hp):List AD:=(List.range h.objs.size).filter fun a=>(H a).isSome
def Kx(h:Heap)(H:Hp):Heap:=PySem.W.hideAll h (EX h H)
def W6(h:Heap)(H:Hp):(Kx h H).objs.size=h.objs.size:=PySem.W.hideAll_size _ _
def Ys{h:Heap}{H:Hp}{b:AD}{o:Obj}(e:h.get? b=some o)(n:H b=none):(Kx h H).get? b=some o :=
 PySem.W.hideAll_get _ e fun hm=>by
  have q:(H b).isSome=true:=(List.mem_filter.mp hm).2;rw [n]at q;simp at q
def dh{h:Heap}{H:Hp}{b:AD}{o:Obj}(e:(Kx h H).get? b=some o):h.get? b=some o∧H b=none:=by
 have e':h.get? b=some o:=PySem.W.of_hideAll (EX h H) e;refine⟨e',?_⟩;cases q:H b with
 |none=>rfl
 |some x =>
  have hm:b∈EX h H:=List.mem_filter.mpr ⟨bF.mpr (aE e'),by simp [q]⟩;have z:(Kx h H).get? b=none:=PySem.W.hideAll_none (EX h H) hm;rw [z]at e;cases e
structure Mod(K:Fg)(mg:Str→Option Value)(base:Heap):Prop where
 fj:K.In base
 glob:base.Ns mainGlobals mg
 blt:∃mb,base.Ns builtinsNs mb∧∀x:Str,x ≠ "__name__" → mb x=bootBuiltins x
 nolimit:base.NoLimit
structure Cx where
 prog:Program
 w:World
 K:Fg
 mg:Str→Option Value
 base:Heap
 A:Around
 N:List Str
 s₀:Shared
 H₀:Hp
 env:Env
 outer:List Env
 stack:List Env
 ex:List Addr
 fn:Str→Bool
 calm:Bool
 pn:List (Addr×Obj)
 xe:Value→Shared→Prop
def LR(l:List Env):List AD:=l.filterMap (·.frame)
abbrev Cx.fs(X:Cx):List AD:=LR X.outer
def gY(sc:Scope)(x:Str):Prop:=sc.names.lookup x=some .local∨sc.names.lookup x=some .cell∨sc.names.lookup x=some .free
def Loc(sc:Scope)(x:Str):Prop:=sc.names.lookup x=some .local∨sc.names.lookup x=some .cell
def Look(env:Env)(h:Heap)(m:Str→Option VL)(x:Str)(u:VL):Prop :=
 (env.kindOf x=some .local∧m x=some u)∨((env.kindOf x=some .cell∨env.kindOf x=some .free)∧∃c,env.cells.lookup x=some c∧h.IsCell c (some u))
structure Cx.Ok(X:Cx):Prop where
 mod:Mod X.K X.mg X.base
 kind:X.env.scope.kind=.function
 glob:X.env.globals=mainGlobals
 blt:X.env.builtins=builtinsNs
 above:X.s₀.heap.objs.size≤X.env.locals
 inj:∀x y c,X.env.cells.lookup x=some c→X.env.cells.lookup y=some c→x=y
 has:∀x,(X.env.kindOf x=some .cell∨X.env.kindOf x=some .free)→∃c,X.env.cells.lookup x=some c
 XS:∀x c,X.fn x=true→X.env.cells.lookup x=some c→X.s₀.heap.objs.size≤c
 hd:X.calm=true→X.A.handled=none
 frames:X.A.frames=some X.stack
 Z5:X.stack=X.outer∨(X.stack=X.env::X.outer∧X.env.frame=some X.env.locals)
 jg:∀b∈X.ex,b≠X.env.locals∧∀x c,X.env.cells.lookup x=some c→c≠b
 bs:∀b o,X.base.get? b=some o→X.s₀.heap.get? b=some o∧X.H₀ b=none
 QZ:X.base.objs.size≤X.s₀.heap.objs.size
 Tj:∀b o,X.base.get? b=some o→b ∉ X.ex
 RS:∀b∈X.ex,b ∉ X.fs
 Ie:X.s₀.heap.FunFrames X.base X.outer
 UZ:∀b∈X.fs,X.H₀ b=none
structure Inv(X:Cx)(pins:List (Addr×Obj))(σ:List (Option V))(H:Hp)(s:Shared):Prop where
 ok:X.Ok
 os:s.os=X.s₀.os
 bare:AllBare s.gens
 base:Un X.fs X.ex X.H₀ H X.s₀.heap s.heap
 loc:∃m,s.heap.Ns X.env.locals m∧∀(i:Nat) (x:Str) (v:V),X.N[i]? = some x→σ[i]? = some (some v)→gY X.env.scope x→∃u,RelV v u∧Look X.env s.heap m x u
 cell:∀x c,X.env.cells.lookup x=some c→∃v,s.heap.IsCell c v
 free:H X.env.locals=none
 HN:∀x c,X.env.cells.lookup x=some c→H c=none
 pin:∀p∈X.pn++pins,s.heap.get? p.1=some p.2∧H p.1=none∧p.1≠X.env.locals∧p.1 ∉ X.fs∧∀v,p.2.data≠.cell v
 A0:Ek X.prog X.w H s.heap
 len:σ.length=X.N.length
section
variable{X:Cx}{pins:List (AD×Obj)}{σ:List (Option V)}{H H':Hp}{s:SD}{h':Heap}
def Cx.Ok.j9(ok:X.Ok){b:AD}{o:Obj}(e:X.base.get? b=some o):b ∉ X.fs:=fun hb=>by
 have:=(ok.Ie.mem hb).1;rw [e]at this;cases this
def Inv.bs(I:Inv X pins σ H s):∀b o,X.base.get? b=some o→s.heap.get? b=some o∧H b=none:=fun b o e =>
 ⟨I.base.keep b o (I.ok.bs b o e).1 (I.ok.bs b o e).2 (I.ok.j9 e) (I.ok.Tj b o e),I.base.free b o (I.ok.bs b o e).1 (I.ok.bs b o e).2 (I.ok.Tj b o e)⟩
def Inv.bk(I:Inv X pins σ H s):∀b o,X.base.get? b=some o→s.heap.get? b=some o:=fun b o e=>(I.bs b o e).1
def Inv.mod(I:Inv X pins σ H s):Mod X.K X.mg X.base:=I.ok.mod
def Inv.Gu(I:Inv X pins σ H s):X.K.In s.heap:=I.ok.mod.fj.keeps I.bk
def Inv.lt(I:Inv X pins σ H s):X.env.locals<s.heap.objs.size:=let⟨_,hn,_⟩:=I.loc;hn.lt
def Inv.sz(I:Inv X pins σ H s):X.s₀.heap.objs.size≤s.heap.objs.size:=aO I.ok.above (bG I.lt)
def Inv.ky(I:Inv X pins σ H s){a:AD}(h:s.heap.objs.size≤a):a ∉ X.fs:=fun hb=>by
 obtain⟨_,o,ho,_⟩:=I.ok.Ie.mem hb;exact absurd (aK (aE ho) (aO I.sz h)) (Nat.lt_irrefl _)
def Inv.SA(I:Inv X pins σ H s):∀x c,X.env.cells.lookup x=some c→c≠X.env.locals:=fun x c e z=>by
 obtain⟨v,o,ho,hd⟩:=I.cell x c e;obtain⟨m,⟨o',es,ep,ho',hd',_⟩,_⟩:=I.loc;rw [z,ho']at ho;cases ho;rw [hd']at hd;cases hd
def Inv.Ie(I:Inv X pins σ H s):s.heap.FunFrames X.base X.outer:=by
 have all:∀(l:List Env),(∀b∈LR l,b∈X.fs)→X.s₀.heap.FunFrames X.base l→s.heap.FunFrames X.base l:=by
  intro l
  induction l with
  |nil=>intro _ _;trivial
  |cons env r ih =>
   intro hs hl;obtain⟨hk,⟨L,o,hf,hn,ho,hd⟩,hr⟩:=hl;have hL:L∈X.fs:=hs L (by unfold LR;rw [List.filterMap_cons,hf];exact aR);obtain⟨sl,e⟩:=I.base.slot L o ho (I.ok.UZ L hL) hL fun z=>I.ok.RS L z hL;exact⟨hk,⟨L,_,hf,hn,e,hd⟩,ih (fun b hb=>hs b (by unfold LR;rw [List.filterMap_cons,hf];exact aP _ hb)) hr⟩
 exact all X.outer (fun _ hb=>hb) I.ok.Ie
def Inv.stack(I:Inv X pins σ H s):s.heap.FunFrames X.base X.stack:=by
 rcases I.ok.Z5 with e|⟨e,hf⟩
 ·rw [e];exact I.Ie
 ·rw [e];obtain⟨m,hn,_⟩:=I.loc;refine .cons (by rw [I.ok.kind];decide) hf hn ?_ I.Ie;exact Heap.get?_none_of_le (aO I.ok.QZ I.ok.above)
def Inv.TC(I:Inv X pins σ H s):∀b∈LR X.stack,b∈X.env.locals::X.fs:=fun b hb=>by
 rcases I.ok.Z5 with e|⟨e,hf⟩
 ·rw [e]at hb;exact aP _ hb
 ·rw [e]at hb;unfold LR at hb;rw [List.filterMap_cons,hf]at hb;exact hb
def Inv.U8(I:Inv X pins σ H s):∀b∈LR X.stack,H b=none:=fun b hb=>by
 rcases aN.mp (I.TC b hb) with e|hb
 ·rw [e];exact I.free
 ·obtain⟨_,o,ho,_⟩:=I.ok.Ie.mem hb;exact I.base.free b o ho (I.ok.UZ b hb) fun z=>I.ok.RS b z hb
def Inv.step{g':Array GenState}{t':Nat}{d':Drawn}{ch:List AD}(I:Inv X pins σ H s)
 (hch:∀b∈ch,(b∈X.ex∨X.s₀.heap.objs.size≤b)∧b≠X.env.locals∧(∀x c,X.env.cells.lookup x=some c→c≠b)∧∀p∈X.pn++pins,p.1≠b)
 (keep:∀b o,b≠X.env.locals→b ∉ X.fs→b ∉ ch→s.heap.get? b=some o→H b=none→h'.get? b=some o)
 (slot:∀b o,b≠X.env.locals→b∈X.fs→b ∉ ch→s.heap.get? b=some o→H b=none→∃sl,h'.get? b=some { o with slots:=sl })(free:∀b o,b ∉ ch→s.heap.get? b=some o→H b=none→H' b=none)
 (there:∀b o,b ∉ ch→s.heap.get? b=some o→∃o',h'.get? b=some o')
 (BG:∀b xs,H b=some (.tup xs)→H' b=some (.tup xs))(Js:∀b o u,H b=some (.Fu o u)→H' b=some (.Fu o u))(Ku:∀b ps,H b=some (.Ti ps)→∃more,H' b=some (.Ti (ps++more)))
 (ns:∀m,s.heap.Ns X.env.locals m→h'.Ns X.env.locals m)(A0:Ek X.prog X.w H' h')(hg:AllBare g') :
  Inv X pins σ H' { s with heap:=h',gens:=g',drawn:=d',toks:=t' }:=by
 have neL:∀b o,X.s₀.heap.get? b=some o→b≠X.env.locals:=fun b o e=>aJ (aK (aE e) I.ok.above);have neC:∀b o,X.s₀.heap.get? b=some o→b ∉ X.ex→b ∉ ch:=fun b o e hx hb=>by
  rcases(hch b hb).1 with z|z
  ·exact hx z
  ·exact absurd (aK (aE e) z) (Nat.lt_irrefl _)
 have cellK:∀x c,X.env.cells.lookup x=some c→∀v,s.heap.IsCell c v→h'.IsCell c v:=fun x c e v ⟨o,ho,hd⟩=>by
  have nch:c ∉ ch:=fun z=>(hch c z).2.2.1 x c e rfl;by_cases hc:c∈X.fs
  ·obtain⟨sl,q⟩:=slot c o (I.SA x c e) hc nch ho (I.HN x c e);exact⟨_,q,hd⟩
  ·exact⟨o,keep c o (I.SA x c e) hc nch ho (I.HN x c e),hd⟩
 refine⟨I.ok,I.os,hg,⟨fun b o e n hb hx=>?_,fun b o e n hb hx=>?_,fun b o e n hx=>?_,fun b o e hx=>?_,fun b xs e=>BG b xs (I.base.BG b xs e),fun b o xs e=>Js b o xs (I.base.Js b o xs e),fun b ps e=>?_⟩,?_,fun x c e=>?_,?_,fun x c e=>?_,fun p hp=>?_,A0,I.len⟩
 ·exact keep b o (neL b o e) hb (neC b o e hx) (I.base.keep b o e n hb hx) (I.base.free b o e n hx)
 ·obtain⟨sl,e1⟩:=I.base.slot b o e n hb hx;obtain⟨sl',e2⟩:=slot b _ (neL b o e) hb (neC b o e hx) e1 (I.base.free b o e n hx);exact⟨sl',e2⟩
 ·obtain⟨o',e1⟩:=I.base.there b o e hx;exact free b o' (neC b o e hx) e1 (I.base.free b o e n hx)
 ·obtain⟨o',e1⟩:=I.base.there b o e hx;exact there b o' (neC b o e hx) e1
 ·obtain⟨m1,e1⟩:=I.base.Ku b ps e;obtain⟨m2,e2⟩:=Ku b _ e1;exact⟨m1++m2,by rw [e2,Array.append_assoc]⟩
 ·obtain⟨m,hn,hl⟩:=I.loc;refine⟨m,ns m hn,fun i x v e1 e2 e3=>?_⟩;obtain⟨u,r,l⟩:=hl i x v e1 e2 e3;refine⟨u,r,?_⟩;rcases l with l|⟨k,c,e,z⟩
  ·exact .inl l
  ·exact .inr ⟨k,c,e,cellK x c e _ z⟩
 ·obtain⟨v,z⟩:=I.cell x c e;exact⟨v,cellK x c e v z⟩
 ·obtain⟨m,⟨o,_,_,ho,_⟩,_⟩:=I.loc;exact free _ o (fun z=>(hch _ z).2.1 rfl) ho I.free
 ·obtain⟨v,o,ho,hd⟩:=I.cell x c e;exact free c o (fun z=>(hch c z).2.2.1 x c e rfl) ho (I.HN x c e)
 ·obtain⟨e,n,ne,nf,d⟩:=I.pin p hp;have nch:p.1 ∉ ch:=fun z=>(hch p.1 z).2.2.2 p hp rfl;exact⟨keep p.1 p.2 ne nf nch e n,free p.1 p.2 nch e n,ne,nf,d⟩
def Inv.un{t':Nat}(I:Inv X pins σ H s)(u:Un X.fs [] H H' s.heap h')(A0:Ek X.prog X.w H' h'):Inv X pins σ H' { s with heap:=h',toks:=t' }:=by
 obtain⟨m,⟨o,es,ep,ho,r⟩,_⟩:=id I.loc;obtain⟨sl,hL⟩:=u.any ho I.free (by simp);exact I.step (g':=s.gens) (d':=s.drawn) (ch:=[]) (fun _ z=>nomatch z) (fun b o _ hb _ e n=>u.keep b o e n hb (by simp)) (fun b o _ hb _ e n=>u.slot b o e n hb (by simp)) (fun b o _ e n=>u.free b o e n (by simp)) (fun b o _ e=>u.there b o e (by simp)) u.BG u.Js u.Ku (fun m' hm=>by
  obtain⟨o',es',ep',ho',r'⟩:=hm;rw [ho]at ho';cases ho';exact⟨_,es',ep',hL,r'⟩) A0 I.bare
def Inv.call{g':Array GenState}{t':Nat}{d':Drawn}{ch:List AD}(I:Inv X pins σ H s)(u:Un (LR X.stack) ch H H' s.heap h')(A0:Ek X.prog X.w H' h')(hg:AllBare g')
 (hch:∀b∈ch,(b∈X.ex∨X.s₀.heap.objs.size≤b)∧b≠X.env.locals∧(∀x c,X.env.cells.lookup x=some c→c≠b)∧∀p∈X.pn++pins,p.1≠b) :
  Inv X pins σ H' { s with heap:=h',gens:=g',drawn:=d',toks:=t' }:=by
 obtain⟨m,⟨o,es,ep,ho,r⟩,_⟩:=id I.loc;obtain⟨sl,hL⟩:=u.any ho I.free fun z=>(hch _ z).2.1 rfl;exact I.step (ch:=ch) hch (fun b o hL hb hc e n=>u.keep b o e n (fun z=>(aN.mp (I.TC b z)).elim hL hb) hc) (fun b o _ _ hc e n=>u.any e n hc) (fun b o hc e n=>u.free b o e n hc) (fun b o hc e=>u.there b o e hc) u.BG u.Js u.Ku (fun m' hm=>by
  obtain⟨o',es',ep',ho',r'⟩:=hm;rw [ho]at ho';cases ho';exact⟨_,es',ep',hL,r'⟩) A0 hg
def Inv.turned{t':Nat}{it:AD}(I:Inv X pins σ H s)(k:∀b o,b≠it→s.heap.get? b=some o→h'.get? b=some o)(hn:H it=none)(hL:it≠X.env.locals)
 (h1:it∈X.ex∨X.s₀.heap.objs.size≤it)(h2:∀x c,X.env.cells.lookup x=some c→c≠it)(h3:∀p∈X.pn++pins,p.1≠it):Inv X pins σ H { s with heap:=h',toks:=t' }:=by
 have nit:∀b u,H b=some u→b≠it:=fun b u e z=>by rw [z,hn]at e;cases e
 refine I.step (g':=s.gens) (d':=s.drawn) (ch:=[it]) (fun b hb=>?_) (fun b o _ _ hc e _=>k b o (fun z=>hc (by simp [z])) e) (fun b o _ _ hc e _=>⟨o.slots,k b o (fun z=>hc (by simp [z])) e⟩) (fun _ _ _ _ n=>n)
  (fun b o hc e=>⟨o,k b o (fun z=>hc (by simp [z])) e⟩) (fun _ _ e=>e) (fun _ _ _ e=>e) (fun b ps e=>⟨#[],by rw [e];simp⟩) (fun m hm=>?_) (fun b u e=>?_) I.bare
 ·have e:b=it:=by simpa using hb
  subst e;exact⟨h1,hL,h2,h3⟩
 ·obtain⟨o,es,ep,ho,r⟩:=hm;exact⟨o,es,ep,k _ o (Ne.symm hL) ho,r⟩
 ·refine(I.A0 b u e).Hs (fun c v hc q=>k c v ?_ q) (fun _ q=>q) fun _ _ q=>q;rcases hc with z|z
  ·rw [z];exact nit b u e
  ·exact nit c _ z
def Inv.tok(I:Inv X pins σ H s)(t:Nat):Inv X pins σ H { s with toks:=t }:=I.un (h':=s.heap) (t':=t) Un.refl I.A0
def Inv.kept{t':Nat}(I:Inv X pins σ H s)(k:∀b u,s.heap.get? b=some u→h'.get? b=some u):Inv X pins σ H { s with heap:=h',toks:=t' }:=I.un (Un.kept k) (I.A0.kept k)
def Inv.laid{a:AD}{o:HO}{t':Nat}(I:Inv X pins σ H s)(k:∀b u,s.heap.get? b=some u→h'.get? b=some u)(hp:s.heap.objs.size≤a)(new:Cb X.prog X.w (upd H a o) h' a o) :
  Inv X pins σ (upd H a o) { s with heap:=h',toks:=t' }:=I.un (Un.laid k hp (I.A0.fresh hp)) (I.A0.laid k hp new)
def Inv.write{x e:AD}{o:HO}{t':Nat}(I:Inv X pins σ H s)(mu:Zc (H x))(he:e=x∨H e=some (.own x))(k:∀b u,b≠e→s.heap.get? b=some u→h'.get? b=some u)(heo:∃u,h'.get? e=some u)
 (new:Cb X.prog X.w (upd H x o) h' x o):Inv X pins σ (upd H x o) { s with heap:=h',toks:=t' }:=I.un (Un.write mu he k heo) (I.A0.write mu he k heo new)
def Inv.Ux{pins':List (AD×Obj)}(I:Inv X pins σ H s)(h:∀p∈pins',s.heap.get? p.1=some p.2∧H p.1=none∧p.1≠X.env.locals∧p.1 ∉ X.fs∧∀v,p.2.data≠.cell v):Inv X pins' σ H s :=
 ⟨I.ok,I.os,I.bare,I.base,I.loc,I.cell,I.free,I.HN,fun p hp=>(bZ.mp hp).elim (fun z=>I.pin p (bL _ z)) (h p),I.A0,I.len⟩
def Rz{N:List Str}(hN:N.Nodup){i j:Nat}{x:Str}(a:N[i]? = some x)(b:N[j]? = some x):i=j:=by
 obtain⟨h1,e1⟩:=aD.mp a;obtain⟨h2,e2⟩:=aD.mp b;exact(List.getElem_inj hN).mp (e1.trans e2.symm)
def Qz{M:Model}{A:Around}{E:VL→SD→Prop}{i:Nat}{x:Str}{v:V}{u:VL}{Q:Unit→SD→Prop}(I:Inv X pins σ H s)(hN:X.N.Nodup)(hi:X.N[i]? = some x)(hx:Loc X.env.scope x)(r:RelV v u)
 (h:∀s',Inv X pins (σ.set i (some v)) H s'→(∃a,Heap.SameBut a s.heap s'.heap∧(a=X.env.locals∨X.env.cells.lookup x=some a))→Q () s')(hf:X.fn x=true∨X.env.scope.names.lookup x=some .local:=by first|exact .inl rfl|exact .inr rfl|assumption):wpAny M A (storeName X.env x u) Q E s:=by
 obtain⟨m,hn,hl⟩:=id I.loc;have hcls:(X.env.scope.kind==.class||(X.env.scope.kind==.module&&X.env.locals != X.env.globals))=false:=by rw [I.ok.kind];rfl
 have hiσ:i<σ.length:=by rw [I.len];exact(aD.mp hi).1
 have SA:=I.SA;have tracked:∀ {a:AD} {h':Heap},(∃o,s.heap.get? a=some o∧H a=none)→Heap.SameBut a s.heap h'→Ek X.prog X.w H h':=fun {a h'} ha hs b ob e=>by
  obtain⟨_,_,hfree⟩:=ha;refine(I.A0 b ob e).Hs (fun c w' hc q=>(hs.2 c ?_).trans q) (fun _ q=>q) fun _ _ q=>q;rintro rfl;rcases hc with rfl|hc
  ·rw [hfree]at e;cases e
  ·rw [hfree]at hc;cases hc
 rcases hx with hk|hk
 ·refine wpAny_storeName_local hk hn (fun h' hn' hs=>?_) hcls;obtain⟨oL,_,_,hoL,_⟩:=id hn;refine h _ ⟨I.ok,I.os,I.bare,⟨fun b o e n hb hx=>?_,fun b o e n hb hx=>?_,I.base.free,fun b o e hx=>?_,I.base.BG,I.base.Js,I.base.Ku⟩,⟨_,hn',fun j y v' e1 e2 e3=>?_⟩,fun y c e=>?_,I.free,I.HN,fun p hp=>?_,tracked ⟨oL,hoL,I.free⟩ hs,by simpa using I.len⟩ ⟨_,hs,.inl rfl⟩
  ·exact(hs.2 b (aJ (aK (aE e) I.ok.above))).trans (I.base.keep b o e n hb hx)
  ·obtain⟨sl,e1⟩:=I.base.slot b o e n hb hx;exact⟨sl,(hs.2 b (aJ (aK (aE e) I.ok.above))).trans e1⟩
  ·obtain⟨o',e1⟩:=I.base.there b o e hx;exact⟨o',(hs.2 b (aJ (aK (aE e) I.ok.above))).trans e1⟩
  ·by_cases hj:j=i
   ·subst hj;rw [hi]at e1;cases e1;rw [List.getElem?_set_self hiσ]at e2;cases e2;exact⟨u,r,.inl ⟨hk,by simp⟩⟩
   ·rw [List.getElem?_set_ne (Ne.symm hj)]at e2;obtain⟨u',r',q⟩:=hl j y v' e1 e2 e3;refine⟨u',r',?_⟩;rcases q with ⟨k,e⟩|⟨k,c,e,z⟩
    ·refine .inl ⟨k,?_⟩;have:y≠x:=fun e=>hj (Rz hN e1 (e ▸ hi));simp [this,e]
    ·exact .inr ⟨k,c,e,z.sameBut hs (SA y c e)⟩
  ·obtain⟨w',z⟩:=I.cell y c e;exact⟨w',z.sameBut hs (SA y c e)⟩
  ·obtain⟨e,n,ne,nf,d⟩:=I.pin p hp;exact⟨(hs.2 p.1 ne).trans e,n,ne,nf,d⟩
 ·have hfn:X.fn x=true:=by
   rcases hf with z|z
   ·exact z
   ·rw [z]at hk;cases hk
  obtain⟨c,hc⟩:=I.ok.has x (.inl hk);obtain⟨w',z⟩:=I.cell x c hc;refine wpAny_storeName_cell I.ok.kind hk hc z (fun h' hc' hs=>?_);obtain⟨oc,hoc,hocd⟩:=id z;refine h { s with heap:=h' } ⟨I.ok,I.os,I.bare,⟨fun b o e n hb hx=>?_,fun b o e n hb hx=>?_,I.base.free,fun b o e hx=>?_,I.base.BG,I.base.Js,I.base.Ku⟩,⟨m,hn.sameBut hs (Ne.symm (SA x c hc)),fun j y v' e1 e2 e3=>?_⟩,fun y c' e=>?_,I.free,I.HN,fun p hp=>?_,tracked ⟨oc,hoc,I.HN x c hc⟩ hs,by simpa using I.len⟩ ⟨c,hs,.inr hc⟩
  ·exact(hs.2 b (aJ (aK (aE e) (I.ok.XS x c hfn hc)))).trans (I.base.keep b o e n hb hx)
  ·obtain⟨sl,e1⟩:=I.base.slot b o e n hb hx;exact⟨sl,(hs.2 b (aJ (aK (aE e) (I.ok.XS x c hfn hc)))).trans e1⟩
  ·obtain⟨o',e1⟩:=I.base.there b o e hx;exact⟨o',(hs.2 b (aJ (aK (aE e) (I.ok.XS x c hfn hc)))).trans e1⟩
  ·by_cases hj:j=i
   ·subst hj;rw [hi]at e1;cases e1;rw [List.getElem?_set_self hiσ]at e2;cases e2;exact⟨u,r,.inr ⟨.inl hk,c,hc,hc'⟩⟩
   ·rw [List.getElem?_set_ne (Ne.symm hj)]at e2;obtain⟨u',r',q⟩:=hl j y v' e1 e2 e3;refine⟨u',r',?_⟩;rcases q with q|⟨k,c',e,z'⟩
    ·exact .inl q
    ·refine .inr ⟨k,c',e,z'.sameBut hs ?_⟩;rintro rfl;exact hj (Rz hN e1 (I.ok.inj _ _ _ e hc ▸ hi))
  ·by_cases hcc:c'=c
   ·subst hcc;exact⟨_,hc'⟩
   ·obtain⟨w2,z2⟩:=I.cell y c' e;exact⟨w2,z2.sameBut hs hcc⟩
  ·obtain⟨e,n,ne,nf,d⟩:=I.pin p hp;refine⟨(hs.2 p.1 ?_).trans e,n,ne,nf,d⟩;intro q;rw [q,hoc]at e;have q':oc=p.2:=ah e;exact d w' (by rw [←q'];exact hocd)
def LJ{M:Model}{A:Around}{E:VL→SD→Prop}{i:Nat}{x:Str}{v:V}{u:VL}{Q:Unit→SD→Prop}(I:Inv X pins σ H s)(hN:X.N.Nodup)(hi:X.N[i]? = some x)(hx:Loc X.env.scope x)(r:RelV v u)
 (h:∀s',Inv X pins (σ.set i (some v)) H s'→Q () s')(hf:X.fn x=true∨X.env.scope.names.lookup x=some .local:=by first|exact .inl rfl|exact .inr rfl|assumption):wpAny M A (storeName X.env x u) Q E s :=
 Qz I hN hi hx r (fun s' I' _=>h s' I') hf
def Inv.jM{s':SD}{ch:List AD}(I:Inv X pins σ H s)(ho:s'.os=s.os)(u:Un (LR X.stack) ch H H' s.heap s'.heap)(A0:Ek X.prog X.w H' s'.heap)(hg:AllBare s'.gens)
 (hch:∀b∈ch,(b∈X.ex∨X.s₀.heap.objs.size≤b)∧b≠X.env.locals∧(∀x c,X.env.cells.lookup x=some c→c≠b)∧∀p∈X.pn++pins,p.1≠b):Inv X pins σ H' s':=by
 obtain⟨h',g',d',t',o'⟩:=s';have e:o'=s.os:=ho;subst e;exact I.call (g':=g') (t':=t') (d':=d') u A0 hg hch
end
abbrev XK:=VL→Option AD→Hp→Prop
abbrev St:=List (Option V)
abbrev VK:=V→Hp→Prop
abbrev TE:=St→Hp→VK→Prop
abbrev TT:=St→Hp→(Bool→Hp→Prop)→Prop
abbrev TA:=St→Hp→(List V→Hp→Prop)→Prop
structure Ends where
 nx:St→Hp→Prop
 rt:VK
 bk:St→Hp→Prop:=fun _ _=>False
 ct:St→Hp→Prop:=fun _ _=>False
abbrev TS:=Ends→St→Hp→Prop
def EP(X:Cx)(pins:List (AD×Obj))(σ:St)(Q:VK)(u:VL)(s':SD):Prop:=∃v H',Inv X pins σ H' s'∧RelV v u∧Q v H'
def TP(X:Cx)(pins:List (AD×Obj))(σ:St)(Q:Bool→Hp→Prop)(b:Bool)(s':SD):Prop:=∃H',Inv X pins σ H' s'∧Q b H'
def AP(X:Cx)(pins:List (AD×Obj))(σ:St)(Q:List V→Hp→Prop)(us:List VL)(s':SD):Prop:=∃vs H',Inv X pins σ H' s'∧Vals vs us∧Q vs H'
def SP(X:Cx)(pins:List (AD×Obj))(D:Ends)(f:Flow)(s':SD):Prop :=
 match f with
 |.next=>∃σ' H',Inv X pins σ' H' s'∧D.nx σ' H'
 |.brk=>∃σ' H',Inv X pins σ' H' s'∧D.bk σ' H'
 |.cont=>∃σ' H',Inv X pins σ' H' s'∧D.ct σ' H'
 |.ret u=>∃v σ' H',Inv X pins σ' H' s'∧RelV v u∧D.rt v H'
def PE(X:Cx)(e:Expr)(t:TE):Prop :=
 ∀(pins:List (AD×Obj)) (s:SD) (σ:St) (H:Hp) (Q:VK),Inv X pins σ H s→t σ H Q→wpAny (model X.prog X.w) X.A (eval e X.env) (EP X pins σ Q) X.xe s
def PT(X:Cx)(e:Expr)(t:TT):Prop :=
 ∀(pins:List (AD×Obj)) (s:SD) (σ:St) (H:Hp) (Q:Bool→Hp→Prop),Inv X pins σ H s→t σ H Q→wpAny (model X.prog X.w) X.A (isTrue e X.env (eval e X.env)) (TP X pins σ Q) X.xe s
def PW(X:Cx)(e:Expr)(t:TT):Prop :=
 ∀(whole:Sem VL) (pins:List (AD×Obj)) (s:SD) (σ:St) (H:Hp) (Q:Bool→Hp→Prop),Inv X pins σ H s→t σ H Q→wpAny (model X.prog X.w) X.A (isTrue e X.env whole) (TP X pins σ Q) X.xe s
def PW.pt{X:Cx}{e:Expr}{t:TT}(h:PW X e t):PT X e t:=h _
def PA(X:Cx)(es:List Expr)(t:TA):Prop :=
 ∀(pos:Pos) (pins:List (AD×Obj)) (s:SD) (σ:St) (H:Hp) (Q:List V→Hp→Prop),Inv X pins σ H s→t σ H Q→wpAny (model X.prog X.w) X.A (spliced (backTo pos (starEach es X.env))) (AP X pins σ Q) X.xe s
def PS(X:Cx)(st:Stmt)(t:TS):Prop :=
 ∀(pins:List (AD×Obj)) (s:SD) (σ:St) (H:Hp) (D:Ends),Inv X pins σ H s→t D σ H→wpAny (model X.prog X.w) X.A (exec st X.env) (SP X pins D) X.xe s
def JR(X:Cx)(st:List Stmt)(t:TS):Prop :=
 ∀(pins:List (AD×Obj)) (s:SD) (σ:St) (H:Hp) (D:Ends),Inv X pins σ H s→t D σ H→wpAny (model X.prog X.w) X.A (execs st X.env) (SP X pins D) X.xe s
def BN{α:Type}{t:Sem α}{Q Q':α→SD→Prop}{M:Model}{A:Around}{E:VL→SD→Prop}{s:SD}(h:wpAny M A t Q E s)(hQ:∀a s,Q a s→Q' a s):wpAny M A t Q' E s:=ak h hQ fun _ _ x=>x
section
variable{X:Cx}
def N6(i:Nat):TE:=fun σ H Q=>∃v,σ[i]? = some (some v)∧Q v H
def tC(v:V):TE:=fun _ H Q=>Q v H
def fX{i:Nat}{x:Str}{pos:Pos}(hN:X.N[i]? = some x)(hv:gY X.env.scope x)(hd:(x==("__debug__" : Str))=false:=by decide)(hcd:(x==("__classdict__" : Str))=false:=by decide):PE X (.Name x pos) (N6 i):=by
 intro pins s σ H Q I h;obtain⟨v,e,h⟩:=h;obtain⟨m,hn,hl⟩:=I.loc;obtain⟨u,r,l⟩:=hl i x v hN e hv;have fin:EP X pins σ Q u s:=⟨v,H,I,r,h⟩;rcases l with ⟨hk,hm⟩|⟨hk,c,hc,hcell⟩
 ·exact wpAny_Name (wpAny_loadName_local I.ok.kind hk hn hm fin) hd
 ·rcases hk with hk|hk
  ·exact wpAny_Name (wpAny_loadName_cell I.ok.kind hk hc hcell fin) hd
  ·exact wpAny_Name (wpAny_loadName_free I.ok.kind hk hc hcell fin hcd) hd
def Ad{i j pos}:PE X (.Constant (.int i) j pos) (tC (.int i)):=fun _ _ _ H _ I h=>wpAny_Constant_int ⟨.int i,H,I.tok _,⟨_,rfl⟩,h⟩
def HR{b j pos}:PE X (.Constant (.bool b) j pos) (tC (.bl b)):=fun _ _ _ H _ I h=>Constant_bool ⟨.bl b,H,I,rfl,h⟩
def dr{j pos}:PE X (.Constant .none j pos) (tC .Bb):=fun _ _ _ H _ I h=>Constant_none ⟨.Bb,H,I,rfl,h⟩
def Gl(X:Cx)(x:Str):Prop:=X.env.kindOf x=some .globalImplicit
def Po{E:VL→SD→Prop}{pins:List (AD×Obj)}{s:SD}{σ:St}{H:Hp}{x:Str}{u:VL}{pos:Pos}{Q:VL→SD→Prop}(I:Inv X pins σ H s)(hg:Gl X x)(hm:X.mg x=some u)(h:Q u s)
 (hd:(x==("__debug__" : Str))=false:=by decide):wpAny (model X.prog X.w) X.A (eval (.Name x pos) X.env) Q E s :=
 Calls.Name_function_global I.ok.kind hg (Calls.loadGlobal_global (by rw [I.ok.glob];exact I.mod.glob.keeps I.bk) hm h) hd
def Fs{E:VL→SD→Prop}{pins:List (AD×Obj)}{s:SD}{σ:St}{H:Hp}{x:Str}{u:VL}{pos:Pos}{Q:VL→SD→Prop}(I:Inv X pins σ H s)(hg:Gl X x)(hm:X.mg x=none)(hv:bootBuiltins x=some u)(h:Q u s)
 (hn:x ≠ "__name__" := by decide)(hd:(x==("__debug__" : Str))=false:=by decide):wpAny (model X.prog X.w) X.A (eval (.Name x pos) X.env) Q E s:=by
 obtain⟨mb,h1,h2⟩:=I.mod.blt;exact Calls.Name_function_global I.ok.kind hg (Calls.loadGlobal_builtin (by rw [I.ok.glob];exact I.mod.glob.keeps I.bk) hm (by rw [I.ok.blt];exact h1.keeps I.bk) ((h2 x hn).trans hv) h) hd
def Ut{x:Str}{v:V}{u:VL}{pos:Pos}(hg:Gl X x)(hm:X.mg x=some u)(r:RelV v u)(hd:(x==("__debug__" : Str))=false:=by decide):PE X (.Name x pos) (tC v) :=
 fun _ _ _ H _ I h=>Po I hg hm ⟨v,H,I,r,h⟩ hd
def G8{x:Str}{v:V}{u:VL}{pos:Pos}(hg:Gl X x)(hm:X.mg x=none)(hv:bootBuiltins x=some u)(r:RelV v u)(hn:x ≠ "__name__" := by decide)(hd:(x==("__debug__" : Str))=false:=by decide):PE X (.Name x pos) (tC v) :=
 fun _ _ _ H _ I h=>Fs I hg hm hv ⟨v,H,I,r,h⟩ hn hd
variable{a b:Expr}{ta tb:TE}{pos:Pos}
def tB(t:TE):TT:=fun σ H Q=>t σ H fun x H1=>∃c,x=.bl c∧Q c H1
def GY{e : Expr}{t : TE}(h : PE X e t)(he : ∀ whole,isTrue e X.env whole = (do let v ← whole; standAt e.pos; holding [v] (truthy v)) := by intro _; rfl) : PT X e (tB t) := by
  intro pins s σ H Q I hw
  refine isTrue_plain (BN (h pins s σ H _ I hw) fun v s1 ⟨x,H1,I1,r1,q1⟩ => ?_) (he _)
  obtain ⟨d,rfl,q⟩:=q1
  cases r1
  exact wpAny_truthy_bool ⟨H1,I1,q⟩
variable{tA tB':TT}{rest:List Expr}
def k9(t u:TT):TT:=fun σ H Q=>t σ H fun c H1=>if c=true then Q true H1 else u σ H1 Q
def kq(t:TT):TT:=fun σ H Q=>t σ H fun c H1=>Q (!c) H1
def bq(ha:PT X a tA):PW X (.BoolOp .And [a] pos) tA:=by
 intro wh pins s σ H Q I h;refine isTrue_and (BN (ha pins s σ H Q I h) fun c s1 e=>?_);cases c with
 |true=>exact isTrue_and_nil e
 |false=>exact e
def KH(ha:PT X a tA):PW X (.BoolOp .Or [a] pos) tA:=by
 intro wh pins s σ H Q I h;refine isTrue_or (BN (ha pins s σ H Q I h) fun c s1 e=>?_);cases c with
 |false=>exact isTrue_or_nil e
 |true=>exact e
def Kv(ha:PT X a tA)(hb:PW X (.BoolOp .Or (b::rest) pos) tB'):PW X (.BoolOp .Or (a::b::rest) pos) (k9 tA tB'):=by
 intro wh pins s σ H Q I h;refine isTrue_or (BN (ha pins s σ H _ I h) fun c s1 ⟨H1,I1,q1⟩=>?_);cases c with
 |true=>exact⟨H1,I1,q1⟩
 |false=>exact hb wh pins s1 σ H1 Q I1 q1
def Gf(ha:PT X a tA):PT X (.UnaryOp .Not a pos) (kq tA):=by
 intro pins s σ H Q I h;exact isTrue_not (ha pins s σ H (fun c H1=>Q (!c) H1) I h)
def jR(ta tb:TE):TE:=fun σ H Q=>ta σ H fun x H1=>∃c,x=.bl c∧if c=true then tb σ H1 Q else Q (.bl false) H1
def ie(ta:TE):TE:=fun σ H Q=>ta σ H fun x H1=>∃c,x=.bl c∧Q (.bl (!c)) H1
def R5{op}{t:TE}(h:PE X a t):PE X (.BoolOp op [a] pos) t:=fun pins s σ H Q I hw=>BoolOp_one (h pins s σ H Q I hw)
def OX(ha:PE X a ta)(hb:PE X (.BoolOp .And (b::rest) pos) tb):PE X (.BoolOp .And (a::b::rest) pos) (jR ta tb):=by
 intro pins s σ H Q I h;refine BoolOp_and (BN (ha pins s σ H _ I h) fun v s1 ⟨x,H1,I1,r1,q1⟩=>?_);obtain⟨c,rfl,q1⟩:=q1;cases r1;refine wpAny_truthy_bool ?_;cases c with
 |true=>exact hb pins s1 σ H1 Q I1 q1
 |false=>exact⟨.bl false,H1,I1,rfl,q1⟩
def gT(ha:PE X a ta):PE X (.UnaryOp .Not a pos) (ie ta):=by
 intro pins s σ H Q I h;refine UnaryOp_ (BN (ha pins s σ H _ I h) fun v s1 ⟨x,H1,I1,r1,q1⟩=>?_);obtain⟨c,rfl,q1⟩:=q1;cases r1;exact not_of (wpAny_truthy_bool ⟨.bl (!c),H1,I1,rfl,q1⟩)
end
def Al(K:Fg)(H:Hp)(a:AD)(xs:List V):Prop :=
 Rd H a (.lst xs) ∨
  ∃(o:Obj) (its:Array VL) (n:Nat),K.lookup a=some o∧o.cls=.type "list" ∧ o.dict=none∧o.data=.seq its n∧its.size≤sizeLine∧Vals xs its.toList
def A7(K:Fg)(H:Hp)(a:AD)(xs:List V):Prop :=
 Rd H a (.tup xs) ∨
  ∃(o:Obj) (its:Array VL) (n:Nat),K.lookup a=some o∧o.cls=.type "tuple" ∧ o.data=.seq its n∧its.size≤sizeLine∧Vals xs its.toList
def kT:VL→Option V
 |.none=>some .Bb
 |.bool b=>some (.bl b)
 |.int i _=>some (.int i)
 |.str x _=>some (.str x)
 |.bytes b _=>some (.MW b)
 |.float b _=>some (.Fw b)
 |.ref a=>some (.ref a)
 |.type n=>some (.ty n)
 |_=>none
def RelV.abs{x:V}{u:VL}(r:RelV x u):kT u=some x:=by
 cases x with
 |Bb=>cases r;rfl
 |bl _=>cases r;rfl
 |int _=>obtain⟨t,rfl⟩:=r;rfl
 |str _=>obtain⟨t,rfl⟩:=r;rfl
 |MW _=>obtain⟨t,rfl⟩:=r;rfl
 |Fw _=>obtain⟨t,rfl⟩:=r;rfl
 |ref _=>cases r;rfl
 |ty _=>cases r;rfl
def RelV.inj{x y:V}{u:VL}(r:RelV x u)(q:RelV y u):x=y:=ah (r.abs.symm.trans q.abs)
def Vals.inj:∀ {xs ys:List V} {us:List VL},Vals xs us→Vals ys us→xs=ys
 |_,_,_,.nil,.nil=>rfl
 |_,_,_,.cons r t,.cons r' t'=>by rw [r.inj r',Vals.inj t t']
section
variable{X:Cx}{pins:List (AD×Obj)}{σ:St}{H:Hp}{s:SD}{a:AD}{xs ys:List V}
def Al.of{K:Fg}(h:H a=some (.lst xs)):Al K H a xs:=.inl (.inl h)
def A7.of{K:Fg}(h:H a=some (.tup xs)):A7 K H a xs:=.inl (.inl h)
def Inv.list(I:Inv X pins σ H s)(h:Al X.K H a xs):∃its:List VL,Vals xs its∧PlainL s.heap a its.toArray∧xs.length≤sizeLine:=by
 rcases h with h|⟨o,its,n,hk,hc,hd,hs,hz,r⟩
 ·obtain⟨z,its,n,r,e⟩:=h.ok I.A0;exact⟨its,r,⟨_,n,e,rfl,rfl,rfl⟩,z⟩
 ·refine⟨its.toList,r,⟨o,n,I.Gu a o hk,hc,hd,by simpa using hs⟩,?_⟩;have e:=r.length;simp only [Array.length_toList]at e;omega
def Inv.tuple(I:Inv X pins σ H s)(h:A7 X.K H a xs):∃its:List VL,Vals xs its∧IsTup s.heap a its.toArray∧xs.length≤sizeLine:=by
 rcases h with h|⟨o,its,n,hk,hc,hs,hz,r⟩
 ·obtain⟨z,its,r,p⟩:=h.ok I.A0;exact⟨its,r,p,z⟩
 ·refine⟨its.toList,r,⟨o,I.Gu a o hk,hc,n,by simpa using hs⟩,?_⟩;have e:=r.length;simp only [Array.length_toList]at e;omega
def Inv.RQ(I:Inv X pins σ H s)(h:Al X.K H a xs)(h':Al X.K H a ys):xs=ys:=by
 obtain⟨its,r,⟨o,n,e,_,_,d⟩,_⟩:=I.list h;obtain⟨its',r',⟨o',n',e',_,_,d'⟩,_⟩:=I.list h';rw [e]at e';cases e';rw [d]at d'
 injection d' with d1 _
 have:its=its':=by simpa using bM Array.toList d1
 subst this;exact r.inj r'
def Inv.Qs(I:Inv X pins σ H s)(h:A7 X.K H a xs)(h':A7 X.K H a ys):xs=ys:=by
 obtain⟨its,r,⟨o,e,_,n,d⟩,_⟩:=I.tuple h;obtain⟨its',r',⟨o',e',_,n',d'⟩,_⟩:=I.tuple h';rw [e]at e';cases e';rw [d]at d'
 injection d' with d1 _
 have:its=its':=by simpa using bM Array.toList d1
 subst this;exact r.inj r'
end
abbrev Cx.J1(X:Cx)(E:VL→SD→Prop):Cx:={ X with xe:=E }
abbrev Cx.Wf(X:Cx):Cx:=X.J1 fun _ _=>False
def Cx.Ok.J1{X:Cx}(ok:X.Ok)(E:VL→SD→Prop):(X.J1 E).Ok :=
 ⟨ok.mod,ok.kind,ok.glob,ok.blt,ok.above,ok.inj,ok.has,ok.XS,ok.hd,ok.frames,ok.Z5,ok.jg,ok.bs,ok.QZ,ok.Tj,ok.RS,ok.Ie,ok.UZ⟩
def Cx.Ok.HX{X:Cx}{E:VL→SD→Prop}(ok:(X.J1 E).Ok):X.Ok :=
 ⟨ok.mod,ok.kind,ok.glob,ok.blt,ok.above,ok.inj,ok.has,ok.XS,ok.hd,ok.frames,ok.Z5,ok.jg,ok.bs,ok.QZ,ok.Tj,ok.RS,ok.Ie,ok.UZ⟩
section
variable{X:Cx}{pins:List (AD×Obj)}{σ:St}{H:Hp}{s:SD}{E:VL→SD→Prop}
def Inv.J1(I:Inv X pins σ H s)(E:VL→SD→Prop):Inv (X.J1 E) pins σ H s:=⟨I.ok.J1 E,I.os,I.bare,I.base,I.loc,I.cell,I.free,I.HN,I.pin,I.A0,I.len⟩
def Inv.HX(I:Inv (X.J1 E) pins σ H s):Inv X pins σ H s:=⟨I.ok.HX,I.os,I.bare,I.base,I.loc,I.cell,I.free,I.HN,I.pin,I.A0,I.len⟩
def SP.HX{D:Ends}{f:Flow}{s':SD}(h:SP (X.J1 E) pins D f s'):SP X pins D f s':=by
 cases f with
 |next=>obtain⟨σ',H',I,q⟩:=h;exact⟨σ',H',I.HX,q⟩
 |brk=>obtain⟨σ',H',I,q⟩:=h;exact⟨σ',H',I.HX,q⟩
 |cont=>obtain⟨σ',H',I,q⟩:=h;exact⟨σ',H',I.HX,q⟩
 |ret u=>obtain⟨v,σ',H',I,r,q⟩:=h;exact⟨v,σ',H',I.HX,r,q⟩
def JR.Wf{st:List Stmt}{t:TS}(h:JR X.Wf st t):JR X st t:=fun pins s σ H D I hw =>
 ak (h pins s σ H D (I.J1 _) hw) (fun _ _ q=>q.HX) fun _ _ z=>False.elim z
end
section
variable{X:Cx}{st:Stmt}{rest:List Stmt}{t u:TS}{e:Expr}{te:TE}{pos:Pos}
def jB:TS:=fun D σ H=>D.nx σ H
def hJ(t u:TS):TS:=fun D σ H=>t { D with nx:=u D } σ H
def CI:JR X [] jB:=fun _ _ σ H _ I h=>wpAny_execs_nil ⟨σ,H,I,h⟩
def AY(h1:PS X st t)(h2:JR X rest u):JR X (st::rest) (hJ t u):=by
 intro pins s σ H D I h;refine wpAny_execs_cons (BN (h1 pins s σ H { D with nx:=u D } I h) fun f s1 q=>?_);cases f with
 |next =>
  obtain⟨σ',H',I',q⟩:=q;exact h2 pins s1 σ' H' D I' q
 |ret v=>exact q
 |brk=>exact q
 |cont=>exact q
def Ah(h1:PS X st t):JR X [st] t:=by
 intro pins s σ H D I h;refine wpAny_execs_cons (BN (h1 pins s σ H D I h) fun f s1 q=>?_);cases f with
 |next=>exact wpAny_execs_nil q
 |ret v=>exact q
 |brk=>exact q
 |cont=>exact q
def Inv.quiet{pins:List (AD×Obj)}{σ:St}{H:Hp}{s:SD}(I:Inv X pins σ H s):interactive X.env=false:=by simp [interactive,I.ok.kind]
def Vg(te:TE):TS:=fun D σ H=>te σ H fun _ H1=>D.nx σ H1
def FW(he:PE X e te)(hs:swapsWith e none pos.line X.env=pure false:=by rfl):PS X (.Expr e pos) (Vg te):=by
 intro pins s σ H D I h;exact wpAny_Expr_any (BN (he pins s σ H _ I h) fun v s1 ⟨x,H1,I1,r1,q1⟩=>⟨σ,H1,I1,q1⟩) I.quiet hs
def kK(te:TE):TS:=fun D σ H=>te σ H D.rt
def BU(he:PE X e te):PS X (.Return (some e) pos) (kK te):=by
 intro pins s σ H D I h;exact wpAny_Return_some (BN (he pins s σ H _ I h) fun v s1 ⟨x,H1,I1,r1,q1⟩=>⟨x,σ,H1,I1,r1,q1⟩)
def j7(c:TT)(t u:TS):TS:=fun D σ H=>c σ H fun b H1=>if b=true then t D σ H1 else u D σ H1
def Dw{c:Expr}{a b:List Stmt}{tc:TT}(hc:PT X c tc)(ha:JR X a t)(hb:JR X b u):PS X (.If c a b pos) (j7 tc t u):=by
 intro pins s σ H D I h;refine wpAny_If (BN (hc pins s σ H _ I h) fun d s1 ⟨H1,I1,q1⟩=>?_);cases d with
 |true=>exact ha pins s1 σ H1 D I1 q1
 |false=>exact hb pins s1 σ H1 D I1 q1
def dq:TS:=fun _ _ _=>False
def SG:PS X st dq:=fun _ _ _ _ _ _ h=>h.elim
end
abbrev TG:=V→St→Hp→(St→Hp→Prop)→Prop
abbrev Tn:=List V→St→Hp→(St→Hp→Prop)→Prop
def PG(X:Cx)(target:Expr)(t:TG):Prop :=
 ∀(pins:List (AD×Obj)) (s:SD) (σ:St) (H:Hp) (v:V) (u:VL) (Q:St→Hp→Prop),Inv X pins σ H s→RelV v u→t v σ H Q →
  wpAny (model X.prog X.w) X.A (assign target X.env u) (fun _ s'=>∃σ' H',Inv X pins σ' H' s'∧Q σ' H') X.xe s
def Z7(X:Cx)(ts:List Expr)(t:Tn):Prop :=
 ∀(pins:List (AD×Obj)) (s:SD) (σ:St) (H:Hp) (vs:List V) (us:List VL) (Q:St→Hp→Prop),Inv X pins σ H s→Vals vs us→t vs σ H Q →
  wpAny (model X.prog X.w) X.A (assignInOrder ((assignEach ts X.env).map (·.2)) us) (fun _ s'=>∃σ' H',Inv X pins σ' H' s'∧Q σ' H') X.xe s
abbrev Vf:=V→V→V→Hp→(Hp→Prop)→Prop
def ZL(X:Cx)(t:Vf):Prop :=
 ∀(pins:List (AD×Obj)) (s:SD) (σ:St) (H:Hp) (o i v:V) (ov iv u:VL) (Q:Hp→Prop),Inv X pins σ H s→RelV o ov→RelV i iv→RelV v u→t o i v H Q →
  wpAny (model X.prog X.w) X.A (setItem ov iv u) (fun _ s'=>∃H',Inv X pins σ H' s'∧Q H') X.xe s
section
variable{X:Cx}{pos:Pos}
def EG(i:Nat):TG:=fun v σ H Q=>Q (σ.set i (some v)) H
def A4{i:Nat}{x:Str}(hN:X.N.Nodup)(hi:X.N[i]? = some x)(hx:Loc X.env.scope x)(hf:X.fn x=true∨X.env.scope.names.lookup x=some .local:=by first|exact .inl rfl|exact .inr rfl|assumption):PG X (.Name x pos) (EG i):=by
 intro pins s σ H v u Q I r h;exact wpAny_assign_Name (LJ I hN hi hx r (fun s' I'=>⟨_,H,I',h⟩) hf)
def Vt:Tn:=fun vs σ H Q=>vs=[]∧Q σ H
def Jh(t:TG)(u:Tn):Tn:=fun vs σ H Q=>∃v r,vs=v::r∧t v σ H fun σ' H'=>u r σ' H' Q
def Ki:Z7 X [] Vt:=by
 intro pins s σ H vs us Q I r h;obtain⟨e,h⟩:=h;subst e;cases r;exact assignInOrder_nil ⟨σ,H,I,h⟩
def Df{e:Expr}{es:List Expr}{t:TG}{u:Tn}(h1:PG X e t)(h2:Z7 X es u)
 (hs:(assignEach (e::es) X.env).map (·.2)=assign e X.env::(assignEach es X.env).map (·.2):=by rfl):Z7 X (e::es) (Jh t u):=by
 intro pins s σ H vs us Q I r h;obtain⟨v,vr,e1,h⟩:=h;subst e1;cases r with
 |cons r rr =>
  rw [hs];refine assignInOrder_cons (BN (h1 pins s σ H _ _ _ I r h) fun _ s1 ⟨σ1,H1,I1,q1⟩=>?_);exact h2 pins s1 σ1 H1 _ _ Q I1 rr q1
def Vu(K:Fg)(n:Nat)(t:Tn):TG:=fun v σ H Q=>∃a xs,v=.ref a∧A7 K H a xs∧xs.length=n∧t xs σ H Q
def L7{es:List Expr}{k:Nat}{t:Tn}{n:Nat}(hc:X.calm=true)(h:Z7 X es t)
 (hn:(assignEach es X.env).length=n:=by rfl)(hst:(assignEach es X.env).findIdx? (·.1)=none:=by rfl):PG X (.Tuple es k pos) (Vu X.K n t):=by
 intro pins s σ H v u Q I r hw;obtain⟨a,xs,e1,hq,hl,hw⟩:=hw;subst e1;cases r;obtain⟨its,rv,ht,hz⟩:=I.tuple hq;refine assign_Tuple_tuple (I.ok.hd hc) ht (by simp [hn,←hl,rv.length]) hst fun h' hx=>?_;have I1:Inv X pins σ H { s with heap:=h' }:=I.kept (t':=s.toks) fun b o e=>hx b o (aJ (aE e)) e;exact h pins _ σ H xs _ Q I1 (by simpa using rv) hw
def jy(to ti:TE)(t:Vf):TG:=fun v σ H Q=>to σ H fun o H1=>ti σ H1 fun i H2=>t o i v H2 fun H3=>Q σ H3
def XO{o i:Expr}{to ti:TE}{t:Vf}(ho:PE X o to)(hi:PE X i ti)(hs:ZL X t)
 (ha:∀v,assign (.Subscript o i pos) X.env v=(do
      let ov ←holding [v] (eval o X.env)
      let iv ←holding [v,ov] (eval i X.env)
      standAt pos
      holding [v,ov,iv] (setItem ov iv v)
      release [v,ov,iv] []):=by intro _;rfl):PG X (.Subscript o i pos) (jy to ti t):=by
  intro pins s σ H v u Q I r h
  rw [ha]
  refine Wb (aV (BN (ho pins s σ H _ I h) fun ov s1 ⟨x,H1,I1,r1,q1⟩=>?_))
  refine Wb (aV (BN (hi pins s1 σ H1 _ I1 q1) fun iv s2 ⟨y,H2,I2,r2,q2⟩=>?_))
  refine Wb (wpAny_standAt (Wb (aV (BN (hs pins s2 σ H2 x y v ov iv u _ I2 r1 r2 r q2) fun _ s3 ⟨H3,I3,q3⟩=>?_))))
  exact wpAny_release ⟨σ,H3,I3,q3⟩
def V0(te:TE)(g:TG):TS:=fun D σ H=>te σ H fun x H1=>g x σ H1 D.nx
def Tf{tg e:Expr}{te:TE}{g:TG}(he:PE X e te)(hg:PG X tg g)(hs:swapsWithSole [tg] e pos.line X.env=pure false:=by rfl)(hw:swappedStores [tg] e X.env=pure none:=by rfl)
 (h1:(assignEach [tg] X.env).map (·.2)=[assign tg X.env]:=by rfl):PS X (.Assign [tg] e pos) (V0 te g):=by
 intro pins s σ H D I h;refine wpAny_Assign_stores (BN (he pins s σ H _ I h) fun v s1 ⟨x,H1,I1,r1,q1⟩=>?_) hs hw;rw [h1];exact BN (hg pins s1 σ H1 x v _ I1 r1 q1) fun _ s2 q=>q
def BK{i:Nat}{x:Str}{e:Expr}{te:TE}{pos':Pos}(hN:X.N.Nodup)(hi:X.N[i]? = some x)(hx:Loc X.env.scope x)(he:PE X e te)(hs:swapsWith e (some (.Name x pos')) pos.line X.env=pure false:=by rfl)(hf:X.fn x=true∨X.env.scope.names.lookup x=some .local:=by first|exact .inl rfl|exact .inr rfl|assumption) :
  PS X (.Assign [.Name x pos'] e pos) (V0 te (EG i)):=by
 intro pins s σ H D I h;refine wpAny_Assign_Name (BN (he pins s σ H _ I h) fun v s1 ⟨y,H1,I1,r1,q1⟩=>?_) hs;exact LJ I1 hN hi hx r1 (fun s2 I2=>⟨_,H1,I2,q1⟩) hf
def jk(i j:Nat)(ta:TA):TS:=fun D σ H=>ta σ H fun vs H1=>∃v w,vs=[v,w]∧D.nx ((σ.set i (some v)).set j (some w)) H1
def ee{i j:Nat}{x y:Str}{a b:Expr}{ta:TA}{px py pt:Pos}{kt k2 pt2}(hc:X.calm=true)(hN:X.N.Nodup)(hi:X.N[i]? = some x)(hj:X.N[j]? = some y)(hij:i≠j)
 (hx:X.env.scope.names.lookup x=some .local)(hy:X.env.scope.names.lookup y=some .local)(ha:PA X [a,b] ta)
 (hw:swappedStores [.Tuple [.Name x px,.Name y py] kt pt] (.Tuple [a,b] k2 pt2) X.env=pure (some [x,y]))
 (hs:swapsWithSole [.Tuple [.Name x px,.Name y py] kt pt] (.Tuple [a,b] k2 pt2) pos.line X.env=pure false:=by rfl) :
  PS X (.Assign [.Tuple [.Name x px,.Name y py] kt pt] (.Tuple [a,b] k2 pt2) pos) (jk i j ta):=by
 intro pins s σ H D I h;rw [exec_Assign_arm];refine Wb (wpAny_standAt ?_);rw [hs];refine Wb (aA ?_);rw [if_neg (by decide)];refine Wb (Tuple_ (BN (ha _ pins s σ H _ I h) fun us s1 ⟨vs,H1,I1,r1,q1⟩=>?_));obtain⟨v,w,e1,q1⟩:=q1;subst e1;obtain⟨u1,u2,rfl,rv,rw'⟩:∃u1 u2,us=[u1,u2]∧RelV v u1∧RelV w u2:=by
  cases r1 with
  |cons p q =>
   cases q with
   |cons p' q' =>
    cases q';exact⟨_,_,rfl,p,p'⟩
 refine aq ?_ (by show 2≤sizeLine;decide);have I2:Inv X pins σ H1 { s1 with heap:=s1.heap.push { cls:=.type "tuple",data:=.seq [u1,u2].toArray } }:=I1.kept (t':=s1.toks) fun b o e=>aC _ e;rw [hw];refine Wb (aA ?_);show wpAny (model X.prog X.w) X.A (do rule "assign.swapped-stores"; let items ←unpackItems (.ref s1.heap.objs.size) 2 none;assignInOrder [fun v=>bindName X.env y v,fun v=>bindName X.env x v] items.reverse;pure Flow.next) _ _ _;refine Wb (bP (Wb (unpackItems_tuple (items:=#[u1,u2]) (I.ok.hd hc) (IsTup.new s1.heap _) fun h' hx'=>?_)));have I3:=I2.kept (h':=h') (t':=s1.toks) fun b o e=>hx' b o (aJ (aE e)) e;show wpAny _ _ (assignInOrder [fun v=>bindName X.env y v,fun v=>bindName X.env x v] [u2,u1]>>=fun _=>pure Flow.next) _ _ _;refine Wb (assignInOrder_cons (wpAny_bindName (LJ I3 hN hj (.inl hy) rw' (fun s2 I4=>?_) (.inr hy))));refine assignInOrder_cons (wpAny_bindName (LJ I4 hN hi (.inl hx) rv (fun s3 I5=>assignInOrder_nil (aA ?_)) (.inr hx)));rw [List.set_comm _ _ (Ne.symm hij)]at I5;exact⟨_,H1,I5,q1⟩
end
section
variable{X:Cx}{pos:Pos}
def WJ(c:TT)(tb:TS):TS:=fun D σ H=>∃W:Nat→St→Hp→Prop,(∃m,W m σ H)∧∀m σ H,W m σ H →
 c σ H fun b H1=>if b=true then ∃N:St→Hp→Prop,(∀σ' H',N σ' H'→∃m',m'<m∧W m' σ' H')∧tb { D with nx:=N,ct:=N,bk:=D.nx } σ H1 else D.nx σ H1
def Nm{c:Expr}{body:List Stmt}{tc:TT}{tb:TS}(hp:PassesOwn (model X.prog X.w) X.A X.env X.xe)(hc:PT X c tc)(hb:JR X body tb):PS X (.While c body [] pos) (WJ tc tb):=by
 intro pins s σ H D I h;obtain⟨W,⟨m0,w0⟩,turn⟩:=h;refine wpAny_While (codeAny_whileLoop (fun n s'=>∃σ' H',Inv X pins σ' H' s'∧W n σ' H') ?_ m0 ⟨σ,H,I,w0⟩);rintro n s1 ⟨σ1,H1,I1,w1⟩;refine wpAny_passesOwn hp (BN (hc pins s1 σ1 H1 _ I1 (turn n σ1 H1 w1)) fun b s2 ⟨H2,I2,q2⟩=>?_);cases b with
 |true =>
  obtain⟨N,hN,q2⟩:=q2;rw [if_pos rfl];refine wpAny_passesOwn hp (BN (hb pins s2 σ1 H2 _ I2 q2) fun f s3 q3=>?_);cases f with
  |next =>
   obtain⟨σ3,H3,I3,n3⟩:=q3;obtain⟨m',hm,w3⟩:=hN σ3 H3 n3;exact⟨m',hm,σ3,H3,I3,w3⟩
  |cont =>
   obtain⟨σ3,H3,I3,n3⟩:=q3;obtain⟨m',hm,w3⟩:=hN σ3 H3 n3;exact⟨m',hm,σ3,H3,I3,w3⟩
  |brk=>exact q3
  |ret v=>exact q3
 |false =>
  rw [if_neg aL];exact wpAny_execs_nil ⟨σ1,H2,I2,q2⟩
end
structure It where
 go:Nat→Hp→Prop
 Eh:Nat→Hp→V→Hp→Prop
 stop:Nat→Hp→Prop
def Jy(X:Cx)(pins:List (AD×Obj))(H:Hp)(b:AD):Prop :=
 H b=none∧b≠X.env.locals∧b ∉ X.fs∧(b∈X.ex∨X.s₀.heap.objs.size≤b)∧(∀x c,X.env.cells.lookup x=some c→c≠b)∧∀p∈X.pn++pins,p.1≠b
def Inv.Nr{X:Cx}{pins:List (AD×Obj)}{σ:St}{H H':Hp}{s:SD}{b:AD}(I:Inv X pins σ H s)(hb:s.heap.objs.size≤b)(hn:H' b=none):Jy X pins H' b:=by
 refine⟨hn,Nat.ne_of_gt (aK I.lt hb),I.ky hb,.inr (aO I.sz hb),fun x c e z=>?_,fun p hp z=>?_⟩
 ·obtain⟨v,q⟩:=I.cell x c e;exact absurd (aK q.lt (by rw [z];exact hb)) (Nat.lt_irrefl _)
 ·exact absurd (aK (aE (I.pin p hp).1) (by rw [z];exact hb)) (Nat.lt_irrefl _)
structure Turn(P:Program)(w:World)(K:Fg)(tg:Expr)(J:It)(fp:List Addr)(it:Addr)(tn:Nat→Heap→Prop):Prop where
 mem:it∈fp
 obj:∀i h,tn i h→∀b∈fp,∃o,h.get? b=some o∧∀v,o.data≠.cell v
 keep:∀i h h',tn i h→(∀b∈fp,∀o,h.get? b=some o→h'.get? b=some o)→tn i h'
 item:∀(X:Cx),X.prog=P→X.w=w→X.K=K→X.calm=true→∀(i:Nat) (pins:List (Addr×Obj)) (s:Shared) (σ:St) (H:Hp) (E:Value→Shared→Prop),Inv X pins σ H s→(∀b∈fp,Jy X pins H b)→tn i s.heap→J.go i H →
  wpAny (model P w) X.A (pyNext (.ref it)) (fun r s1=>∃u,r=some u ∧
   wpAny (model P w) X.A (letOwnedTupleGo tg (.ref it) u) (fun _ s2=>∃x H',Inv X pins σ H' s2∧RelV x u∧J.Eh i H x H'∧tn (i+1) s2.heap∧∀b∈fp,H' b=none) E s1) E s
 done:∀(X:Cx),X.prog=P→X.w=w→X.K=K→X.calm=true→∀(i:Nat) (pins:List (Addr×Obj)) (s:Shared) (σ:St) (H:Hp) (E:Value→Shared→Prop),Inv X pins σ H s→(∀b∈fp,Jy X pins H b)→tn i s.heap→J.stop i H →
  wpAny (model P w) X.A (pyNext (.ref it)) (fun r s1=>r=none∧Inv X pins σ H s1) E s
 self:∀(A:Around) (i:Nat) (s:Shared) (Q:Value→Shared→Prop) (E:Value→Shared→Prop),tn i s.heap→Q (.ref it) s→wpAny (model P w) A (pyIter (.ref it)) Q E s
abbrev TI:=St→Hp→(It→Hp→Prop)→Prop
def jd(X:Cx)(pins:List (AD×Obj))(σ:St)(tg:Expr)(R:It→Hp→Prop)(itv:VL)(s2:SD):Prop :=
 ∃(it:AD) (fp:List AD) (tn:Nat→Heap→Prop) (J:It) (H':Hp),itv=.ref it∧Inv X pins σ H' s2∧Turn X.prog X.w X.K tg J fp it tn∧tn 0 s2.heap∧(∀b∈fp,Jy X pins H' b)∧R J H'
def PI(X:Cx)(tg iter:Expr)(wi:TI):Prop :=
 ∀(pins:List (AD×Obj)) (s:SD) (σ:St) (H:Hp) (R:It→Hp→Prop),Inv X pins σ H s→wi σ H R →
  wpAny (model X.prog X.w) X.A (eval iter X.env) (fun v s1=>wpAny (model X.prog X.w) X.A (pyIter v) (jd X pins σ tg R) X.xe s1) X.xe s
def V3{M:Model}{A:Around}{E:VL→SD→Prop}{s:SD}{tg:Expr}{it:AD}{u:VL}{o:Obj}{n:String}{vs:Array VL}{Q:Unit→SD→Prop}(ho:s.heap.get? it=some o)(hc:o.cls=.type n)(hd:o.data=.fields vs)
 (hn:["enumerate", "zip", "dict_itemiterator", "dict_reverseitemiterator", "odict_iterator", "itertools.zip_longest", "itertools.pairwise"].contains n=false)(hQ:Q () s):wpAny M A (letOwnedTupleGo tg (.ref it) u) Q E s:=by
 unfold letOwnedTupleGo;cases tg<;>first
  |exact aA hQ
  |(cases u<;>first
    |exact aA hQ
    |(refine Wb (wpAny_load ho ?_)
      rw [hc,hd];show wpAny M A (if(["enumerate", "zip", "dict_itemiterator", "dict_reverseitemiterator", "odict_iterator", "itertools.zip_longest", "itertools.pairwise"].contains n&&vs[0]? == some (rawInt _))=true then _ else _) Q E s;rw [if_neg (by intro h;rw [hn,Bool.false_and]at h;cases h)];exact aA hQ))
def U1(K:Fg)(a:AD):It :=
 ⟨fun i H=>∃xs x,Al K H a xs∧xs[i]? = some x,fun i H x H'=>H'=H∧∀xs,Al K H a xs→xs[i]? = some x,fun i H=>∃xs,Al K H a xs∧xs.length≤i⟩
def UJ(K:Fg)(a:AD):It :=
 ⟨fun i H=>∃xs x,A7 K H a xs∧xs[i]? = some x,fun i H x H'=>H'=H∧∀xs,A7 K H a xs→xs[i]? = some x,fun i H=>∃xs,A7 K H a xs∧xs.length≤i⟩
def QY(lo:Int)(n:Nat):It:=⟨fun i _=>i<n,fun i H x H'=>H'=H∧x=.int (lo+i),fun i _=>n≤i⟩
def Xq{P:Program}{w:World}{K:Fg}{tg:Expr}(a it:AD):Turn P w K tg (U1 K a) [it] it (fun i h=>h.IsListIter it a i) where
 mem:=by simp
 obj:=fun i h st b hb=>by
  have e:b=it:=by simpa using hb
  subst e;obtain⟨o,e,c,d⟩:=st;exact⟨o,e,fun v z=>by rw [d]at z;cases z⟩
 keep:=fun i h h' st k=>st.at fun o e=>k it (by simp) o e
 item:=by
  intro X hP hw hK hc i pins s σ H E I hf st hg;subst hP hw hK;obtain⟨xs,x,hq,hx⟩:=hg;obtain⟨its,rv,p,hz⟩:=I.list hq;obtain⟨u,hu,ru⟩:=rv.get hx;obtain⟨f0,f1,f2,f3,f4,f5⟩:=hf it (by simp);refine wpAny_pyNext_list_item st p.isList (x:=u) (by simpa using hu) fun h' st' sb=>?_;have I1:Inv X pins σ H { s with heap:=h' }:=I.turned (t':=s.toks) (fun b o hb e=>(sb.2 b hb).trans e) f0 f1 f3 f4 f5;obtain⟨o,e,c,d⟩:=id st';exact⟨u,rfl,V3 (s:={ s with heap:=h' }) e c d (by decide) ⟨x,H,I1,ru,⟨rfl,fun ys hy=>by rw [I.RQ hy hq];exact hx⟩,st',fun b hb=>(hf b hb).1⟩⟩
 done:=by
  intro X hP hw hK hc i pins s σ H E I hf st hg;subst hP hw hK;obtain⟨xs,hq,hx⟩:=hg;obtain⟨its,rv,p,hz⟩:=I.list hq;obtain⟨f0,f1,f2,f3,f4,f5⟩:=hf it (by simp);have hl:=rv.length;exact wpAny_pyNext_list_end (I.ok.hd hc) st p.isList (by simp;omega) fun h' eb=>⟨rfl,I.turned (t':=s.toks) (fun b o hb e=>eb b o hb e) f0 f1 f3 f4 f5⟩
 self:=fun _ _ _ _ _ st h=>wpAny_pyIter_listiter st h
def Vm{P:Program}{w:World}{K:Fg}{tg:Expr}(a it:AD):Turn P w K tg (UJ K a) [it] it (fun i h=>h.IsTupleIter it a i) where
 mem:=by simp
 obj:=fun i h st b hb=>by
  have e:b=it:=by simpa using hb
  subst e;obtain⟨o,e,c,d⟩:=st;exact⟨o,e,fun v z=>by rw [d]at z;cases z⟩
 keep:=fun i h h' st k=>st.at fun o e=>k it (by simp) o e
 item:=by
  intro X hP hw hK hc i pins s σ H E I hf st hg;subst hP hw hK;obtain⟨xs,x,hq,hx⟩:=hg;obtain⟨its,rv,p,hz⟩:=I.tuple hq;obtain⟨u,hu,ru⟩:=rv.get hx;obtain⟨f0,f1,f2,f3,f4,f5⟩:=hf it (by simp);refine wpAny_pyNext_tuple_item st (show s.heap.IsTuple a its.toArray from p) (x:=u) (by simpa using hu) fun h' st' sb=>?_;have I1:Inv X pins σ H { s with heap:=h' }:=I.turned (t':=s.toks) (fun b o hb e=>(sb.2 b hb).trans e) f0 f1 f3 f4 f5;obtain⟨o,e,c,d⟩:=id st';exact⟨u,rfl,V3 (s:={ s with heap:=h' }) e c d (by decide) ⟨x,H,I1,ru,⟨rfl,fun ys hy=>by rw [I.Qs hy hq];exact hx⟩,st',fun b hb=>(hf b hb).1⟩⟩
 done:=by
  intro X hP hw hK hc i pins s σ H E I hf st hg;subst hP hw hK;obtain⟨xs,hq,hx⟩:=hg;obtain⟨its,rv,p,hz⟩:=I.tuple hq;obtain⟨f0,f1,f2,f3,f4,f5⟩:=hf it (by simp);have hl:=rv.length;exact wpAny_pyNext_tuple_end (I.ok.hd hc) st (show s.heap.IsTuple a its.toArray from p) (by simp;omega) fun h' eb=>⟨rfl,I.turned (t':=s.toks) (fun b o hb e=>eb b o hb e) f0 f1 f3 f4 f5⟩
 self:=fun _ _ _ _ _ st h=>wpAny_pyIter_tupleiter st h
def VW{P:Program}{w:World}{K:Fg}{tg:Expr}(it:AD)(lo:Int)(n:Nat):Turn P w K tg (QY lo n) [it] it (fun i h=>IsRangeIter h it (lo+(i:Nat)*1) ((n:Int)-(i:Nat)) 1) where
 mem:=by simp
 obj:=fun i h st b hb=>by
  have e:b=it:=by simpa using hb
  subst e;exact⟨_,st,fun v z=>by
   have z':Data.fields _=Data.cell v:=z;cases z'⟩
 keep:=fun i h h' st k=>k it (by simp) _ st
 item:=by
  intro X hP hw hK hc i pins s σ H E I hf st hg;subst hP hw hK;obtain⟨f0,f1,f2,f3,f4,f5⟩:=hf it (by simp);have W:=Walks.range (prog:=X.prog) (w:=X.w) (I.ok.hd hc) it lo 1 n;refine W.item i s _ _ hg st fun v h' tk hv st' kk=>?_;obtain⟨t,rfl⟩:=hv;have I1:Inv X pins σ H { s with heap:=h',toks:=tk }:=I.turned (fun b o hb e=>kk b o (by simpa using hb) e) f0 f1 f3 f4 f5;refine⟨_,rfl,V3 (s:={ s with heap:=h',toks:=tk }) (n := "range_iterator") st' rfl rfl (by decide) ⟨.int (lo+i),H,I1,⟨t,?_⟩,⟨rfl,rfl⟩,st',fun b hb=>(hf b hb).1⟩⟩;rw [Int.mul_one]
 done:=by
  intro X hP hw hK hc i pins s σ H E I hf st hg;subst hP hw hK;obtain⟨f0,f1,f2,f3,f4,f5⟩:=hf it (by simp);exact wpAny_pyNext_range_end (I.ok.hd hc) st (by have:n≤i:=hg;omega) fun h' eb=>⟨rfl,I.turned (t':=s.toks) (fun b o hb e=>eb b o hb e) f0 f1 f3 f4 f5⟩
 self:=fun _ _ _ _ _ st h=>wpAny_pyIter_rangeiter st h
section
variable{X:Cx}{tg:Expr}
def iq(K:Fg)(tl:TE):TI:=fun σ H R=>tl σ H fun x H1=>∃a,x=.ref a∧(∃xs,Al K H1 a xs)∧R (U1 K a) H1
def jm(K:Fg)(tl:TE):TI:=fun σ H R=>tl σ H fun x H1=>∃a,x=.ref a∧(∃xs,A7 K H1 a xs)∧R (UJ K a) H1
def En{l:Expr}{tl:TE}(hl:PE X l tl):PI X tg l (iq X.K tl):=by
 intro pins s σ H R I h;refine BN (hl pins s σ H _ I h) fun v s1 ⟨x,H1,I1,r1,q1⟩=>?_;obtain⟨a,e,⟨xs,hq⟩,q⟩:=q1;subst e;cases r1;obtain⟨its,rv,p,hz⟩:=I1.list hq;refine wpAny_pyIter_list p.isList ?_;refine⟨s1.heap.objs.size,[s1.heap.objs.size],_,_,H1,rfl,I1.kept (t':=s1.toks) fun b o e=>aC _ e,Xq a _,⟨_,Heap.get?_push_size _ rfl,rfl,rfl⟩,fun b hb=>?_,q⟩;have e:b=s1.heap.objs.size:=by simpa using hb
 subst e;exact I1.Nr (aF _) (I1.A0.fresh (aF _))
def Sg{l:Expr}{tl:TE}(hl:PE X l tl):PI X tg l (jm X.K tl):=by
 intro pins s σ H R I h;refine BN (hl pins s σ H _ I h) fun v s1 ⟨x,H1,I1,r1,q1⟩=>?_;obtain⟨a,e,⟨xs,hq⟩,q⟩:=q1;subst e;cases r1;obtain⟨its,rv,p,hz⟩:=I1.tuple hq;refine wpAny_pyIter_tuple (show s1.heap.IsTuple a its.toArray from p) ?_;refine⟨s1.heap.objs.size,[s1.heap.objs.size],_,_,H1,rfl,I1.kept (t':=s1.toks) fun b o e=>aC _ e,Vm a _,⟨_,Heap.get?_push_size _ rfl,rfl,rfl⟩,fun b hb=>?_,q⟩;have e:b=s1.heap.objs.size:=by simpa using hb
 subst e;exact I1.Nr (aF _) (I1.A0.fresh (aF _))
def Rp{pins:List (AD×Obj)}{σ:St}{H:Hp}{s:SD}{R:It→Hp→Prop}{E:VL→SD→Prop}{lo hi:Int}{t u v:Tok}{tk:Nat}(I:Inv X pins σ H s)(h1:-(2^62)≤lo)(h2:lo<2^62)(h3:-(2^62)≤hi)(h4:hi<2^62)
 (q:R (QY lo (hi-lo).toNat) H):wpAny (model X.prog X.w) X.A (pyIter (.ref s.heap.objs.size)) (jd X pins σ tg R) E { s with heap:=s.heap.push { cls:=.type "range",data:=.fields #[.int lo t,.int hi u,.int 1 v] },toks:=tk }:=by
 refine wpAny_pyIter_range (IsRange.new ..) (small_one h1 h2 h3 h4) ?_;have I1:Inv X pins σ H { s with heap:=s.heap.push { cls:=.type "range",data:=.fields #[.int lo t,.int hi u,.int 1 v] },toks:=tk }:=I.kept fun b o e=>aC _ e;refine⟨(s.heap.push { cls:=.type "range",data:=.fields #[.int lo t,.int hi u,.int 1 v] }).objs.size,[(s.heap.push { cls:=.type "range",data:=.fields #[.int lo t,.int hi u,.int 1 v] }).objs.size],_,_,H,rfl,
  I1.kept (t':=tk) fun b o e=>aC _ e,VW _ lo (hi-lo).toNat,?_,fun b hb=>?_,q⟩
 ·have e1:lo+((0:Nat):Int)*1=lo:=by simp
  have e2:(((hi-lo).toNat:Nat):Int)-((0:Nat):Int)=Builtin.Range.rangeSize lo hi 1:=by rw [rangeSize_one];split<;>omega
  show IsRangeIter _ _ (lo+((0:Nat):Int)*1) ((((hi-lo).toNat:Nat):Int)-((0:Nat):Int)) 1;rw [e1,e2];exact aH _ rfl
 ·have e:b=(s.heap.push { cls:=.type "range",data:=.fields #[.int lo t,.int hi u,.int 1 v] }).objs.size:=by simpa using hb
  subst e;exact I1.Nr (aF _) (I1.A0.fresh (aF _))
def iX(ta:TA):TI:=fun σ H R=>ta σ H fun vs H1=>∃j:Int,vs=[.int j]∧-(2^62)≤j∧j<2^62∧R (QY 0 j.toNat) H1
def iV(ta:TA):TI:=fun σ H R=>ta σ H fun vs H1=>∃i j:Int,vs=[.int i,.int j]∧(-(2^62)≤i∧i<2^62∧-(2^62)≤j∧j<2^62)∧R (QY i (j-i).toNat) H1
def MO{a:Expr}{ta:TA}{p pos:Pos}(hg:Gl X "range")(hm:X.mg "range" = none)(ha:PA X [a] ta)(hs:starEach [a] X.env=[(false,eval a X.env)]:=by rfl):PI X tg (.Call (.Name "range" p) [a] [] pos) (iX ta):=by
 intro pins s σ H R I h;refine Call_ (Fs I hg hm boot_range (av (BN (ha pos pins s σ H _ I h) fun us s1 ⟨vs,H1,I1,r1,q1⟩=>?_) hs rfl));obtain⟨j,e,q1,q2,q⟩:=q1;subst e;cases r1 with
 |cons r rr =>
  cases rr;obtain⟨t,rfl⟩:=r;exact call_range_1 (Rp I1 (by omega) (by omega) q1 q2 (by simpa using q))
def WI{a b:Expr}{ta:TA}{p pos:Pos}(hg:Gl X "range")(hm:X.mg "range" = none)(ha:PA X [a,b] ta)(hs:starEach [a,b] X.env=[(false,eval a X.env),(false,eval b X.env)]:=by rfl)(hs2:starEach [b] X.env=[(false,eval b X.env)]:=by rfl) :
  PI X tg (.Call (.Name "range" p) [a,b] [] pos) (iV ta):=by
 intro pins s σ H R I h;refine Call_ (Fs I hg hm boot_range (av (BN (ha pos pins s σ H _ I h) fun us s1 ⟨vs,H1,I1,r1,q1⟩=>?_) (by rw [hs,hs2]) (by rw [hs2];rfl)));obtain⟨i,j,e,⟨q1,q2,q3,q4⟩,q⟩:=q1;subst e;cases r1 with
 |cons r rr =>
  cases rr with
  |cons r' rr =>
   cases rr;obtain⟨t,rfl⟩:=r;obtain⟨t',rfl⟩:=r';exact call_range_2 (Rp I1 q1 q2 q3 q4 q)
def k7(wi:TI)(g:TG)(tb:TS):TS:=fun D σ H=>wi σ H fun J H1=>∃W:Nat→Nat→St→Hp→Prop,(∃m,W 0 m σ H1)∧∀i m σ H,W i m σ H →
 (J.stop i H∧D.nx σ H)∨(J.go i H∧∃N:St→Hp→Prop,(∀σ' H',N σ' H'→∃m',m'<m∧W (i+1) m' σ' H')∧∀x H',J.Eh i H x H'→g x σ H' fun σ2 H2=>tb { D with nx:=N,ct:=N,bk:=D.nx } σ2 H2)
def L8(fp:List AD)(h:Heap):List (AD×Obj):=fp.filterMap fun b=>(h.get? b).map fun o=>(b,o)
def IZ{fp:List AD}{h:Heap}{b:AD}{o:Obj}(hb:b∈fp)(e:h.get? b=some o):(b,o)∈L8 fp h:=List.mem_filterMap.mpr ⟨b,hb,by rw [e];rfl⟩
def Wg{fp:List AD}{h:Heap}{p:AD×Obj}(hp:p∈L8 fp h):p.1∈fp∧h.get? p.1=some p.2:=by
 obtain⟨b,hb,e⟩:=List.mem_filterMap.mp hp;cases q:h.get? b with
 |none=>rw [q]at e;cases e
 |some o =>
  rw [q]at e;have e':(b,o)=p:=ah e;subst e';exact⟨hb,q⟩
def Inv.pinned{pins:List (AD×Obj)}{σ:St}{H:Hp}{s:SD}{fp:List AD}(I:Inv X pins σ H s)(hf:∀b∈fp,Jy X pins H b)(ho:∀b∈fp,∃o,s.heap.get? b=some o∧∀v,o.data≠.cell v):Inv X (pins++L8 fp s.heap) σ H s :=
 I.Ux fun p hp=>(bZ.mp hp).elim (fun z=>I.pin p (aS _ z)) fun z=>by
  obtain⟨hb,e⟩:=Wg z;obtain⟨f0,f1,f2,_⟩:=hf p.1 hb;obtain⟨o,e',d⟩:=ho p.1 hb;rw [e]at e';cases e';exact⟨e,f0,f1,f2,d⟩
def Inv.K6{pins pl:List (AD×Obj)}{σ:St}{H:Hp}{s:SD}(I:Inv X (pins++pl) σ H s):Inv X pins σ H s:=I.Ux fun p hp=>I.pin p (aS _ (bL _ hp))
def Gb{iter:Expr}{body:List Stmt}{wi:TI}{g:TG}{tb:TS}{pos:Pos}(hp:PassesOwn (model X.prog X.w) X.A X.env X.xe)(hc:X.calm=true)(hi:PI X tg iter wi)(hg:PG X tg g)(hb:JR X body tb)
 (hs:∀x,foldedSetIterable iter X.env x=pure x:=by intro _;rfl):PS X (.For tg iter body [] pos) (k7 wi g tb):=by
 intro pins s σ H D I h;refine wpAny_For (BN (hi pins s σ H _ I h) fun v s1 h1=>BN h1 fun itv s2 h2=>?_) hs;obtain⟨it,fp,tn,J,H2,e,I2,T,st2,f2,W,⟨m0,w0⟩,turn⟩:=h2;subst e;have stat:∀ {H':Hp},(∀b∈fp,H' b=none)→∀b∈fp,Jy X pins H' b:=fun hn b hb=>⟨hn b hb,(f2 b hb).2⟩;refine codeAny_forLoop_any (fun n s'=>∃i σ' H',Inv X pins σ' H' s'∧tn i s'.heap∧(∀b∈fp,H' b=none)∧W i n σ' H') ?_ m0 ⟨0,σ,H2,I2,st2,fun b hb=>(f2 b hb).1,w0⟩;rintro n s3 ⟨i,σ3,H3,I3,st3,fr3,w3⟩;rcases turn i n σ3 H3 w3 with ⟨stop,qn⟩|⟨go,N,hN,step⟩
 ·refine wpAny_passesOwn hp (BN (T.done X rfl rfl rfl hc i pins s3 σ3 H3 X.xe I3 (stat fr3) st3 stop) fun r s4 ⟨hr,I4⟩=>?_);subst hr;exact wpAny_execs_nil ⟨σ3,H3,I4,qn⟩
 ·refine wpAny_passesOwn hp (BN (T.item X rfl rfl rfl hc i pins s3 σ3 H3 X.xe I3 (stat fr3) st3 go) fun r s4 ⟨u,hr,h4⟩=>?_);subst hr;refine wpAny_passesOwn hp (BN h4 fun _ s5 ⟨x,H5,I5,r5,y5,st5,fr5⟩=>?_);have I5':=I5.pinned (stat fr5) (T.obj _ _ st5);refine wpAny_passesOwn hp (BN (hg _ s5 σ3 H5 x u _ I5' r5 (step x H5 y5)) fun _ s6 ⟨σ6,H6,I6,q6⟩=>?_);refine wpAny_passesOwn hp (BN (hb _ s6 σ6 H6 _ I6 q6) fun f s7 q7=>?_);have again:∀ {σ7:St} {H7:Hp},Inv X (pins++L8 fp s5.heap) σ7 H7 s7→N σ7 H7→∃m,m<n∧∃i σ' H',Inv X pins σ' H' s7∧tn i s7.heap∧(∀b∈fp,H' b=none)∧W i m σ' H':=fun {σ7 H7} I7 n7=>by
   obtain⟨m',hm,w7⟩:=hN σ7 H7 n7;refine⟨m',hm,i+1,σ7,H7,I7.K6,T.keep _ _ _ st5 fun b hb o e=>(I7.pin (b,o) (aS _ (aS _ (IZ hb e)))).1,fun b hb=>?_,w7⟩;obtain⟨o,e,d⟩:=T.obj _ _ st5 b hb;exact(I7.pin (b,o) (aS _ (aS _ (IZ hb e)))).2.1
  cases f with
  |next=>obtain⟨σ7,H7,I7,n7⟩:=q7;exact again I7 n7
  |cont=>obtain⟨σ7,H7,I7,n7⟩:=q7;exact again I7 n7
  |brk=>obtain⟨σ7,H7,I7,q7⟩:=q7;exact⟨σ7,H7,I7.K6,q7⟩
  |ret v=>obtain⟨x7,σ7,H7,I7,r7,q7⟩:=q7;exact⟨x7,σ7,H7,I7.K6,r7,q7⟩
end
def LG{K:Fg}{a:AD}{xs:List V}{g:TG}{tb:TS}{D:Ends}{σ:St}{H:Hp}(Pv:Nat→St→Hp→Prop)(h0:Pv 0 σ H)(hl:∀i σ H,i≤xs.length→Pv i σ H→Al K H a xs)
 (hs:∀i x σ H,xs[i]? = some x→Pv i σ H→g x σ H fun σ2 H2=>tb { D with nx:=Pv (i+1),ct:=Pv (i+1),bk:=D.nx } σ2 H2)(hd:∀σ H,Pv xs.length σ H→D.nx σ H) :
  ∃W:Nat→Nat→St→Hp→Prop,(∃m,W 0 m σ H)∧∀i m σ H,W i m σ H →
   ((U1 K a).stop i H∧D.nx σ H)∨((U1 K a).go i H∧∃N:St→Hp→Prop,(∀σ' H',N σ' H'→∃m',m'<m∧W (i+1) m' σ' H')∧∀x H',(U1 K a).Eh i H x H'→g x σ H' fun σ2 H2=>tb { D with nx:=N,ct:=N,bk:=D.nx } σ2 H2):=by
 refine⟨fun i m σ H=>m=xs.length-i∧i≤xs.length∧Pv i σ H,⟨xs.length,by simp,Nat.zero_le _,h0⟩,?_⟩;rintro i m σ H ⟨rfl,hi,p⟩;have q:=hl i σ H hi p;by_cases hlt:i<xs.length
 ·refine .inr ⟨⟨xs,xs[i],q,by simp [hlt]⟩,Pv (i+1),fun σ' H' p'=>⟨xs.length-(i+1),by omega,rfl,hlt,p'⟩,fun x H' y=>?_⟩;obtain⟨e,y⟩:=y;subst e;exact hs i x σ _ (y xs q) p
 ·have e:i=xs.length:=by omega
  subst e;exact .inl ⟨⟨xs,q,Nat.le_refl _⟩,hd σ H p⟩
def dI{K:Fg}{a:AD}{xs:List V}{g:TG}{tb:TS}{D:Ends}{σ:St}{H:Hp}(Pv:Nat→St→Hp→Prop)(h0:Pv 0 σ H)(hl:∀i σ H,i≤xs.length→Pv i σ H→A7 K H a xs)
 (hs:∀i x σ H,xs[i]? = some x→Pv i σ H→g x σ H fun σ2 H2=>tb { D with nx:=Pv (i+1),ct:=Pv (i+1),bk:=D.nx } σ2 H2)(hd:∀σ H,Pv xs.length σ H→D.nx σ H) :
  ∃W:Nat→Nat→St→Hp→Prop,(∃m,W 0 m σ H)∧∀i m σ H,W i m σ H →
   ((UJ K a).stop i H∧D.nx σ H)∨((UJ K a).go i H∧∃N:St→Hp→Prop,(∀σ' H',N σ' H'→∃m',m'<m∧W (i+1) m' σ' H')∧∀x H',(UJ K a).Eh i H x H'→g x σ H' fun σ2 H2=>tb { D with nx:=N,ct:=N,bk:=D.nx } σ2 H2):=by
 refine⟨fun i m σ H=>m=xs.length-i∧i≤xs.length∧Pv i σ H,⟨xs.length,by simp,Nat.zero_le _,h0⟩,?_⟩;rintro i m σ H ⟨rfl,hi,p⟩;have q:=hl i σ H hi p;by_cases hlt:i<xs.length
 ·refine .inr ⟨⟨xs,xs[i],q,by simp [hlt]⟩,Pv (i+1),fun σ' H' p'=>⟨xs.length-(i+1),by omega,rfl,hlt,p'⟩,fun x H' y=>?_⟩;obtain⟨e,y⟩:=y;subst e;exact hs i x σ _ (y xs q) p
 ·have e:i=xs.length:=by omega
  subst e;exact .inl ⟨⟨xs,q,Nat.le_refl _⟩,hd σ H p⟩
def QN{lo:Int}{n:Nat}{g:TG}{tb:TS}{D:Ends}{σ:St}{H:Hp}(Pv:Nat→St→Hp→Prop)(h0:Pv 0 σ H)
 (hs:∀i σ H,i<n→Pv i σ H→g (.int (lo+i)) σ H fun σ2 H2=>tb { D with nx:=Pv (i+1),ct:=Pv (i+1),bk:=D.nx } σ2 H2)(hd:∀σ H,Pv n σ H→D.nx σ H) :
  ∃W:Nat→Nat→St→Hp→Prop,(∃m,W 0 m σ H)∧∀i m σ H,W i m σ H →
   ((QY lo n).stop i H∧D.nx σ H)∨((QY lo n).go i H∧∃N:St→Hp→Prop,(∀σ' H',N σ' H'→∃m',m'<m∧W (i+1) m' σ' H')∧∀x H',(QY lo n).Eh i H x H'→g x σ H' fun σ2 H2=>tb { D with nx:=N,ct:=N,bk:=D.nx } σ2 H2):=by
 refine⟨fun i m σ H=>m=n-i∧i≤n∧Pv i σ H,⟨n,by simp,Nat.zero_le _,h0⟩,?_⟩;rintro i m σ H ⟨rfl,hi,p⟩;by_cases hlt:i<n
 ·refine .inr ⟨hlt,Pv (i+1),fun σ' H' p'=>⟨n-(i+1),by omega,rfl,hlt,p'⟩,fun x H' y=>?_⟩;obtain⟨e,y⟩:=y;subst e y;exact hs i σ _ hlt p
 ·have e:i=n:=by omega
  subst e;exact .inl ⟨aF _,hd σ H p⟩
def OA{c:TT}{tb:TS}{D:Ends}{σ:St}{H:Hp}(Pv:St→Hp→Prop)(μ:St→Hp→Nat)(h0:Pv σ H)
 (hs:∀σ H,Pv σ H→c σ H fun b H1=>if b=true then tb { D with nx:=fun σ' H'=>Pv σ' H'∧μ σ' H'<μ σ H,ct:=fun σ' H'=>Pv σ' H'∧μ σ' H'<μ σ H,bk:=D.nx } σ H1 else D.nx σ H1)
 (mono:∀σ H Q Q',(∀b H1,Q b H1→Q' b H1)→c σ H Q→c σ H Q'):WJ c tb D σ H:=by
 refine⟨fun m σ H=>m=μ σ H∧Pv σ H,⟨_,rfl,h0⟩,?_⟩;rintro m σ H ⟨rfl,p⟩;refine mono σ H _ _ (fun b H1 q=>?_) (hs σ H p);cases b with
 |true=>exact⟨_,fun σ' H' ⟨p',l⟩=>⟨_,l,rfl,p'⟩,q⟩
 |false=>exact q
abbrev R2:=V→V→Hp→VK→Prop
def Cm(X:Cx)(f:VL→VL→Sem VL)(r:R2):Prop :=
 ∀(pins:List (AD×Obj)) (s:SD) (σ:St) (H:Hp) (x y:V) (v u:VL) (Q:VK),Inv X pins σ H s→RelV x v→RelV y u→r x y H Q →
  wpAny (model X.prog X.w) X.A (f v u) (EP X pins σ Q) X.xe s
def ed(X:Cx)(f:VL→Sem VL)(r:V→Hp→VK→Prop):Prop :=
 ∀(pins:List (AD×Obj)) (s:SD) (σ:St) (H:Hp) (x:V) (v:VL) (Q:VK),Inv X pins σ H s→RelV x v→r x H Q →
  wpAny (model X.prog X.w) X.A (f v) (EP X pins σ Q) X.xe s
def D4(X:Cx)(f:VL)(r:List V→Hp→VK→Prop):Prop :=
 ∀(pins:List (AD×Obj)) (s:SD) (σ:St) (H:Hp) (xs:List V) (us:List VL) (Q:VK),Inv X pins σ H s→Vals xs us→r xs H Q →
  wpAny (model X.prog X.w) X.A (call f us) (EP X pins σ Q) X.xe s
def Xv(r:R2)(ta tb:TE):TE:=fun σ H Q=>ta σ H fun x H1=>tb σ H1 fun y H2=>r x y H2 Q
def lH(r:V→Hp→VK→Prop)(ta:TE):TE:=fun σ H Q=>ta σ H fun x H1=>r x H1 Q
def rI(C:Int→Int→Prop)(g:Int→Int→V):R2:=fun x y H Q=>∃i j,x=.int i∧y=.int j∧C i j∧Q (g i j) H
def QR(g:Int→Int→V):R2:=fun x y H Q=>∃i j,x=.int i∧y=.int j∧Q (g i j) H
def rU(g:Int→V):V→Hp→VK→Prop:=fun x H Q=>∃i,x=.int i∧Q (g i) H
section
variable{X:Cx}{a b c:Expr}{ta tb tc:TE}{pos:Pos}
def YR(ha:PE X a ta)(hb:PE X b tb){pins:List (AD×Obj)}{s:SD}{σ:St}{H:Hp}{R:V→V→Hp→Prop}(I:Inv X pins σ H s)
 (h:ta σ H fun x H1=>tb σ H1 fun y H2=>R x y H2){Q:VL→SD→Prop}{f:VL→VL→Sem VL}
 (hf:∀v u s2 x y H2,Inv X pins σ H2 s2→RelV x v→RelV y u→R x y H2→wpAny (model X.prog X.w) X.A (f v u) Q X.xe s2) :
  wpAny (model X.prog X.w) X.A (eval a X.env) (fun v s₁=>wpAny (model X.prog X.w) X.A (eval b X.env) (fun u s₂=>wpAny (model X.prog X.w) X.A (f v u) Q X.xe s₂) X.xe s₁) X.xe s:=by
 refine BN (ha pins s σ H _ I h) fun v s1 ⟨x,H1,I1,r1,q1⟩=>?_;refine BN (hb pins s1 σ H1 _ I1 q1) fun u s2 ⟨y,H2,I2,r2,q2⟩=>?_;exact hf v u s2 x y H2 I2 r1 r2 q2
def BP{op:Operator}{r:R2}(ho:Cm X (binaryOp op) r)(ha:PE X a ta)(hb:PE X b tb):PE X (.BinOp a op b pos) (Xv r ta tb):=by
 intro pins s σ H Q I h;exact wpAny_BinOp (YR ha hb I h fun v u s2 x y H2 I2 rx ry q=>ho pins s2 σ H2 x y v u Q I2 rx ry q)
def Vn{op:UnaryOp}{r:V→Hp→VK→Prop}(ho:ed X (unaryOp op) r)(ha:PE X a ta):PE X (.UnaryOp op a pos) (lH r ta):=by
 intro pins s σ H Q I h;exact UnaryOp_ (BN (ha pins s σ H _ I h) fun v s1 ⟨x,H1,I1,r1,q1⟩=>ho pins s1 σ H1 x v Q I1 r1 q1)
def UU{f:VL→VL→Sem VL}{C:Int→Int→Prop}{g:Int→Int→Int}
 (rule:∀(i j:Int) (t u:Tok) (s:SD) (Q:VL→SD→Prop) (E:VL→SD→Prop),C i j→Q (.int (g i j) s.toks) { s with toks:=s.toks+1 }→wpAny (model X.prog X.w) X.A (f (.int i t) (.int j u)) Q E s) :
  Cm X f (rI C fun i j=>.int (g i j)):=by
 intro pins s σ H x y v u Q I rx ry h;obtain⟨i,j,rfl,rfl,hc,q⟩:=h;obtain⟨t,rfl⟩:=rx;obtain⟨t',rfl⟩:=ry;exact rule i j t t' s _ _ hc ⟨.int (g i j),H,I.tok _,⟨_,rfl⟩,q⟩
def fx{f:VL→VL→Sem VL}{g:Int→Int→Int}
 (rule:∀(i j:Int) (t u:Tok) (s:SD) (Q:VL→SD→Prop) (E:VL→SD→Prop),Q (.int (g i j) s.toks) { s with toks:=s.toks+1 }→wpAny (model X.prog X.w) X.A (f (.int i t) (.int j u)) Q E s) :
  Cm X f (QR fun i j=>.int (g i j)):=by
 intro pins s σ H x y v u Q I rx ry h;obtain⟨i,j,rfl,rfl,q⟩:=h;obtain⟨t,rfl⟩:=rx;obtain⟨t',rfl⟩:=ry;exact rule i j t t' s _ _ ⟨.int (g i j),H,I.tok _,⟨_,rfl⟩,q⟩
def Yl{f:VL→VL→Sem VL}{g:Int→Int→Bool}
 (rule:∀(i j:Int) (t u:Tok) (s:SD) (Q:VL→SD→Prop) (E:VL→SD→Prop),Q (.bool (g i j)) s→wpAny (model X.prog X.w) X.A (f (.int i t) (.int j u)) Q E s) :
  Cm X f (QR fun i j=>.bl (g i j)):=by
 intro pins s σ H x y v u Q I rx ry h;obtain⟨i,j,rfl,rfl,q⟩:=h;obtain⟨t,rfl⟩:=rx;obtain⟨t',rfl⟩:=ry;exact rule i j t t' s _ _ ⟨.bl (g i j),H,I,rfl,q⟩
def j4(i j:Int):Prop:=0<j∧j<1073741824
def jv(i j:Int):Prop:=0≤j∧j≤1000000∧i.natAbs<2^64
def S4(i j:Int):Prop:=(-(2^64)<i∧i<2^64)∨(-(2^64)<j∧j<2^64)
def S4.ok{i j:Int}(h:S4 i j):IntMulOk i j:=by
 rcases h with ⟨h1,h2⟩|⟨h1,h2⟩
 ·exact .of_left (intBits_le_64 h1 h2)
 ·exact .of_right (intBits_le_64 h1 h2)
def MI:Cm X (binaryOp .Add) (QR fun i j=>.int (i+j)):=fx fun _ _ _ _ _ _ _ q=>add_int q
def S5:Cm X (binaryOp .Sub) (QR fun i j=>.int (i-j)):=fx fun _ _ _ _ _ _ _ q=>sub_int q
def FZ:Cm X (binaryOp .FloorDiv) (rI j4 fun i j=>.int (i / j)):=UU fun i j _ _ _ _ _ hc q=>by
 have h1:(0:Int)<j:=hc.1;have h2:j<1073741824:=hc.2;exact floordiv_int (by omega) (by rw [Int.fdiv_eq_ediv_of_nonneg i (by omega)];exact q) (.inl (PyProof.noPylong_small (by omega)))
def MJ:Cm X (binaryOp .Mod) (rI (fun _ j=>0<j) fun i j=>.int (i % j)):=UU fun i j _ _ _ _ _ hc q=>by
 have h1:(0:Int)<j:=hc;exact mod_int' (by omega) (by rw [Int.fmod_eq_emod_of_nonneg i (by omega)];exact q)
def KA:Cm X (binaryOp .Mod) (rI (fun _ j=>j≠0) fun i j=>.int (i.fmod j)):=UU fun _ _ _ _ _ _ _ hc q=>mod_int' hc q
def fQ:Cm X (binaryOp .Pow) (rI jv fun i j=>.int (i^j.toNat)):=UU fun _ _ _ _ _ _ _ hc q=>pow_int_small hc.1 hc.2.1 hc.2.2 q
def lD{f:VL→Sem VL}{g:Int→Int}
 (rule:∀(i:Int) (t:Tok) (s:SD) (Q:VL→SD→Prop) (E:VL→SD→Prop),Q (.int (g i) s.toks) { s with toks:=s.toks+1 }→wpAny (model X.prog X.w) X.A (f (.int i t)) Q E s) :
  ed X f (rU fun i=>.int (g i)):=by
 intro pins s σ H x v Q I rx h;obtain⟨i,rfl,q⟩:=h;obtain⟨t,rfl⟩:=rx;exact rule i t s _ _ ⟨.int (g i),H,I.tok _,⟨_,rfl⟩,q⟩
def SY:ed X (unaryOp .USub) (rU fun i=>.int (-i)):=lD fun _ _ _ _ _ q=>neg_int q
end
def gu:V→V→Bool
 |.Bb,.Bb=>true|.Bb,.int _=>true|.int _,.Bb=>true|.Bb,.bl _=>true|.bl _,.Bb=>true|.Bb,.str _=>true|.str _,.Bb=>true
 |.int _,.int _=>true|.bl _,.bl _=>true|.str _,.str _=>true|.MW _,.MW _=>true
 |.int _,.str _=>true|.str _,.int _=>true|.bl _,.str _=>true|.str _,.bl _=>true
 |_,_=>false
def lL:R2:=fun x y H Q=>gu x y=true∧Q (.bl (decide (x=y))) H
def lK:R2:=fun x y H Q=>gu x y=true∧Q (.bl (!decide (x=y))) H
def Uc{i j:Int}:decide (V.int i=V.int j)=(i==j):=by
 rw [Bool.eq_iff_iff];simp
def Xp{i j:Bool}:decide (V.bl i=V.bl j)=(i==j):=by
 rw [Bool.eq_iff_iff];simp
def Ua{i j:Str}:decide (V.str i=V.str j)=(i==j):=by
 rw [Bool.eq_iff_iff];simp
def VA{i j:Array UInt8}:decide (V.MW i=V.MW j)=(i.toList==j.toList):=by
 rw [Bool.eq_iff_iff];cases i;cases j;simp
section
variable{X:Cx}{a b c:Expr}{ta tb tc:TE}{pos:Pos}
def BS{pins:List (AD×Obj)}{σ:St}{H:Hp}{s:SD}{Q:VK}{k k':Bool}(I:Inv X pins σ H s)(q:Q (.bl k) H)(e:k=k'):EP X pins σ Q (.bool k') s:=by
 subst e;exact⟨.bl k,H,I,rfl,q⟩
def Mh:Cm X (compareOp .Eq) lL:=by
 intro pins s σ H x y v u Q I rx ry h;obtain⟨hs,q⟩:=h;cases x with
 |Bb =>
  cases rx;cases y with
  |Bb=>cases ry;exact PySem.EqNone.eq_none_none (BS I q (by simp))
  |bl j=>cases ry;exact PySem.EqNone.eq_none_bool (BS I q (by simp))
  |int j=>obtain⟨t',rfl⟩:=ry;exact PySem.EqNone.eq_none_int (BS I q (by simp))
  |str j=>obtain⟨t',rfl⟩:=ry;exact PySem.EqNone.eq_none_str (BS I q (by simp))
  |_=>exact absurd (show false=true from hs) aL
 |bl i =>
  cases rx;cases y with
  |Bb=>cases ry;exact PySem.EqNone.eq_bool_none (BS I q (by simp))
  |bl j=>cases ry;exact eq_bool (BS I q Xp)
  |str j=>obtain⟨t',rfl⟩:=ry;exact PySem.EqMixed.eq_bool_str (BS I q (by simp))
  |_=>exact absurd (show false=true from hs) aL
 |int i =>
  obtain⟨t,rfl⟩:=rx;cases y with
  |Bb=>cases ry;exact PySem.EqNone.eq_int_none (BS I q (by simp))
  |int j=>obtain⟨t',rfl⟩:=ry;exact eq_int (BS I q Uc)
  |str j=>obtain⟨t',rfl⟩:=ry;exact PySem.EqMixed.eq_int_str (BS I q (by simp))
  |_=>exact absurd (show false=true from hs) aL
 |str i =>
  obtain⟨t,rfl⟩:=rx;cases y with
  |Bb=>cases ry;exact PySem.EqNone.eq_str_none (BS I q (by simp))
  |bl j=>cases ry;exact PySem.EqMixed.eq_str_bool (BS I q (by simp))
  |int j=>obtain⟨t',rfl⟩:=ry;exact PySem.EqMixed.eq_str_int (BS I q (by simp))
  |str j=>obtain⟨t',rfl⟩:=ry;exact eq_str (BS I q Ua)
  |_=>exact absurd (show false=true from hs) aL
 |MW i =>
  obtain⟨t,rfl⟩:=rx;cases y with
  |MW j=>obtain⟨t',rfl⟩:=ry;exact PySem.W.eq_bytes (BS I q VA)
  |_=>exact absurd (show false=true from hs) aL
 |_=>cases y<;>exact absurd (show false=true from hs) aL
def RI:Cm X (compareOp .NotEq) lK:=by
 intro pins s σ H x y v u Q I rx ry h;obtain⟨hs,q⟩:=h;cases x with
 |Bb =>
  cases rx;cases y with
  |Bb=>cases ry;exact PySem.EqNone.ne_none_none (BS I q (by simp))
  |bl j=>cases ry;exact PySem.EqNone.ne_none_bool (BS I q (by simp))
  |int j=>obtain⟨t',rfl⟩:=ry;exact PySem.EqNone.ne_none_int (BS I q (by simp))
  |str j=>obtain⟨t',rfl⟩:=ry;exact PySem.EqNone.ne_none_str (BS I q (by simp))
  |_=>exact absurd (show false=true from hs) aL
 |bl i =>
  cases rx;cases y with
  |Bb=>cases ry;exact PySem.EqNone.ne_bool_none (BS I q (by simp))
  |bl j=>cases ry;exact ne_bool (BS I q (bM not Xp))
  |str j=>obtain⟨t',rfl⟩:=ry;exact PySem.EqMixed.ne_bool_str (BS I q (by simp))
  |_=>exact absurd (show false=true from hs) aL
 |int i =>
  obtain⟨t,rfl⟩:=rx;cases y with
  |Bb=>cases ry;exact PySem.EqNone.ne_int_none (BS I q (by simp))
  |int j=>obtain⟨t',rfl⟩:=ry;exact ne_int (BS I q (bM not Uc))
  |str j=>obtain⟨t',rfl⟩:=ry;exact PySem.EqMixed.ne_int_str (BS I q (by simp))
  |_=>exact absurd (show false=true from hs) aL
 |str i =>
  obtain⟨t,rfl⟩:=rx;cases y with
  |Bb=>cases ry;exact PySem.EqNone.ne_str_none (BS I q (by simp))
  |bl j=>cases ry;exact PySem.EqMixed.ne_str_bool (BS I q (by simp))
  |int j=>obtain⟨t',rfl⟩:=ry;exact PySem.EqMixed.ne_str_int (BS I q (by simp))
  |str j=>obtain⟨t',rfl⟩:=ry;exact ne_str (BS I q (bM not Ua))
  |_=>exact absurd (show false=true from hs) aL
 |MW i =>
  obtain⟨t,rfl⟩:=rx;cases y with
  |MW j=>obtain⟨t',rfl⟩:=ry;exact PySem.W.ne_bytes (BS I q (bM not VA))
  |_=>exact absurd (show false=true from hs) aL
 |_=>cases y<;>exact absurd (show false=true from hs) aL
def RO:Cm X (compareOp .Lt) (QR fun i j=>.bl (decide (i<j))):=Yl fun _ _ _ _ _ _ _ q=>lt_int q
def Mr:Cm X (compareOp .Gt) (QR fun i j=>.bl (decide (j<i))):=Yl fun _ _ _ _ _ _ _ q=>gt_int q
def Zn:Cm X (compareOp .GtE) (QR fun i j=>.bl (decide (j≤i))):=Yl fun _ _ _ _ _ _ _ q=>ge_int q
def cb:Cm X (compareOp .IsNot) (fun x y H Q=>y=.Bb∧Q (.bl (!decide (x=.Bb))) H):=by
 intro pins s σ H x y v u Q I rx ry h;obtain⟨rfl,q⟩:=h;cases ry;refine isnot_none_gen (BS I q ?_);cases x<;>first
  |(cases rx;rfl)
  |(obtain⟨t,rfl⟩:=rx;rfl)
def Cm.or{f:VL→VL→Sem VL}{r r':R2}(h:Cm X f r)(h':Cm X f r'):Cm X f (fun x y H Q=>r x y H Q∨r' x y H Q):=by
 intro pins s σ H x y v u Q I rx ry q;rcases q with q|q
 ·exact h pins s σ H x y v u Q I rx ry q
 ·exact h' pins s σ H x y v u Q I rx ry q
def A6(b:Expr){op:CmpOp}(h:op≠.In:=by decide)(h2:op≠.NotIn:=by decide):behindInMarks op b=false:=by
 have e1:(op==CmpOp.In)=false:=by cases op<;>first|rfl|exact absurd rfl h
 have e2:(op==CmpOp.NotIn)=false:=by cases op<;>first|rfl|exact absurd rfl h2
 cases b<;>simp [behindInMarks,e1,e2]
def Ml{op:CmpOp}{r:R2}(ho:Cm X (compareOp op) r)(ha:PE X a ta)(hb:PE X b tb)(hm:behindInMarks op b=false):PE X (.Compare a [op] [b] pos) (Xv r ta tb):=by
 intro pins s σ H Q I h;exact wpAny_Compare1 (YR ha hb I h fun v u s2 x y H2 I2 rx ry q=>ho pins s2 σ H2 x y v u Q I2 rx ry q) hm
def i8(t:TE):TT:=fun σ H Q=>t σ H fun x H'=>∃k,x=.bl k∧Q k H'
def CC{op:CmpOp}{r:R2}(ho:Cm X (compareOp op) r)(ha:PE X a ta)(hb:PE X b tb)(hm:behindInMarks op b=false):PT X (.Compare a [op] [b] pos) (i8 (Xv r ta tb)):=by
 intro pins s σ H Q I h;refine wpAny_isTrue_Compare1 (BN (ha pins s σ H _ I h) fun v s1 ⟨x,H1,I1,r1,q1⟩=>BN (hb pins s1 σ H1 _ I1 q1) fun u s2 ⟨y,H2,I2,r2,q2⟩ =>
  BN (ho pins s2 σ H2 x y v u _ I2 r1 r2 q2) fun c s3 ⟨z,H3,I3,r3,k,e,q3⟩=>?_) hm
 subst e;cases r3;exact wpAny_truthy_bool ⟨H3,I3,q3⟩
def Lo:(sizeLine:Nat)<2^63:=by rw [sizeLine_eq];decide
def WB:Cm X (binaryOp .Add) (fun x y H Q=>∃i j,x=.str i∧y=.str j∧i.length+j.length≤sizeLine∧Q (.str (i++j)) H):=by
 intro pins s σ H x y v u Q I rx ry h;obtain⟨i,j,rfl,rfl,hz,q⟩:=h;obtain⟨t,rfl⟩:=rx;obtain⟨t',rfl⟩:=ry;exact add_str (fun t' tk=>⟨.str (i++j),H,I.tok _,⟨_,rfl⟩,q⟩) hz
def vals1{x:V}{us:List VL}(r:Vals [x] us):∃u,us=[u]∧RelV x u:=by
 cases r with
 |cons r1 r2=>cases r2;exact⟨_,rfl,r1⟩
def Kw:D4 X (.builtin "abs") (fun xs H Q=>∃i,xs=[.int i]∧Q (.int (if i<0 then -i else i)) H):=by
 intro pins s σ H xs us Q I r h;obtain⟨i,rfl,q⟩:=h;obtain⟨u,rfl,t,rfl⟩:=vals1 r;exact call_abs_int fun u tk=>⟨.int (if i<0 then -i else i),H,I.tok _,⟨_,rfl⟩,q⟩
end
structure Yx(h:Heap)(x dx C:Addr)(mA:Str→Option Value):Prop where
 obj:h.get? x=some (PySem.W.instObj C dx)
 ns:h.Ns1 dx mA
 ne:dx≠x
def Wy{h:Heap}{dx:AD}{mA:Str→Option VL}(n:h.Ns1 dx mA):∃od,h.get? dx=some od∧∀name,PySem.W.lookIn name od=some (mA name):=by
 obtain⟨o,es,ep,ho,hd,hk,_,hm⟩:=n;refine⟨o,ho,fun name=>?_⟩;have e:=hm name;unfold nsFind findBy at e;rw [←Array.find?_toList]at e;unfold PySem.W.lookIn;rw [hd];dsimp only;split
 ·rename_i y q;rw [q]at e;exact bM some e
 ·rename_i q;rw [q]at e;have a:es.toList.any (·.refKey)=false:=by
   rw [List.any_eq_false];intro y hy;obtain⟨z,t,hkey⟩:=hk y (Array.mem_toList_iff.mp hy);simp [DictEntry.refKey,hkey]
  have a':¬es.toList.any (·.refKey)=true:=by rw [a];exact aL
  rw [if_neg a'];exact bM some e
def Yx.look{h:Heap}{x dx C:AD}{mA:Str→Option VL}(I:Yx h x dx C mA):∃od,PySem.W.InstAt h x (PySem.W.instObj C dx) C (some od)∧∀name,PySem.W.lookIn name od=some (mA name) :=
 let⟨od,ho,hl⟩:=Wy I.ns
 ⟨od,⟨I.obj,rfl,rfl,ho⟩,hl⟩
section
variable{P:Program}{w:World}{H H':Hp}{h h':Heap}{a C dx:AD}{fs fs':List (Str×V)}
def bp(A0:Ek P w H h)(e:H a=some (.ins C dx fs)):∃mA,Yx h a dx C mA∧(∀f,Y1 (fs.lookup f) (mA f))∧PySem.Within mA (fs.map (·.1))∧fs.length≤1000∧H dx=some (.own a):=by
 obtain⟨d,z,ne,ob,mA,n,r,q⟩:=(show Cb P w H h a (.ins C dx fs) from A0 a _ e);exact⟨mA,⟨ob,n,ne⟩,r,q,z,d⟩
end
structure gm(K:Fg)(C:Addr):Prop where
 pg:PySem.W.plainGet K C Str.empty=true
 hd:PySem.W.hasDictIn K C=true
 po:PySem.W.plainOver K C=true
 sa:PySem.W.findIn K (.ref C) "__setattr__" = some (some (.builtin "object.__setattr__"))
def gm.get{K:Fg}{C:AD}(c:gm K C)(f:Str):PySem.W.plainGet K C f=true:=c.pg
section
variable{X:Cx}{pins:List (AD×Obj)}{σ:St}{H:Hp}{s:SD}{A:Around}{E:VL→SD→Prop}{Q:VL→SD→Prop}{c:VL}{b:Bool}
inductive GB(K:Fg)(H:Hp):V→Value→Prop where
 |Bb:GB K H .Bb (.type "NoneType")
 |bl (x:Bool):GB K H (.bl x) (.type "bool")
 |int (i:Int):GB K H (.int i) (.type "int")
 |str (x:Str):GB K H (.str x) (.type "str")
 |Fw (x:UInt64):GB K H (.Fw x) (.type "float")
 |lst {a:Addr} {xs:List V} (e:H a=some (.lst xs)):GB K H (.ref a) (.type "list")
 |Fu {a:Addr} {o:Obj} {xs:List V} (e:H a=some (.Fu o (.lst xs))):GB K H (.ref a) (.type "list")
 |tup {a:Addr} {xs:List V} (e:H a=some (.tup xs)):GB K H (.ref a) (.type "tuple")
 |dK {a:Addr} {kvs:List (Key×V)} (e:H a=some (.dK kvs)):GB K H (.ref a) (.type "dict")
 |dT {a:Addr} {kvs:List (List Key×V)} (e:H a=some (.dT kvs)):GB K H (.ref a) (.type "dict")
 |ins {a C dx:Addr} {fs:List (Str×V)} (e:H a=some (.ins C dx fs)) (cl:gm K C) (ha:PySem.W.findIn K (.ref C) "__class__" = some (some (.builtin "object.__class__")))
   (hn:PySem.W.specialIn K (.builtin "object.__class__") "__get__" = some (some (.builtin "getset_descriptor.__get__"))) (htk:PySem.W.takesIn K (.builtin "object.__class__")=some true)
   (hm:PySem.W.mroIn K C (.type "object")=some true):GB K H (.ref a) (.ref C)
def Wj{x:V}{u t:VL}(I:Inv X pins σ H s)(rx:RelV x u)(ty:GB X.K H x t)(e:PySem.W.kitOne X.K t c=some b)(h:∀tk,Q (.bool b) { s with toks:=tk }) :
  wpAny (model X.prog X.w) A (call (.builtin "isinstance") [u,c]) Q E s:=by
 cases ty with
 |Bb=>cases (show u=Value.none from rx);exact bD PySem.W.kitx_none I.Gu True.intro e (fun z=>nomatch z) h
 |bl y=>cases (show u=Value.bool y from rx);exact bD PySem.W.kitx_bool I.Gu True.intro e (fun z=>nomatch z) h
 |int i=>obtain⟨t,q⟩:=(show ∃t,u=Value.int i t from rx);cases q;exact bD PySem.W.kitx_int I.Gu True.intro e (fun z=>nomatch z) h
 |str y=>obtain⟨t,q⟩:=(show ∃t,u=Value.str y t from rx);cases q;exact bD PySem.W.kitx_str I.Gu True.intro e (fun z=>nomatch z) h
 |Fw y=>obtain⟨t,q⟩:=(show ∃t,u=Value.float y t from rx);cases q;exact bD PySem.W.kitx_float I.Gu True.intro e (fun z=>nomatch z) h
 | @lst a xs ea =>
  cases (show u=Value.ref a from rx);obtain⟨_,_,n,_,h1⟩:=(show Cb X.prog X.w H s.heap a (.lst xs) from I.A0 a _ ea);exact bD PySem.W.kitx_list I.Gu ⟨_,h1,rfl⟩ e (fun z=>nomatch z) h
 | @Fu a ob xs ea =>
  cases (show u=Value.ref a from rx);obtain⟨_,_,_,n,_,h1⟩:=(show Cb X.prog X.w H s.heap a (.Fu ob (.lst xs)) from I.A0 a _ ea);exact bD PySem.W.kitx_list I.Gu ⟨_,h1,rfl⟩ e (fun z=>nomatch z) h
 | @tup a xs ea =>
  cases (show u=Value.ref a from rx);obtain⟨_,_,_,p⟩:=(show Cb X.prog X.w H s.heap a (.tup xs) from I.A0 a _ ea);obtain⟨o,h1,h2,_⟩:=p;exact bD PySem.W.kitx_tuple I.Gu ⟨o,h1,h2⟩ e (fun z=>nomatch z) h
 | @dK a kvs ea =>
  cases (show u=Value.ref a from rx);obtain⟨_,_,vs,_,p⟩:=(show Cb X.prog X.w H s.heap a (.dK kvs) from I.A0 a _ ea);obtain⟨o,es,ep,h1,h2,_⟩:=p;exact bD PySem.W.kitx_dict I.Gu ⟨o,h1,h2.1⟩ e (fun z=>nomatch z) h
 | @dT a kvs ea =>
  cases (show u=Value.ref a from rx);obtain⟨_,_,xs,_,o,es,ep,h1,h2,_⟩:=(show Cb X.prog X.w H s.heap a (.dT kvs) from I.A0 a _ ea);exact bD PySem.W.kitx_dict I.Gu ⟨o,h1,h2.1⟩ e (fun z=>nomatch z) h
 | @ins a C dx fs ea cl ha hn htk hm =>
  cases (show u=Value.ref a from rx);obtain⟨mA,O,_⟩:=bp I.A0 ea;obtain⟨od,J,_⟩:=O.look;exact bD (PySem.W.kitx_own (cl.get _) cl.hd ha hn htk hm) I.Gu J e (fun z=>nomatch z) h
end
structure Dl(k:Nat)(A:Around):Prop where
 hd:A.handled=none
 dp:A.depth+3*k+5<recursionLimit
 un:A.units+16*k+200<cLine
def Dl.mono{j k:Nat}{A:Around}(r:Dl k A)(h:j≤k):Dl j A:=⟨r.hd,by have:=r.dp;omega,by have:=r.un;omega⟩
def Dl.deeper{k:Nat}{A:Around}(r:Dl (k+1) A)(env:Env):Dl k (A.deeper env) :=
 ⟨r.hd,by have:=r.dp;show A.depth+1+3*k+5<_;omega,by have:=r.un;show A.units+3+16*k+200<_;omega⟩
def Dl.depth{k:Nat}{A:Around}(r:Dl k A):A.depth<recursionLimit:=by have:=r.dp;omega
def Dl.units{k:Nat}{A:Around}(r:Dl k A):A.units+64<cLine:=by have:=r.un;omega
def fv:TA:=fun _ H Q=>Q [] H
def i7(ta:TE)(tr:TA):TA:=fun σ H Q=>ta σ H fun x H1=>tr σ H1 fun xs H2=>Q (x::xs) H2
section
variable{X:Cx}{e:Expr}{es:List Expr}{te:TE}{t:TA}{pos:Pos}
def AR:PA X [] fv:=fun _ _ _ _ H Q I h=>Calls.spliced_nil ⟨[],H,I,.nil,h⟩
def AI(ha:PE X e te)(hr:PA X es t)(hs:starEach (e::es) X.env=(false,eval e X.env)::starEach es X.env:=by rfl):PA X (e::es) (i7 te t):=by
 intro pos pins s σ H Q I h;rw [hs];show wpAny _ _ (spliced ((false,eval e X.env)::backTo pos (starEach es X.env))) _ _ s;refine Calls.spliced_cons (BN (ha pins s σ H _ I h) fun u s1 ⟨x,H1,I1,r1,q1⟩=>?_);exact BN (hr pos pins s1 σ H1 _ I1 q1) fun us s2 ⟨xs,H2,I2,r2,q2⟩=>⟨x::xs,H2,I2,.cons r1 r2,q2⟩
def kz(t:TA):TE:=fun σ H Q=>t σ H fun xs H1=>xs.length≤sizeLine∧∀p,H1 p=none→Q (.ref p) (upd H1 p (.tup xs))
def kJ(t:TA):TE:=fun σ H Q=>t σ H fun xs H1=>xs.length≤sizeLine∧∀p,H1 p=none→Q (.ref p) (upd H1 p (.lst xs))
def Ip{x1}(h:PA X es t):PE X (.Tuple es x1 pos) (kz t):=by
 intro pins s σ H Q I hq;refine wpAny_Tuple_spliced (BN (h pos pins s σ H _ I hq) fun us s1 ⟨xs,H1,I1,r,z,q⟩=>⟨by rw [←r.length];exact z,?_⟩);have hf:H1 s1.heap.objs.size=none:=I1.A0.fresh (aF _);refine⟨.ref s1.heap.objs.size,upd H1 s1.heap.objs.size (.tup xs),I1.laid (t':=s1.toks) (fun b u e=>aC _ e) (aF _) ?_,rfl,q _ hf⟩;exact⟨z,us,r,⟨_,Heap.get?_push_size _ rfl,rfl,_,rfl⟩⟩
def FF(h:PA X es t):PE X (.List es pos) (kJ t):=by
 intro pins s σ H Q I hq;refine wpAny_List_spliced (BN (h pos pins s σ H _ I hq) fun us s1 ⟨xs,H1,I1,r,z,q⟩=>⟨by rw [←r.length];exact z,?_⟩);have hf:H1 s1.heap.objs.size=none:=I1.A0.fresh (aF _);refine⟨.ref s1.heap.objs.size,upd H1 s1.heap.objs.size (.lst xs),I1.laid (t':=s1.toks) (fun b u e=>aC _ e) (aF _) ?_,rfl,q _ hf⟩;exact⟨z,us,0,r,Heap.get?_push_size _ rfl⟩
end
abbrev Sp:=List V→Hp→VK→XK→Prop
abbrev HW:=List Env→Hp→SD→XK→VL→SD→Prop
structure VV(P:Program)(w:World)(K:Fg)(mg:Str→Option Value)(base:Heap)(A:Around)(outer:List Env)(s:Shared)(H:Hp):Prop where
 frames:A.frames=some outer
 mod:Mod K mg base
 bs:∀b o,base.get? b=some o→s.heap.get? b=some o∧H b=none
 QZ:base.objs.size≤s.heap.objs.size
 Ie:s.heap.FunFrames base outer
 UZ:∀b∈LR outer,H b=none
 A0:Ek P w H s.heap
 bare:AllBare s.gens
def CE(outer:List Env)(P:Program)(w:World)(H:Hp)(s:SD)(Q:VK)(u:VL)(s':SD):Prop :=
 ∃v H',s'.os=s.os∧AllBare s'.gens∧Un (LR outer) [] H H' s.heap s'.heap∧Ek P w H' s'.heap∧RelV v u∧Q v H'
def CR(CX:HW)(outer:List Env)(P:Program)(w:World)(H:Hp)(s:SD)(Q:VK)(E:XK)(r:Result)(s':SD):Prop :=
 match r with
 |.ok (.ret u)=>CE outer P w H s Q u s'
 |.ok _=>False
 |.error e=>CX outer H s E e s'
structure AM(P:Program)(w:World)(K:Fg)(mg:Str→Option Value)(base:Heap)(CX:HW)(k:Nat)(f:Addr)(fd:FuncData)(ps:List Str)(sp:Sp):Prop where
 len:∀vs H Q E,sp vs H Q E→vs.length=ps.length
 run:∀(A:Around) (outer:List Env) (s:Shared) (H:Hp) (args:Args) (us:List Value) (vs:List V) (Q:VK) (E:XK),Dl k A→VV P w K mg base A outer s H→BindsTo s fd args (ps.zip us)→Vals vs us→sp vs H Q E →
  codeAny (model P w) A (.call (.ref f) args) (CR CX outer P w H s Q E) s
def AM.mono{P:Program}{w:World}{K:Fg}{mg:Str→Option VL}{base:Heap}{CX:HW}{j k:Nat}{f:AD}{fd:FuncData}{ps:List Str}{sp:Sp}(F:AM P w K mg base CX j f fd ps sp)(h:j≤k) :
  AM P w K mg base CX k f fd ps sp:=⟨F.len,fun A outer s H args us vs Q E hr=>F.run A outer s H args us vs Q E (hr.mono h)⟩
def AM.imp{P:Program}{w:World}{K:Fg}{mg:Str→Option VL}{base:Heap}{CX:HW}{k:Nat}{f:AD}{fd:FuncData}{ps:List Str}{sp sp':Sp}(F:AM P w K mg base CX k f fd ps sp)
 (h:∀vs H Q E,sp' vs H Q E→sp vs H Q E):AM P w K mg base CX k f fd ps sp' :=
 ⟨fun vs H Q E q=>F.len vs H Q E (h _ _ _ _ q),fun A outer s H args us vs Q E hr he hb hv hs=>F.run A outer s H args us vs Q E hr he hb hv (h _ _ _ _ hs)⟩
section
variable{X:Cx}{pins:List (AD×Obj)}{σ:St}{H:Hp}{s s':SD}
def Inv.js(I:Inv X pins σ H s):VV X.prog X.w X.K X.mg X.base X.A X.stack s H :=
 ⟨I.ok.frames,I.ok.mod,I.bs,Nat.le_trans I.ok.QZ I.sz,I.stack,I.U8,I.A0,I.bare⟩
def Inv.after{Q:VK}{u:VL}(I:Inv X pins σ H s)(h:CE X.stack X.prog X.w H s Q u s'):EP X pins σ Q u s':=by
 obtain⟨v,H',os,bare,un,A0,r,q⟩:=h;obtain⟨hh,g,d,t,os'⟩:=s';obtain rfl:os'=s.os:=os;exact⟨v,H',I.call (h':=hh) (g':=g) (d':=d) (t':=t) (ch:=[]) un A0 bare (fun b z=>absurd z (by simp)),r,q⟩
end
def V6(sp:Sp)(dvs:List V)(E:XK)(t:TA):TE:=fun σ H Q=>t σ H fun vs H1=>sp (vs++dvs) H1 Q E
def Binds(K:Fg)(fd:FuncData)(ps:List Str)(ds:List VL):Prop :=
 ∀(s:SD) (us:List VL),K.In s.heap→(us++ds).length=ps.length→BindsTo s fd ⟨us,[]⟩ (ps.zip (us++ds))
def Binds.all{K:Fg}{fd:FuncData}{ps:List Str}(h:∀us:List VL,us.length=ps.length→bindArgs fd ⟨us,[]⟩=pure (ps.zip us)):Binds K fd ps []:=fun s us _ hl=>by
 rw [List.append_nil]at hl ⊢;exact .of_eq (h us hl)
def Passes(CX:HW)(X:Cx)(E:XK):Prop:=∀(pins:List (AD×Obj)) (σ:St) (H:Hp) (s:SD) (e:VL) (s':SD),Inv X pins σ H s→CX X.stack H s E e s'→X.xe e s'
section
variable{X:Cx}{CX:HW}{k:Nat}{f C:AD}{fd:FuncData}{ps:List Str}{sp:Sp}{dvs:List V}{ds:List VL}{E:XK}{x m:Str}{p pos apos:Pos}{e o:Expr}{es:List Expr}{ta:TE}{t:TA}
def Xj{pins:List (AD×Obj)}{σ:St}{H:Hp}{s:SD}{Q:VK}{us:List VL}{vs:List V}(F:AM X.prog X.w X.K X.mg X.base CX k f fd ps sp)(hr:Dl k X.A)(hb:Binds X.K fd ps ds)(hd:Vals dvs ds)(hx:Passes CX X E)
 (I:Inv X pins σ H s)(r:Vals vs us)(h:sp (vs++dvs) H Q E):wpAny (model X.prog X.w) X.A (call (.ref f) us) (EP X pins σ Q) X.xe s:=by
 have r2:Vals (vs++dvs) (us++ds):=r.append hd;have hl:(us++ds).length=ps.length:=by rw [←r2.length];exact F.len _ _ _ _ h
 refine wpAny_call (codeAny_mono (F.run X.A X.stack s H ⟨us,[]⟩ (us++ds) (vs++dvs) Q E hr I.js (hb s us I.Gu hl) r2 h) fun r s' hq=>?_);cases r with
 |error e=>exact hx pins σ H s e s' I hq
 |ok fl =>
  cases fl with
  |ret u=>exact I.after hq
  |next=>exact False.elim hq
  |brk=>exact False.elim hq
  |cont=>exact False.elim hq
def cL(F:AM X.prog X.w X.K X.mg X.base CX k f fd ps sp)(hr:Dl k X.A)(hg:Gl X x)(hm:X.mg x=some (.ref f))(hk:PySem.W.keepIn X.K (.ref f)=true)(hb:Binds X.K fd ps ds)(hd:Vals dvs ds)(hx:Passes CX X E)
 (ha:PA X (e::es) t)(hdb:(x==("__debug__" : Str))=false:=by decide)(he:starEach (e::es) X.env=(false,eval e X.env)::starEach es X.env:=by rfl)(hpl:(backTo pos (starEach es X.env)).any (·.1)=false:=by rfl) :
  PE X (.Call (.Name x p) (e::es) [] pos) (V6 sp dvs E t):=by
 intro pins s σ H Q I h;refine wpAny_Call_Name_kw (Po I hg hm ?_ hdb);refine PySem.W.callWith_K (h₀:=X.base) I.ok.mod.fj hk (BN (ha pos pins s σ H _ I h) fun us s1 ⟨vs,H1,I1,r,q⟩=>⟨I1.Gu,?_⟩) he hpl;exact Xj F hr hb hd hx I1 r q
def YM(F:AM X.prog X.w X.K X.mg X.base CX k f fd ps sp)(hr:Dl k X.A)(hg:Gl X x)(hm:X.mg x=some (.ref f))(hk:PySem.W.keepIn X.K (.ref f)=true)(hb:Binds X.K fd ps ds)(hd:Vals dvs ds)(hx:Passes CX X E)
 (hdb:(x==("__debug__" : Str))=false:=by decide):PE X (.Call (.Name x p) [] [] pos) (V6 sp dvs E fv):=by
 intro pins s σ H Q I h;refine wpAny_Call_Name_kw (Po I hg hm ?_ hdb);exact PySem.W.callWith_K0 I.Gu hk (Xj (us:=[]) F hr hb hd hx I .nil h)
end
structure Ac(N P:List Str)(sc:Scope):Prop where
 kind:sc.kind=.function
 co:sc.isCoroutine=false
 gen:sc.isGenerator=false
 nd:N.Nodup
 pre:N.take P.length=P
 par:∀x∈P,sc.names.lookup x=some .local∨sc.names.lookup x=some .cell
 fN:∀y∈sc.names,y.2≠.free
def B3{N P:List Str}{sc:Scope}(a:sc.kind=.function:=by rfl)(b:sc.isCoroutine=false:=by rfl)(c:sc.isGenerator=false:=by rfl)(d:N.Nodup:=by decide +kernel)(e:N.take P.length=P:=by rfl)(f:∀x ∈ P, sc.names.lookup x=some .local ∨ sc.names.lookup x=some .cell:=by decide +kernel)(g:∀y ∈ sc.names, y.2 ≠ .free:=by decide +kernel):Ac N P sc:=⟨a, b, c, d, e, f, g⟩
def QX{kindOf:Str→Option NameKind}{x:Str}:∀ {binds:List (Str×VL)} {m:Str→Option VL},(∀v,(x,v) ∉ binds)→bindL kindOf binds m x=m x
 |[],_,_=>rfl
 |(n,v)::r,m,h=>by
  unfold bindL;rw [QX fun w hw=>h w (aP _ hw)];split
  ·have:x≠n:=by rintro rfl;exact h v aR
   simp [this]
  ·rfl
def Qd{kindOf:Str→Option NameKind}{x:Str}:∀ {binds:List (Str×VL)} {m:Str→Option VL},(∀v,(x,v) ∉ binds)→bindC kindOf binds m x=m x
 |[],_,_=>rfl
 |(n,v)::r,m,h=>by
  unfold bindC;rw [Qd fun w hw=>h w (aP _ hw)];split
  ·rfl
  ·have:x≠n:=by rintro rfl;exact h v aR
   simp [this]
def Qx{kindOf:Str→Option NameKind}{x:Str}{v:VL}:∀ {P:List Str} {vs:List VL} {i:Nat} {m:Str→Option VL},P.Nodup→P[i]? = some x→vs[i]? = some v→kindOf x=some .local →
  bindL kindOf (P.zip vs) m x=some v
 |[],_,_,_,_,h,_,_=>by simp at h
 |_::_,[],_,_,_,_,h,_=>by simp at h
 |p::P,w::vs,0,m,nd,h1,h2,hk=>by
  simp at h1 h2;subst h1;subst h2;show bindL kindOf ((p,w)::P.zip vs) m p=_;unfold bindL;rw [QX fun v hv=>(List.nodup_cons.mp nd).1 (List.of_mem_zip hv).1,if_pos hk];simp
 |p::P,w::vs,i+1,m,nd,h1,h2,hk=>by
  show bindL kindOf ((p,w)::P.zip vs) m x=_;unfold bindL;exact Qx (i:=i) (List.nodup_cons.mp nd).2 (by simpa using h1) (by simpa using h2) hk
def Qb{kindOf:Str→Option NameKind}{x:Str}{v:VL}:∀ {P:List Str} {vs:List VL} {i:Nat} {m:Str→Option VL},P.Nodup→P[i]? = some x→vs[i]? = some v→kindOf x≠some .local →
  bindC kindOf (P.zip vs) m x=some v
 |[],_,_,_,_,h,_,_=>by simp at h
 |_::_,[],_,_,_,_,h,_=>by simp at h
 |p::P,w::vs,0,m,nd,h1,h2,hk=>by
  simp at h1 h2;subst h1;subst h2;show bindC kindOf ((p,w)::P.zip vs) m p=_;unfold bindC;rw [Qd fun v hv=>(List.nodup_cons.mp nd).1 (List.of_mem_zip hv).1,if_neg hk];simp
 |p::P,w::vs,i+1,m,nd,h1,h2,hk=>by
  show bindC kindOf ((p,w)::P.zip vs) m x=_;unfold bindC;exact Qb (i:=i) (List.nodup_cons.mp nd).2 (by simpa using h1) (by simpa using h2) hk
def start(N:List Str)(vs:List V):St:=vs.map some++List.replicate (N.length-vs.length) none
def OC(CX:HW)(P:Program)(w:World)(K:Fg)(mg:Str→Option VL)(base:Heap)(N:List Str)(qual:Str)(scope:Scope)(f:AD)(cd:VL)(A:Around)(outer:List Env)(s:SD)(H:Hp)(E:XK):Cx where
 prog:=P
 w:=w
 K:=K
 mg:=mg
 base:=base
 A:=A.deeper (envOfC qual scope s.heap.objs.size f cd)
 N:=N
 s₀:=s
 H₀:=H
 env:=envOfC qual scope s.heap.objs.size f cd
 outer:=outer
 stack:=envOfC qual scope s.heap.objs.size f cd::outer
 ex:=[]
 calm:=true
 fn:=fun _=>true
 pn:=[]
 xe:=fun e s'=>wpAny (model P w) (A.deeper (envOfC qual scope s.heap.objs.size f cd)) (leaving (envOfC qual scope s.heap.objs.size f cd) e) (fun _ s''=>CX outer H s E e s'') (fun e' s''=>CX outer H s E e' s'') s'
def Rt{sc:Scope}{n:Nat}{x:Str}(h:sc.names.lookup x=some .cell):∃c,(cellsFrom n sc.names []).lookup x=some c:=by
 have q:=PySem.W.cellsFrom_some sc.names n [] (.inl h);exact Option.isSome_iff_exists.mp q
def X0{CX:HW}{P:Program}{w:World}{K:Fg}{mg:Str→Option VL}{base:Heap}{N ps:List Str}{qual:Str}{scope:Scope}{f:AD}{cd:VL}{A:Around}{outer:List Env}{s s1:SD}{H:Hp}{E:XK}{us:List VL}{vs:List V}
 (S:Ac N ps scope)(hd:A.handled=none)(e0:VV P w K mg base A outer s H)(hl:vs.length=ps.length)(r:Vals vs us)
 (x:InCallC s s.heap.objs.size (bindL (envOfC qual scope s.heap.objs.size f cd).kindOf (ps.zip us) fun _=>none) (cellsFrom (s.heap.objs.size+1) scope.names []) (bindC (envOfC qual scope s.heap.objs.size f cd).kindOf (ps.zip us) fun _=>none) s1) :
  Inv (OC CX P w K mg base N qual scope f cd A outer s H E) [] (start N vs) H s1:=by
 have hpl:ps.length≤N.length:=by have:=bM List.length S.pre;rw [List.length_take]at this;omega
 obtain⟨h1,tk,rfl,hk⟩:=x.done;have noA:∀b:AD,b ∉ (OC CX P w K mg base N qual scope f cd A outer s H E).ex:=fun b z=>absurd (show b∈([]:List AD) from z) (by simp);refine⟨⟨e0.mod,S.kind,rfl,rfl,Nat.le_refl _,fun y z c h1 h2=>?_,fun y hy=>?_,fun y c _ h=>?_,fun _=>hd,Around.frames_deeper e0.frames,.inr ⟨rfl,rfl⟩,fun b z=>absurd z (noA b),e0.bs,e0.QZ,fun b _ _=>noA b,fun b z=>absurd z (noA b),e0.Ie,e0.UZ⟩,
  rfl,e0.bare,Un.kept hk,⟨_,x.toInCall.ns,fun i y v h1 h2 h3=>?_⟩,fun y c h=>⟨_,x.cell y c h⟩,e0.A0.fresh (aF _),fun y c h=>?_,fun p hp=>absurd (show p∈([]:List (AD×Obj)) from hp) (by simp),e0.A0.kept hk,?_⟩
 ·exact name_of_addr x.apart (PySem.mem_of_lookup h1) (PySem.mem_of_lookup h2)
 ·have hy:scope.names.lookup y=some .cell∨scope.names.lookup y=some .free:=hy;rcases hy with hy|hy
  ·exact Rt hy
  ·exact absurd rfl (S.fN _ (PySem.mem_of_lookup hy))
 ·exact bG (x.above y c (PySem.mem_of_lookup h))
 ·have hi:i<vs.length:=by
   unfold start at h2;by_cases hi:i<vs.length
   ·exact hi
   ·rw [List.getElem?_append_right (by simpa using hi)]at h2;rw [List.getElem?_replicate]at h2;split at h2<;>cases h2
  have ha:vs[i]? = some v:=by
   unfold start at h2;rw [List.getElem?_append_left (by simpa using hi),List.getElem?_map]at h2;cases e:vs[i]? with
   |none=>rw [e]at h2;cases h2
   |some a=>rw [e]at h2;cases h2;rfl
  obtain⟨u,hu,rv⟩:=r.get ha;have hp:ps[i]? = some y:=by
   rw [←S.pre,List.getElem?_take_of_lt (by omega)];exact h1
  have ndP:ps.Nodup:=by rw [←S.pre];exact S.nd.sublist (List.take_sublist _ _)
  refine⟨u,rv,?_⟩;rcases S.par y (aQ hp) with k|k
  ·exact .inl ⟨k,Qx ndP hp hu k⟩
  ·obtain⟨c,e⟩:=Rt (n:=s.heap.objs.size+1) k;refine .inr ⟨.inl k,c,e,?_⟩;have q:=x.cell y c e;rw [Qb ndP hp hu (by show scope.names.lookup y≠_;rw [k];decide)]at q;exact q
 ·exact e0.A0.fresh (bG (x.above y c (PySem.mem_of_lookup h)))
 ·unfold start;show _=N.length;rw [List.length_append,List.length_map,List.length_replicate];omega
def ic{CX:HW}{P:Program}{w:World}{K:Fg}{mg:Str→Option VL}{base:Heap}{k:Nat}{f:AD}{name qual:Str}{params:Arguments}{body:List Stmt}{scope:Scope}{dV kV doc pm cdv ct oc:VL}{an od:Option AD}
 {osl:Array (Option VL)}{N ps:List Str}{sp:Sp}(lk:K.lookup f=some ⟨oc,od,.func (PySem.W.fnOf name qual params body scope dV kV doc pm an cdv ct),osl⟩)(hcd:PySem.W.codeIn K cdv qual=true)(S:Ac N ps scope)
 (len:∀vs H Q E,sp vs H Q E→vs.length=ps.length)
 (hbody:∀(A:Around) (outer:List Env) (s:SD) (H:Hp) (vs:List V) (Q:VK) (E:XK),Dl k (A.deeper (envOfC qual scope s.heap.objs.size f cdv))→sp vs H Q E →
   ∃t,JR (OC CX P w K mg base N qual scope f cdv A outer s H E) body t∧t { nx:=fun _ H'=>Q .Bb H',rt:=Q } (start N vs) H) :
  AM P w K mg base CX (k+1) f (PySem.W.fnOf name qual params body scope dV kV doc pm an cdv ct) ps sp:=by
 refine⟨len,fun A outer s H args us vs Q E hr e0 hb r hsp=>?_⟩;have hl:=len _ _ _ _ hsp;have KX:K.In s.heap:=e0.mod.fj.keeps fun b o e=>(e0.bs b o e).1;have lim:s.heap.NoLimit:=e0.mod.nolimit.keeps fun b o e=>(e0.bs b o e).1;have hkind:∀y∈ps.zip us,scope.names.lookup y.1=some .local∨(scope.names.lookup y.1=some .cell∧((cellsFrom (s.heap.objs.size+1) scope.names []).lookup y.1).isSome=true):=fun⟨n,v⟩ hy=>by
  rcases S.par n (List.of_mem_zip hy).1 with q|q
  ·exact .inl q
  ·exact .inr ⟨q,PySem.W.cellsFrom_some _ _ _ (.inl q)⟩
 refine codeAny_call_function hr.depth (KX _ _ lk) rfl S.co S.gen rfl (PySem.W.codeRec_of KX hcd) (hb _ _ _ _ ?_);refine wpAny_newFunctionEnv_cells S.kind hkind fun env he s1 x=>?_;subst he;refine⟨lim.keeps x.toInCall.keep,codeAny_func ?_⟩;obtain⟨t,ht,hq⟩:=hbody A outer s H vs Q E (hr.deeper _) hsp;have I:Inv (OC CX P w K mg base N qual scope f cdv A outer s H E) [] (start N vs) H s1:=X0 S hr.hd e0 hl r x;refine ak (ht [] s1 (start N vs) H _ I hq) (fun fl s' hs=>?_) fun e s' hs=>hs;have fin:∀ {σ':St} {H':Hp} {v:V} {u:VL},Inv (OC CX P w K mg base N qual scope f cdv A outer s H E) [] σ' H' s'→RelV v u→Q v H'→CE outer P w H s Q u s' :=
  fun {σ' H' v u} J rv q=>⟨v,H',J.os,J.bare,J.base,J.A0,rv,q⟩
 cases fl with
 |ret u =>
  obtain⟨v,σ',H',J,rv,q⟩:=hs;exact fin J rv q
 |next =>
  obtain⟨σ',H',J,q⟩:=hs;exact fin (v:=V.Bb) (u:=Value.none) J rfl q
 |brk =>
  obtain⟨_,_,_,q⟩:=hs;exact False.elim q
 |cont =>
  obtain⟨_,_,_,q⟩:=hs;exact False.elim q
section
variable{X:Cx}{x:Str}{p pos:Pos}{e:Expr}{es:List Expr}{t:TA}{id T:String}{r:List V→Hp→VK→Prop}
def jX(r:List V→Hp→VK→Prop)(t:TA):TE:=fun σ H Q=>t σ H fun vs H1=>r vs H1 Q
def BL(hc:D4 X (.builtin id) r)(hg:Gl X x)(hm:X.mg x=none)(hv:bootBuiltins x=some (.builtin id))(ha:PA X (e::es) t)(hn:x ≠ "__name__" := by decide)(hdb:(x==("__debug__" : Str))=false:=by decide)
 (he:starEach (e::es) X.env=(false,eval e X.env)::starEach es X.env:=by rfl)(hpl:(backTo pos (starEach es X.env)).any (·.1)=false:=by rfl):PE X (.Call (.Name x p) (e::es) [] pos) (jX r t):=by
 intro pins s σ H Q I h;refine wpAny_Call_Name_kw (Fs I hg hm hv ?_ hn hdb);exact PyProof.Rows.callWith_builtin1 (BN (ha pos pins s σ H _ I h) fun us s1 ⟨vs,H1,I1,r1,q1⟩=>hc pins s1 σ H1 vs us Q I1 r1 q1) he hpl
def QQ(hc:D4 X (.type T) r)(hg:Gl X x)(hm:X.mg x=none)(hv:bootBuiltins x=some (.type T))(ha:PA X (e::es) t)(hn:x ≠ "__name__" := by decide)(hdb:(x==("__debug__" : Str))=false:=by decide)
 (he:starEach (e::es) X.env=(false,eval e X.env)::starEach es X.env:=by rfl)(hpl:(backTo pos (starEach es X.env)).any (·.1)=false:=by rfl):PE X (.Call (.Name x p) (e::es) [] pos) (jX r t):=by
 intro pins s σ H Q I h;refine wpAny_Call_Name_kw (Fs I hg hm hv ?_ hn hdb);exact av (BN (ha pos pins s σ H _ I h) fun us s1 ⟨vs,H1,I1,r1,q1⟩=>hc pins s1 σ H1 vs us Q I1 r1 q1) he hpl
end
end L2
namespace HT
open PySem PyProof.Rows
section
variable{prog:Program}{w:World}{A:Around}{E:VL→SD→Prop}{s:SD}
def cD{t b:AD}{vs ws:List VL}{Q:VL→SD→Prop}(ht:IsTup s.heap t vs.toArray)(hb:IsTup s.heap b ws.toArray)(hv:vs≠[])
 (h1:ws=[]→Q (.ref t) s)(h2:ws≠[]→Q (.ref s.heap.objs.size) { s with heap:=s.heap.push { cls:=.type "tuple",data:=.seq (vs++ws).toArray } })
 (hsz:vs.length+ws.length≤sizeLine):wpAny (model prog w) A (binaryOp .Add (.ref t) (.ref b)) Q E s:=by
 obtain⟨⟨cls,dd,data,sl⟩,ho,hc,n,hd⟩:=id ht;obtain⟨⟨cls2,dd2,data2,sl2⟩,ho2,hc2,n2,hd2⟩:=id hb;simp only at hc hd hc2 hd2;subst hc hd hc2 hd2;have e:vs.toArray++ws.toArray=(vs++ws).toArray:=by simp
 by_cases hw:ws=[]
 ·exact concat_meets ⟨_,ho,rfl⟩ ⟨_,ho2,rfl⟩ noFill_tuple_add seq_tuple_add PySem.F.slot_tuple_add PySem.F.entry_tuple_add (PySem.F.args_tuple_add_2 _ _)
   (tuple_addW1 t b vs.toArray ws.toArray n n2 dd dd2 sl sl2 (by simpa using hv) (by simp [hw])) ⟨ho,ho2,h1 hw⟩
 ·refine concat_meets ⟨_,ho,rfl⟩ ⟨_,ho2,rfl⟩ noFill_tuple_add seq_tuple_add PySem.F.slot_tuple_add PySem.F.entry_tuple_add (PySem.F.args_tuple_add_2 _ _)
   (tuple_addW2 t b vs.toArray ws.toArray n n2 dd dd2 sl sl2 (by simpa using hv) (by simpa using hw) (by rw [List.size_toArray,List.size_toArray];exact hsz)) ⟨ho,ho2,?_⟩
  rw [e];exact h2 hw
def Bc(n d:Nat):Option Int→Nat
 |none=>d
 |some v=>if v<0 then(v+(n:Int)).toNat else min v.toNat n
def fy(n d:Nat)(hd:d≤n)(o:Option Int):Bc n d o≤n:=by
 cases o with
 |none=>exact hd
 |some v =>
  show(if v<0 then(v+(n:Int)).toNat else min v.toNat n)≤n;by_cases hv:v<0
  ·rw [if_pos hv];omega
  ·rw [if_neg hv];exact Nat.min_le_right _ _
def U3(v:Int)(n d:Nat):(if v<0 then max (v+(n:Int)) 0 else min v (n:Int))=((Bc n d (some v):Nat):Int):=by
 show(if v<0 then max (v+(n:Int)) 0 else min v (n:Int))=(((if v<0 then(v+(n:Int)).toNat else min v.toNat n):Nat):Int);by_cases hv:v<0
 ·simp only [if_pos hv];omega
 ·simp only [if_neg hv];omega
def Vi(lo hi:Option Int)(n:Nat):Builtin.Slice.sliceAdjust lo hi 1 (n:Int)=(((Bc n 0 lo:Nat):Int),((Bc n n hi:Nat):Int)):=by
 have h1:¬((1:Int)<0):=by omega
 unfold Builtin.Slice.sliceAdjust;simp only [h1,if_false];refine Prod.ext ?_ ?_
 ·cases lo with
  |none=>rfl
  |some v=>exact U3 v n 0
 ·cases hi with
  |none=>rfl
  |some v=>exact U3 v n n
def Vr(i j:Nat):Builtin.Slice.slicePlaces (i:Int) (j:Int) 1=j-i:=by
 unfold Builtin.Slice.slicePlaces;have h1:(1:Int) > 0:=by omega
 simp only [h1,if_true,Int.ediv_one];split<;>omega
def PC{v:VL}{o:Option Int}{Q:Option Int→SD→Prop}(p:IsPart v o)(h:Q o s):wpAny (model prog w) A (Builtin.Slice.slicePartIndex v) Q E s:=by
 cases p with
 |none=>exact slicePart_none h
 |int i t=>exact slicePart_int h
def Nz{sl:AD}{vl vu:VL}{lo hi:Option Int}{n:Nat}{Q:Int×Int×Nat→SD→Prop}(hs:s.heap.IsSliceOf sl vl vu .none)(pl:IsPart vl lo)(pu:IsPart vu hi)
 (h:Q (((Bc n 0 lo:Nat):Int),1,Bc n n hi-Bc n 0 lo) s):wpAny (model prog w) A (Builtin.Slice.sliceApplied (.ref sl) (pure (n:Int))) Q E s:=by
 obtain⟨os,hos,hcs,hds⟩:=id hs;unfold Builtin.Slice.sliceApplied Builtin.Slice.sliceFields;refine Wb (Wb (aZ hos hds (x:=vl) rfl (Wb (aZ hos hds (x:=vu) rfl (Wb (aZ hos hds (x:=.none) rfl (aA ?_)))))));refine Wb (slicePart_none ?_);show wpAny _ _ (if((1:Int)==0)=true then _ else _) _ _ s;rw [if_neg (by decide)];refine Wb (PC pl (Wb (PC pu (Wb (aA ?_)))));show wpAny _ _ (match Builtin.Slice.sliceAdjust lo hi 1 (n:Int) with|(lo,hi)=>pure (lo,(1:Int),Builtin.Slice.slicePlaces lo hi 1)) _ _ s;rw [Vi lo hi n];show wpAny _ _ (pure (((Bc n 0 lo:Nat):Int),(1:Int),Builtin.Slice.slicePlaces ((Bc n 0 lo:Nat):Int) ((Bc n n hi:Nat):Int) 1)) _ _ s;rw [Vr];exact aA h
def ZK(xs:Array VL)(i k:Nat):((List.range k).filterMap fun(m:Nat)=>xs[((i:Int)+(m:Int)*1).toNat]?).toArray=((xs.toList.drop i).take k).toArray:=by
 have e:(fun(m:Nat)=>xs[((i:Int)+(m:Int)*1).toNat]?)=fun m=>xs[i+m]? := by
  funext m
  have:((i:Int)+(m:Int)*1).toNat=i+m:=by omega
  rw [this]
 rw [e];have:=pick_run xs i k;rw [List.filterMap_map]at this;have e2:((fun x=>xs[x]?) ∘ fun x=>i+x)=fun m=>xs[i+m]?:=rfl;rw [e2]at this;rw [this]
def Ms{t sl:AD}{items:Array VL}{vl vu:VL}{lo hi:Option Int}{Q:VL→SD→Prop}(ht:IsTup s.heap t items)(hs:s.heap.IsSliceOf sl vl vu .none)(pl:IsPart vl lo)(pu:IsPart vu hi)
 (hw:¬(Bc items.size 0 lo=0∧Bc items.size items.size hi=items.size))
 (h:Q (.ref s.heap.objs.size) { s with heap:=s.heap.push { cls:=.type "tuple",data:=.seq ((items.toList.drop (Bc items.size 0 lo)).take (Bc items.size items.size hi-Bc items.size 0 lo)).toArray } })
 (hsz:items.size≤sizeLine):wpAny (model prog w) A (getItem (.ref t) (.ref sl)) Q E s:=by
 have htake:sizeOk (.seq ((items.toList.drop (Bc items.size 0 lo)).take (Bc items.size items.size hi-Bc items.size 0 lo)).toArray):=by
  show((items.toList.drop (Bc items.size 0 lo)).take (Bc items.size items.size hi-Bc items.size 0 lo)).toArray.size≤sizeLine;rw [List.size_toArray,List.length_take,List.length_drop,Array.length_toList];omega
 have hj:Bc items.size items.size hi≤items.size:=fy _ _ (aF _) hi;obtain⟨os,hos,hcs,hds⟩:=id hs;have hTs:s.TypeIs (.ref sl) "slice" := ⟨os,hos,hcs⟩;unfold getItem
 try with_reducible refine aV ?_
 first|refine Wb (aA ?_)|skip
 refine Wb (wpAny_sequenceKey ht.typeIs (by decide) ?_);refine Wb (aa (name:=Str.ofString "__getitem__") ht.typeIs PyProof.Rows.slot_tuple_getitem
  (aT PyProof.Rows.slot_tuple_getitem ht.typeIs entry_tuple_getitem ?_ (args_tuple_getitem _ _)))
 show wpAny _ _ (Builtin.Tuple.tupleItemsOf (.ref t)>>=_) _ _ s;refine Wb (tupleItemsOf_ ht ?_);refine Wb (wpAny_typeOf hTs ?_);rw [if_pos (by decide)];refine Wb (Nz hs pl pu ?_);have hno:¬((((Bc items.size 0 lo:Nat):Int)==0&&(1:Int)==1&&(Bc items.size items.size hi-Bc items.size 0 lo)==items.size)=true):=by
  intro q;rw [Bool.and_eq_true,Bool.and_eq_true]at q;have q1:((Bc items.size 0 lo:Nat):Int)=0:=eq_of_beq q.1.1;have q2:Bc items.size items.size hi-Bc items.size 0 lo=items.size:=eq_of_beq q.2;exact hw ⟨by omega,by omega⟩
 show wpAny _ _ (if(((Bc items.size 0 lo:Nat):Int)==0&&(1:Int)==1&&(Bc items.size items.size hi-Bc items.size 0 lo)==items.size)=true then _ else _) _ _ s;rw [if_neg hno,ZK]
 first
  |exact Wb (m:=Builtin.Tuple.tupleExact _) (aq (aA ⟨_,rfl,wpAny_pure h⟩) htake)
  |exact Wb (m:=Builtin.Tuple.tupleExact _) (aq (Wb (aA (aA ⟨_,rfl,wpAny_pure h⟩))) htake)
  |exact Wb (Wb (m:=Builtin.Tuple.tupleExact _) (aq (aA (aA ⟨_,rfl,wpAny_pure h⟩)) htake))
  |exact Wb (Wb (m:=Builtin.Tuple.tupleExact _) (aq (aA ⟨_,rfl,wpAny_pure h⟩) htake))
end
end HT
namespace L2
open PySem PySem.Spec PyProof.Rows
abbrev TO:=St→Hp→(Option Int→Hp→Prop)→Prop
def PO(X:Cx)(e:Option Expr)(t:TO):Prop :=
 ∀(pins:List (AD×Obj)) (s:SD) (σ:St) (H:Hp) (Q:Option Int→Hp→Prop),Inv X pins σ H s→t σ H Q →
  wpAny (model X.prog X.w) X.A (evalPart e X.env) (fun u s'=>∃o H',Inv X pins σ H' s'∧IsPart u o∧Q o H') X.xe s
def bg:TO:=fun _ H Q=>Q none H
def i0(t:TE):TO:=fun σ H Q=>t σ H fun x H1=>∃i,x=.int i∧Q (some i) H1
def intsAre_of{ns:List Int}:∀ {us:List VL},Vals (ns.map V.int) us→IntsAre us ns:=by
 induction ns with
 |nil=>intro us r;rw [List.map_nil]at r;cases r;exact .nil
 |cons n ns ih =>
  intro us r;rw [List.map_cons]at r;cases r with
  |cons r1 r2 =>
   obtain⟨t,e⟩:=r1;subst e;exact .cons n t (ih r2)
section
variable{X:Cx}{e:Expr}{te:TE}{lo hi:Option Expr}{tl th:TO}{pos p2:Pos}
def cE:PO X none bg:=by
 intro pins s σ H Q I h;rw [evalPart_none];exact aA ⟨none,H,I,.none,h⟩
def cC(h:PE X e te):PO X (some e) (i0 te):=by
 intro pins s σ H Q I hw;rw [evalPart_some];refine BN (h pins s σ H _ I hw) fun u s1 ⟨x,H1,I1,r1,q1⟩=>?_;obtain⟨i,rfl,q⟩:=q1;obtain⟨t,rfl⟩:=r1;exact⟨some i,H1,I1,.int i t,q⟩
def Sk(X:Cx)(r:V→Option Int→Option Int→Hp→VK→Prop):Prop :=
 ∀(pins:List (AD×Obj)) (s:SD) (σ:St) (H:Hp) (x:V) (v vl vu:VL) (lo hi:Option Int) (sl:AD) (Q:VK),Inv X pins σ H s→RelV x v→s.heap.IsSliceOf sl vl vu .none→IsPart vl lo→IsPart vu hi→r x lo hi H Q →
  ∃T id,typeLookup (.type T) "__getitem__" = pure (some (.builtin id))∧s.TypeIs v T∧wpAny (model X.prog X.w) X.A (getItem v (.ref sl)) (EP X pins σ Q) X.xe s
def Sk.or{r r':V→Option Int→Option Int→Hp→VK→Prop}(h:Sk X r)(h':Sk X r'):Sk X (fun x lo hi H Q=>r x lo hi H Q∨r' x lo hi H Q):=by
 intro pins s σ H x v vl vu lo hi sl Q I rx hs pl pu q;rcases q with q|q
 ·exact h pins s σ H x v vl vu lo hi sl Q I rx hs pl pu q
 ·exact h' pins s σ H x v vl vu lo hi sl Q I rx hs pl pu q
def lC(r:V→Option Int→Option Int→Hp→VK→Prop)(te:TE)(tl th:TO):TE:=fun σ H Q=>te σ H fun x H1=>tl σ H1 fun l H2=>th σ H2 fun u H3=>r x l u H3 Q
def Ye{r:V→Option Int→Option Int→Hp→VK→Prop}(hr:Sk X r)(he:PE X e te)(hl:PO X lo tl)(hu:PO X hi th):PE X (.Subscript e (.Slice lo hi none p2) pos) (lC r te tl th):=by
 intro pins s σ H Q I h;refine Subscript_ (BN (he pins s σ H _ I h) fun v s1 ⟨x,H1,I1,r1,q1⟩=>?_);refine wpAny_Slice (BN (hl pins s1 σ H1 _ I1 q1) fun vl s2 ⟨l,H2,I2,pl,q2⟩=>BN (hu pins s2 σ H2 _ I2 q2) fun vu s3 ⟨u,H3,I3,pu,q3⟩=>?_);rw [evalPart_none];refine aA ?_;have I4:Inv X pins σ H3 { s3 with heap:=s3.heap.push { cls:=.type "slice",data:=.fields #[vl,vu,.none] } }:=I3.kept (t':=s3.toks) fun b ob q=>aC _ q;obtain⟨T,id,hT,ht,hg⟩:=hr pins { s3 with heap:=s3.heap.push { cls:=.type "slice",data:=.fields #[vl,vu,.none] } } σ H3 x v vl vu l u s3.heap.objs.size Q I4 r1 (Heap.IsSliceOf.new ..) pl pu q3;show wpAny (model X.prog X.w) X.A (subscriptTail e (.Slice lo hi none p2) v (.ref s3.heap.objs.size)) (EP X pins σ Q) X.xe { s3 with heap:=s3.heap.push { cls:=.type "slice",data:=.fields #[vl,vu,.none] } };exact tail_any (ops:=[.ref s3.heap.objs.size,v]) ht hT hg (by with_unfolding_all rfl)
def ME(xs:List V)(lo hi:Option Int):List V:=(xs.drop (HT.Bc xs.length 0 lo)).take (HT.Bc xs.length xs.length hi-HT.Bc xs.length 0 lo)
def NF(xs:List V)(lo hi:Option Int):(ME xs lo hi).length≤xs.length:=by
 unfold ME;rw [List.length_take,List.length_drop];omega
def kQ(K:Fg):V→Option Int→Option Int→Hp→VK→Prop:=fun x lo hi H Q=>∃a xs,x=.ref a∧A7 K H a xs ∧
 ¬(HT.Bc xs.length 0 lo=0∧HT.Bc xs.length xs.length hi=xs.length)∧∀p,H p=none→Q (.ref p) (upd H p (.tup (ME xs lo hi)))
def fY:Sk X (kQ X.K):=by
 intro pins s σ H x v vl vu lo hi sl Q I rx hs pl pu h;obtain⟨a,xs,rfl,hx,hw,q⟩:=h;cases rx;obtain⟨its,r,ht,hz⟩:=I.tuple hx;have hlen:its.toArray.size=xs.length:=by rw [List.size_toArray];exact r.length.symm
 refine⟨"tuple",_,PyProof.Rows.slot_tuple_getitem.lookup,ht.typeIs,?_⟩;refine HT.Ms ht hs pl pu (by rw [hlen];exact hw) ?_ (by rw [hlen];exact hz);rw [hlen];refine⟨.ref s.heap.objs.size,_,I.laid (t':=s.toks) (o:=.tup (ME xs lo hi)) (fun b ob q=>aC _ q) (aF _) ?_,rfl,q _ (I.A0.fresh (aF _))⟩;exact⟨aO (NF xs lo hi) hz,_,(r.drop (HT.Bc xs.length 0 lo)).take (HT.Bc xs.length xs.length hi-HT.Bc xs.length 0 lo),IsTup.new _ _⟩
def Vals.UT{xs:List V}{us:List VL}(r:Vals xs us):us=[] ↔ xs=[]:=by
 cases r with
 |nil=>simp
 |cons _ _=>simp
end
def NQ(n:Nat)(i:Int):Option Nat:=if 0≤i then(if i<n then some i.toNat else none) else if -(n:Int)≤i then some (i+n).toNat else none
def E8{α:Type}(xs:List α)(i:Int):Option α:=(NQ xs.length i).bind fun j=>xs[j]?
def UP{n:Nat}{i:Int}{j:Nat}(h:NQ n i=some j):seqIndex? i n=some j∧j<n∧-(n:Int)≤i∧i<n:=by
 unfold NQ at h;by_cases h0:0≤i
 ·rw [if_pos h0]at h;by_cases h1:i<n
  ·rw [if_pos h1]at h;have e:i.toNat=j:=ah h;exact⟨by rw [seqIndex_of h0 h1,e],by omega,by omega,h1⟩
  ·rw [if_neg h1]at h;cases h
 ·rw [if_neg h0]at h;by_cases h1:-(n:Int)≤i
  ·rw [if_pos h1]at h;have e:(i+n).toNat=j:=ah h;exact⟨by rw [seqIndex_neg (by omega) h1,e],by omega,h1,by omega⟩
  ·rw [if_neg h1]at h;cases h
def Pn{α:Type}{xs:List α}{i:Int}{v:α}(h:E8 xs i=some v):∃j,seqIndex? i xs.length=some j∧xs[j]? = some v∧j<xs.length∧-(xs.length:Int)≤i∧i<xs.length:=by
 unfold E8 at h;cases e:NQ xs.length i with
 |none=>rw [e]at h;cases h
 |some j =>
  rw [e]at h;obtain⟨h1,h2,h3,h4⟩:=UP e;exact⟨j,h1,h,h2,h3,h4⟩
def Ib{α:Type}{xs:List α}{j:Nat}{v:α}(h:xs[j]? = some v):E8 xs (j:Int)=some v:=by
 have hj:j<xs.length:=(aD.mp h).1;have e:NQ xs.length (j:Int)=some j:=by
  unfold NQ;rw [if_pos (by omega),if_pos (by omega)];simp
 unfold E8;rw [e];exact h
def Yt{α:Type}(xs:List α)(v:α):E8 (xs++[v]) (-1)=some v:=by
 have hl:(xs++[v]).length=xs.length+1:=by simp
 have e:NQ (xs++[v]).length (-1)=some xs.length:=by
  unfold NQ;rw [hl,if_neg (by decide),if_pos (by omega)]
  congr 1
  omega
 unfold E8;rw [e];show(xs++[v])[xs.length]? = some v;simp
def Px(b:Expr):Prop:=∀o i,subscripted b false o i=operate [o,i] (getItem o i)
def My(X:Cx)(r:R2):Prop :=
 ∀(value slice:Expr) (pins:List (AD×Obj)) (s:SD) (σ:St) (H:Hp) (x y:V) (v u:VL) (Q:VK),Inv X pins σ H s→RelV x v→RelV y u→r x y H Q →
  subscripted slice false v u=operate [v,u] (getItem v u)→wpAny (model X.prog X.w) X.A (subscriptTail value slice v u) (EP X pins σ Q) X.xe s
def lI(X:Cx)(id:String)(r:V→List V→Hp→VK→Prop):Prop :=
 ∀(pins:List (AD×Obj)) (s:SD) (σ:St) (H:Hp) (x:V) (xs:List V) (v:VL) (us:List VL) (Q:VK),Inv X pins σ H s→RelV x v→Vals xs us→r x xs H Q →
  wpAny (model X.prog X.w) X.A (call (.builtin id) (v::us)) (EP X pins σ Q) X.xe s
section
variable{X:Cx}{a b:Expr}{ta tb:TE}{pos:Pos}
def My.or{r r':R2}(h:My X r)(h':My X r'):My X (fun x y H Q=>r x y H Q∨r' x y H Q):=by
 intro value slice pins s σ H x y v u Q I rx ry q hs;rcases q with q|q
 ·exact h value slice pins s σ H x y v u Q I rx ry q hs
 ·exact h' value slice pins s σ H x y v u Q I rx ry q hs
def C8{r:R2}(hr:My X r)(ha:PE X a ta)(hb:PE X b tb)(hs:Px b):PE X (.Subscript a b pos) (Xv r ta tb):=by
 intro pins s σ H Q I h;exact Subscript_ (YR ha hb I h fun v u s2 x y H2 I2 rx ry q=>hr a b pins s2 σ H2 x y v u Q I2 rx ry q (hs _ _))
def iK(K:Fg):R2:=fun x y H Q=>∃p xs i v,x=.ref p∧y=.int i∧Al K H p xs∧E8 xs i=some v∧Q v H
def Yh(K:Fg):R2:=fun x y H Q=>∃p xs i v,x=.ref p∧y=.int i∧A7 K H p xs∧E8 xs i=some v∧Q v H
def iL:R2:=fun x y H Q=>∃z i c,x=.str z∧y=.int i∧z.length≤sizeLine∧E8 z.cps.toList i=some c∧Q (.str ⟨#[c]⟩) H
def Pd:My X (iK X.K):=by
 intro value slice pins s σ H x y v u Q I rx ry h hs;obtain⟨p,xs,i,z,rfl,rfl,hq,he,q⟩:=h;cases rx;obtain⟨t,rfl⟩:=ry;obtain⟨its,r,pl,hz⟩:=I.list hq;obtain⟨j,h1,h2,h3,h4,h5⟩:=Pn he;obtain⟨w,ew,rw'⟩:=r.get h2;have hl:=r.length;have hn:=Lo;have fin:EP X pins σ Q w s:=⟨z,H,I,rw',q⟩;by_cases h0:0≤i
 ·have hj:i.toNat=j:=by
   rw [seqIndex_of h0 h5]at h1;exact ah h1
  exact item_listR pl.isList h0 (by omega) (by rw [hj];simpa using ew) fin hs
 ·have hj:(i+(its.toArray.size:Int)).toNat=j:=by
   rw [seqIndex_neg (by omega) h4]at h1;rw [List.size_toArray,←hl];exact ah h1
  exact subscriptTail_builtinR (x:=w) pl.isList.typeIs slot_list_getitem.lookup
   (wpAny_getItem_list_neg (Q:=fun r s'=>r=w∧EP X pins σ Q r s') pl.isList (by omega) (by rw [List.size_toArray]<;>omega) (by omega) (by rw [hj];simpa using ew) ⟨rfl,fin⟩) hs
def De:My X (Yh X.K):=by
 intro value slice pins s σ H x y v u Q I rx ry h hs;obtain⟨p,xs,i,z,rfl,rfl,hq,he,q⟩:=h;cases rx;obtain⟨t,rfl⟩:=ry;obtain⟨its,r,pl,hz⟩:=I.tuple hq;obtain⟨j,h1,h2,h3,h4,h5⟩:=Pn he;obtain⟨w,ew,rw'⟩:=r.get h2;have hl:=r.length;have hn:=Lo;have fin:EP X pins σ Q w s:=⟨z,H,I,rw',q⟩;exact subscriptTail_builtinR (x:=w) pl.typeIs slot_tuple_getitem.lookup
  (getItem_tuple (j:=j) (Q:=fun r s'=>r=w∧EP X pins σ Q r s') pl (by omega) (by omega) (by rw [List.size_toArray,←hl];exact h1) (by simpa using ew) ⟨rfl,fin⟩) hs
def eD:My X iL:=by
 intro value slice pins s σ H x y v u Q I rx ry h hs;obtain⟨z,i,c,rfl,rfl,hz,he,q⟩:=h;obtain⟨t,rfl⟩:=rx;obtain⟨t',rfl⟩:=ry;obtain⟨j,h1,h2,h3,h4,h5⟩:=Pn he;have hl:z.cps.toList.length=z.length:=by simp [Str.length]
 rw [hl]at h1 h4 h5;have hn:=Lo;exact tail_any (typeIs_str s z t) slot_str_getitem.lookup (getItem_str (c:=c) (by
  have e1:decide (i < -(2^63:Int))=false:=bQ (by omega);have e2:decide (i ≥ 2^63)=false:=bQ (by omega);rw [e1,e2,Bool.or_false]) (by rw [h1];simpa using h2) ⟨.str ⟨#[c]⟩,H,I.tok _,⟨_,rfl⟩,q⟩) hs
def lP(K:Fg):R2:=fun x y H Q=>iK K x y H Q∨Yh K x y H Q∨iL x y H Q
def eW:My X (lP X.K):=Pd.or (De.or eD)
def V4(its:List VL)(n j:Nat)(u:VL):Obj.mapSeq (·.setIfInBounds j u) { cls:=.type "list",data:=.seq its.toArray n }={ cls:=.type "list",data:=.seq (its.set j u).toArray n }:=by
 simp [Obj.mapSeq]
def Inv.lst{pins:List (AD×Obj)}{σ:St}{H:Hp}{s:SD}{p:AD}{xs:List V}(I:Inv X pins σ H s)(h:H p=some (.lst xs)) :
  ∃(its:List VL) (n:Nat),Vals xs its∧s.heap.get? p=some { cls:=.type "list",data:=.seq its.toArray n }∧xs.length≤sizeLine:=by
 obtain⟨z,its,n,r,e⟩:=I.A0 p _ h;exact⟨its,n,r,e,z⟩
def Inv.ef{pins:List (AD×Obj)}{σ:St}{H:Hp}{s:SD}{p:AD}{xs ys:List V}{its its':List VL}{n n':Nat}{f:Obj→Obj}(I:Inv X pins σ H s)(h:H p=some (.lst xs))
 (ho:s.heap.get? p=some { cls:=.type "list",data:=.seq its.toArray n })(hf:f { cls:=.type "list",data:=.seq its.toArray n }={ cls:=.type "list",data:=.seq its'.toArray n' })(r:Vals ys its')(hz:ys.length≤sizeLine)(t:Nat) :
  Inv X pins σ (upd H p (.lst ys)) { s with heap:=s.heap.update p f,toks:=t }:=by
 have e:(s.heap.update p f).get? p=some { cls:=.type "list",data:=.seq its'.toArray n' }:=by
  rw [Heap.get?_update_self f ho (by rw [hf]<;>rfl),hf]
 refine I.write (x:=p) (e:=p) (by rw [h];trivial) (.inl rfl) (fun b u hb q=>(Heap.get?_update_other _ _ (Ne.symm hb)).trans q) ⟨_,e⟩ ?_;exact⟨hz,its',n',r,e⟩
def jD:V→V→V→Hp→(Hp→Prop)→Prop:=fun o i v H Q=>∃p xs k j,o=.ref p∧i=.int k∧H p=some (.lst xs)∧NQ xs.length k=some j∧Q (upd H p (.lst (xs.set j v)))
def set_list:ZL X jD:=by
 intro pins s σ H o i v ov iv u Q I ro ri rv h;obtain⟨p,xs,k,j,rfl,rfl,hp,hj,q⟩:=h;cases ro;obtain⟨t,rfl⟩:=ri;obtain⟨its,n,r,ho,hz⟩:=I.lst hp;obtain⟨h1,h2,h3,h4⟩:=UP hj;have hl:=r.length;have hn:=Lo;have I':Inv X pins σ (upd H p (.lst (xs.set j v))) { s with heap:=s.heap.update p (Obj.mapSeq (·.setIfInBounds j u)) } :=
  I.ef hp ho (V4 its n j u) (r.set rv j) (by rw [List.length_set];exact hz) s.toks
 by_cases h0:0≤k
 ·have hk:k.toNat=j:=by
   rw [seqIndex_of h0 h4]at h1;exact ah h1
  exact PySem.W.ki_setAt ho h0 (by omega) (by rw [List.size_toArray,←hl];exact h4) (by rw [hk];exact⟨_,I',q⟩)
 ·have hk:(k+(its.toArray.size:Int)).toNat=j:=by
   rw [seqIndex_neg (by omega) h3]at h1;rw [List.size_toArray,←hl];exact ah h1
  exact PySem.W.ki_setBack ho (by omega) (by rw [List.size_toArray,←hl];exact h3) (by omega) (by rw [hk];exact⟨_,I',q⟩)
def Sw(lo hi:Option Int)(n:Nat):(sliceBounds lo hi none n).1=((HT.Bc n 0 lo:Nat):Int)∧(sliceBounds lo hi none n).2.1=((HT.Bc n n hi:Nat):Int)∧(sliceBounds lo hi none n).2.2=1:=by
 refine⟨?_,?_,rfl⟩
 ·cases lo with
  |none=>simp [sliceBounds,HT.Bc]
  |some i =>
   simp only [sliceBounds,HT.Bc,Option.getD_none,show(1:Int) > 0 by decide,if_true];by_cases h:i<0
   ·simp only [h,if_true]<;>omega
   ·simp only [h,if_false]<;>omega
 ·cases hi with
  |none=>simp [sliceBounds,HT.Bc]
  |some i =>
   simp only [sliceBounds,HT.Bc,Option.getD_none,show(1:Int) > 0 by decide,if_true];by_cases h:i<0
   ·simp only [h,if_true]<;>omega
   ·simp only [h,if_false]<;>omega
def Q3(its:List VL)(lo hi:Option Int):slicePick its.toArray lo hi none=((its.drop (HT.Bc its.length 0 lo)).take (HT.Bc its.length its.length hi-HT.Bc its.length 0 lo)).toArray:=by
 obtain⟨h1,h2,h3⟩:=Sw lo hi its.toArray.size;unfold slicePick;rw [h1,h2,h3];simp only [sliceRange_one,pick_run,List.size_toArray]<;>rfl
def ko(K:Fg):V→Option Int→Option Int→Hp→VK→Prop:=fun x lo hi H Q=>∃a xs,x=.ref a∧Al K H a xs∧∀p,H p=none→Q (.ref p) (upd H p (.lst (ME xs lo hi)))
def dB:Sk X (ko X.K):=by
 intro pins s σ H x v vl vu lo hi sl Q I rx hs pl pu h;obtain⟨a,xs,rfl,hx,q⟩:=h;cases rx;obtain⟨its,r,ht,hz⟩:=I.list hx;have hlen:=r.length;refine⟨"list",_,slot_list_getitem.lookup,ht.isList.typeIs,?_⟩;refine wpAny_getItem_list_slice ht.isList hs pl pu .none (by simp) ?_ (by rw [List.size_toArray]<;>omega);rw [Q3,←hlen];refine⟨.ref s.heap.objs.size,_,I.laid (t':=s.toks) (o:=.lst (ME xs lo hi)) (fun b ob q=>aC _ q) (aF _) ?_,rfl,q _ (I.A0.fresh (aF _))⟩;exact⟨aO (NF xs lo hi) hz,_,0,(r.drop (HT.Bc xs.length 0 lo)).take (HT.Bc xs.length xs.length hi-HT.Bc xs.length 0 lo),Heap.get?_push_size _ rfl⟩
def Bx:D4 X (.builtin "len") (fun xs H Q=>∃p ys,xs=[.ref p]∧(Al X.K H p ys∨A7 X.K H p ys)∧Q (.int ys.length) H):=by
 intro pins s σ H xs us Q I r h;obtain⟨p,ys,rfl,hq,q⟩:=h;obtain⟨u,rfl,rx⟩:=vals1 r;cases rx;have hn:=Lo;rcases hq with hq|hq
 ·obtain⟨its,r',pl,hz⟩:=I.list hq;have hlen:=r'.length;exact Calls.call_len_list pl.isList (by simp only [List.size_toArray]<;>omega) ⟨.int ys.length,H,I.tok _,⟨s.toks+1,by rw [List.size_toArray,hlen]⟩,q⟩
 ·obtain⟨its,r',pl,hz⟩:=I.tuple hq;have hlen:=r'.length;exact len_tuple pl (by simp only [List.size_toArray]<;>omega) ⟨.int ys.length,H,I.tok _,⟨s.toks+1,by rw [List.size_toArray,hlen]⟩,q⟩
def D4.or{f:VL}{r r':List V→Hp→VK→Prop}(h:D4 X f r)(h':D4 X f r'):D4 X f (fun xs H Q=>r xs H Q∨r' xs H Q):=by
 intro pins s σ H xs us Q I rs q;rcases q with q|q
 ·exact h pins s σ H xs us Q I rs q
 ·exact h' pins s σ H xs us Q I rs q
def SF:D4 X (.type "list") (fun xs H Q=>∃p ys,xs=[.ref p]∧(Al X.K H p ys∨A7 X.K H p ys)∧∀l,H l=none→Q (.ref l) (upd H l (.lst ys))):=by
 intro pins s σ H xs us Q I r h;obtain⟨p,ys,rfl,hq,q⟩:=h;obtain⟨u,rfl,rx⟩:=vals1 r;cases rx;have fin:∀(its:List VL),Vals ys its→ys.length≤sizeLine→∀(h':Heap) (c':Nat),(∀b o',s.heap.get? b=some o'→h'.get? b=some o') →
   h'.get? s.heap.objs.size=some { cls:=.type "list",dict:=none,data:=.seq its.toArray c',slots:=#[] }→EP X pins σ Q (.ref s.heap.objs.size) { s with heap:=h' }:=fun its r' hz h' c' kp e =>
  ⟨.ref s.heap.objs.size,_,I.laid (t':=s.toks) kp (aF _) (show Cb X.prog X.w _ h' _ (.lst ys) from⟨hz,its,c',r',e⟩),rfl,q _ (I.A0.fresh (aF _))⟩
 rcases hq with hq|hq
 ·obtain⟨its,r',pl,hz⟩:=I.list hq;have hlen:=r'.length;obtain⟨o,ho,hc,n,hd⟩:=pl.isList;exact call_list_seq p (.inl rfl) ho hc hd (fun h' c' kp e=>fin its r' hz h' c' kp e) (by simp only [List.size_toArray]<;>omega)
 ·obtain⟨its,r',pl,hz⟩:=I.tuple hq;have hlen:=r'.length;obtain⟨o,ho,hc,n,hd⟩:=pl;exact call_list_seq p (.inr rfl) ho hc hd (fun h' c' kp e=>fin its r' hz h' c' kp e) (by simp only [List.size_toArray]<;>omega)
def Q4:D4 X (.type "tuple") (fun xs H Q=>∃p ys,xs=[.ref p]∧((Al X.K H p ys∧∀l,H l=none→Q (.ref l) (upd H l (.tup ys)))∨(A7 X.K H p ys∧Q (.ref p) H))):=by
 intro pins s σ H xs us Q I r h;obtain⟨p,ys,rfl,h⟩:=h;obtain⟨u,rfl,rx⟩:=vals1 r;cases rx;rcases h with ⟨hq,q⟩|⟨hq,q⟩
 ·obtain⟨its,r',pl,hz⟩:=I.list hq;have hlen:=r'.length;refine call_tuple_list pl.isList (fun h' kp=>?_) (by simp only [List.size_toArray]<;>omega);have I1:Inv X pins σ H { s with heap:=h' }:=I.kept (t':=s.toks) kp;have I2:Inv X pins σ (upd H h'.objs.size (.tup ys)) { s with heap:=h'.push { cls:=.type "tuple",data:=.seq its.toArray } } :=
   I1.laid (t':=s.toks) (fun b o e=>aC _ e) (aF _) (show Cb X.prog X.w _ _ _ (.tup ys) from⟨hz,its,r',IsTup.new _ _⟩)
  exact⟨.ref h'.objs.size,_,I2,rfl,q _ (I1.A0.fresh (aF _))⟩
 ·obtain⟨its,r',pl,hz⟩:=I.tuple hq;exact call_tuple_same pl ⟨.ref p,H,I,rfl,q⟩
def ja(K:Fg)(T:String)(x:V)(H:Hp):Prop:=match x with
 |.str _=>T = "str"
 |.int _=>T = "int"
 |.ref p=>(T = "list" ∧ ∃xs,Al K H p xs)∨(T = "tuple" ∧ ∃o,K.lookup p=some o∧o.cls=.type "tuple" ∧ o.dict=none) ∨
   (T = "dict" ∧((∃kvs,H p=some (.dK kvs))∨∃kvs,H p=some (.dT kvs)))∨(T = "set" ∧ ∃S n,H p=some (.set S n))
 |_=>False
def iE{pins:List (AD×Obj)}{σ:St}{H:Hp}{s:SD}{T:String}{x:V}{v:VL}(I:Inv X pins σ H s)(r:RelV x v)(ty:ja X.K T x H) :
  s.TypeIs v T∧∀a,v=.ref a→∃ob,s.heap.get? a=some ob∧ob.dict=none:=by
 cases x with
 |str z =>
  obtain⟨t,rfl⟩:=r;cases (show T = "str" from ty);exact⟨typeIs_str s z t,fun _ e=>nomatch e⟩
 |int i =>
  obtain⟨t,rfl⟩:=r;cases (show T = "int" from ty);exact⟨typeIs_int s i t,fun _ e=>nomatch e⟩
 |ref p =>
  cases r;rcases ty with ⟨rfl,xs,hq⟩|⟨rfl,o,hk,hc,hd⟩|⟨rfl,hk⟩|⟨rfl,S,n,hk⟩
  ·obtain⟨its,_,pl,_⟩:=I.list hq;refine⟨pl.isList.typeIs,fun a e=>?_⟩;cases e;obtain⟨o,n,e,c,hd,_⟩:=pl;exact⟨o,e,hd⟩
  ·refine⟨⟨o,I.Gu p o hk,hc⟩,fun a e=>?_⟩;cases e;exact⟨o,I.Gu _ o hk,hd⟩
  ·have z:∃o,s.heap.get? p=some o∧o.ExactDict:=by
    rcases hk with ⟨kvs,hk⟩|⟨kvs,hk⟩
    ·obtain⟨_,_,_,_,o,_,_,e,ex,_⟩:=I.A0 p _ hk;exact⟨o,e,ex⟩
    ·obtain⟨_,_,_,_,o,_,_,e,ex,_⟩:=I.A0 p _ hk;exact⟨o,e,ex⟩
   obtain⟨o,e,ex⟩:=z;refine⟨⟨o,e,ex.1⟩,fun a e2=>?_⟩;cases e2;exact⟨o,e,ex.2.1⟩
  ·obtain⟨o,_,_,_,e,ex,_⟩:=I.A0 p _ hk;refine⟨⟨o,e,ex.1⟩,fun a e2=>?_⟩;cases e2;exact⟨o,e,ex.2.1⟩
 |_=>exact False.elim ty
def fL(K:Fg)(T:String)(r:V→List V→Hp→VK→Prop)(to:TE)(t:TA):TE:=fun σ H Q=>to σ H fun x H1=>ja K T x H1∧t σ H1 fun xs H2=>r x xs H2 Q
variable{o e:Expr}{es:List Expr}{to:TE}{t:TA}{name:Str}{apos cpos:Pos}{T id:String}{r:V→List V→Hp→VK→Prop}
def Jn(pa:PlainAttrs T)(slot:Slot T name id)(hty:typeOf (.builtin id)=pure (.type "method_descriptor"))(hm:lI X id r)(ho:PE X o to)(ha:PA X (e::es) t)
 (hbase:attributeBase o name X.env (eval o X.env)=eval o X.env:=by rfl)
 (hfew:((backTo cpos (starEach (e::es) X.env)).all (fun x=>!x.1)&&(backToKw cpos (keywordEach [] X.env)).all (fun x=>x.1.isSome)
   && decide ((e::es).length+([]:List Keyword).length+(if([]:List Keyword).isEmpty then 0 else 1)<30))=true:=by rfl)
 (hline:(apos.endLine==cpos.line)=true:=by rfl)(hs:starEach (e::es) X.env=(false,eval e X.env)::starEach es X.env:=by rfl)(hplain:(backTo cpos (starEach es X.env)).any (·.1)=false:=by rfl) :
  PE X (.Call (.Attribute o name apos) (e::es) [] cpos) (fL X.K T r to t):=by
 intro pins s σ H Q I h;refine wpAny_Call_method_late hbase hfew hline rfl (BN (ho pins s σ H _ I h) fun v s1 ⟨x,H1,I1,r1,ty,q1⟩=>?_);obtain⟨h1,h2⟩:=iE I1 r1 ty;refine⟨T,id,pa,slot,hty,h1,h2,?_⟩;have hA:=ha cpos pins s1 σ H1 _ I1 q1;rw [hs]at hA ⊢;refine Calls.callWith_builtin (by show(false||(backTo cpos (starEach es X.env)).any (·.1))=false;rw [hplain]<;>rfl) (Calls.evalArgs_plain ?_);exact BN hA fun us s2 ⟨vs,H2,I2,r2,q2⟩=>hm pins s2 σ H2 x vs v us Q I2 r1 r2 q2
end
def jU(X:Cx)(id:String)(r:V→List V→Hp→VK→Prop):Prop :=
 ∀(pins:List (AD×Obj)) (s:SD) (σ:St) (H:Hp) (x:V) (xs:List V) (v:VL) (us:List VL) (Q:VK),Inv X pins σ H s→RelV x v→Vals xs us→r x xs H Q →
  wpAny (model X.prog X.w) X.A (call (.builtin id) (v::us)) (EP X pins σ Q) X.xe s
def Vals.one:∀ {x:V} {us:List VL},Vals [x] us→∃u,us=[u]∧RelV x u
 |_,_,.cons r .nil=>⟨_,rfl,r⟩
def Vals.two:∀ {x y:V} {us:List VL},Vals [x,y] us→∃u v,us=[u,v]∧RelV x u∧RelV y v
 |_,_,_,.cons r (.cons q .nil)=>⟨_,_,rfl,r,q⟩
def Vals.reverse{xs:List V}{us:List VL}(h:Vals xs us):Vals xs.reverse us.reverse:=by
 induction h with
 |nil=>exact .nil
 |cons r t ih=>rw [List.reverse_cons,List.reverse_cons];exact Vals.append ih (.cons r .nil)
def Vals.rep{xs:List V}{us:List VL}(h:Vals xs us):∀k:Nat,Vals (List.replicate k xs).flatten (List.replicate k us).flatten
 |0=>.nil
 |k+1=>by
  rw [List.replicate_succ,List.replicate_succ,List.flatten_cons,List.flatten_cons];exact Vals.append h (Vals.rep h k)
def foldl_rep(its:List VL):∀(k:Nat) (acc:List VL),
  List.foldl (fun x1 x2=>x1++x2) acc.toArray (List.replicate k its.toArray)=(acc++(List.replicate k its).flatten).toArray
 |0,acc=>by simp
 |k+1,acc=>by
  have e:acc.toArray++its.toArray=(acc++its).toArray:=by simp
  have e2:(acc++its)++(List.replicate k its).flatten=acc++(List.replicate (k+1) its).flatten:=by
   rw [List.replicate_succ,List.flatten_cons,List.append_assoc]
  rw [←e2,←foldl_rep its k (acc++its),←e,List.replicate_succ,List.foldl_cons]
section
variable{X:Cx}{pins:List (AD×Obj)}{σ:St}{H:Hp}{s:SD}{l b:AD}{xs ys zs:List V}
def Inv.fW{its its':List VL}{n:Nat}{f:Array VL→Array VL}{t':Nat}(I:Inv X pins σ H s)(hH:H l=some (.lst xs))
 (e:s.heap.get? l=some { cls:=.type "list",data:=.seq its.toArray n })(hf:f its.toArray=its'.toArray)(hv:Vals ys its')(hz:ys.length≤sizeLine) :
  Inv X pins σ (upd H l (.lst ys)) { s with heap:=s.heap.update l (Obj.mapSeq f),toks:=t' }:=by
 have q:=PySem.IsL.update e f;rw [hf]at q;refine I.write (x:=l) (e:=l) (by rw [hH];exact trivial) (.inl rfl) (fun b' u hb hu=>(Heap.get?_update_other s.heap (Obj.mapSeq f) (Ne.symm hb)).trans hu) ⟨_,q⟩ ?_;exact⟨hz,its',_,hv,q⟩
def Inv.fm{its:List VL}{t':Nat}(I:Inv X pins σ H s)(hv:Vals ys its)(hz:ys.length≤sizeLine) :
  Inv X pins σ (upd H s.heap.objs.size (.lst ys)) { s with heap:=s.heap.push { cls:=.type "list",data:=.seq its.toArray },toks:=t' } :=
 I.laid (fun _ _ q=>aC _ q) (aF _) ⟨hz,its,0,hv,Heap.get?_push_size _ rfl⟩
def Inv.fresh(I:Inv X pins σ H s):H s.heap.objs.size=none:=I.A0.fresh (aF _)
def Inv.P7(I:Inv X pins σ H s)(hH:H l=some (.lst xs)):xs.length≤sizeLine∧∃(its:List VL) (n:Nat),Vals xs its∧xs.length=its.length∧s.heap.get? l=some { cls:=.type "list",data:=.seq its.toArray n }:=by
 obtain⟨z,its,n,r,e⟩:=I.A0 l _ hH;exact⟨z,its,n,r,r.length,e⟩
def Rf{n:Nat}(h:n≤sizeLine):Builtin.List.listTooLong n=false:=by
 unfold Builtin.List.listTooLong;exact bQ (by omega)
end
section
variable{X:Cx}
def Uw:V→List V→Hp→VK→Prop:=fun x vs H Q=>∃l xs y,x=.ref l∧vs=[y]∧H l=some (.lst xs)∧xs.length<sizeLine∧Q .Bb (upd H l (.lst (xs++[y])))
def FN:jU X "list.append" Uw:=by
 intro pins s σ H x vs v us Q I rx rv h;obtain⟨l,xs,y,rfl,rfl,hH,hz,q⟩:=h;cases rx;obtain⟨u,rfl,ru⟩:=rv.one;obtain⟨z,its,n,r,hl,e⟩:=I.P7 hH;refine call_meets F.slot_list_append ⟨_,e,rfl⟩ F.entry_list_append (F.args_list_append_2 _ _) (PySem.list_append l its.toArray n u (by rw [List.size_toArray];omega)) ⟨e,?_⟩;refine⟨.Bb,_,I.fW (its':=its++[u]) hH e (by simp) (r.append (.cons ru .nil)) ?_,rfl,q⟩;rw [List.length_append,List.length_singleton];omega
def U9:V→List V→Hp→VK→Prop:=fun x vs H Q=>∃l b xs zs,x=.ref l∧vs=[.ref b]∧H l=some (.lst xs)∧H b=some (.lst zs)∧xs.length+zs.length≤sizeLine∧Q .Bb (upd H l (.lst (xs++zs)))
def Qa:jU X "list.extend" U9:=by
 intro pins s σ H x vs v us Q I rx rv h;obtain⟨l,b,xs,zs,rfl,rfl,hH,hB,hz,q⟩:=h;cases rx;obtain⟨u,rfl,ru⟩:=rv.one;cases ru;obtain⟨z,its,n,r,hl,e⟩:=I.P7 hH;obtain⟨z2,its2,n2,r2,hl2,e2⟩:=I.P7 hB;have hsz:its.toArray.size+its2.toArray.size≤sizeLine:=by rw [List.size_toArray,List.size_toArray];omega
 have hlong:¬(!its.toArray.isEmpty&&Builtin.List.listTooLong (its.toArray.size+its2.toArray.size))=true:=by
  rw [Rf hsz,Bool.and_false];exact aL
 refine call_meets F.slot_list_extend ⟨_,e,rfl⟩ F.entry_list_extend (F.args_list_extend_2 _ _)
  (AutoSeq1.list_extend_list_list_0 l its.toArray n b its2.toArray n2 hlong (by rw [List.size_toArray];omega) (by omega)) ⟨e,e2,?_⟩
 refine⟨.Bb,_,I.fW (its':=its++its2) hH e (by simp) (r.append r2) ?_,rfl,q⟩;rw [List.length_append];omega
def kD:R2:=fun x y H Q=>∃l b xs zs,x=.ref l∧y=.ref b∧H l=some (.lst xs)∧H b=some (.lst zs)∧xs.length+zs.length≤sizeLine∧∀p,H p=none→Q (.ref p) (upd H p (.lst (xs++zs)))
def Xz:Cm X (binaryOp .Add) kD:=by
 intro pins s σ H x y v u Q I rx ry h;obtain⟨l,b,xs,zs,rfl,rfl,hH,hB,hz,q⟩:=h;cases rx;cases ry;obtain⟨z,its,n,r,hl,e⟩:=I.P7 hH;obtain⟨z2,its2,n2,r2,hl2,e2⟩:=I.P7 hB;refine PySem.P.add_list e e2 ?_ (by rw [List.size_toArray,List.size_toArray];omega);have ea:its.toArray++its2.toArray=(its++its2).toArray:=by simp
 rw [ea];exact⟨.ref _,_,I.fm (t':=s.toks) (r.append r2) (by rw [List.length_append];omega),rfl,q _ I.fresh⟩
def kR:R2:=fun x y H Q=>∃l k xs,x=.ref l∧y=.int k∧H l=some (.lst xs)∧-(2^63)≤k∧k<2^63∧xs.length*k.toNat≤sizeLine ∧
 ∀p,H p=none→Q (.ref p) (upd H p (.lst (List.replicate k.toNat xs).flatten))
def len_rep{α:Type}(xs:List α)(k:Nat):(List.replicate k xs).flatten.length=k*xs.length:=by
 induction k with
 |zero=>simp
 |succ k ih=>rw [List.replicate_succ,List.flatten_cons,List.length_append,ih,Nat.succ_mul,Nat.add_comm]
def Wm:Cm X (binaryOp .Mult) kR:=by
 intro pins s σ H x y v u Q I rx ry h;obtain⟨l,k,xs,rfl,rfl,hH,h1,h2,hz,q⟩:=h;cases rx;obtain⟨t,rfl⟩:=ry;obtain⟨z,its,n,r,hl,e⟩:=I.P7 hH;have hlen:its.toArray.size*k.toNat≤sizeLine:=by rw [List.size_toArray,←hl];exact hz
 have hcap:¬its.toArray.size*k.toNat > (2^63-1) / 8:=by
  have:(sizeLine:Nat)≤(2^63-1) / 8:=by decide
  omega
 have hfit:¬(!Builtin.List.listFitsIndex k)=true:=by
  rw [fitsIndex_both h1 h2];exact aL
 have hlong:¬Builtin.List.listTooLong (its.toArray.size*k.toNat)=true:=by
  rw [Rf hlen];exact aL
 have hnew:List.foldl (fun x1 x2=>x1++x2) #[] (List.replicate (if its.toArray.isEmpty=true then 0 else k.toNat) its.toArray)=(List.replicate k.toNat its).flatten.toArray:=by
  have f0:∀m:Nat,List.foldl (fun x1 x2=>x1++x2) #[] (List.replicate m its.toArray)=(List.replicate m its).flatten.toArray:=fun m=>by
   have:=foldl_rep its m [];rw [List.nil_append]at this;exact this
  rw [f0];cases its with
  |nil=>simp
  |cons a r'=>rw [if_neg (by simp)]
 refine wpAny_binaryOp_repeat_ref (T := "list") (U := "int") (by decide) ⟨_,e,rfl⟩ (fun s'=>typeIs_int s' k t) noFill_list_mul F.fills_int_mul F.slot_int_rmul repeat_list F.slot_int_index.lookup
  (call_meets F.slot_int_rmul (typeIs_int s k t) F.entry_int_rmul (F.args_int_rmul_2 _ _) (int___rmul___int_list k t l its.toArray n)
   ⟨e,rfl,⟨_,e,rfl⟩,call_meets F.slot_list_mul ⟨_,e,rfl⟩ F.entry_list_mul (F.args_list_mul_2 _ _) (AutoListH.list___mul___list_int_3 l its.toArray n k t hfit hcap hlong) ⟨e,?_⟩⟩)
 rw [hnew];exact⟨.ref _,_,I.fm (t':=s.toks) (r.rep k.toNat) (by rw [len_rep,Nat.mul_comm];exact hz),rfl,q _ I.fresh⟩
end
end L2
namespace Att
open PySem PySem.W PySem.Calls PyProof.Rows
def Ol{P:Params}{h:Heap}:∀(ns:List Int) (vs:List VL),WellAll P h vs (ns.map WData.int)→IntsAre vs ns:=by
 intro ns
 induction ns with
 |nil =>
  intro vs w;rw [List.map_nil]at w;cases w;exact .nil
 |cons n ns ih =>
  intro vs w;rw [List.map_cons]at w;cases w with
  |cons a b =>
   cases a;exact .cons _ _ (ih _ b)
def Xw{l:OpenLaw}{n:Nat}(hn:l.most=some n){P:Params}{h:Heap}{args:List WData}{vals:List VL}
 (hpre:l.row.toRowW.claim.pre args=true)(hwl:WellAll P h vals args) :
  ∃a vs ns,vals=[Value.ref a]∧args=[WData.list (ns.map WData.int)]∧h.get? a=some { cls:=.type "list",data:=.seq vs.toArray }∧IntsAre vs ns∧ns.length≤n:=by
 have hsh:WShape.hasAll [] args [.list .int]=true:=(pre_splitW hpre).1;have hc:l.pre.holds [] { args:=args }=true:=(pre_splitW hpre).2;obtain⟨d,r,rfl,h1,h2⟩:=hasAllW_cons hsh;obtain rfl:=hasAllW_nil h2;obtain⟨xs,rfl,h3⟩:=hasW_list h1;obtain⟨ns,rfl⟩:=items_int h3;have hlen:ns.length≤n:=by
  unfold OpenLaw.pre at hc;have h4:(WTm.not (.lt (.lit (.int (n:Int))) (.len (.arg 0)))).holds [] { args:=[.list (ns.map .int)] }=true:=by
   have h4:=(holds_andW hc).1;rw [hn]at h4;exact h4
  have h5:=condW_of h4 (w_not (w_lt w_lit (w_len_list (w_arg rfl))));rw [List.length_map]at h5;refine Nat.le_of_not_lt fun q=>?_;have q':(n:Int)<((ns.length:Nat):Int):=by omega
  first
   |(rw [decide_eq_true q']at h5;exact absurd h5 (by decide))
   |(simp at h5;omega)
 cases hwl with
 |cons w1 w2 =>
  cases w2;cases w1 with
  |list ho hall=>exact⟨_,_,ns,rfl,rfl,ho,Ol ns _ hall,hlen⟩
def X3(l:OpenLaw)(args:List WData):l.row.toRowW.claim.post args (.bool true) args=true :=
 postW_of (r:=l.row.toRowW) (X:=(true==true))
  (show WShape.has [] (.bool true) .bool=true by first|rfl|decide|simp [WShape.has,WShape.arms,WShape.armsAll])
  (show(WTm.eq .res (.lit (.bool true))).value [] { args:=args,res:=some (.bool true),after:=args }=some (.bool (true==true)) from w_eq_bool (w_res rfl) w_lit) rfl
def Tz{l:OpenLaw}{n:Nat}{q:Program}{loose:List Str}{XP:(Str→Option VL)→Heap→Prop}{YP:World→Heap→Prop}{d:DefRec}
 (hn:l.most=some n)(hdf:d.params.defaults=[])
 (call:∀(w:World) (s₀ s₁:SD) (mg mb:Str→Option VL) (fa:AD) (o:Obj) (pm cd doc:VL) (a:AD) (vs:List VL) (ns:List Int),
   Ground q loose [] XP w s₀ mg mb s₁.heap→YP w s₁.heap →
   s₁.heap.get? fa=some o→o.data=.func (docDef d.name d.params d.body d.scope pm cd doc)→s₁.heap.CodeRec cd d.name→mg d.name=some (.ref fa) →
   s₁.heap.get? a=some { cls:=.type "list",data:=.seq vs.toArray }→IntsAre vs ns→ns.length≤n→s₁.gens=#[] →
   codeAny (model l.prog w) callerA (.call (.ref fa) ⟨[.ref a],[]⟩) (fun r s'=>r=.ok (.ret (.bool true))∧OldK s₁.heap s'.heap∧s'.os=s₁.os∧AllBare s'.gens) s₁) :
  WalkO q loose XP YP l.row.toRowW d [] (fun f vs=>PySem.call f vs):=by
 intro w s₀ s₁ mg mb G Y fa o pm cd doc dV kV ho hd hcd hD hmg hg args vals as hpre hlay hrd hwl hlo;obtain rfl:dV=.none:=Dflts.none hD hdf;obtain rfl:kV=.none:=Dflts.noKw hD;obtain⟨a,vs,ns,rfl,rfl,hobj,hints,hlen⟩:=Xw hn hpre hwl;refine enter_call (codeAny_mono (call w s₀ s₁ mg mb fa o pm cd doc a vs ns G Y ho (fd_plain hd) hcd hmg hobj hints hlen hg) fun r s' hq=>?_);obtain⟨rfl,h2,h3,h4⟩:=hq;exact⟨.inl ⟨.bool true,.bool true,[],rfl,fun _=>rfl,.bool true,X3 l _,fun _=>⟨List.Pairwise.nil,fun _ hm=>(nomatch hm)⟩⟩,h2,h3,h4⟩
end Att
namespace L2
open PySem PySem.Spec PyProof.Rows
def Q2:∀ {vs:List VL} {ns:List Int},IntsAre vs ns→Vals (ns.map V.int) vs
 |_,_,.nil=>.nil
 |_,_,.cons n t h=>.cons ⟨t,rfl⟩ (Q2 h)
def YF(H:Hp):Prop:=∀b,H b=none∨∃o xs,H b=some (.Fu o (.lst xs))
def Yj{P:Program}{w:World}{K:Fg}{mg mb:Str→Option VL}{CX:HW}{k:Nat}{fa a:AD}{fd:FuncData}{x:Str}{sp:Sp}{s₁:SD}{vs:List VL}{ns:List Int}
 (KX:K.In s₁.heap)(hns:s₁.heap.Ns mainGlobals mg)(hb:s₁.heap.Ns builtinsNs mb)(hbb:∀x:Str,x ≠ "__name__" → mb x=bootBuiltins x)(hlim:s₁.heap.NoLimit)(hg:s₁.gens=#[])
 (ha:s₁.heap.get? a=some { cls:=.type "list",data:=.seq vs.toArray })(hi:IntsAre vs ns)(hl:ns.length≤sizeLine)(hr:Dl k callerA)
 (F:∀base:Heap,K.In base→base.Ns mainGlobals mg→AM P w K mg base CX k fa fd [x] sp)(hbind:∀(s:SD) (u:VL),BindsTo s fd ⟨[u],[]⟩ [(x,u)])
 (hsp:∀H:Hp,YF H→Al K H a (ns.map V.int)→sp [.ref a] H (fun v _=>v=.bl true) fun _ _ _=>False)
 (hCX:∀H e s',CX [] H s₁ (fun _ _ _=>False) e s'→False) :
  codeAny (model P w) callerA (.call (.ref fa) ⟨[.ref a],[]⟩) (fun r s'=>r=.ok (.ret (.bool true))∧OldK s₁.heap s'.heap∧s'.os=s₁.os∧AllBare s'.gens) s₁:=by
 have rv:=Q2 hi;have lenV:=hi.length;have core:∀H:Hp,YF H→Al K H a (ns.map V.int)→Ek P w H s₁.heap→(∀b,H b≠none→b=a)→(H a≠none→K.lookup a=none) →
   codeAny (model P w) callerA (.call (.ref fa) ⟨[.ref a],[]⟩) (fun r s'=>r=.ok (.ret (.bool true))∧OldK s₁.heap s'.heap∧s'.os=s₁.os∧AllBare s'.gens) s₁:=by
  intro H hO hS A0 hA hK;have base_of:∀ {b:AD} {o:Obj},s₁.heap.get? b=some o→H b=none→(Kx s₁.heap H).get? b=some o:=fun e n=>Ys e n;have noA:∀ {b:AD} {o:Obj} {es:Array DictEntry} {ep:Nat},s₁.heap.get? b=some o→o.data=.dict es ep→H b=none:=fun {b o es ep} e d=>by
   cases q:H b with
   |none=>rfl
   |some u =>
    have e':b=a:=hA b (by rw [q];simp);subst e';rw [ha]at e;cases e;have d':Data.seq vs.toArray _=Data.dict es ep:=d;cases d'
  have nsK:∀ {b:AD} {m:Str→Option VL},s₁.heap.Ns b m→(Kx s₁.heap H).Ns b m:=fun {b m} ⟨o,es,ep,e,d,r⟩=>⟨o,es,ep,base_of e (noA e d),d,r⟩;have hKb:K.In (Kx s₁.heap H):=fun b o e=>base_of (KX b o e) (by
   cases q:H b with
   |none=>rfl
   |some u =>
    have e':b=a:=hA b (by rw [q];simp);subst e';rw [hK (by rw [q];simp)]at e;cases e)
  have hM:Mod K mg (Kx s₁.heap H):=⟨hKb,nsK hns,⟨mb,nsK hb,hbb⟩,let⟨mc,h1,h2⟩:=hlim;⟨mc,nsK h1,h2⟩⟩;have e0:VV P w K mg (Kx s₁.heap H) callerA [] s₁ H:=⟨rfl,hM,fun b o e=>dh e,Nat.le_of_eq (W6 _ _),trivial,fun b hb=>absurd (show b∈([]:List AD) from hb) (by simp),A0,.of_eq hg⟩;refine codeAny_mono ((F _ hKb (nsK hns)).run callerA [] s₁ H ⟨[.ref a],[]⟩ [.ref a] [.ref a] _ _ hr e0 (hbind s₁ (.ref a)) (.cons rfl .nil) (hsp H hO hS)) fun r s' h=>?_;cases r with
  |error e=>exact(hCX H e s' h).elim
  |ok fl =>
   cases fl with
   |next=>exact False.elim h
   |brk=>exact False.elim h
   |cont=>exact False.elim h
   |ret u =>
    obtain⟨v,H',os,bare,un,hok',r',q⟩:=h;have q':v=.bl true:=q;subst q';obtain rfl:u=Value.bool true:=r';refine⟨rfl,OldK.of_keep fun b o e=>?_,os,bare⟩;cases q:H b with
    |none=>exact un.keep b o e q (by intro z;exact absurd (show b∈([]:List AD) from z) (by simp)) (by simp)
    |some u =>
     rcases hO b with z|⟨ob,xs,z⟩
     ·rw [q]at z;cases z
     ·have z2:=un.Js b ob _ z;obtain⟨e1,_⟩:=A0 b _ z;obtain⟨e2,_⟩:=hok' b _ z2;rw [e]at e1;cases e1;exact e2
 cases hk:K.lookup a with
 |some o =>
  have e:=KX a o hk;rw [ha]at e;cases e;refine core (fun _=>none) (fun _=>.inl rfl) (.inr ⟨_,vs.toArray,_,hk,rfl,rfl,rfl,by rw [List.size_toArray,lenV];exact hl,by simpa using rv⟩) (fun b u z=>by have z':(none:Option HO)=some u:=z;cases z') (fun b z=>absurd rfl z) fun z=>absurd rfl z
 |none =>
  refine core (fun b=>if b=a then some (.Fu { cls:=.type "list",data:=.seq vs.toArray } (.lst (ns.map V.int))) else none) (fun b=>?_) (.inl (.inr ⟨{ cls:=.type "list",data:=.seq vs.toArray },if_pos rfl⟩)) (fun b u z=>?_) (fun b z=>?_) fun _=>hk
  ·by_cases hb:b=a
   ·exact .inr ⟨_,_,if_pos hb⟩
   ·exact .inl (if_neg hb)
  ·by_cases hb:b=a
   ·have z':=(if_pos hb).symm.trans z;cases z';subst hb;exact⟨ha,by rw [List.length_map];exact hl,vs,_,rv,ha⟩
   ·have z':=(if_neg hb).symm.trans z;cases z'
  ·by_cases hb:b=a
   ·exact hb
   ·exact absurd (if_neg hb) z
def dP{l:PySem.W.OpenLaw}{n k:Nat}{q:Program}{loose:List Str}{XP:(Str→Option VL)→Heap→Prop}{YP:World→Heap→Prop}{d:DefRec}{K:Params→Fg}{CX:World→HW}{sp:World→Sp}{x:Str}
 (hn:l.most=some n)(hn2:n≤sizeLine)(hdf:d.params.defaults=[])(hr:Dl k callerA)
 (hY:∀(w:World) (h:Heap),YP w h→(K w.params).In h)
 (F:∀(w:World) (mg:Str→Option VL) (fa:AD) (h:Heap),(K w.params).In h→h.Ns mainGlobals mg→mg d.name=some (.ref fa) →
   ∃fd:FuncData,(∀(s:SD) (u:VL),BindsTo s fd ⟨[u],[]⟩ [(x,u)]) ∧
    ∀base:Heap,(K w.params).In base→base.Ns mainGlobals mg→AM l.prog w (K w.params) mg base (CX w) k fa fd [x] (sp w))
 (hsp:∀(w:World) (H:Hp) (a:AD) (ns:List Int),ns.length≤n→YF H→Al (K w.params) H a (ns.map V.int)→sp w [.ref a] H (fun v _=>v=.bl true) fun _ _ _=>False)
 (hCX:∀(w:World) (H:Hp) (s:SD) (e:VL) (s':SD),CX w [] H s (fun _ _ _=>False) e s'→False) :
  PySem.W.WalkO q loose XP YP l.row.toRowW d [] (fun f vs=>PySem.call f vs):=by
 refine Att.Tz hn hdf fun w s₀ s₁ mg mb fa o pm cd doc a vs ns G Y ho hd hcd hmg hobj hints hlen hg=>?_;have KX:=hY w _ Y;obtain⟨fd,hb,hF⟩:=F w mg fa _ KX G.T.g hmg;exact Yj KX G.T.g G.T.b G.T.builtins G.T.nolimit hg hobj hints (aO hlen hn2) hr hF hb (fun H hO hS=>hsp w H a ns hlen hO hS) fun H e s'=>hCX w H s₁ e s'
def Fi(s:Stmt):Arguments:=match s with
 |.FunctionDef _ a _ _ _ _ _ _ _ _=>a
 |_=>{ posonlyargs:=[],args:=[],vararg:=none,kwonlyargs:=[],kw_defaults:=[],kwarg:=none,defaults:=[] }
def EJ(s:Stmt):List Stmt:=match s with
 |.FunctionDef _ _ b _ _ _ _ _ _ _=>b
 |_=>[]
def AQ(s:Stmt):Scope:=match s with
 |.FunctionDef _ _ _ _ _ _ sc _ _ _=>sc
 |_=>{ kind:=.function,names:=[],isGenerator:=false,isCoroutine:=false }
abbrev Ab:HW:=fun _ _ _ _ _ _=>False
abbrev E0:XK:=fun _ _ _=>False
def Zs{X:Cx}:Passes Ab X E0:=fun _ _ _ _ _ _ _ h=>h.elim
structure U7(K:Fg)(x qual:Str)(st:Stmt)(f:Addr)(fd:FuncData):Prop where
 ex:∃(oc:Value) (od:Option Addr) (kV doc pm:Value) (an:Option Addr) (cdv ct:Value) (osl:Array (Option Value)),
  fd=PySem.W.fnOf x qual (Fi st) (EJ st) (AQ st) .none kV doc pm an cdv ct∧K.lookup f=some ⟨oc,od,.func fd,osl⟩∧PySem.W.codeIn K cdv qual=true
 kp:PySem.W.keepIn K (.ref f)=true
section
variable{P:Program}{w:World}{K:Fg}{mg:Str→Option VL}{base:Heap}
def U7.ok{x qual:Str}{st:Stmt}{f:AD}{fd:FuncData}{N ps:List Str}{k:Nat}{sp:Sp}(F:U7 K x qual st f fd)(S:Ac N ps (AQ st))(len:∀vs H Q E,sp vs H Q E→vs.length=ps.length)
 (hbody:∀(cdv:VL) (A:Around) (outer:List Env) (s:SD) (H:Hp) (vs:List V) (Q:VK) (E:XK),Dl k (A.deeper (envOfC qual (AQ st) s.heap.objs.size f cdv))→sp vs H Q E →
   ∃t,JR (OC Ab P w K mg base N qual (AQ st) f cdv A outer s H E).Wf (EJ st) t∧t { nx:=fun _ H'=>Q .Bb H',rt:=Q } (start N vs) H):AM P w K mg base Ab (k+1) f fd ps sp:=by
 obtain⟨oc,od,kV,doc,pm,an,cdv,ct,osl,rfl,lk,hcd⟩:=F.ex;refine ic lk hcd S len fun A outer s H vs Q E hr hsp=>?_;obtain⟨t,h,q⟩:=hbody cdv A outer s H vs Q E hr hsp;exact⟨t,h.Wf,q⟩
def U7.binds{x qual:Str}{st:Stmt}{f:AD}{fd:FuncData}{ps:List Str}(F:U7 K x qual st f fd)
 (h:∀(kV doc pm:VL) (an:Option AD) (cdv ct:VL) (us:List VL),us.length=ps.length→bindArgs (PySem.W.fnOf x qual (Fi st) (EJ st) (AQ st) .none kV doc pm an cdv ct) ⟨us,[]⟩=pure (ps.zip us)):Binds K fd ps []:=by
 obtain⟨oc,od,kV,doc,pm,an,cdv,ct,osl,rfl,lk,hcd⟩:=F.ex;exact .all (h kV doc pm an cdv ct)
def XU{x qual:Str}{st:Stmt}{f:AD}{oc:VL}{od an:Option AD}{osl:Array (Option VL)}{kV doc pm cdv ct:VL}(l:K.lookup f=some ⟨oc,od,.func (PySem.W.fnOf x qual (Fi st) (EJ st) (AQ st) .none kV doc pm an cdv ct),osl⟩)
 (c:PySem.W.codeIn K cdv qual=true)(k:PySem.W.keepIn K (.ref f)=true):U7 K x qual st f (PySem.W.fnOf x qual (Fi st) (EJ st) (AQ st) .none kV doc pm an cdv ct):=⟨⟨oc,od,kV,doc,pm,an,cdv,ct,osl,rfl,l,c⟩,k⟩
end
def QJ{n:Nat}(h:n≤1000):n<sizeLine:=ae h (by decide)
section
variable{X:Cx}
def pv(i:Nat){x:Str}{pos:Pos}(hN:X.N[i]? = some x:=by rfl)(hv:gY X.env.scope x:=by first|exact Or.inl rfl|exact Or.inr (Or.inl rfl)|exact Or.inr (Or.inr rfl))(hd:(x==("__debug__" : Str))=false:=by decide)
 (hcd:(x==("__classdict__" : Str))=false:=by decide):PE X (.Name x pos) (N6 i):=fX hN hv hd hcd
end
def Sl{A B:Prop}(h:B):if false=true then A else B:=by
 rw [if_neg aL];exact h
def Ew{A B:Prop}(h:A):if true=true then A else B:=by
 rw [if_pos rfl];exact h
def DP{c A B:Prop}[Decidable c](h1:c→A)(h2:¬c→B):if c then A else B:=by
 by_cases h:c
 ·rw [if_pos h];exact h1 h
 ·rw [if_neg h];exact h2 h
def AK(H H':Hp):Prop:=∀b o,H b=some o→H' b=some o
def AK.refl(H:Hp):AK H H:=fun _ _ h=>h
def AK.trans{H H1 H2:Hp}(a:AK H H1)(b:AK H1 H2):AK H H2:=fun c o h=>b c o (a c o h)
section
variable{X:Cx}
def Og(i j:Int):Prop:=∃m:Nat,m≤1000000∧i.natAbs<2^m∧j.natAbs<2^m
def Og.ok{i j:Int}(h:Og i j):IntMulOk i j:=by
 obtain⟨m,hm,h1,h2⟩:=h;exact IntMulOk.of_le (intBits_le_iff.mpr h1) (intBits_le_iff.mpr h2) (by omega)
def HJ:Cm X (binaryOp .Mult) (rI (fun i j=>S4 i j∨Og i j) fun i j=>.int (i*j)) :=
 UU fun _ _ _ _ _ _ _ hc q=>mul_int q (hc.elim (fun z=>z.ok) fun z=>z.ok)
def iW(_i j:Int):Prop:=j≠0∧∃m:Nat,m≤9000∧j.natAbs<2^m
def F8:Cm X (binaryOp .FloorDiv) (rI iW fun i j=>.int (i.fdiv j)):=UU fun i j _ _ _ _ _ hc q=>by
 obtain⟨h0,m,hm,h1⟩:=hc;refine floordiv_int h0 q (.inl (PyProof.noPylong_of_log2 ?_));have hne:j.natAbs≠0:=by omega
 have:j.natAbs.log2<m:=(Nat.log2_lt hne).mpr h1;omega
mutual
def Br(K:Fg)(H:Hp):PD→V→Prop
 |.none,v=>v=.Bb
 |.bool b,v=>v=.bl b
 |.int i,v=>v=.int i
 |.str x,v=>v=.str x
 |.tuple ds,v=>∃a xs,v=.ref a∧A7 K H a xs∧FU K H ds xs
 |.list ds,v=>∃a xs,v=.ref a∧Al K H a xs∧FU K H ds xs
 |.dict _,_=>False
def FU(K:Fg)(H:Hp):List PD→List V→Prop
 |[],xs=>xs=[]
 |d::ds,xs=>∃x r,xs=x::r∧Br K H d x∧FU K H ds r
end
def AK.tup{K:Fg}{H H':Hp}{a:AD}{xs:List V}(e:AK H H')(h:A7 K H a xs):A7 K H' a xs:=by
 rcases h with (h|⟨o,h⟩)|h
 ·exact .inl (.inl (e _ _ h))
 ·exact .inl (.inr ⟨o,e _ _ h⟩)
 ·exact .inr h
mutual
def Br.reads{pins:List (AD×Obj)}{σ:St}{H:Hp}{s:SD}(I:Inv X pins σ H s):∀ {d:PD} {v:V} {u:VL},Br X.K H d v→RelV v u→∃as,Reads s.heap u d as
 |.none,_,u,h,r=>by rw [Br]at h;subst h;cases r;exact⟨_,.none⟩
 |.bool b,_,u,h,r=>by rw [Br]at h;subst h;cases r;exact⟨_,.bool b⟩
 |.int i,_,u,h,r=>by rw [Br]at h;subst h;obtain⟨t,rfl⟩:=r;exact⟨_,.int i t⟩
 |.str x,_,u,h,r=>by rw [Br]at h;subst h;obtain⟨t,rfl⟩:=r;exact⟨_,.str x t⟩
 |.tuple ds,_,u,h,r=>by
  rw [Br]at h;obtain⟨a,xs,e1,h1,h2⟩:=h;subst e1;cases r;obtain⟨its,rv,⟨o,e,c,n,hd⟩,_⟩:=I.tuple h1;obtain⟨as,ra⟩:=FU.reads I h2 rv;exact⟨_,.tuple e c hd (by simpa using ra)⟩
 |.list ds,_,u,h,r=>by
  rw [Br]at h;obtain⟨a,xs,e1,h1,h2⟩:=h;subst e1;cases r;obtain⟨its,rv,⟨o,n,e,c,_,hd⟩,_⟩:=I.list h1;obtain⟨as,ra⟩:=FU.reads I h2 rv;exact⟨_,.list e c hd (by simpa using ra)⟩
 |.dict _,_,_,h,_=>by rw [Br]at h;exact h.elim
def FU.reads{pins:List (AD×Obj)}{σ:St}{H:Hp}{s:SD}(I:Inv X pins σ H s):∀ {ds:List PD} {xs:List V} {us:List VL},FU X.K H ds xs→Vals xs us→∃as,ReadsAll s.heap us ds as
 |[],_,us,h,r=>by rw [FU]at h;subst h;cases r;exact⟨_,.nil⟩
 |_::_,_,us,h,r=>by
  rw [FU]at h;obtain⟨x,q,e1,h1,h2⟩:=h;subst e1;cases r with
  |cons r1 r2 =>
   obtain⟨as,ra⟩:=Br.reads I h1 r1;obtain⟨bs,rb⟩:=FU.reads I h2 r2;exact⟨_,.cons ra rb⟩
end
def ZJ(K:Fg)(neg:Bool):R2:=fun x y H Q=>∃d e,Br K H d x∧Br K H e y∧SeqAt.shaped d=true∧SeqAt.shaped e=true∧Q (.bl (if neg then !PyData.eqv d e else PyData.eqv d e)) H
def iG(hu:X.A.units+64<cLine):Cm X (compareOp .Eq) (ZJ X.K false):=by
 intro pins s σ H x y v u Q I rx ry h;obtain⟨d,e,h1,h2,s1,s2,q⟩:=h;obtain⟨as,ra⟩:=Br.reads I h1 rx;obtain⟨bs,rb⟩:=Br.reads I h2 ry;exact eq_dataH ra rb s1 s2 hu ⟨.bl _,H,I,rfl,q⟩
def iJ(hu:X.A.units+64<cLine):Cm X (compareOp .NotEq) (ZJ X.K true):=by
 intro pins s σ H x y v u Q I rx ry h;obtain⟨d,e,h1,h2,s1,s2,q⟩:=h;obtain⟨as,ra⟩:=Br.reads I h1 rx;obtain⟨bs,rb⟩:=Br.reads I h2 ry;exact ne_dataH ra rb s1 s2 hu ⟨.bl _,H,I,rfl,q⟩
end
end L2
set_option maxHeartbeats 4000000
namespace L2
open PySem PySem.Spec PyProof.Rows
def MB(X:Cx)(ifs:List Expr)(t:TT):Prop :=
 ∀(pins:List (AD×Obj)) (s:SD) (σ:St) (H:Hp) (Q:Bool→Hp→Prop),Inv X pins σ H s→t σ H Q →
  wpAny (model X.prog X.w) X.A (forIn ifs true fun c r=>if r=true then do let ok ←isTrue c X.env (eval c X.env);pure (ForInStep.yield ok) else pure (ForInStep.yield r)) (TP X pins σ Q) X.xe s
def IY:TT:=fun _ H Q=>Q true H
def FV{X:Cx}:MB X [] IY:=fun _ _ σ H _ I h=>wpAny_tests_nil ⟨H,I,h⟩
def Fq(N XN:List Str)(sc xsc:Scope):List (Option Nat)→Nat→Bool
 |[],_=>true
 |none::r,i=>Fq N XN sc xsc r (i+1)
 |some j::r,i=>(match N[i]?,XN[j]? with
   |some n,some m=>n==m&&sc.names.lookup n==some .free&&xsc.names.lookup n==some .cell
   |_,_=>false)&&Fq N XN sc xsc r (i+1)
def Nk{N XN:List Str}{sc xsc:Scope}:∀ {fr:List (Option Nat)} {k:Nat},Fq N XN sc xsc fr k=true→∀ {i j:Nat},fr[i]? = some (some j) →
  ∃n,N[k+i]? = some n∧XN[j]? = some n∧sc.names.lookup n=some .free∧xsc.names.lookup n=some .cell
 |[],_,_,i,j,e=>by simp at e
 |none::r,k,h,0,j,e=>by simp at e
 |none::r,k,h,i+1,j,e=>by
  have q:=Nk (fr:=r) (k:=k+1) h (i:=i) (j:=j) (by simpa using e);have z:k+(i+1)=k+1+i:=by omega
  rw [z];exact q
 |some j'::r,k,h,0,j,e=>by
  have e':j'=j:=by simpa using e
  subst e';rw [Fq,Bool.and_eq_true]at h;have h1:=h.1;split at h1
  ·rename_i n m hn hm;simp only [Bool.and_eq_true,beq_iff_eq]at h1;obtain⟨⟨rfl,h2⟩,h3⟩:=h1;exact⟨n,by simpa using hn,hm,h2,h3⟩
  ·cases h1
 |some j'::r,k,h,i+1,j,e=>by
  rw [Fq,Bool.and_eq_true]at h;have q:=Nk (fr:=r) (k:=k+1) h.2 (i:=i) (j:=j) (by simpa using e);have z:k+(i+1)=k+1+i:=by omega
  rw [z];exact q
def carry(fr:List (Option Nat))(σ:St):St:=fr.map fun o=>match o with
 |some j=>(σ[j]?).join
 |none=>none
def Xg{fr:List (Option Nat)}{σ:St}{i:Nat}{v:V}(h:(carry fr σ)[i]? = some (some v)):∃j,fr[i]? = some (some j)∧σ[j]? = some (some v):=by
 unfold carry at h;rw [List.getElem?_map]at h;cases e:fr[i]? with
 |none=>rw [e]at h;cases h
 |some o =>
  rw [e]at h;cases o with
  |none=>simp at h
  |some j =>
   refine⟨j,rfl,?_⟩;simp only [Option.map_some,Option.some.injEq]at h;cases q:σ[j]? with
   |none=>rw [q]at h;cases h
   |some w=>rw [q]at h;simp at h;rw [h]
def GL{env:Env}:∀(names:List (Str×NameKind)) (cs:List (Str×AD)),(∀x∈names,x.2=NameKind.free→∃c,env.cells.lookup x.1=some c)→(∀x c,cs.lookup x=some c→env.cells.lookup x=some c) →
  ∃cl,(forIn names cs (fun(x:Str×NameKind) (r:List (Str×AD))=>do if(x.2==NameKind.free)=true then do let a ←cellOf env x.1;pure (ForInStep.yield ((x.1,a)::r)) else pure (ForInStep.yield r)):Sem (List (Str×AD)))=pure cl ∧
   (∀x c,cl.lookup x=some c→env.cells.lookup x=some c)∧(∀x,(∃c,cs.lookup x=some c)→∃c,cl.lookup x=some c)∧∀x∈names,x.2=NameKind.free→∃c,cl.lookup x.1=some c
 |[],cs,_,h2=>⟨cs,rfl,h2,fun _ q=>q,fun _ z=>(by cases z)⟩
 |(n,k)::r,cs,h1,h2=>by
  rw [List.forIn_cons];by_cases hk:(k==NameKind.free)=true
  ·obtain⟨c,hc⟩:=h1 (n,k) aR (by simpa using hk);have h2':∀x c',((n,c)::cs).lookup x=some c'→env.cells.lookup x=some c':=fun x c' e=>by
    rw [List.lookup_cons]at e;cases hx:x==n with
    |true=>rw [hx]at e;have:=beq_iff_eq.mp hx;subst this;simp at e;rw [←e];exact hc
    |false=>rw [hx]at e;exact h2 x c' e
   obtain⟨cl,q1,q2,q3,q4⟩:=GL r ((n,c)::cs) (fun x hx=>h1 x (aP _ hx)) h2';have hn:∃c',cl.lookup n=some c':=q3 n ⟨c,by rw [List.lookup_cons,beq_self_eq_true]⟩;refine⟨cl,?_,q2,fun x hx=>?_,fun x hx hf=>?_⟩
   ·simp only [hk,if_true];unfold cellOf;rw [hc];exact q1
   ·refine q3 x ?_;rw [List.lookup_cons];cases hxn:x==n with
    |true=>exact⟨c,rfl⟩
    |false=>exact hx
   ·rcases aN.mp hx with e|hx
    ·subst e;exact hn
    ·exact q4 x hx hf
  ·obtain⟨cl,q1,q2,q3,q4⟩:=GL r cs (fun x hx=>h1 x (aP _ hx)) h2;refine⟨cl,?_,q2,q3,fun x hx hf=>?_⟩
   ·simp only [hk];exact q1
   ·rcases aN.mp hx with e|hx
    ·subst e;exact absurd (by simpa using hf) hk
    ·exact q4 x hx hf
def A8(X:Cx)(scope:Scope)(cl:List (Str×AD))(N:List Str)(C:AD)(s₀:SD)(H₀:Hp)(fp:List AD):Cx where
 prog:=X.prog
 w:=X.w
 K:=X.K
 mg:=X.mg
 base:=X.base
 A:=X.A
 N:=N
 s₀:=s₀
 H₀:=H₀
 env:=compEnvC scope cl C X.env
 outer:=X.stack
 stack:=X.stack
 ex:=fp
 fn:=fun _=>false
 calm:=X.calm
 pn:=[]
 xe:=fun _ _=>False
def MX(wi:TI)(fr:List (Option Nat))(ix:Nat)(tif:TT)(te:TE):TE:=fun σ H Q=>wi σ H fun J H1=>∀D,H1 D=none→∃W:Nat→Nat→List V→Hp→Prop,(∃m,W 0 m [] (upd H1 D (.lst []))) ∧
 ∀i m ys H,W i m ys H→H D=some (.lst ys)∧((J.stop i H∧Q (.ref D) H)∨(J.go i H∧ys.length<sizeLine∧∀x H',J.Eh i H x H' →
  tif ((carry fr σ).set ix (some x)) H' fun b H2=>if b=true then te ((carry fr σ).set ix (some x)) H2 fun y H3=>H3 D=some (.lst ys)∧∃m',m'<m∧W (i+1) m' (ys++[y]) (upd H3 D (.lst (ys++[y])))
   else ∃m',m'<m∧W (i+1) m' ys H2))
structure D6(scope:Scope)(N:List Str)(x:Str)(ix:Nat):Prop where
 kind:scope.kind=.function
 cell:∀y∈scope.names,y.2≠.cell
 names:∀y∈scope.names,y.2=.local→scope.names.lookup y.1=some .local
 free:∀y∈scope.names,y.2=.free→scope.names.lookup y.1=some .free
 loc:scope.names.lookup x=some .local
 nd:N.Nodup
 at_:N[ix]? = some x
def lookup_mem{names:List (Str×NameKind)}{n:Str}{k:NameKind}:names.lookup n=some k→(n,k)∈names:=by
 induction names with
 |nil=>intro h;cases h
 |cons y r ih =>
  intro h;obtain⟨m,j⟩:=y;rw [List.lookup_cons]at h;cases e:n==m with
  |true=>rw [e]at h;have:=beq_iff_eq.mp e;subst this;simp at h;subst h;exact aR
  |false=>rw [e]at h;exact aP _ (ih h)
def Ta{scope:Scope}{env:Env}(hc:∀y∈scope.names,y.2≠.cell){n:Str}(h:(relabel scope env).names.lookup n=some .cell∨(relabel scope env).names.lookup n=some .free):∃k,(n,k)∈scope.names∧k=NameKind.free:=by
 have key:∀k',(relabel scope env).names.lookup n=some k'→(k'=.cell∨k'=.free)→∃k,(n,k)∈scope.names∧k=NameKind.free:=fun k' h hk=>by
  have hm:=lookup_mem h;unfold relabel at hm;obtain⟨⟨m,k⟩,hy,e⟩:=aU.mp hm;dsimp only at e;by_cases hcond:(k==NameKind.free&&env.scope.kind==.function&&env.kindOf m==some .cell)=true
  ·rw [if_pos hcond]at e
   injection e with e1 e2
   subst e1;refine⟨k,hy,?_⟩;simp only [Bool.and_eq_true,beq_iff_eq]at hcond;exact hcond.1.1
  ·rw [if_neg hcond]at e
   injection e with e1 e2
   subst e1 e2;rcases hk with rfl|rfl
   ·exact absurd rfl (hc _ hy)
   ·exact⟨_,hy,rfl⟩
 rcases h with h|h
 ·exact key _ h (.inl rfl)
 ·exact key _ h (.inr rfl)
section
variable{X:Cx}{elt iter:Expr}{x:Str}{px pos:Pos}{ifs:List Expr}{scope:Scope}{wi:TI}{fr:List (Option Nat)}{ix:Nat}{tif:TT}{te:TE}{N:List Str}
def JP{prog:Program}{w:World}{A:Around}{R:Result→SD→Prop}{s:SD}{elt target iter:Expr}{ifs:List Expr}{scope:Scope}{pos:Pos}{it acc:VL}{env:Env}(I:Nat→SD→Prop)
 (turn:∀n s,I n s→wpAny (model prog w) A (pyNext it) (fun r s₁=>match r with
   |none=>R (.ok .next) s₁
   |some v=>wpAny (model prog w) A (letOwnedTupleGo target it v>>=fun _=>assign target env v) (fun _ s₂ =>
     wpAny (model prog w) A (forIn ifs true fun c r=>if r=true then do let ok ←isTrue c env (eval c env);pure (ForInStep.yield ok) else pure (ForInStep.yield r)) (fun ok s₃ =>
      if ok=true then wpAny (model prog w) A (eval elt env) (fun x s₄ =>
       wpAny (model prog w) A (call (.builtin "list.append") [acc,x]) (fun _ s₅=>∃m,m<n∧I m s₅) (notedBy (model prog w) A env fun e s'=>R (.error e) s') s₄) (notedBy (model prog w) A env fun e s'=>R (.error e) s') s₃
      else ∃m,m<n∧I m s₃) (notedBy (model prog w) A env fun e s'=>R (.error e) s') s₂) (notedBy (model prog w) A env fun e s'=>R (.error e) s') s₁) (notedBy (model prog w) A env fun e s'=>R (.error e) s') s)
 (n:Nat)(h:I n s) :
  codeAny (model prog w) A (.compLoop (.ListComp elt [⟨target,iter,ifs,0⟩] scope pos) 0 it acc env) R s:=by
 refine codeAny_loop rfl I (fun n s hI=>?_) n h;show wpAny _ A ((compTurn (.ListComp elt [⟨target,iter,ifs,0⟩] scope pos) 0 it acc env).onRaise (fun x=>do noteFrame x env;theTreesLotGoes x)) _ _ s;refine wpAny_noted ?_;rw [compTurn_list];refine Wb (wpAny_standAt (Wb (ak (turn n s hI) (fun r s₁ h₁=>?_) fun _ _ h'=>h')));cases r with
 |none=>exact aA h₁
 |some v =>
  show wpAny (model prog w) A (letOwnedTupleGo target it v>>=fun _=>assign target env v>>=_) _ _ s₁;rw [←bind_assoc];refine Wb (ak h₁ (fun _ s₂ h₂=>Wb (ak h₂ (fun ok s₃ h₃=>?_) fun _ _ h'=>h')) fun _ _ h'=>h');cases ok with
  |false=>exact aA ⟨rfl,h₃⟩
  |true =>
   exact Wb (Wb (ak h₃ (fun x s₄ h₄=>Wb (ak h₄ (fun _ s₅ h₅=>aA (aA ⟨rfl,h₅⟩)) fun _ _ h'=>h')) fun _ _ h'=>h'))
def Mz{pins:List (AD×Obj)}{σ:St}{H2:Hp}{s2:SD}{Q:VK}{it:AD}{fp:List AD}{tn:Nat→Heap→Prop}{J:It}{cl:List (Str×AD)}{E:VL→SD→Prop}{RR:VL→AD→Result→SD→Prop}
 (S:D6 scope N x ix)(hcalm:X.calm=true){tgE:Expr}{g:TG}(Rv:St→Prop)(r0:Rv (carry fr σ))(hpg:∀C,PG (A8 X scope cl N C s2 H2 fp) tgE g)(hfr:Fq N X.N scope X.env.scope fr 0=true)(hlen:fr.length=N.length)
 (hif:∀cl C s₀ H₀ fp,MB (A8 X scope cl N C s₀ H₀ fp) ifs tif)(he:∀cl C s₀ H₀ fp,PE (A8 X scope cl N C s₀ H₀ fp) elt te)
 (I2:Inv X pins σ H2 s2)(T:Turn X.prog X.w X.K tgE J fp it tn)(st2:tn 0 s2.heap)(f2:∀b∈fp,Jy X pins H2 b)
 (c1:∀x c,cl.lookup x=some c→X.env.cells.lookup x=some c)(c2:∀x∈scope.names,x.2=NameKind.free→∃c,cl.lookup x.1=some c)
 (W:∀D,H2 D=none→∃W:Nat→Nat→List V→Hp→Prop,(∃m,W 0 m [] (upd H2 D (.lst []))) ∧
   ∀i m ys H,W i m ys H→H D=some (.lst ys)∧((J.stop i H∧Q (.ref D) H)∨(J.go i H∧ys.length<sizeLine∧∀x H',J.Eh i H x H'→∀σ',Rv σ'→g x σ' H' fun σ6 H6=>Rv σ6 ∧
    tif σ6 H6 fun b H2=>if b=true then te σ6 H2 fun y H3=>H3 D=some (.lst ys)∧∃m',m'<m∧W (i+1) m' (ys++[y]) (upd H3 D (.lst (ys++[y])))
     else ∃m',m'<m∧W (i+1) m' ys H2)))
 (fin:∀(D C:AD) (s':SD) (H':Hp) m,s'.heap.Ns C m→Q (.ref D) H'→(∀h',Heap.SameBut C s'.heap h'→Inv X pins σ H' { s' with heap:=h' })→C≠D→(∀b o,s2.heap.get? b=some o→b≠C)→H' C=none→s2.heap.objs.size≤C→RR (.ref D) C (.ok .next) s') :
  wpAny (model X.prog X.w) X.A (newList []) (fun acc s₃=>wpAny (model X.prog X.w) X.A (newFunctionEnv scope X.env.globals cl [] X.env.qual none .none (some X.env)) (fun cenv s₄ =>
   codeAny (model X.prog X.w) X.A (.compStart (.ListComp elt [⟨tgE,iter,ifs,0⟩] scope pos) 0 (.ref it) acc { cenv with scope:=relabel scope X.env }) (RR acc cenv.locals) s₄) E s₃) E s2:=by
 refine aq (wpAny_newFunctionEnv S.cell (by intro y hy;simp at hy) (fun h₁ hns₁ hsb₁=>?_) S.kind);dsimp only at hns₁ hsb₁ ⊢;generalize hHp:s2.heap.push { cls:=.type "list",dict:=none,data:=.seq ([]:List VL).toArray }=Hq at hns₁ hsb₁ ⊢;have hC:Hq.objs.size=s2.heap.objs.size+1:=by rw [←hHp,Heap.size_push]
 have hDC:s2.heap.objs.size≠Hq.objs.size:=by rw [hC];exact aJ (bW _)
 have below:∀b,b<s2.heap.objs.size→b≠Hq.objs.size∧b≠s2.heap.objs.size:=fun b hb=>⟨by rw [hC];exact aJ (az hb),Nat.ne_of_lt hb⟩;have old:∀b o,s2.heap.get? b=some o→h₁.get? b=some o:=fun b o e=>hsb₁.extBut b o (below b (aE e)).1 (aC _ (hHp ▸ aC _ e));have hacc:h₁.get? s2.heap.objs.size=some { cls:=.type "list",data:=.seq ([]:List VL).toArray }:=hsb₁.extBut _ _ hDC (aC _ (hHp ▸ aH _ rfl));have hD2:H2 s2.heap.objs.size=none:=I2.A0.fresh (aF _);have hC2:H2 Hq.objs.size=none:=I2.A0.fresh (by rw [hC];exact Nat.le_succ _);have fpo:∀b∈fp,b<s2.heap.objs.size:=fun b hb=>by
  obtain⟨o,e,_⟩:=T.obj _ _ st2 b hb;exact aE e
 obtain⟨W,⟨m0,w0⟩,turn⟩:=W s2.heap.objs.size hD2;have ok:(A8 X scope cl N Hq.objs.size s2 H2 fp).Ok:=by
  refine⟨I2.ok.mod,S.kind,I2.ok.glob,I2.ok.blt,by show s2.heap.objs.size≤Hq.objs.size;rw [hC];exact Nat.le_succ _,?_,?_,?_,fun _=>I2.ok.hd hcalm,I2.ok.frames,.inl rfl,?_,I2.bs,Nat.le_trans I2.ok.QZ I2.sz,?_,?_,I2.stack,I2.U8⟩
  ·exact fun a b c h1 h2=>I2.ok.inj a b c (c1 _ _ h1) (c1 _ _ h2)
  ·intro y hy;obtain⟨k,hm,rfl⟩:=Ta S.cell hy;exact c2 _ hm rfl
  ·intro y c hf;cases hf
  ·intro b hb;refine⟨(below b (fpo b hb)).1,fun y c e=>?_⟩;obtain⟨_,_,_,_,f5,_⟩:=f2 b hb;exact f5 y c (c1 _ _ e)
  ·intro b o e hb;obtain⟨_,_,_,f4,_,_⟩:=f2 b hb;rcases f4 with z|z
   ·exact I2.ok.Tj b o e z
   ·exact absurd (aK (aE e) (aO I2.ok.QZ z)) (Nat.lt_irrefl _)
  ·intro b hb hs;obtain⟨_,f1,f3,_⟩:=f2 b hb;rcases aN.mp (I2.TC b hs) with z|z
   ·exact f1 z
   ·exact f3 z
 have I4:Inv (A8 X scope cl N Hq.objs.size s2 H2 fp) [] (carry fr σ) (upd H2 s2.heap.objs.size (.lst [])) { s2 with heap:=h₁,toks:=s2.toks+([]:List (Str×VL)).length }:=by
  refine⟨ok,rfl,I2.bare,Un.laid old (aF _) hD2,⟨_,hns₁,fun i y v h1 h2 h3=>?_⟩,fun y c e=>?_,?_,fun y c e=>?_,fun p hp=>(by cases hp),I2.A0.laid old (aF _) ⟨bE _,[],0,.nil,hacc⟩,?_⟩
  ·obtain⟨j,e1,e2⟩:=Xg h2;obtain⟨n,n1,n2,n3,n4⟩:=Nk hfr e1;rw [Nat.zero_add]at n1;have:y=n:=by
    have h1':N[i]? = some y:=h1;rw [h1']at n1;exact ah n1
   subst this;obtain⟨m,hn,hl⟩:=I2.loc;obtain⟨u,ru,lk⟩:=hl j y v n2 e2 (.inr (.inl n4));refine⟨u,ru,?_⟩;obtain⟨c,hc⟩:=c2 _ (lookup_mem n3) rfl;rcases lk with ⟨k1,_⟩|⟨_,c',hc',hcell⟩
   ·have k1':X.env.scope.names.lookup y=some .local:=k1;rw [n4]at k1';cases k1'
   ·have:=c1 _ _ hc;rw [hc']at this;cases this;refine .inr ⟨?_,c,hc,hcell.keeps old⟩;rcases h3 with z|z|z
    ·obtain⟨k,hm⟩:∃k,(y,k)∈scope.names∧k=NameKind.local:=by
      have hm:=lookup_mem z;have hm':(y,NameKind.local)∈(relabel scope X.env).names:=hm;unfold relabel at hm';obtain⟨⟨m',k⟩,hy,e⟩:=aU.mp hm';dsimp only at e;by_cases hcond:(k==NameKind.free&&X.env.scope.kind==.function&&X.env.kindOf m'==some .cell)=true
      ·rw [if_pos hcond]at e;injection e with _ e2';cases e2'
      ·rw [if_neg hcond]at e;injection e with e1' e2';subst e1' e2';exact⟨_,hy,rfl⟩
     obtain⟨hm,rfl⟩:=hm;have:=S.names _ hm rfl;rw [n3]at this;cases this
    ·exact .inl z
    ·exact .inr z
  ·obtain⟨v,z⟩:=I2.cell y c (c1 _ _ e);exact⟨v,z.keeps old⟩
  ·show upd H2 s2.heap.objs.size _ Hq.objs.size=none;rw [AJ (Ne.symm hDC)];exact hC2
  ·obtain⟨v,o,ho,_⟩:=I2.cell y c (c1 _ _ e);rw [AJ (below c (aE ho)).2];exact I2.HN y c (c1 _ _ e)
  ·show(carry fr σ).length=N.length;unfold carry;rw [List.length_map];exact hlen
 have fpX:∀(p:List (AD×Obj)) (H':Hp),(∀q∈p,q.1∈fp→False)→(∀b∈fp,H' b=none)→∀b∈fp,Jy (A8 X scope cl N Hq.objs.size s2 H2 fp) p H' b:=fun p H' hp hn b hb=>by
  obtain⟨_,f1,f3,f4,f5,_⟩:=f2 b hb;refine⟨hn b hb,(below b (fpo b hb)).1,fun hs=>ok.RS b hb hs,.inl hb,fun y c e=>f5 y c (c1 _ _ e),fun q hq e=>?_⟩;exact hp q hq (e ▸ hb)
 have hxv:(relabel scope X.env).names.lookup x=some .local:=lookup_relabel_local S.loc;have loop:∀s₃:SD,s₃={ s2 with heap:=h₁,toks:=s2.toks+([]:List (Str×VL)).length } →
   codeAny (model X.prog X.w) X.A (.compLoop (.ListComp elt [⟨tgE,iter,ifs,0⟩] scope pos) 0 (.ref it) (.ref s2.heap.objs.size) (compEnvC scope cl Hq.objs.size X.env)) (RR (.ref s2.heap.objs.size) Hq.objs.size) s₃:=by
  rintro s₃ rfl;refine JP (fun n s'=>∃i ys σ' H',Inv (A8 X scope cl N Hq.objs.size s2 H2 fp) [] σ' H' s'∧Rv σ'∧tn i s'.heap∧(∀b∈fp,H' b=none)∧W i n ys H') ?_ m0
   ⟨0,[],carry fr σ,_,I4,r0,T.keep _ _ _ st2 fun b _ o e=>old b o e,fun b hb=>by rw [AJ (below b (fpo b hb)).2];exact(f2 b hb).1,w0⟩
  rintro n s3 ⟨i,ys,σ3,H3,I3,hσ,st3,fr3,w3⟩;obtain⟨hD3,way⟩:=turn i n ys H3 w3;rcases way with ⟨stop,qn⟩|⟨go,hsz,step⟩
  ·refine ak (T.done (A8 X scope cl N Hq.objs.size s2 H2 fp) rfl rfl rfl hcalm i [] s3 σ3 H3 (fun _ _=>False) I3 (fpX [] H3 (fun _ z=>by cases z) fr3) st3 stop) (fun r s4 ⟨hr,I5⟩=>?_) fun _ _ z=>z.elim;subst hr;obtain⟨m,hn,_⟩:=id I5.loc;refine fin _ _ s4 H3 m hn qn (fun h' hs'=>?_) (Ne.symm hDC) (fun b o e=>(below b (aE e)).1) I5.free (by rw [hC];exact Nat.le_succ _);have nC:∀b u,H3 b=some u→b≠Hq.objs.size:=fun b u e z=>by
    have:=I5.free;rw [show(A8 X scope cl N Hq.objs.size s2 H2 fp).env.locals=Hq.objs.size from rfl,←z,e]at this;cases this
   have keepU:Un (LR X.stack) fp H2 H3 s2.heap h':=by
    have u:=I5.base;refine⟨fun b o e n hb hx=>?_,fun b o e n hb hx=>?_,fun b o e n hx=>u.free b o e n hx,fun b o e hx=>?_,u.BG,u.Js,u.Ku⟩
    ·exact(hs'.2 b (below b (aE e)).1).trans (u.keep b o e n hb hx)
    ·obtain⟨sl,e1⟩:=u.slot b o e n hb hx;exact⟨sl,(hs'.2 b (below b (aE e)).1).trans e1⟩
    ·obtain⟨o',e1⟩:=u.there b o e hx;exact⟨o',(hs'.2 b (below b (aE e)).1).trans e1⟩
   have hok':Ek X.prog X.w H3 h':=fun b u e=>(I5.A0 b u e).Hs (fun c v hc q=>(hs'.2 c (by
    rcases hc with rfl|hc
    ·exact nC _ _ e
    ·exact nC _ _ hc)).trans q) (fun _ q=>q) fun _ _ q=>q
   refine I2.jM (s':={ s4 with heap:=h' }) (ch:=fp) I5.os keepU hok' I5.bare fun b hb=>?_;obtain⟨_,f1,_,f4,f5,f6⟩:=f2 b hb;exact⟨f4,f1,f5,f6⟩
  ·refine ak (T.item (A8 X scope cl N Hq.objs.size s2 H2 fp) rfl rfl rfl hcalm i [] s3 σ3 H3 (fun _ _=>False) I3 (fpX [] H3 (fun _ z=>by cases z) fr3) st3 go) (fun r s4 ⟨u,hr,h4⟩=>?_) fun _ _ z=>z.elim;subst hr;show wpAny (model X.prog X.w) X.A (letOwnedTupleGo tgE (.ref it) u>>=fun _=>assign tgE (compEnvC scope cl Hq.objs.size X.env) u) _ _ s4;refine Wb (ak h4 (fun _ s5 ⟨xv,H5,I5,r5,y5,st5,fr5⟩=>?_) fun _ _ z=>z.elim);have I5':=I5.pinned (fpX [] H5 (fun _ z=>by cases z) fr5) (T.obj _ _ st5);refine ak (hpg _ _ s5 σ3 H5 xv u _ I5' r5 (step xv H5 y5 σ3 hσ)) (fun _ s6 ⟨σ6,H6,I6,rv6,step5⟩=>?_) fun _ _ z=>z.elim;refine ak (hif _ _ _ _ _ _ s6 _ H6 _ I6 step5) (fun b s7 ⟨H7,I7,q7⟩=>?_) fun _ _ z=>z.elim;have again:∀ {s8:SD} {H8:Hp} {k:Nat} {zs:List V},Inv (A8 X scope cl N Hq.objs.size s2 H2 fp) ([]++L8 fp s5.heap) σ6 H8 s8→W (i+1) k zs H8→k<n →
     ∃m,m<n∧∃i ys σ' H',Inv (A8 X scope cl N Hq.objs.size s2 H2 fp) [] σ' H' s8∧Rv σ'∧tn i s8.heap∧(∀b∈fp,H' b=none)∧W i m ys H':=fun {s8 H8 k zs} I8 w8 hk=>by
    refine⟨k,hk,i+1,zs,_,H8,I8.K6,rv6,T.keep _ _ _ st5 fun b hb o e=>(I8.pin (b,o) (aS _ (aS _ (IZ hb e)))).1,fun b hb=>?_,w8⟩;obtain⟨o,e,d⟩:=T.obj _ _ st5 b hb;exact(I8.pin (b,o) (aS _ (aS _ (IZ hb e)))).2.1
   cases b with
   |false =>
    rw [if_neg aL]at q7 ⊢;obtain⟨k,hk,w7⟩:=q7;exact again I7 w7 hk
   |true =>
    rw [if_pos rfl]at q7 ⊢;refine ak (he _ _ _ _ _ _ s7 _ H7 _ I7 q7) (fun yv s8 ⟨y,H8,I8,r8,hD8,k,hk,w8⟩=>?_) fun _ _ z=>z.elim;refine ak (FN (X:=A8 X scope cl N Hq.objs.size s2 H2 fp) _ s8 _ H8 (.ref s2.heap.objs.size) [y] (.ref s2.heap.objs.size) [yv] (fun _ H9=>H9=upd H8 s2.heap.objs.size (.lst (ys++[y]))) I8 rfl (.cons r8 .nil) ⟨_,ys,y,rfl,rfl,hD8,hsz,rfl⟩) (fun _ s9 ⟨_,H9,I9,_,e9⟩=>?_) fun _ _ z=>z.elim;subst e9;exact again I9 w8 hk
 exact codeAny_compStart_list (loop _ rfl) (T.self X.A 0 _ _ _ (T.keep _ _ _ st2 fun b _ o e=>old b o e) (loop _ rfl))
def Oa{pins:List (AD×Obj)}{σ:St}{H2:Hp}{s2:SD}{Q:VK}{it:AD}{fp:List AD}{tn:Nat→Heap→Prop}{J:It}{cl:List (Str×AD)}{E:VL→SD→Prop}{RR:VL→AD→Result→SD→Prop}
 (S:D6 scope N x ix)(hcalm:X.calm=true)(hfr:Fq N X.N scope X.env.scope fr 0=true)(hlen:fr.length=N.length)
 (hif:∀cl C s₀ H₀ fp,MB (A8 X scope cl N C s₀ H₀ fp) ifs tif)(he:∀cl C s₀ H₀ fp,PE (A8 X scope cl N C s₀ H₀ fp) elt te)
 (I2:Inv X pins σ H2 s2)(T:Turn X.prog X.w X.K (.Name x px) J fp it tn)(st2:tn 0 s2.heap)(f2:∀b∈fp,Jy X pins H2 b)
 (c1:∀x c,cl.lookup x=some c→X.env.cells.lookup x=some c)(c2:∀x∈scope.names,x.2=NameKind.free→∃c,cl.lookup x.1=some c)
 (W:∀D,H2 D=none→∃W:Nat→Nat→List V→Hp→Prop,(∃m,W 0 m [] (upd H2 D (.lst []))) ∧
   ∀i m ys H,W i m ys H→H D=some (.lst ys)∧((J.stop i H∧Q (.ref D) H)∨(J.go i H∧ys.length<sizeLine∧∀x H',J.Eh i H x H' →
    tif ((carry fr σ).set ix (some x)) H' fun b H2=>if b=true then te ((carry fr σ).set ix (some x)) H2 fun y H3=>H3 D=some (.lst ys)∧∃m',m'<m∧W (i+1) m' (ys++[y]) (upd H3 D (.lst (ys++[y])))
     else ∃m',m'<m∧W (i+1) m' ys H2)))
 (fin:∀(D C:AD) (s':SD) (H':Hp) m,s'.heap.Ns C m→Q (.ref D) H'→(∀h',Heap.SameBut C s'.heap h'→Inv X pins σ H' { s' with heap:=h' })→C≠D→(∀b o,s2.heap.get? b=some o→b≠C)→H' C=none→s2.heap.objs.size≤C→RR (.ref D) C (.ok .next) s') :
  wpAny (model X.prog X.w) X.A (newList []) (fun acc s₃=>wpAny (model X.prog X.w) X.A (newFunctionEnv scope X.env.globals cl [] X.env.qual none .none (some X.env)) (fun cenv s₄ =>
   codeAny (model X.prog X.w) X.A (.compStart (.ListComp elt [⟨.Name x px,iter,ifs,0⟩] scope pos) 0 (.ref it) acc { cenv with scope:=relabel scope X.env }) (RR acc cenv.locals) s₄) E s₃) E s2:=by
 have hxv:(relabel scope X.env).names.lookup x=some .local:=lookup_relabel_local S.loc;refine Mz S hcalm (fun σ'=>∀v,σ'.set ix v=(carry fr σ).set ix v) (fun _=>rfl) (fun C=>A4 (X:=A8 X scope cl N C s2 H2 fp) S.nd S.at_ (.inl hxv) (.inr hxv)) hfr hlen hif he I2 T st2 f2 c1 c2 (fun D hD=>?_) fin;obtain⟨W,w0,st⟩:=W D hD;refine⟨W,w0,fun i m ys H w=>?_⟩;obtain⟨h1,h2|⟨h2,h3,h4⟩⟩:=st i m ys H w
 ·exact⟨h1,.inl h2⟩
 ·refine⟨h1,.inr ⟨h2,h3,fun x H' hy σ' hr=>?_⟩⟩;have:=h4 x H' hy;rw [←hr]at this;exact⟨fun v=>by rw [List.set_set,hr],this⟩
def cK(S:D6 scope N x ix)(hcalm:X.calm=true)(hfr:Fq N X.N scope X.env.scope fr 0=true)(hlen:fr.length=N.length)(hfree:∀y∈scope.names,y.2=.free→X.env.scope.names.lookup y.1=some .cell∨X.env.scope.names.lookup y.1=some .free)
 (hi:PI X (.Name x px) iter wi)(hif:∀cl C s₀ H₀ fp,MB (A8 X scope cl N C s₀ H₀ fp) ifs tif)(he:∀cl C s₀ H₀ fp,PE (A8 X scope cl N C s₀ H₀ fp) elt te)
 (hs:∀x,foldedSetIterable iter X.env x=pure x:=by intro _;rfl):PE X (.ListComp elt [⟨.Name x px,iter,ifs,0⟩] scope pos) (MX wi fr ix tif te):=by
 intro pins s σ H Q I hw;obtain⟨cl,hclos,c1,_,c2⟩:=GL (env:=X.env) scope.names [] (fun y hy hf=>I.ok.has y.1 (hfree y hy hf)) (fun y c z=>by cases z);have hclos':closureFor scope X.env=pure cl:=by
  have e:closureFor scope X.env=((forIn scope.names [] (fun(x:Str×NameKind) (r:List (Str×AD))=>do if(x.2==NameKind.free)=true then do let a ←cellOf X.env x.1;pure (ForInStep.yield ((x.1,a)::r)) else pure (ForInStep.yield r)):Sem (List (Str×AD)))>>=fun cs=>pure cs):=rfl;rw [e,hclos]
  rfl
 rw [eval_ListComp];refine wpAny_comprehension_free (use:=none) rfl hs hclos' S.kind S.names (BN (hi pins s σ H _ I hw) fun v s1 h1=>BN h1 fun itv s2 h2=>?_);obtain⟨it,fp,tn,J,H2,e,I2,T,st2,f2,W⟩:=h2;subst e;refine Oa (RR:=fun acc C=>compPost (model X.prog X.w) X.A X.xe none (EP X pins σ Q) acc C) S hcalm hfr hlen hif he I2 T st2 f2 c1 c2 W ?_;intro D C s' H' m hn q hI _ _ _ _;exact⟨m,hn,fun h' hs'=>⟨.ref D,H',hI h' hs',rfl,q⟩⟩
def Vq{i : Nat}{y : Str}{py spos : Pos}(hN : X.N.Nodup)(hy : X.N[i]? = some y)(hly : X.env.scope.names.lookup y = some .local)(S : D6 scope N x ix)(hcalm : X.calm = true)(hfr : Fq N X.N scope X.env.scope fr 0 = true)(hlen : fr.length = N.length)
 (hfree : ∀ y∈scope.names,y.2 = .free→X.env.scope.names.lookup y.1 = some .cell∨X.env.scope.names.lookup y.1 = some .free)
 (hi : PI X (.Name x px) iter wi)(hif : ∀ cl C s₀ H₀ fp,MB (A8 X scope cl N C s₀ H₀ fp) ifs tif)(he : ∀ cl C s₀ H₀ fp,PE (A8 X scope cl N C s₀ H₀ fp) elt te)
 (hsw : swapsWith (.ListComp elt [⟨.Name x px,iter,ifs,0⟩] scope pos) (some (.Name y py)) spos.line X.env = pure true := by rfl)
 (hs : ∀ x,foldedSetIterable iter X.env x = pure x := by intro _; rfl) :
    PS X (.Assign [.Name y py] (.ListComp elt [⟨.Name x px,iter,ifs,0⟩] scope pos) spos) (V0 (MX wi fr ix tif te) (EG i)) := by
  intro pins s σ H D I hw
  obtain ⟨cl,hclos,c1,_,c2⟩:=GL (env:=X.env) scope.names [] (fun y hy hf => I.ok.has y.1 (hfree y hy hf)) (fun y c z => by cases z)
  have hclos' : closureFor scope X.env = pure cl := by
    have e : closureFor scope X.env = ((forIn scope.names [] (fun (x : Str×NameKind) (r : List (Str×AD)) => do if (x.2 == NameKind.free) = true then do let a ← cellOf X.env x.1; pure (ForInStep.yield ((x.1,a) :: r)) else pure (ForInStep.yield r)) : Sem (List (Str×AD))) >>= fun cs => pure cs):=rfl
    rw [e,hclos]
    rfl
  rw [exec_Assign_Name_used _ _ _ _ hsw]
  refine Wb (wpAny_standAt (Wb ?_))
  show wpAny _ X.A (do let _ ← comprehension (.ListComp elt [⟨.Name x px,iter,ifs,0⟩] scope pos) scope X.env _ (newList []) false (eval iter X.env) (some (assign (.Name y py) X.env))) _ _ s
  refine Wb (ak (wpAny_comprehension_free (use:=some (assign (.Name y py) X.env)) (Q:=fun _ s' => SP X pins D .next s') rfl hs hclos' S.kind S.names
    (BN (hi pins s σ H _ I hw) fun v s1 h1 => BN h1 fun itv s2 h2 => ?_)) (fun _ s' hq => aA (aA hq)) fun _ _ e => e)
  obtain ⟨it,fp,tn,J,H2,e,I2,T,st2,f2,W⟩:=h2
  subst e
  refine Oa (Q:=fun x H1 => EG i x σ H1 D.nx) (RR:=fun acc C => compPost (model X.prog X.w) X.A X.xe (some (assign (.Name y py) X.env)) (fun _ s' => SP X pins D .next s') acc C) S hcalm hfr hlen hif he I2 T st2 f2 c1 c2 W ?_
  intro D' C s' H' m hn q hI hCD hold hfreeC hsz
  have I5 : Inv X pins σ H' s':=hI s'.heap (Heap.SameBut.refl ..)
  refine wpAny_assign_Name (Qz I5 hN hy (.inl hly) (v:=.ref D') rfl (fun s'' I6 ⟨a,hsb,ha⟩ => ?_) (.inr hly))
  have hL : C≠X.env.locals:=fun z => by
    obtain ⟨_,⟨o,_,_,e,_⟩,_⟩:=I2.loc
    exact hold _ _ e z.symm
  have hcl : ∀ z c,X.env.cells.lookup z = some c→c≠C:=fun z c e => by
    obtain ⟨_,o,ho,_⟩:=I2.cell z c e
    exact hold _ _ ho
  have hCa : C≠a := by
    rcases ha with z | z
    · rw [z]; exact hL
    · exact Ne.symm (hcl _ _ z)
  refine ⟨m,hn.sameBut hsb hCa,fun h' hs' => ⟨_,H',I6.turned (t':=s''.toks) (it:=C) (fun b o hb e => (hs'.2 b hb).trans e) hfreeC hL (.inr (aO I2.sz hsz)) hcl fun p hp => ?_,q⟩⟩
  obtain ⟨e,_⟩:=I2.pin p hp
  exact hold _ _ e
end
end L2
namespace FM
def gi(a b:Int):Int:=(Int.gcd a b:Int)
def TR(a b:Int):Int.gcd b (a.fmod b)=Int.gcd a b:=by
 have e:a.fmod b=a-b*a.fdiv b:=Int.fmod_def a b;rw [e,Int.gcd_comm a b];exact Int.gcd_sub_mul_left_right b a (a.fdiv b)
def QI(a b:Int)(hb:b≠0):(a.fmod b).natAbs<b.natAbs:=by
 rcases Int.lt_or_gt_of_ne hb with h|h
 ·have h1:-(a.fmod b)=(-a).fmod (-b):=by
   rw [Int.fmod_def,Int.fmod_def,Int.neg_fdiv_neg];have:-b*a.fdiv b=-(b*a.fdiv b):=Int.neg_mul _ _;omega
  have h2:=Int.fmod_nonneg_of_pos (-a) (show 0 < -b by omega);have h3:=Int.fmod_lt_of_pos (-a) (show 0 < -b by omega);omega
 ·have h2:=Int.fmod_nonneg_of_pos a h;have h3:=Int.fmod_lt_of_pos a h;omega
def MP{a b:Int}(hb:b≠0):0<gi a b:=by
 have:0<Int.gcd a b:=Int.gcd_pos_of_ne_zero_right a hb;unfold gi;omega
def Zu{a b:Int}(hb:b≠0):(gi a b).natAbs≤b.natAbs:=by
 have h:Int.gcd a b ∣ b.natAbs:=by
  have:=Int.gcd_dvd_right a b;exact Int.natAbs_dvd_natAbs.mpr this
 have h2:0<b.natAbs:=by omega
 have:=Nat.le_of_dvd h2 h;unfold gi;omega
def gs(t b:Int):Int:=if b<0 then -gi t b else gi t b
def Zh{t b:Int}(hb:b≠0):gs t b≠0:=by
 have:=MP (a:=t) hb;unfold gs;split<;>omega
def Zq{t b:Int}(hb:b≠0):(gs t b).natAbs≤b.natAbs:=by
 have:=Zu (a:=t) hb;unfold gs;split<;>omega
def GW{g x k:Int}(hg:g≠0)(e:x=g*k):x.fdiv g=k:=by
 subst e;exact Int.mul_fdiv_cancel_left k hg
def M1(a b:Int):gi a b ∣ a:=Int.gcd_dvd_left a b
def ML(a b:Int):gi a b ∣ b:=Int.gcd_dvd_right a b
def R9{t b:Int}(hb:b≠0):t.fdiv (gs t b)=(Rat.divInt t b).num:=by
 have hp:=MP (a:=t) hb;obtain⟨k,hk⟩:=M1 t b;rw [Rat.num_divInt,Int.gcd_comm b t];show t.fdiv (gs t b)=b.sign*t / gi t b;unfold gs;generalize gi t b=g at hp hk ⊢;rcases Int.lt_or_gt_of_ne hb with h|h
 ·rw [if_pos h,Int.sign_eq_neg_one_of_neg h,GW (k:=-k) (by omega) (by rw [hk];simp [Int.mul_neg,Int.neg_mul])];have:-1*t=g*(-k):=by rw [hk];simp [Int.mul_neg]
  rw [this,Int.mul_ediv_cancel_left _ (by omega)]
 ·rw [if_neg (by omega),Int.sign_eq_one_of_pos h,GW (k:=k) (by omega) hk,Int.one_mul,hk,Int.mul_ediv_cancel_left _ (by omega)]
def RV{t b:Int}(hb:b≠0):b.fdiv (gs t b)=((Rat.divInt t b).den:Int):=by
 have hp:=MP (a:=t) hb;obtain⟨k,hk⟩:=ML t b;rw [Rat.den_divInt,if_neg hb,Int.gcd_comm b t];have e:(((b.natAbs / Int.gcd t b:Nat)):Int)=(b.natAbs:Int) / gi t b:=by unfold gi;simp
 rw [e];unfold gs;generalize gi t b=g at hp hk ⊢;rcases Int.lt_or_gt_of_ne hb with h|h
 ·rw [if_pos h,GW (k:=-k) (by omega) (by rw [Int.neg_mul_neg];exact hk)];have:(b.natAbs:Int)=g*(-k):=by rw [Int.mul_neg,←hk];omega
  rw [this,Int.mul_ediv_cancel_left _ (by omega)]
 ·rw [if_neg (by omega),GW (k:=k) (by omega) hk];have:(b.natAbs:Int)=g*k:=by rw [←hk];omega
  rw [this,Int.mul_ediv_cancel_left _ (by omega)]
def FA(a b:Int):(a.fdiv b).natAbs≤a.natAbs:=by
 cases a with
 |ofNat n =>
  cases n with
  |zero =>
   have e:Int.fdiv (.ofNat 0) b=0:=Int.zero_fdiv b;rw [e];exact bE _
  |succ k =>
   cases b with
   |ofNat j=>exact Nat.div_le_self (k+1) j
   |negSucc j=>exact Nat.succ_le_succ (Nat.div_le_self k (j+1))
 |negSucc k =>
  cases b with
  |ofNat j =>
   cases j with
   |zero=>exact bE _
   |succ j=>exact Nat.succ_le_succ (Nat.div_le_self k (j+1))
  |negSucc j=>exact Nat.div_le_self (k+1) (j+1)
def f9{t b:Int}(hb:b≠0):(Rat.divInt t b).num.natAbs≤t.natAbs:=by
 rw [←R9 hb];exact FA _ _
def Xy{t b:Int}(hb:b≠0):(Rat.divInt t b).den≤b.natAbs:=by
 have h:=FA b (gs t b);rw [RV hb]at h
 simpa using h
def Oi(p:Rat):(p.den:Int)≠0:=by
 have:=p.den_nz;omega
def D9(p:Rat):Rat.divInt p.num p.den=p:=Rat.num_divInt_den p
def d9(p q:Rat):Rat.divInt (p.num*q.den+q.num*p.den) (p.den*q.den)=p+q:=by
 rw [←Rat.divInt_add_divInt _ _ (Oi p) (Oi q),D9,D9]
def ZV(p q:Rat):Rat.divInt (p.num*q.num) (p.den*q.den)=p*q:=by
 rw [←Rat.divInt_mul_divInt,D9,D9]
def UM(p q:Rat):(p.den:Int)*q.den≠0:=Int.mul_ne_zero (Oi p) (Oi q)
def bf{p q:Rat}(h1:p.num=q.num)(h2:(p.den:Int)=(q.den:Int)):p=q:=Rat.ext h1 (by omega)
def WR{x y:Int}{m n:Nat}(hx:x.natAbs<2^m)(hy:y.natAbs<2^n):(x*y).natAbs<2^(m+n):=by
 rw [Int.natAbs_mul,Nat.pow_add];exact Nat.mul_lt_mul'' hx hy
def Ue{x:Nat}{m n:Nat}(hx:x<2^m)(h:m≤n):x<2^n:=aK hx (aW (by decide) h)
def Fits(p:Rat)(n:Nat):Prop:=p.num.natAbs<2^n∧p.den<2^n
def Fits.d{p:Rat}{n:Nat}(h:Fits p n):((p.den:Int)).natAbs<2^n:=by simpa using h.2
def Fits.W0{t b:Int}{n:Nat}(hb:b≠0)(h1:t.natAbs<2^n)(h2:b.natAbs<2^n):Fits (Rat.divInt t b) n :=
 ⟨ae (f9 hb) h1,Nat.lt_of_le_of_lt (Xy hb) h2⟩
def dd{p q:Rat}{m n:Nat}(h:Fits p m)(k:Fits q n):((p.den:Int)*q.den).natAbs<2^(m+n):=WR h.d k.d
end FM
namespace FM
def Ud(a b:Int):Int.gcd (if a<0 then -a else a) (if b<0 then -b else b)=Int.gcd a b:=by
 split<;>split<;>simp [Int.gcd_neg,Int.neg_gcd]
def abs_nonneg(a:Int):0≤(if a<0 then -a else a):=by split<;>omega
def XY{g a b:Int}(h:Int.gcd g 0=Int.gcd a b)(h0:0≤g):g=gi a b:=by
 unfold gi;rw [←h,Int.gcd_zero_right];omega
def fmod_nonneg{g l:Int}(hl:l≠0)(h:0≤l):0≤g.fmod l:=Int.fmod_nonneg_of_pos g (by omega)
end FM
namespace L2
open PySem PySem.Spec PyProof.Rows
structure Fn(K:Fg)(mg:Str→Option Value)(x:Str)(st:Stmt)(ps:List Str)(f:Addr)(fd:FuncData):Prop where
 F:U7 K x x st f fd
 b:Binds K fd ps []
 m:mg x=some (.ref f)
section
variable{X:Cx}{k:Nat}{f:AD}{fd:FuncData}{ps:List Str}{sp:Sp}{x:Str}{st:Stmt}{p pos:Pos}{e:Expr}{es:List Expr}{t:TA}
def B4(T:Fn X.K X.mg x st ps f fd)(G:AM X.prog X.w X.K X.mg X.base Ab k f fd ps sp)(hr:Dl k X.A)(hg:Gl X x)(ha:PA X (e::es) t)
 (hdb:(x==("__debug__" : Str))=false:=by decide)(he:starEach (e::es) X.env=(false,eval e X.env)::starEach es X.env:=by rfl)(hpl:(backTo pos (starEach es X.env)).any (·.1)=false:=by rfl) :
  PE X (.Call (.Name x p) (e::es) [] pos) (V6 sp [] E0 t):=cL G hr hg T.m T.F.kp T.b .nil Zs ha hdb he hpl
end
def NY{t u:TS}{D:Ends}{σ:St}{H:Hp}(P:St→Hp→Prop)(h1:∀nx:St→Hp→Prop,(∀σ' H',P σ' H'→nx σ' H')→t { D with nx:=nx } σ H)(h2:∀σ' H',P σ' H'→u D σ' H'):hJ t u D σ H:=h1 _ h2
def X8:2≤sizeLine:=by decide
def AZ{H:Hp}{p:AD}(h:H p=none)(o:HO):AK H (upd H p o):=fun b u q=>by rw [AJ (AU q h)];exact q
def SameBut(l:AD)(H H':Hp):Prop:=∀b o,b≠l→H b=some o→H' b=some o
def SameBut.of{l:AD}{H H':Hp}(h:AK H H'):SameBut l H H':=fun b o _ q=>h b o q
def SameBut.upd{l:AD}{H:Hp}{o:HO}:SameBut l H (upd H l o):=fun b u n q=>by rw [AJ n];exact q
def Lq(p:Rat):List V:=[.int p.num,.int (p.den:Int)]
def Af(p:Rat):PD:=.tuple [.int p.num,.int (p.den:Int)]
def Vk{i j:Int}{m n:Nat}(h1:i.natAbs<2^m)(h2:j.natAbs<2^n)(h:m+n≤1000000):S4 i j∨Og i j :=
 .inr ⟨m+n,h,FM.Ue h1 (Nat.le_add_right _ _),FM.Ue h2 (Nat.le_add_left _ _)⟩
def kU(ea:AD)(cls:VL):HO:=.ext fun h=>∃o vs,h.get? ea=some o∧o.cls=cls∧o.data=.fields vs
open PySem PySem.Spec PyProof.Rows PySem.Builtin.ObjectAttr PySem.Builtin.Getset_descriptor
def QC:V→VL
 |.ref C=>.ref C
 |.ty n=>.type n
 |_=>.none
def cG{c:V}{u:VL}(r:RelV c u)(h:QC c≠.none):u=QC c:=by
 cases c with
 |ref C=>exact r
 |ty n=>exact r
 |_=>exact absurd rfl h
section
variable{X:Cx}
def kO(K:Fg):List V→Hp→VK→Prop:=fun xs H Q=>∃x c t b,xs=[x,c]∧QC c≠.none∧GB K H x t∧PySem.W.kitOne K t (QC c)=some b∧Q (.bl b) H
def F9:D4 X (.builtin "isinstance") (kO X.K):=by
 intro pins s σ H xs us Q I r h;obtain⟨x,c,t,b,rfl,hc,ty,e,q⟩:=h;obtain⟨u,v,rfl,r1,r2⟩:=r.two;rw [cG r2 hc];exact Wj I r1 ty e fun tk=>⟨.bl b,H,I.tok tk,rfl,q⟩
end
def ff(K:Fg):PySem.W.kitOne K (.type "tuple") (.type "tuple")=some true:=rfl
def gB(K:Fg):PySem.W.kitOne K (.type "int") (.type "int")=some true:=rfl
def eK(K:Fg):PySem.W.kitOne K (.type "bool") (.type "bool")=some true:=rfl
def iQ(K:Fg):PySem.W.kitOne K (.type "int") (.type "bool")=some false:=by kernel_rfl
def gG(K:Fg):PySem.W.kitOne K (.type "bool") (.type "int")=some true:=by kernel_rfl
def iC(K:Fg):PySem.W.kitOne K (.type "list") (.type "tuple")=some false:=by kernel_rfl
def gj(K:Fg):PySem.W.kitOne K (.type "tuple") (.type "list")=some false:=by kernel_rfl
def eR(K:Fg):PySem.W.kitOne K (.type "list") (.type "list")=some true:=rfl
def fc(K:Fg):PySem.W.kitOne K (.type "int") (.type "tuple")=some false:=by kernel_rfl
def f7(K:Fg):PySem.W.kitOne K (.type "bool") (.type "tuple")=some false:=by kernel_rfl
def fP(K:Fg):PySem.W.kitOne K (.type "NoneType") (.type "tuple")=some false:=by kernel_rfl
def eH(K:Fg):PySem.W.kitOne K (.type "str") (.type "tuple")=some false:=by kernel_rfl
def fZ(K:Fg):PySem.W.kitOne K (.type "tuple") (.type "int")=some false:=by kernel_rfl
def iH(K:Fg):PySem.W.kitOne K (.type "list") (.type "int")=some false:=by kernel_rfl
def fJ(K:Fg):PySem.W.kitOne K (.type "NoneType") (.type "int")=some false:=by kernel_rfl
def eh(K:Fg):PySem.W.kitOne K (.type "str") (.type "int")=some false:=by kernel_rfl
def iI(K:Fg):PySem.W.kitOne K (.type "int") (.type "list")=some false:=by kernel_rfl
def fK(K:Fg):PySem.W.kitOne K (.type "bool") (.type "list")=some false:=by kernel_rfl
def fe(K:Fg):PySem.W.kitOne K (.type "NoneType") (.type "list")=some false:=by kernel_rfl
def eM(K:Fg):PySem.W.kitOne K (.type "str") (.type "list")=some false:=by kernel_rfl
def freeOk(xsc:Scope)(names:List (Str×NameKind)):Bool:=names.all fun y=>y.2 != .free||xsc.names.lookup y.1==some .cell||xsc.names.lookup y.1==some .free
def MT{xsc:Scope}{names:List (Str×NameKind)}(h:freeOk xsc names=true):∀y∈names,y.2=.free→xsc.names.lookup y.1=some .cell∨xsc.names.lookup y.1=some .free:=fun y hy hf=>by
 have q:=ai.mp h y hy;rw [hf]at q;simp only [bne_self_eq_false,Bool.false_or,Bool.or_eq_true,beq_iff_eq]at q;exact q
def DX(scope:Scope)(N:List Str)(x:Str)(ix:Nat):Bool :=
 scope.kind==.function&&(scope.names.all fun y=>y.2 != .cell&&(y.2 != .local||scope.names.lookup y.1==some .local)&&(y.2 != .free||scope.names.lookup y.1==some .free))&&scope.names.lookup x==some .local&&decide N.Nodup&&N[ix]? == some x
def Gh{scope:Scope}{N:List Str}{x:Str}{ix:Nat}(h:DX scope N x ix=true):D6 scope N x ix:=by
 unfold DX at h;simp only [Bool.and_eq_true,beq_iff_eq,decide_eq_true_eq,List.all_eq_true,bne_iff_ne,Bool.or_eq_true]at h;obtain⟨⟨⟨⟨h1,h2⟩,h3⟩,h4⟩,h5⟩:=h;exact⟨h1,fun y hy=>(h2 y hy).1.1,fun y hy hl=>(h2 y hy).1.2.resolve_left fun z=>z hl,fun y hy hl=>(h2 y hy).2.resolve_left fun z=>z hl,h3,h4,h5⟩
section
variable{X:Cx}{elt iter:Expr}{x:Str}{px pos:Pos}{ifs:List Expr}{scope:Scope}{wi:TI}{tif:TT}{te:TE}
def HG(N:List Str)(ix:Nat)(fr:List (Option Nat))(hi:PI X (.Name x px) iter wi)(hif:∀cl C s₀ H₀ fp,MB (A8 X scope cl N C s₀ H₀ fp) ifs tif)(he:∀cl C s₀ H₀ fp,PE (A8 X scope cl N C s₀ H₀ fp) elt te)
 (h1:DX scope N x ix=true:=by decide +kernel)(h2:X.calm=true:=by rfl)(h3:Fq N X.N scope X.env.scope fr 0=true:=by rfl)(h4:fr.length=N.length:=by rfl)(h5:freeOk X.env.scope scope.names=true:=by rfl)
 (hs:∀x,foldedSetIterable iter X.env x=pure x:=by intro _;rfl):PE X (.ListComp elt [⟨.Name x px,iter,ifs,0⟩] scope pos) (MX wi fr ix tif te) :=
 cK (Gh h1) h2 h3 h4 (MT h5) hi hif he hs
def M8{i:Nat}{y:Str}{py spos:Pos}(N:List Str)(ix:Nat)(fr:List (Option Nat))(hN:X.N.Nodup)(hy:X.N[i]? = some y)(hly:X.env.scope.names.lookup y=some .local)
 (hi:PI X (.Name x px) iter wi)(hif:∀cl C s₀ H₀ fp,MB (A8 X scope cl N C s₀ H₀ fp) ifs tif)(he:∀cl C s₀ H₀ fp,PE (A8 X scope cl N C s₀ H₀ fp) elt te)
 (h1:DX scope N x ix=true:=by decide +kernel)(h2:X.calm=true:=by rfl)(h3:Fq N X.N scope X.env.scope fr 0=true:=by rfl)(h4:fr.length=N.length:=by rfl)(h5:freeOk X.env.scope scope.names=true:=by rfl)
 (hsw:swapsWith (.ListComp elt [⟨.Name x px,iter,ifs,0⟩] scope pos) (some (.Name y py)) spos.line X.env=pure true:=by rfl)
 (hs:∀x,foldedSetIterable iter X.env x=pure x:=by intro _;rfl):PS X (.Assign [.Name y py] (.ListComp elt [⟨.Name x px,iter,ifs,0⟩] scope pos) spos) (V0 (MX wi fr ix tif te) (EG i)) :=
 Vq hN hy hly (Gh h1) h2 h3 h4 (MT h5) hi hif he hsw hs
end
end L2
inductive Tr where
 |nil
 |cons (b r:Tr)
 deriving DecidableEq
namespace Tr
def bs:Tr→List Tr
 |.nil=>[]
 |.cons b r=>b::r.bs
def of:List Tr→Tr
 |[]=>.nil
 |b::r=>.cons b (of r)
def RH:∀t:Tr,of t.bs=t
 |.nil=>rfl
 |.cons b r=>by rw [bs,of,RH r]
def Mo:∀l:List Tr,(of l).bs=l
 |[]=>rfl
 |b::r=>by rw [of,bs,Mo r]
def gp{t u:Tr}(h:t.bs=u.bs):t=u:=by rw [←RH t,h,RH]
def len:Tr→Nat
 |.nil=>0
 |.cons _ r=>r.len+1
def GK:∀t:Tr,t.bs.length=t.len
 |.nil=>rfl
 |.cons _ r=>by rw [bs,List.length_cons,GK r,len]
def AV:Tr→Nat
 |.nil=>1
 |.cons b r=>b.AV+r.AV
def deep:Tr→Nat
 |.nil=>0
 |.cons b r=>max (b.deep+1) r.deep
def lt:Tr→Tr→Bool
 |.nil,.nil=>false
 |.nil,.cons _ _=>true
 |.cons _ _,.nil=>false
 |.cons b r,.cons c q=>if b=c then lt r q else lt b c
def lt_irrefl:∀t:Tr,lt t t=false
 |.nil=>rfl
 |.cons b r=>by rw [lt,if_pos rfl];exact lt_irrefl r
def lt_trans:∀a b c:Tr,lt a b=true→lt b c=true→lt a c=true
 |.nil,.nil,_,h,_=>by cases h
 |.nil,.cons _ _,.nil,_,h=>by cases h
 |.nil,.cons _ _,.cons _ _,_,_=>rfl
 |.cons _ _,.nil,_,h,_=>by cases h
 |.cons _ _,.cons _ _,.nil,_,h=>by cases h
 |.cons a r,.cons b s,.cons c t,h1,h2=>by
  rw [lt]at h1 h2 ⊢;by_cases e1:a=b
  ·subst e1;rw [if_pos rfl]at h1;by_cases e2:a=c
   ·subst e2;rw [if_pos rfl]at h2 ⊢;exact lt_trans r s t h1 h2
   ·rw [if_neg e2]at h2 ⊢;exact h2
  ·rw [if_neg e1]at h1;by_cases e2:b=c
   ·subst e2;rw [if_neg e1];exact h1
   ·rw [if_neg e2]at h2;have h3:=lt_trans a b c h1 h2;by_cases e3:a=c
    ·subst e3;rw [lt_irrefl]at h3;cases h3
    ·rw [if_neg e3];exact h3
def Im:∀a b:Tr,lt a b=false→lt b a=false→a=b
 |.nil,.nil,_,_=>rfl
 |.nil,.cons _ _,h,_=>by cases h
 |.cons _ _,.nil,_,h=>by cases h
 |.cons a r,.cons b s,h1,h2=>by
  rw [lt]at h1 h2;by_cases e:a=b
  ·subst e;rw [if_pos rfl]at h1 h2;rw [Im r s h1 h2]
  ·rw [if_neg e]at h1;rw [if_neg (Ne.symm e)]at h2;exact absurd (Im a b h1 h2) e
def NG(a b c:Tr)(h:lt a c=true):lt a b=true∨lt b c=true:=by
 cases h1:lt a b with
 |true=>exact .inl rfl
 |false =>
  right
  cases h2:lt b a with
  |true=>exact lt_trans b a c h2 h
  |false=>rw [←Im a b h1 h2];exact h
def lt_asymm{a b:Tr}(h:lt a b=true):lt b a=false:=by
 cases h2:lt b a with
 |false=>rfl
 |true=>have:=lt_trans a b a h h2;rw [lt_irrefl]at this;cases this
def YC:Tr→Bool
 |.nil=>true
 |.cons b r=>b.YC&&r.YC&&(match r with
  |.nil=>true
  |.cons c _=>!lt b c)
def ins(x:Tr):List Tr→List Tr
 |[]=>[x]
 |y::r=>if lt x y=true then y::ins x r else x::y::r
def CA:List Tr→List Tr
 |[]=>[]
 |x::r=>ins x (CA r)
end Tr
namespace TH
open PySem PyProof.Rows PySem.SeqAt
def Vs(h:Heap):Tr→List VL→Prop
 |.nil,us=>us=[]
 |.cons b r,us=>∃(a:AD) (its rest:List VL),us=.ref a::rest∧h.IsTuple a its.toArray∧Vs h b its∧Vs h r rest
def Vs.length{h:Heap}:∀ {t:Tr} {us:List VL},Vs h t us→us.length=t.len
 |.nil,us,e=>by rw [Vs]at e;rw [e];rfl
 |.cons b r,us,e=>by
  rw [Vs]at e;obtain⟨a,its,rest,rfl,_,_,q⟩:=e;rw [List.length_cons,Tr.len,Vs.length q]
def IX{h:Heap}{a:AD}{x y:Array VL}(h1:h.IsTuple a x)(h2:h.IsTuple a y):x=y:=by
 obtain⟨o,e,_,n,d⟩:=h1;obtain⟨o',e',_,n',d'⟩:=h2;rw [e]at e';cases e';rw [d]at d';cases d';rfl
def Vs.inj{h:Heap}:∀ {t u:Tr} {us:List VL},Vs h t us→Vs h u us→t=u
 |.nil,.nil,_,_,_=>rfl
 |.nil,.cons _ _,us,e,f=>by
  rw [Vs]at e;rw [Vs]at f;obtain⟨_,_,_,f,_⟩:=f;rw [e]at f;cases f
 |.cons _ _,.nil,us,e,f=>by
  rw [Vs]at e;rw [Vs]at f;obtain⟨_,_,_,e,_⟩:=e;rw [f]at e;cases e
 |.cons b r,.cons c q,us,e,f=>by
  rw [Vs]at e f;obtain⟨a,its,rest,rfl,h1,h2,h3⟩:=e;obtain⟨a',its',rest',e',k1,k2,k3⟩:=f;cases e';have:=IX h1 k1;have e2:its=its':=by simpa using this
  subst e2;rw [Vs.inj h2 k2,Vs.inj h3 k3]
def Vh{s:SD}:∀(t u:Tr) (A:Around) (us vs:List VL),Vs s.heap t us→Vs s.heap u vs→A.units+t.deep≤cLine →
  ∀j (h1:j<us.length) (h2:j<vs.length),EqAt A s us[j] vs[j] (decide (t.bs[j]? = u.bs[j]?))
 |.nil,u,A,us,vs,e,f,_,j,h1,h2=>by
  rw [Vs]at e;subst e;exact absurd h1 (ao _)
 |.cons b r,.nil,A,us,vs,e,f,_,j,h1,h2=>by
  rw [Vs]at f;subst f;exact absurd h2 (ao _)
 |.cons b r,.cons c q,A,us,vs,e,f,hu,j,h1,h2=>by
  rw [Vs]at e f;obtain⟨a,its,rest,rfl,k1,k2,k3⟩:=e;obtain⟨a',its',rest',rfl,l1,l2,l3⟩:=f;have hd:(Tr.cons b r).deep=max (b.deep+1) r.deep:=rfl;cases j with
  |zero =>
   show EqAt A s (.ref a) (.ref a') (decide (some b=some c));by_cases ea:a=a'
   ·subst ea;have:=IX k1 l1;have e2:its=its':=by simpa using this
    subst e2;rw [Vs.inj k2 l2,decide_eq_true rfl];exact EqAt.same _
   ·refine EqAt.of_refs ea ?_;have key:=RcAt.tuples (s:=s) (A:=A) (e:=fun j=>decide (b.bs[j]? = c.bs[j]?)) k1 l1 (by omega) fun j x1 x2=>by
     have:=Vh b c A.in1 its its' k2 l2 (by rw [show A.in1.units=A.units+1 from rfl];omega) j (by simpa using x1) (by simpa using x2)
     simpa using this
    have ev:((List.range (min its.toArray.size its'.toArray.size)).all (fun j=>decide (b.bs[j]? = c.bs[j]?))&&its.toArray.size==its'.toArray.size)=decide (some b=some c):=by
     have z1:its.toArray.size=b.bs.length:=by rw [Tr.GK,←Vs.length k2];simp
     have z2:its'.toArray.size=c.bs.length:=by rw [Tr.GK,←Vs.length l2];simp
     rw [z1,z2];by_cases hbc:b=c
     ·subst hbc;simp
     ·rw [decide_eq_false (fun z=>hbc (ah z))];cases hl:b.bs.length==c.bs.length with
      |false=>rw [Bool.and_false]
      |true =>
       rw [Bool.and_true];have hl':b.bs.length=c.bs.length:=by simpa using hl
       refine ar.mpr fun z=>hbc (Tr.gp (List.ext_getElem? fun i=>?_));by_cases hi:i<b.bs.length
       ·have:=ai.mp z i (bF.mpr (by omega))
        simpa using this
       ·rw [List.getElem?_eq_none (by omega),List.getElem?_eq_none (by omega)]
    rw [ev]at key;exact key
  |succ j =>
   exact Vh r q A rest rest' k3 l3 (by omega) j (by simpa using h1) (by simpa using h2)
def SE{s:SD}{t u:Tr}{A:Around}{a b:AD}{its its':List VL}(h1:s.heap.IsTuple a its.toArray)(k1:Vs s.heap t its)(h2:s.heap.IsTuple b its'.toArray)(k2:Vs s.heap u its')(hu:A.units+t.deep<cLine) :
  EqAt A s (.ref a) (.ref b) (decide (t=u)):=by
 have:=Vh (.cons t .nil) (.cons u .nil) A [.ref a] [.ref b] ⟨a,its,[],rfl,h1,k1,by rw [Vs]⟩ ⟨b,its',[],rfl,h2,k2,by rw [Vs]⟩ (by show A.units+max (t.deep+1) 0≤cLine;omega) 0 (by simp) (by simp)
 simpa [Tr.bs]using this
section
open PySem.AutoSeq1 (wpAny_loadPart')
open PySem.MeetsSeq PySem.MeetsSeq2 PySem.MeetsSeq3
def S0(n0:Nat)(ih:∀(t u:Tr) (A:Around) (s:SD) (a b:AD) (its its':List VL),t.deep<n0→s.heap.IsTuple a its.toArray→Vs s.heap t its→s.heap.IsTuple b its'.toArray→Vs s.heap u its'→A.units+t.deep<cLine →
   ∀(prog:Program) (w:World) (E:VL→SD→Prop) (Q:VL→SD→Prop),Q (.bool (Tr.lt t u)) s→wpAny (model prog w) A (richCompare .Lt (.ref a) (.ref b)) Q E s)
 (l b:AD)(items items2:Array VL)(n n2:Nat)(dd dd2:Option AD)(sl sl2:Array (Option VL))(t u:Tr)(ht:t.deep≤n0) :
  Meets (Builtin.«tuple.__lt__» ⟨[.ref l,.ref b],[]⟩)
   (fun A R s=>s.heap.get? l=some { cls:=.type "tuple",dict:=dd,data:=.seq items n,slots:=sl }∧s.heap.get? b=some { cls:=.type "tuple",dict:=dd2,data:=.seq items2 n2,slots:=sl2 } ∧
    Vs s.heap t items.toList∧Vs s.heap u items2.toList∧A.units+t.deep<cLine∧R (.ok (.ret (.bool (Tr.lt t u)))) s) :=
 .of_wp fun prog w A R s h=>by
  obtain⟨hp,g,d,tk,os⟩:=s;obtain⟨hl,hb,hi,hj,hun,h⟩:=h;have f2:=AutoSeq1.sub_tuple_tuple;have z1:items.size=t.len:=by rw [←Vs.length hi];simp
  have z2:items2.size=u.len:=by rw [←Vs.length hj];simp
  wp_walk using wpAny_loadPart' hl,wpAny_loadPart' hb,wpAny_forIn_list _ (fun rest b s'=>b.1=none∧s'=⟨hp,g,d,tk,os⟩∧∃(vs ws:List VL) (t' u':Tr),rest=vs.zip ws ∧
   Vs hp t' vs∧Vs hp u' ws∧t'.deep≤t.deep∧t'.len+items2.size=u'.len+items.size∧R (.ok (.ret (.bool (Tr.lt t' u')))) ⟨hp,g,d,tk,os⟩) _
  case turn =>
   rintro⟨y,x⟩ rest b s' ⟨hb',rfl,vs,ws,t',u',hz,hvi,hwi,hdp,hlen,hR⟩;cases t' with
   |nil=>rw [Vs]at hvi;subst hvi;rw [List.zip_nil_left]at hz;cases hz
   |cons bt rt =>
    cases u' with
    |nil=>rw [Vs]at hwi;subst hwi;rw [List.zip_nil_right]at hz;cases hz
    |cons bu ru =>
     rw [Vs]at hvi hwi;obtain⟨a1,i1,v1,rfl,p1,p2,p3⟩:=hvi;obtain⟨a2,i2,v2,rfl,q1,q2,q3⟩:=hwi;rw [List.zip_cons_cons]at hz
     injection hz with hyx hrest
     injection hyx with hy hx
     subst hy hx;have hdd:(Tr.cons bt rt).deep=max (bt.deep+1) rt.deep:=rfl;rw [Tr.lt]at hR;simp only [Tr.len]at hlen;have he:=SE (s:=⟨hp,g,d,tk,os⟩) (A:=A.in1) p1 p2 q1 q2 (by rw [show A.in1.units=A.units+1 from rfl];omega);refine Wb (he prog w _ _ ?_);cases hc:decide (bt=bu) with
     |true =>
      rw [if_pos (aj hc)]at hR
      wp_walk
      exact⟨rfl,rfl,_,_,_,_,hrest,p3,q3,by omega,by omega,hR⟩
     |false =>
      rw [if_neg (bH hc)]at hR;have hri:=ih bt bu A.in1 ⟨hp,g,d,tk,os⟩ a1 a2 i1 i2 (by omega) p1 p2 q1 q2 (by rw [show A.in1.units=A.units+1 from rfl];omega) prog w
      wp_walk using hri
      exact⟨_,rfl,by simpa using hR⟩
  case fin =>
   rintro⟨b1,b2⟩ s' ⟨hb',rfl,vs,ws,t',u',hz,hvi,hwi,hdp,hlen,hR⟩;simp only at hb';subst hb';have hv:Tr.lt t' u'=decide (items.size<items2.size):=by
    cases t' with
    |nil =>
     cases u' with
     |nil =>
      simp only [Tr.len]at hlen;exact(bQ (by omega)).symm
     |cons c q =>
      simp only [Tr.len]at hlen;exact(decide_eq_true (by omega)).symm
    |cons bt rt =>
     cases u' with
     |nil =>
      simp only [Tr.len]at hlen;exact(bQ (by omega)).symm
     |cons c q =>
      rw [Vs]at hvi hwi;obtain⟨_,_,_,rfl,_⟩:=hvi;obtain⟨_,_,_,rfl,_⟩:=hwi;rw [List.zip_cons_cons]at hz;cases hz
   rw [hv]at hR
   wp_walk
   exact⟨_,rfl,by simpa [Builtin.Tuple.tupleCompareSizes]using hR⟩
  case h =>
   exact⟨rfl,rfl,items.toList,items2.toList,t,u,rfl,hi,hj,Nat.le_refl _,by omega,h⟩
def VQ:∀(n0:Nat) (t u:Tr) (A:Around) (s:SD) (a b:AD) (its its':List VL),t.deep<n0→s.heap.IsTuple a its.toArray→Vs s.heap t its→s.heap.IsTuple b its'.toArray→Vs s.heap u its'→A.units+t.deep<cLine →
   ∀(prog:Program) (w:World) (E:VL→SD→Prop) (Q:VL→SD→Prop),Q (.bool (Tr.lt t u)) s→wpAny (model prog w) A (richCompare .Lt (.ref a) (.ref b)) Q E s
 |0,_,_,_,_,_,_,_,_,h,_,_,_,_,_=>absurd h (ao _)
 |n0+1,t,u,A,s,a,b,its,its',hd,hl,ht,hb,hu',hun=>fun prog w E Q h=>by
  obtain⟨⟨cls,dd,data,sl⟩,ho,hc,n,hdt⟩:=id hl;obtain⟨⟨cls2,dd2,data2,sl2⟩,ho2,hc2,n2,hdt2⟩:=id hb;simp only at hc hdt hc2 hdt2;subst hc hdt hc2 hdt2;exact richCompare_meets_room (op:=.Lt) ⟨_,ho,rfl⟩ ⟨_,ho2,rfl⟩ PySem.F.slot_tuple_lt PySem.F.entry_tuple_lt (PySem.F.args_tuple_lt_2 _ _) (S0 n0 (VQ n0) a b its.toArray its'.toArray n n2 dd dd2 sl sl2 t u (by omega))
   ⟨ho,ho2,by simpa using ht,by simpa using hu',hun,show Value.bool (Tr.lt t u)≠Value.notImplemented∧Q (.bool (Tr.lt t u)) s from⟨(fun x=>nomatch x),h⟩⟩ (by omega)
end
end TH
namespace SM
open PySem.W PyProof.Rows
def Wp{α:Type}(lt:Nat→Nat→Bool)(n:Nat):KasT α→(α→Prop)→Prop
 |.ret a,Q=>Q a
 |.ask i j k,Q=>i<n∧j<n∧Wp lt n (k (lt i j)) Q
def Wp.mono{α:Type}{lt:Nat→Nat→Bool}{n:Nat}{Q Q':α→Prop}(hq:∀a,Q a→Q' a):∀t:KasT α,Wp lt n t Q→Wp lt n t Q'
 |.ret a,h=>hq a h
 |.ask i j k,h=>⟨h.1,h.2.1,Wp.mono hq (k (lt i j)) h.2.2⟩
def Wp.bind{α β:Type}{lt:Nat→Nat→Bool}{n:Nat}{f:α→KasT β}{Q:β→Prop}:∀t:KasT α,Wp lt n t (fun a=>Wp lt n (f a) Q)→Wp lt n (t.bind f) Q
 |.ret _,h=>h
 |.ask i j k,h=>⟨h.1,h.2.1,Wp.bind (k (lt i j)) h.2.2⟩
def Iw{p:Array Nat}{i j:Nat}(hj:j≤p.size)(k:Nat):(kas_rev p i j).getD k 0=if i≤k∧k<j then p.getD (i+j-1-k) 0 else p.getD k 0:=by
 have e:=getElem?_mirror_all (i:=i) hj k;unfold kas_rev;rw [Array.getD_eq_getD_getElem?,Array.getD_eq_getD_getElem?,Array.getD_eq_getD_getElem?,e];split<;>rfl
def T9{p:Array Nat}{src d:Nat}(hs:src<p.size)(hd:d≤src)(k:Nat) :
  (bubble p src d).getD k 0=if k=src-d then p.getD src 0 else if src-d<k∧k≤src then p.getD (k-1) 0 else p.getD k 0:=by
 have e:=getElem?_bubble hs d hd k;simp only [Array.getD_eq_getD_getElem?,e];split
 ·rfl
 ·split<;>rfl
section
variable{O:KeyOrd}{key:Nat→O.α}{n:Nat}
def Key(key:Nat→O.α)(p:Array Nat)(i:Nat):O.α:=key (p.getD i 0)
def Up(key:Nat→O.α)(p:Array Nat)(m:Nat):Prop:=∀i j,i≤j→j<m→O.kle (Key key p i) (Key key p j)
def Dn(key:Nat→O.α)(p:Array Nat)(m:Nat):Prop:=∀i j,i≤j→j<m→O.kle (Key key p j) (Key key p i)
structure Pm(n:Nat)(p:Array Nat):Prop where
 perm:p.Perm (List.toArray (List.range n))
 pos:0<n
def Pm.size{p:Array Nat}(h:Pm n p):p.size=n:=by rw [h.perm.size_eq];simp
def Pm.lt{p:Array Nat}(h:Pm n p)(i:Nat):p.getD i 0<n:=by
 rw [Array.getD_eq_getD_getElem?];by_cases hi:i<p.size
 ·rw [Array.getElem?_eq_getElem hi];have hm:p[i]∈p:=Array.getElem_mem hi;have:=(h.perm.mem_iff).mp hm
  simpa using this
 ·rw [Array.getElem?_eq_none (by omega)];exact h.pos
def Pm.rev{p:Array Nat}(h:Pm n p)(i j:Nat):Pm n (kas_rev p i j):=⟨(mirror_perm _ _ _ _).trans h.perm,h.pos⟩
def Pm.bubble{p:Array Nat}(h:Pm n p)(i j:Nat):Pm n (bubble p i j):=⟨(bubble_perm _ _ _).trans h.perm,h.pos⟩
abbrev GA(key:Nat→O.α):Nat→Nat→Bool:=fun i j=>O.blt (key i) (key j)
def Up.one{p:Array Nat}:Up key p 1:=fun i j h1 h2=>by
 have:i=j:=by omega
 subst this;exact bR _
def Up.more{p:Array Nat}{m:Nat}(h:Up key p m)(h1:1≤m)(hk:O.kle (Key key p (m-1)) (Key key p m)):Up key p (m+1):=fun i j hij hj=>by
 by_cases e:j=m
 ·subst e;by_cases e2:i=j
  ·subst e2;exact bR _
  ·exact KeyOrd.kle_trans (h i (j-1) (by omega) (by omega)) hk
 ·exact h i j hij (by omega)
def Dn.more{p:Array Nat}{m:Nat}(h:Dn key p m)(h1:1≤m)(hk:O.kle (Key key p m) (Key key p (m-1))):Dn key p (m+1):=fun i j hij hj=>by
 by_cases e:j=m
 ·subst e;by_cases e2:i=j
  ·subst e2;exact bR _
  ·exact KeyOrd.kle_trans hk (h i (j-1) (by omega) (by omega))
 ·exact h i j hij (by omega)
def asc{p:Array Nat}(hp:Pm n p):∀(f m:Nat),1≤m→Up key p m→Wp (GA key) n (kas_asc p f m) fun r=>m≤r∧r≤m+f∧Up key p r∧(r=m+f∨O.klt (Key key p r) (Key key p (r-1)))
 |0,m,_,h=>⟨aF _,Nat.le_refl _,h,.inl rfl⟩
 |f+1,m,h1,h=>by
  refine⟨hp.lt _,hp.lt _,?_⟩;cases c:GA key (p.getD m 0) (p.getD (m-1) 0) with
  |true=>exact⟨aF _,by omega,h,.inr c⟩
  |false =>
   simp only [Bool.false_eq_true,if_false];refine Wp.mono (fun r hr=>?_) _ (asc hp f (m+1) (by omega) (h.more h1 c));exact⟨by omega,by omega,hr.2.2.1,hr.2.2.2.elim (fun z=>.inl (by omega)) .inr⟩
def Eq(key:Nat→O.α)(p:Array Nat)(m q:Nat):Prop:=q<m∧∀k,m-(q+1)≤k→k<m→Key key p k=Key key p (m-1)
def rev_eq{p:Array Nat}{m q:Nat}(h:Eq key p m q)(hm:m≤p.size)(k:Nat):Key key (kas_rev p (m-(q+1)) m) k=Key key p k:=by
 unfold Key;rw [Iw hm];split
 ·have a:=h.2 (m-(q+1)+m-1-k) (by have:=h.1;omega) (by have:=h.1;omega);have b:=h.2 k (by omega) (by omega);exact a.trans b.symm
 ·rfl
def desc:∀(f:Nat) (p:Array Nat) (m q:Nat),Pm n p→1≤m→m+f≤n→Dn key p m→Eq key p m q→Wp (GA key) n (kas_desc f p m q) fun r=>Pm n r.1∧m≤r.2.1∧r.2.1≤m+f∧Dn key r.1 r.2.1∧Eq key r.1 r.2.1 r.2.2
 |0,p,m,q,hp,_,_,h,e=>⟨hp,Nat.le_refl _,Nat.le_refl _,h,e⟩
 |f+1,p,m,q,hp,h1,hf,h,e=>by
  refine⟨hp.lt _,hp.lt _,?_⟩;have hm:m≤p.size:=by rw [hp.size];omega
  cases c:GA key (p.getD m 0) (p.getD (m-1) 0) with
  |true =>
   have ck:O.klt (Key key p m) (Key key p (m-1)):=c;simp only [if_true];have fin:∀p':Array Nat,Pm n p'→(∀k,Key key p' k=Key key p k)→Wp (GA key) n (kas_desc f p' (m+1) 0) fun r=>Pm n r.1∧m≤r.2.1∧r.2.1≤m+(f+1)∧Dn key r.1 r.2.1∧Eq key r.1 r.2.1 r.2.2:=fun p' hp' hk=>by
    have hd:Dn key p' (m+1):=fun i j hij hj=>by rw [hk,hk];exact h.more h1 (KeyOrd.kle_of_klt ck) i j hij hj
    have he:Eq key p' (m+1) 0:=⟨by omega,fun k h1 h2=>by rw [show k=m+1-1 by omega]⟩;exact Wp.mono (fun r hr=>⟨hr.1,by omega,by omega,hr.2.2.2.1,hr.2.2.2.2⟩) _ (desc f p' (m+1) 0 hp' (by omega) (by omega) hd he)
   split
   ·exact fin _ (hp.rev _ _) (rev_eq e hm)
   ·exact fin _ hp fun _=>rfl
  |false =>
   simp only [Bool.false_eq_true,if_false];refine⟨hp.lt _,hp.lt _,?_⟩;cases d:GA key (p.getD (m-1) 0) (p.getD m 0) with
   |true =>
    simp only [if_true];exact⟨hp,Nat.le_refl _,Nat.le_add_right _ _,h,e⟩
   |false =>
    simp only [Bool.false_eq_true,if_false];have ek:Key key p m=Key key p (m-1):=KeyOrd.kle_antisymm (show O.kle (Key key p m) (Key key p (m-1)) from d) (show O.kle (Key key p (m-1)) (Key key p m) from c);refine Wp.mono (fun r hr=>⟨hr.1,by omega,by omega,hr.2.2.2.1,hr.2.2.2.2⟩) _ (desc f p (m+1) (q+1) hp (by omega) (by omega) (h.more h1 (by rw [ek];exact bR _)) ⟨by have:=e.1;omega,fun k h2 h3=>?_⟩);rw [show m+1-1=m by omega,ek];by_cases z:k=m
    ·rw [z,ek]
    ·exact e.2 k (by omega) (by omega)
def eX{p:Array Nat}{m:Nat}(h:Dn key p m)(hm:m≤p.size):Up key (kas_rev p 0 m) m:=fun i j hij hj=>by
 unfold Key;rw [Iw hm,Iw hm,if_pos ⟨bE _,by omega⟩,if_pos ⟨bE _,by omega⟩];exact h (0+m-1-j) (0+m-1-i) (by omega) (by omega)
def tail3{p:Array Nat}{m:Nat}(hp:Pm n p)(h1:1≤m)(hm:m≤n)(h:Dn key p m):Wp (GA key) n (kas_tail3 m n p) fun r=>Pm n r.2∧1≤r.1∧r.1≤n∧Up key r.2 r.1:=by
 unfold kas_tail3;refine Wp.bind _ (Wp.mono (fun r hr=>?_) _ (asc (hp.rev 0 m) (n-m) m h1 (eX h (by rw [hp.size];exact hm))));exact⟨hp.rev 0 m,by omega,by omega,hr.2.2.1⟩
def descPart{p:Array Nat}{m:Nat}(hp:Pm n p)(h1:1≤m)(hm:m+1≤n)(h:Dn key p (m+1)):Wp (GA key) n (kas_descPart m n p) fun r=>Pm n r.2∧1≤r.1∧r.1≤n∧Up key r.2 r.1:=by
 unfold kas_descPart;refine Wp.bind _ (Wp.mono (fun r hr=>?_) _ (desc (n-(m+1)) p (m+1) 0 hp (by omega) (by omega) h ⟨by omega,fun k h1 h2=>by rw [show k=m+1-1 by omega]⟩));obtain⟨a,b,c,d,e⟩:=hr;have hz:r.2.1≤r.1.size:=by rw [a.size];omega
 split
 ·refine tail3 (a.rev _ _) (by omega) (by omega) fun i j hij hj=>?_;rw [rev_eq e hz,rev_eq e hz];exact d i j hij hj
 ·exact tail3 a (by omega) (by omega) d
def count{p:Array Nat}(hp:Pm n p):Wp (GA key) n (kas_count n p) fun r=>Pm n r.2∧1≤r.1∧r.1≤n∧Up key r.2 r.1:=by
 have hn:=hp.pos;unfold kas_count;refine Wp.bind _ (Wp.mono (fun m hm=>?_) _ (asc hp (n-1) 1 (aF _) Up.one));obtain⟨h1,h2,h3,h4⟩:=hm;split
 ·exact⟨hp,h1,by omega,h3⟩
 ·rename_i hne;have hne':m≠n:=by simpa using hne
  have hk:O.klt (Key key p m) (Key key p (m-1)):=by
   rcases h4 with z|z
   ·exact absurd (by omega) hne'
   ·exact z
  have hz:m≤p.size:=by rw [hp.size];omega
  split
  ·refine⟨hp.lt _,hp.lt _,?_⟩;cases c:GA key (p.getD 0 0) (p.getD (m-1) 0) with
   |true=>simp only [if_true];exact⟨hp,h1,by omega,h3⟩
   |false =>
    simp only [Bool.false_eq_true,if_false];have all:∀k,k<m→Key key p k=Key key p (m-1):=fun k hk'=>KeyOrd.kle_antisymm (h3 k (m-1) (by omega) (by omega)) (KeyOrd.kle_trans (show O.kle (Key key p (m-1)) (Key key p 0) from c) (h3 0 k (by omega) hk'));have ek:∀k,Key key (kas_rev p 0 m) k=Key key p k:=fun k=>by
     by_cases hk':k<m
     ·have:Key key (kas_rev p 0 m) k=Key key p (0+m-1-k):=by
       unfold Key;rw [Iw hz,if_pos ⟨bE _,hk'⟩]
      rw [this,all _ (by omega),all k hk']
     ·unfold Key;rw [Iw hz,if_neg (by omega)]
    refine descPart (hp.rev _ _) h1 (by omega) fun i j hij hj=>?_;rw [ek,ek];by_cases e:j=m
    ·subst e;by_cases e2:i=j
     ·subst e2;exact bR _
     ·rw [all i (by omega)];exact KeyOrd.kle_of_klt hk
    ·rw [all i (by omega),all j (by omega)];exact bR _
  ·have:m=1:=by omega
   subst this;refine descPart hp h1 (by omega) fun i j hij hj=>?_;by_cases e:i=j
   ·subst e;exact bR _
   ·rw [show i=0 by omega,show j=1 by omega];exact KeyOrd.kle_of_klt hk
def place{p:Array Nat}{k:Nat}(hp:Pm n p)(hs:Up key p k):∀(f l r:Nat),l≤r→r≤k→r-l≤f→(∀i,i<l→O.kle (Key key p i) (Key key p k))→(∀i,r≤i→i<k→O.klt (Key key p k) (Key key p i)) →
  Wp (GA key) n (kas_place p k f l r) fun x=>x≤k∧(∀i,i<x→O.kle (Key key p i) (Key key p k))∧∀i,x≤i→i<k→O.klt (Key key p k) (Key key p i)
 |0,l,r,h1,h2,h3,a,b=>by
  have:l=r:=by omega
  subst this;exact⟨h2,a,b⟩
 |f+1,l,r,h1,h2,h3,a,b=>by
  unfold kas_place;split
  ·have:l=r:=by omega
   subst this;exact⟨h2,a,b⟩
  ·refine⟨hp.lt _,hp.lt _,?_⟩;cases c:GA key (p.getD k 0) (p.getD ((l+r) / 2) 0) with
   |true =>
    simp only [if_true];exact place hp hs f l ((l+r) / 2) (by omega) (by omega) (by omega) a fun i x1 x2=>KeyOrd.klt_of_klt_of_kle (show O.klt (Key key p k) (Key key p ((l+r) / 2)) from c) (hs _ _ x1 x2)
   |false =>
    simp only [Bool.false_eq_true,if_false];exact place hp hs f ((l+r) / 2+1) r (by omega) h2 (by omega) (fun i x1=>KeyOrd.kle_trans (hs i ((l+r) / 2) (by omega) (by omega)) (show O.kle (Key key p ((l+r) / 2)) (Key key p k) from c)) b
def bin:∀(f:Nat) (p:Array Nat) (k:Nat),Pm n p→1≤k→k+f=n→Up key p k→Wp (GA key) n (kas_bin f p k) fun r=>Pm n r∧Up key r n
 |0,p,k,hp,_,hk,h=>by
  have:k=n:=by omega
  subst this;exact⟨hp,h⟩
 |f+1,p,k,hp,h1,hk,h=>by
  have hks:k<p.size:=by rw [hp.size];omega
  refine Wp.bind _ (Wp.mono (fun l hl=>?_) _ (place hp h k 0 k (bE _) (aF _) (by omega) (fun i z=>absurd z (by omega)) fun i z1 z2=>absurd z1 (by omega)));obtain⟨hlk,hlo,hhi⟩:=hl;refine bin f _ (k+1) (hp.bubble _ _) (by omega) (by omega) fun i j hij hj=>?_;have kb:∀x,Key key (PyProof.Rows.bubble p k (k-l)) x=if x=l then Key key p k else if l<x∧x≤k then Key key p (x-1) else Key key p x:=fun x=>by
   unfold Key;rw [T9 hks (by omega),show k-(k-l)=l by omega];split
   ·rfl
   ·split<;>rfl
  rw [kb,kb]
  repeat' split
  all_goals first
   |(exfalso;omega)
   |exact bR _
   |exact hlo _ (by omega)
   |exact KeyOrd.kle_of_klt (hhi _ (by omega) (by omega))
   |exact h _ _ (by omega) (by omega)
def sort(hn:0<n):Wp (GA key) n (kas_sort n) fun p=>Pm n p∧Up key p n:=by
 have hp:Pm n (List.toArray (List.range n)):=⟨Array.Perm.refl _,hn⟩;unfold kas_sort;refine Wp.bind _ (Wp.mono (fun r hr=>?_) _ (count hp));obtain⟨a,b,c,d⟩:=hr;split
 ·rw [show max r.1 1=r.1 by omega];exact bin _ _ _ a b (by omega) d
 ·have:r.1=n:=by omega
  rw [this]at d;exact⟨a,d⟩
end
end SM
namespace Tr
def NZ(x:Tr):∀l:List Tr,(ins x l).Perm (x::l)
 |[]=>.refl _
 |y::r=>by
  rw [ins];split
  ·exact((NZ x r).cons y).trans (.swap x y r)
  ·exact .refl _
def Io:∀l:List Tr,(CA l).Perm l
 |[]=>.refl _
 |x::r=>by
  rw [CA];exact(NZ x (CA r)).trans ((Io r).cons x)
abbrev Pa(l:List Tr):Prop:=l.Pairwise fun a b=>lt a b=false
def Sx(x:Tr):∀l:List Tr,Pa l→Pa (ins x l)
 |[],_=>List.pairwise_singleton _ _
 |y::r,h=>by
  obtain⟨h1,h2⟩:=List.pairwise_cons.mp h;rw [ins];split
  ·rename_i c;refine List.pairwise_cons.mpr ⟨fun z hz=>?_,Sx x r h2⟩;rcases aN.mp ((NZ x r).mem_iff.mp hz) with rfl|hz
   ·exact lt_asymm c
   ·exact h1 z hz
  ·rename_i c;have c':lt x y=false:=by simpa using c
   refine List.pairwise_cons.mpr ⟨fun z hz=>?_,h⟩;rcases aN.mp hz with rfl|hz
   ·exact c'
   ·cases e:lt x z with
    |false=>rfl
    |true =>
     rcases NG x y z e with q|q
     ·rw [c']at q;cases q
     ·rw [h1 z hz]at q;cases q
def Iu:∀l:List Tr,Pa (CA l)
 |[]=>List.Pairwise.nil
 |x::r=>by rw [CA];exact Sx x _ (Iu r)
def J0:∀ {l m:List Tr},Pa l→Pa m→l.Perm m→l=m
 |[],m,_,_,p=>(List.nil_perm.mp p).symm
 |x::r,[],_,_,p=>absurd p.length_eq (by simp)
 |x::r,y::q,h1,h2,p=>by
  obtain⟨a1,a2⟩:=List.pairwise_cons.mp h1;obtain⟨b1,b2⟩:=List.pairwise_cons.mp h2;have hx:x∈y::q:=p.mem_iff.mp aR;have hy:y∈x::r:=p.mem_iff.mpr aR;have e:x=y:=by
   rcases aN.mp hx with e|hx
   ·exact e
   ·rcases aN.mp hy with e|hy
    ·exact e.symm
    ·exact Im x y (a1 y hy) (b1 x hx)
  subst e;rw [J0 a2 b2 (List.Perm.cons_inv p)]
def Xa{l m:List Tr}(h:Pa m)(p:m.Perm l):m=CA l:=J0 h (Iu l) (p.trans (Io l).symm)
def VU{l m:List Tr}(h:m.Pairwise fun a b=>lt b a=false)(p:m.Perm l):m=(CA l).reverse:=by
 have:m.reverse=CA l:=Xa (List.pairwise_reverse.mpr h) ((List.reverse_perm m).trans p);rw [←this,List.reverse_reverse]
def Md(n:Nat):∀l:List Tr,(of l).deep≤n ↔ ∀c∈l,c.deep+1≤n
 |[]=>by simp [of,deep]
 |b::r=>by
  rw [of,deep,List.forall_mem_cons,←Md n r];omega
def Wt{l m:List Tr}(p:l.Perm m):(of l).deep≤(of m).deep:=(Md _ l).mpr fun c hc=>(Md _ m).mp (aF _) c (p.mem_iff.mp hc)
def ZZ(t:Tr):(of t.bs.reverse).deep≤t.deep:=by
 have:=Wt (List.reverse_perm t.bs)
 rwa [RH]at this
def ord:PyProof.Rows.KeyOrd where
 α:=Tr
 blt:=lt
 irrefl:=lt_irrefl
 trans:=lt_trans
 negTrans:=NG
 total:=Im
end Tr
namespace TH
open PySem PySem.W PyProof.Rows PySem.SeqAt
def Vs.at{h:Heap}:∀ {t:Tr} {us:List VL} {i:Nat},Vs h t us→i<us.length→∃(a:AD) (its:List VL) (c:Tr),us.getD i Value.none=.ref a∧h.IsTuple a its.toArray∧Vs h c its∧t.bs[i]? = some c∧c.deep<t.deep
 |.nil,us,i,e,hi=>by rw [Vs]at e;subst e;exact absurd hi (ao _)
 |.cons b r,us,i,e,hi=>by
  rw [Vs]at e;obtain⟨a,its,rest,rfl,h1,h2,h3⟩:=e;have hd:(Tr.cons b r).deep=max (b.deep+1) r.deep:=rfl;cases i with
  |zero=>exact⟨a,its,b,rfl,h1,h2,rfl,by omega⟩
  |succ i =>
   obtain⟨a',its',c,q1,q2,q3,q4,q5⟩:=Vs.at (i:=i) h3 (by simpa using hi);exact⟨a',its',c,by simpa using q1,q2,q3,by simpa [Tr.bs]using q4,by omega⟩
def Vs.JF{h:Heap}:∀(ts:List Tr) (us:List VL),us.length=ts.length→(∀i,i<ts.length→∃(a:AD) (its:List VL) (c:Tr),us[i]? = some (.ref a)∧h.IsTuple a its.toArray∧Vs h c its∧ts[i]? = some c)→Vs h (Tr.of ts) us
 |[],us,hl,_=>by
  rw [Tr.of,Vs];exact ax (by simpa using hl)
 |t::ts,[],hl,_=>by simp at hl
 |t::ts,u::us,hl,h=>by
  rw [Tr.of,Vs];obtain⟨a,its,c,e1,e2,e3,e4⟩:=h 0 (by simp);simp at e1 e4;subst e1 e4;refine⟨a,its,us,rfl,e2,e3,Vs.JF ts us (by simpa using hl) fun i hi=>?_⟩;obtain⟨a',its',c',q1,q2,q3,q4⟩:=h (i+1) (by simpa using hi);exact⟨a',its',c',by simpa using q1,q2,q3,by simpa using q4⟩
def Vs.all{h:Heap}{t:Tr}{us:List VL}(e:Vs h t us):∀i,i<t.bs.length→∃(a:AD) (its:List VL) (c:Tr),us[i]? = some (.ref a)∧h.IsTuple a its.toArray∧Vs h c its∧t.bs[i]? = some c:=fun i hi=>by
 have hl:i<us.length:=by rw [Vs.length e,←Tr.GK];exact hi
 obtain⟨a,its,c,q1,q2,q3,q4,_⟩:=e.at hl;refine⟨a,its,c,?_,q2,q3,q4⟩;rw [List.getD_eq_getElem?_getD,List.getElem?_eq_getElem hl]at q1;rw [List.getElem?_eq_getElem hl]
 simpa using q1
section
variable{prog:Program}{w:World}{A:Around}{E:VL→SD→Prop}{s:SD}{t u:Tr}{a b:AD}{its its':List VL}{Q:Bool→SD→Prop}
def UO(h1:s.heap.IsTuple a its.toArray)(k1:Vs s.heap t its)(h2:s.heap.IsTuple b its'.toArray)(k2:Vs s.heap u its')(hu:A.units+t.deep<cLine)(h:Q (Tr.lt t u) s):wpAny (model prog w) A (oneLt' false (.ref a) (.ref b)) Q E s:=by
 rw [oneLt'_eq];simp only [Bool.false_eq_true,if_false];exact Wb (VQ (t.deep+1) t u A s a b its its' (bW _) h1 k1 h2 k2 hu prog w E _ (wpAny_truthy_bool h))
def cV(h1:s.heap.IsTuple a its.toArray)(k1:Vs s.heap t its)(h2:s.heap.IsTuple b its'.toArray)(k2:Vs s.heap u its')(hu:A.units+t.deep<cLine)(h:Q (Tr.lt t u) s):wpAny (model prog w) A (oneLt' true (.ref a) (.ref b)) Q E s:=by
 rw [oneLt'_eq];simp only [if_true];refine Wb (wpAny_cRoomFor (by omega) ?_);obtain⟨⟨cls,dd,data,sl⟩,ho,hc,n,hdt⟩:=id h1;obtain⟨⟨cls2,dd2,data2,sl2⟩,ho2,hc2,n2,hdt2⟩:=id h2;simp only at hc hdt hc2 hdt2;subst hc hdt hc2 hdt2;refine Wb (wpAny_callSpecialIfBound?_slot (T := "tuple") ⟨_,ho,rfl⟩ PySem.F.slot_tuple_lt (call_meets PySem.F.slot_tuple_lt ⟨_,ho,rfl⟩ PySem.F.entry_tuple_lt (PySem.F.args_tuple_lt_2 _ _)
  (S0 t.deep (VQ t.deep) a b its.toArray its'.toArray n n2 dd dd2 sl sl2 t u (aF _)) ⟨ho,ho2,by simpa using k1,by simpa using k2,hu,?_⟩))
 exact wpAny_truthy_bool h
def U2:∀(t u:Tr) (us vs:List VL) (i:Nat),Vs s.heap t us→Vs s.heap u vs→A.units+t.deep≤cLine→Q (Tr.lt t u) s→KatLex prog w A false (decide (t.len<u.len)) Q (us.zip vs) i s
 |.nil,.nil,us,vs,i,e,f,_,h=>by
  rw [Vs]at e;subst e;rw [List.zip_nil_left];exact kat_nil h
 |.nil,.cons c q,us,vs,i,e,f,_,h=>by
  rw [Vs]at e;subst e;rw [List.zip_nil_left];refine kat_nil ?_;rw [show decide (Tr.nil.len<(Tr.cons c q).len)=true from decide_eq_true (Nat.zero_lt_succ _)];exact h
 |.cons b r,.nil,us,vs,i,e,f,_,h=>by
  rw [Vs]at f;subst f;rw [List.zip_nil_right];refine kat_nil ?_;rw [show decide ((Tr.cons b r).len<Tr.nil.len)=false from bQ (ao _)];exact h
 |.cons b r,.cons c q,us,vs,i,e,f,hu,h=>by
  rw [Vs]at e f;obtain⟨a,its,rest,rfl,k1,k2,k3⟩:=e;obtain⟨a',its',rest',rfl,l1,l2,l3⟩:=f;have hd:(Tr.cons b r).deep=max (b.deep+1) r.deep:=rfl;rw [List.zip_cons_cons,show decide ((Tr.cons b r).len<(Tr.cons c q).len)=decide (r.len<q.len) from by simp [Tr.len]];rw [Tr.lt]at h;refine kat_cons (SE k1 k2 l1 l2 (by omega) prog w _ _ ?_);by_cases hbc:b=c
  ·rw [decide_eq_true hbc];rw [if_pos hbc]at h;exact kat_yes (U2 r q rest rest' (i+1) k3 l3 (by omega) h)
  ·rw [decide_eq_false hbc];rw [if_neg hbc]at h;exact kat_no (by rw [Bool.false_and];exact UO k1 k2 l1 l2 (by omega) h)
def b9(h1:s.heap.IsTuple a its.toArray)(k1:Vs s.heap t its)(h2:s.heap.IsTuple b its'.toArray)(k2:Vs s.heap u its')(hu:A.units+t.deep<cLine)(h:Q (Tr.lt t u) s):wpAny (model prog w) A (keyLt' (tuples' false) (.ref a) (.ref b)) Q E s:=by
 obtain⟨o,ho,hc,n,hd⟩:=id h1;obtain⟨o2,ho2,hc2,n2,hd2⟩:=id h2;refine kat_lt ho hd ho2 hd2 ?_;have z1:its.toArray.size=t.len:=by rw [←Vs.length k1];simp
 have z2:its'.toArray.size=u.len:=by rw [←Vs.length k2];simp
 rw [z1,z2];exact U2 t u its its' 0 k1 k2 (by omega) h
def Rr(κ:SortKind):Prop:=κ=general'∨κ=oneType'∨κ=tuples' false
def cn{κ:SortKind}(hκ:Rr κ)(h1:s.heap.IsTuple a its.toArray)(k1:Vs s.heap t its)(h2:s.heap.IsTuple b its'.toArray)(k2:Vs s.heap u its')(hu:A.units+t.deep<cLine)(h:Q (Tr.lt t u) s):wpAny (model prog w) A (keyLt' κ (.ref a) (.ref b)) Q E s:=by
 rcases hκ with rfl|rfl|rfl
 ·exact UO h1 k1 h2 k2 hu h
 ·rw [keyLt'_oneType];exact cV h1 k1 h2 k2 hu h
 ·exact b9 h1 k1 h2 k2 hu h
def NJ{M:Model}{h:Heap}{a:AD}{x:Array VL}(h1:h.IsTuple a x):Looks M h (typeOf (.ref a)) (.type "tuple"):=by
 obtain⟨o,ho,hc,_⟩:=h1;exact hc ▸ (Looks.ld ho).andThen .now
def Ql{M:Model}:∀(t:Tr) (us:List VL) {Q:List (Option VL)→SD→Prop},Vs s.heap t us→(∀fs:List (Option VL),(∀v,some v∈fs→Looks M s.heap (typeOf v) (.type "tuple"))→Q fs s)→wpAny M A (us.mapM firstOfTuple') Q E s
 |.nil,us,Q,e,h=>by
  rw [Vs]at e;subst e;rw [List.mapM_nil];exact aA (h [] fun _ z=>by cases z)
 |.cons b r,us,Q,e,h=>by
  rw [Vs]at e;obtain⟨a,its,rest,rfl,h1,h2,h3⟩:=e;obtain⟨o,ho,hc,n,hd⟩:=id h1;rw [List.mapM_cons];refine Wb ?_;rw [kas_first_eq];refine Wb (Looks.here (show Looks M s.heap (typeOf (.ref a)) o.cls from(Looks.ld ho).andThen .now) ?_);rw [hc,if_neg (by first|decide|simp)];refine Wb (listItems_at ho hd (aA ?_));refine Wb (Ql r rest (Q:=fun bs s'=>wpAny M A (pure (its.toArray[0]? :: bs)) Q E s') h3 fun fs hfs=>aA (h _ fun v hv=>?_));rcases aN.mp hv with z|z
  ·cases b with
   |nil=>rw [Vs]at h2;subst h2;simp at z
   |cons c q =>
    rw [Vs]at h2;obtain⟨a',its',rest',rfl,k1,_⟩:=h2;simp at z;subst z;exact NJ k1
  ·exact hfs v z
def VD{M:Model}{vs:List VL}{Q:Option VL→SD→Prop}(hT:∀v∈vs,Looks M s.heap (typeOf v) (.type "tuple"))(h0:vs=[]→Q none s)(h1:Q (some (.type "tuple")) s):wpAny M A (oneTypeOnly' vs.toArray) Q E s:=by
 rw [oneTypeOnly'_eq,List.mapM_toArray,map_eq_pure_bind];refine Wb (Wb (kas_mapM (r:=Value.type "tuple") _ (fun v hv Q' hq=>(hT v hv).here hq) (aA ?_)));cases vs with
 |nil=>exact aA (h0 rfl)
 |cons f r =>
  have hall:((List.map (fun _=>Value.type "tuple") (f::r)).toArray.all fun x=>x==Value.type "tuple")=true:=by
   simp only [List.all_toArray,List.all_map,List.all_eq_true];intro _ _
   rfl
  have e0:(List.map (fun _=>Value.type "tuple") (f::r)).toArray[0]? = some (Value.type "tuple"):=by simp
  rw [e0];simp only [hall,if_true];exact aA h1
def cy{M:Model}{t:Tr}{us:List VL}{Q:SortKind→SD→Prop}(e:Vs s.heap t us)(h:∀κ,Rr κ→Q κ s):wpAny M A (keyKind' us.toArray) Q E s:=by
 rw [kat_kind_eq,List.mapM_toArray,map_eq_pure_bind];refine Wb (Wb (Ql t us e fun fs hfs=>aA ?_));split
 ·refine Wb (bP ?_);have e1:fs.toArray.filterMap id=(fs.filterMap id).toArray:=by simp
  rw [e1];have hl:∀v∈fs.filterMap id,Looks M s.heap (typeOf v) (.type "tuple"):=fun v hv=>hfs v (by simpa using hv);refine Wb (VD hl (fun _=>?_) ?_)
  ·exact aA (h _ (.inr (.inr rfl)))
  ·exact aA (h _ (.inr (.inr rfl)))
 ·split
  ·exact aA (h _ (.inl rfl))
  ·have hl:∀v∈us,Looks M s.heap (typeOf v) (.type "tuple"):=fun v hv=>by
    obtain⟨i,hi,rfl⟩:=List.getElem_of_mem hv;obtain⟨a,its,c,q1,q2,_⟩:=e.at hi;rw [List.getD_eq_getElem?_getD,List.getElem?_eq_getElem hi]at q1;simp at q1;rw [q1];exact NJ q2
   refine Wb (VD hl (fun _=>?_) ?_)
   ·exact aA (h _ (.inl rfl))
   ·exact aA (h _ (.inr (.inl rfl)))
def Sa{α:Type}{cmp:Nat→Nat→(Bool→SD→Prop)→SD→Prop}{lt:Nat→Nat→Bool}{n:Nat}{Q':α→Prop}(hc:∀i j C,i<n→j<n→C (lt i j) s→cmp i j C s):∀T:KasT α,SM.Wp lt n T Q'→T.kasWp cmp (fun a s'=>s'=s∧Q' a) s
 |.ret a,h=>⟨rfl,h⟩
 |.ask i j k,h=>hc i j _ h.1 h.2.1 (Sa hc (k (lt i j)) h.2.2)
end
end TH
namespace TH
open PySem PySem.W PyProof.Rows PySem.SeqAt
def Vs.keeps{h h':Heap}(k:∀b o,h.get? b=some o→o.cls=.type "tuple" → h'.get? b=some o):∀ {t:Tr} {us:List VL},Vs h t us→Vs h' t us
 |.nil,us,e=>by rw [Vs]at e ⊢;exact e
 |.cons b r,us,e=>by
  rw [Vs]at e ⊢;obtain⟨a,its,rest,rfl,⟨o,ho,hc,hd⟩,h2,h3⟩:=e;exact⟨a,its,rest,rfl,⟨o,k _ _ ho hc,hc,hd⟩,h2.keeps k,h3.keeps k⟩
def map_getD{α:Type}(d:α)(l:List α):(List.range l.length).map (fun i=>l.getD i d)=l:=by
 refine List.ext_getElem (by simp) fun i h1 h2=>?_;simp [h2]
def Vs.rev{h:Heap}{t:Tr}{us:List VL}(e:Vs h t us):Vs h (Tr.of t.bs.reverse) us.reverse:=by
 have hl:us.length=t.bs.length:=by rw [e.length,Tr.GK]
 refine Vs.JF _ _ (by simp [hl]) fun i hi=>?_;rw [List.length_reverse]at hi;obtain⟨a,its,c,q1,q2,q3,q4⟩:=e.all (t.bs.length-1-i) (by omega);exact⟨a,its,c,by rw [List.getElem?_reverse (by omega),hl];exact q1,q2,q3,by rw [List.getElem?_reverse hi];exact q4⟩
section
variable{prog:Program}{w:World}{A:Around}{E:VL→SD→Prop}{s:SD}
def Y4{κ:SortKind}{t:Tr}{ws:List VL}(hκ:Rr κ)(e:Vs s.heap t ws)(h2:2≤ws.length)(h64:ws.length<64)(hu:A.units+t.deep≤cLine) :
  wpAny (model prog w) A ((sortRuns').run (SortSt.mk' κ (ws.toArray.zip ws.toArray) #[] 7 none)) (fun r s'=>s'=s∧failedOf r.2=none∧∃ix:List Nat,ix.length=ws.length∧(∀i∈ix,i<ws.length) ∧
   (arrOf r.2).map (·.2)=(ix.map fun i=>ws.getD i Value.none).toArray∧(ix.map fun i=>t.bs.getD i .nil)=(Tr.CA t.bs).reverse) E s:=by
 have hl:ws.length=t.bs.length:=by rw [e.length,Tr.GK]
 have key:∀i,i<ws.length→∃(a:AD) (its:List VL),ws.getD i Value.none=.ref a∧s.heap.IsTuple a its.toArray∧Vs s.heap (t.bs.getD i .nil) its∧(t.bs.getD i .nil).deep<t.deep:=fun i hi=>by
  obtain⟨a,its,c,q1,q2,q3,q4,q5⟩:=e.at hi;have:t.bs.getD i .nil=c:=by rw [List.getD_eq_getElem?_getD,q4];rfl
  rw [this];exact⟨a,its,q1,q2,q3,q5⟩
 refine kat_run (Q:=fun st' s'=>s'=s∧failedOf st'=none∧∃ix:List Nat,ix.length=ws.length∧(∀i∈ix,i<ws.length)∧(arrOf st').map (·.2)=(ix.map fun i=>ws.getD i Value.none).toArray∧(ix.map fun i=>t.bs.getD i .nil)=(Tr.CA t.bs).reverse)
  (G:=fun p s'=>s'=s∧SM.Pm ws.length p∧SM.Up (O:=Tr.ord) (fun i=>t.bs.getD i .nil) p ws.length) rfl h2 h64 (fun p st' s' hp har hf hG=>?_)
  (Sa (lt:=SM.GA (O:=Tr.ord) fun i=>t.bs.getD i .nil) (n:=ws.length) (fun i j C hi hj hC=>?_) _ (SM.sort (by omega)))
 ·obtain⟨rfl,hpm,hup⟩:=hG;have h1:p.toList.Perm (List.range ws.length):=by simpa using Array.perm_iff_toList_perm.mp hpm.perm
  refine⟨rfl,hf,p.toList,by rw [Array.length_toList,hp],fun i hi=>bF.mp (h1.mem_iff.mp hi),kat_snds rfl har,?_⟩;have perm:(p.toList.map fun i=>t.bs.getD i .nil).Perm t.bs:=by
   have h3:=h1.map fun i=>t.bs.getD i Tr.nil
   rwa [hl,map_getD]at h3
  refine Tr.VU (List.pairwise_iff_getElem.mpr fun i j hi hj hij=>?_) perm;rw [List.length_map,Array.length_toList,hp]at hi hj;have:=hup i j (by omega) hj;have e1:∀k,k<ws.length→∀hk,(p.toList.map fun i=>t.bs.getD i Tr.nil)[k]'hk=t.bs.getD (p.getD k 0) .nil:=fun k hk hk'=>by
   rw [List.getElem_map,Array.getElem_toList,Array.getD,dif_pos (by omega)]
   rfl
  rw [e1 i hi,e1 j hj];exact this
 ·obtain⟨a,its,q1,q2,q3,q4⟩:=key i hi;obtain⟨a',its',r1,r2,r3,r4⟩:=key j hj;unfold kas_ask;rw [q1,r1];exact cn hκ q2 q3 r2 r3 (by omega) hC
def WK(b:Bool)(us:List VL)(hz:us.length<2):(if b=true then((if b=true then(us.toArray.zip us.toArray).reverse else us.toArray.zip us.toArray).map (·.2)).reverse else(if b=true then(us.toArray.zip us.toArray).reverse else us.toArray.zip us.toArray).map (·.2))=us.toArray:=by
 match us,hz with
 |[],_=>cases b<;>simp
 |[x],_=>cases b<;>simp
def Iq{a : AD}{us : List VL}{t : Tr}{n : Nat}{b : Bool}{P : PySem.Fin→SD→Prop}(ho : s.heap.get? a = some (seqObj "list" us.toArray n))(e : Vs s.heap t us)(h64 : us.length < 64)(hu : A.units + t.deep≤cLine)
 (h : ∀ ix : List Nat,ix.length = us.length→(∀ i∈ix,i < us.length)→(ix.map fun i => t.bs.getD i .nil) = (if b then Tr.CA t.bs else (Tr.CA t.bs).reverse)→P (.done (.ret .none)) { s with heap:=sortedHeap s.heap a us (ix.map fun i => us.getD i Value.none).toArray }) :
    wpAny (model prog w) A (Builtin.«list.sort» ⟨[.ref a],[(Str.ofString "reverse",.bool b)]⟩) P E s := by
  rw [list_sort_rev]
  have ha : a < s.heap.objs.size:=aE ho
  refine Wb (listItems_at ho rfl ?_)
  refine Wb (listUpdate_at ho rfl ?_ (by rw [List.size_toArray,sizeLine_eq]; omega) (bE _))
  obtain ⟨e1,ho1⟩ : ∃ e1,(s.heap.update a (Obj.mapSeq fun _ => #[])).get? a = some (seqObj "list" #[] e1):=⟨_,get?_update_seq ho (fun _ => #[])⟩
  refine Wb (seqEpoch_at ho1 rfl ?_)
  refine Wb (wpAny_newTuple ?_ (by show us.length≤_; rw [sizeLine_eq]; omega))
  refine Wb (wpAny_newList ?_ (bE _))
  refine aV ?_
  have ho6 : (((s.heap.update a (Obj.mapSeq fun _ => #[])).push (seqObj "tuple" us.toArray 0)).push (seqObj "list" #[] 0)).get? a = some (seqObj "list" #[] e1) := by
    rw [Heap.get?_push_ne _ _ _ (by rw [size_push',Heap.size_update]; exact aJ (az ha)),Heap.get?_push_ne _ _ _ (by rw [Heap.size_update]; exact aJ ha)]
    exact ho1
  have keep : ∀ c o,s.heap.get? c = some o→o.cls = .type "tuple" → (((s.heap.update a (Obj.mapSeq fun _ => #[])).push (seqObj "tuple" us.toArray 0)).push (seqObj "list" #[] 0)).get? c = some o:=fun c o hc hcl => by
    have hne : c≠a:=fun z => by
      rw [z,ho] at hc
      cases hc
      exact absurd (show Value.type "list" = Value.type "tuple" from hcl) (by decide)
    refine aC _ (aC _ ?_)
    rw [Heap.get?_update_ne _ _ _ _ hne]
    exact hc
  show wpAny (model prog w) A _ P E { s with heap:=((s.heap.update a (Obj.mapSeq fun _ => #[])).push (seqObj "tuple" us.toArray 0)).push (seqObj "list" #[] 0) }
  have e6:=e.keeps keep
  dsimp only
  have step : ∀ T : Sem PySem.Fin,wpAny (model prog w) A T P E { s with heap:=((s.heap.update a (Obj.mapSeq fun _ => #[])).push (seqObj "tuple" us.toArray 0)).push (seqObj "list" #[] 0) } →
      wpAny (model prog w) A (if b = true then (do let _ ← rule "list.sort.reverse"; T) else T) P E { s with heap:=((s.heap.update a (Obj.mapSeq fun _ => #[])).push (seqObj "tuple" us.toArray 0)).push (seqObj "list" #[] 0) } := by
    intro T hT
    split
    · exact Wb (bP hT)
    · exact hT
  refine step _ ?_
  by_cases h2 : us.toArray.size < 2
  · rw [if_pos h2,if_pos h2]
    refine Wb (aA ?_)
    rw [StateT.run_pure]
    refine Wb (aA ?_)
    dsimp only
    have hz : us.length < 2 := by simpa using h2
    have hout:=WK b us hz
    refine Wb (seqEpoch_at ho6 rfl ?_)
    refine Wb (listUpdate_at ho6 rfl ?_ (bE _) (by
      refine aO (Nat.le_of_eq (bM Array.size hout)) ?_
      rw [List.size_toArray,sizeLine_eq]; omega))
    simp only [bne_self_eq_false,Bool.false_eq_true,if_false]
    have hl : us.length = t.bs.length := by rw [e.length,Tr.GK]
    have fin:=h (List.range us.length) (by simp) (fun i hi => bF.mp hi) (by
      rw [hl,map_getD]
      match hbs : t.bs,(show t.bs.length < 2 by omega) with
      | [],_ => cases b <;> rfl
      | [_],_ => cases b <;> rfl)
    rw [map_getD] at fin
    rw [← hout] at fin
    exact aA fin
  · rw [if_neg h2,if_neg h2]
    have hz : 2≤us.length := by simpa using h2
    refine Wb (cy (s:={ s with heap:=((s.heap.update a (Obj.mapSeq fun _ => #[])).push (seqObj "tuple" us.toArray 0)).push (seqObj "list" #[] 0) }) e6 fun κ hκ => ?_)
    have hl : us.length = t.bs.length := by rw [e.length,Tr.GK]
    obtain ⟨ws,tw,ew,hwl,hws,hdp,pick⟩ : ∃ (ws : List VL) (tw : Tr),Vs (((s.heap.update a (Obj.mapSeq fun _ => #[])).push (seqObj "tuple" us.toArray 0)).push (seqObj "list" #[] 0)) tw ws∧ws.length = us.length ∧
        (if b = true then (us.toArray.zip us.toArray).reverse else us.toArray.zip us.toArray) = ws.toArray.zip ws.toArray∧tw.deep≤t.deep ∧
        ∀ (_b : Bool) (ix : List Nat),ix.length = ws.length→(∀ i∈ix,i < ws.length)→(ix.map fun i => tw.bs.getD i .nil) = (Tr.CA tw.bs).reverse→∃ iy : List Nat,iy.length = us.length∧(∀ i∈iy,i < us.length)∧(iy.map fun i => t.bs.getD i .nil) = (if b then Tr.CA t.bs else (Tr.CA t.bs).reverse) ∧
          (if b = true then ((ix.map fun i => ws.getD i Value.none).toArray).reverse else (ix.map fun i => ws.getD i Value.none).toArray) = (iy.map fun i => us.getD i Value.none).toArray := by
      cases b with
      | false => exact ⟨us,t,e6,rfl,rfl,Nat.le_refl _,fun _ ix h1 h2 h3 => ⟨ix,h1,h2,h3,rfl⟩⟩
      | true =>
        have hsrt : Tr.CA t.bs.reverse = Tr.CA t.bs:=Tr.Xa (Tr.Iu _) ((Tr.Io _).trans (List.reverse_perm _))
        refine ⟨us.reverse,Tr.of t.bs.reverse,e6.rev,by simp,kat_pairs (ks:=us) (vs:=us) true rfl,Tr.ZZ t,fun _ ix h1 h2 h3 => ⟨(ix.map fun i => us.length - 1 - i).reverse,by simpa using h1,fun i hi => ?_,?_,?_⟩⟩
        · rw [List.mem_reverse,List.mem_map] at hi
          obtain ⟨k,hk,rfl⟩:=hi
          have:=h2 k hk
          rw [List.length_reverse] at this
          omega
        · rw [Tr.Mo,hsrt] at h3
          rw [List.map_reverse,List.map_map]
          have : (ix.map ((fun i => t.bs.getD i Tr.nil) ∘ fun i => us.length - 1 - i)) = ix.map fun i => t.bs.reverse.getD i .nil:=bO fun i hi => by
            have:=h2 i hi
            rw [List.length_reverse] at this
            show t.bs.getD (us.length - 1 - i) Tr.nil = _
            rw [List.getD_eq_getElem?_getD,List.getD_eq_getElem?_getD,List.getElem?_reverse (by omega),hl]
          rw [this,h3,List.reverse_reverse]
          rfl
        · rw [if_pos rfl,List.map_reverse,List.map_map,List.reverse_toArray]
          congr 2
          exact bO fun i hi => by
            have:=h2 i hi
            rw [List.length_reverse] at this
            show us.reverse.getD i Value.none = us.getD (us.length - 1 - i) Value.none
            rw [List.getD_eq_getElem?_getD,List.getD_eq_getElem?_getD,List.getElem?_reverse (by omega)]
    rw [hws]
    refine Wb (ak (Y4 (s:={ s with heap:=((s.heap.update a (Obj.mapSeq fun _ => #[])).push (seqObj "tuple" us.toArray 0)).push (seqObj "list" #[] 0) }) hκ ew (by omega) (by omega) (by omega)) ?_ fun _ _ z => z)
    rintro ⟨⟨⟩,st'⟩ s' ⟨rfl,hf,ix,hil,hix,hout,hst⟩
    dsimp only
    refine Wb (seqEpoch_at ho6 rfl ?_)
    obtain ⟨iy,y1,y2,y3,hfin⟩ : ∃ iy : List Nat,iy.length = us.length∧(∀ i∈iy,i < us.length)∧(iy.map fun i => t.bs.getD i .nil) = (if b then Tr.CA t.bs else (Tr.CA t.bs).reverse) ∧
        (if b = true then ((arrOf st').map (·.2)).reverse else (arrOf st').map (·.2)) = (iy.map fun i => us.getD i Value.none).toArray := by
      rw [show (arrOf st').map (·.2) = _ from hout]
      exact pick b ix hil hix hst
    refine Wb (listUpdate_at ho6 rfl ?_ (bE _) (by
      refine aO (Nat.le_of_eq (bM Array.size hfin)) ?_
      rw [List.size_toArray,List.length_map,y1,sizeLine_eq]; omega))
    rw [show failedOf st' = none from hf]
    simp only [bne_self_eq_false,Bool.false_eq_true,if_false]
    have fin:=h iy y1 y2 y3
    rw [← hfin] at fin
    exact aA fin
end
end TH
namespace ET
open PySem
section
variable{prog:Program}{w:World}{A:Around}{E:VL→SD→Prop}{s:SD}
def next_item{it t:AD}{i:Nat}{items}{x:VL}{Q:VL→SD→Prop}(hit:s.heap.IsTupleIter it t i)(ht:s.heap.IsTuple t items)(hx:items[i]? = some x)
 (hQ:∀h',h'.IsTupleIter it t (i+1)→Heap.SameBut it s.heap h'→Q x { s with heap:=h' }):wpAny (model prog w) A (Builtin.SmallTypes.nextOf (.ref it)) Q E s:=by
 obtain⟨o,ho,hc,hd⟩:=id hit;obtain⟨ol,hol,_,nl,hdl⟩:=ht;unfold Builtin.SmallTypes.nextOf;refine Wb (aa (name:=Str.ofString "__next__") hit.typeIs F.slot_tuple_iterator_next
  (aT F.slot_tuple_iterator_next hit.typeIs F.entry_tuple_iterator_next ?_ (F.args_tuple_iterator_next_1 _)))
 show wpAny _ _ (field (.ref it) 0>>=_) _ _ s;refine Wb (aZ ho hd (x:=.ref t) rfl ?_);show wpAny _ _ (if(Value.ref t==Value.none)=true then _ else _) _ _ s;rw [if_neg (show ¬((Value.ref t==Value.none)=true) from aL)];show wpAny _ _ (field (.ref it) 1>>=_) _ _ s;refine Wb (aZ ho hd (x:=.int i 0) rfl ?_);show wpAny _ _ (seqItems? (.ref t)>>=_) _ _ s;refine Wb (aX hol hdl ?_);simp only [Int.toNat_natCast,hx];refine Wb (wpAny_setField ho hd (by simp) (aA ⟨x,rfl,wpAny_pure (hQ _ ?_ (af ..))⟩));exact⟨_,Heap.get?_update_self _ ho (Obj.isFreed_of_fields (Obj.data_mapFields hd _)),(Obj.cls_mapFields ..).trans hc,by
  rw [Obj.data_mapFields hd];simp [rawInt]⟩
def next_end{it t:AD}{i:Nat}{items}{Q:VL→SD→Prop}(hh:A.handled=none)(hit:s.heap.IsTupleIter it t i)(ht:s.heap.IsTuple t items)(hx:items[i]? = none)
 (hE:∀h' e,Heap.ExtBut it s.heap h'→(∃o,h'.get? e=some o∧o.cls=.type "StopIteration")→E (.ref e) { s with heap:=h' }):wpAny (model prog w) A (Builtin.SmallTypes.nextOf (.ref it)) Q E s:=by
 obtain⟨o,ho,hc,hd⟩:=id hit;obtain⟨ol,hol,_,nl,hdl⟩:=ht;unfold Builtin.SmallTypes.nextOf;refine Wb (aa (name:=Str.ofString "__next__") hit.typeIs F.slot_tuple_iterator_next
  (aT F.slot_tuple_iterator_next hit.typeIs F.entry_tuple_iterator_next ?_ (F.args_tuple_iterator_next_1 _)))
 show wpAny _ _ (field (.ref it) 0>>=_) _ _ s;refine Wb (aZ ho hd (x:=.ref t) rfl ?_);show wpAny _ _ (if(Value.ref t==Value.none)=true then _ else _) _ _ s;rw [if_neg (show ¬((Value.ref t==Value.none)=true) from aL)];show wpAny _ _ (field (.ref it) 1>>=_) _ _ s;refine Wb (aZ ho hd (x:=.int i 0) rfl ?_);show wpAny _ _ (seqItems? (.ref t)>>=_) _ _ s;refine Wb (aX hol hdl ?_);simp only [Int.toNat_natCast,hx];refine Wb (bP (Wb (wpAny_setField ho hd (by simp) ?_)));show wpAny _ _ (newExc (.type "StopIteration") []>>=_) _ _ _;refine Wb ?_;simp only [newExc,newTuple];refine Wb (aq ?_ (by size_fits));refine Wb (m:=firstArgMember _ _) (wpAny_of_eq (a:=Value.none) (by first|rfl|(simp only [firstArgMember];rfl)) ?_);refine aq ?_ (by size_fits);simp only [raiseNew];refine Wb (wpAny_handled ?_)
 first|rw [show A.in1.handled=none from hh]|rw [hh]
 refine Wb (aA (wpAny_throw ?_));exact hE _ _ (((af ..).extBut.push _).push _) ⟨_,Heap.get?_push_size _ rfl,rfl⟩
end
section
open AutoSeq1 (wpAny_loadPart')
def WL(l:AD)(items:Array VL)(n:Nat)(dct:Option AD)(sl:Array (Option VL)) :
  Meets (Builtin.«enumerate.__new__» ⟨[.type "enumerate",.ref l],[]⟩) (fun _ R s=>s.heap.get? l=some { cls:=.type "tuple",dict:=dct,data:=.seq items n,slots:=sl } ∧
   R (.ok (.ret (.ref (s.heap.push { cls:=.type "tuple_iterator",data:=.fields #[.ref l,.int 0 0] }).objs.size)))
    { s with heap:=(s.heap.push { cls:=.type "tuple_iterator",data:=.fields #[.ref l,.int 0 0] }).push { cls:=.type "enumerate",data:=.fields #[.none,.bool false,.ref s.heap.objs.size,rawInt 0,.none,.none] } }) :=
 .of_wp fun prog w A R s h=>by
  obtain⟨hp,g,d,tk,os⟩:=s;obtain⟨hl,h⟩:=h;have hsub:=sub_enumerate;have hL:Heap.IsTuple (Shared.heap ⟨hp,g,d,tk,os⟩) l items:=⟨_,hl,rfl,n,rfl⟩
  wp_walk using wpAny_loadPart' hl
  refine wpAny_stack_any fun st=>aA ?_;split
  ·rename_i c _ _ _ _ _;cases (c==Value.type "enumerate")
   ·wp_walk using wpAny_loadPart' hl,wpAny_pyIter_tuple hL
    exact⟨_,rfl,h⟩
   ·wp_walk using wpAny_loadPart' hl,wpAny_pyIter_tuple hL
    exact⟨_,rfl,h⟩
  ·wp_walk using wpAny_loadPart' hl,wpAny_pyIter_tuple hL
   exact⟨_,rfl,h⟩
def Xe{prog:Program}{w:World}{A:Around}{E:VL→SD→Prop}{s:SD}{l:AD}{items:Array VL}{Q:VL→SD→Prop}(hL:s.heap.IsTuple l items)
 (h:∀h',IsEnum h' (s.heap.objs.size+1) s.heap.objs.size 0 .none→h'.IsTupleIter s.heap.objs.size l 0→h'.objs.size=s.heap.objs.size+2 →
   (∀b o,s.heap.get? b=some o→h'.get? b=some o)→Q (.ref (s.heap.objs.size+1)) { s with heap:=h' }) :
  wpAny (model prog w) A (call (.type "enumerate") [.ref l]) Q E s:=by
 obtain⟨⟨c,dct,dt,sl⟩,hl,hc,n,hd⟩:=hL
 replace hc:c=.type "tuple" := hc
 replace hd:dt=.seq items n:=hd
 subst hc hd;refine callType_new F.called_enumerate (by decide) (F.typeCall_enumerate_1 _) (F.newCall_enumerate_1 _) (fun obj=>F.args_object_init_2 obj _) F.entry_enumerate_new
  (WL l items n dct sl) ⟨hl,?_⟩
 have hz:(s.heap.push { cls:=.type "tuple_iterator",data:=.fields #[.ref l,.int 0 0] }).objs.size=s.heap.objs.size+1:=Heap.size_push ..;show _∧_;rw [hz];have he:IsEnum ((s.heap.push { cls:=.type "tuple_iterator",data:=.fields #[.ref l,.int 0 0] }).push
   { cls:=.type "enumerate",data:=.fields #[.none,.bool false,.ref s.heap.objs.size,rawInt 0,.none,.none] }) (s.heap.objs.size+1) s.heap.objs.size 0 .none:=by
  have:=aH (s.heap.push { cls:=.type "tuple_iterator",data:=.fields #[.ref l,.int 0 0] })
   (o:={ cls:=.type "enumerate",data:=.fields #[.none,.bool false,.ref s.heap.objs.size,rawInt 0,.none,.none] }) rfl
  rw [hz]at this;exact this
 refine⟨⟨_,he,rfl⟩,h _ he ⟨_,Heap.get?_push_of_some _ (aH _ rfl),rfl,rfl⟩ (by rw [Heap.size_push,hz]) fun b o x=>aC _ (aC _ x)⟩
end
def draws{prog:Program}{w:World}{A:Around}(hh:A.handled=none)(it a:AD)(its:List VL)(hne:a≠it) :
  Draws prog w A it [it,a] its.length (fun i x=>its[i]? = some x) (fun i h=>h.IsTupleIter it a i∧h.IsTuple a its.toArray) where
 live:=fun i h st=>let⟨o,e,_⟩:=st.1;⟨o,e⟩
 frame:=fun i h h' st k=>by
  obtain⟨⟨o,e,r⟩,o2,e2,r2⟩:=st;exact⟨⟨o,k it (by simp) o e,r⟩,o2,k a (by simp) o2 e2,r2⟩
 item:=fun i s Q E hi st hQ=>next_item st.1 st.2 (x:=its[i]) (by simp [hi]) fun h' st' sb =>
  hQ _ h' s.toks (by simp [hi]) ⟨st',let⟨o,e,r⟩:=st.2;⟨o,(sb.2 a hne).trans e,r⟩⟩ sb
 done:=fun s Q E st hE=>next_end hh st.1 st.2 (by simp) hE
end ET
namespace L2
open PySem PySem.Spec PyProof.Rows
def Ts(H:Hp):Tr→List V→Prop
 |.nil,xs=>xs=[]
 |.cons b r,xs=>∃(a:AD) (ys zs:List V),xs=.ref a::zs∧H a=some (.tup ys)∧Ts H b ys∧Ts H r zs
def Tv(H:Hp)(t:Tr)(v:V):Prop:=∃(a:AD) (ys:List V),v=.ref a∧H a=some (.tup ys)∧Ts H t ys
def Ts.same{H H':Hp}(e:AK H H'):∀ {t:Tr} {xs:List V},Ts H t xs→Ts H' t xs
 |.nil,xs,h=>by rw [Ts]at h ⊢;exact h
 |.cons b r,xs,h=>by
  rw [Ts]at h ⊢;obtain⟨a,ys,zs,e1,h1,h2,h3⟩:=h;exact⟨a,ys,zs,e1,e _ _ h1,h2.same e,h3.same e⟩
def Tv.same{H H':Hp}{t:Tr}{v:V}(h:Tv H t v)(e:AK H H'):Tv H' t v:=let⟨a,ys,e1,h1,h2⟩:=h;⟨a,ys,e1,e _ _ h1,h2.same e⟩
def JL(H H':Hp):Prop:=∀b xs,H b=some (.tup xs)→H' b=some (.tup xs)
def JL.of{H H':Hp}(e:AK H H'):JL H H':=fun b xs h=>e b _ h
def JL.upd{H:Hp}{l:AD}{ys:List V}{o:HO}(hl:H l=some (.lst ys)):JL H (upd H l o):=fun b xs h=>by
 rw [AJ (Vx h hl (by intro z;cases z))];exact h
def Ts.BG{H H':Hp}(e:JL H H'):∀ {t:Tr} {xs:List V},Ts H t xs→Ts H' t xs
 |.nil,xs,h=>by rw [Ts]at h ⊢;exact h
 |.cons b r,xs,h=>by
  rw [Ts]at h ⊢;obtain⟨a,ys,zs,e1,h1,h2,h3⟩:=h;exact⟨a,ys,zs,e1,e _ _ h1,h2.BG e,h3.BG e⟩
def Tv.BG{H H':Hp}{t:Tr}{v:V}(h:Tv H t v)(e:JL H H'):Tv H' t v:=let⟨a,ys,e1,h1,h2⟩:=h;⟨a,ys,e1,e _ _ h1,h2.BG e⟩
def Ts.length{H:Hp}:∀ {t:Tr} {xs:List V},Ts H t xs→xs.length=t.len
 |.nil,xs,h=>by rw [Ts]at h;rw [h];rfl
 |.cons b r,xs,h=>by
  rw [Ts]at h;obtain⟨a,ys,zs,rfl,_,_,h3⟩:=h;rw [List.length_cons,Tr.len,h3.length]
def Ts.len{H:Hp}{t:Tr}{xs:List V}(h:Ts H t xs):xs.length=t.bs.length:=by rw [h.length,Tr.GK]
def Ts.get{H:Hp}:∀ {t:Tr} {xs:List V} {i:Nat} {v:V},Ts H t xs→xs[i]? = some v→∃c,t.bs[i]? = some c∧Tv H c v
 |.nil,xs,i,v,h,e=>by rw [Ts]at h;subst h;simp at e
 |.cons b r,xs,i,v,h,e=>by
  rw [Ts]at h;obtain⟨a,ys,zs,rfl,h1,h2,h3⟩:=h;cases i with
  |zero=>simp at e;subst e;exact⟨b,rfl,a,ys,rfl,h1,h2⟩
  |succ i =>
   obtain⟨c,q1,q2⟩:=h3.get (i:=i) (v:=v) (by simpa using e);exact⟨c,by simpa [Tr.bs]using q1,q2⟩
def Ts.JF{H:Hp}:∀(ts:List Tr) (xs:List V),xs.length=ts.length→(∀(i:Nat) (v:V),xs[i]? = some v→∃c,ts[i]? = some c∧Tv H c v)→Ts H (Tr.of ts) xs
 |[],xs,hl,_=>by
  rw [Tr.of,Ts];exact ax (by simpa using hl)
 |t::ts,[],hl,_=>by simp at hl
 |t::ts,x::xs,hl,h=>by
  rw [Tr.of,Ts];obtain⟨c,e1,a,ys,rfl,h1,h2⟩:=h 0 x rfl;simp at e1;subst e1;exact⟨a,ys,xs,rfl,h1,h2,Ts.JF ts xs (by simpa using hl) fun i v e=>by
   obtain⟨c,q1,q2⟩:=h (i+1) v (by simpa using e);exact⟨c,by simpa using q1,q2⟩⟩
def Ts.pick{H:Hp}{t:Tr}{xs:List V}(h:Ts H t xs)(ix:List Nat)(hi:∀i∈ix,i<xs.length):Ts H (Tr.of (ix.map fun i=>t.bs.getD i .nil)) (ix.map fun i=>xs.getD i .Bb):=by
 refine Ts.JF _ _ (by simp) fun i v e=>?_;rw [List.getElem?_map]at e ⊢;cases q:ix[i]? with
 |none=>rw [q]at e;cases e
 |some k =>
  rw [q]at e;have hk:k<xs.length:=hi k (aQ q);simp only [Option.map_some,Option.some.injEq]at e;obtain⟨c,q1,q2⟩:=h.get (i:=k) (v:=v) (by rw [←e,List.getD_eq_getElem?_getD,List.getElem?_eq_getElem hk];rfl);refine⟨c,?_,q2⟩;simp only [Option.map_some,List.getD_eq_getElem?_getD,q1]
  rfl
section
variable{X:Cx}{pins:List (AD×Obj)}{σ:St}{H:Hp}{s:SD}
def Ts.vs(I:Inv X pins σ H s):∀ {t:Tr} {xs:List V} {us:List VL},Ts H t xs→Vals xs us→TH.Vs s.heap t us
 |.nil,xs,us,h,r=>by
  rw [Ts]at h;subst h;cases r;rw [TH.Vs]
 |.cons b rr,xs,us,h,r=>by
  rw [Ts]at h;obtain⟨a,ys,zs,rfl,h1,h2,h3⟩:=h;cases r with
  |cons r1 r2 =>
   cases r1;obtain⟨its,rv,p,_⟩:=I.tuple (A7.of (K:=X.K) h1);rw [TH.Vs];exact⟨a,its,_,rfl,p,Ts.vs I h2 rv,Ts.vs I h3 r2⟩
end
def fg(K:Fg)(a:AD):It :=
 ⟨fun i H=>∃xs x,A7 K H a xs∧xs[i]? = some x,fun i H v H'=>∃p x,v=.ref p∧H p=none∧H'=upd H p (.tup [.int i,x])∧∀xs,A7 K H a xs→xs[i]? = some x,fun i H=>∃xs,A7 K H a xs∧xs.length=i⟩
def WY{P:Program}{w:World}{K:Fg}{elts:List Expr}{x1}{pos:Pos}(a e it:AD)(hne:e≠it) :
  Turn P w K (.Tuple elts x1 pos) (fg K a) [e,it] e (fun i h=>(∃old,IsEnum h e it (i:Nat) old)∧h.IsTupleIter it a i) where
 mem:=by simp
 obj:=fun i h st b hb=>by
  rcases aN.mp hb with rfl|hb
  ·obtain⟨⟨old,q⟩,_⟩:=st;exact⟨_,q,fun v z=>by cases z⟩
  ·have e2:b=it:=by simpa using hb
   subst e2;obtain⟨_,o,q,c,d⟩:=st;exact⟨o,q,fun v z=>by rw [d]at z;cases z⟩
 keep:=fun i h h' st k=>by
  obtain⟨⟨old,q⟩,o,q2,r⟩:=st;exact⟨⟨old,k e (by simp) _ q⟩,o,k it (by simp) _ q2,r⟩
 item:=by
  intro X hP hw hK hc i pins s σ H E I hf st hg;subst hP hw hK;obtain⟨xs,x,hq,hx⟩:=hg;obtain⟨its,rv,p,hz⟩:=I.tuple hq;obtain⟨u,hu,ru⟩:=rv.get hx;obtain⟨⟨old,he⟩,hit⟩:=st;have hai:a≠it:=fun z=>by
   obtain⟨o,e1,c1,_⟩:=p;obtain⟨o2,e2,c2,_⟩:=hit;rw [z,e2]at e1;cases e1;rw [c1]at c2;exact absurd c2 (by decide)
  have hae:a≠e:=fun z=>by
   obtain⟨o,e1,c1,_⟩:=p;rw [z,he]at e1;cases e1;exact absurd (show Value.type "enumerate" = Value.type "tuple" from c1) (by decide)
  have hlt:i<its.length:=(aD.mp hu).1;have hE0:=hf e (by simp);have hI0:=hf it (by simp);refine wpAny_pyNext_enum_itemD (ET.draws (prog:=X.prog) (w:=X.w) (A:=X.A.in1) (I.ok.hd hc) it a its hai) he ⟨hit,p⟩ hlt hne (by simp [hne,Ne.symm hae]) fun y h' tk hy ho hs' hT hsz hk=>⟨_,rfl,wpAny_letOwnedTupleGo_enum (s:={ s with heap:=h',toks:=tk+1 }) ho fun h'' he'' sb=>?_⟩;have hyu:y=u:=by rw [hu]at hy;exact(ah hy).symm
  subst hyu;have keep:∀b o,b≠e→b≠it→s.heap.get? b=some o→h''.get? b=some o:=fun b o h1 h2 q=>(sb.2 b h1).trans (hk b o h1 h2 q);have hTe:s.heap.objs.size≠e:=bS (aE he);have hTi:s.heap.objs.size≠it:=let⟨_,q,_⟩:=hit;bS (aE q);have hT'':h''.get? s.heap.objs.size=some { cls:=.type "tuple",data:=.seq #[.int i tk,y] }:=(sb.2 _ hTe).trans hT;have hTn:H s.heap.objs.size=none:=I.A0.fresh (aF _);have neT:∀b o,s.heap.get? b=some o→b≠s.heap.objs.size:=fun b o q=>aJ (aE q);have EX:∀b o,H b=some o→b≠e∧b≠it:=fun b o q=>⟨(fun z=>by rw [z,hE0.1]at q;cases q),(fun z=>by rw [z,hI0.1]at q;cases q)⟩;refine⟨.ref s.heap.objs.size,upd H s.heap.objs.size (.tup [.int i,x]),?_,rfl,⟨_,x,rfl,hTn,rfl,fun ys hy=>by rw [I.Qs hy hq];exact hx⟩,⟨⟨_,by simpa using he''⟩,?_⟩,fun b hb=>?_⟩
  ·show Inv X pins σ _ { s with heap:=h'',gens:=s.gens,drawn:=s.drawn,toks:=tk+1 };refine I.step (h':=h'') (g':=s.gens) (d':=s.drawn) (t':=tk+1) (ch:=[e,it]) (fun b hb=>?_) (fun b o _ _ hc q _=>keep b o (fun z=>hc (by simp [z])) (fun z=>hc (by simp [z])) q) (fun b o _ _ hc q _=>⟨o.slots,keep b o (fun z=>hc (by simp [z])) (fun z=>hc (by simp [z])) q⟩)
    (fun b o _ q n=>by rw [AJ (neT b o q)];exact n) (fun b o hc q=>⟨o,keep b o (fun z=>hc (by simp [z])) (fun z=>hc (by simp [z])) q⟩) (fun b ys q=>by rw [AJ (AU q hTn)];exact q) (fun b o u q=>by rw [AJ (AU q hTn)];exact q)
    (fun b ps q=>⟨#[],by rw [AJ (AU q hTn),q];simp⟩) (fun m hm=>?_) (fun b o q=>?_) I.bare
   ·rcases aN.mp hb with rfl|hb
    ·exact⟨hE0.2.2.2.1,hE0.2.1,hE0.2.2.2.2.1,hE0.2.2.2.2.2⟩
    ·have e2:b=it:=by simpa using hb
     subst e2;exact⟨hI0.2.2.2.1,hI0.2.1,hI0.2.2.2.2.1,hI0.2.2.2.2.2⟩
   ·obtain⟨o,es,ep,ho,r⟩:=hm;exact⟨o,es,ep,keep _ o (Ne.symm hE0.2.1) (Ne.symm hI0.2.1) ho,r⟩
   ·by_cases hb:b=s.heap.objs.size
    ·subst hb;rw [AL]at q;cases q;exact⟨X8,[.int i tk,y],.cons ⟨tk,rfl⟩ (.cons ru .nil),_,hT'',rfl,_,rfl⟩
    ·rw [AJ hb]at q;refine(I.A0 b o q).Hs (fun c v hc r=>keep c v ?_ ?_ r) (fun c r=>by rw [AJ (AU r hTn)];exact r) fun c ys r=>by rw [AJ (AU r hTn)];exact r
     ·rcases hc with rfl|hc
      ·exact(EX _ _ q).1
      ·exact(EX _ _ hc).1
     ·rcases hc with rfl|hc
      ·exact(EX _ _ q).2
      ·exact(EX _ _ hc).2
  ·obtain⟨⟨o,q,r⟩,_⟩:=hs';exact⟨o,(sb.2 it (Ne.symm hne)).trans q,r⟩
  ·rcases aN.mp hb with rfl|hb
   ·rw [AJ (Ne.symm hTe)];exact hE0.1
   ·have e2:b=it:=by simpa using hb
    subst e2;rw [AJ (Ne.symm hTi)];exact hI0.1
 done:=by
  intro X hP hw hK hc i pins s σ H E I hf st hg;subst hP hw hK;obtain⟨xs,hq,hx⟩:=hg;obtain⟨its,rv,p,hz⟩:=I.tuple hq;obtain⟨⟨old,he⟩,hit⟩:=st;have hai:a≠it:=fun z=>by
   obtain⟨o,e1,c1,_⟩:=p;obtain⟨o2,e2,c2,_⟩:=hit;rw [z,e2]at e1;cases e1;rw [c1]at c2;exact absurd c2 (by decide)
  have hl:its.length=i:=by rw [←rv.length];exact hx
  subst hl;obtain⟨f0,f1,f2,f3,f4,f5⟩:=hf it (by simp);exact wpAny_pyNext_enum_endD (ET.draws (prog:=X.prog) (w:=X.w) (A:=X.A.in1) (I.ok.hd hc) it a its hai) he ⟨hit,p⟩ fun h' eb=>⟨rfl,I.turned (t':=s.toks) (fun b o hb q=>eb b o hb q) f0 f1 f3 f4 f5⟩
 self:=fun _ _ _ _ _ st h=>by
  obtain⟨⟨old,he⟩,_⟩:=st;exact wpAny_pyIter_enum he h
def i6(K:Fg)(ta:TA):TI:=fun σ H R=>ta σ H fun vs H1=>∃a,vs=[.ref a]∧(∃xs,A7 K H1 a xs)∧R (fg K a) H1
def dQ{X:Cx}{elts:List Expr}{x1}{tpos:Pos}{a:Expr}{ta:TA}{p pos:Pos}(hg:Gl X "enumerate")(hm:X.mg "enumerate" = none)(ha:PA X [a] ta)(hs:starEach [a] X.env=[(false,eval a X.env)]:=by rfl) :
  PI X (.Tuple elts x1 tpos) (.Call (.Name "enumerate" p) [a] [] pos) (i6 X.K ta):=by
 intro pins s σ H R I h;refine Call_ (Fs I hg hm boot_enumerate (av (BN (ha pos pins s σ H _ I h) fun us s1 ⟨vs,H1,I1,r1,q1⟩=>?_) hs rfl));obtain⟨t,e,⟨xs,hq⟩,q⟩:=q1;subst e;cases r1 with
 |cons r rr =>
  cases rr;cases r;obtain⟨its,rv,p',hz⟩:=I1.tuple hq;refine ET.Xe (show s1.heap.IsTuple t its.toArray from p') fun h' he hit hsz hk=>wpAny_pyIter_enum he ?_;have I2:Inv X pins σ H1 { s1 with heap:=h' }:=I1.kept (t':=s1.toks) hk;have hn:s1.heap.objs.size+1≠s1.heap.objs.size:=by omega
  refine⟨s1.heap.objs.size+1,[s1.heap.objs.size+1,s1.heap.objs.size],_,_,H1,rfl,I2,WY t _ _ hn,⟨⟨_,he⟩,hit⟩,fun b hb=>?_,q⟩;have hb':s1.heap.objs.size≤b:=by
   have hb2:b=s1.heap.objs.size+1∨b=s1.heap.objs.size:=by simpa using hb
   rcases hb2 with z|z
   ·rw [z];exact Nat.le_succ _
   ·rw [z];exact aF _
  exact I1.Nr hb' (I1.A0.fresh hb')
end L2
namespace TH
open PySem PySem.W PyProof.Rows PySem.SeqAt
section
variable{prog:Program}{w:World}{A:Around}{E:VL→SD→Prop}{s:SD}
def Ph(a:AD):Builtin.«list.sort» ⟨[.ref a],[]⟩=Builtin.«list.sort» ⟨[.ref a],[(Str.ofString "reverse",.bool false)]⟩:=by
 rw [list_sort_rev,list_sort_plain]
 rfl
def Hr{a:AD}{us:List VL}{t:Tr}{n:Nat}{P:PySem.Fin→SD→Prop}(ho:s.heap.get? a=some (seqObj "list" us.toArray n))(e:Vs s.heap t us)(h64:us.length<64)(hu:A.units+t.deep≤cLine)
 (h:∀ix:List Nat,ix.length=us.length→(∀i∈ix,i<us.length)→(ix.map fun i=>t.bs.getD i .nil)=(Tr.CA t.bs).reverse→P (.done (.ret .none)) { s with heap:=sortedHeap s.heap a us (ix.map fun i=>us.getD i Value.none).toArray }) :
  wpAny (model prog w) A (Builtin.«list.sort» ⟨[.ref a],[]⟩) P E s:=by
 rw [Ph];exact Iq (b:=false) ho e h64 hu h
def M4{l:AD}{vs:List VL}{Q:List VL→SD→Prop}(hl:s.heap.IsTuple l vs.toArray)
 (h:Q vs { s with heap:=(s.heap.push (seqObj "list" #[] 0)).update s.heap.objs.size (Obj.mapSeq (· ++ vs.toArray)) })(hsz:vs.length≤sizeLine) :
    wpAny (model prog w) A (collect (.ref l)) Q E s:=by
  obtain⟨o,ho,hc,n,hd⟩:=id hl
  unfold collect
  refine Wb (wpAny_runValue (codeAny_builtin entry_proto_collect' ?_))
  show wpAny _ _ (do again (.builtin "list.__iadd__" ⟨[←newList [],.ref l],[]⟩)) _ _ s
  refine Wb (wpAny_newList (aA ⟨Code.quiet_builtin _ (by decide +kernel),codeAny_builtin entry_list_iadd' ?_⟩))
  show wpAny _ _ (Builtin.List.listExtendWith (.ref s.heap.objs.size) (.ref l) (.ref s.heap.objs.size)) _ _ { s with heap:=s.heap.push (seqObj "list" #[] 0) }
  unfold Builtin.List.listExtendWith
  have ho':(s.heap.push (seqObj "list" #[] 0)).get? l=some o:=aC _ ho
  refine Wb (wpAny_typeOf (T := "tuple") ⟨o,ho',hc⟩ ?_)
  have ht:(Value.type "tuple" == Value.type "tuple")=true:=by rfl
  rw [if_pos (by rw [ht];simp)]
  refine Wb (listItems_at ho' hd ?_)
  refine Wb (listItems_at (xs:=#[]) (n:=0) (aH _ rfl) rfl ?_)
  rw [if_neg (by simp)]
  refine Wb (listUpdate_at (xs:=#[]) (n:=0) (aH _ rfl) rfl ?_ (bE _) (by show(#[]++vs.toArray).size≤sizeLine+1;simp only [Array.size_append,List.size_toArray,List.length_nil];omega))
  refine aA ?_
  show wpAny (model prog w) A (do
      let o ←load s.heap.objs.size
      match o.data with
      |.seq xs _=>pure xs.toList
      |_=>unsupported "internal:collect") Q E { s with heap:=(s.heap.push (seqObj "list" #[] 0)).update s.heap.objs.size (Obj.mapSeq (· ++ vs.toArray)) }
  refine Wb (wpAny_load (get?_update_seq (aH _ rfl) _) ?_)
  show wpAny _ _ (pure ((#[]:Array VL)++vs.toArray).toList) Q E _
  rw [show((#[]:Array VL)++vs.toArray).toList=vs by simp]
  exact aA h
def Tw{l:AD}{us:List VL}{t:Tr}{Q:VL→SD→Prop}(hl:s.heap.IsList l us.toArray)(e:Vs s.heap t us)(h64:us.length<64)(hu:A.units+2+t.deep≤cLine)
 (h:∀(h':Heap) (ix:List Nat) (e1:Nat),ix.length=us.length→(∀i∈ix,i<us.length)→(ix.map fun i=>t.bs.getD i .nil)=(Tr.CA t.bs).reverse→(∀c o,s.heap.get? c=some o→h'.get? c=some o) →
   h'.get? (s.heap.objs.size+1)=some (seqObj "list" (ix.map fun i=>us.getD i Value.none).toArray e1)→Q (.ref (s.heap.objs.size+1)) { s with heap:=h' }) :
  wpAny (model prog w) A (call (.builtin "sorted") [.ref l]) Q E s:=by
 refine Calls.call_function_entry kind_sorted plain_sorted entry_sorted (args_sorted1 _) ?_;unfold Builtin.«sorted»;refine Wb (m:=checkCount "sorted" 1 1 _) (aA ?_);refine Wb (collect_list hl ?_ (by rw [sizeLine_eq];omega));refine Wb (wpAny_newList ?_ (by rw [sizeLine_eq];omega));have hsz:((s.heap.push (seqObj "list" #[] 0)).update s.heap.objs.size (Obj.mapSeq (· ++ us.toArray))).objs.size=s.heap.objs.size+1:=by
  rw [Heap.size_update,size_push']
 have hoL:(((s.heap.push (seqObj "list" #[] 0)).update s.heap.objs.size (Obj.mapSeq (· ++ us.toArray))).push (seqObj "list" us.toArray 0)).get? (s.heap.objs.size+1)=some (seqObj "list" us.toArray 0):=by
  rw [←hsz];exact aH _ rfl
 have keep:∀b o,s.heap.get? b=some o→o.cls=.type "tuple" →(((s.heap.push (seqObj "list" #[] 0)).update s.heap.objs.size (Obj.mapSeq (· ++ us.toArray))).push (seqObj "list" us.toArray 0)).get? b=some o:=fun b o q _=>by
  have hlt:b<s.heap.objs.size:=aE q;rw [Heap.get?_push_ne _ _ _ (by rw [hsz];exact aJ (az hlt)),Heap.get?_update_ne _ _ _ _ (aJ hlt),Heap.get?_push_ne _ _ _ (aJ hlt)];exact q
 show wpAny _ _ _ _ _ { s with heap:=((s.heap.push (seqObj "list" #[] 0)).update s.heap.objs.size (Obj.mapSeq (· ++ us.toArray))).push (seqObj "list" us.toArray 0) };rw [hsz];refine Wb (aV (aT slot_list_sort ⟨_,hoL,rfl⟩ entry_list_sort (Hr (s:={ s with heap:=((s.heap.push (seqObj "list" #[] 0)).update s.heap.objs.size (Obj.mapSeq (· ++ us.toArray))).push (seqObj "list" us.toArray 0) }) hoL (e.keeps keep) h64 (by
  rw [show A.in1.in1.units=A.units+2 from rfl];omega) fun ix a1 a2 a3=>⟨_,rfl,?_⟩) (args_list_sort _)))
 obtain⟨e1,he1⟩:=sortedAll_at s.heap us (ix.map fun i=>us.getD i Value.none).toArray;exact aA ⟨_,rfl,h _ ix e1 a1 a2 a3 (fun _ _=>sortedAll_old) he1⟩
def SH{l:AD}{us:List VL}{t:Tr}{b:Bool}{Q:VL→SD→Prop}(hl:s.heap.IsList l us.toArray)(e:Vs s.heap t us)(h64:us.length<64)(hu:A.units+2+t.deep≤cLine)
 (h:∀(h':Heap) (ix:List Nat) (e1:Nat),ix.length=us.length→(∀i∈ix,i<us.length)→(ix.map fun i=>t.bs.getD i .nil)=(if b then Tr.CA t.bs else(Tr.CA t.bs).reverse)→(∀c o,s.heap.get? c=some o→h'.get? c=some o) →
   h'.get? (s.heap.objs.size+1)=some (seqObj "list" (ix.map fun i=>us.getD i Value.none).toArray e1)→Q (.ref (s.heap.objs.size+1)) { s with heap:=h' }) :
  wpAny (model prog w) A (call (.builtin "sorted") [.ref l] [(Str.ofString "reverse",.bool b)]) Q E s:=by
 refine call_function_entry_kw kind_sorted plain_sorted entry_sorted (args_sorted_rev _ _) ?_;unfold Builtin.«sorted»;refine Wb (m:=checkCount "sorted" 1 1 _) (aA ?_);refine Wb (collect_list hl ?_ (by rw [sizeLine_eq];omega));refine Wb (wpAny_newList ?_ (by rw [sizeLine_eq];omega));have hsz:((s.heap.push (seqObj "list" #[] 0)).update s.heap.objs.size (Obj.mapSeq (· ++ us.toArray))).objs.size=s.heap.objs.size+1:=by
  rw [Heap.size_update,size_push']
 have hoL:(((s.heap.push (seqObj "list" #[] 0)).update s.heap.objs.size (Obj.mapSeq (· ++ us.toArray))).push (seqObj "list" us.toArray 0)).get? (s.heap.objs.size+1)=some (seqObj "list" us.toArray 0):=by
  rw [←hsz];exact aH _ rfl
 have keep:∀b o,s.heap.get? b=some o→o.cls=.type "tuple" →(((s.heap.push (seqObj "list" #[] 0)).update s.heap.objs.size (Obj.mapSeq (· ++ us.toArray))).push (seqObj "list" us.toArray 0)).get? b=some o:=fun b o q _=>by
  have hlt:b<s.heap.objs.size:=aE q;rw [Heap.get?_push_ne _ _ _ (by rw [hsz];exact aJ (az hlt)),Heap.get?_update_ne _ _ _ _ (aJ hlt),Heap.get?_push_ne _ _ _ (aJ hlt)];exact q
 show wpAny _ _ _ _ _ { s with heap:=((s.heap.push (seqObj "list" #[] 0)).update s.heap.objs.size (Obj.mapSeq (· ++ us.toArray))).push (seqObj "list" us.toArray 0) };rw [hsz];refine Wb (aV (wpAny_call_entry_kw slot_list_sort ⟨_,hoL,rfl⟩ entry_list_sort (Iq (b:=b) (s:={ s with heap:=((s.heap.push (seqObj "list" #[] 0)).update s.heap.objs.size (Obj.mapSeq (· ++ us.toArray))).push (seqObj "list" us.toArray 0) }) hoL (e.keeps keep) h64 (by
  rw [show A.in1.in1.units=A.units+2 from rfl];omega) fun ix a1 a2 a3=>⟨_,rfl,?_⟩) (args_list_sort_rev _ _)))
 obtain⟨e1,he1⟩:=sortedAll_at s.heap us (ix.map fun i=>us.getD i Value.none).toArray;exact aA ⟨_,rfl,h _ ix e1 a1 a2 a3 (fun _ _=>sortedAll_old) he1⟩
def VP{l:AD}{us:List VL}{t:Tr}{Q:VL→SD→Prop}(hl:s.heap.IsTuple l us.toArray)(e:Vs s.heap t us)(h64:us.length<64)(hu:A.units+2+t.deep≤cLine)
 (h:∀(h':Heap) (ix:List Nat) (e1:Nat),ix.length=us.length→(∀i∈ix,i<us.length)→(ix.map fun i=>t.bs.getD i .nil)=(Tr.CA t.bs).reverse→(∀c o,s.heap.get? c=some o→h'.get? c=some o) →
   h'.get? (s.heap.objs.size+1)=some (seqObj "list" (ix.map fun i=>us.getD i Value.none).toArray e1)→Q (.ref (s.heap.objs.size+1)) { s with heap:=h' }) :
  wpAny (model prog w) A (call (.builtin "sorted") [.ref l]) Q E s:=by
 refine Calls.call_function_entry kind_sorted plain_sorted entry_sorted (args_sorted1 _) ?_;unfold Builtin.«sorted»;refine Wb (m:=checkCount "sorted" 1 1 _) (aA ?_);refine Wb (M4 hl ?_ (by rw [sizeLine_eq];omega));refine Wb (wpAny_newList ?_ (by rw [sizeLine_eq];omega));have hsz:((s.heap.push (seqObj "list" #[] 0)).update s.heap.objs.size (Obj.mapSeq (· ++ us.toArray))).objs.size=s.heap.objs.size+1:=by
  rw [Heap.size_update,size_push']
 have hoL:(((s.heap.push (seqObj "list" #[] 0)).update s.heap.objs.size (Obj.mapSeq (· ++ us.toArray))).push (seqObj "list" us.toArray 0)).get? (s.heap.objs.size+1)=some (seqObj "list" us.toArray 0):=by
  rw [←hsz];exact aH _ rfl
 have keep:∀b o,s.heap.get? b=some o→o.cls=.type "tuple" →(((s.heap.push (seqObj "list" #[] 0)).update s.heap.objs.size (Obj.mapSeq (· ++ us.toArray))).push (seqObj "list" us.toArray 0)).get? b=some o:=fun b o q _=>by
  have hlt:b<s.heap.objs.size:=aE q;rw [Heap.get?_push_ne _ _ _ (by rw [hsz];exact aJ (az hlt)),Heap.get?_update_ne _ _ _ _ (aJ hlt),Heap.get?_push_ne _ _ _ (aJ hlt)];exact q
 show wpAny _ _ _ _ _ { s with heap:=((s.heap.push (seqObj "list" #[] 0)).update s.heap.objs.size (Obj.mapSeq (· ++ us.toArray))).push (seqObj "list" us.toArray 0) };rw [hsz];refine Wb (aV (aT slot_list_sort ⟨_,hoL,rfl⟩ entry_list_sort (Hr (s:={ s with heap:=((s.heap.push (seqObj "list" #[] 0)).update s.heap.objs.size (Obj.mapSeq (· ++ us.toArray))).push (seqObj "list" us.toArray 0) }) hoL (e.keeps keep) h64 (by
  rw [show A.in1.in1.units=A.units+2 from rfl];omega) fun ix a1 a2 a3=>⟨_,rfl,?_⟩) (args_list_sort _)))
 obtain⟨e1,he1⟩:=sortedAll_at s.heap us (ix.map fun i=>us.getD i Value.none).toArray;exact aA ⟨_,rfl,h _ ix e1 a1 a2 a3 (fun _ _=>sortedAll_old) he1⟩
def UA{l:AD}{us:List VL}{t:Tr}{b:Bool}{Q:VL→SD→Prop}(hl:s.heap.IsTuple l us.toArray)(e:Vs s.heap t us)(h64:us.length<64)(hu:A.units+2+t.deep≤cLine)
 (h:∀(h':Heap) (ix:List Nat) (e1:Nat),ix.length=us.length→(∀i∈ix,i<us.length)→(ix.map fun i=>t.bs.getD i .nil)=(if b then Tr.CA t.bs else(Tr.CA t.bs).reverse)→(∀c o,s.heap.get? c=some o→h'.get? c=some o) →
   h'.get? (s.heap.objs.size+1)=some (seqObj "list" (ix.map fun i=>us.getD i Value.none).toArray e1)→Q (.ref (s.heap.objs.size+1)) { s with heap:=h' }) :
  wpAny (model prog w) A (call (.builtin "sorted") [.ref l] [(Str.ofString "reverse",.bool b)]) Q E s:=by
 refine call_function_entry_kw kind_sorted plain_sorted entry_sorted (args_sorted_rev _ _) ?_;unfold Builtin.«sorted»;refine Wb (m:=checkCount "sorted" 1 1 _) (aA ?_);refine Wb (M4 hl ?_ (by rw [sizeLine_eq];omega));refine Wb (wpAny_newList ?_ (by rw [sizeLine_eq];omega));have hsz:((s.heap.push (seqObj "list" #[] 0)).update s.heap.objs.size (Obj.mapSeq (· ++ us.toArray))).objs.size=s.heap.objs.size+1:=by
  rw [Heap.size_update,size_push']
 have hoL:(((s.heap.push (seqObj "list" #[] 0)).update s.heap.objs.size (Obj.mapSeq (· ++ us.toArray))).push (seqObj "list" us.toArray 0)).get? (s.heap.objs.size+1)=some (seqObj "list" us.toArray 0):=by
  rw [←hsz];exact aH _ rfl
 have keep:∀b o,s.heap.get? b=some o→o.cls=.type "tuple" →(((s.heap.push (seqObj "list" #[] 0)).update s.heap.objs.size (Obj.mapSeq (· ++ us.toArray))).push (seqObj "list" us.toArray 0)).get? b=some o:=fun b o q _=>by
  have hlt:b<s.heap.objs.size:=aE q;rw [Heap.get?_push_ne _ _ _ (by rw [hsz];exact aJ (az hlt)),Heap.get?_update_ne _ _ _ _ (aJ hlt),Heap.get?_push_ne _ _ _ (aJ hlt)];exact q
 show wpAny _ _ _ _ _ { s with heap:=((s.heap.push (seqObj "list" #[] 0)).update s.heap.objs.size (Obj.mapSeq (· ++ us.toArray))).push (seqObj "list" us.toArray 0) };rw [hsz];refine Wb (aV (wpAny_call_entry_kw slot_list_sort ⟨_,hoL,rfl⟩ entry_list_sort (Iq (b:=b) (s:={ s with heap:=((s.heap.push (seqObj "list" #[] 0)).update s.heap.objs.size (Obj.mapSeq (· ++ us.toArray))).push (seqObj "list" us.toArray 0) }) hoL (e.keeps keep) h64 (by
  rw [show A.in1.in1.units=A.units+2 from rfl];omega) fun ix a1 a2 a3=>⟨_,rfl,?_⟩) (args_list_sort_rev _ _)))
 obtain⟨e1,he1⟩:=sortedAll_at s.heap us (ix.map fun i=>us.getD i Value.none).toArray;exact aA ⟨_,rfl,h _ ix e1 a1 a2 a3 (fun _ _=>sortedAll_old) he1⟩
end
end TH
namespace L2
open PySem PySem.Spec PyProof.Rows
def Vals.pick{xs:List V}{us:List VL}(r:Vals xs us):∀ix:List Nat,(∀i∈ix,i<xs.length)→Vals (ix.map fun i=>xs.getD i .Bb) (ix.map fun i=>us.getD i Value.none)
 |[],_=>.nil
 |i::ix,h=>by
  refine .cons ?_ (Vals.pick r ix fun k hk=>h k (aP _ hk));have hi:=h i aR;obtain⟨u,h1,h2⟩:=r.get (i:=i) (x:=xs[i]) (by simp [hi]);show RelV (xs.getD i .Bb) (us.getD i Value.none);rw [List.getD_eq_getElem?_getD,List.getD_eq_getElem?_getD,h1,List.getElem?_eq_getElem hi];exact h2
section
variable{X:Cx}
def ib(K:Fg):List V→Hp→VK→Prop:=fun xs H Q=>∃(p:AD) (ys:List V) (t:Tr),xs=[.ref p]∧(Al K H p ys∨A7 K H p ys)∧Ts H t ys∧ys.length<64∧t.deep≤60 ∧
 ∀(l:AD) (zs:List V),H l=none→Ts H (Tr.of (Tr.CA t.bs).reverse) zs→Q (.ref l) (upd H l (.lst zs))
def XM(K:Fg):List V→Hp→VK→Prop:=fun xs H Q=>∃(p:AD) (ys:List V) (t:Tr),xs=[.ref p]∧(Al K H p ys∨A7 K H p ys)∧Ts H t ys∧ys.length<64∧t.deep≤60 ∧
 ∀(l:AD) (zs:List V),H l=none→Ts H (Tr.of (Tr.CA t.bs)) zs→Q (.ref l) (upd H l (.lst zs))
def Kz{pins:List (AD×Obj)}{σ:St}{H:Hp}{s:SD}{Q:VK}{t:Tr}{ts:List Tr}{ys:List V}{its:List VL}{h':Heap}{ix:List Nat}{e1:Nat}(I:Inv X pins σ H s)(ht:Ts H t ys)(rv:Vals ys its)(h64:ys.length<64)
 (a1:ix.length=its.length)(a2:∀i∈ix,i<its.length)(a3:(ix.map fun i=>t.bs.getD i .nil)=ts)(keep:∀c o,s.heap.get? c=some o→h'.get? c=some o)
 (hD:h'.get? (s.heap.objs.size+1)=some (seqObj "list" (ix.map fun i=>its.getD i Value.none).toArray e1))(q:∀(l:AD) (zs:List V),H l=none→Ts H (Tr.of ts) zs→Q (.ref l) (upd H l (.lst zs))) :
  EP X pins σ Q (.ref (s.heap.objs.size+1)) { s with heap:=h' }:=by
 have hl:=rv.length;have a2':∀i∈ix,i<ys.length:=fun i hi=>by rw [hl];exact a2 i hi
 refine⟨.ref (s.heap.objs.size+1),upd H (s.heap.objs.size+1) (.lst (ix.map fun i=>ys.getD i .Bb)),I.laid (t':=s.toks) keep (Nat.le_succ _) ⟨?_,_,e1,rv.pick ix a2',hD⟩,rfl,q _ _ (I.A0.fresh (Nat.le_succ _)) ?_⟩
 ·rw [List.length_map,a1,←hl];exact bG (aK h64 (by rw [sizeLine_eq];decide))
 ·rw [←a3];exact ht.pick ix a2'
def X6(hu:X.A.units+64<cLine):D4 X (.builtin "sorted") (ib X.K):=by
 intro pins s σ H xs us Q I r h;obtain⟨p,ys,t,rfl,hq,ht,h64,hd,q⟩:=h;obtain⟨u,rfl,r1⟩:=r.one;cases r1;rcases hq with hq|hq
 ·obtain⟨its,rv,pl,hz⟩:=I.list hq;have hl:=rv.length;exact TH.Tw pl.isList (ht.vs I rv) (by omega) (by omega) fun h' ix e1 a1 a2 a3 keep hD=>Kz I ht rv h64 a1 a2 a3 keep hD q
 ·obtain⟨its,rv,pl,hz⟩:=I.tuple hq;have hl:=rv.length;exact TH.VP (show s.heap.IsTuple p its.toArray from pl) (ht.vs I rv) (by omega) (by omega) fun h' ix e1 a1 a2 a3 keep hD=>Kz I ht rv h64 a1 a2 a3 keep hD q
def YJ{e:Expr}{t:TA}{p pos kp kp2:Pos}{j}(hu:X.A.units+64<cLine)(hg:Gl X "sorted")(hm:X.mg "sorted" = none)(ha:PA X [e] t)
 (he:backTo pos (starEach [e] X.env)=(false,eval e X.env)::backTo pos (starEach [] X.env):=by rfl)(hplain:(backTo pos (starEach [e] X.env)).any (·.1)=false:=by rfl) :
  PE X (.Call (.Name "sorted" p) [e] [⟨some "reverse",.Constant (.bool true) j kp2,kp⟩] pos) (fun σ H Q=>t σ H fun vs H1=>XM X.K vs H1 Q):=by
 intro pins s σ H Q I h;refine wpAny_Call_Name_kw (Fs I hg hm boot_sorted ?_ (by decide) (by decide));refine callWith_kw (BN (ha pos pins s σ H _ I h) fun us s1 ⟨vs,H1,I1,r1,q1⟩=>kws_cons (Constant_bool (kws_nil ?_))) he hplain;obtain⟨p,ys,t,rfl,hq,ht,h64,hd,q⟩:=q1;obtain⟨u,rfl,r2⟩:=r1.one;cases r2;rcases hq with hq|hq
 ·obtain⟨its,rv,pl,hz⟩:=I1.list hq;have hl:=rv.length;exact TH.SH (b:=true) pl.isList (ht.vs I1 rv) (by omega) (by omega) fun h' ix e1 a1 a2 a3 keep hD=>Kz I1 ht rv h64 a1 a2 a3 keep hD q
 ·obtain⟨its,rv,pl,hz⟩:=I1.tuple hq;have hl:=rv.length;exact TH.UA (b:=true) (show s1.heap.IsTuple p its.toArray from pl) (ht.vs I1 rv) (by omega) (by omega) fun h' ix e1 a1 a2 a3 keep hD=>Kz I1 ht rv h64 a1 a2 a3 keep hD q
def gg{e k:Expr}{te tk:TE}{pos p2:Pos}(he:PE X e te)(hk:PE X k tk):PE X (.Subscript e (.Slice none none (some k) p2) pos)
  (fun σ H Q=>te σ H fun x H1=>tk σ H1 fun z H2=>∃(a:AD) (xs:List V),x=.ref a∧z=.int (-1)∧Al X.K H2 a xs∧∀p,H2 p=none→Q (.ref p) (upd H2 p (.lst xs.reverse))):=by
 intro pins s σ H Q I h;refine Subscript_ (BN (he pins s σ H _ I h) fun v s1 ⟨x,H1,I1,r1,q1⟩=>?_);refine wpAny_Slice ?_;rw [evalPart_none];refine aA ?_;refine aA ?_;rw [evalPart_some];refine BN (hk pins s1 σ H1 _ I1 q1) fun vk s3 ⟨z,H3,I3,r3,q3⟩=>?_;obtain⟨a,xs,rfl,rfl,hq,q⟩:=q3;cases r1;obtain⟨tk',rfl⟩:=r3;have I4:Inv X pins σ H3 { s3 with heap:=s3.heap.push { cls:=.type "slice",data:=.fields #[.none,.none,.int (-1) tk'] } }:=I3.kept (t':=s3.toks) fun b ob q=>aC _ q;obtain⟨its,rv,pl,hz⟩:=I4.list hq;have hlen:=rv.length;show wpAny (model X.prog X.w) X.A (subscriptTail e (.Slice none none (some k) p2) (.ref a) (.ref s3.heap.objs.size)) (EP X pins σ Q) X.xe { s3 with heap:=s3.heap.push { cls:=.type "slice",data:=.fields #[.none,.none,.int (-1) tk'] } };refine tail_any (ops:=[.ref a,.ref s3.heap.objs.size]) (T := "list") pl.isList.typeIs slot_list_getitem.lookup ?_ (by with_unfolding_all rfl);refine wpAny_getItem_list_slice pl.isList (Heap.IsSliceOf.new ..) .none .none (.int (-1) tk') (by decide) ?_ (by rw [List.size_toArray]<;>omega);rw [PySem.W.krv_pick];refine⟨.ref _,_,I4.laid (t':=s3.toks) (o:=.lst xs.reverse) (fun b ob q=>aC _ q) (aF _) ?_,rfl,q _ (I4.A0.fresh (aF _))⟩;exact⟨by rw [List.length_reverse];exact hz,its.reverse,0,rv.reverse,Heap.get?_push_size _ rfl⟩
end
def CW(Pv:Nat→List V→Hp→Prop)(n:Nat)(D:AD):Nat→Nat→List V→Hp→Prop:=fun i m ys H=>m=n-i∧i≤n∧H D=some (.lst ys)∧Pv i ys H
def Fb{Pv:Nat→List V→Hp→Prop}{n i:Nat}{D:AD}{ys:List V}{y:V}{H:Hp}(hi:i<n)(p:Pv (i+1) (ys++[y]) (upd H D (.lst (ys++[y])))):∃m',m'<n-i∧CW Pv n D (i+1) m' (ys++[y]) (upd H D (.lst (ys++[y]))) :=
 ⟨n-(i+1),by omega,rfl,hi,AL,p⟩
def cJ{Pv:Nat→List V→Hp→Prop}{n i:Nat}{D:AD}{ys:List V}{H:Hp}(hi:i<n)(hD:H D=some (.lst ys))(p:Pv (i+1) ys H):∃m',m'<n-i∧CW Pv n D (i+1) m' ys H:=⟨n-(i+1),by omega,rfl,hi,hD,p⟩
def HK{J:It}{n:Nat}{D:AD}{H1:Hp}{fr:List (Option Nat)}{σ:St}{ix:Nat}{tif:TT}{te:TE}{G:Hp→Prop}(Pv:Nat→List V→Hp→Prop)(h0:Pv 0 [] (upd H1 D (.lst [])))
 (hgo:∀i ys H,i<n→Pv i ys H→H D=some (.lst ys)→J.go i H∧ys.length<sizeLine∧∀x H',J.Eh i H x H' →
   tif ((carry fr σ).set ix (some x)) H' fun b H2=>if b=true then te ((carry fr σ).set ix (some x)) H2 fun y H3=>H3 D=some (.lst ys)∧∃m',m'<n-i∧CW Pv n D (i+1) m' (ys++[y]) (upd H3 D (.lst (ys++[y])))
    else ∃m',m'<n-i∧CW Pv n D (i+1) m' ys H2)
 (hstop:∀ys H,Pv n ys H→H D=some (.lst ys)→J.stop n H∧G H) :
  ∃W:Nat→Nat→List V→Hp→Prop,(∃m,W 0 m [] (upd H1 D (.lst []))) ∧
   ∀i m ys H,W i m ys H→H D=some (.lst ys)∧((J.stop i H∧G H)∨(J.go i H∧ys.length<sizeLine∧∀x H',J.Eh i H x H' →
    tif ((carry fr σ).set ix (some x)) H' fun b H2=>if b=true then te ((carry fr σ).set ix (some x)) H2 fun y H3=>H3 D=some (.lst ys)∧∃m',m'<m∧W (i+1) m' (ys++[y]) (upd H3 D (.lst (ys++[y])))
     else ∃m',m'<m∧W (i+1) m' ys H2)):=by
 refine⟨CW Pv n D,⟨n,by simp,Nat.zero_le _,AL,h0⟩,?_⟩;rintro i m ys H ⟨rfl,hi,hH,p⟩;refine⟨hH,?_⟩;by_cases hlt:i<n
 ·exact .inr (hgo i ys H hlt p hH)
 ·have e:i=n:=by omega
  subst e;exact .inl (hstop ys H p hH)
section
variable{X:Cx}
def N5(hc:X.calm=true):D4 X (.builtin "sum") (fun xs H Q=>∃(p:AD) (ns:List Int),xs=[.ref p]∧Al X.K H p (ns.map V.int)∧Q (.int ns.sum) H):=by
 intro pins s σ H xs us Q I r h;obtain⟨p,ns,rfl,hq,q⟩:=h;obtain⟨u,rfl,r1⟩:=r.one;cases r1;obtain⟨its,rv,pl,hz⟩:=I.list hq;have hi:=intsAre_of rv;obtain⟨xs,hx⟩:=hi.allInts.items;have hl':s.heap.IsList p (intItems xs):=hx ▸ pl.isList
 refine sum_intListG (I.ok.hd hc) hl' fun h' tk t' hk=>?_;have e1:ns=xs.toList.map (·.1):=by
  rw [←nums_intItems,←hx];exact(show numsOf its.toArray.toList=ns from hi.numsOf).symm
 have e2:preSum (numAt xs) xs.size=ns.sum:=by
  rw [preSum_eq,List.take_of_length_le (by simp),e1]
 rw [e2];exact⟨.int _,H,I.kept (t':=tk) hk,⟨t',rfl⟩,q⟩
end
section
variable{X:Cx}{scope:Scope}{cl:List (Str×AD)}{N:List Str}{C:AD}{s₀:SD}{H₀:Hp}{fp:List AD}
def MZ:My (A8 X scope cl N C s₀ H₀ fp) (Yh X.K):=De
end
mutual
def Dt(l:AD)(H:Hp):PD→V→Prop
 |.none,v=>v=.Bb
 |.bool b,v=>v=.bl b
 |.int i,v=>v=.int i
 |.str x,v=>v=.str x
 |.tuple ds,v=>∃(a:AD) (xs:List V),v=.ref a∧a≠l∧H a=some (.tup xs)∧Az l H ds xs
 |.list ds,v=>∃(a:AD) (xs:List V),v=.ref a∧a≠l∧H a=some (.lst xs)∧Az l H ds xs
 |.dict _,_=>False
def Az(l:AD)(H:Hp):List PD→List V→Prop
 |[],xs=>xs=[]
 |d::ds,xs=>∃x r,xs=x::r∧Dt l H d x∧Az l H ds r
end
mutual
def Dt.but{l:AD}{H H':Hp}(e:SameBut l H H'):∀ {d:PD} {v:V},Dt l H d v→Dt l H' d v
 |.none,_,h=>by rw [Dt]at h ⊢;exact h
 |.bool _,_,h=>by rw [Dt]at h ⊢;exact h
 |.int _,_,h=>by rw [Dt]at h ⊢;exact h
 |.str _,_,h=>by rw [Dt]at h ⊢;exact h
 |.tuple _,_,h=>by
  rw [Dt]at h ⊢;obtain⟨a,xs,e1,n,h1,h2⟩:=h;exact⟨a,xs,e1,n,e _ _ n h1,Az.but e h2⟩
 |.list _,_,h=>by
  rw [Dt]at h ⊢;obtain⟨a,xs,e1,n,h1,h2⟩:=h;exact⟨a,xs,e1,n,e _ _ n h1,Az.but e h2⟩
 |.dict _,_,h=>by rw [Dt]at h;exact h.elim
def Az.but{l:AD}{H H':Hp}(e:SameBut l H H'):∀ {ds:List PD} {xs:List V},Az l H ds xs→Az l H' ds xs
 |[],_,h=>by rw [Az]at h ⊢;exact h
 |_::_,_,h=>by
  rw [Az]at h ⊢;obtain⟨x,r,e1,h1,h2⟩:=h;exact⟨x,r,e1,Dt.but e h1,Az.but e h2⟩
end
def Dt.same{l:AD}{H H':Hp}{d:PD}{v:V}(h:Dt l H d v)(e:AK H H'):Dt l H' d v:=Dt.but (.of e) h
def Az.same{l:AD}{H H':Hp}{d:List PD}{v:List V}(h:Az l H d v)(e:AK H H'):Az l H' d v:=Az.but (.of e) h
def Az.len{l:AD}{H:Hp}:∀ {ds:List PD} {xs:List V},Az l H ds xs→xs.length=ds.length
 |[],_,h=>by rw [Az]at h;rw [h];rfl
 |_::_,_,h=>by
  rw [Az]at h;obtain⟨x,r,rfl,_,h2⟩:=h;rw [List.length_cons,List.length_cons,Az.len h2]
def Az.get{l:AD}{H:Hp}:∀ {ds:List PD} {xs:List V} {i:Nat} {v:V},Az l H ds xs→xs[i]? = some v→∃d,ds[i]? = some d∧Dt l H d v
 |[],_,i,v,h,e=>by rw [Az]at h;subst h;simp at e
 |d::ds,_,i,v,h,e=>by
  rw [Az]at h;obtain⟨x,r,rfl,h1,h2⟩:=h;cases i with
  |zero=>simp at e;subst e;exact⟨d,rfl,h1⟩
  |succ i =>
   obtain⟨c,q1,q2⟩:=h2.get (i:=i) (v:=v) (by simpa using e);exact⟨c,by simpa using q1,q2⟩
def Az.nil{l:AD}{H:Hp}:Az l H [] []:=by rw [Az]
def Az.cons{l:AD}{H:Hp}{d:PD}{ds:List PD}{x:V}{xs:List V}(h:Dt l H d x)(k:Az l H ds xs):Az l H (d::ds) (x::xs):=by
 rw [Az];exact⟨x,xs,rfl,h,k⟩
def Dt.int{l:AD}{H:Hp}{i:Int}:Dt l H (.int i) (.int i):=by rw [Dt]
def Dt.bool{l:AD}{H:Hp}{b:Bool}:Dt l H (.bool b) (.bl b):=by rw [Dt]
def Dt.Bb{l:AD}{H:Hp}:Dt l H .none .Bb:=by rw [Dt]
def Dt.str{l:AD}{H:Hp}{x:Str}:Dt l H (.str x) (.str x):=by rw [Dt]
def Dt.tup{l a:AD}{H:Hp}{ds:List PD}{xs:List V}(n:a≠l)(h:H a=some (.tup xs))(k:Az l H ds xs):Dt l H (.tuple ds) (.ref a):=by rw [Dt];exact⟨a,xs,rfl,n,h,k⟩
def Dt.lst{l a:AD}{H:Hp}{ds:List PD}{xs:List V}(n:a≠l)(h:H a=some (.lst xs))(k:Az l H ds xs):Dt l H (.list ds) (.ref a):=by rw [Dt];exact⟨a,xs,rfl,n,h,k⟩
def Ok(n:Nat)(d:PD):Prop:=d.canLay0=true∧d.depth≤n
def F3(n:Nat)(ds:List PD):Prop:=PyData.canLayAll0 ds=true∧PyData.depthAll ds≤n
def Ok.shaped{n:Nat}{d:PD}(h:Ok n d)(hn:n≤64):SeqAt.shaped d=true:=by
 unfold SeqAt.shaped;rw [h.1,Bool.true_and];exact decide_eq_true (aO h.2 hn)
def F3.nil{n:Nat}:F3 n []:=⟨by simp [PyData.canLayAll0],by simp [PyData.depthAll]⟩
def F3.cons{n:Nat}{d:PD}{ds:List PD}(h:Ok n d)(k:F3 n ds):F3 n (d::ds):=⟨by simp [PyData.canLayAll0,h.1,k.1],by simp only [PyData.depthAll];exact Nat.max_le.mpr ⟨h.2,k.2⟩⟩
def F3.of{n:Nat}:∀ {ds:List PD},(∀d∈ds,Ok n d)→F3 n ds
 |[],_=>.nil
 |d::ds,h=>.cons (h d aR) (F3.of fun e he=>h e (aP _ he))
def Ok.tup{n:Nat}{ds:List PD}(h:F3 n ds):Ok (n+1) (.tuple ds):=⟨by simp only [PyData.canLay0];exact h.1,by simp only [PyData.depth];exact Nat.succ_le_succ h.2⟩
def Ok.lst{n:Nat}{ds:List PD}(h:F3 n ds):Ok (n+1) (.list ds):=⟨by simp only [PyData.canLay0];exact h.1,by simp only [PyData.depth];exact Nat.succ_le_succ h.2⟩
def Ok.int{n:Nat}{i:Int}:Ok n (.int i):=⟨by simp [PyData.canLay0],by simp [PyData.depth]⟩
def Ok.bool{n:Nat}{b:Bool}:Ok n (.bool b):=⟨by simp [PyData.canLay0],by simp [PyData.depth]⟩
def Ok.Bb{n:Nat}:Ok n .none:=⟨by simp [PyData.canLay0],by simp [PyData.depth]⟩
def Ok.str{n:Nat}{x:Str}(h:PyData.strOk x=true):Ok n (.str x):=⟨by simp [PyData.canLay0,h],by simp [PyData.depth]⟩
mutual
def Nb:∀d:PD,d.canLay0=true→PyData.eqv d d=true
 |.none,_=>by simp [PyData.eqv]
 |.bool _,_=>by simp [PyData.eqv]
 |.int _,_=>by simp [PyData.eqv]
 |.str _,_=>by simp [PyData.eqv]
 |.tuple ds,h=>by simp only [PyData.eqv];exact Jv ds (by simpa only [PyData.canLay0]using h)
 |.list ds,h=>by simp only [PyData.eqv];exact Jv ds (by simpa only [PyData.canLay0]using h)
 |.dict _,h=>by simp [PyData.canLay0]at h
def Jv:∀ds:List PD,PyData.canLayAll0 ds=true→PyData.eqvAll ds ds=true
 |[],_=>by simp [PyData.eqvAll]
 |d::ds,h=>by
  simp only [PyData.canLayAll0,Bool.and_eq_true]at h;simp only [PyData.eqvAll,Nb d h.1,Jv ds h.2,Bool.and_self]
end
def N7:PD→String
 |.none => "NoneType"
 |.bool _ => "bool"
 |.int _ => "int"
 |.str _ => "str"
 |.tuple _ => "tuple"
 |.list _ => "list"
 |.dict _ => "dict"
def Dt.ty{K:Fg}{l:AD}{H:Hp}:∀ {d:PD} {v:V},Dt l H d v→GB K H v (.type (N7 d))
 |.none,_,h=>by rw [Dt]at h;subst h;exact .Bb
 |.bool _,_,h=>by rw [Dt]at h;subst h;exact .bl _
 |.int _,_,h=>by rw [Dt]at h;subst h;exact .int _
 |.str _,_,h=>by rw [Dt]at h;subst h;exact .str _
 |.tuple _,_,h=>by rw [Dt]at h;obtain⟨a,xs,rfl,_,h1,_⟩:=h;exact .tup h1
 |.list _,_,h=>by rw [Dt]at h;obtain⟨a,xs,rfl,_,h1,_⟩:=h;exact .lst h1
 |.dict _,_,h=>by rw [Dt]at h;exact h.elim
def Ef:PD→Bool
 |.tuple _=>true
 |_=>false
def EL:PD→Bool
 |.list _=>true
 |_=>false
def Hc:PD→Bool
 |.int _=>true
 |.bool _=>true
 |_=>false
def GI:PD→Bool
 |.bool _=>true
 |_=>false
def N8(K:Fg):∀d:PD,(∀kv,d≠.dict kv)→PySem.W.kitOne K (.type (N7 d)) (.type "tuple")=some (Ef d)
 |.none,_=>fP K
 |.bool _,_=>f7 K
 |.int _,_=>fc K
 |.str _,_=>eH K
 |.tuple _,_=>ff K
 |.list _,_=>iC K
 |.dict kv,h=>absurd rfl (h kv)
def TK(K:Fg):∀d:PD,(∀kv,d≠.dict kv)→PySem.W.kitOne K (.type (N7 d)) (.type "list")=some (EL d)
 |.none,_=>fe K
 |.bool _,_=>fK K
 |.int _,_=>iI K
 |.str _,_=>eM K
 |.tuple _,_=>gj K
 |.list _,_=>eR K
 |.dict kv,h=>absurd rfl (h kv)
def gh(K:Fg):PySem.W.kitOne K (.type "NoneType") (.type "bool")=some false:=by kernel_rfl
def gR(K:Fg):PySem.W.kitOne K (.type "str") (.type "bool")=some false:=by kernel_rfl
def gV(K:Fg):PySem.W.kitOne K (.type "tuple") (.type "bool")=some false:=by kernel_rfl
def eT(K:Fg):PySem.W.kitOne K (.type "list") (.type "bool")=some false:=by kernel_rfl
def Su(K:Fg):∀d:PD,(∀kv,d≠.dict kv)→PySem.W.kitOne K (.type (N7 d)) (.type "int")=some (Hc d)
 |.none,_=>fJ K
 |.bool _,_=>gG K
 |.int _,_=>gB K
 |.str _,_=>eh K
 |.tuple _,_=>fZ K
 |.list _,_=>iH K
 |.dict kv,h=>absurd rfl (h kv)
def Qp(K:Fg):∀d:PD,(∀kv,d≠.dict kv)→PySem.W.kitOne K (.type (N7 d)) (.type "bool")=some (GI d)
 |.none,_=>gh K
 |.bool _,_=>eK K
 |.int _,_=>iQ K
 |.str _,_=>gR K
 |.tuple _,_=>gV K
 |.list _,_=>eT K
 |.dict kv,h=>absurd rfl (h kv)
def Dt.nodict{l:AD}{H:Hp}{d:PD}{v:V}(h:Dt l H d v):∀kv,d≠.dict kv:=fun kv z=>by subst z;rw [Dt]at h;exact h
end L2
namespace Tr
def Rc{t c:Tr}(h:c∈t.bs):c.deep<t.deep:=by
 induction t with
 |nil=>cases h
 |cons b r _ ih =>
  rw [bs]at h;have hd:(cons b r).deep=max (b.deep+1) r.deep:=rfl;rcases aN.mp h with rfl|h
  ·omega
  ·have:=ih h;omega
def C3:∀t:Tr,0<t.AV
 |.nil=>Nat.one_pos
 |.cons b r=>by rw [AV];have:=C3 b;omega
def JX{t c:Tr}(h:c∈t.bs):c.AV<t.AV:=by
 induction t with
 |nil=>cases h
 |cons b r _ ih =>
  rw [bs]at h;have hk:(cons b r).AV=b.AV+r.AV:=rfl;have h3:=C3 b;have h4:=C3 r;rcases aN.mp h with rfl|h
  ·omega
  ·have:=ih h;omega
def Qr:∀t:Tr,1+(t.bs.map fun c=>(c.AV:Int)).sum=(t.AV:Int)
 |.nil=>rfl
 |.cons b r=>by
  rw [bs,List.map_cons,List.sum_cons,AV];have:=Qr r;omega
def Lz:∀t:Tr,t.bs.length<t.AV
 |.nil=>Nat.one_pos
 |.cons b r=>by
  rw [bs,List.length_cons,AV];have:=Lz r;have:=C3 b;omega
end Tr
namespace L2
open PySem PySem.Spec PyProof.Rows
def leaf:PD→Prop
 |.none=>True
 |.bool _=>True
 |.int _=>True
 |.str x=>PyData.strOk x=true
 |_=>False
def Sm:Nat→PD→Prop
 |0,d=>leaf d
 |n+1,d=>leaf d∨∃ds,(d=.tuple ds∨d=.list ds)∧ds.length≤60∧∀e∈ds,Sm n e
def leaf.ok{n:Nat}:∀ {d:PD},leaf d→Ok n d
 |.none,_=>.Bb
 |.bool _,_=>.bool
 |.int _,_=>.int
 |.str _,h=>.str h
def leaf.sm{n:Nat}{d:PD}(h:leaf d):Sm n d:=by
 cases n with
 |zero=>exact h
 |succ n=>exact .inl h
def Sm.ok:∀ {n:Nat} {d:PD},Sm n d→Ok n d
 |0,_,h=>leaf.ok h
 |n+1,d,h=>by
  rcases h with h|⟨ds,h1,_,h2⟩
  ·exact h.ok
  ·have:=F3.of fun e he=>(h2 e he).ok;rcases h1 with rfl|rfl
   ·exact .tup this
   ·exact .lst this
def Sm.up:∀ {n:Nat} {d:PD},Sm n d→Sm (n+1) d
 |0,_,h=>.inl h
 |n+1,d,h=>by
  rcases h with h|⟨ds,h1,h2,h3⟩
  ·exact .inl h
  ·exact .inr ⟨ds,h1,h2,fun e he=>(h3 e he).up⟩
def Sm.tup{n:Nat}{ds:List PD}(h:ds.length≤60)(k:∀e∈ds,Sm n e):Sm (n+1) (.tuple ds):=.inr ⟨ds,.inl rfl,h,k⟩
def Sm.lst{n:Nat}{ds:List PD}(h:ds.length≤60)(k:∀e∈ds,Sm n e):Sm (n+1) (.list ds):=.inr ⟨ds,.inr rfl,h,k⟩
mutual
def HI:PD→Option Tr
 |.tuple ds=>Ec ds
 |_=>none
def Ec:List PD→Option Tr
 |[]=>some .nil
 |d::ds=>(HI d).bind fun b=>(Ec ds).map fun r=>.cons b r
end
section
variable{X:Cx}
def iu:R2:=fun x y H Q=>∃a b xs ys,x=.ref a∧y=.ref b∧H a=some (.tup xs)∧H b=some (.tup ys)∧xs.length+ys.length≤sizeLine∧∀p H',AK H H'→H' p=some (.tup (xs++ys))→Q (.ref p) H'
def df:Cm X (binaryOp .Add) iu:=by
 intro pins s σ H x y v u Q I rx ry h;obtain⟨a,b,xs,ys,rfl,rfl,ha,hb,hz,q⟩:=h;cases rx;cases ry;obtain⟨its,r1,p1,_⟩:=I.tuple (A7.of (K:=X.K) ha);obtain⟨its2,r2,p2,_⟩:=I.tuple (A7.of (K:=X.K) hb);by_cases hv:its=[]
 ·have hx:=r1.UT.mp hv;subst hv hx;obtain⟨⟨cls,dd,data,sl⟩,ho,hc,n,hd⟩:=id p1;obtain⟨⟨cls2,dd2,data2,sl2⟩,ho2,hc2,n2,hd2⟩:=id p2;simp only at hc hd hc2 hd2;subst hc hd hc2 hd2;exact concat_meets ⟨_,ho,rfl⟩ ⟨_,ho2,rfl⟩ noFill_tuple_add seq_tuple_add PySem.F.slot_tuple_add PySem.F.entry_tuple_add (PySem.F.args_tuple_add_2 _ _)
   (tuple_addW0 a b _ _ n n2 dd dd2 sl sl2 (by simp)) ⟨ho,ho2,⟨.ref b,H,I,rfl,q b H (.refl H) (by simpa using hb)⟩⟩
 ·refine HT.cD p1 p2 hv (fun z=>?_) (fun z=>?_) (by rw [←r1.length,←r2.length];exact hz)
  ·have hy:=r2.UT.mp z;subst hy;exact⟨.ref a,H,I,rfl,q a H (.refl H) (by simpa using ha)⟩
  ·refine⟨.ref s.heap.objs.size,_,I.laid (t':=s.toks) (o:=.tup (xs++ys)) (fun b ob q=>aC _ q) (aF _) ?_,rfl,q _ _ (AZ (I.A0.fresh (aF _)) _) AL⟩;exact⟨by rw [List.length_append];exact hz,_,r1.append r2,IsTup.new _ _⟩
end
section
variable{P:Program}{w:World}{K:Fg}{mg:Str→Option VL}{base:Heap}{NN:List Str}{qual:Str}{fsc:Scope}{f:AD}{cd:VL}{A:Around}{outer:List Env}{s:SD}{H:Hp}{E:XK}
 {elt iter:Expr}{x:Str}{px pos:Pos}{ifs:List Expr}{scope:Scope}{wi:TI}{fr:List (Option Nat)}{ix:Nat}{tif:TT}{te:TE}{N:List Str}{pins pins0:List (AD×Obj)}{σ σ0:St}
end
end L2
namespace Tim
open PySem PyProof.Rows
section pure
variable(N:Nat)(lt:Nat→Nat→Bool)
end pure
section
variable{prog:Program}{w:World}{A:Around}{E:VL→SD→Prop}{s:SD}{N:Nat}{lt:Nat→Nat→Bool}{κ:SortKind}{it:Nat→Keyed}
variable{p:Array Nat}{pend:Array (Nat×Nat×Nat)}{g:Nat}
section pure
variable(N:Nat)(lt:Nat→Nat→Bool)(a b:Array Nat)
end pure
section pure
variable(N:Nat)(lt:Nat→Nat→Bool)
end pure
end
end Tim
set_option maxHeartbeats 0
set_option maxHeartbeats 4000000
namespace L2
open PySem PySem.Spec PyProof.Rows
variable{B B':AD→Prop}
abbrev Wi(x y:Str)(px py:Pos)(tk:Nat)(tp:Pos):Expr:=.Tuple [.Name x px,.Name y py] tk tp
def b6{ix iy:Nat}(h:ix≠iy)(σ:St)(a b c d:Option V):((((σ.set ix a).set iy b).set ix c).set iy d)=(σ.set ix c).set iy d:=by
 rw [List.set_comm _ _ h.symm,List.set_set,List.set_set]
def XB(K:Fg)(wi:TI)(fr:List (Option Nat))(ix iy:Nat)(tif:TT)(te:TE):TE:=fun σ H Q=>wi σ H fun J H1=>∀D,H1 D=none→∃W:Nat→Nat→List V→Hp→Prop,(∃m,W 0 m [] (upd H1 D (.lst []))) ∧
 ∀i m ys H,W i m ys H→H D=some (.lst ys)∧((J.stop i H∧Q (.ref D) H)∨(J.go i H∧ys.length<sizeLine∧∀x H',J.Eh i H x H'→∃a v1 v2,x=.ref a∧A7 K H' a [v1,v2] ∧
  tif (((carry fr σ).set ix (some v1)).set iy (some v2)) H' fun b H2=>if b=true then te (((carry fr σ).set ix (some v1)).set iy (some v2)) H2 fun y H3=>H3 D=some (.lst ys)∧∃m',m'<m∧W (i+1) m' (ys++[y]) (upd H3 D (.lst (ys++[y])))
   else ∃m',m'<m∧W (i+1) m' ys H2))
section
variable{X:Cx}{elt iter:Expr}{x y:Str}{px py tp pos:Pos}{tk:Nat}{ifs:List Expr}{scope:Scope}{wi:TI}{fr:List (Option Nat)}{ix iy:Nat}{tif:TT}{te:TE}{N:List Str}
def UE{pins:List (AD×Obj)}{σ:St}{H2:Hp}{s2:SD}{Q:VK}{it:AD}{fp:List AD}{tn:Nat→Heap→Prop}{J:It}{cl:List (Str×AD)}{E:VL→SD→Prop}{RR:VL→AD→Result→SD→Prop}
 (S:D6 scope N x ix)(S2:D6 scope N y iy)(hxy:ix≠iy)(hcalm:X.calm=true)(hfr:Fq N X.N scope X.env.scope fr 0=true)(hlen:fr.length=N.length)
 (hif:∀cl C s₀ H₀ fp,MB (A8 X scope cl N C s₀ H₀ fp) ifs tif)(he:∀cl C s₀ H₀ fp,PE (A8 X scope cl N C s₀ H₀ fp) elt te)
 (I2:Inv X pins σ H2 s2)(T:Turn X.prog X.w X.K (Wi x y px py tk tp) J fp it tn)(st2:tn 0 s2.heap)(f2:∀b∈fp,Jy X pins H2 b)
 (c1:∀x c,cl.lookup x=some c→X.env.cells.lookup x=some c)(c2:∀x∈scope.names,x.2=NameKind.free→∃c,cl.lookup x.1=some c)
 (W:∀D,H2 D=none→∃W:Nat→Nat→List V→Hp→Prop,(∃m,W 0 m [] (upd H2 D (.lst []))) ∧
   ∀i m ys H,W i m ys H→H D=some (.lst ys)∧((J.stop i H∧Q (.ref D) H)∨(J.go i H∧ys.length<sizeLine∧∀x H',J.Eh i H x H'→∃a v1 v2,x=.ref a∧A7 X.K H' a [v1,v2] ∧
    tif (((carry fr σ).set ix (some v1)).set iy (some v2)) H' fun b H2=>if b=true then te (((carry fr σ).set ix (some v1)).set iy (some v2)) H2 fun y H3=>H3 D=some (.lst ys)∧∃m',m'<m∧W (i+1) m' (ys++[y]) (upd H3 D (.lst (ys++[y])))
     else ∃m',m'<m∧W (i+1) m' ys H2)))
 (fin:∀(D C:AD) (s':SD) (H':Hp) m,s'.heap.Ns C m→Q (.ref D) H'→(∀h',Heap.SameBut C s'.heap h'→Inv X pins σ H' { s' with heap:=h' })→C≠D→(∀b o,s2.heap.get? b=some o→b≠C)→H' C=none→s2.heap.objs.size≤C→RR (.ref D) C (.ok .next) s') :
  wpAny (model X.prog X.w) X.A (newList []) (fun acc s₃=>wpAny (model X.prog X.w) X.A (newFunctionEnv scope X.env.globals cl [] X.env.qual none .none (some X.env)) (fun cenv s₄ =>
   codeAny (model X.prog X.w) X.A (.compStart (.ListComp elt [⟨Wi x y px py tk tp,iter,ifs,0⟩] scope pos) 0 (.ref it) acc { cenv with scope:=relabel scope X.env }) (RR acc cenv.locals) s₄) E s₃) E s2:=by
 have hxv:(relabel scope X.env).names.lookup x=some .local:=lookup_relabel_local S.loc;have hyv:(relabel scope X.env).names.lookup y=some .local:=lookup_relabel_local S2.loc;refine Mz (g:=Vu X.K 2 (Jh (EG ix) (Jh (EG iy) Vt))) S hcalm (fun σ'=>∀v w,(σ'.set ix v).set iy w=((carry fr σ).set ix v).set iy w) (fun _ _=>rfl) (fun C=>L7 (X:=A8 X scope cl N C s2 H2 fp) hcalm (Df (A4 (X:=A8 X scope cl N C s2 H2 fp) S.nd S.at_ (.inl hxv) (.inr hxv)) (Df (A4 (X:=A8 X scope cl N C s2 H2 fp) S2.nd S2.at_ (.inl hyv) (.inr hyv)) Ki))) hfr hlen hif he I2 T st2 f2 c1 c2 (fun D hD=>?_) fin;obtain⟨W,w0,st⟩:=W D hD;refine⟨W,w0,fun i m ys H w=>?_⟩;obtain⟨h1,h2|⟨h2,h3,h4⟩⟩:=st i m ys H w
 ·exact⟨h1,.inl h2⟩
 ·refine⟨h1,.inr ⟨h2,h3,fun x H' hy σ' hr=>?_⟩⟩;obtain⟨a,v1,v2,rfl,hs,q⟩:=h4 x H' hy;rw [←hr]at q;exact⟨a,[v1,v2],rfl,hs,rfl,v1,[v2],rfl,v2,[],rfl,rfl,fun v w=>by rw [b6 hxy,hr],q⟩
def Yo(S:D6 scope N x ix)(S2:D6 scope N y iy)(hxy:ix≠iy)(hcalm:X.calm=true)(hfr:Fq N X.N scope X.env.scope fr 0=true)(hlen:fr.length=N.length)(hfree:∀y∈scope.names,y.2=.free→X.env.scope.names.lookup y.1=some .cell∨X.env.scope.names.lookup y.1=some .free)
 (hi:PI X (Wi x y px py tk tp) iter wi)(hif:∀cl C s₀ H₀ fp,MB (A8 X scope cl N C s₀ H₀ fp) ifs tif)(he:∀cl C s₀ H₀ fp,PE (A8 X scope cl N C s₀ H₀ fp) elt te)
 (hs:∀x,foldedSetIterable iter X.env x=pure x:=by intro _;rfl):PE X (.ListComp elt [⟨Wi x y px py tk tp,iter,ifs,0⟩] scope pos) (XB X.K wi fr ix iy tif te):=by
 intro pins s σ H Q I hw;obtain⟨cl,hclos,c1,_,c2⟩:=GL (env:=X.env) scope.names [] (fun y hy hf=>I.ok.has y.1 (hfree y hy hf)) (fun y c z=>by cases z);have hclos':closureFor scope X.env=pure cl:=by
  have e:closureFor scope X.env=((forIn scope.names [] (fun(x:Str×NameKind) (r:List (Str×AD))=>do if(x.2==NameKind.free)=true then do let a ←cellOf X.env x.1;pure (ForInStep.yield ((x.1,a)::r)) else pure (ForInStep.yield r)):Sem (List (Str×AD)))>>=fun cs=>pure cs):=rfl;rw [e,hclos]
  rfl
 rw [eval_ListComp];refine wpAny_comprehension_free (use:=none) rfl hs hclos' S.kind S.names (BN (hi pins s σ H _ I hw) fun v s1 h1=>BN h1 fun itv s2 h2=>?_);obtain⟨it,fp,tn,J,H2,e,I2,T,st2,f2,W⟩:=h2;subst e;refine UE (RR:=fun acc C=>compPost (model X.prog X.w) X.A X.xe none (EP X pins σ Q) acc C) S S2 hxy hcalm hfr hlen hif he I2 T st2 f2 c1 c2 W ?_;intro D C s' H' m hn q hI _ _ _ _;exact⟨m,hn,fun h' hs'=>⟨.ref D,H',hI h' hs',rfl,q⟩⟩
end
section
variable{X:Cx}{elt iter:Expr}{x y:Str}{px py tp pos:Pos}{tk:Nat}{ifs:List Expr}{scope:Scope}{wi:TI}{tif:TT}{te:TE}
def Qk(N:List Str)(ix iy:Nat)(fr:List (Option Nat))(hi:PI X (Wi x y px py tk tp) iter wi)(hif:∀cl C s₀ H₀ fp,MB (A8 X scope cl N C s₀ H₀ fp) ifs tif)(he:∀cl C s₀ H₀ fp,PE (A8 X scope cl N C s₀ H₀ fp) elt te)
 (h1:DX scope N x ix=true:=by decide +kernel)(h1':DX scope N y iy=true:=by decide +kernel)(hxy:ix≠iy:=by decide)(h2:X.calm=true:=by rfl)(h3:Fq N X.N scope X.env.scope fr 0=true:=by rfl)(h4:fr.length=N.length:=by rfl)(h5:freeOk X.env.scope scope.names=true:=by rfl)
 (hs:∀x,foldedSetIterable iter X.env x=pure x:=by intro _;rfl):PE X (.ListComp elt [⟨.Tuple [.Name x px,.Name y py] tk tp,iter,ifs,0⟩] scope pos) (XB X.K wi fr ix iy tif te) :=
 Yo (Gh h1) (Gh h1') hxy h2 h3 h4 (MT h5) hi hif he hs
end
def Rx{K:Fg}{J:It}{n:Nat}{D:AD}{H1:Hp}{fr:List (Option Nat)}{σ:St}{ix iy:Nat}{tif:TT}{te:TE}{G:Hp→Prop}(Pv:Nat→List V→Hp→Prop)(h0:Pv 0 [] (upd H1 D (.lst [])))
 (hgo:∀i ys H,i<n→Pv i ys H→H D=some (.lst ys)→J.go i H∧ys.length<sizeLine∧∀x H',J.Eh i H x H'→∃a v1 v2,x=.ref a∧A7 K H' a [v1,v2] ∧
   tif (((carry fr σ).set ix (some v1)).set iy (some v2)) H' fun b H2=>if b=true then te (((carry fr σ).set ix (some v1)).set iy (some v2)) H2 fun y H3=>H3 D=some (.lst ys)∧∃m',m'<n-i∧CW Pv n D (i+1) m' (ys++[y]) (upd H3 D (.lst (ys++[y])))
    else ∃m',m'<n-i∧CW Pv n D (i+1) m' ys H2)
 (hstop:∀ys H,Pv n ys H→H D=some (.lst ys)→J.stop n H∧G H) :
  ∃W:Nat→Nat→List V→Hp→Prop,(∃m,W 0 m [] (upd H1 D (.lst []))) ∧
   ∀i m ys H,W i m ys H→H D=some (.lst ys)∧((J.stop i H∧G H)∨(J.go i H∧ys.length<sizeLine∧∀x H',J.Eh i H x H'→∃a v1 v2,x=.ref a∧A7 K H' a [v1,v2] ∧
    tif (((carry fr σ).set ix (some v1)).set iy (some v2)) H' fun b H2=>if b=true then te (((carry fr σ).set ix (some v1)).set iy (some v2)) H2 fun y H3=>H3 D=some (.lst ys)∧∃m',m'<m∧W (i+1) m' (ys++[y]) (upd H3 D (.lst (ys++[y])))
     else ∃m',m'<m∧W (i+1) m' ys H2)):=by
 refine⟨CW Pv n D,⟨n,by simp,Nat.zero_le _,AL,h0⟩,?_⟩;rintro i m ys H ⟨rfl,hi,hH,p⟩;refine⟨hH,?_⟩;by_cases hlt:i<n
 ·exact .inr (hgo i ys H hlt p hH)
 ·have:i=n:=by omega
  subst this;exact .inl (hstop ys H p hH)
end L2
namespace ZT
open PySem PyProof.Rows
structure Apart(z TI TO i1 i2:Addr)(f1 f2:List Addr):Prop where
 a1:TI≠z∧TI≠TO∧TI≠i1∧TI≠i2
 a2:TO≠z∧TO≠i1∧TO≠i2
 a3:i1≠z∧i2≠z∧i1≠i2
 b1:z ∉ f1∧TO ∉ f1∧i2 ∉ f1
 b2:z ∉ f2∧TO ∉ f2∧i1 ∉ f2
section
variable{prog:Program}{w:World}{A:Around}{E:VL→SD→Prop}{s:SD}{z TI TO i1 i2:AD}{f1 f2:List AD}{n1 n2 k:Nat}{P1 P2:Nat→VL→Prop}{S1 S2:Nat→Heap→Prop}{a b:VL}
def An{f:List AD}{x:AD}{h h':Heap}(hx:x ∉ f)(e:Heap.SameBut x h h'):∀c∈f,∀o,h.get? c=some o→h'.get? c=some o:=fun c hc o q=>(e.2 c fun y=>hx (y ▸ hc)).trans q
def item{Q:VL→SD→Prop}(D1:Draws prog w A i1 f1 n1 P1 S1)(D2:Draws prog w A i2 f2 n2 P2 S2)(ap:Apart z TI TO i1 i2 f1 f2)(hz:IsZip s.heap z TI TO .none)(hI:IsPair s.heap TI (.ref i1) (.ref i2))(hO:IsPair s.heap TO a b)
 (t1:S1 k s.heap)(t2:S2 k s.heap)(l1:k<n1)(l2:k<n2)
 (q:∀x y h' tk,P1 k x→P2 k y→IsZip h' z TI TO (rawInt s.heap.objs.size)→IsPair h' TO x y→S1 (k+1) h'→S2 (k+1) h'→IsPair h' s.heap.objs.size x y→h'.objs.size=s.heap.objs.size+1 →
   (∀c o,c≠z→c≠TO→c≠i1→c≠i2→s.heap.get? c=some o→h'.get? c=some o)→Q (.ref s.heap.objs.size) { s with heap:=h',toks:=tk }) :
  wpAny (model prog w) A (Builtin.«zip.__next__» ⟨[.ref z],[]⟩) (fun fin s'=>∃v,fin=.done (.ret v)∧Q v s') E s:=by
 obtain⟨⟨c1,c2,c3,c4⟩,⟨c5,c6,c7⟩,⟨c8,c9,c10⟩,⟨d1,d2,d3⟩,d4,d5,d6⟩:=ap;show wpAny _ _ (field (.ref z) 2>>=_) _ _ _;refine Wb (aZ hz rfl (x:=.bool false) rfl ?_);show wpAny _ _ (field (.ref z) 3>>=_) _ _ _;refine Wb (aZ hz rfl (x:=.ref TI) rfl (Wb (aX hI rfl ?_)));show wpAny _ _ (Builtin.SmallTypes.ownedTupleIsFree (.ref z)>>=_) _ _ _;unfold Builtin.SmallTypes.ownedTupleIsFree;refine Wb (Wb (aZ hz rfl (x:=.none) rfl (aA ?_)));simp only [if_true];refine Wb (bP (Wb (aZ hz rfl (x:=.ref TO) rfl (Wb (ag hz (by simp) fun g1 z1 m1=>Wb ?_)))));have m1:Heap.SameBut z s.heap g1:=m1;have z1:IsZip g1 z TI TO .ellipsis:=z1;simp only [List.zipIdx_cons,List.zipIdx_nil,List.forIn_cons,List.forIn_nil];refine Wb (Wb (bK ?_));show wpAny _ _ (Builtin.SmallTypes.nextOf (.ref i1)>>=_) _ _ _;refine Wb (D1.item k _ _ _ l1 (D1.frame _ _ _ t1 (An d1 m1)) fun x g2 tk2 p1 u1 m2=>aA ?_);have o2:IsPair g2 TO a b:=(m2.2 _ c6).trans ((m1.2 _ c5).trans hO);refine Wb (aX o2 rfl (Wb (wpAny_updateSeq_pair o2 fun g3 o3 m3=>Wb (wpAny_letGo (aA ?_)))));have o3:IsPair g3 TO x b:=o3;have t2':S2 k g3:=D2.frame _ _ _ (D2.frame _ _ _ (D2.frame _ _ _ t2 (An d4 m1)) (An d6 m2)) (An d5 m3);refine Wb (Wb (bK ?_));show wpAny _ _ (Builtin.SmallTypes.nextOf (.ref i2)>>=_) _ _ _;refine Wb (D2.item k _ _ _ l2 t2' fun y g4 tk4 p2 u2 m4=>aA ?_);have m3:Heap.SameBut TO g2 g3:=m3;have m4:Heap.SameBut i2 g3 g4:=m4;have o4:IsPair g4 TO x b:=(m4.2 _ c7).trans o3;refine Wb (aX o4 rfl (Wb (wpAny_updateSeq_pair o4 fun g5 o5 m5=>Wb (wpAny_letGo (aA (aA ?_))))));have m5:Heap.SameBut TO g4 g5:=m5;have o5:IsPair g5 TO x y:=o5;refine Wb (aX o5 rfl (Wb (wpAny_newTuple ?_)));have m2:Heap.SameBut i1 g1 g2:=m2;have sz:g5.objs.size=s.heap.objs.size:=by rw [m5.1,m4.1,m3.1,m2.1,m1.1]
 have z5:IsZip g5 z TI TO .ellipsis:=(m5.2 _ c5.symm).trans ((m4.2 _ c9.symm).trans ((m3.2 _ c5.symm).trans ((m2.2 _ c8.symm).trans z1)));have kp:∀c o,c≠z→c≠TO→c≠i1→c≠i2→s.heap.get? c=some o→g5.get? c=some o:=fun c o e1 e2 e3 e4 e=>(m5.2 _ e2).trans ((m4.2 _ e4).trans ((m3.2 _ e2).trans ((m2.2 _ e3).trans ((m1.2 _ e1).trans e))));have v1:S1 (k+1) g5:=D1.frame _ _ _ (D1.frame _ _ _ (D1.frame _ _ _ u1 (An d2 m3)) (An d3 m4)) (An d2 m5);have v2:S2 (k+1) g5:=D2.frame _ _ _ u2 (An d5 m5);show wpAny _ _ (Builtin.SmallTypes.ownedTupleHandOut (.ref z) (.ref g5.objs.size)>>=_) _ _ _;unfold Builtin.SmallTypes.ownedTupleHandOut;have z6:IsZip (g5.push { cls:=.type "tuple",data:=.seq #[x,y] }) z TI TO .ellipsis:=aC _ z5;refine Wb (Wb (ag z6 (by simp) fun g7 z7 m7=>ag (show IsZip g7 z TI TO (rawInt g5.objs.size) from z7) (by simp) fun g8 z8 m8=>?_));have z8:IsZip g8 z TI TO (rawInt g5.objs.size):=z8;have up:∀c o,c≠z→(g5.push { cls:=.type "tuple",data:=.seq #[x,y] }).get? c=some o→g8.get? c=some o:=fun c o e1 e=>(m8.2 _ e1).trans ((m7.2 _ e1).trans e);have zl:z<g5.objs.size:=aE z5;refine aA ⟨_,rfl,?_⟩;show Q (.ref g5.objs.size) _;have fin:=q x y g8 tk4 p1 p2 (by rw [←sz];exact z8) (up _ _ c5 (aC _ o5)) (D1.frame _ _ _ v1 fun c hc o e=>up c o (fun y=>d1 (y ▸ hc)) (aC _ e)) (D2.frame _ _ _ v2 fun c hc o e=>up c o (fun y=>d4 (y ▸ hc)) (aC _ e))
  (by rw [←sz];exact up _ _ (bS zl) (aH _ rfl)) (by rw [←sz,m8.1,m7.1,Heap.size_push]) fun c o e1 e2 e3 e4 e=>up c o e1 (aC _ (kp c o e1 e2 e3 e4 e))
 rw [sz];exact fin
def ended{Q:Fin→SD→Prop}(D1:Draws prog w A i1 f1 n1 P1 S1)(D2:Draws prog w A i2 f2 n2 P2 S2)(ap:Apart z TI TO i1 i2 f1 f2)(hz:IsZip s.heap z TI TO .none)(hI:IsPair s.heap TI (.ref i1) (.ref i2))(hO:IsPair s.heap TO a b)
 (t1:S1 k s.heap)(t2:S2 k s.heap)(he:k=n1∨(k<n1∧k=n2))
 (q:∀h' e tk,(∀c o,c≠z→c≠TO→c≠i1→c≠i2→s.heap.get? c=some o→h'.get? c=some o)→(∃o,h'.get? e=some o∧o.cls=.type "StopIteration")→E (.ref e) { s with heap:=h',toks:=tk }) :
  wpAny (model prog w) A (Builtin.«zip.__next__» ⟨[.ref z],[]⟩) Q E s:=by
 obtain⟨⟨c1,c2,c3,c4⟩,⟨c5,c6,c7⟩,⟨c8,c9,c10⟩,⟨d1,d2,d3⟩,d4,d5,d6⟩:=ap;show wpAny _ _ (field (.ref z) 2>>=_) _ _ _;refine Wb (aZ hz rfl (x:=.bool false) rfl ?_);show wpAny _ _ (field (.ref z) 3>>=_) _ _ _;refine Wb (aZ hz rfl (x:=.ref TI) rfl (Wb (aX hI rfl ?_)));show wpAny _ _ (Builtin.SmallTypes.ownedTupleIsFree (.ref z)>>=_) _ _ _;unfold Builtin.SmallTypes.ownedTupleIsFree;refine Wb (Wb (aZ hz rfl (x:=.none) rfl (aA ?_)));simp only [if_true];refine Wb (bP (Wb (aZ hz rfl (x:=.ref TO) rfl (Wb (ag hz (by simp) fun g1 z1 m1=>Wb ?_)))));have m1:Heap.SameBut z s.heap g1:=m1;have z1:IsZip g1 z TI TO .ellipsis:=z1;simp only [List.zipIdx_cons,List.zipIdx_nil,List.forIn_cons,List.forIn_nil];refine Wb (Wb (bK ?_));show wpAny _ _ (Builtin.SmallTypes.nextOf (.ref i1)>>=_) _ _ _;have t1':=D1.frame _ _ _ t1 (An d1 m1);rcases he with he|⟨he1,he2⟩
 ·rw [he]at t1';refine Wb (D1.done _ _ _ t1' fun g2 e m2 ho=>?_);obtain⟨o,ho,hc⟩:=ho;have z2:IsZip g2 z TI TO .ellipsis:=m2 _ _ c8.symm z1;have ez:e≠z:=fun y=>by subst y;rw [z2]at ho;cases ho;simp at hc
  exact ag z2 (by simp) fun g3 _ m3=>q g3 e _ (fun c o e1 e2 e3 e4 y=>(m3.2 _ e1).trans (m2 _ _ e3 ((m1.2 _ e1).trans y))) ⟨o,(m3.2 _ ez).trans ho,hc⟩
 ·refine Wb (D1.item k _ _ _ he1 t1' fun x g2 tk2 p1 u1 m2=>aA ?_);have o2:IsPair g2 TO a b:=(m2.2 _ c6).trans ((m1.2 _ c5).trans hO);refine Wb (aX o2 rfl (Wb (wpAny_updateSeq_pair o2 fun g3 o3 m3=>Wb (wpAny_letGo (aA ?_)))));have t2':S2 k g3:=D2.frame _ _ _ (D2.frame _ _ _ (D2.frame _ _ _ t2 (An d4 m1)) (An d6 m2)) (An d5 m3);rw [he2]at t2';have m2:Heap.SameBut i1 g1 g2:=m2;have m3:Heap.SameBut TO g2 g3:=m3;refine Wb (Wb (bK ?_));show wpAny _ _ (Builtin.SmallTypes.nextOf (.ref i2)>>=_) _ _ _;refine Wb (D2.done _ _ _ t2' fun g4 e m4 ho=>?_);obtain⟨o,ho,hc⟩:=ho;have z4:IsZip g4 z TI TO .ellipsis:=m4 _ _ c9.symm ((m3.2 _ c5.symm).trans ((m2.2 _ c8.symm).trans z1));have ez:e≠z:=fun y=>by subst y;rw [z4]at ho;cases ho;simp at hc
  exact ag z4 (by simp) fun g5 _ m5=>q g5 e _ (fun c o e1 e2 e3 e4 y=>(m5.2 _ e1).trans (m4 _ _ e4 ((m3.2 _ e2).trans ((m2.2 _ e3).trans ((m1.2 _ e1).trans y))))) ⟨o,(m5.2 _ ez).trans ho,hc⟩
def next_item{Q:Option VL→SD→Prop}(D1:Draws prog w A.in1 i1 f1 n1 P1 S1)(D2:Draws prog w A.in1 i2 f2 n2 P2 S2)(ap:Apart z TI TO i1 i2 f1 f2)(hz:IsZip s.heap z TI TO .none)(hI:IsPair s.heap TI (.ref i1) (.ref i2))(hO:IsPair s.heap TO a b)
 (t1:S1 k s.heap)(t2:S2 k s.heap)(l1:k<n1)(l2:k<n2)
 (q:∀x y h' tk,P1 k x→P2 k y→IsZip h' z TI TO (rawInt s.heap.objs.size)→IsPair h' TO x y→S1 (k+1) h'→S2 (k+1) h'→IsPair h' s.heap.objs.size x y→h'.objs.size=s.heap.objs.size+1 →
   (∀c o,c≠z→c≠TO→c≠i1→c≠i2→s.heap.get? c=some o→h'.get? c=some o)→Q (some (.ref s.heap.objs.size)) { s with heap:=h',toks:=tk }) :
  wpAny (model prog w) A (pyNext (.ref z)) Q E s:=by
 have hT:s.TypeIs (.ref z) "zip" := ⟨_,hz,rfl⟩;unfold pyNext;exact Wb (wpAny_attempt (aa (name:=Str.ofString "__next__") hT bT
  (aT bT hT F.entry_zip_next (item D1 D2 ap hz hI hO t1 t2 l1 l2 fun x y h' tk r1 r2 r3 r4 r5 r6 r7 r8 r9=>aA (q x y h' tk r1 r2 r3 r4 r5 r6 r7 r8 r9)) (F.args_zip_next_1 _))))
def next_end{Q:Option VL→SD→Prop}(D1:Draws prog w A.in1 i1 f1 n1 P1 S1)(D2:Draws prog w A.in1 i2 f2 n2 P2 S2)(ap:Apart z TI TO i1 i2 f1 f2)(hz:IsZip s.heap z TI TO .none)(hI:IsPair s.heap TI (.ref i1) (.ref i2))(hO:IsPair s.heap TO a b)
 (t1:S1 k s.heap)(t2:S2 k s.heap)(he:k=n1∨(k<n1∧k=n2))
 (q:∀h' tk,(∀c o,c≠z→c≠TO→c≠i1→c≠i2→s.heap.get? c=some o→h'.get? c=some o)→Q none { s with heap:=h',toks:=tk }) :
  wpAny (model prog w) A (pyNext (.ref z)) Q E s:=by
 have hT:s.TypeIs (.ref z) "zip" := ⟨_,hz,rfl⟩;unfold pyNext;refine Wb (wpAny_attempt (aa (name:=Str.ofString "__next__") hT bT
  (aT bT hT F.entry_zip_next (ended D1 D2 ap hz hI hO t1 t2 he fun h' e tk kp ho=>?_) (F.args_zip_next_1 _))))
 obtain⟨o,ho,hc⟩:=ho;exact Wb (wpAny_isInstance (T := "StopIteration") (b:=true) ⟨o,ho,hc⟩ isSubtype_stop (aA (q _ _ kp)))
end
end ZT
namespace ZT
open PySem PyProof.Rows
def Sq(b:Bool)(h:Heap)(l:AD)(xs:List VL):Prop:=if b then h.IsTuple l xs.toArray else h.IsList l xs.toArray
def BC(b:Bool)(l:AD):Obj:=if b then { cls:=.type "tuple_iterator",data:=.fields #[.ref l,.int 0 0] } else { cls:=.type "list_iterator",data:=.fields #[.ref l,.int 0 0] }
def Ij(b:Bool)(h:Heap)(it l:AD)(k:Nat):Prop:=if b then h.IsTupleIter it l k else h.IsListIter it l k
def Sq.push{b:Bool}{h:Heap}{l:AD}{xs:List VL}(o:Obj)(x:Sq b h l xs):Sq b (h.push o) l xs:=by
 cases b with
 |true=>obtain⟨u,e,r⟩:=(show h.IsTuple l xs.toArray from x);exact(show(h.push o).IsTuple l xs.toArray from⟨u,Heap.get?_push_of_some _ e,r⟩)
 |false=>obtain⟨u,e,r⟩:=(show h.IsList l xs.toArray from x);exact(show(h.push o).IsList l xs.toArray from⟨u,Heap.get?_push_of_some _ e,r⟩)
section
variable{prog:Program}{w:World}{A:Around}{E:VL→SD→Prop}{s:SD}
def Kd{b:Bool}{l:AD}{xs:List VL}{Q:VL→SD→Prop}(x:Sq b s.heap l xs)(h:Q (.ref s.heap.objs.size) { s with heap:=s.heap.push (BC b l) }):wpAny (model prog w) A (pyIter (.ref l)) Q E s:=by
 cases b with
 |true=>exact wpAny_pyIter_tuple x h
 |false=>exact wpAny_pyIter_list x h
def EC(hh:A.handled=none)(b:Bool)(it l:AD)(xs:List VL)(hne:l≠it):Draws prog w A it [it,l] xs.length (fun i v=>xs[i]? = some v) (fun i h=>Ij b h it l i∧Sq b h l xs):=by
 cases b with
 |true=>exact ET.draws hh it l xs hne
 |false =>
  have:=Draws.list (prog:=prog) (w:=w) hh it l hne xs.toArray
  simpa [Ij,Sq]using this
def zh(b1 b2:Bool)(h:Heap)(l1 l2:AD):Heap :=
 ((((h.push (BC b1 l1)).push (BC b2 l2)).push { cls:=.type "tuple",data:=.seq #[.ref h.objs.size,.ref (h.push (BC b1 l1)).objs.size] }).push { cls:=.type "tuple",data:=.seq #[.none,.none] }).push
  { cls:=.type "zip",data:=.fields #[.none,.bool false,.bool false,.ref ((h.push (BC b1 l1)).push (BC b2 l2)).objs.size,.ref (((h.push (BC b1 l1)).push (BC b2 l2)).push { cls:=.type "tuple",data:=.seq #[.ref h.objs.size,.ref (h.push (BC b1 l1)).objs.size] }).objs.size] }
def cH(b1 b2:Bool)(l1 l2:AD)(xs ys:List VL) :
  Meets (Builtin.«zip.__new__» ⟨[.type "zip",.ref l1,.ref l2],[]⟩) (fun _ R s=>Sq b1 s.heap l1 xs∧Sq b2 s.heap l2 ys ∧
   R (.ok (.ret (.ref ((((s.heap.push (BC b1 l1)).push (BC b2 l2)).push { cls:=.type "tuple",data:=.seq #[.ref s.heap.objs.size,.ref (s.heap.push (BC b1 l1)).objs.size] }).push { cls:=.type "tuple",data:=.seq #[.none,.none] }).objs.size)) ) { s with heap:=zh b1 b2 s.heap l1 l2 }) :=
 .of_wp fun prog w A R s h=>by
  obtain⟨hp,g,d,tk,os⟩:=s;obtain⟨h1,h2,h⟩:=h;have hsub:=sub_zip;have i1:∀(A:Around) (E:VL→SD→Prop) (Q:VL→SD→Prop),Q (.ref hp.objs.size) ⟨hp.push (BC b1 l1),g,d,tk,os⟩→wpAny (model prog w) A (pyIter (.ref l1)) Q E ⟨hp,g,d,tk,os⟩:=fun A E Q q=>Kd (s:=⟨hp,g,d,tk,os⟩) h1 q;have i2:∀(A:Around) (E:VL→SD→Prop) (Q:VL→SD→Prop),Q (.ref (hp.push (BC b1 l1)).objs.size) ⟨(hp.push (BC b1 l1)).push (BC b2 l2),g,d,tk,os⟩→wpAny (model prog w) A (pyIter (.ref l2)) Q E ⟨hp.push (BC b1 l1),g,d,tk,os⟩:=fun A E Q q=>Kd (s:=⟨hp.push (BC b1 l1),g,d,tk,os⟩) (h2.push _) q
  wp_walk using i1,i2
  exact⟨_,rfl,h⟩
def Y9{b1 b2:Bool}{l1 l2:AD}{xs ys:List VL}{Q:VL→SD→Prop}(h1:Sq b1 s.heap l1 xs)(h2:Sq b2 s.heap l2 ys)
 (h:∀h',IsZip h' (s.heap.objs.size+4) (s.heap.objs.size+2) (s.heap.objs.size+3) .none→IsPair h' (s.heap.objs.size+2) (.ref s.heap.objs.size) (.ref (s.heap.objs.size+1))→IsPair h' (s.heap.objs.size+3) .none .none →
   Ij b1 h' s.heap.objs.size l1 0→Ij b2 h' (s.heap.objs.size+1) l2 0→(∀c o,s.heap.get? c=some o→h'.get? c=some o)→Q (.ref (s.heap.objs.size+4)) { s with heap:=h' }) :
  wpAny (model prog w) A (call (.type "zip") [.ref l1,.ref l2]) Q E s:=by
 refine callType_new F.called_zip (by decide) (F.typeCall_zip_2 _ _) (F.newCall_zip_2 _ _) (fun obj=>F.args_object_init_3 obj _ _) F.entry_zip_new (cH b1 b2 l1 l2 xs ys) ⟨h1,h2,?_⟩;have n1:(s.heap.push (BC b1 l1)).objs.size=s.heap.objs.size+1:=Heap.size_push ..;have up:∀(g:Heap) (o:Obj) (c:AD) (u:Obj),g.get? c=some u→(g.push o).get? c=some u:=fun g o c u e=>aC _ e;have a0:(s.heap.push (BC b1 l1)).get? s.heap.objs.size=some (BC b1 l1):=aH _ (by cases b1<;>rfl);generalize hg1:s.heap.push (BC b1 l1)=g1 at n1 a0;have k1:∀c o,s.heap.get? c=some o→g1.get? c=some o:=fun c o e=>by rw [←hg1];exact up _ _ _ _ e
 have n2:(g1.push (BC b2 l2)).objs.size=s.heap.objs.size+2:=by rw [Heap.size_push,n1]
 have a1:(g1.push (BC b2 l2)).get? (s.heap.objs.size+1)=some (BC b2 l2):=by rw [←n1];exact aH _ (by cases b2<;>rfl)
 generalize hg2:g1.push (BC b2 l2)=g2 at n2 a1;have k2:∀c o,g1.get? c=some o→g2.get? c=some o:=fun c o e=>by rw [←hg2];exact up _ _ _ _ e
 have n3:(g2.push { cls:=.type "tuple",data:=.seq #[.ref s.heap.objs.size,.ref (s.heap.objs.size+1)] }).objs.size=s.heap.objs.size+3:=by rw [Heap.size_push,n2]
 have a2:IsPair (g2.push { cls:=.type "tuple",data:=.seq #[.ref s.heap.objs.size,.ref (s.heap.objs.size+1)] }) (s.heap.objs.size+2) (.ref s.heap.objs.size) (.ref (s.heap.objs.size+1)):=by rw [←n2];exact aH _ rfl
 generalize hg3:g2.push { cls:=.type "tuple",data:=.seq #[.ref s.heap.objs.size,.ref (s.heap.objs.size+1)] }=g3 at n3 a2;have k3:∀c o,g2.get? c=some o→g3.get? c=some o:=fun c o e=>by rw [←hg3];exact up _ _ _ _ e
 have n4:(g3.push { cls:=.type "tuple",data:=.seq #[.none,.none] }).objs.size=s.heap.objs.size+4:=by rw [Heap.size_push,n3]
 have a3:IsPair (g3.push { cls:=.type "tuple",data:=.seq #[.none,.none] }) (s.heap.objs.size+3) .none .none:=by rw [←n3];exact aH _ rfl
 generalize hg4:g3.push { cls:=.type "tuple",data:=.seq #[.none,.none] }=g4 at n4 a3;have k4:∀c o,g3.get? c=some o→g4.get? c=some o:=fun c o e=>by rw [←hg4];exact up _ _ _ _ e
 have ez:zh b1 b2 s.heap l1 l2=g4.push { cls:=.type "zip",data:=.fields #[.none,.bool false,.bool false,.ref (s.heap.objs.size+2),.ref (s.heap.objs.size+3)] }:=by
  unfold zh;rw [hg1,hg2,n1,hg3,hg4,n2,n3]
 have a4:IsZip (g4.push { cls:=.type "zip",data:=.fields #[.none,.bool false,.bool false,.ref (s.heap.objs.size+2),.ref (s.heap.objs.size+3)] }) (s.heap.objs.size+4) (s.heap.objs.size+2) (s.heap.objs.size+3) .none:=by rw [←n4];exact aH _ rfl
 rw [n1,hg3,hg4,n4,ez];show _∧_;have k5:∀c o,g4.get? c=some o→(g4.push { cls:=.type "zip",data:=.fields #[.none,.bool false,.bool false,.ref (s.heap.objs.size+2),.ref (s.heap.objs.size+3)] }).get? c=some o:=fun c o e=>up _ _ _ _ e;refine⟨⟨_,a4,rfl⟩,h _ a4 (k5 _ _ (k4 _ _ a2)) (k5 _ _ a3) ?_ ?_ fun c o e=>k5 _ _ (k4 _ _ (k3 _ _ (k2 _ _ (k1 _ _ e))))⟩
 ·have:=k5 _ _ (k4 _ _ (k3 _ _ (k2 _ _ a0)));cases b1 with
  |true=>exact⟨_,this,rfl,rfl⟩
  |false=>exact⟨_,this,rfl,rfl⟩
 ·have:=k5 _ _ (k4 _ _ (k3 _ _ a1));cases b2 with
  |true=>exact⟨_,this,rfl,rfl⟩
  |false=>exact⟨_,this,rfl,rfl⟩
end
end ZT
namespace L2
open PySem PySem.Spec PyProof.Rows
def CP(b:Bool)(H:Hp)(a:AD)(xs:List V):Prop:=if b then H a=some (.tup xs) else H a=some (.lst xs)
def CP.inj{b:Bool}{H:Hp}{a:AD}{xs ys:List V}(h:CP b H a xs)(k:CP b H a ys):xs=ys:=by
 cases b with
 |true=>have h:H a=some (.tup xs):=h;have k:H a=some (.tup ys):=k;rw [h]at k;cases k;rfl
 |false=>have h:H a=some (.lst xs):=h;have k:H a=some (.lst ys):=k;rw [h]at k;cases k;rfl
def CP.none{b:Bool}{H:Hp}{a c:AD}{xs:List V}(h:CP b H a xs)(k:H c=none):a≠c:=fun z=>by
 subst z;cases b with
 |true=>have h:H a=some (.tup xs):=h;rw [k]at h;cases h
 |false=>have h:H a=some (.lst xs):=h;rw [k]at h;cases h
def CP.raw{X:Cx}{pins:List (AD×Obj)}{σ:St}{H:Hp}{s:SD}(I:Inv X pins σ H s){b:Bool}{a:AD}{xs:List V}(h:CP b H a xs):∃its,Vals xs its∧ZT.Sq b s.heap a its:=by
 cases b with
 |true =>
  obtain⟨its,rv,p,_⟩:=I.tuple (A7.of (K:=X.K) (show H a=some (.tup xs) from h));exact⟨its,rv,p⟩
 |false =>
  obtain⟨its,rv,p,_⟩:=I.list (Al.of (K:=X.K) (show H a=some (.lst xs) from h));exact⟨its,rv,p.isList⟩
def jT(b1 b2:Bool)(a1 a2:AD):It :=
 ⟨fun i H=>∃xs x ys y,CP b1 H a1 xs∧CP b2 H a2 ys∧xs[i]? = some x∧ys[i]? = some y,
  fun i H v H'=>∃p x y,v=.ref p∧H p=none∧H'=upd H p (.tup [x,y])∧(∀xs,CP b1 H a1 xs→xs[i]? = some x)∧∀ys,CP b2 H a2 ys→ys[i]? = some y,
  fun i H=>∃xs ys,CP b1 H a1 xs∧CP b2 H a2 ys∧(i=xs.length∨(i<xs.length∧i=ys.length))⟩
def lF(b1 b2:Bool)(a1 a2 z TI TO i1 i2:AD):Nat→Heap→Prop:=fun i h=>IsZip h z TI TO .none∧IsPair h TI (.ref i1) (.ref i2)∧(∃a b,IsPair h TO a b)∧ZT.Ij b1 h i1 a1 i∧ZT.Ij b2 h i2 a2 i
def Es{b:Bool}{h:Heap}{it l:AD}{k:Nat}(x:ZT.Ij b h it l k):∃o,h.get? it=some o∧∀v,o.data≠.cell v:=by
 cases b with
 |true=>obtain⟨o,e,_,d⟩:=(show h.IsTupleIter it l k from x);exact⟨o,e,fun v z=>by rw [d]at z;cases z⟩
 |false=>obtain⟨o,e,_,d⟩:=(show h.IsListIter it l k from x);exact⟨o,e,fun v z=>by rw [d]at z;cases z⟩
def D7{b:Bool}{h h':Heap}{it l:AD}{k:Nat}(x:ZT.Ij b h it l k)(e:∀o,h.get? it=some o→h'.get? it=some o):ZT.Ij b h' it l k:=by
 cases b with
 |true=>obtain⟨o,q,r⟩:=(show h.IsTupleIter it l k from x);exact(show h'.IsTupleIter it l k from⟨o,e _ q,r⟩)
 |false=>obtain⟨o,q,r⟩:=(show h.IsListIter it l k from x);exact(show h'.IsListIter it l k from⟨o,e _ q,r⟩)
def YQ{P:Program}{w:World}{K:Fg}{elts:List Expr}{x1}{pos:Pos}{b1 b2:Bool}{a1 a2 z TI TO i1 i2:AD}(ne:[z,TI,TO,i1,i2].Nodup) :
  Turn P w K (.Tuple elts x1 pos) (jT b1 b2 a1 a2) [z,TI,TO,i1,i2] z (lF b1 b2 a1 a2 z TI TO i1 i2) where
 mem:=by simp
 obj:=fun i h st b hb=>by
  obtain⟨h1,h2,⟨u,v,h3⟩,h4,h5⟩:=st;have hb:b=z∨b=TI∨b=TO∨b=i1∨b=i2:=by simpa using hb
  rcases hb with rfl|rfl|rfl|rfl|rfl
  ·exact⟨_,h1,fun v y=>by cases y⟩
  ·exact⟨_,h2,fun v y=>by cases y⟩
  ·exact⟨_,h3,fun v y=>by cases y⟩
  ·exact Es h4
  ·exact Es h5
 keep:=fun i h h' st k=>by
  obtain⟨h1,h2,⟨u,v,h3⟩,h4,h5⟩:=st;exact⟨k z (by simp) _ h1,k TI (by simp) _ h2,⟨u,v,k TO (by simp) _ h3⟩,D7 h4 fun o e=>k i1 (by simp) o e,D7 h5 fun o e=>k i2 (by simp) o e⟩
 item:=by
  intro X hP hw hK hc i pins s σ H E I hf st hg;subst hP hw hK;obtain⟨xs,x,ys,y,q1,q2,hx,hy⟩:=hg;obtain⟨us,rv1,p1⟩:=q1.raw I;obtain⟨vs,rv2,p2⟩:=q2.raw I;obtain⟨u,hu,ru⟩:=rv1.get hx;obtain⟨v,hv,rv⟩:=rv2.get hy;obtain⟨t1,t2,⟨ta,tb,t3⟩,t4,t5⟩:=st;have e1:∀b∈[z,TI,TO,i1,i2],a1≠b:=fun b hb=>q1.none (hf b hb).1;have e2:∀b∈[z,TI,TO,i1,i2],a2≠b:=fun b hb=>q2.none (hf b hb).1;simp only [List.nodup_cons,List.mem_cons,List.not_mem_nil,or_false,not_or]at ne;obtain⟨⟨n1,n2,n3,n4⟩,⟨n5,n6,n7⟩,⟨n8,n9⟩,n10,_⟩:=ne;have ap:ZT.Apart z TI TO i1 i2 [i1,a1] [i2,a2]:=⟨⟨Ne.symm n1,n5,n6,n7⟩,⟨Ne.symm n2,n8,n9⟩,⟨Ne.symm n3,Ne.symm n4,n10⟩,
   ⟨by simp [n3,Ne.symm (e1 z (by simp))],by simp [n8,Ne.symm (e1 TO (by simp))],by simp [Ne.symm n10,Ne.symm (e1 i2 (by simp))]⟩,⟨by simp [n4,Ne.symm (e2 z (by simp))],by simp [n9,Ne.symm (e2 TO (by simp))],by simp [n10,Ne.symm (e2 i1 (by simp))]⟩⟩
  refine ZT.next_item (ZT.EC (prog:=X.prog) (w:=X.w) (A:=X.A.in1) (I.ok.hd hc) b1 i1 a1 us (e1 i1 (by simp))) (ZT.EC (prog:=X.prog) (w:=X.w) (A:=X.A.in1) (I.ok.hd hc) b2 i2 a2 vs (e2 i2 (by simp))) ap t1 t2 t3 ⟨t4,p1⟩ ⟨t5,p2⟩ (aD.mp hu).1 (aD.mp hv).1
   fun u' v' h' tk r1 r2 r3 r4 r5 r6 r7 r8 r9=>⟨_,rfl,wpAny_letOwnedTupleGo_zip (s:={ s with heap:=h',toks:=tk }) r3 fun h'' z'' sb=>?_⟩
  rw [hu]at r1;rw [hv]at r2;cases r1;cases r2;have keep:∀b o,b ∉ [z,TI,TO,i1,i2]→s.heap.get? b=some o→h''.get? b=some o:=fun b o hb q=>by
   simp only [List.mem_cons,List.not_mem_nil,or_false,not_or]at hb;exact(sb.2 b hb.1).trans (r9 b o hb.1 hb.2.2.1 hb.2.2.2.1 hb.2.2.2.2 q)
  have lt:∀b∈[z,TI,TO,i1,i2],b<s.heap.objs.size:=fun b hb=>by
   have hb:b=z∨b=TI∨b=TO∨b=i1∨b=i2:=by simpa using hb
   rcases hb with rfl|rfl|rfl|rfl|rfl
   ·exact aE t1
   ·exact aE t2
   ·exact aE t3
   ·obtain⟨o,e,_⟩:=Es t4;exact aE e
   ·obtain⟨o,e,_⟩:=Es t5;exact aE e
  have hTn:H s.heap.objs.size=none:=I.A0.fresh (aF _);have hT'':h''.get? s.heap.objs.size=some { cls:=.type "tuple",data:=.seq #[u,v] }:=(sb.2 _ (bS (lt z (by simp)))).trans r7;have neT:∀b o,s.heap.get? b=some o→b≠s.heap.objs.size:=fun b o q=>aJ (aE q);have EX:∀b o,H b=some o→b ∉ [z,TI,TO,i1,i2]:=fun b o q hb=>by rw [(hf b hb).1]at q;cases q
  refine⟨.ref s.heap.objs.size,upd H s.heap.objs.size (.tup [x,y]),?_,rfl,⟨_,x,y,rfl,hTn,rfl,fun zs hz=>by rw [hz.inj q1];exact hx,fun zs hz=>by rw [hz.inj q2];exact hy⟩,⟨z'',?_,⟨u,v,?_⟩,?_,?_⟩,fun b hb=>?_⟩
  ·show Inv X pins σ _ { s with heap:=h'',gens:=s.gens,drawn:=s.drawn,toks:=tk };refine I.step (h':=h'') (g':=s.gens) (d':=s.drawn) (t':=tk) (ch:=[z,TI,TO,i1,i2]) (fun b hb=>?_) (fun b o _ _ hc q _=>keep b o hc q) (fun b o _ _ hc q _=>⟨o.slots,keep b o hc q⟩)
    (fun b o _ q n=>by rw [AJ (neT b o q)];exact n) (fun b o hc q=>⟨o,keep b o hc q⟩) (fun b ys q=>by rw [AJ (AU q hTn)];exact q) (fun b o u q=>by rw [AJ (AU q hTn)];exact q)
    (fun b ps q=>⟨#[],by rw [AJ (AU q hTn),q];simp⟩) (fun m hm=>?_) (fun b o q=>?_) I.bare
   ·obtain⟨_,f1,_,f3,f4,f5⟩:=hf b hb;exact⟨f3,f1,f4,f5⟩
   ·obtain⟨o,es,ep,ho,r⟩:=hm;exact⟨o,es,ep,keep _ o (fun hb=>(hf _ hb).2.1 rfl) ho,r⟩
   ·by_cases hb:b=s.heap.objs.size
    ·subst hb;rw [AL]at q;cases q;exact⟨X8,[u,v],.cons ru (.cons rv .nil),_,hT'',rfl,_,rfl⟩
    ·rw [AJ hb]at q;refine(I.A0 b o q).Hs (fun c w hc r=>keep c w ?_ r) (fun c r=>by rw [AJ (AU r hTn)];exact r) fun c ys r=>by rw [AJ (AU r hTn)];exact r
     rcases hc with rfl|hc
     ·exact EX _ _ q
     ·exact EX _ _ hc
  ·exact(sb.2 _ (Ne.symm n1)).trans (r9 _ _ (Ne.symm n1) n5 n6 n7 t2)
  ·exact(sb.2 _ (Ne.symm n2)).trans r4
  ·exact D7 r5.1 fun o e=>(sb.2 _ (Ne.symm n3)).trans e
  ·exact D7 r6.1 fun o e=>(sb.2 _ (Ne.symm n4)).trans e
  ·rw [AJ (aJ (lt b hb))];exact(hf b hb).1
 done:=by
  intro X hP hw hK hc i pins s σ H E I hf st hg;subst hP hw hK;obtain⟨xs,ys,q1,q2,he⟩:=hg;obtain⟨us,rv1,p1⟩:=q1.raw I;obtain⟨vs,rv2,p2⟩:=q2.raw I;obtain⟨t1,t2,⟨ta,tb,t3⟩,t4,t5⟩:=st;have e1:∀b∈[z,TI,TO,i1,i2],a1≠b:=fun b hb=>q1.none (hf b hb).1;have e2:∀b∈[z,TI,TO,i1,i2],a2≠b:=fun b hb=>q2.none (hf b hb).1;simp only [List.nodup_cons,List.mem_cons,List.not_mem_nil,or_false,not_or]at ne;obtain⟨⟨n1,n2,n3,n4⟩,⟨n5,n6,n7⟩,⟨n8,n9⟩,n10,_⟩:=ne;have ap:ZT.Apart z TI TO i1 i2 [i1,a1] [i2,a2]:=⟨⟨Ne.symm n1,n5,n6,n7⟩,⟨Ne.symm n2,n8,n9⟩,⟨Ne.symm n3,Ne.symm n4,n10⟩,
   ⟨by simp [n3,Ne.symm (e1 z (by simp))],by simp [n8,Ne.symm (e1 TO (by simp))],by simp [Ne.symm n10,Ne.symm (e1 i2 (by simp))]⟩,⟨by simp [n4,Ne.symm (e2 z (by simp))],by simp [n9,Ne.symm (e2 TO (by simp))],by simp [n10,Ne.symm (e2 i1 (by simp))]⟩⟩
  have he':i=us.length∨(i<us.length∧i=vs.length):=by rw [←rv1.length,←rv2.length];exact he
  refine ZT.next_end (ZT.EC (prog:=X.prog) (w:=X.w) (A:=X.A.in1) (I.ok.hd hc) b1 i1 a1 us (e1 i1 (by simp))) (ZT.EC (prog:=X.prog) (w:=X.w) (A:=X.A.in1) (I.ok.hd hc) b2 i2 a2 vs (e2 i2 (by simp))) ap t1 t2 t3 ⟨t4,p1⟩ ⟨t5,p2⟩ he' fun h' tk kp=>⟨rfl,?_⟩;have keep:∀b o,b ∉ [z,TI,TO,i1,i2]→s.heap.get? b=some o→h'.get? b=some o:=fun b o hb q=>by
   simp only [List.mem_cons,List.not_mem_nil,or_false,not_or]at hb;exact kp b o hb.1 hb.2.2.1 hb.2.2.2.1 hb.2.2.2.2 q
  have EX:∀b o,H b=some o→b ∉ [z,TI,TO,i1,i2]:=fun b o q hb=>by rw [(hf b hb).1]at q;cases q
  show Inv X pins σ _ { s with heap:=h',gens:=s.gens,drawn:=s.drawn,toks:=tk };refine I.step (h':=h') (g':=s.gens) (d':=s.drawn) (t':=tk) (ch:=[z,TI,TO,i1,i2]) (fun b hb=>?_) (fun b o _ _ hc q _=>keep b o hc q) (fun b o _ _ hc q _=>⟨o.slots,keep b o hc q⟩)
    (fun b o _ q n=>n) (fun b o hc q=>⟨o,keep b o hc q⟩) (fun b ys q=>q) (fun b o u q=>q)
    (fun b ps q=>⟨#[],by rw [q];simp⟩) (fun m hm=>?_) (fun b o q=>?_) I.bare
  ·obtain⟨_,f1,_,f3,f4,f5⟩:=hf b hb;exact⟨f3,f1,f4,f5⟩
  ·obtain⟨o,es,ep,ho,r⟩:=hm;exact⟨o,es,ep,keep _ o (fun hb=>(hf _ hb).2.1 rfl) ho,r⟩
  ·refine(I.A0 b o q).Hs (fun c w hc r=>keep c w ?_ r) (fun c r=>r) fun c ys r=>r;rcases hc with rfl|hc
   ·exact EX _ _ q
   ·exact EX _ _ hc
 self:=fun _ _ _ _ _ st h=>wpAny_pyIter_zip st.1 h
def jw(ta:TA):TI:=fun σ H R=>ta σ H fun vs H1=>∃(b1 b2:Bool) (a1 a2:AD),vs=[.ref a1,.ref a2]∧(∃xs,CP b1 H1 a1 xs)∧(∃ys,CP b2 H1 a2 ys)∧R (jT b1 b2 a1 a2) H1
def WN{X:Cx}{elts:List Expr}{x1}{tpos:Pos}{a b:Expr}{ta:TA}{p pos:Pos}(hg:Gl X "zip")(hm:X.mg "zip" = none)(ha:PA X [a,b] ta)(hs:starEach [a,b] X.env=[(false,eval a X.env),(false,eval b X.env)]:=by rfl)(hs2:starEach [b] X.env=[(false,eval b X.env)]:=by rfl) :
  PI X (.Tuple elts x1 tpos) (.Call (.Name "zip" p) [a,b] [] pos) (jw ta):=by
 intro pins s σ H R I h;refine Call_ (Fs I hg hm boot_zip (av (BN (ha pos pins s σ H _ I h) fun us s1 ⟨vs,H1,I1,r1,q1⟩=>?_) (by rw [hs,hs2]) (by rw [hs2];rfl)));obtain⟨b1,b2,l1,l2,e,⟨xs,h1⟩,⟨ys,h2⟩,q⟩:=q1;subst e;cases r1 with
 |cons r rr =>
  cases rr with
  |cons r' rr =>
   cases rr;cases r;cases r';obtain⟨us,_,p1⟩:=h1.raw I1;obtain⟨vs,_,p2⟩:=h2.raw I1;refine ZT.Y9 p1 p2 fun h' z1 z2 z3 z4 z5 hk=>wpAny_pyIter_zip z1 ?_;have I2:Inv X pins σ H1 { s1 with heap:=h' }:=I1.kept (t':=s1.toks) hk;refine⟨_,[s1.heap.objs.size+4,s1.heap.objs.size+2,s1.heap.objs.size+3,s1.heap.objs.size,s1.heap.objs.size+1],_,_,H1,rfl,I2,YQ ?_,⟨z1,z2,⟨_,_,z3⟩,z4,z5⟩,fun b hb=>?_,q⟩
   ·simp
   have hb':s1.heap.objs.size≤b:=by
    have hb2:b=s1.heap.objs.size+4∨b=s1.heap.objs.size+2∨b=s1.heap.objs.size+3∨b=s1.heap.objs.size∨b=s1.heap.objs.size+1:=by simpa using hb
    rcases hb2 with h|h|h|h|h<;>rw [h]<;>first|exact aF _|exact Nat.le_add_right _ _
   exact I1.Nr hb' (I1.A0.fresh hb')
def UY(K:Fg)(a:AD):It :=
 ⟨fun i H=>∃xs x,Al K H a xs∧xs[i]? = some x,fun i H v H'=>∃p x,v=.ref p∧H p=none∧H'=upd H p (.tup [.int i,x])∧∀xs,Al K H a xs→xs[i]? = some x,fun i H=>∃xs,Al K H a xs∧xs.length=i⟩
def VI{P:Program}{w:World}{K:Fg}{elts:List Expr}{x1}{pos:Pos}(a e it:AD)(hne:e≠it) :
  Turn P w K (.Tuple elts x1 pos) (UY K a) [e,it] e (fun i h=>(∃old,IsEnum h e it (i:Nat) old)∧h.IsListIter it a i) where
 mem:=by simp
 obj:=fun i h st b hb=>by
  rcases aN.mp hb with rfl|hb
  ·obtain⟨⟨old,q⟩,_⟩:=st;exact⟨_,q,fun v z=>by cases z⟩
  ·have e2:b=it:=by simpa using hb
   subst e2;obtain⟨_,o,q,c,d⟩:=st;exact⟨o,q,fun v z=>by rw [d]at z;cases z⟩
 keep:=fun i h h' st k=>by
  obtain⟨⟨old,q⟩,o,q2,r⟩:=st;exact⟨⟨old,k e (by simp) _ q⟩,o,k it (by simp) _ q2,r⟩
 item:=by
  intro X hP hw hK hc i pins s σ H E I hf st hg;subst hP hw hK;obtain⟨xs,x,hq,hx⟩:=hg;obtain⟨its,rv,pL,hz⟩:=I.list hq;have p:=pL.isList;obtain⟨u,hu,ru⟩:=rv.get hx;obtain⟨⟨old,he⟩,hit⟩:=st;have hai:a≠it:=fun z=>by
   obtain⟨o,e1,c1,_⟩:=p;obtain⟨o2,e2,c2,_⟩:=hit;rw [z,e2]at e1;cases e1;rw [c1]at c2;exact absurd c2 (by decide)
  have hae:a≠e:=fun z=>by
   obtain⟨o,e1,c1,_⟩:=p;rw [z,he]at e1;cases e1;exact absurd (show Value.type "enumerate" = Value.type "list" from c1) (by decide)
  have hlt:i<its.length:=(aD.mp hu).1;have hE0:=hf e (by simp);have hI0:=hf it (by simp);refine wpAny_pyNext_enum_itemD (Draws.list (prog:=X.prog) (w:=X.w) (A:=X.A.in1) (I.ok.hd hc) it a hai its.toArray) he ⟨hit,p⟩ (by simpa using hlt) hne (by simp [hne,Ne.symm hae]) fun y h' tk hy ho hs' hT hsz hk=>⟨_,rfl,wpAny_letOwnedTupleGo_enum (s:={ s with heap:=h',toks:=tk+1 }) ho fun h'' he'' sb=>?_⟩;have hyu:y=u:=by
   have hy:its[i]? = some y:=by simpa using hy
   rw [hu]at hy;exact(ah hy).symm
  subst hyu;have keep:∀b o,b≠e→b≠it→s.heap.get? b=some o→h''.get? b=some o:=fun b o h1 h2 q=>(sb.2 b h1).trans (hk b o h1 h2 q);have hTe:s.heap.objs.size≠e:=bS (aE he);have hTi:s.heap.objs.size≠it:=let⟨_,q,_⟩:=hit;bS (aE q);have hT'':h''.get? s.heap.objs.size=some { cls:=.type "tuple",data:=.seq #[.int i tk,y] }:=(sb.2 _ hTe).trans hT;have hTn:H s.heap.objs.size=none:=I.A0.fresh (aF _);have neT:∀b o,s.heap.get? b=some o→b≠s.heap.objs.size:=fun b o q=>aJ (aE q);have EX:∀b o,H b=some o→b≠e∧b≠it:=fun b o q=>⟨(fun z=>by rw [z,hE0.1]at q;cases q),(fun z=>by rw [z,hI0.1]at q;cases q)⟩;refine⟨.ref s.heap.objs.size,upd H s.heap.objs.size (.tup [.int i,x]),?_,rfl,⟨_,x,rfl,hTn,rfl,fun ys hy=>by rw [I.RQ hy hq];exact hx⟩,⟨⟨_,by simpa using he''⟩,?_⟩,fun b hb=>?_⟩
  ·show Inv X pins σ _ { s with heap:=h'',gens:=s.gens,drawn:=s.drawn,toks:=tk+1 };refine I.step (h':=h'') (g':=s.gens) (d':=s.drawn) (t':=tk+1) (ch:=[e,it]) (fun b hb=>?_) (fun b o _ _ hc q _=>keep b o (fun z=>hc (by simp [z])) (fun z=>hc (by simp [z])) q) (fun b o _ _ hc q _=>⟨o.slots,keep b o (fun z=>hc (by simp [z])) (fun z=>hc (by simp [z])) q⟩)
    (fun b o _ q n=>by rw [AJ (neT b o q)];exact n) (fun b o hc q=>⟨o,keep b o (fun z=>hc (by simp [z])) (fun z=>hc (by simp [z])) q⟩) (fun b ys q=>by rw [AJ (AU q hTn)];exact q) (fun b o u q=>by rw [AJ (AU q hTn)];exact q)
    (fun b ps q=>⟨#[],by rw [AJ (AU q hTn),q];simp⟩) (fun m hm=>?_) (fun b o q=>?_) I.bare
   ·rcases aN.mp hb with rfl|hb
    ·exact⟨hE0.2.2.2.1,hE0.2.1,hE0.2.2.2.2.1,hE0.2.2.2.2.2⟩
    ·have e2:b=it:=by simpa using hb
     subst e2;exact⟨hI0.2.2.2.1,hI0.2.1,hI0.2.2.2.2.1,hI0.2.2.2.2.2⟩
   ·obtain⟨o,es,ep,ho,r⟩:=hm;exact⟨o,es,ep,keep _ o (Ne.symm hE0.2.1) (Ne.symm hI0.2.1) ho,r⟩
   ·by_cases hb:b=s.heap.objs.size
    ·subst hb;rw [AL]at q;cases q;exact⟨X8,[.int i tk,y],.cons ⟨tk,rfl⟩ (.cons ru .nil),_,hT'',rfl,_,rfl⟩
    ·rw [AJ hb]at q;refine(I.A0 b o q).Hs (fun c v hc r=>keep c v ?_ ?_ r) (fun c r=>by rw [AJ (AU r hTn)];exact r) fun c ys r=>by rw [AJ (AU r hTn)];exact r
     ·rcases hc with rfl|hc
      ·exact(EX _ _ q).1
      ·exact(EX _ _ hc).1
     ·rcases hc with rfl|hc
      ·exact(EX _ _ q).2
      ·exact(EX _ _ hc).2
  ·obtain⟨⟨o,q,r⟩,_⟩:=hs';exact⟨o,(sb.2 it (Ne.symm hne)).trans q,r⟩
  ·rcases aN.mp hb with rfl|hb
   ·rw [AJ (Ne.symm hTe)];exact hE0.1
   ·have e2:b=it:=by simpa using hb
    subst e2;rw [AJ (Ne.symm hTi)];exact hI0.1
 done:=by
  intro X hP hw hK hc i pins s σ H E I hf st hg;subst hP hw hK;obtain⟨xs,hq,hx⟩:=hg;obtain⟨its,rv,pL,hz⟩:=I.list hq;have p:=pL.isList;obtain⟨⟨old,he⟩,hit⟩:=st;have hai:a≠it:=fun z=>by
   obtain⟨o,e1,c1,_⟩:=p;obtain⟨o2,e2,c2,_⟩:=hit;rw [z,e2]at e1;cases e1;rw [c1]at c2;exact absurd c2 (by decide)
  have hl:its.length=i:=by rw [←rv.length];exact hx
  subst hl;obtain⟨f0,f1,f2,f3,f4,f5⟩:=hf it (by simp);exact wpAny_pyNext_enum_endD (Draws.list (prog:=X.prog) (w:=X.w) (A:=X.A.in1) (I.ok.hd hc) it a hai its.toArray) he ⟨hit,p⟩ fun h' eb=>⟨rfl,I.turned (t':=s.toks) (fun b o hb q=>eb b o hb q) f0 f1 f3 f4 f5⟩
 self:=fun _ _ _ _ _ st h=>by
  obtain⟨⟨old,he⟩,_⟩:=st;exact wpAny_pyIter_enum he h
def fV(K:Fg)(ta:TA):TI:=fun σ H R=>ta σ H fun vs H1=>∃a,vs=[.ref a]∧(∃xs,Al K H1 a xs)∧R (UY K a) H1
def Sh{X:Cx}{elts:List Expr}{x1}{tpos:Pos}{a:Expr}{ta:TA}{p pos:Pos}(hg:Gl X "enumerate")(hm:X.mg "enumerate" = none)(ha:PA X [a] ta)(hs:starEach [a] X.env=[(false,eval a X.env)]:=by rfl) :
  PI X (.Tuple elts x1 tpos) (.Call (.Name "enumerate" p) [a] [] pos) (fV X.K ta):=by
 intro pins s σ H R I h;refine Call_ (Fs I hg hm boot_enumerate (av (BN (ha pos pins s σ H _ I h) fun us s1 ⟨vs,H1,I1,r1,q1⟩=>?_) hs rfl));obtain⟨t,e,⟨xs,hq⟩,q⟩:=q1;subst e;cases r1 with
 |cons r rr =>
  cases rr;cases r;obtain⟨its,rv,p',hz⟩:=I1.list hq;refine call_enumerate_list (show s1.heap.IsList t its.toArray from p'.isList) fun h' he hit hsz hk=>wpAny_pyIter_enum he ?_;have I2:Inv X pins σ H1 { s1 with heap:=h' }:=I1.kept (t':=s1.toks) hk;have hn:s1.heap.objs.size+1≠s1.heap.objs.size:=by omega
  refine⟨s1.heap.objs.size+1,[s1.heap.objs.size+1,s1.heap.objs.size],_,_,H1,rfl,I2,VI t _ _ hn,⟨⟨_,he⟩,hit⟩,fun b hb=>?_,q⟩;have hb':s1.heap.objs.size≤b:=by
   have hb2:b=s1.heap.objs.size+1∨b=s1.heap.objs.size:=by simpa using hb
   rcases hb2 with z|z
   ·rw [z];exact Nat.le_succ _
   ·rw [z];exact aF _
  exact I1.Nr hb' (I1.A0.fresh hb')
def W9{K:Fg}{a:AD}{xs:List V}{g:TG}{tb:TS}{D:Ends}{σ:St}{H:Hp}(Pv:Nat→St→Hp→Prop)(h0:Pv 0 σ H)(hl:∀i σ H,i≤xs.length→Pv i σ H→Al K H a xs)
 (hs:∀i x σ H,xs[i]? = some x→Pv i σ H→∀p,H p=none→g (.ref p) σ (upd H p (.tup [.int (i:Nat),x])) fun σ2 H2=>tb { D with nx:=Pv (i+1),ct:=Pv (i+1),bk:=D.nx } σ2 H2)(hd:∀σ H,Pv xs.length σ H→D.nx σ H) :
  ∃W:Nat→Nat→St→Hp→Prop,(∃m,W 0 m σ H)∧∀i m σ H,W i m σ H →
   ((UY K a).stop i H∧D.nx σ H)∨((UY K a).go i H∧∃N:St→Hp→Prop,(∀σ' H',N σ' H'→∃m',m'<m∧W (i+1) m' σ' H')∧∀x H',(UY K a).Eh i H x H'→g x σ H' fun σ2 H2=>tb { D with nx:=N,ct:=N,bk:=D.nx } σ2 H2):=by
 refine⟨fun i m σ H=>m=xs.length-i∧i≤xs.length∧Pv i σ H,⟨xs.length,by simp,Nat.zero_le _,h0⟩,?_⟩;rintro i m σ H ⟨rfl,hi,p⟩;have q:=hl i σ H hi p;by_cases hlt:i<xs.length
 ·refine .inr ⟨⟨xs,xs[i],q,by simp [hlt]⟩,Pv (i+1),fun σ' H' p'=>⟨xs.length-(i+1),by omega,rfl,hlt,p'⟩,fun x H' y=>?_⟩;obtain⟨pp,x',rfl,hn,rfl,y⟩:=y;exact hs i x' σ _ (y xs q) p pp hn
 ·have e:i=xs.length:=by omega
  subst e;exact .inl ⟨⟨xs,q,rfl⟩,hd σ H p⟩
def fi(i:Expr):Prop:=∀ov iv,subscripted i false ov iv=operate [ov,iv] (getItem ov iv)
def cw{prog:Program}{w:World}{A:Around}{E:VL→SD→Prop}{s:SD}{env:Env}{value slice:Expr}{pos:Pos}{T id:String}{Q:VL→SD→Prop}
 (hl:typeLookup (.type T) "__getitem__" = pure (some (.builtin id)))(hs:fi slice)
 (h:wpAny (model prog w) A (eval value env) (fun o s₁=>wpAny (model prog w) A (eval slice env) (fun i s₂=>s₂.TypeIs o T∧wpAny (model prog w) A (getItem o i) Q E s₂) E s₁) E s) :
  wpAny (model prog w) A (eval (.Subscript value slice pos) env) Q E s:=by
 refine Subscript_ (ak h (fun o s₁ h₁=>ak h₁ (fun i s₂ h₂=>?_) fun _ _ x=>x) fun _ _ x=>x);obtain⟨hT,h₂⟩:=h₂;unfold subscriptTail;refine Wb ?_;rw [getitemInPython_of_ne hT.not_modules];refine Wb (wpAny_specialOf hT hl ?_);have fin:wpAny (model prog w) A (subscripted slice false o i) (fun r s₃=>wpAny (model prog w) A (letTemporaryGo value o r>>=fun _=>pure r) Q E s₃) E s₂:=by
  rw [hs o i];exact wpAny_operating (ak h₂ (fun r s₃ h₃=>Wb (wpAny_letTemporaryGo (aA h₃))) fun _ _ x=>x)
 first
  |exact aA (Wb fin)
  |exact Wb (aA (Wb fin))
  |exact Wb fin
end L2
namespace TH
open PySem PyProof.Rows PySem.SeqAt
def IT:Tr→List Int
 |.nil=>[]
 |.cons b r=>reduceHash (Builtin.Tuple.tupleHashOf (IT b))::IT r
def BI(t:Tr):Int:=reduceHash (Builtin.Tuple.tupleHashOf (IT t))
section
variable{prog:Program}{w:World}{E:VL→SD→Prop}
def IsTuple.ty{h:Heap}{a:AD}{x:Array VL}{s:SD}(e:s.heap=h)(k:h.IsTuple a x):s.TypeIs (.ref a) "tuple" := by
 subst e;obtain⟨o,ho,hc,_⟩:=k;exact⟨o,ho,hc⟩
def VB(prog:Program)(w:World)(E:VL→SD→Prop)(t:Tr):Prop:=∀(us:List VL) (A:Around) (s:SD) (b:Array Int) (Q:Array Int→SD→Prop),Vs s.heap t us→A.units+t.deep≤cLine →
 (∀tk b',b'.toList=b.toList++IT t→Q b' { s with toks:=tk })→wpAny (model prog w) A (forIn us b fun x r=>do let h ←pyHash x;pure PUnit.unit;pure (ForInStep.yield (r.push h))) Q E s
def NA{t:Tr}(row:VB prog w E t){a:AD}{its:List VL}{A:Around}{s:SD}{Q:Int→SD→Prop}(h1:s.heap.IsTuple a its.toArray)(h2:Vs s.heap t its)(hu:A.units+t.deep<cLine)
 (h:∀tk,Q (BI t) { s with toks:=tk }):wpAny (model prog w) A (pyHash (.ref a)) Q E s:=by
 have hT:=IsTuple.ty rfl h1;obtain⟨o,ho,hc,n,hd⟩:=id h1;refine PySem.W.pyHash_slot (T := "tuple") hT F.slot_tuple_hash F.entry_tuple_hash (F.args_tuple_hash_1 _) (beq_builtin_none _) (.inr (by omega)) ?_;show wpAny _ _ (Builtin.Tuple.tupleItemsOf (.ref a)>>=_) _ _ s;refine Wb (wpAny_tupleItemsOf ho hd ?_);refine Wb ?_;rw [←Array.forIn_toList];refine row its A.in1 s #[] _ h2 (by rw [Around.in1_units];omega) fun tk b hb=>?_;show wpAny _ _ (retInt (Builtin.Tuple.tupleHashOf b.toList)) _ _ _;rw [hb];exact Wb (wpAny_mkInt (aA ⟨_,_,rfl,h _⟩))
def Nn:∀t:Tr,VB prog w E t
 |.nil=>fun us A s b Q e _ h=>by rw [Vs]at e;subst e;exact aA (h s.toks b (by simp [IT]))
 |.cons c r=>fun us A s b Q e hu h=>by
  rw [Vs]at e;obtain⟨a,its,rest,rfl,h1,h2,h3⟩:=e;have hd:(Tr.cons c r).deep=max (c.deep+1) r.deep:=rfl;rw [List.forIn_cons];refine Wb (Wb (NA (Nn c) h1 h2 (by omega) fun tk=>?_));refine Wb (aA (aA ?_));exact Nn r rest A _ _ Q h3 (by omega) fun tk' b' hb=>h tk' b' (by simp [hb,IT,BI])
def a9{t:Tr}{a:AD}{its:List VL}{A:Around}{s:SD}{Q:Int→SD→Prop}(h1:s.heap.IsTuple a its.toArray)(h2:Vs s.heap t its)(hu:A.units+t.deep<cLine)
 (h:∀tk,Q (BI t) { s with toks:=tk }):wpAny (model prog w) A (pyHash (.ref a)) Q E s:=NA (Nn t) h1 h2 hu h
def Good(h:Heap)(n:Nat)(v:VL):Prop:=∃a its t,v=.ref a∧h.IsTuple a its.toArray∧Vs h t its∧t.deep<n
def LD{h:Heap}:∀ {t:Tr} {us:List VL} {n:Nat},Vs h t us→t.deep≤n→∀v∈us,Good h n v
 |.nil,us,n,e,_,v,hv=>by rw [Vs]at e;subst e;cases hv
 |.cons c r,us,n,e,hd,v,hv=>by
  rw [Vs]at e;obtain⟨a,its,rest,rfl,h1,h2,h3⟩:=e;rw [Tr.deep]at hd;rcases aN.mp hv with rfl|hv
  ·exact⟨a,its,c,rfl,h1,h2,by omega⟩
  ·exact LD h3 (by omega) v hv
def So:∀(n:Nat) {v:VL} {A:Around} {s:SD} {Q:Bool→SD→Prop},Good s.heap n v→Q true s→wpAny (model prog w) A (hashByValue n v) Q E s
 |0,v,A,s,Q,⟨_,_,_,_,_,_,z⟩,_=>absurd z (ao _)
 |n+1,v,A,s,Q,⟨a,its,t,e,h1,h2,hd⟩,h=>by
  subst e;have hT:=IsTuple.ty rfl h1;obtain⟨o,ho,hc,k,hdt⟩:=id h1;unfold hashByValue;refine Wb (wpAny_specialOf hT F.slot_tuple_hash.lookup ?_);refine Wb (aX ho hdt ?_);refine Wb ?_;show wpAny _ _ (forIn its.toArray _ _) _ _ s;rw [←Array.forIn_toList];refine wpAny_forIn_list _ (fun rest r s'=>r.1=none∧s'=s∧∀v∈rest,Good s.heap n v) _ ?_ ?_ _ _ ⟨rfl,rfl,LD h2 (by omega)⟩
  ·rintro v rest r s' ⟨hr,rfl,hall⟩;refine Wb (So n (hall v aR) ?_);simp only [Bool.not_true,Bool.false_eq_true,if_false];exact aA ⟨rfl,rfl,fun u hu'=>hall u (aP _ hu')⟩
  ·rintro⟨r1,r2⟩ s' ⟨hr,rfl,_⟩;simp only at hr;subst hr;exact aA h
def quiet:∀(n:Nat) {v:VL} {A:Around} {s:SD} {Q:Bool→SD→Prop},Good s.heap n v→Q true s→wpAny (model prog w) A (eqIsQuiet n v) Q E s
 |0,v,A,s,Q,⟨_,_,_,_,_,_,z⟩,_=>absurd z (ao _)
 |n+1,v,A,s,Q,⟨a,its,t,e,h1,h2,hd⟩,h=>by
  subst e;have hT:=IsTuple.ty rfl h1;obtain⟨o,ho,hc,k,hdt⟩:=id h1;unfold eqIsQuiet;refine Wb (wpAny_specialOf hT F.slot_tuple_eq.lookup ?_);show wpAny _ _ (isInstance (.ref a) (.type "tuple")>>=_) _ _ s;refine Wb (wpAny_isInstance hT isSubtype_tuple_tuple ?_);simp only [Bool.not_true,Bool.false_eq_true,if_false];refine Wb (aX ho hdt ?_);refine Wb ?_;show wpAny _ _ (forIn its.toArray _ _) _ _ s;rw [←Array.forIn_toList];refine wpAny_forIn_list _ (fun rest r s'=>r.1=none∧s'=s∧∀v∈rest,Good s.heap n v) _ ?_ ?_ _ _ ⟨rfl,rfl,LD h2 (by omega)⟩
  ·rintro v rest r s' ⟨hr,rfl,hall⟩;refine Wb (quiet n (hall v aR) ?_);simp only [Bool.not_true,Bool.false_eq_true,if_false];exact aA ⟨rfl,rfl,fun u hu'=>hall u (aP _ hu')⟩
  ·rintro⟨r1,r2⟩ s' ⟨hr,rfl,_⟩;simp only at hr;subst hr;exact aA h
def Nc:∀(n:Nat) {v:VL} {A:Around} {s:SD} {Q:Bool→SD→Prop},Good s.heap n v→Q false s→wpAny (model prog w) A (ofAClassStatement n v) Q E s
 |0,v,A,s,Q,⟨_,_,_,_,_,_,z⟩,_=>absurd z (ao _)
 |n+1,v,A,s,Q,⟨a,its,t,e,h1,h2,hd⟩,h=>by
  subst e;have hT:=IsTuple.ty rfl h1;obtain⟨o,ho,hc,k,hdt⟩:=id h1;unfold ofAClassStatement;refine Wb (wpAny_typeOf hT ?_);have ht:("tuple" == "tuple")=true:=by rfl
  dsimp only;rw [if_pos ht];refine Wb (aA ?_);simp only [Bool.not_true,Bool.false_eq_true,if_false];refine Wb (aX ho hdt ?_);refine Wb ?_;rw [←Array.forIn_toList];refine wpAny_forIn_list _ (fun rest r s'=>r.1=none∧s'=s∧∀v∈rest,Good s.heap n v) _ ?_ ?_ _ _ ⟨rfl,rfl,LD h2 (by omega)⟩
  ·rintro v rest r s' ⟨hr,rfl,hall⟩;refine Wb (Nc n (hall v aR) ?_);simp only [Bool.false_eq_true,if_false];exact aA ⟨rfl,rfl,fun u hu'=>hall u (aP _ hu')⟩
  ·rintro⟨r1,r2⟩ s' ⟨hr,rfl,_⟩;simp only at hr;subst hr;exact aA h
def ZH{x:VL}{l:List VL}{A:Around}{s:SD}{Q:Bool→SD→Prop}(hx:Good s.heap 8 x)(hl:∀y∈l,Good s.heap 8 y)(h:Q false s):wpAny (model prog w) A (searchCouldBeSeen x l) Q E s:=by
  unfold searchCouldBeSeen
  refine Wb ?_
  refine wpAny_forIn_list _ (fun rest r s'=>r.1=none∧s'=s∧∀v∈rest,Good s.heap 8 v) _ ?_ ?_ _ _ ⟨rfl,rfl,hl⟩
  · rintro v rest r s' ⟨hr,rfl,hall⟩
    have go:∀b:Bool,wpAny (model prog w) A (if b=true then pure (ForInStep.yield (none,())) else do
        let q ←eqIsQuiet 8 x
        if(!q)=true then pure (ForInStep.done (some true,())) else do
          let q ←eqIsQuiet 8 v
          if(!q)=true then pure (ForInStep.done (some true,())) else do
            let q ←ofAClassStatement 8 x
            if q=true then pure (ForInStep.done (some true,())) else do
              let q ←ofAClassStatement 8 v
              if q=true then pure (ForInStep.done (some true,())) else pure (ForInStep.yield (none,())))
        (fun st s''=>match st with
          |ForInStep.yield r=>r.1=none∧s''=s'∧∀v∈rest,Good s'.heap 8 v
          |ForInStep.done r=>False) E s':=fun b=>by
      cases b with
      |true=>rw [if_pos rfl];exact aA ⟨rfl,rfl,fun u hu'=>hall u (aP _ hu')⟩
      |false =>
        rw [if_neg aL]
        refine Wb (quiet 8 hx ?_)
        simp only [Bool.not_true,Bool.false_eq_true,if_false]
        refine Wb (quiet 8 (hall v aR) ?_)
        simp only [Bool.not_true,Bool.false_eq_true,if_false]
        refine Wb (Nc 8 hx ?_)
        simp only [Bool.false_eq_true,if_false]
        refine Wb (Nc 8 (hall v aR) ?_)
        simp only [Bool.false_eq_true,if_false]
        exact aA ⟨rfl,rfl,fun u hu'=>hall u (aP _ hu')⟩
    refine ak (go _) (fun st s'' z=>?_) fun _ _ z=>z
    cases st with
    |yield r=>exact z
    |done r=>exact z.elim
  · rintro⟨r1,r2⟩ s' ⟨hr,rfl,_⟩
    simp only at hr
    subst hr
    exact aA h
end
end TH
namespace TH
open PySem PyProof.Rows PySem.SeqAt
abbrev ES:=Array (Int×Tr)
def NS(et:ES)(i:Nat):Int:=(et[i]?.map (·.1)).getD 0
def VJ(et:ES)(t:SetTable)(x:Tr)(h:Int):Option (Option Nat) :=
 if t.gaveWay then none else
 match t.probe (NS et) h (t.probeStart h) with
 |some (.empty j none)=>some (some j)
 |some (.candidate _ i _)=>match et[i]? with
  |some (_,y)=>if y=x then some none else none
  |none=>none
 |_=>none
def HL(st:ES×SetTable)(x:Tr):Option (ES×SetTable) :=
 if(st.2.fits st.1.size&&decide (st.1.size≤1000)&&st.2.plain)=false then none else
 match VJ st.1 st.2 x (BI x) with
 |none=>none
 |some none=>some st
 |some (some slot) =>
  if(st.2.put slot).1.tooFull=false then some (SetTable.insertAt st.1 (st.2.put slot).2 (BI x,x),(st.2.put slot).1) else
  if((st.2.put slot).1.fits (SetTable.insertAt st.1 (st.2.put slot).2 (BI x,x)).size&&decide (SetTable.sizeAbove (SetTable.grown (st.1.size+1))≤100000))=false then none else
  match (st.2.put slot).1.relaid ((SetTable.insertAt st.1 (st.2.put slot).2 (BI x,x)).map (·.1)) (SetTable.grown (st.1.size+1)) with
  |none=>none
  |some (t',order) =>
   if(order.filterMap ((SetTable.insertAt st.1 (st.2.put slot).2 (BI x,x))[·]?)).size=(SetTable.insertAt st.1 (st.2.put slot).2 (BI x,x)).size then
    some (order.filterMap ((SetTable.insertAt st.1 (st.2.put slot).2 (BI x,x))[·]?),t') else none
def OD(G:VL→Tr→Prop)(h:Heap)(p:Int×VL)(q:Int×Tr):Prop:=p.1=q.1∧q.2.deep<8∧G p.2 q.2∧∃a its,p.2=.ref a∧h.IsTuple a its.toArray∧Vs h q.2 its
abbrev DK(G:VL→Tr→Prop)(h:Heap)(ev:Array (Int×VL))(et:ES):Prop:=Paired (OD G h) ev.toList et.toList
variable{G:VL→Tr→Prop}
section
variable{α β:Type}{F:α→β→Prop}
def Paired.get:∀ {l:List α} {m:List β},Paired F l m→∀ {i:Nat} {y:β},m[i]? = some y→∃x,l[i]? = some x∧F x y
 |_,_,.nil,i,y,h=>by simp at h
 |_,_,.cons h1 r,0,y,h=>by simp at h;subst h;exact⟨_,rfl,h1⟩
 |_,_,.cons h1 r,i+1,y,h=>Paired.get r (by simpa using h)
def Paired.none:∀ {l:List α} {m:List β},Paired F l m→∀ {i:Nat},m[i]? = Option.none→l[i]? = Option.none:=fun {l m} r i h=>by
 have:=r.length;rw [List.getElem?_eq_none_iff]at h ⊢;omega
def Paired.app{l2:List α}{m2:List β}(k:Paired F l2 m2):∀ {l:List α} {m:List β},Paired F l m→Paired F (l++l2) (m++m2)
 |_,_,.nil=>k
 |_,_,.cons h r=>.cons h (Paired.app k r)
def Paired.take:∀ {l:List α} {m:List β} (n:Nat),Paired F l m→Paired F (l.take n) (m.take n)
 |_,_,0,_=>by simpa using Paired.nil
 |_,_,n+1,.nil=>by simpa using Paired.nil
 |_,_,n+1,.cons h r=>.cons h (Paired.take n r)
def Paired.drop:∀ {l:List α} {m:List β} (n:Nat),Paired F l m→Paired F (l.drop n) (m.drop n)
 |_,_,0,h=>h
 |_,_,n+1,.nil=>by simpa using Paired.nil
 |_,_,n+1,.cons h r=>Paired.drop n r
def Paired.pick{l:List α}{m:List β}(r:Paired F l m):∀(o:List Nat),Paired F (o.filterMap (l[·]?)) (o.filterMap (m[·]?))
 |[]=>.nil
 |i::o=>by
  rw [List.filterMap_cons,List.filterMap_cons];cases e:m[i]? with
  |none=>rw [Paired.none r e];exact Paired.pick r o
  |some y =>
   obtain⟨x,e2,h⟩:=Paired.get r e;rw [e2];exact .cons h (Paired.pick r o)
def Paired.imp{G:α→β→Prop}(h:∀a b,F a b→G a b):∀ {l:List α} {m:List β},Paired F l m→Paired G l m
 |_,_,.nil=>.nil
 |_,_,.cons k r=>.cons (h _ _ k) (Paired.imp h r)
end
def Hy{α:Type}(xs:Array α)(p:Nat)(x:α):(SetTable.insertAt xs p x).toList=xs.toList.take p++x::xs.toList.drop p:=by
 unfold SetTable.insertAt;simp [List.extract];rw [List.take_of_length_le (by simp)]
def DK.fst{h:Heap}{ev:Array (Int×VL)}{et:ES}(r:DK G h ev et):ev.map (·.1)=et.map (·.1):=by
 have key:∀ {l:List (Int×VL)} {m:List (Int×Tr)},Paired (OD G h) l m→l.map (·.1)=m.map (·.1):=fun r=>by
  induction r with
  |nil=>rfl
  |cons k _ ih=>rw [List.map_cons,List.map_cons,ih,k.1]
 apply Array.toList_inj.mp
 simpa using key r
def DK.size{h:Heap}{ev:Array (Int×VL)}{et:ES}(r:DK G h ev et):ev.size=et.size:=by simpa using Paired.length r
def DK.NS{h:Heap}{ev:Array (Int×VL)}{et:ES}(r:DK G h ev et)(i:Nat):(ev[i]?.map (·.1)).getD 0=NS et i:=by
 have:=bM (fun a:Array Int=>a[i]?) r.fst;simp only [Array.getElem?_map]at this;rw [TH.NS,this]
def DK.good{h:Heap}{ev:Array (Int×VL)}{et:ES}(r:DK G h ev et):∀p∈ev.toList,Good h 8 p.2:=by
 have key:∀ {l:List (Int×VL)} {m:List (Int×Tr)},Paired (OD G h) l m→∀p∈l,Good h 8 p.2:=fun r=>by
  induction r with
  |nil=>intro p hp;cases hp
  |cons k _ ih =>
   intro p hp;rcases aN.mp hp with rfl|hp
   ·obtain⟨_,hd,_,a,its,e,h1,h2⟩:=k;exact⟨a,its,_,e,h1,h2,hd⟩
   ·exact ih p hp
 exact key r
def DK.at{h:Heap}{ev:Array (Int×VL)}{et:ES}(r:DK G h ev et){i:Nat}{z:Int}{y:Tr}(e:et[i]? = some (z,y)):∃a its,ev[i]? = some (z,.ref a)∧h.IsTuple a its.toArray∧Vs h y its∧y.deep<8:=by
 obtain⟨⟨z',v⟩,h1,h2,hd,_,a,its,e2,h3,h4⟩:=Paired.get r (by simpa using e);have h2:z'=z:=h2;have e2:v=.ref a:=e2;subst h2 e2;exact⟨a,its,by simpa using h1,h3,h4,hd⟩
def DK.keeps{h h':Heap}{ev:Array (Int×VL)}{et:ES}(k:∀b o,h.get? b=some o→o.cls=.type "tuple" → h'.get? b=some o)(r:DK G h ev et):DK G h' ev et :=
 Paired.imp (fun p q ⟨e,hd,hg,a,its,e2,h1,h2⟩=>⟨e,hd,hg,a,its,e2,(by obtain⟨o,ho,hc,n,hdt⟩:=h1;exact⟨o,k _ _ ho hc,hc,n,hdt⟩),h2.keeps k⟩) r
section
variable{prog:Program}{w:World}{E:VL→SD→Prop}{A:Around}{s:SD}{a xa:AD}{o:Obj}{ev:Array (Int×VL)}{et:ES}{ep:Nat}{t:SetTable}{x:Tr}{its:List VL}{h:Int}
def W8{r:Option Nat}{Q:SetFound→SD→Prop}(ho:s.heap.get? a=some o)(hd:o.data=.set ev ep t)(hf:t.fits et.size=true)(R:DK G s.heap ev et)(hx1:s.heap.IsTuple xa its.toArray)(hx2:Vs s.heap x its)(hxd:x.deep<8)
 (hu:A.units+8<cLine)(hs:VJ et t x h=some r)(h0:r=none→Q (.there none) s)(h1:∀j,r=some j→Q (.free j false) s):wpAny (model prog w) A (setSearch a (.ref xa) h true) Q E s:=by
 have hf':t.fits ev.size=true:=by rw [R.size];exact hf
 unfold VJ at hs;by_cases hg:t.gaveWay=true
 ·rw [if_pos hg]at hs;cases hs
 rw [if_neg hg]at hs;unfold setSearch;rw [show(100000:Nat)=99999+1 from rfl,setSearchFrom];refine Wb (bA ho hd hf' ?_);dsimp only;rw [if_neg hg];have hpr:∀f:Nat→Int,(∀i,f i=NS et i)→t.probe f h ((none:Option SetTable.Probe).getD (t.probeStart h))=t.probe (NS et) h (t.probeStart h):=fun f hf=>by
  rw [show f=NS et from funext hf];rfl
 generalize hst:t.probe _ h ((none:Option SetTable.Probe).getD (t.probeStart h))=pr;have hpr':pr=t.probe (NS et) h (t.probeStart h):=hst.symm.trans (hpr _ fun i=>R.NS i);clear hst hpr;subst hpr';cases hp:t.probe (NS et) h (t.probeStart h) with
 |none=>rw [hp]at hs;cases hs
 |some met =>
  rw [hp]at hs;cases met with
  |empty j dummy =>
   cases dummy with
   |none=>cases hs;exact aA (h1 j rfl)
   |some d=>cases hs
  |candidate j i next =>
   cases he:et[i]? with
   |none=>simp only [he]at hs;cases hs
   |some zy =>
    obtain⟨z,y⟩:=zy;simp only [he]at hs;by_cases hy:y=x
    ·rw [if_pos hy]at hs;cases hs;subst hy;obtain⟨b,its2,e1,e2,e3,e4⟩:=R.at he;cases hl:t.led with
     |true =>
      simp only [Bool.not_true,Bool.false_eq_true,if_false];rw [e1];refine Wb (aV (SE e2 e3 hx1 hx2 (by omega) prog w E _ ?_));rw [decide_eq_true rfl];refine Wb (bA ho hd hf' ?_);exact aA (h0 rfl)
     |false =>
      simp only [Bool.not_false,if_true];refine Wb (ZH ⟨xa,its,_,rfl,hx1,hx2,hxd⟩ (fun v hv=>?_) ?_)
      ·obtain⟨p,hp1,rfl⟩:=aU.mp hv;exact R.good p (Array.mem_toList_iff.mpr (Array.mem_filter.mp (Array.mem_toList_iff.mp hp1)).1)
      simp only [Bool.false_eq_true,if_false];rw [e1];refine Wb (aV (SE e2 e3 hx1 hx2 (by omega) prog w E _ ?_));rw [decide_eq_true rfl];refine Wb (bA ho hd hf' ?_);exact aA (h0 rfl)
    ·rw [if_neg hy]at hs;cases hs
def GN{n:Nat}(h:n≤100000):n≤sizeLine:=aO h (by rw [sizeLine_eq];decide)
def U5{hp:Heap}(ho:hp.get? a=some o)(hd:o.data=.set ev ep t)(ev':Array (Int×VL))(t':SetTable):(hp.update a (Obj.putSet ev' t')).get? a=some { o with data:=.set ev' (ep+1) t' }:=by
 have:=Heap.get?_update_self (Obj.putSet ev' t') ho (by rw [putSet_of ev' t' hd];rfl);rw [putSet_of ev' t' hd]at this;exact this
def TZ{hp:Heap}(ho:hp.get? a=some o)(hc:o.cls=.type "set")(g:Obj→Obj):∀b u,hp.get? b=some u→u.cls=.type "tuple" →(hp.update a g).get? b=some u:=fun b u q hu=>by
 have:a≠b:=fun z=>by
  subst z;rw [ho]at q;cases q;rw [hc]at hu
  injection hu with z
  exact absurd z (by decide)
 rw [Heap.get?_update_other _ _ this];exact q
def iD{et' : ES}{t' : SetTable}{Q : Bool→SD→Prop}(ho : s.heap.get? a = some o)(hc : o.cls = .type "set")(hd : o.data = .set ev ep t)(R : DK G s.heap ev et)(hx1 : s.heap.IsTuple xa its.toArray)(hx2 : Vs s.heap x its)(hxd : x.deep < 8)(hxg : G (.ref xa) x)
 (hu : A.units + 8 < cLine)(hs : HL (et,t) x = some (et',t'))
 (k : ∀ (b : Bool) (h' : Heap) (tk : Nat) (ev' : Array (Int×VL)) (ep' : Nat),Heap.SameBut a s.heap h'→h'.get? a = some { o with data:=.set ev' ep' t' }→DK G h' ev' et'→Q b { s with heap:=h',toks:=tk }) :
    wpAny (model prog w) A (setAdd a (.ref xa)) Q E s := by
  unfold setAdd
  refine aV (Wb (a9 hx1 hx2 (by omega) fun tk => ?_))
  unfold setAddHashed
  refine aV ?_
  unfold HL at hs
  by_cases h1 : (t.fits et.size && decide (et.size≤1000) && t.plain) = false
  · rw [if_pos h1] at hs; cases hs
  rw [if_neg h1] at hs
  simp only [Bool.not_eq_false,Bool.and_eq_true,decide_eq_true_eq] at h1
  obtain ⟨⟨hf,hz⟩,hpl⟩:=h1
  have hf' : t.fits ev.size = true := by rw [R.size]; exact hf
  cases hsr : VJ et t x (BI x) with
  | none => simp only [hsr] at hs; cases hs
  | some r =>
    simp only [hsr] at hs
    rw [show (100000 : Nat) = 99999 + 1 from rfl,setAddHashedIn]
    refine Wb (bA (s:={ s with toks:=tk }) ho hd hf' ?_)
    dsimp only
    have hbs : byScan (.ref xa) ev = false:=rfl
    rw [hbs,if_neg aL]
    refine Wb (W8 (s:={ s with toks:=tk }) ho hd hf R hx1 hx2 hxd hu hsr (fun hr => ?_) fun j hr => ?_)
    · subst hr
      cases hs
      exact aA (k _ s.heap tk ev ep (Heap.SameBut.refl ..) (by rw [ho,← hd]) R)
    · subst hr
      dsimp only at hs ⊢
      refine Wb (bA (s:={ s with toks:=tk }) ho hd hf' ?_)
      dsimp only
      have hpl2 : (t.put j).1.plain = true:=hpl
      rw [if_pos hpl2]
      refine Wb (So 8 (s:={ s with toks:=tk }) ⟨xa,its,x,rfl,hx1,hx2,hxd⟩ ?_)
      simp only [if_true]
      have R1 : DK G s.heap (SetTable.insertAt ev (t.put j).2 (BI x,.ref xa)) (SetTable.insertAt et (t.put j).2 (BI x,x)) := by
        unfold DK
        rw [Hy,Hy]
        exact Paired.app (.cons ⟨rfl,hxd,hxg,xa,its,rfl,hx1,hx2⟩ (Paired.drop _ R)) (Paired.take _ R)
      have hz1 : (SetTable.insertAt ev (t.put j).2 (BI x,Value.ref xa)).size≤1001 := by
        have h2:=bM List.length (Hy ev (t.put j).2 (BI x,Value.ref xa))
        simp only [Array.length_toList,List.length_append,List.length_take,List.length_cons,List.length_drop] at h2
        have:=R.size
        omega
      have hz2 : (SetTable.insertAt et (t.put j).2 (BI x,x)).size = (SetTable.insertAt ev (t.put j).2 (BI x,Value.ref xa)).size:=R1.size.symm
      refine Wb (wpAny_storeSet_of (s:={ s with toks:=tk }) ho hd ?_ (GN (by omega)))
      have g1:=U5 ho hd (SetTable.insertAt ev (t.put j).2 (BI x,.ref xa)) (t.put j).1
      have k1:=TZ ho hc (Obj.putSet (SetTable.insertAt ev (t.put j).2 (BI x,.ref xa)) (t.put j).1)
      have sb1:=af s.heap a (Obj.putSet (SetTable.insertAt ev (t.put j).2 (BI x,.ref xa)) (t.put j).1)
      by_cases hfull : (t.put j).1.tooFull = false
      · rw [if_pos hfull] at hs
        cases hs
        rw [hfull]
        simp only [Bool.and_false,Bool.false_eq_true,if_false]
        exact aA (k _ _ tk _ _ sb1 g1 (R1.keeps k1))
      · rw [if_neg hfull] at hs
        have hfull : (t.put j).1.tooFull = true := by simpa using hfull
        rw [hfull]
        simp only [Bool.not_false,Bool.and_true,if_true]
        by_cases h2 : ((t.put j).1.fits (SetTable.insertAt et (t.put j).2 (BI x,x)).size && decide (SetTable.sizeAbove (SetTable.grown (et.size + 1))≤100000)) = false
        · rw [if_pos h2] at hs; cases hs
        rw [if_neg h2] at hs
        simp only [Bool.not_eq_false,Bool.and_eq_true,decide_eq_true_eq] at h2
        obtain ⟨hfit,hsa⟩:=h2
        cases hrl : (t.put j).1.relaid ((SetTable.insertAt et (t.put j).2 (BI x,x)).map (·.1)) (SetTable.grown (et.size + 1)) with
        | none => simp only [hrl] at hs; cases hs
        | some to =>
          obtain ⟨t2,order⟩:=to
          simp only [hrl] at hs
          by_cases h3 : (order.filterMap ((SetTable.insertAt et (t.put j).2 (BI x,x))[·]?)).size = (SetTable.insertAt et (t.put j).2 (BI x,x)).size
          · rw [if_pos h3] at hs
            cases hs
            have R2 : DK G s.heap (order.filterMap ((SetTable.insertAt ev (t.put j).2 (BI x,Value.ref xa))[·]?)) (order.filterMap ((SetTable.insertAt et (t.put j).2 (BI x,x))[·]?)) := by
              unfold DK
              have:=Paired.pick R1 order.toList
              simpa using this
            have g2:=U5 g1 rfl (order.filterMap ((SetTable.insertAt ev (t.put j).2 (BI x,Value.ref xa))[·]?)) t'
            have k2:=TZ g1 hc (Obj.putSet (order.filterMap ((SetTable.insertAt ev (t.put j).2 (BI x,Value.ref xa))[·]?)) t')
            have sb2:=af (s.heap.update a (Obj.putSet (SetTable.insertAt ev (t.put j).2 (BI x,.ref xa)) (t.put j).1)) a (Obj.putSet (order.filterMap ((SetTable.insertAt ev (t.put j).2 (BI x,Value.ref xa))[·]?)) t')
            refine Wb ?_
            unfold setRelay
            refine Wb (bA g1 rfl (by rw [← hz2]; exact hfit) ?_)
            dsimp only
            rw [R.size,if_neg (Nat.not_lt.mpr (GN hsa))]
            refine Wb ?_
            rw [R1.fst,hrl]
            have hsz : (order.filterMap ((SetTable.insertAt ev (t.put j).2 (BI x,Value.ref xa))[·]?)).size = (SetTable.insertAt ev (t.put j).2 (BI x,Value.ref xa)).size := by rw [R2.size,h3,hz2]
            have hne : ¬ ((order.filterMap ((SetTable.insertAt ev (t.put j).2 (BI x,Value.ref xa))[·]?)).size != (SetTable.insertAt ev (t.put j).2 (BI x,Value.ref xa)).size) = true := by simp [hsz]
            show wpAny _ _ (do if (order.filterMap ((SetTable.insertAt ev (t.put j).2 (BI x,Value.ref xa))[·]?)).size != (SetTable.insertAt ev (t.put j).2 (BI x,Value.ref xa)).size then unsupported "internal:set-table-lost-an-element"
                               pure (order.filterMap ((SetTable.insertAt ev (t.put j).2 (BI x,Value.ref xa))[·]?),t')) _ _ _
            rw [if_neg hne]
            refine aA ?_
            refine wpAny_storeSet_of g1 rfl ?_ (GN (by rw [hsz]; omega))
            exact aA (k _ _ tk _ _ (sb1.trans sb2) g2 ((R2.keeps k1).keeps k2))
          · rw [if_neg h3] at hs; cases hs
end
end TH
namespace TH
open PySem
def grow:List Tr→Tr→List Tr
 |_,.nil=>[]
 |pre,.cons b r=>((Tr.of (Tr.CA (b.bs++[.nil]))::grow [] b).map fun g=>Tr.of (Tr.CA (pre++g::r.bs)))++grow (pre++[b]) r
def kI(t:Tr):List Tr:=Tr.of (Tr.CA (t.bs++[.nil]))::grow [] t
def ups(l:List Tr):List Tr:=l.flatMap kI
def MR(st:ES×SetTable):List Tr→Option (ES×SetTable)
 |[]=>some st
 |x::r=>(HL st x).bind fun st'=>MR st' r
def KZ(led:Bool):ES×SetTable:=(#[],.fresh 0 0 led)
def Oq(st:ES×SetTable):List Tr:=st.1.toList.map (·.2)
def tz:Nat→List Tr
 |0=>[.nil]
 |n+1=>(Tr.CA ((ups (tz n)).eraseDups)).reverse
end TH
namespace TH
open PySem PyProof.Rows PySem.SeqAt
def RK(G:VL→Tr→Prop)(h:Heap)(v:VL)(x:Tr):Prop:=x.deep<8∧G v x∧∃a its,v=.ref a∧h.IsTuple a its.toArray∧Vs h x its
abbrev Ic(G:VL→Tr→Prop)(h:Heap)(vs:List VL)(xs:List Tr):Prop:=Paired (RK G h) vs xs
variable{G:VL→Tr→Prop}
def RK.keeps{h h':Heap}(k:∀b o,h.get? b=some o→o.cls=.type "tuple" → h'.get? b=some o){v:VL}{x:Tr}(r:RK G h v x):RK G h' v x:=by
 obtain⟨hd,hg,a,its,e,h1,h2⟩:=r;exact⟨hd,hg,a,its,e,(by obtain⟨o,ho,hc,n,hdt⟩:=h1;exact⟨o,k _ _ ho hc,hc,n,hdt⟩),h2.keeps k⟩
def Ic.keeps{h h':Heap}(k:∀b o,h.get? b=some o→o.cls=.type "tuple" → h'.get? b=some o){vs:List VL}{xs:List Tr}(r:Ic G h vs xs):Ic G h' vs xs:=Paired.imp (fun _ _ z=>z.keeps k) r
def K5(G:VL→Tr→Prop)(h:Heap)(S:AD)(st:ES×SetTable):Prop:=∃o ev ep,h.get? S=some o∧o.ExactSet∧o.data=.set ev ep st.2∧DK G h ev st.1
def K5.keeps{h h':Heap}{S:AD}{st:ES×SetTable}(x:K5 G h S st)(kS:∀o,h.get? S=some o→h'.get? S=some o)(k:∀b o,h.get? b=some o→o.cls=.type "tuple" → h'.get? b=some o):K5 G h' S st:=by
 obtain⟨o,ev,ep,h1,h2,h3,h4⟩:=x;exact⟨o,ev,ep,kS _ h1,h2,h3,h4.keeps k⟩
section
variable{prog:Program}{w:World}{A:Around}{R:Result→SD→Prop}{I S:AD}{fp wr:List AD}{St:Nat→Heap→Prop}{items:Array VL}{xs:List Tr}{st':ES×SetTable}
def a7(W:Walks prog w A.in1 I fp wr items.size (fun i v=>items[i]? = some v) St)(hSf:S ∉ fp)(hcl:∀i h b o,St i h→b∈wr→h.get? b=some o→o.cls≠.type "tuple")(hu:A.units+10<cLine) :
  ∀(k i:Nat) (s:SD) (st:ES×SetTable),items.size-i=k→i≤items.size→St i s.heap→K5 G s.heap S st→Ic G s.heap items.toList xs→MR st (xs.drop i)=some st' →
   (∀(h':Heap) (tk:Nat),(∀b o,b≠S→b ∉ wr→s.heap.get? b=some o→h'.get? b=some o)→(∀b o,s.heap.get? b=some o→o.cls=.type "tuple" → h'.get? b=some o)→K5 G h' S st'→R (.ok (.ret .none)) { s with heap:=h',toks:=tk }) →
   codeAny (model prog w) A (.builtin "set.update.loop" ⟨[.ref S,.ref I],[]⟩) R s:=by
 have hSw:S ∉ wr:=fun h=>hSf (W.sub _ h);intro k
 induction k with
 |zero =>
  intro i s st hk hi hst hS hT hrun hR;have hin:i=items.size:=by omega
  subst hin;have hlen:=Paired.length hT;rw [List.drop_of_length_le (by rw [←hlen];simp)]at hrun;cases hrun;refine codeAny_builtin F.entry_set_update_loop ?_;rw [Around.under_plainId F.plain_set_update_loop _];show wpAny _ A.in1 (pyNext (.ref I)>>=_) _ _ s;refine Wb (W.done s _ _ hst fun h' tk hm=>?_);show wpAny _ A.in1 (ret Value.none) _ _ _;have kt:∀b o,s.heap.get? b=some o→o.cls=.type "tuple" → h'.get? b=some o:=fun b o e hc=>hm b o (fun hb=>hcl _ _ b o hst hb e hc) e;exact aA (hR h' tk (fun b o _ hb e=>hm b o hb e) kt (hS.keeps (fun o e=>hm S o hSw e) kt))
 |succ k ih =>
  intro i s st hk hi hst hS hT hrun hR;have hlt:i<items.size:=by omega
  refine codeAny_builtin F.entry_set_update_loop ?_;rw [Around.under_plainId F.plain_set_update_loop _];show wpAny _ A.in1 (pyNext (.ref I)>>=_) _ _ s;refine Wb (W.item i s _ _ hlt hst fun v h1 tk hP hst' hm=>?_);have kt:∀b o,s.heap.get? b=some o→o.cls=.type "tuple" → h1.get? b=some o:=fun b o e hc=>hm b o (fun hb=>hcl _ _ b o hst hb e hc) e;have hS1:=hS.keeps (fun o e=>hm S o hSw e) kt;have hT1:=hT.keeps kt;have hlen:=Paired.length hT;have hxi:i<xs.length:=by rw [←hlen];simpa using hlt
  have hx:xs[i]? = some xs[i]:=aI hxi;obtain⟨v',hv',hxd,hxg,xa,its,e1,e2,e3⟩:=Paired.get hT1 hx;have hvv:v'=v:=by
   have h2:items.toList[i]? = some v:=by simpa using hP
   rw [h2]at hv';exact(ah hv').symm
  subst hvv;subst e1;rw [List.drop_eq_getElem_cons hxi,MR]at hrun;cases hadd:HL st xs[i]with
  |none=>rw [hadd]at hrun;cases hrun
  |some st1 =>
   rw [hadd]at hrun;obtain⟨o,ev,ep,g1,g2,g3,g4⟩:=hS1;obtain⟨et,t⟩:=st;obtain⟨et1,t1⟩:=st1;show wpAny _ A.in1 (holding [Value.ref xa] (setAdd S (.ref xa))>>=_) _ _ _;refine Wb (aV (iD (s:={ s with heap:=h1,toks:=tk }) g1 g2.1 g3 g4 e2 e3 hxd hxg (by rw [Around.in1_units];omega) hadd fun b h2 tk2 ev2 ep2 sb gS R2=>?_));have kt2:∀b o,h1.get? b=some o→o.cls=.type "tuple" → h2.get? b=some o:=fun b o' e hc=>by
    rw [sb.2 b fun z=>?_]
    ·exact e
    ·subst z;rw [g1]at e;cases e;rw [g2.1]at hc
     injection hc with hc
     exact absurd hc (by decide)
   refine aA ⟨plainId_quiet F.plain_set_update_loop _,ih (i+1) { s with heap:=h2,toks:=tk2 } (et1,t1) (by omega) hlt (W.frame _ _ _ hst' fun b hb o' e=>?_) ⟨_,ev2,ep2,gS,g2,rfl,R2⟩ (hT1.keeps kt2) hrun fun h3 tk3 m3 kt3 S3=>?_⟩
   ·rw [sb.2 b fun z=>hSf (z ▸ hb)];exact e
   ·refine hR h3 tk3 (fun b o' hbS hb e=>?_) (fun b o' e hc=>kt3 b o' (kt2 b o' (kt b o' e hc) hc) hc) S3;refine m3 b o' hbS hb ?_;show h2.get? b=some o';rw [sb.2 b hbS];exact hm b o' hb e
end
end TH
namespace TH
open PySem PyProof.Rows PySem.SeqAt
section
variable{G:VL→Tr→Prop}{prog:Program}{w:World}{A:Around}{E:VL→SD→Prop}{s:SD}{l:AD}{us:List VL}{xs:List Tr}
abbrev Fj(led:Bool):Obj:={ cls:=.type "set",dict:=none,data:=.set #[] 0 (.fresh 0 0 led) }
def VY(v:VL){Q1:VL→SD→Prop}(k:Q1 (.ref s.heap.objs.size) { s with heap:=s.heap.push (Fj (!w.params.followText "set-order")) }) :
  codeAny (model prog w) A (.call (.builtin "set.__new__") ⟨[.type "set",v],[]⟩) (wants Q1 E) s:=by
 refine codeAny_of_tree (show wpAny _ A.in1 (checkBuiltinCall "set.__new__" ⟨[.type "set",v],[]⟩>>=fun _=>again (.builtin "set.__new__" ⟨[.type "set",v],[]⟩)) _ _ s from ?_);refine Wb (wpAny_of_eq (F.newCall_set_1 v) (aA ⟨plainId_quiet F.plain_set_new _,codeAny_builtin F.entry_set_new ?_⟩));rw [Around.under_plainId F.plain_set_new _];unfold Builtin.«set.__new__»;unfold Builtin.Frozenset.newClass;have q:=sub_set_self;obtain⟨h0,g0,d0,t0,o0⟩:=s;dsimp only
 wp_walk
 refine wpAny_askSetting (aA ?_);dsimp only;simp only [newObj];exact Wb (wpAny_alloc (aA (aA k)))
def Tq{Q:VL→SD→Prop}(hA:A.handled=none)(hL:s.heap.IsList l us.toArray)(hT:Ic G s.heap us xs)(hu:A.units+20<cLine){st:ES×SetTable}(hst:MR (KZ (!w.params.followText "set-order")) xs=some st)
 (k:∀(h2:Heap) (tk:Nat),K5 G h2 s.heap.objs.size st→(∀b u,s.heap.get? b=some u→h2.get? b=some u)→Q (.ref s.heap.objs.size) { s with heap:=h2,toks:=tk }) :
  wpAny (model prog w) A (call (.type "set") [.ref l]) Q E s:=by
 obtain⟨mc,mt,hmro⟩:=F.called_set.mro;have q1:=F.called_set.made;have q2:=F.called_set.sub;have q3:=F.called_set.notType;have q4:=F.called_set.canCreate;have q5:=F.typeCall_set_1 (.ref l);refine wpAny_call (codeAny_of_tree (show wpAny _ _ (callAny (.type "set") _) _ _ _ from ?_));refine aA ⟨Code.quiet_builtin _ (by decide +kernel),codeAny_builtin F.entry_type_call ?_⟩;rw [Around.under_plain (weight_type_call_type "set" [.ref l] []) rfl]
 repeat (any_goals (first|assumption|wp_step))
 have hnew:=VY (prog:=prog) (w:=w) (s:=s) (A:=A.in1) (E:=E) (.ref l) (Q1:=fun v s1=>v=.ref s.heap.objs.size∧s1={ s with heap:=s.heap.push (Fj (!w.params.followText "set-order")) }) ⟨rfl,rfl⟩;refine codeAny_mono hnew fun r s1 hr=>?_;cases r with
 |error e=>exact hr
 |ok fl =>
  cases fl with
  |next=>exact hr.elim
  |brk=>exact hr.elim
  |cont=>exact hr.elim
  |ret obj =>
   obtain⟨rfl,rfl⟩:=hr;generalize (!w.params.followText "set-order")=led at hst;have gS:(s.heap.push (Fj led)).get? s.heap.objs.size=some (Fj led):=aH _ rfl;have tS:Shared.TypeIs { s with heap:=s.heap.push (Fj led) } (.ref s.heap.objs.size) "set" := ⟨_,gS,rfl⟩;have q6:=F.called_set.init.lookup;have q7:=F.called_set.init.bind (.ref s.heap.objs.size)
   repeat (any_goals (first|assumption|wp_step))
   have hinit:codeAny (model prog w) A.in1 (.call (.builtin "set.__init__") ⟨[.ref s.heap.objs.size,.ref l],[]⟩)
     (wants (fun v s2=>v=.none∧∃h2 tk,s2={ s with heap:=h2,toks:=tk }∧K5 G h2 s.heap.objs.size st∧∀b u,s.heap.get? b=some u→h2.get? b=some u) E) { s with heap:=s.heap.push (Fj led) }:=by
    refine codeAny_call_builtin F.called_set.init.plain F.entry_set_init (check_set_init_1 tS ?_);obtain⟨⟨c0,d0,dt0,sl0⟩,gl,c1,n0,dt1⟩:=id hL;simp only at c1 dt1;subst c1 dt1;have gl1:(s.heap.push (Fj led)).get? l=some ⟨.type "list",d0,.seq us.toArray n0,sl0⟩:=aC _ gl;have isl:(s.heap.push (Fj led)).IsList l us.toArray:=⟨_,gl1,rfl,n0,rfl⟩;have s1:=F.sub_list_set;have s2:=F.sub_list_frozenset;have s3:(Value.type "list" == Value.type "dict")=false:=by decide
    unfold Builtin.«set.__init__» noKeywords Builtin.Frozenset.updateFrom;generalize ePI:pyIter=PI
    wp_walk
    subst ePI;refine wpAny_pyIter_list isl (Wb (wpAny_runValue ?_));have ll:l<s.heap.objs.size:=aE gl;have zI:(s.heap.push (Fj led)).objs.size=s.heap.objs.size+1:=Heap.size_push ..;have neI:l≠(s.heap.push (Fj led)).objs.size:=by rw [zI];exact aJ (az ll)
    have nfp:s.heap.objs.size ∉ [(s.heap.push (Fj led)).objs.size,l]:=by
     simp only [List.mem_cons,List.not_mem_nil,or_false,not_or];exact⟨by rw [zI];exact aJ (bW _),Nat.ne_of_gt ll⟩
    have hA3:A.in1.in1.in1.handled=none:=by simp [hA]
    refine a7 (G:=G) (xs:=xs) (st':=st) (Walks.list hA3 _ l neI us.toArray) nfp (fun i h b o hit hb e hc=>?_) (by simp only [Around.in1_units];omega) _ 0 _ (KZ led) rfl (bE _) ⟨⟨_,Heap.get?_push_size _ rfl,rfl,rfl⟩,isl.push _⟩ ?_ ?_ hst fun h2 tk m2 kt2 S2=>?_
    ·obtain⟨⟨oi,gi,ci,_⟩,_⟩:=hit;have:b=(s.heap.push (Fj led)).objs.size:=by simpa using hb
     subst this;rw [gi]at e;cases e;rw [ci]at hc
     injection hc with hc
     exact absurd hc (by decide)
    ·exact⟨Fj led,#[],0,Heap.get?_push_of_some _ gS,⟨rfl,rfl,rfl⟩,rfl,.nil⟩
    ·exact hT.keeps fun b o e _=>aC _ (aC _ e)
    ·refine aA ?_;show wpAny _ _ (ret Value.none) _ _ _;refine aA ⟨rfl,h2,tk,rfl,S2,fun b u e=>?_⟩;have lb:b<s.heap.objs.size:=aE e;refine m2 b u (aJ lb) ?_ (aC _ (aC _ e));simp only [List.mem_cons,List.not_mem_nil,or_false];rw [zI];exact aJ (az lb)
   refine codeAny_mono hinit fun r2 s2 hr2=>?_;cases r2 with
   |error e=>exact hr2
   |ok f2 =>
    cases f2 with
    |next=>exact hr2.elim
    |brk=>exact hr2.elim
    |cont=>exact hr2.elim
    |ret v2 =>
     obtain⟨rfl,h2,tk,rfl,S2,k2⟩:=hr2
     repeat (any_goals (first|assumption|wp_step))
     exact k h2 tk S2 k2
end
end TH
namespace TH
open PySem PyProof.Rows PySem.SeqAt
def P6:entryFor table "set.__iter__" = some Builtin.«frozenset.__iter__» :=
 entryFor_alias (id' := "frozenset.__iter__") (by kernel_rfl) rfl (by decide +kernel) (by kernel_rfl)
def Dq:Slot "set_iterator" "__next__" "set_iterator.__next__" :=
 .of (owner := "set_iterator") (n := "__next__") (by rw [typeLookup_type,builtinLookup_eq_fast];kernel_rfl) (by decide +kernel)
  (by decide +kernel) (by decide +kernel) (by first|exact .inl (by decide +kernel)|exact .inr (by decide +kernel)) (by rw [isSubtype_type];kernel_rfl)
def J8:entryFor table "set_iterator.__next__" = some Builtin.«set_iterator.__next__»:=entryFor_of_fast (by kernel_rfl)
def LS(a:VL):argsOk "set_iterator.__next__" ⟨[a],[]⟩:=by unfold argsOk;kernel_rfl
def Ld:Slot "set_iterator" "__iter__" "set_iterator.__iter__" :=
 .of (owner := "set_iterator") (n := "__iter__") (by rw [typeLookup_type,builtinLookup_eq_fast];kernel_rfl) (by decide +kernel)
  (by decide +kernel) (by decide +kernel) (by first|exact .inl (by decide +kernel)|exact .inr (by decide +kernel)) (by rw [isSubtype_type];kernel_rfl)
def P5:entryFor table "set_iterator.__iter__" = some Builtin.«dict_keyiterator.__iter__» :=
 entryFor_alias (id' := "dict_keyiterator.__iter__") (by kernel_rfl) rfl (by decide +kernel) (by kernel_rfl)
def Q7(a:VL):argsOk "set_iterator.__iter__" ⟨[a],[]⟩:=by unfold argsOk;kernel_rfl
section
variable{α:Type}{next:Nat→Nat}
def Ub:∀(n k:Nat) (left:List α) (out:Array α),left.length=n→(pickOrder.go next n k left out).toList.Perm (out.toList++left)
 |0,k,left,out,h=>by
  have:left=[]:=ax h;subst this;rw [pickOrder.go];simp
 |n+1,k,left,out,h=>by
  rw [pickOrder.go];have hlt:next k % left.length<left.length:=Nat.mod_lt _ (by omega);rw [List.getElem?_eq_getElem hlt];refine(Ub n (k+1) _ _ (by rw [List.length_eraseIdx_of_lt hlt];omega)).trans ?_;rw [Array.toList_push,List.append_assoc];refine List.Perm.append_left _ ?_;rw [List.eraseIdx_eq_take_drop_succ];have e:left.take (next k % left.length)++left[next k % left.length]::left.drop (next k % left.length+1)=left:=by rw [←List.drop_eq_getElem_cons hlt,List.take_append_drop]
  have p:=List.perm_middle (a:=left[next k % left.length]) (l₁:=left.take (next k % left.length)) (l₂:=left.drop (next k % left.length+1));rw [e]at p;exact p.symm
def XT(xs:Array α):(pickOrder next xs).toList.Perm xs.toList:=by
 unfold pickOrder
 simpa using Ub xs.size 0 xs.toList #[] (by simp)
end
end TH
namespace TH
open PySem PyProof.Rows PySem.SeqAt
def FP(w:World)(S:AD)(ep:Nat)(ev:Array (Int×VL)):Array (Int×VL):=if w.params.followText "set-order" = true then pickOrder (w.params.setOrder S ep) ev else ev
def Qj(w:World)(S:AD)(ep:Nat)(ev:Array (Int×VL)):(FP w S ep ev).toList.Perm ev.toList:=by
 unfold FP;split
 ·exact XT ev
 ·exact .refl _
def JU(w:World)(S:AD)(ep:Nat)(ev:Array (Int×VL)):(FP w S ep ev).size=ev.size:=by simpa using (Qj w S ep ev).length_eq
def He(t:SetTable):Nat→Nat
 |0=>0
 |i+1=>t.place.getD i 0+1
def Ds(w:World)(t:SetTable)(i:Nat):Nat:=if w.params.followText "set-order" = true then 0 else He t i
def MS(t:SetTable)(n:Nat):Bool:=(List.range (n+1)).all fun i=>decide (SetTable.below t.place (He t i)=i)
abbrev JZ(w:World)(S:AD)(t:SetTable)(ep n i:Nat):Obj:={ cls:=.type "set_iterator",data:=.fields #[rawInt ((Ds w t i:Nat):Int),rawInt (i:Int),.ref S,rawInt (n:Int),rawInt (ep:Int)] }
structure Em(w:World)(o:Obj)(ev:Array (Int×Value))(ep:Nat)(t:SetTable):Prop where
 ex:o.ExactSet
 dat:o.data=.set ev ep t
 fit:t.fits ev.size=true
 plain:t.plain=true
 led:t.led=!w.params.followText "set-order"
 walk:MS t ev.size=true
section
variable{prog:Program}{w:World}{A:Around}{E:VL→SD→Prop}{s:SD}{S I:AD}{o:Obj}{ev:Array (Int×VL)}{ep i:Nat}{t:SetTable}
def Pf{Q:Bool→SD→Prop}(h:Q (w.params.followText "set-order") s):wpAny (model prog w) A setsByText Q E s:=by
 unfold setsByText;exact Wb (wpAny_askSetting (aA h))
def Em.Wv(W:Em w o ev ep t):(!t.plain&&decide (ev.size > 1))=false:=by rw [W.plain];rfl
def Em.place(W:Em w o ev ep t):t.place.size=ev.size:=by
 have:=W.fit;unfold SetTable.fits at this;simp only [Bool.and_eq_true,beq_iff_eq]at this;exact this.1
def S6{Q:Option (VL×Nat)→SD→Prop}(W:Em w o ev ep t)(ho:s.heap.get? S=some o)(hi:i≤ev.size)(h:Q ((FP w S ep ev)[i]?.map fun e=>(e.2,Ds w t (i+1))) s) :
  wpAny (model prog w) A (setNext S (Ds w t i) i ep) Q E s:=by
 unfold setNext;refine Wb (bA ho W.dat W.fit ?_);refine Wb (Pf ?_);cases hb:w.params.followText "set-order" with
 |true =>
  rw [if_pos rfl];have hne:¬(ep != ep)=true:=by simp
  rw [if_neg hne];unfold setWalk;refine Wb (Wb (bA ho W.dat W.fit ?_));refine Wb (Pf ?_);rw [if_pos hb];refine Wb (wpAny_askSetting (aA ?_));refine aA ?_;have e:FP w S ep ev=pickOrder (w.params.setOrder S ep) ev:=by unfold FP;rw [if_pos hb]
  rw [e]at h;have e2:Ds w t i=Ds w t (i+1):=by unfold Ds;rw [if_pos hb,if_pos hb]
  rw [e2];exact h
 |false =>
  rw [if_neg aL];refine wpAny_ite_split (fun hd=>?_) fun _=>?_
  ·have:(!t.plain&&decide (ev.size > 1))=true:=hd;rw [W.Wv]at this;cases this
  ·refine Wb ?_;have hl:t.led=true:=by rw [W.led,hb];rfl
   have hn:¬(!t.led && !ev.isEmpty)=true:=by rw [hl];simp
   show wpAny _ _ (if(!t.led && !ev.isEmpty)=true then unsupported "set:maker-not-led" else pure ()) _ _ _;rw [if_neg hn];refine aA (aA ?_);have hw:=W.walk;unfold MS at hw;have hw:=ai.mp hw i (bF.mpr (by omega));have hw:SetTable.below t.place (He t i)=i:=by simpa using hw
   have e1:Ds w t i=He t i:=by unfold Ds;rw [hb];rfl
   have e2:Ds w t (i+1)=He t (i+1):=by unfold Ds;rw [hb];rfl
   have e3:FP w S ep ev=ev:=by unfold FP;rw [hb];rfl
   rw [e2,e3]at h;rw [e1,hw];by_cases hlt:i<ev.size
   ·have hp:i<t.place.size:=by rw [W.place];exact hlt
    rw [Array.getElem?_eq_getElem hlt]at h ⊢;rw [Array.getElem?_eq_getElem hp];have e4:He t (i+1)=t.place[i]+1:=by
     rw [He,Array.getD_eq_getD_getElem?,Array.getElem?_eq_getElem hp]
     rfl
    rw [e4]at h;exact h
   ·rw [Array.getElem?_eq_none (by omega)]at h ⊢;exact h
def Yp{Q:Option VL→SD→Prop}{z:Int}{v:VL}(W:Em w o ev ep t)(ho:s.heap.get? S=some o)(hI:s.heap.get? I=some (JZ w S t ep ev.size i))(hx:(FP w S ep ev)[i]? = some (z,v))
 (h:∀h',h'.get? I=some (JZ w S t ep ev.size (i+1))→Heap.SameBut I s.heap h'→Q (some v) { s with heap:=h' }):wpAny (model prog w) A (pyNext (.ref I)) Q E s:=by
 have hT:s.TypeIs (.ref I) "set_iterator" := ⟨_,hI,rfl⟩;have hlt:i<ev.size:=by
  have:=(Array.getElem?_eq_some_iff.mp hx).1;rw [JU]at this;exact this
 unfold pyNext;refine Wb (wpAny_attempt (aa (name:=Str.ofString "__next__") hT Dq (aT Dq hT J8 ?_ (LS _))));unfold Builtin.«set_iterator.__next__»;refine Wb (wpAny_of_eq (a:=(Value.ref I,[])) rfl ?_);refine Wb (wpAny_fieldsOf hI rfl ?_);show wpAny _ _ (setEntries S>>=_) _ _ s;refine Wb (wpAny_setEntries_of ho W.dat W.fit ?_);have hne:¬((ev.size:Int) != (ev.size:Int))=true:=by simp
 dsimp only;rw [if_neg hne];refine Wb ?_;show wpAny _ _ (setNext S (Ds w t i) i ep) _ _ _;refine S6 W ho (by omega) ?_;rw [hx];show wpAny _ _ (setField (.ref I) 0 (rawInt ((Ds w t (i+1):Nat):Int))>>=_) _ _ _;refine Wb (wpAny_setField hI rfl (by simp) ?_);have g1:(s.heap.update I (Obj.mapFields (·.setIfInBounds 0 (rawInt ((Ds w t (i+1):Nat):Int))))).get? I=some { cls:=.type "set_iterator",data:=.fields #[rawInt ((Ds w t (i+1):Nat):Int),rawInt (i:Int),.ref S,rawInt (ev.size:Int),rawInt (ep:Int)] } :=
  Heap.get?_update_self _ hI rfl
 refine Wb (wpAny_setField g1 rfl (by simp) ?_);refine aA ⟨_,rfl,wpAny_pure (h _ ?_ ((af ..).trans (af ..)))⟩;exact Heap.get?_update_self _ g1 rfl
def YD{Q:Option VL→SD→Prop}(hh:A.handled=none)(W:Em w o ev ep t)(ho:s.heap.get? S=some o)(hI:s.heap.get? I=some (JZ w S t ep ev.size ev.size))
 (h:∀h',Heap.ExtBut I s.heap h'→Q none { s with heap:=h' }):wpAny (model prog w) A (pyNext (.ref I)) Q E s:=by
 have hT:s.TypeIs (.ref I) "set_iterator" := ⟨_,hI,rfl⟩;unfold pyNext;refine Wb (wpAny_attempt (aa (name:=Str.ofString "__next__") hT Dq (aT Dq hT J8 ?_ (LS _))));unfold Builtin.«set_iterator.__next__»;refine Wb (wpAny_of_eq (a:=(Value.ref I,[])) rfl ?_);refine Wb (wpAny_fieldsOf hI rfl ?_);show wpAny _ _ (setEntries S>>=_) _ _ s;refine Wb (wpAny_setEntries_of ho W.dat W.fit ?_);have hne:¬((ev.size:Int) != (ev.size:Int))=true:=by simp
 dsimp only;rw [if_neg hne];refine Wb ?_;show wpAny _ _ (setNext S (Ds w t ev.size) ev.size ep) _ _ _;refine S6 W ho (aF _) ?_;rw [Array.getElem?_eq_none (by rw [JU];exact aF _)];show wpAny _ _ (setField (.ref I) 2 Value.none>>=_) _ _ _;refine Wb (wpAny_setField hI rfl (by simp) ?_);refine Wb ?_;simp only [newExc,newTuple];refine Wb (aq ?_ (by size_fits));refine Wb (m:=firstArgMember _ _) (wpAny_of_eq (a:=Value.none) (by first|rfl|(simp only [firstArgMember];rfl)) (aq ?_ (by size_fits)));simp only [raiseNew];refine Wb (wpAny_handled ?_);have hh1:A.in1.handled=none:=hh;rw [hh1];refine Wb (aA (wpAny_throw ?_));refine Wb (wpAny_isInstance (b:=true) (T := "StopIteration") ⟨_,Heap.get?_push_size _ rfl,rfl⟩ isSubtype_stop ?_);exact aA (h _ (((af ..).extBut.push _).push _))
def YW{Q:VL→SD→Prop}(hI:s.heap.get? I=some (JZ w S t ep ev.size i))(h:Q (.ref I) s):wpAny (model prog w) A (pyIter (.ref I)) Q E s:=by
 have hT:s.TypeIs (.ref I) "set_iterator" := ⟨_,hI,rfl⟩;refine wpAny_pyIter_slot hT Ld (aT Ld hT P5 ?_ (Q7 _));show wpAny _ _ (ret (.ref I)) _ _ s;exact aA ⟨_,rfl, "set_iterator",_,hT,Dq.lookup,h⟩
def XZ(hh:A.handled=none)(hne:S≠I)(W:Em w o ev ep t) :
  Walks prog w A I [I,S] [I] ev.size (fun i v=>∃z,(FP w S ep ev)[i]? = some (z,v)) (fun i h=>h.get? I=some (JZ w S t ep ev.size i)∧h.get? S=some o) where
 sub:=fun b hb=>by simp at hb;simp [hb]
 frame:=fun _ _ _ x k=>⟨k I (by simp) _ x.1,k S (by simp) _ x.2⟩
 item:=fun i s Q E hi x hQ=>by
  have hi':i<(FP w S ep ev).size:=by rw [JU];exact hi
  obtain⟨z,v,hx⟩:∃z v,(FP w S ep ev)[i]? = some (z,v):=⟨(FP w S ep ev)[i].1,(FP w S ep ev)[i].2,by rw [Array.getElem?_eq_getElem hi']⟩;refine Yp W x.2 x.1 hx fun h' g sb=>hQ v h' s.toks ⟨z,hx⟩ ⟨g,(sb.2 S hne).trans x.2⟩ fun b u hb e=>?_;rw [sb.2 b fun q=>hb (by simp [q])];exact e
 done:=fun s Q E x hQ=>YD hh W x.2 x.1 fun h' eb=>hQ h' s.toks fun b u hb e=>eb b u (fun q=>hb (by simp [q])) e
 self:=fun _ _ _ _ x hQ=>YW x.1 hQ
def Yg{Q:Bool→SD→Prop}(hT:s.TypeIs (.ref S) "set")(h:Q false s):wpAny (model prog w) A (Builtin.List.listLengthHint (.ref S)) Q E s:=by
 unfold Builtin.List.listLengthHint;refine Wb (wpAny_specialOf hT PySem.F.slot_set_len.lookup ?_);generalize hid:("set.__len__" : String)=id0
 wp_delta
 rw [show splitId id0=some ("set", "__len__") from by subst hid;decide +kernel];subst hid;refine Wb (wpAny_isInstance (b:=true) (T := "set") hT (by rw [isSubtype_type];kernel_rfl) ?_);refine wpAny_ite_split (fun z=>absurd z (by decide)) fun _=>?_;refine wpAny_ite_split (fun _=>?_) fun z=>absurd (by decide +kernel) z;exact Wb (wpAny_typeOf hT (aA h))
def YU{Q:VL→SD→Prop}(W:Em w o ev ep t)(ho:s.heap.get? S=some o)(h:Q (.ref s.heap.objs.size) { s with heap:=s.heap.push (JZ w S t ep ev.size 0) }) :
  wpAny (model prog w) A (pyIter (.ref S)) Q E s:=by
 have hT:s.TypeIs (.ref S) "set" := ⟨o,ho,W.ex.1⟩;refine wpAny_pyIter_slot hT PySem.F.slot_set_iter (aT PySem.F.slot_set_iter hT P6 ?_ (PySem.F.args_set_iter_1 _));unfold Builtin.«frozenset.__iter__»;refine Wb (wpAny_of_eq (a:=S) rfl ?_);unfold Builtin.Frozenset.sizeOf;refine Wb (Wb (wpAny_setEntries_of ho W.dat W.fit (aA ?_)));unfold setDrawn;refine Wb (Wb (bA ho W.dat W.fit (Wb (Pf (aA ?_)))));have hd:(!w.params.followText "set-order" && (!t.plain&&decide (ev.size > 1)))=false:=by rw [W.Wv];simp
 refine wpAny_ite_split (fun z=>?_) fun _=>?_
 ·have:(!w.params.followText "set-order" && (!t.plain&&decide (ev.size > 1)))=true:=z;rw [hd]at this;cases this
 refine Wb (aA ?_);unfold setEpoch;refine Wb (Wb (bA ho W.dat W.fit (aA ?_)));have e0:Ds w t 0=0:=by unfold Ds He;split<;>rfl
 refine Wb (aq (aA ⟨_,rfl, "set_iterator",_,⟨_,Heap.get?_push_size _ rfl,rfl⟩,Dq.lookup,?_⟩));unfold JZ at h;rw [e0]at h;exact h
def cA(W:Em w o ev ep t):PySem.W.KdlSrc prog w "set" S S ev.size (fun i v=>∃z,(FP w S ep ev)[i]? = some (z,v)) (fun h=>h.get? S=some o) where
 type:=fun _ ho=>⟨o,ho,W.ex.1⟩
 there:=fun _ ho=>⟨aE ho,Heap.lt_size ho⟩
 keep:=fun _ _ ho k=>k S (.inl rfl) _ ho
 notList:=by decide
 notTuple:=by decide
 hint:=fun _ _ s _ ho h=>Yg ⟨o,ho,W.ex.1⟩ h
 iter:=fun A s hh ho=>⟨JZ w S t ep ev.size 0,_,(fun E Q h=>YU W ho h),XZ hh (aJ (aE ho)) W,⟨aH _ rfl,Heap.get?_push_of_some _ ho⟩⟩
end
end TH
namespace TH
open PySem PyProof.Rows PySem.SeqAt
def Paired.perm{α β:Type}{F:α→β→Prop}{l l':List α}(p:l'.Perm l):∀ {m:List β},Paired F l m→∃m',m'.Perm m∧Paired F l' m':=by
 induction p with
 |nil=>intro m r;exact⟨m,.refl _,r⟩
 |cons x _ ih =>
  intro m r;cases r with
  |cons h r' =>
   obtain⟨m',p',q⟩:=ih r';exact⟨_::m',p'.cons _,.cons h q⟩
 |swap x y l =>
  intro m r;cases r with
  |cons h r' =>
   cases r' with
   |cons h' r''=>exact⟨_::_::_,List.Perm.swap ..,.cons h' (.cons h r'')⟩
 |trans _ _ ih1 ih2 =>
  intro m r;obtain⟨m1,p1,q1⟩:=ih2 r;obtain⟨m2,p2,q2⟩:=ih1 q1;exact⟨m2,p2.trans p1,q2⟩
variable{G:VL→Tr→Prop}
def Ur{h:Heap}:∀ {l:List (Int×VL)} {m:List (Int×Tr)},Paired (OD G h) l m→Vs h (Tr.of (m.map (·.2))) (l.map (·.2))
 |_,_,.nil=>by rw [List.map_nil,List.map_nil,Tr.of,Vs]
 |_,_,.cons (a:=(z,v)) ⟨_,_,_,a,its,e,h1,h2⟩ r=>by
  have e:v=.ref a:=e;subst e;rw [List.map_cons,List.map_cons,Tr.of,Vs];exact⟨a,its,_,rfl,h1,h2,Ur r⟩
def Qo{h:Heap}:∀ {l:List (Int×VL)} {m:List (Int×Tr)},Paired (OD G h) l m→∀c∈m.map (·.2),c.deep<8
 |_,_,.nil,c,hc=>by cases hc
 |_,_,.cons ⟨_,hd,_⟩ r,c,hc=>by
  rw [List.map_cons]at hc;rcases aN.mp hc with rfl|hc
  ·exact hd
  ·exact Qo r c hc
def W3{h:Heap}:∀ {l:List (Int×VL)} {m:List (Int×Tr)},Paired (OD G h) l m→Paired G (l.map (·.2)) (m.map (·.2))
 |_,_,.nil=>.nil
 |_,_,.cons ⟨_,_,hg,_⟩ r=>.cons hg (W3 r)
def Paired.Z1{α β:Type}{F:α→β→Prop}{l:List α}{m:List β}(r:Paired F l m)(d:α)(e:β):∀(ix:List Nat),(∀i∈ix,i<l.length)→Paired F (ix.map fun i=>l.getD i d) (ix.map fun i=>m.getD i e)
 |[],_=>.nil
 |i::ix,h=>by
  have hl:=r.length;have hi:=h i aR;have hm:m[i]? = some m[i]:=aI (by omega);obtain⟨x,e1,e2⟩:=Paired.get r hm;rw [List.map_cons,List.map_cons];refine .cons ?_ (Paired.Z1 r d e ix fun j hj=>h j (aP _ hj));rw [List.getD_eq_getElem?_getD,List.getD_eq_getElem?_getD,e1,hm];exact e2
def Yb{l m:List Tr}(p:l.Perm m):Tr.CA l=Tr.CA m:=Tr.J0 (Tr.Iu l) (Tr.Iu m) ((Tr.Io l).trans (p.trans (Tr.Io m).symm))
section
variable{prog:Program}{w:World}{A:Around}{E:VL→SD→Prop}{s:SD}
def gather{T:String}{r d:AD}{n:Nat}{P:Nat→VL→Prop}{OK:Heap→Prop}{R:List VL→SD→Prop}(K:PySem.W.KdlSrc prog w T r d n P OK)(hA:A.handled=none)(A0:OK s.heap)(hn:n≤sizeLine)
 (k:∀(h1:Heap) (tk:Nat) (acc:Array VL),s.heap.objs.size<h1.objs.size→(∀b u,s.heap.get? b=some u→h1.get? b=some u)→ItemsOf P acc n→R acc.toList { s with heap:=h1,toks:=tk }) :
  wpAny (model prog w) A (collect (.ref r)) R E s:=by
 obtain⟨lr,ld⟩:=K.there _ A0;unfold collect;refine Wb (wpAny_runValue (codeAny_builtin entry_proto_collect' ?_));rw [Around.under_plainId PySem.F.plain_proto_collect _];show wpAny _ A.in1 (newList []>>=fun v=>again (.builtin "list.__iadd__" ⟨[v,.ref r],[]⟩)) _ _ s;refine Wb (aq (aA ⟨plainId_quiet PySem.F.plain_list_iadd _,codeAny_builtin entry_list_iadd' ?_⟩));rw [Around.under_plainId PySem.F.plain_list_iadd _];have g0:(s.heap.push { cls:=.type "list",data:=.seq ([]:List VL).toArray }).get? s.heap.objs.size=some { cls:=.type "list",data:=.seq #[] }:=aH _ rfl;have main:=PySem.W.kdl_extend (A:=A) (s:={ s with heap:=s.heap.push { cls:=.type "list",data:=.seq ([]:List VL).toArray } }) K hA
  (K.keep _ _ A0 fun _ _ _ e=>aC _ e) s.heap.objs.size (bS lr) (bS ld) (.ref s.heap.objs.size) 0 g0
  (R:=fun q s1=>∃h1 tk acc c,q=.ok (.ret (.ref s.heap.objs.size))∧s1={ s with heap:=h1,toks:=tk }∧(∀b u,s.heap.get? b=some u→h1.get? b=some u)∧h1.get? s.heap.objs.size=some { cls:=.type "list",dict:=none,data:=.seq acc c,slots:=#[] }∧ItemsOf P acc n)
  (fun h1 tk acc c k1 g1 ha=>⟨h1,tk,acc,c,rfl,rfl,fun b u e=>k1 b u (aJ (aE e)) (aC _ e),g1,ha⟩) hn
 refine ak main (fun fin s1 x=>?_) fun e s1 x=>?_
 ·cases fin with
  |done f =>
   obtain⟨h1,tk,acc,c,e,rfl,k1,g1,ha⟩:=x;cases e;show wpAny _ A (load s.heap.objs.size>>=_) _ _ _;exact Wb (wpAny_load g1 (aA (k h1 tk acc (aE g1) k1 ha)))
  |again c1 =>
   refine⟨x.1,codeAny_mono x.2 fun q s2 y=>?_⟩;obtain⟨h1,tk,acc,c,rfl,rfl,k1,g1,ha⟩:=y;show wpAny _ A (load s.heap.objs.size>>=_) _ _ _;exact Wb (wpAny_load g1 (aA (k h1 tk acc (aE g1) k1 ha)))
 ·obtain⟨_,_,_,_,z,_⟩:=x;cases z
end
section
variable{prog:Program}{w:World}{A:Around}{E:VL→SD→Prop}{s:SD}{S:AD}{o:Obj}{ev:Array (Int×VL)}{et:ES}{ep:Nat}{t:SetTable}
def VN{Q:VL→SD→Prop}(hA:A.handled=none)(W:Em w o ev ep t)(ho:s.heap.get? S=some o)(R:DK G s.heap ev et)(h64:et.size<64)(hu:A.units+20<cLine)
 (h:∀(h':Heap) (D tk e1:Nat) (us:List VL),s.heap.objs.size≤D→(∀b u,s.heap.get? b=some u→h'.get? b=some u)→h'.get? D=some (seqObj "list" us.toArray e1)→Paired G us (Tr.CA (et.toList.map (·.2))).reverse→us.length<64 →
   Q (.ref D) { s with heap:=h',toks:=tk }):wpAny (model prog w) A (call (.builtin "sorted") [.ref S]) Q E s:=by
 have hsz:=R.size;refine Calls.call_function_entry kind_sorted plain_sorted entry_sorted (args_sorted1 _) ?_;unfold Builtin.«sorted»;refine Wb (m:=checkCount "sorted" 1 1 _) (aA ?_);refine Wb (gather (A:=A.in1) (cA W) hA ho (GN (by omega)) fun h1 tk acc z1 k1 hacc=>?_);have hal:acc.toList=(FP w S ep ev).toList.map (·.2):=by
  apply List.ext_getElem?;intro j;rw [List.getElem?_map];by_cases hj:j<acc.size
  ·have e1:acc[j]? = some acc[j]:=Array.getElem?_eq_getElem hj;obtain⟨z,e2⟩:=hacc.2 j _ e1;rw [Array.getElem?_toList,e1,Array.getElem?_toList,e2]
   rfl
  ·have hj2:¬j<(FP w S ep ev).size:=by rw [JU,←hacc.1];exact hj
   rw [List.getElem?_eq_none (by simpa using hj),List.getElem?_eq_none (by simpa using hj2)]
   rfl
 obtain⟨m,pm,rm⟩:=Paired.perm (Qj w S ep ev) R;have hvs:=Ur rm;rw [←hal]at hvs;have hd:(Tr.of (m.map (·.2))).deep≤8:=(Tr.Md 8 _).mpr fun c hc=>by have:=Qo rm c hc;omega
 have hlen:acc.toList.length<64:=by rw [Array.length_toList,hacc.1,hsz];exact h64
 refine Wb (wpAny_newList ?_ (GN (by omega)));have g1:(h1.push (seqObj "list" acc.toList.toArray 0)).get? h1.objs.size=some (seqObj "list" acc.toList.toArray 0):=aH _ rfl;have k2:∀b u,s.heap.get? b=some u→(h1.push (seqObj "list" acc.toList.toArray 0)).get? b=some u:=fun b u e=>aC _ (k1 b u e);refine Wb (aV (aT slot_list_sort ⟨_,g1,rfl⟩ entry_list_sort (Hr (s:={ s with heap:=h1.push (seqObj "list" acc.toList.toArray 0),toks:=tk }) g1 (hvs.keeps fun b u e _=>k2 b u e) hlen
  (by rw [show A.in1.in1.units=A.units+2 from rfl];omega) fun ix a1 a2 a3=>⟨_,rfl,?_⟩) (args_list_sort _)))
 obtain⟨e1,he1⟩:=sortedHeap_at (vs:=acc.toList) (out:=(ix.map fun i=>acc.toList.getD i Value.none).toArray) g1;refine aA ⟨_,rfl,h _ h1.objs.size tk e1 (ix.map fun i=>acc.toList.getD i Value.none) ?_ (fun b u e=>?_) he1 ?_ (by rw [List.length_map,a1];exact hlen)⟩
 ·exact bG z1
 ·have lb:b<h1.objs.size:=aE (k1 b u e);rw [sortedHeap_old (aJ lb) (by rw [Heap.size_push];exact az lb)];exact k2 b u e
 ·have hg:=W3 rm;rw [←hal]at hg;have:=Paired.Z1 hg Value.none Tr.nil ix a2;rw [Tr.Mo]at a3;rw [a3,Yb (pm.map (·.2))]at this;exact this
end
end TH
namespace TH
open PySem PyProof.Rows PySem.SeqAt
section
variable{prog:Program}{w:World}{E:VL→SD→Prop}
def TF(prog:Program)(w:World)(E:VL→SD→Prop)(t:Tr):Prop:=∀(us:List VL) (A:Around) (s:SD) (b:Array Int) (Q:Array Int→SD→Prop),Vs s.heap t us→A.units+t.deep≤cLine →
 (∀b',b'.toList=b.toList++IT t→Q b' { s with toks:=s.toks+(t.AV-1) })→wpAny (model prog w) A (forIn us b fun x r=>do let h ←pyHash x;pure PUnit.unit;pure (ForInStep.yield (r.push h))) Q E s
def Ly{t:Tr}(row:TF prog w E t){a:AD}{its:List VL}{A:Around}{s:SD}{Q:Int→SD→Prop}(h1:s.heap.IsTuple a its.toArray)(h2:Vs s.heap t its)(hu:A.units+t.deep<cLine)
 (h:Q (BI t) { s with toks:=s.toks+t.AV }):wpAny (model prog w) A (pyHash (.ref a)) Q E s:=by
 have hT:=IsTuple.ty rfl h1;obtain⟨o,ho,hc,n,hd⟩:=id h1;refine PySem.W.pyHash_slot (T := "tuple") hT F.slot_tuple_hash F.entry_tuple_hash (F.args_tuple_hash_1 _) (beq_builtin_none _) (.inr (by omega)) ?_;show wpAny _ _ (Builtin.Tuple.tupleItemsOf (.ref a)>>=_) _ _ s;refine Wb (wpAny_tupleItemsOf ho hd ?_);refine Wb ?_;rw [←Array.forIn_toList];refine row its A.in1 s #[] _ h2 (by rw [Around.in1_units];omega) fun b hb=>?_;show wpAny _ _ (retInt (Builtin.Tuple.tupleHashOf b.toList)) _ _ _;rw [hb];have hk:s.toks+(t.AV-1)+1=s.toks+t.AV:=by have:=Tr.C3 t;omega
 refine Wb (wpAny_mkInt (aA ⟨_,_,rfl,?_⟩));rw [hk];exact h
def L0:∀t:Tr,TF prog w E t
 |.nil=>fun us A s b Q e _ h=>by rw [Vs]at e;subst e;exact aA (h b (by simp [IT]))
 |.cons c r=>fun us A s b Q e hu h=>by
  rw [Vs]at e;obtain⟨a,its,rest,rfl,h1,h2,h3⟩:=e;have hd:(Tr.cons c r).deep=max (c.deep+1) r.deep:=rfl;have hk:(Tr.cons c r).AV=c.AV+r.AV:=rfl;have hr:=Tr.C3 r;rw [List.forIn_cons];refine Wb (Wb (Ly (L0 c) h1 h2 (by omega) ?_));refine Wb (aA (aA ?_));refine L0 r rest A _ _ Q h3 (by omega) fun b' hb=>?_;have hz:s.toks+c.AV+(r.AV-1)=s.toks+((Tr.cons c r).AV-1):=by omega
  have:=h b' (by simp [hb,IT,BI]);rw [←hz]at this;exact this
def Il(prog:Program)(w:World):HeapKind prog w Tr where
 is:=fun h t a=>t.deep<8∧∃its,h.IsTuple a its.toArray∧Vs h t its
 hash:=BI
 draws:=Tr.AV
 room:=fun A=>A.units+8<cLine
 inj:=fun⟨_,i1,a1,a2⟩ ⟨_,i2,b1,b2⟩=>by
  have:=IX a1 b1;have e:i1=i2:=by simpa using this
  subst e;exact Vs.inj a2 b2
 keeps:=fun {h h' k a d o es ep} ⟨hd,its,h1,h2⟩ ho hdt sb=>by
  have kt:∀b u,h.get? b=some u→u.cls=.type "tuple" →(∃x n,u.data=.seq x n)→h'.get? b=some u:=fun b u e _ ⟨x,n,hx⟩=>by
   rw [sb.2 b fun z=>?_]
   ·exact e
   ·subst z;rw [ho]at e;cases e;rw [hdt]at hx;cases hx
  have kv:∀ {t:Tr} {us:List VL},Vs h t us→Vs h' t us:=fun {t}=>by
   induction t with
   |nil=>intro us e;rw [Vs]at e ⊢;exact e
   |cons b r ih1 ih2 =>
    intro us e;rw [Vs]at e ⊢;obtain⟨a,its,rest,e1,⟨u,hu,hc,n,hx⟩,e3,e4⟩:=e;exact⟨a,its,rest,e1,⟨u,kt _ _ hu hc ⟨_,n,hx⟩,hc,n,hx⟩,ih1 e3,ih2 e4⟩
  obtain⟨u,hu,hc,n,hx⟩:=h1;exact⟨hd,its,⟨u,kt _ _ hu hc ⟨_,n,hx⟩,hc,n,hx⟩,kv h2⟩
 pyHash:=fun hr ⟨hd,its,h1,h2⟩ h=>Ly (L0 _) h1 h2 (by omega) h
 eqBool:=fun {A E s x y a b Q} hr ⟨hd,its,h1,h2⟩ ⟨_,its2,k1,k2⟩ h=>SE h1 h2 k1 k2 (by omega) prog w E Q h
 quiet:=fun⟨hd,its,h1,h2⟩ h=>quiet 8 ⟨_,its,_,rfl,h1,h2,hd⟩ h
end
end TH
namespace TH
open PySem PyProof.Rows
def Bh:Option Tr→Int
 |none=>4238894112
 |some t=>BI t
def EV:Option Tr→Nat
 |none=>1
 |some t=>t.AV
def IE(h:Heap):Option Tr→VL→Prop
 |none,v=>v=.none
 |some t,v=>∃a,v=.ref a∧t.deep<8∧∃its,h.IsTuple a its.toArray∧Vs h t its
abbrev KE:=Option Tr×VL×VL
def DL(x:KE):DictEntry:=⟨Bh x.1,x.2.1,x.2.2⟩
def PH{p:Nat→Bool}{j:Nat}:∀ {n:Nat},j<n→p j=true→(∀i,i<n→p i=true→i=j)→(List.range n).filter p=[j]
 |0,h,_,_=>absurd h (ao _)
 |n+1,h,hp,hu=>by
  rw [List.range_succ,List.filter_append];by_cases e:j=n
  ·subst e;have:(List.range j).filter p=[]:=List.filter_eq_nil_iff.mpr fun i hi hpi=>by
    have:=bF.mp hi;have:=hu i (by omega) hpi;omega
   rw [this];simp [hp]
  ·have hn:p n=false:=by
    cases q:p n with
    |false=>rfl
    |true=>exact absurd (hu n (by omega) q).symm e
   rw [PH (show j<n by omega) hp fun i hi=>hu i (by omega)];simp [hn]
section
variable{prog:Program}{w:World}{A:Around}{E:VL→SD→Prop}{s:SD}{d:AD}{o:Obj}{es:Array DictEntry}{ep:Nat}{xs:List KE}{k:Option Tr}{kv:VL}
def Kj(he:es.toList=xs.map DL)(j:Nat):es[j]? = (xs[j]?).map DL:=by rw [←Array.getElem?_toList,he,List.getElem?_map]
def Sy(he:es.toList=xs.map DL):es.size=xs.length:=by rw [←Array.length_toList,he,List.length_map]
def QV(he:es.toList=xs.map DL)(hap:∀x∈xs,Bh x.1=Bh k→x.1=k)(hno:∀x∈xs,x.1≠k):placesWithHash es.size (fun i=>es[i]?.map (·.hash)) (Bh k)=[]:=by
 unfold placesWithHash;refine List.filter_eq_nil_iff.mpr fun i hi hp=>?_;dsimp only at hp;rw [Kj he]at hp;cases q:xs[i]? with
 |none=>rw [q]at hp;simp at hp
 |some x =>
  rw [q]at hp;have hx:=aQ q;have:Bh x.1=Bh k:=by simpa [DL]using hp
  exact hno x hx (hap x hx this)
def O4(he:es.toList=xs.map DL)(hap:∀x∈xs,Bh x.1=Bh k→x.1=k)(hn:(xs.map (·.1)).Nodup){j:Nat}{x:KE}(hj:xs[j]? = some x)(hx:x.1=k):placesWithHash es.size (fun i=>es[i]?.map (·.hash)) (Bh k)=[j]:=by
 unfold placesWithHash;have hl:j<xs.length:=(aD.mp hj).1;refine PH (by rw [Sy he];exact hl) (by dsimp only;rw [Kj he,hj,←hx];simp [DL]) fun i hi hp=>?_;dsimp only at hp;rw [Kj he]at hp;cases q:xs[i]? with
 |none=>rw [q]at hp;simp at hp
 |some y =>
  rw [q]at hp;have hy:=hap y (aQ q) (by simpa [DL]using hp);have h1:(xs.map (·.1))[i]? = some k:=by rw [List.getElem?_map,q];show some y.1=_;rw [hy]
  have h2:(xs.map (·.1))[j]? = some k:=by rw [List.getElem?_map,hj];show some x.1=_;rw [hx]
  exact(List.getElem?_inj (aD.mp h1).1 hn).mp (h1.trans h2.symm)
def cX{Q:Bool→SD→Prop}(h:Q true s):wpAny (model prog w) A (eqBool .none .none) Q E s:=by
 unfold eqBool;rw [if_pos (by rfl)];exact Wb (bP (aA h))
def IE.inj{h:Heap}{x y:Option Tr}{v:VL}(a:IE h x v)(b:IE h y v):x=y:=by
 cases x with
 |none =>
  cases y with
  |none=>rfl
  |some t =>
   obtain⟨_,e,_⟩:=b;rw [show v=.none from a]at e;cases e
 |some u =>
  cases y with
  |none =>
   obtain⟨_,e,_⟩:=a;rw [show v=.none from b]at e;cases e
  |some t =>
   obtain⟨a1,e1,k1⟩:=a;obtain⟨a2,e2,k2⟩:=b;rw [e1]at e2;cases e2;obtain⟨_,i1,b1,b2⟩:=k1;obtain⟨_,i2,c1,c2⟩:=k2;have:i1=i2:=by simpa using IX b1 c1
   subst this;rw [Vs.inj b2 c2]
def XQ{Q:Option Nat→SD→Prop}(hu:A.units+8<cLine)(hk:IE s.heap k kv)(ho:s.heap.get? d=some o)(hd:o.data=.dict es ep)(he:es.toList=xs.map DL)(his:∀x∈xs,IE s.heap x.1 x.2.1)(hn:(xs.map (·.1)).Nodup)(hap:∀x∈xs,Bh x.1=Bh k→x.1=k)
 (hno:(∀x∈xs,x.1≠k)→Q none s)(hyes:∀(j:Nat) (x:KE),xs[j]? = some x→x.1=k→Q (some j) s):wpAny (model prog w) A (dictFind d kv (Bh k)) Q E s:=by
 unfold dictFind
 try with_reducible refine aV ?_
 refine Wb (wpAny_dictEntries ho hd ?_);cases k with
 |none =>
  have hk:kv=.none:=hk;subst hk;dsimp only;by_cases hx:∃x∈xs,x.1=none
  ·obtain⟨x,hm,hx⟩:=hx;obtain⟨j,hj⟩:=List.mem_iff_getElem?.mp hm;have hp:=O4 (k:=none) he hap hn hj hx;have hej:es[j]? = some ⟨Bh none,.none,x.2.2⟩:=by
    rw [Kj he,hj];have h1:=his x hm;rw [hx]at h1;show some (DL x)=_;unfold DL;rw [hx,show x.2.1=Value.none from h1]
   rw [hp];rw [if_pos (by simp [hej,carriedByValue])];unfold dictWalkPlain;simp only [List.forIn_cons,List.forIn_nil,hej];refine Wb (Wb ?_);rw [if_pos (by simp)];refine Wb (wpAny_dictEpoch ho hd (Wb (cX (Wb (wpAny_dictEpoch ho hd ?_)))));rw [if_neg (by simp),if_pos rfl];exact Wb (bP (aA (aA (aA (hyes j x hj hx)))))
  ·have hp:=QV (k:=none) he hap fun x hm z=>hx ⟨x,hm,z⟩;rw [hp,if_pos (by simp [carriedByValue])];unfold dictWalkPlain;simp only [List.forIn_nil];exact Wb (aA (aA (hno fun x hm z=>hx ⟨x,hm,z⟩)))
 |some t =>
  obtain⟨a,rfl,hta⟩:=hk;dsimp only;have hany:¬(es.any fun e=>e.key==Value.ref a&&e.hash != Bh (some t))=true:=by
   intro z;rw [←Array.any_toList,he,List.any_eq_true]at z;obtain⟨e,hm,z⟩:=z;obtain⟨x,hx,rfl⟩:=aU.mp hm;rw [Bool.and_eq_true]at z;have h1:x.2.1=.ref a:=by simpa [DL]using z.1
   have h2:=his x hx;rw [h1]at h2;have h3:=h2.inj (show IE s.heap (some t) (.ref a) from⟨a,rfl,hta⟩);have h4:=z.2;rw [DL,h3]at h4;simp at h4
  by_cases hx:∃x∈xs,x.1=some t
  ·obtain⟨x,hm,hx⟩:=hx;obtain⟨j,hj⟩:=List.mem_iff_getElem?.mp hm;have hp:=O4 (k:=some t) he hap hn hj hx;have h1:=his x hm;rw [hx]at h1;obtain⟨b,hb,htb⟩:=h1;have hej:es[j]? = some ⟨Bh (some t),.ref b,x.2.2⟩:=by
    rw [Kj he,hj];show some (DL x)=_;unfold DL;rw [hx,hb]
   have hst:([j].filterMap fun i=>es[i]?.map (·.key))=[.ref b]:=by simp [hej]
   rw [hp,hst,if_neg (by simp [carriedByValue]),if_neg hany];by_cases hone:(([Value.ref b]:List VL)==[Value.ref a])=true<;>(first|rw [if_pos hone]|rw [if_neg hone])<;>(first|refine Wb (aA ?_)|refine Wb (wpAny_tableMayTell_quiet (knd:=Il prog w) hta (fun v hv=>⟨t,b,List.mem_singleton.mp hv,htb⟩) ?_))<;>(
    rw [if_neg (by simp)];simp only [List.forIn_cons,List.forIn_nil,hej];refine Wb (Wb ?_);rw [if_pos (by simp)];refine Wb (wpAny_dictEpoch ho hd (Wb ((Il prog w).eqBool (x:=t) (y:=t) hu htb hta (Wb (wpAny_dictEpoch ho hd ?_)))));rw [if_neg (by simp),if_pos (by simp),if_neg (by simp)];refine Wb (bP ?_);rw [if_pos (by simp)];exact aA (aA (aA (hyes j x hj hx))))
  ·have hp:=QV (k:=some t) he hap fun x hm z=>hx ⟨x,hm,z⟩;rw [hp,if_neg (by simp [carriedByValue]),if_neg hany];rw [if_neg (by simp)];refine Wb (wpAny_tableMayTell_quiet (knd:=Il prog w) hta (fun v hv=>by cases hv) ?_);rw [if_neg (by simp)];simp only [List.forIn_nil];exact Wb (aA (aA (hno fun x hm z=>hx ⟨x,hm,z⟩)))
def XE{Q:Int→SD→Prop}(hu:A.units+8<cLine)(hk:IE s.heap k kv)(h:Q (Bh k) { s with toks:=s.toks+EV k }):wpAny (model prog w) A (pyHash kv) Q E s:=by
 cases k with
 |some t =>
  obtain⟨a,rfl,hta⟩:=hk;exact(Il prog w).pyHash hu hta h
 |none =>
  have hk:kv=.none:=hk;subst hk;have ht:s.TypeIs .none "NoneType" := rfl;unfold pyHash pyHashByItsType;have hv:[Value.none].any Value.onHeap=false:=rfl;refine Wb ?_;rw [cRoomFor,if_neg (by rw [hv];exact aL)];refine aA ?_;refine Wb (wpAny_specialOf ht F.slot_NoneType_hash.lookup ?_);show wpAny _ _ (if(some (Value.builtin "NoneType.__hash__")==some Value.none)=true then _ else _) Q E s;rw [if_neg (by rw [beq_builtin_none];exact aL)];refine Wb (wpAny_specialOf ht F.slot_NoneType_hash.lookup ?_);show wpAny _ _ (callSpecialIfBoundUnlessNone? .none "__hash__" _>>=_) Q E s;refine Wb (wpAny_callSpecialIfBoundUnlessNone?_slot ht F.slot_NoneType_hash
   (aT F.slot_NoneType_hash ht F.entry_NoneType_hash
    (show wpAny _ _ (do ret (←mkInt 4238894112)) _ _ s from wpAny_ret_mkInt ?_) (F.args_NoneType_hash_1 _)))
  show wpAny _ _ (if(decide (-(2:Int)^63≤4238894112)&&decide ((4238894112:Int)<2^63))=true then _ else _) Q E _;rw [if_pos (by decide)];exact aA h
def Ey(xs:List KE)(k:Option Tr):Option KE:=xs.find? fun x=>decide (x.1=k)
def OT(hn:(xs.map (·.1)).Nodup){j:Nat}{x:KE}(hj:xs[j]? = some x)(hx:x.1=k):Ey xs k=some x:=by
 unfold Ey;cases q:xs.find? (fun x=>decide (x.1=k)) with
 |none=>exact absurd (decide_eq_true hx) (List.find?_eq_none.mp q x (aQ hj))
 |some y =>
  have h1:y.1=k:=by simpa using List.find?_some q
  obtain⟨i,hi⟩:=List.mem_iff_getElem?.mp (List.mem_of_find?_eq_some q);have e1:(xs.map (·.1))[i]? = some k:=by rw [List.getElem?_map,hi];show some y.1=_;rw [h1]
  have e2:(xs.map (·.1))[j]? = some k:=by rw [List.getElem?_map,hj];show some x.1=_;rw [hx]
  have:=(List.getElem?_inj (aD.mp e1).1 hn).mp (e1.trans e2.symm);subst this;rw [hi]at hj;exact hj
def Oy(h:∀x∈xs,x.1≠k):Ey xs k=none:=List.find?_eq_none.mpr fun x hx=>by simpa using h x hx
structure IJ(h:Heap)(d:Addr)(xs:List KE):Prop where
 ob:∃o es ep,h.get? d=some o∧o.ExactDict∧o.data=.dict es ep∧es.toList=xs.map DL
 ks:∀x∈xs,IE h x.1 x.2.1
 nd:(xs.map (·.1)).Nodup
def IJ.ty(hm:IJ s.heap d xs):s.TypeIs (.ref d) "dict" := let⟨o,_,_,ho,hc,_⟩:=hm.ob;⟨o,ho,hc.1⟩
def Zl{Q:Option VL→SD→Prop}(hu:A.units+8<cLine)(hk:IE s.heap k kv)(hm:IJ s.heap d xs)(hap:∀x∈xs,Bh x.1=Bh k→x.1=k)(h:Q ((Ey xs k).map (·.2.2)) { s with toks:=s.toks+EV k }):wpAny (model prog w) A (dictGet d kv) Q E s:=by
 obtain⟨o,es,ep,ho,_,hd,he⟩:=hm.ob;unfold dictGet
 try with_reducible refine aV ?_
 refine Wb (XE hu hk (Wb (XQ (s:={ s with toks:=s.toks+EV k }) hu hk ho hd he hm.ks hm.nd hap (fun hno=>?_) fun j x hj hx=>?_)))
 ·rw [Oy hno]at h;exact aA h
 ·rw [OT hm.nd hj hx]at h;refine Wb (wpAny_dictEntries (s:={ s with toks:=s.toks+EV k }) ho hd ?_);rw [Kj he j,hj];exact aA h
def fG{x:KE}{Q:VL→SD→Prop}(hu:A.in1.units+8<cLine)(hk:IE s.heap k kv)(hm:IJ s.heap d xs)(hap:∀x∈xs,Bh x.1=Bh k→x.1=k)(hx:Ey xs k=some x)(h:Q x.2.2 { s with toks:=s.toks+EV k }):wpAny (model prog w) A (getItem (.ref d) kv) Q E s:=by
 unfold getItem
 try with_reducible refine aV ?_
 refine Wb (wpAny_sequenceKey hm.ty (by decide) ?_);refine Wb (aa (name:=Str.ofString "__getitem__") hm.ty slot_dict_getitem (aT slot_dict_getitem hm.ty entry_dict_getitem ?_ (args_dict_getitem _ _)));show wpAny _ _ (dictGet d kv>>=_) _ _ s;refine Wb (Zl hu hk hm hap ?_);rw [hx];exact aA ⟨x.2.2,rfl,wpAny_pure h⟩
def kC{Q:VL→SD→Prop}(hu:A.in1.units+8<cLine)(hk:IE s.heap k kv)(hd:(d==sysModules)=false)(hm:IJ s.heap d xs)(hap:∀x∈xs,Bh x.1=Bh k→x.1=k)(neg:Bool)
 (h:Q (.bool (if neg then !(Ey xs k).isSome else(Ey xs k).isSome)) { s with toks:=s.toks+EV k }):wpAny (model prog w) A (compareOp (if neg then .NotIn else .In) kv (.ref d)) Q E s:=by
 have key:∀ {Q:Bool→SD→Prop},Q (Ey xs k).isSome { s with toks:=s.toks+EV k }→wpAny (model prog w) A (contains (.ref d) kv) Q E s:=fun {Q} h=>by
  unfold contains
  try with_reducible refine aV ?_
  refine Wb (wpAny_specialOf hm.ty slot_dict_contains.lookup ?_);show wpAny _ _ (if(some (Value.builtin "dict.__contains__")==some Value.none)=true then _ else _) _ E s;rw [if_neg (by rw [beq_builtin_none];exact aL)];refine Wb (wpAny_callSpecialUnlessNone?_slot (name:=Str.ofString "__contains__") hm.ty slot_dict_contains (aT slot_dict_contains hm.ty entry_dict_contains ?_ (args_dict_contains _ _)));show wpAny _ _ (dictGet d kv>>=_) _ _ s;refine Wb (Zl hu hk hm hap ?_);cases hf:Ey xs k with
  |some p =>
   rw [hf]at h;show wpAny _ _ (ret (.bool true)) _ _ _;exact aA ⟨_,rfl,wpAny_truthy_bool h⟩
  |none =>
   rw [hf]at h;show wpAny _ _ (Builtin.Dict.pendingKey? d kv>>=_) _ _ _;exact Wb (wpAny_pendingKey_other hd (aA ⟨_,rfl,wpAny_truthy_bool h⟩))
 cases neg with
 |false =>
  show wpAny _ _ (do return .bool (←contains (.ref d) kv)) Q E s;exact Wb (key (aA h))
 |true =>
  show wpAny _ _ (do return .bool (!(←contains (.ref d) kv))) Q E s;exact Wb (key (aA h))
def putN(k:Option Tr)(v:VL)(x:KE):KE:=if x.1=k then(x.1,x.2.1,v) else x
def GD(xs:List KE)(k:Option Tr)(kv v:VL):List KE:=if(Ey xs k).isSome then xs.map (putN k v) else xs++[(k,kv,v)]
def Rh(v:VL):∀xs:List KE,(xs.map (putN k v)).map (·.1)=xs.map (·.1)
 |[]=>rfl
 |x::xs=>by
  rw [List.map_cons,List.map_cons,List.map_cons,Rh v xs]
  congr 1
  unfold putN;split<;>rfl
def Om{v:VL}:∀ {xs:List KE} {j:Nat} {x:KE},(xs.map (·.1)).Nodup→xs[j]? = some x→x.1=k→(xs.map DL).modify j (fun e=>{ e with val:=v })=(xs.map (putN k v)).map DL
 |[],_,_,_,h,_=>by simp at h
 |y::ys,0,x,hn,h,hx=>by
  have:y=x:=by simpa using h
  subst this;rw [List.map_cons,List.nodup_cons]at hn;rw [List.map_cons,List.map_cons,List.map_cons];have hno:ys.map (putN k v)=ys:=by
   refine(bO fun z hz=>?_).trans (List.map_id _);unfold putN;rw [if_neg fun e=>hn.1 (by rw [hx,←e];exact List.mem_map_of_mem hz)]
   rfl
  rw [hno];show { DL y with val:=v }::ys.map DL=_
  congr 1
  unfold putN;rw [if_pos hx]
  rfl
 |y::ys,j+1,x,hn,h,hx=>by
  have h':ys[j]? = some x:=by simpa using h
  rw [List.map_cons,List.nodup_cons]at hn;rw [List.map_cons,List.map_cons,List.map_cons];have hy:putN k v y=y:=by
   unfold putN;rw [if_neg fun e=>hn.1 (by rw [e,←hx];exact List.mem_map_of_mem (aQ h'))]
  rw [hy];show DL y::(ys.map DL).modify j _=_;rw [Om hn.2 h' hx]
def IE.keep{h h':Heap}{k:Option Tr}{v:VL}{o:Obj}{es ep}(a:IE h k v)(prog:Program)(w:World)(ho:h.get? d=some o)(hd:o.data=.dict es ep)(sb:Heap.SameBut d h h'):IE h' k v:=by
 cases k with
 |none=>exact a
 |some t =>
  obtain⟨a1,e1,k1⟩:=a;exact⟨a1,e1,(Il prog w).keeps k1 ho hd sb⟩
def jP{v:VL}{Q:Unit→SD→Prop}(hu:A.in1.units+8<cLine)(hk:IE s.heap k kv)(hm:IJ s.heap d xs)(hap:∀x∈xs,Bh x.1=Bh k→x.1=k)(hz:xs.length≤sizeLine)
 (hQ:∀h',IJ h' d (GD xs k kv v)→Heap.SameBut d s.heap h'→Q () { s with heap:=h',toks:=s.toks+EV k }):wpAny (model prog w) A (setItem (.ref d) kv v) Q E s:=by
 unfold setItem
 try with_reducible refine aV ?_
 refine Wb (wpAny_sequenceKey hm.ty (by decide) ?_);refine Wb (aa (name:=Str.ofString "__setitem__") hm.ty slot_dict_setitem (aT slot_dict_setitem hm.ty entry_dict_setitem ?_ (args_dict_setitem _ _ _)));show wpAny _ _ (Builtin.Dict.notOrdered "__setitem__" ⟨[.ref d,kv,v],[]⟩>>=_) _ _ s;refine Wb (wpAny_notOrdered_dict hm.ty ?_);show wpAny _ _ (dictSet d kv v>>=_) _ _ s;refine Wb ?_;have fin:∀h',IJ h' d (GD xs k kv v)→Heap.SameBut d s.heap h'→wpAny (model prog w) A.in1 (ret .none) (fun fin s'=>∃v,fin=.done (.ret v)∧wpAny (model prog w) A (pure ()) Q E s') E { s with heap:=h',toks:=s.toks+EV k }:=fun h' h1 h2=>aA ⟨.none,rfl,wpAny_pure (hQ h' h1 h2)⟩;obtain⟨o,es,ep,ho,hc,hd,he⟩:=hm.ob;unfold dictSet
 try with_reducible refine aV ?_
 refine Wb (XE hu hk ?_);unfold dictSetHashed
 try with_reducible refine aV ?_
 refine Wb (XQ (s:={ s with toks:=s.toks+EV k }) hu hk ho hd he hm.ks hm.nd hap (fun hno=>?_) fun j x hj hx=>?_)
 ·have es':GD xs k kv v=xs++[(k,kv,v)]:=by unfold GD;rw [Oy hno];rfl
  rw [es']at fin;refine Wb (bP (wpAny_updateDictKeys (hz:=by rw [Sy he];exact hz) (s:={ s with toks:=s.toks+EV k }) ho hd (fin _ ⟨⟨_,_,ep+1,Heap.get?_update_self _ ho (Obj.isFreed_of_dict (Obj.data_mapDictKeys hd _)),hc.mapDictKeys _,Obj.data_mapDictKeys hd _,?_⟩,fun y hy=>?_,?_⟩ (af ..))))
  ·simp [he,DL]
  ·rcases bZ.mp hy with h|h
   ·exact(hm.ks y h).keep prog w ho hd (af ..)
   ·rw [List.mem_singleton.mp h];exact hk.keep prog w ho hd (af ..)
  ·rw [List.map_append,List.nodup_append];refine⟨hm.nd,by simp,fun a ha b hb=>?_⟩;have:b=k:=by simpa using hb
   subst this;obtain⟨y,hy,rfl⟩:=aU.mp ha;exact hno y hy
 ·have es':GD xs k kv v=xs.map (putN k v):=by unfold GD;rw [OT hm.nd hj hx];rfl
  rw [es']at fin;refine Wb (bP (Wb (wpAny_updateDict (s:={ s with toks:=s.toks+EV k }) ho hd (wpAny_point (fin _ ⟨⟨_,_,ep,Heap.get?_update_self _ ho (Obj.isFreed_of_dict (Obj.data_mapDict hd _)),hc.mapDict _,Obj.data_mapDict hd _,?_⟩,fun y hy=>?_,?_⟩ (af ..))))))
  ·have:=Om (v:=v) hm.nd hj hx;rw [←he]at this;obtain⟨l⟩:=es
   simpa using this
  ·obtain⟨z,hz',rfl⟩:=aU.mp hy;unfold putN;split<;>exact(hm.ks z hz').keep prog w ho hd (af ..)
  ·rw [Rh];exact hm.nd
end
end TH
namespace L2
open PySem PySem.Spec PyProof.Rows
abbrev KR:=Option Tr×V×V
def Pj(q:KR)(x:TH.KE):Prop:=x.1=q.1∧RelV q.2.1 x.2.1∧RelV q.2.2 x.2.2
def dN(d:AD)(r:List KR):HO:=.ext fun h=>(d==sysModules)=false∧∃o es ep xs,h.get? d=some o∧o.ExactDict∧o.data=.dict es ep∧es.toList=xs.map TH.DL∧PySem.Paired Pj r xs
def Hi(H:Hp):Option Tr→V→Prop
 |none,v=>v=.Bb
 |some t,v=>t.deep<8∧Tv H t v
def Hi.same{H H':Hp}{k:Option Tr}{v:V}(h:Hi H k v)(e:AK H H'):Hi H' k v:=by
 cases k with
 |none=>exact h
 |some t=>exact⟨h.1,h.2.same e⟩
structure Sr(H:Hp)(d:Addr)(r:List KR)(k:Option Tr):Prop where
 at_:H d=some (dN d r)
 ks:∀q∈r,Hi H q.1 q.2.1
 nd:(r.map (·.1)).Nodup
 ap:∀q∈r,TH.Bh q.1=TH.Bh k→q.1=k
def Ob{α β:Type}{R:α→β→Prop}{l:List α}{m:List β}(h:PySem.Paired R l m):∀x∈m,∃q∈l,R q x:=by
 induction h with
 |nil=>intro x hx;cases hx
 |cons a _ ih =>
  intro x hx;rcases aN.mp hx with rfl|hx
  ·exact⟨_,.head _,a⟩
  ·obtain⟨q,h1,h2⟩:=ih x hx;exact⟨q,.tail _ h1,h2⟩
def QP{r:List KR}{xs:List TH.KE}(h:PySem.Paired Pj r xs):xs.map (·.1)=r.map (·.1):=by
 induction h with
 |nil=>rfl
 |cons a _ ih=>rw [List.map_cons,List.map_cons,ih,a.1]
section
variable{X:Cx}{pins:List (AD×Obj)}{σ:St}{H:Hp}{s:SD}{pos:Pos}
def Hi.raw(I:Inv X pins σ H s){k:Option Tr}{v:V}{u:VL}(h:Hi H k v)(r:RelV v u):TH.IE s.heap k u:=by
 cases k with
 |none =>
  have h:v=.Bb:=h;subst h;exact r
 |some t =>
  obtain⟨h1,a,ys,rfl,h2,h3⟩:=h;obtain⟨its,rv,p,_⟩:=I.tuple (A7.of (K:=X.K) h2);exact⟨a,r,h1,its,p,h3.vs I rv⟩
def TM(I:Inv X pins σ H s){d:AD}{r:List KR}{k:Option Tr}(h:Sr H d r k):(d==sysModules)=false∧∃xs,TH.IJ s.heap d xs∧PySem.Paired Pj r xs∧∀x∈xs,TH.Bh x.1=TH.Bh k→x.1=k:=by
 obtain⟨hs,o,es,ep,xs,g1,g2,g3,g4,g5⟩:=(show Cb X.prog X.w H s.heap d (dN d r) from I.A0 d _ h.at_).1;refine⟨hs,xs,⟨⟨o,es,ep,g1,g2,g3,g4⟩,fun x hx=>?_,by rw [QP g5];exact h.nd⟩,g5,fun x hx=>?_⟩
 ·obtain⟨q,h1,h2,h3,_⟩:=Ob g5 x hx;rw [h2];exact(h.ks q h1).raw I h3
 ·obtain⟨q,h1,h2,_⟩:=Ob g5 x hx;rw [h2];exact h.ap q h1
def N2{r:List KR}{xs:List TH.KE}(h:PySem.Paired Pj r xs)(k:Option Tr):match r.find? (fun q=>decide (q.1=k)) with
  |some q=>∃x,TH.Ey xs k=some x∧RelV q.2.2 x.2.2
  |none=>TH.Ey xs k=none:=by
 induction h with
 |nil=>exact rfl
 | @cons q x l m a _ ih =>
  unfold TH.Ey at ih ⊢;rw [List.find?_cons,List.find?_cons,a.1];by_cases z:q.1=k
  ·simp only [decide_eq_true z];exact⟨x,rfl,a.2.2⟩
  ·simp only [decide_eq_false z];exact ih
def kE:R2:=fun x y H Q=>∃d r k q,x=.ref d∧Hi H k y∧Sr H d r k∧r.find? (fun q=>decide (q.1=k))=some q∧Q q.2.2 H
def gH{o i:Expr}{td ty:TE}(hu:X.A.units+64<cLine)(ho:PE X o td)(hi:PE X i ty)(hs:fi i):PE X (.Subscript o i pos) (Xv kE td ty):=by
 intro pins s σ H Q I h;refine cw PySem.F.slot_dict_getitem.lookup hs (BN (ho pins s σ H _ I h) fun u s1 ⟨x,H1,I1,rx,q1⟩=>BN (hi pins s1 σ H1 _ I1 q1) fun iv s2 ⟨y,H2,I2,ry,q2⟩=>?_);obtain⟨d,r,k,q,rfl,hk,hD,hf,q3⟩:=q2;obtain rfl:u=Value.ref d:=rx;obtain⟨hsm,xs,hm,hp,hap⟩:=TM I2 hD;have hr:=N2 hp k;rw [hf]at hr;obtain⟨x,h1,h2⟩:=hr;exact⟨hm.ty,TH.fG (by show X.A.in1.units+8<cLine;rw [Around.in1_units];omega) (hk.raw I2 ry) hm hap h1 ⟨q.2.2,H2,I2.tok _,h2,q3⟩⟩
def jt(neg:Bool):R2:=fun x y H Q=>∃d r k,y=.ref d∧Hi H k x∧Sr H d r k∧Q (.bl (if neg then !(r.find? (fun q=>decide (q.1=k))).isSome else(r.find? (fun q=>decide (q.1=k))).isSome)) H
def dk(hu:X.A.units+64<cLine)(neg:Bool):Cm X (compareOp (if neg then .NotIn else .In)) (jt neg):=by
 intro pins s σ H x y v u Q I rx ry h;obtain⟨d,r,k,rfl,hk,hD,q⟩:=h;obtain rfl:u=Value.ref d:=ry;obtain⟨hsm,xs,hm,hp,hap⟩:=TM I hD;have hr:=N2 hp k;have e:(TH.Ey xs k).isSome=(r.find? (fun q=>decide (q.1=k))).isSome:=by
  split at hr
  ·rename_i q e;obtain⟨x,h1,_⟩:=hr;rw [h1,e];rfl
  ·rename_i e;rw [hr,e];rfl
 refine TH.kC (by show X.A.in1.units+8<cLine;rw [Around.in1_units];omega) (hk.raw I rx) hsm hm hap neg ?_;rw [e];exact⟨.bl _,H,I.tok _,rfl,q⟩
def FK(r:List KR)(k:Option Tr)(kv v:V):List KR:=if(r.find? (fun q=>decide (q.1=k))).isSome then r.map (fun q=>if q.1=k then(q.1,q.2.1,v) else q) else r++[(k,kv,v)]
def a8{r:List KR}{xs:List TH.KE}{k:Option Tr}{kv v:V}{ku u:VL}(h:PySem.Paired Pj r xs)(hk:RelV kv ku)(hv:RelV v u):PySem.Paired Pj (FK r k kv v) (TH.GD xs k ku u):=by
 have hr:=N2 h k;unfold FK TH.GD;split at hr
 ·rename_i q e;obtain⟨x,h1,_⟩:=hr;rw [h1,e];simp only [Option.isSome_some,if_true];clear e h1 hk
  induction h with
  |nil=>exact .nil
  | @cons q x l m a _ ih =>
   rw [List.map_cons,List.map_cons];refine .cons ?_ ih;unfold TH.putN;rw [a.1];by_cases z:q.1=k
   ·rw [if_pos z,if_pos z];exact⟨rfl,a.2.1,hv⟩
   ·rw [if_neg z,if_neg z];exact a
 ·rename_i e;rw [hr,e];exact h.snoc ⟨rfl,hk,hv⟩
def jN:Vf:=fun o i v H Q=>∃d r k,o=.ref d∧Hi H k i∧Sr H d r k∧r.length≤1000∧Q (upd H d (dN d (FK r k i v)))
def fT(hu:X.A.units+64<cLine):ZL X jN:=by
 intro pins s σ H o i v ov iv u Q I ro ri rv h;obtain⟨d,r,k,rfl,hk,hD,hl,q⟩:=h;obtain rfl:ov=Value.ref d:=ro;obtain⟨hsm,xs,hm,hp,hap⟩:=TM I hD;have hle:xs.length=r.length:=by have:=bM List.length (QP hp);simpa using this
 refine TH.jP (by show X.A.in1.units+8<cLine;rw [Around.in1_units];omega) (hk.raw I ri) hm hap (aO (by omega:xs.length≤1000) (by rw [sizeLine_eq];decide)) fun h' hm' sb=>?_;obtain⟨o',es,ep,g1,g2,g3,g4⟩:=hm'.ob;refine⟨_,I.write (x:=d) (e:=d) (o:=dN d (FK r k i v)) (t':=s.toks+TH.EV k) (by rw [hD.at_];exact trivial) (.inl rfl) (fun b w' hb e=>(sb.2 b hb).trans e) ⟨o',g1⟩ ?_,q⟩;exact⟨⟨hsm,o',es,ep,_,g1,g2,g3,g4,a8 hp ri rv⟩,⟨o',g1⟩,fun h1 h2 ⟨a,o,es,ep,xs,q,r⟩ k=>⟨a,o,es,ep,xs,k _ q,r⟩⟩
def eQ:TE:=fun _ H Q=>∀p,H p=none→Q (.ref p) (upd H p (dN p []))
def ZP:PE X (.Dict [] [] pos) eQ:=fun pins s σ H Q I h=>by
 refine wpAny_Dict_empty ⟨.ref s.heap.objs.size,_,I.laid (a:=s.heap.objs.size) (o:=dN s.heap.objs.size []) (t':=s.toks) (fun _ _ q=>aC _ q) (aF _) ?_,rfl,h _ (I.A0.fresh (aF _))⟩;have hb:sysModules<s.heap.objs.size:=Nat.lt_trans (by decide) (I.mod.glob.keeps I.bk).lt;have hn:(s.heap.objs.size==sysModules)=false:=beq_eq_false_iff_ne.mpr (Ne.symm (aJ hb));exact⟨⟨hn,_,#[],0,[],Heap.get?_push_size _ rfl,⟨rfl,rfl,rfl⟩,rfl,rfl,.nil⟩,⟨_,Heap.get?_push_size _ rfl⟩,fun h1 h2 ⟨a,o,es,ep,xs,q,r⟩ k=>⟨a,o,es,ep,xs,k _ q,r⟩⟩
def find_key{r:List KR}{k:Option Tr}{q:KR}(h:r.find? (fun q=>decide (q.1=k))=some q):q∈r∧q.1=k:=⟨List.mem_of_find?_eq_some h,by simpa using List.find?_some h⟩
end
section
variable{X:Cx}
def Ww(hc:X.calm=true):D4 X (.builtin "sum") (fun xs H Q=>∃(p:AD) (ns:List Int),xs=[.ref p]∧A7 X.K H p (ns.map V.int)∧Q (.int ns.sum) H):=by
 intro pins s σ H xs us Q I r h;obtain⟨p,ns,rfl,hq,q⟩:=h;obtain⟨u,rfl,r1⟩:=r.one;cases r1;obtain⟨its,rv,pl,hz⟩:=I.tuple hq;have hi:=intsAre_of rv;obtain⟨xs,hx⟩:=hi.allInts.items;have hl':s.heap.IsTuple p (intItems xs):=hx ▸ pl
 have hlt:p<s.heap.objs.size:=by obtain⟨_,e,_⟩:=hl';exact aE e
 have e1:ns=xs.toList.map (·.1):=by
  rw [←nums_intItems,←hx];exact(show numsOf its.toArray.toList=ns from hi.numsOf).symm
 have e2:preSum (numAt xs) xs.size=ns.sum:=by
  rw [preSum_eq,List.take_of_length_le (by simp),e1]
 refine call_sum_walkG (wpAny_pyIter_tuple hl' ?_);refine⟨_,[_,p],[_],_,_,_,numAt xs,rfl,Walks.tuple (A:=X.A.in1) (I.ok.hd hc) _ p (aJ hlt) (intItems xs),
  ⟨⟨_,Heap.get?_push_size _ rfl,rfl,rfl⟩,hl'.push _⟩,fun c hcc=>?_,(fun _ _=>intItems_at),fun h' tk t' hk=>?_⟩
 ·show c<(s.heap.push _).objs.size;rw [Heap.size_push];rcases aN.mp hcc with rfl|hcc
  ·exact bW _
  ·rw [List.mem_singleton.mp hcc];exact az hlt
 ·have e3:preSum (numAt xs) (intItems xs).size=ns.sum:=by
   rw [←e2];simp [intItems]
  rw [e3];exact⟨.int _,H,I.kept (t':=tk) (PyProof.Rows.LSm.kept_iter hk),⟨t',rfl⟩,q⟩
end
end L2
set_option maxHeartbeats 1000000
namespace L2
open PySem PySem.Spec PyProof.Rows
def Rd.same{H H':Hp}{a:AD}{u:HO}(e:AK H H')(h:Rd H a u):Rd H' a u:=by
 rcases h with h|⟨o,h⟩
 ·exact .inl (e _ _ h)
 ·exact .inr ⟨o,e _ _ h⟩
def Bg:Tr→List PD
 |.nil=>[]
 |.cons b r=>.tuple (Bg b)::Bg r
def iO:Option Tr→PD
 |none=>.none
 |some t=>.tuple (Bg t)
mutual
def Du(H:Hp):PD→V→Prop
 |.none,v=>v=.Bb
 |.bool b,v=>v=.bl b
 |.int i,v=>v=.int i
 |.str x,v=>v=.str x
 |.tuple ds,v=>∃a xs,v=.ref a∧H a=some (.tup xs)∧Ao H ds xs
 |.list ds,v=>∃a xs,v=.ref a∧H a=some (.lst xs)∧Ao H ds xs
 |.dict kv,v=>(∃ea C:AD,kv=[(.int (C:Nat),.none)]∧v=.ref ea∧H ea=some (kU ea (.ref C)))∨(∃(a:AD) (ns:List Int),kv=[(.none,.list (ns.map .int))]∧v=.ref a∧Rd H a (.lst (ns.map V.int)))∨Kl H kv v
def Ao(H:Hp):List PD→List V→Prop
 |[],xs=>xs=[]
 |d::ds,xs=>∃x r,xs=x::r∧Du H d x∧Ao H ds r
def Kl(H:Hp):List (PD×PD)→V→Prop
 |[],_=>False
 |(k0,d0)::t,v=>k0=.bool true∧d0=.none∧∃a r,v=.ref a∧H a=some (dN a r)∧(r.map (·.1)).Nodup∧Lc H t r
def Lc(H:Hp):List (PD×PD)→List KR→Prop
 |[],r=>r=[]
 |(k,d)::t,r=>∃q r',r=q::r'∧k=iO q.1∧Hi H q.1 q.2.1∧Du H d q.2.2∧Lc H t r'
end
mutual
def Du.same{H H':Hp}(e:AK H H'):∀ {d:PD} {v:V},Du H d v→Du H' d v
 |.none,_,h=>by rw [Du]at h ⊢;exact h
 |.bool _,_,h=>by rw [Du]at h ⊢;exact h
 |.int _,_,h=>by rw [Du]at h ⊢;exact h
 |.str _,_,h=>by rw [Du]at h ⊢;exact h
 |.tuple _,_,h=>by
  rw [Du]at h ⊢;obtain⟨a,xs,e1,h1,h2⟩:=h;exact⟨a,xs,e1,e _ _ h1,Ao.same e h2⟩
 |.list _,_,h=>by
  rw [Du]at h ⊢;obtain⟨a,xs,e1,h1,h2⟩:=h;exact⟨a,xs,e1,e _ _ h1,Ao.same e h2⟩
 |.dict _,_,h=>by
  rw [Du]at h ⊢;rcases h with ⟨ea,C,e1,e2,h1⟩|⟨a,ns,e1,e2,h1⟩|h
  ·exact .inl ⟨ea,C,e1,e2,e _ _ h1⟩
  ·exact .inr (.inl ⟨a,ns,e1,e2,h1.same e⟩)
  ·exact .inr (.inr (Kl.same e h))
def Ao.same{H H':Hp}(e:AK H H'):∀ {ds:List PD} {xs:List V},Ao H ds xs→Ao H' ds xs
 |[],_,h=>by rw [Ao]at h ⊢;exact h
 |_::_,_,h=>by
  rw [Ao]at h ⊢;obtain⟨x,r,e1,h1,h2⟩:=h;exact⟨x,r,e1,Du.same e h1,Ao.same e h2⟩
def Kl.same{H H':Hp}(e:AK H H'):∀ {kv:List (PD×PD)} {v:V},Kl H kv v→Kl H' kv v
 |[],_,h=>by rw [Kl]at h;exact h.elim
 |(_,_)::_,_,h=>by
  rw [Kl]at h ⊢;obtain⟨h1,h2,a,r,h3,h4,h5,h6⟩:=h;exact⟨h1,h2,a,r,h3,e _ _ h4,h5,Lc.same e h6⟩
def Lc.same{H H':Hp}(e:AK H H'):∀ {kv:List (PD×PD)} {r:List KR},Lc H kv r→Lc H' kv r
 |[],_,h=>by rw [Lc]at h ⊢;exact h
 |(_,_)::_,_,h=>by
  rw [Lc]at h ⊢;obtain⟨q,r',h1,h2,h3,h4,h5⟩:=h;exact⟨q,r',h1,h2,h3.same e,Du.same e h4,Lc.same e h5⟩
end
mutual
def Du.br{K:Fg}{H:Hp}:∀ {d:PD} {v:V},d.canLay0=true→Du H d v→Br K H d v
 |.none,_,_,h=>by rw [Du]at h;rw [Br];exact h
 |.bool _,_,_,h=>by rw [Du]at h;rw [Br];exact h
 |.int _,_,_,h=>by rw [Du]at h;rw [Br];exact h
 |.str _,_,_,h=>by rw [Du]at h;rw [Br];exact h
 |.tuple _,_,c,h=>by
  rw [Du]at h;rw [Br];obtain⟨a,xs,e1,h1,h2⟩:=h;exact⟨a,xs,e1,A7.of h1,Ao.br (by simp only [PyData.canLay0,Bool.and_eq_true]at c;first|exact c|exact c.2|exact c.1) h2⟩
 |.list _,_,c,h=>by
  rw [Du]at h;rw [Br];obtain⟨a,xs,e1,h1,h2⟩:=h;exact⟨a,xs,e1,Al.of h1,Ao.br (by simp only [PyData.canLay0,Bool.and_eq_true]at c;first|exact c|exact c.2|exact c.1) h2⟩
 |.dict _,_,c,h=>by simp [PyData.canLay0]at c
def Ao.br{K:Fg}{H:Hp}:∀ {ds:List PD} {xs:List V},PyData.canLayAll0 ds=true→Ao H ds xs→FU K H ds xs
 |[],_,_,h=>by rw [Ao]at h;rw [FU];exact h
 |_::_,_,c,h=>by
  rw [Ao]at h;rw [FU];obtain⟨x,r,e1,h1,h2⟩:=h;simp only [PyData.canLayAll0,Bool.and_eq_true]at c;exact⟨x,r,e1,Du.br c.1 h1,Ao.br c.2 h2⟩
end
def Ao.nil{H:Hp}:Ao H [] []:=by rw [Ao]
def Ao.cons{H:Hp}{d:PD}{ds:List PD}{x:V}{xs:List V}(h:Du H d x)(k:Ao H ds xs):Ao H (d::ds) (x::xs):=by rw [Ao];exact⟨x,xs,rfl,h,k⟩
def Ao.un{H:Hp}{d:PD}{ds:List PD}{xs:List V}(h:Ao H (d::ds) xs):∃x r,xs=x::r∧Du H d x∧Ao H ds r:=by rw [Ao]at h;exact h
def Ao.nil_eq{H:Hp}{xs:List V}(h:Ao H [] xs):xs=[]:=by rw [Ao]at h;exact h
def Ao.len{H:Hp}:∀ {ds:List PD} {xs:List V},Ao H ds xs→xs.length=ds.length
 |[],_,h=>by rw [h.nil_eq];rfl
 |_::_,_,h=>by obtain⟨x,r,rfl,_,h2⟩:=h.un;simp [h2.len]
def Ao.get{H:Hp}:∀ {ds:List PD} {xs:List V} {i:Nat} {d:PD},Ao H ds xs→ds[i]? = some d→∃v,xs[i]? = some v∧Du H d v
 |[],_,i,_,_,e=>by simp at e
 |_::_,_,0,_,h,e=>by
  obtain⟨x,r,rfl,h1,_⟩:=h.un;simp at e;subst e;exact⟨x,rfl,h1⟩
 |_::_,_,i+1,_,h,e=>by
  obtain⟨x,r,rfl,_,h2⟩:=h.un;obtain⟨v,k1,k2⟩:=h2.get (i:=i) (by simpa using e);exact⟨v,by simpa using k1,k2⟩
def Ao.back{H:Hp}{ds:List PD}{xs:List V}{i:Nat}{v:V}(h:Ao H ds xs)(e:xs[i]? = some v):∃d,ds[i]? = some d∧Du H d v:=by
 have hl:=h.len;have hi:i<ds.length:=by rw [←hl];exact(aD.mp e).1
 have hd:ds[i]? = some ds[i]:=by simp [hi]
 obtain⟨w,k1,k2⟩:=h.get hd;rw [e]at k1;cases k1;exact⟨_,hd,k2⟩
def Ao.app{H:Hp}:∀ {ds es:List PD} {xs ys:List V},Ao H ds xs→Ao H es ys→Ao H (ds++es) (xs++ys)
 |[],_,_,_,h,k=>by rw [h.nil_eq];exact k
 |_::_,_,_,_,h,k=>by obtain⟨x,r,rfl,h1,h2⟩:=h.un;exact .cons h1 (h2.app k)
def Ao.take{H:Hp}:∀ {ds:List PD} {xs:List V} (i:Nat),Ao H ds xs→Ao H (ds.take i) (xs.take i)
 |_,_,0,_=>by rw [List.take_zero,List.take_zero];exact .nil
 |[],_,i+1,h=>by rw [h.nil_eq];exact .nil
 |_::_,_,i+1,h=>by obtain⟨x,r,rfl,h1,h2⟩:=h.un;exact .cons h1 (h2.take i)
def Ao.drop{H:Hp}:∀ {ds:List PD} {xs:List V} (i:Nat),Ao H ds xs→Ao H (ds.drop i) (xs.drop i)
 |_,_,0,h=>h
 |[],_,i+1,h=>by rw [h.nil_eq];exact .nil
 |_::_,_,i+1,h=>by obtain⟨x,r,rfl,h1,h2⟩:=h.un;exact h2.drop i
def Ao.rev{H:Hp}:∀ {ds:List PD} {xs:List V},Ao H ds xs→Ao H ds.reverse xs.reverse
 |[],_,h=>by rw [h.nil_eq];exact .nil
 |_::_,_,h=>by
  obtain⟨x,r,rfl,h1,h2⟩:=h.un;rw [List.reverse_cons,List.reverse_cons];exact h2.rev.app (.cons h1 .nil)
inductive Oc where
 |lst (xs:List PyData)|hV (kvs:List (List Key×PyData))|X5 (kvs:List (Option Tr×PyData))
inductive L where
 |no|d (x:PyData)|own (c:Oc)
abbrev Dv:=List L
def Pc(G:Hp):List (List Key×PD)→List (List Key×V)→Prop
 |[],r=>r=[]
 |q::t,r=>∃v r',r=(q.1,v)::r'∧Du G q.2 v∧Pc G t r'
def Pc.same{G G':Hp}(e:AK G G'):∀ {t:List (List Key×PD)} {r:List (List Key×V)},Pc G t r→Pc G' t r
 |[],r,h=>h
 |q::t,r,h=>by
  obtain⟨v,r',rfl,h1,h2⟩:=h;exact⟨v,r',rfl,h1.same e,Pc.same e h2⟩
abbrev Zg(kvs:List (Option Tr×PD)):List (PD×PD):=kvs.map fun q=>(iO q.1,q.2)
abbrev Vb(kvs:List (Option Tr×PD)):PD:=.dict ((.bool true,.none)::Zg kvs)
def Hm(G:Hp)(a:AD):Oc→HO→Prop
 |.lst xs,o=>∃ys,o=.lst ys∧Ao G xs ys
 |.hV kvs,o=>∃r,o=.dT r∧Pc G kvs r
 |.X5 kvs,o=>∃r,o=dN a r∧(r.map (·.1)).Nodup∧Lc G (Zg kvs) r
def Hm.same{G G':Hp}{a:AD}{c:Oc}{o:HO}(h:Hm G a c o)(e:AK G G'):Hm G' a c o:=by
 cases c with
 |X5 kvs=>obtain⟨r,h1,h2,h3⟩:=h;exact⟨r,h1,h2,Lc.same e h3⟩
 |lst xs=>obtain⟨ys,h1,h2⟩:=h;exact⟨ys,h1,h2.same e⟩
 |hV kvs=>obtain⟨ys,h1,h2⟩:=h;exact⟨ys,h1,h2.same e⟩
def Hm.TQ{G:Hp}{a:AD}{c:Oc}{xs:List V}(h:Hm G a c (.tup xs)):False:=by
 cases c with
 |X5 kvs=>obtain⟨r,h1,h2,h3⟩:=h;unfold dN at h1;cases h1
 |lst xs=>obtain⟨ys,h1,h2⟩:=h;cases h1
 |hV kvs=>obtain⟨ys,h1,h2⟩:=h;cases h1
def Nw(G0 H0 G:Hp):Prop:=∀a o,G a=some o→G0 a=some o∨H0 a=none∨∃xs,o=HO.tup xs
structure Rw(G0 H0 G H:Hp)(σ:St)(δ:Dv)(ts:List (PyData×V)):Prop where
 ext:AK G0 G
 new:Nw G0 H0 G
 ins:AK G H
 keep:AK H0 H
 len:σ.length=δ.length
 dat:∀(i:Nat) (x:PyData),δ[i]? = some (L.d x)→∃v,σ[i]? = some (some v)∧Du G x v
 own:∀(i:Nat) (xs:Oc),δ[i]? = some (L.own xs)→∃(a:Addr) (ys:HO),σ[i]? = some (some (V.ref a))∧G a=none∧H0 a=none∧H a=some ys∧Hm G a xs ys
 apart:∀(i j:Nat) (xs ys:Oc),i≠j→δ[i]? = some (L.own xs)→δ[j]? = some (L.own ys)→σ[i]?≠σ[j]?
 B8:∀p∈ts,Du G p.1 p.2
def DE(X:Cx)(e:Expr)(f:Dv→Option PD):Prop:=∃t,PE X e t∧∀δ x,f δ=some x→∀G0 H0 G H σ ts (Q:VK),Rw G0 H0 G H σ δ ts→(∀v G' H',Rw G0 H0 G' H' σ δ ((x,v)::ts)→Q v H')→t σ H Q
def DA(X:Cx)(es:List Expr)(f:Dv→Option (List PD)):Prop:=∃t,PA X es t∧∀δ xs,f δ=some xs→∀G0 H0 G H σ ts (Q:List V→Hp→Prop),Rw G0 H0 G H σ δ ts→(∀vs G' H',Rw G0 H0 G' H' σ δ (xs.zip vs++ts)→vs.length=xs.length→Q vs H')→t σ H Q
def DT(X:Cx)(e:Expr)(f:Dv→Option Bool):Prop:=∃t,PT X e t∧∀δ b,f δ=some b→∀G0 H0 G H σ ts (Q:Bool→Hp→Prop),Rw G0 H0 G H σ δ ts→(∀G' H',Rw G0 H0 G' H' σ δ ts→Q b H')→t σ H Q
section
variable{G0 H0 G H:Hp}{σ:St}{δ:Dv}{ts:List (PD×V)}
def Rw.drop{p:PD×V}(r:Rw G0 H0 G H σ δ (p::ts)):Rw G0 H0 G H σ δ ts:={ r with B8:=fun q hq=>r.B8 q (.tail _ hq) }
def Rw.less{us:List (PD×V)}(r:Rw G0 H0 G H σ δ ts)(h:∀p∈us,p∈ts):Rw G0 H0 G H σ δ us:={ r with B8:=fun q hq=>r.B8 q (h q hq) }
def Rw.put{x:PD}{v:V}(r:Rw G0 H0 G H σ δ ts)(h:Du G x v):Rw G0 H0 G H σ δ ((x,v)::ts):={ r with B8:=fun q hq=>by rcases aN.mp hq with rfl|hq;exact h;exact r.B8 q hq }
def Rw.newObj{p:AD}{o:HO}(r:Rw G0 H0 G H σ δ ts)(hp:H p=none):Rw G0 H0 (upd G p o) (upd H p o) σ δ ts:=by
 have hG:G p=none:=by
  cases q:G p with
  |none=>rfl
  |some u=>rw [r.ins _ _ q]at hp;cases hp
 have h0:H0 p=none:=by
  cases q:H0 p with
  |none=>rfl
  |some u=>rw [r.keep _ _ q]at hp;cases hp
 have e:AK G (upd G p o):=AZ hG o;refine⟨r.ext.trans e,fun a u h=>?_,fun a u h=>?_,r.keep.trans (AZ hp o),r.len,fun i x h=>?_,fun i xs h=>?_,r.apart,fun q hq=>(r.B8 q hq).same e⟩
 ·by_cases ha:a=p
  ·subst ha;exact .inr (.inl h0)
  ·rw [AJ ha]at h;exact r.new _ _ h
 ·by_cases ha:a=p
  ·subst ha;rw [AL]at h ⊢;exact h
  ·rw [AJ ha]at h ⊢;exact r.ins _ _ h
 ·obtain⟨v,k1,k2⟩:=r.dat i x h;exact⟨v,k1,k2.same e⟩
 ·obtain⟨a,ys,k1,k2,k3,k4,k5⟩:=r.own i xs h;have ha:a≠p:=fun z=>by subst z;rw [k4]at hp;cases hp
  exact⟨a,ys,k1,by rw [AJ ha];exact k2,k3,by rw [AJ ha];exact k4,k5.same e⟩
def Rw.iU{p:AD}{xs:List V}{H':Hp}(r:Rw G0 H0 G H σ δ ts)(e:AK H H')(hp:H' p=some (.tup xs)):Rw G0 H0 (upd G p (.tup xs)) H' σ δ ts:=by
 have e1:AK G (upd G p (.tup xs)):=fun a o h=>by
  by_cases ha:a=p
  ·subst ha;have:=e _ _ (r.ins _ _ h);rw [hp]at this;rw [AL];exact this
  ·rw [AJ ha];exact h
 refine⟨r.ext.trans e1,fun a u h=>?_,fun a u h=>?_,r.keep.trans e,r.len,fun i x h=>?_,fun i xs h=>?_,r.apart,fun q hq=>(r.B8 q hq).same e1⟩
 ·by_cases ha:a=p
  ·subst ha;rw [AL]at h;cases h;exact .inr (.inr ⟨_,rfl⟩)
  ·rw [AJ ha]at h;exact r.new _ _ h
 ·by_cases ha:a=p
  ·subst ha;rw [AL]at h;rw [hp];exact h
  ·rw [AJ ha]at h;exact e _ _ (r.ins _ _ h)
 ·obtain⟨v,k1,k2⟩:=r.dat i x h;exact⟨v,k1,k2.same e1⟩
 ·obtain⟨a,ys,k1,k2,k3,k4,k5⟩:=r.own i xs h;have ha:a≠p:=fun z=>by subst z;rw [e _ _ k4]at hp;cases hp;exact k5.TQ
  exact⟨a,ys,k1,by rw [AJ ha];exact k2,k3,e _ _ k4,k5.same e1⟩
def Rw.lift{G' H':Hp}(r:Rw G0 H0 G H σ δ ts)(h1:AK G G')(h2:Nw G H G')(h3:AK G' H')(h4:AK H H'):Rw G0 H0 G' H' σ δ ts:=by
 refine⟨r.ext.trans h1,fun a o h=>?_,h3,r.keep.trans h4,r.len,fun i x h=>?_,fun i xs h=>?_,r.apart,fun q hq=>(r.B8 q hq).same h1⟩
 ·rcases h2 a o h with k|k|k
  ·exact r.new a o k
  ·right;left
   cases q:H0 a with
   |none=>rfl
   |some u=>rw [r.keep _ _ q]at k;cases k
  ·exact .inr (.inr k)
 ·obtain⟨v,k1,k2⟩:=r.dat i x h;exact⟨v,k1,k2.same h1⟩
 ·obtain⟨a,ys,k1,k2,k3,k4,k5⟩:=r.own i xs h;refine⟨a,ys,k1,?_,k3,h4 _ _ k4,k5.same h1⟩;cases q:G' a with
  |none=>rfl
  |some u =>
   rcases h2 a u q with z|z|⟨xs',z⟩
   ·rw [k2]at z;cases z
   ·rw [k4]at z;cases z
   ·have:=h3 _ _ q;rw [h4 _ _ k4,z]at this;cases this;exact k5.TQ.elim
end
section
variable{X:Cx}{a b c e:Expr}{es:List Expr}{f g h:Dv→Option PD}{pos:Pos}
def AF{i j pos}:DE X (.Constant (.int i) j pos) (fun _=>some (.int i)):=⟨_,Ad,fun δ x h G0 H0 G H σ ts Q r k=>by cases h;exact k _ _ _ (r.put (by rw [Du]))⟩
def RM{i j pos}:DE X (.Constant (.bool i) j pos) (fun _=>some (.bool i)):=⟨_,HR,fun δ x h G0 H0 G H σ ts Q r k=>by cases h;exact k _ _ _ (r.put (by rw [Du]))⟩
def MQ{j pos}:DE X (.Constant .none j pos) (fun _=>some .none):=⟨_,dr,fun δ x h G0 H0 G H σ ts Q r k=>by cases h;exact k _ _ _ (r.put (by rw [Du]))⟩
def nm(i:Nat)(δ:Dv):Option PD:=match δ[i]? with|some (.d x)=>some x|_=>none
def jA{i:Nat}{δ:Dv}{x:PD}(h:nm i δ=some x):δ[i]? = some (.d x):=by
 unfold nm at h;split at h
 ·rename_i y e;cases h;exact e
 ·cases h
def AG{i:Nat}{x:Str}(h:PE X (.Name x pos) (N6 i)):DE X (.Name x pos) (nm i):=⟨_,h,fun δ y hy G0 H0 G H σ ts Q r k=>by
 obtain⟨v,h1,h2⟩:=r.dat _ _ (jA hy);exact⟨v,h1,k _ _ _ (r.put h2)⟩⟩
def Ag(o:PD→PD→Option PD)(f g:Dv→Option PD)(δ:Dv):Option PD:=(f δ).bind fun x=>(g δ).bind fun y=>o x y
def EE(X:Cx)(m:VL→VL→Sem VL)(o:PD→PD→Option PD):Prop:=∃r:R2,Cm X m r∧∀x y z,o x y=some z→∀G0 H0 G H σ δ ts u v (Q:VK),Rw G0 H0 G H σ δ ts→Du G x u→Du G y v→(∀w G' H',Rw G0 H0 G' H' σ δ ((z,w)::ts)→Q w H')→r u v H Q
def two{x y:PD}{f g:Dv→Option PD}{δ:Dv}{o:PD→PD→Option PD}{z:PD}(h:Ag o f g δ=some z):∃x y,f δ=some x∧g δ=some y∧o x y=some z:=by
 unfold Ag at h;obtain⟨x,h1,h2⟩:=aB.mp h;obtain⟨y,h3,h4⟩:=aB.mp h2;exact⟨x,y,h1,h3,h4⟩
def Aq{op:Operator}{o:PD→PD→Option PD}(ho:EE X (binaryOp op) o)(ha:DE X a f)(hb:DE X b g):DE X (.BinOp a op b pos) (Ag o f g):=by
 obtain⟨r,hr,kr⟩:=ho;obtain⟨ta,pa,ka⟩:=ha;obtain⟨tb,pb,kb⟩:=hb;refine⟨_,BP hr pa pb,fun δ z hz G0 H0 G H σ ts Q R0 k=>?_⟩;obtain⟨x,y,h1,h2,h3⟩:=two (x:=.none) (y:=.none) hz;refine ka δ x h1 G0 H0 G H σ ts _ R0 fun u G1 H1 R1=>?_;refine kb δ y h2 G0 H0 G1 H1 σ _ _ R1 fun v G2 H2 R2=>?_;exact kr x y z h3 G0 H0 G2 H2 σ δ ts u v Q (R2.drop.drop) (R2.B8 (x,u) (.tail _ (.head _))) (R2.B8 (y,v) (.head _)) k
def d8{op:CmpOp}{o:PD→PD→Option PD}(ho:EE X (compareOp op) o)(ha:DE X a f)(hb:DE X b g)(hm:behindInMarks op b=false):DE X (.Compare a [op] [b] pos) (Ag o f g):=by
 obtain⟨r,hr,kr⟩:=ho;obtain⟨ta,pa,ka⟩:=ha;obtain⟨tb,pb,kb⟩:=hb;refine⟨_,Ml hr pa pb hm,fun δ z hz G0 H0 G H σ ts Q R0 k=>?_⟩;obtain⟨x,y,h1,h2,h3⟩:=two (x:=.none) (y:=.none) hz;refine ka δ x h1 G0 H0 G H σ ts _ R0 fun u G1 H1 R1=>?_;refine kb δ y h2 G0 H0 G1 H1 σ _ _ R1 fun v G2 H2 R2=>?_;exact kr x y z h3 G0 H0 G2 H2 σ δ ts u v Q (R2.drop.drop) (R2.B8 (x,u) (.tail _ (.head _))) (R2.B8 (y,v) (.head _)) k
end
section
variable{X:Cx}
def Qu(o o':PD→PD→Option PD)(x y:PD):Option PD:=match o x y with|some z=>some z|none=>o' x y
def EE.or{m:VL→VL→Sem VL}{o o':PD→PD→Option PD}(h:EE X m o)(h':EE X m o'):EE X m (Qu o o'):=by
 obtain⟨r,hr,kr⟩:=h;obtain⟨r',hr',kr'⟩:=h';refine⟨_,Cm.or hr hr',fun x y z hz G0 H0 G H σ δ ts u v Q R0 du dv k=>?_⟩;unfold Qu at hz;split at hz
 ·rename_i z' e;cases hz;exact .inl (kr x y z e G0 H0 G H σ δ ts u v Q R0 du dv k)
 ·exact .inr (kr' x y z hz G0 H0 G H σ δ ts u v Q R0 du dv k)
def Mi{m:VL→VL→Sem VL}{C:Int→Int→Prop}{gv:Int→Int→V}{o:Int→Int→Option PD}(ho:Cm X m (rI C gv))(hC:∀i j z,o i j=some z→C i j∧∀H,Du H z (gv i j)) :
  EE X m (fun x y=>match x,y with|.int i,.int j=>o i j|_,_=>none):=by
 refine⟨_,ho,fun x y z hz G0 H0 G H σ δ ts u v Q R0 du dv k=>?_⟩;dsimp only at hz;split at hz
 ·rename_i i j;rw [Du]at du dv;obtain⟨h1,h2⟩:=hC i j z hz;exact⟨i,j,du,dv,h1,k _ _ _ (R0.put (h2 _))⟩
 ·cases hz
def JG{m:VL→VL→Sem VL}{gv:Int→Int→V}{o:Int→Int→PD}(ho:Cm X m (QR gv))(hC:∀i j H,Du H (o i j) (gv i j)) :
  EE X m (fun x y=>match x,y with|.int i,.int j=>some (o i j)|_,_=>none):=by
 refine⟨_,ho,fun x y z hz G0 H0 G H σ δ ts u v Q R0 du dv k=>?_⟩;dsimp only at hz;split at hz
 ·rename_i i j;cases hz;rw [Du]at du dv;exact⟨i,j,du,dv,k _ _ _ (R0.put (hC _ _ _))⟩
 ·cases hz
def DH:Nat:=1000
def Uq{n:Nat}(h:n≤DH):n<sizeLine:=QJ h
def Fh{n:Nat}(h:n≤DH):n≤sizeLine:=bG (QJ h)
def fD:PD→PD→Option PD:=fun x y=>match x,y with|.int i,.int j=>some (.int (i+j))|_,_=>none
def YE:PD→PD→Option PD:=fun x y=>match x,y with|.int i,.int j=>some (.int (i-j))|_,_=>none
def Hg(n:Nat)(i:Int):Bool:=decide (i.natAbs<2^n)
def Mg(i j:Int):Bool:=Hg 64 i||Hg 64 j||(Hg 9000 i&&Hg 9000 j)
def Vv:PD→PD→Option PD:=fun x y=>match x,y with|.int i,.int j=>(if Mg i j=true then some (.int (i*j)) else none)|_,_=>none
def R6:PD→PD→Option PD:=fun x y=>match x,y with|.int i,.int j=>(if j≠0∧Hg 9000 j=true then some (.int (i.fdiv j)) else none)|_,_=>none
def GJ:PD→PD→Option PD:=fun x y=>match x,y with|.int i,.int j=>(if j≠0 then some (.int (i.fmod j)) else none)|_,_=>none
def L6:PD→PD→Option PD:=fun x y=>match x,y with|.int i,.int j=>(if 0≤j∧j≤1000∧Hg 64 i=true then some (.int (i^j.toNat)) else none)|_,_=>none
def cN:EE X (binaryOp .Add) fD:=JG MI fun _ _ _=>by rw [Du]
def VC:EE X (binaryOp .Sub) YE:=JG S5 fun _ _ _=>by rw [Du]
def Zt{i:Int}(h:Hg 64 i=true):-(2^64)<i∧i<2^64:=by
 have:=aj h;omega
def dS:EE X (binaryOp .Mult) Vv:=Mi (o:=fun i j=>if Mg i j=true then some (.int (i*j)) else none) HJ fun i j z h=>by
 split at h
 ·rename_i q;cases h;refine⟨?_,fun _=>by rw [Du]⟩;unfold Mg at q;rw [Bool.or_eq_true,Bool.or_eq_true,Bool.and_eq_true]at q;rcases q with (q|q)|q
  ·exact .inl (.inl (Zt q))
  ·exact .inl (.inr (Zt q))
  ·exact .inr ⟨9000,by decide,of_decide_eq_true q.1,of_decide_eq_true q.2⟩
 ·cases h
def US:EE X (binaryOp .FloorDiv) R6:=Mi (o:=fun i j=>if j≠0∧Hg 9000 j=true then some (.int (i.fdiv j)) else none) F8 fun i j z h=>by
 split at h
 ·rename_i q;cases h;exact⟨⟨q.1,9000,Nat.le_refl _,of_decide_eq_true q.2⟩,fun _=>by rw [Du]⟩
 ·cases h
def Er:EE X (binaryOp .Mod) GJ:=Mi (o:=fun i j=>if j≠0 then some (.int (i.fmod j)) else none) KA fun i j z h=>by
 split at h
 ·rename_i q;cases h;exact⟨q,fun _=>by rw [Du]⟩
 ·cases h
def P0:EE X (binaryOp .Pow) L6:=Mi (o:=fun i j=>if 0≤j∧j≤1000∧Hg 64 i=true then some (.int (i^j.toNat)) else none) fQ fun i j z h=>by
 split at h
 ·rename_i q;cases h;exact⟨⟨q.1,by omega,of_decide_eq_true q.2.2⟩,fun _=>by rw [Du]⟩
 ·cases h
def Gm(p:Int→Int→Bool):PD→PD→Option PD:=fun x y=>match x,y with|.int i,.int j=>some (.bool (p i j))|_,_=>none
def WD:EE X (compareOp .Lt) (Gm fun i j=>decide (i<j)):=JG (o:=fun i j=>.bool (decide (i<j))) RO fun _ _ _=>by rw [Du]
def V8:EE X (compareOp .Gt) (Gm fun i j=>decide (j<i)):=JG (o:=fun i j=>.bool (decide (j<i))) Mr fun _ _ _=>by rw [Du]
def jE:EE X (compareOp .GtE) (Gm fun i j=>decide (j≤i)):=JG (o:=fun i j=>.bool (decide (j≤i))) Zn fun _ _ _=>by rw [Du]
def Yi:PD→PD→Option PD:=fun x y=>match x,y with|.list a,.list b=>(if a.length+b.length≤DH then some (.list (a++b)) else none)|_,_=>none
def b0:EE X (binaryOp .Add) Yi:=by
 refine⟨_,Xz,fun x y z hz G0 H0 G H σ δ ts u v Q R0 du dv k=>?_⟩;unfold Yi at hz;split at hz
 ·rename_i a b;split at hz
  ·rename_i hl;cases hz;rw [Du]at du dv;obtain⟨p,xs,rfl,h1,h2⟩:=du;obtain⟨q,ys,rfl,h3,h4⟩:=dv;refine⟨p,q,xs,ys,rfl,rfl,R0.ins _ _ h1,R0.ins _ _ h3,Fh (by rw [h2.len,h4.len];exact hl),fun l hl'=>?_⟩;have R1:=R0.newObj (o:=.lst (xs++ys)) hl';refine k _ _ _ (R1.put ?_);rw [Du];have e:AK G (upd G l (.lst (xs++ys))):=fun a o h=>by
    have:=R0.ins _ _ h;rw [AJ (AU this hl')];exact h
   exact⟨l,xs++ys,rfl,AL,(h2.same e).app (h4.same e)⟩
  ·cases hz
 ·cases hz
def VS:PD→PD→Option PD:=fun x y=>match x,y with|.tuple a,.tuple b=>(if a.length+b.length≤DH then some (.tuple (a++b)) else none)|_,_=>none
def cj:EE X (binaryOp .Add) VS:=by
 refine⟨_,df,fun x y z hz G0 H0 G H σ δ ts u v Q R0 du dv k=>?_⟩;unfold VS at hz;split at hz
 ·rename_i a b;split at hz
  ·rename_i hl;cases hz;rw [Du]at du dv;obtain⟨p,xs,rfl,h1,h2⟩:=du;obtain⟨q,ys,rfl,h3,h4⟩:=dv;refine⟨p,q,xs,ys,rfl,rfl,R0.ins _ _ h1,R0.ins _ _ h3,Fh (by rw [h2.len,h4.len];exact hl),fun l H' e hp=>?_⟩;have R1:=R0.iU e hp;refine k _ _ _ (R1.put ?_);rw [Du];have e1:AK G (upd G l (.tup (xs++ys))):=fun a o h=>by
    by_cases ha:a=l
    ·subst ha;have:=e _ _ (R0.ins _ _ h);rw [hp]at this;rw [AL];exact this
    ·rw [AJ ha];exact h
   exact⟨l,xs++ys,rfl,AL,(h2.same e1).app (h4.same e1)⟩
  ·cases hz
 ·cases hz
def YK:PD→PD→Option PD:=fun x y=>match x,y with|.str a,.str b=>(if a.length+b.length≤DH then some (.str (a++b)) else none)|_,_=>none
def dH:EE X (binaryOp .Add) YK:=by
 refine⟨_,WB,fun x y z hz G0 H0 G H σ δ ts u v Q R0 du dv k=>?_⟩;unfold YK at hz;split at hz
 ·rename_i a b;split at hz
  ·rename_i hl;cases hz;rw [Du]at du dv;exact⟨a,b,du,dv,Fh hl,k _ _ _ (R0.put (by rw [Du]))⟩
  ·cases hz
 ·cases hz
def CO:PD→PD→Option PD:=Qu fD (Qu Yi (Qu VS YK))
def Bj:EE X (binaryOp .Add) CO:=cN.or (b0.or (cj.or dH))
def VE:PD→PD→Option PD:=fun x y=>match x,y with|.list a,.int k=>(if a.length*k.toNat≤DH∧-1000000≤k∧k≤1000000 then some (.list (List.replicate k.toNat a).flatten) else none)|_,_=>none
def Ao.rep{H:Hp}{ds:List PD}{xs:List V}(h:Ao H ds xs):∀n,Ao H (List.replicate n ds).flatten (List.replicate n xs).flatten
 |0=>.nil
 |n+1=>by rw [List.replicate_succ,List.replicate_succ,List.flatten_cons,List.flatten_cons];exact h.app (h.rep n)
def a6:EE X (binaryOp .Mult) VE:=by
 refine⟨_,Wm,fun x y z hz G0 H0 G H σ δ ts u v Q R0 du dv k=>?_⟩;unfold VE at hz;split at hz
 ·rename_i a n;split at hz
  ·rename_i hl;cases hz;rw [Du]at du;rw [Du]at dv;obtain⟨p,xs,rfl,h1,h2⟩:=du;subst dv;refine⟨p,n,xs,rfl,rfl,R0.ins _ _ h1,by omega,by omega,Fh (by rw [h2.len];exact hl.1),fun l hl'=>?_⟩;have R1:=R0.newObj (o:=.lst (List.replicate n.toNat xs).flatten) hl';refine k _ _ _ (R1.put ?_);rw [Du];have e:AK G (upd G l (.lst (List.replicate n.toNat xs).flatten)):=fun a o h=>by
    have:=R0.ins _ _ h;rw [AJ (AU this hl')];exact h
   exact⟨l,_,rfl,AL,(h2.same e).rep _⟩
  ·cases hz
 ·cases hz
def FI:PD→PD→Option PD:=Qu Vv VE
def ER:EE X (binaryOp .Mult) FI:=dS.or a6
def QM{d:PD}(h:SeqAt.shaped d=true):d.canLay0=true:=by unfold SeqAt.shaped at h;rw [Bool.and_eq_true]at h;exact h.1
def Ej(neg:Bool):PD→PD→Option PD:=fun x y=>if SeqAt.shaped x=true∧SeqAt.shaped y=true then some (.bool (if neg then !PyData.eqv x y else PyData.eqv x y)) else none
def Xn{m:VL→VL→Sem VL}{neg:Bool}(ho:Cm X m (ZJ X.K neg)):EE X m (Ej neg):=by
 refine⟨_,ho,fun x y z hz G0 H0 G H σ δ ts u v Q R0 du dv k=>?_⟩;unfold Ej at hz;split at hz
 ·rename_i hs;cases hz;exact⟨x,y,(du.same R0.ins).br (QM hs.1),(dv.same R0.ins).br (QM hs.2),hs.1,hs.2,k _ _ _ (R0.put (by rw [Du]))⟩
 ·cases hz
def PL(hu:X.A.units+64<cLine):EE X (compareOp .Eq) (Ej false):=Xn (iG hu)
def Je(hu:X.A.units+64<cLine):EE X (compareOp .NotEq) (Ej true):=Xn (iJ hu)
def PyData.Yy:PD→Bool
 |.none=>true
 |_=>false
def gP{H:Hp}:∀ {x:PD} {u:V},Du H x u→decide (u=.Bb)=PyData.Yy x
 |.none,u,h=>by rw [Du]at h;subst h;rfl
 |.bool _,u,h=>by rw [Du]at h;subst h;rfl
 |.int _,u,h=>by rw [Du]at h;subst h;rfl
 |.str _,u,h=>by rw [Du]at h;subst h;rfl
 |.tuple _,u,h=>by rw [Du]at h;obtain⟨a,xs,rfl,_⟩:=h;rfl
 |.list _,u,h=>by rw [Du]at h;obtain⟨a,xs,rfl,_⟩:=h;rfl
 |.dict [],u,h=>by rw [Du,Kl]at h;rcases h with ⟨ea,C,_,rfl,_⟩|⟨a,ns,_,rfl,_⟩|h;rfl;rfl;exact h.elim
 |.dict ((_,_)::_),u,h=>by rw [Du,Kl]at h;rcases h with ⟨ea,C,_,rfl,_⟩|⟨a,ns,_,rfl,_⟩|⟨_,_,a,r,rfl,_⟩<;>rfl
def Ze(neg:Bool):PD→PD→Option PD:=fun x y=>match y with
 |.none=>some (.bool (if neg then !PyData.Yy x else PyData.Yy x))
 |_=>none
def Y5:EE X (compareOp .IsNot) (Ze true):=by
 refine⟨_,cb,fun x y z hz G0 H0 G H σ δ ts u v Q R0 du dv k=>?_⟩;unfold Ze at hz;split at hz
 ·cases hz;rw [Du]at dv;refine⟨dv,?_⟩;rw [gP du];exact k _ _ _ (R0.put (by rw [Du];rfl))
 ·cases hz
end
section
variable{X:Cx}{a b c e:Expr}{es:List Expr}{f g h:Dv→Option PD}{pos p:Pos}
def Qe:PD→Option Bool
 |.bool b=>some b
 |_=>none
def Qh:PD→Option Int
 |.int b=>some b
 |_=>none
def Xs{x:PD}{b:Bool}(h:Qe x=some b):x=.bool b:=by
 unfold Qe at h;split at h
 ·cases h;rfl
 ·cases h
def Sj{x:PD}{b:Int}(h:Qh x=some b):x=.int b:=by
 unfold Qh at h;split at h
 ·cases h;rfl
 ·cases h
def FJ(ha:DE X a f):DE X (.UnaryOp .USub a pos) (fun δ=>(f δ).bind fun x=>(Qh x).map fun i=>.int (-i)):=by
 obtain⟨ta,pa,ka⟩:=ha;refine⟨_,Vn SY pa,fun δ z hz G0 H0 G H σ ts Q R0 k=>?_⟩;obtain⟨x,h1,h2⟩:=aB.mp hz;obtain⟨i,h3,rfl⟩:=aG.mp h2;have:=Sj h3;subst this;refine ka δ _ h1 G0 H0 G H σ ts _ R0 fun u G1 H1 R1=>?_;have:=R1.B8 _ (.head _);rw [Du]at this;exact⟨i,this,k _ _ _ (R1.drop.put (by rw [Du]))⟩
variable{fa fb:Dv→Option Bool}
def DW(X:Cx)(e:Expr)(f:Dv→Option Bool):Prop:=∃t,PW X e t∧∀δ b,f δ=some b→∀G0 H0 G H σ ts (Q:Bool→Hp→Prop),Rw G0 H0 G H σ δ ts→(∀G' H',Rw G0 H0 G' H' σ δ ts→Q b H')→t σ H Q
def DW.dt(h:DW X e fa):DT X e fa:=let⟨t,p,k⟩:=h;⟨t,p.pt,k⟩
def CH{op:CmpOp}{o:PD→PD→Option PD}(ho:EE X (compareOp op) o)(ha:DE X a f)(hb:DE X b g)(hm:behindInMarks op b=false):DT X (.Compare a [op] [b] pos) (fun δ=>(Ag o f g δ).bind Qe):=by
 obtain⟨r,hr,kr⟩:=ho;obtain⟨ta,pa,ka⟩:=ha;obtain⟨tb,pb,kb⟩:=hb;refine⟨_,CC hr pa pb hm,fun δ z hz G0 H0 G H σ ts Q R0 k=>?_⟩;obtain⟨q,h0,h4⟩:=aB.mp hz;have:=Xs h4;subst this;obtain⟨x,y,h1,h2,h3⟩:=two (x:=.none) (y:=.none) h0;refine ka δ x h1 G0 H0 G H σ ts _ R0 fun u G1 H1 R1=>?_;refine kb δ y h2 G0 H0 G1 H1 σ _ _ R1 fun v G2 H2 R2=>?_;refine kr x y _ h3 G0 H0 G2 H2 σ δ ts u v _ (R2.drop.drop) (R2.B8 (x,u) (.tail _ (.head _))) (R2.B8 (y,v) (.head _)) fun w G3 H3 R3=>?_;have hu:=R3.B8 _ (.head _);rw [Du]at hu;exact⟨z,hu,k _ _ R3.drop⟩
def OS(ha : DE X e f)(he : ∀ whole,isTrue e X.env whole = (do let v ← whole; standAt e.pos; holding [v] (truthy v)) := by intro _; rfl) : DT X e (fun δ => (f δ).bind Qe) := by
  obtain ⟨ta,pa,ka⟩:=ha
  refine ⟨_,GY pa he,fun δ z hz G0 H0 G H σ ts Q R0 k => ?_⟩
  obtain ⟨q,h0,h4⟩:=aB.mp hz
  have:=Xs h4; subst this
  refine ka δ _ h0 G0 H0 G H σ ts _ R0 fun u G1 H1 R1 => ?_
  have hu:=R1.B8 _ (.head _)
  rw [Du] at hu
  exact ⟨z,hu,k _ _ R1.drop⟩
def SO(ha:DT X a fa):DT X (.UnaryOp .Not a pos) (fun δ=>(fa δ).map fun c=>!c):=by
 obtain⟨ta,pa,ka⟩:=ha;refine⟨_,Gf pa,fun δ z hz G0 H0 G H σ ts Q R0 k=>?_⟩;obtain⟨i,h3,rfl⟩:=aG.mp hz;exact ka δ _ h3 G0 H0 G H σ ts _ R0 fun G1 H1 R1=>k _ _ R1
def SJ{op:BoolOp}(ha:DT X a fa):DW X (.BoolOp op [a] pos) fa:=by
 obtain⟨ta,pa,ka⟩:=ha;cases op
 ·exact⟨_,bq pa,ka⟩
 ·exact⟨_,KH pa,ka⟩
def Mn{rest:List Expr}(ha:DT X a fa)(hb:DW X (.BoolOp .Or (b::rest) pos) fb):DW X (.BoolOp .Or (a::b::rest) pos) (fun δ=>(fa δ).bind fun c=>if c=true then some true else fb δ):=by
 obtain⟨ta,pa,ka⟩:=ha;obtain⟨tb,pb,kb⟩:=hb;refine⟨_,Kv pa pb,fun δ z hz G0 H0 G H σ ts Q R0 k=>?_⟩;obtain⟨i,h3,h4⟩:=aB.mp hz;refine ka δ _ h3 G0 H0 G H σ ts _ R0 fun G1 H1 R1=>?_;split
 ·rename_i hc;rw [if_pos hc]at h4;cases h4;exact k _ _ R1
 ·rename_i hc;rw [if_neg hc]at h4;exact kb δ z h4 G0 H0 G1 H1 σ ts Q R1 k
variable{fs:Dv→Option (List PD)}
def AE:DA X [] (fun _=>some []):=⟨_,AR,fun δ xs h G0 H0 G H σ ts Q R0 k=>by cases h;exact k [] G H (by simpa using R0) rfl⟩
def AA(ha:DE X e f)(hr:DA X es fs)(hs:starEach (e::es) X.env=(false,eval e X.env)::starEach es X.env:=by rfl):DA X (e::es) (fun δ=>(f δ).bind fun x=>(fs δ).map fun xs=>x::xs):=by
 obtain⟨ta,pa,ka⟩:=ha;obtain⟨tr,pr,kr⟩:=hr;refine⟨_,AI pa pr hs,fun δ z hz G0 H0 G H σ ts Q R0 k=>?_⟩;obtain⟨x,h1,h2⟩:=aB.mp hz;obtain⟨xs,h3,rfl⟩:=aG.mp h2;refine ka δ x h1 G0 H0 G H σ ts _ R0 fun u G1 H1 R1=>?_;refine kr δ xs h3 G0 H0 G1 H1 σ _ _ R1 fun vs G2 H2 R2 hl=>?_;refine k (u::vs) G2 H2 (R2.less fun q hq=>?_) (by simp [hl]);simp only [List.zip_cons_cons,List.cons_append,List.mem_cons,List.mem_append]at hq ⊢;rcases hq with h|h|h
 ·exact .inr (.inl h)
 ·exact .inl h
 ·exact .inr (.inr h)
def Wd{G:Hp}:∀ {xs:List PD} {vs:List V},vs.length=xs.length→(∀q∈xs.zip vs,Du G q.1 q.2)→Ao G xs vs
 |[],vs,hl,_=>by rw [List.eq_nil_of_length_eq_zero hl];exact .nil
 |x::xs,[],hl,_=>by simp at hl
 |x::xs,v::vs,hl,h=>.cons (h (x,v) (by simp)) (Wd (by simpa using hl) fun q hq=>h q (by simp [hq]))
def Rw.args{G0 H0 G H:Hp}{σ:St}{δ:Dv}{ts:List (PD×V)}{xs:List PD}{vs:List V}(r:Rw G0 H0 G H σ δ (xs.zip vs++ts))(hl:vs.length=xs.length):Ao G xs vs∧Rw G0 H0 G H σ δ ts :=
 ⟨Wd hl fun q hq=>r.B8 q (bL _ hq),r.less fun q hq=>aS _ hq⟩
def Rw.N0{G0 H0 G H:Hp}{σ:St}{δ:Dv}{ts:List (PD×V)}{xs:List PD}{vs:List V}{p:AD}(r:Rw G0 H0 G H σ δ ts)(d:Ao G xs vs)(hp:H p=none):Rw G0 H0 (upd G p (.lst vs)) (upd H p (.lst vs)) σ δ ((.list xs,.ref p)::ts):=by
 refine(r.newObj hp).put ?_;have e:AK G (upd G p (.lst vs)):=fun a o h=>by rw [AJ (AU (r.ins _ _ h) hp)];exact h
 rw [Du];exact⟨p,vs,rfl,AL,d.same e⟩
def Rw.Yk{G0 H0 G H:Hp}{σ:St}{δ:Dv}{ts:List (PD×V)}{xs:List PD}{vs:List V}{p:AD}(r:Rw G0 H0 G H σ δ ts)(d:Ao G xs vs)(hp:H p=none):Rw G0 H0 (upd G p (.tup vs)) (upd H p (.tup vs)) σ δ ((.tuple xs,.ref p)::ts):=by
 refine(r.newObj hp).put ?_;have e:AK G (upd G p (.tup vs)):=fun a o h=>by rw [AJ (AU (r.ins _ _ h) hp)];exact h
 rw [Du];exact⟨p,vs,rfl,AL,d.same e⟩
def Jp(xs:List PD):Option (List PD):=if xs.length≤DH then some xs else none
def PJ{xs ys:List PD}(h:Jp xs=some ys):xs=ys∧xs.length≤DH:=by
 unfold Jp at h;split at h
 ·rename_i q;cases h;exact⟨rfl,q⟩
 ·cases h
def AW{x1}(ha:DA X es fs):DE X (.Tuple es x1 pos) (fun δ=>((fs δ).bind Jp).map .tuple):=by
 obtain⟨ta,pa,ka⟩:=ha;refine⟨_,Ip pa,fun δ z hz G0 H0 G H σ ts Q R0 k=>?_⟩;obtain⟨ys,h1,rfl⟩:=aG.mp hz;obtain⟨xs,h2,h3⟩:=aB.mp h1;obtain⟨rfl,hl⟩:=PJ h3;refine ka δ _ h2 G0 H0 G H σ ts _ R0 fun vs G1 H1 R1 hv=>?_;obtain⟨d,R2⟩:=R1.args hv;exact⟨Fh (by rw [hv];exact hl),fun q hq=>k _ _ _ (R2.Yk d hq)⟩
def A3(ha:DA X es fs):DE X (.List es pos) (fun δ=>((fs δ).bind Jp).map .list):=by
 obtain⟨ta,pa,ka⟩:=ha;refine⟨_,FF pa,fun δ z hz G0 H0 G H σ ts Q R0 k=>?_⟩;obtain⟨ys,h1,rfl⟩:=aG.mp hz;obtain⟨xs,h2,h3⟩:=aB.mp h1;obtain⟨rfl,hl⟩:=PJ h3;refine ka δ _ h2 G0 H0 G H σ ts _ R0 fun vs G1 H1 R1 hv=>?_;obtain⟨d,R2⟩:=R1.args hv;exact⟨Fh (by rw [hv];exact hl),fun q hq=>k _ _ _ (R2.N0 d hq)⟩
def Ao.E8{H:Hp}{ds:List PD}{xs:List V}{i:Int}{d:PD}(h:Ao H ds xs)(e:E8 ds i=some d):∃v,E8 xs i=some v∧Du H d v:=by
 unfold L2.E8 at e ⊢;rw [h.len];obtain⟨j,h1,h2⟩:=aB.mp e;obtain⟨v,h3,h4⟩:=h.get h2;exact⟨v,by rw [h1];exact h3,h4⟩
def Qc{G:Hp}:∀ns:List Int,Ao G (ns.map .int) (ns.map V.int)
 |[]=>.nil
 |n::ns=>.cons (by rw [Du]) (Qc ns)
def Ce:PD→PD→Option PD:=fun x y=>match x,y with
 |.list xs,.int i=>E8 xs i
 |.tuple xs,.int i=>E8 xs i
 |.dict [(.none,.list xs)],.int i=>E8 xs i
 |.str z,.int i=>if z.length≤DH then(E8 z.cps.toList i).map fun c=>.str ⟨#[c]⟩ else none
 |_,_=>none
def Bl(ha:DE X a f)(hb:DE X b g)(hs:Px b):DE X (.Subscript a b pos) (Ag Ce f g):=by
 obtain⟨ta,pa,ka⟩:=ha;obtain⟨tb,pb,kb⟩:=hb;refine⟨_,C8 eW pa pb hs,fun δ z hz G0 H0 G H σ ts Q R0 k=>?_⟩;obtain⟨x,y,h1,h2,h3⟩:=two (x:=.none) (y:=.none) hz;refine ka δ x h1 G0 H0 G H σ ts _ R0 fun u G1 H1 R1=>?_;refine kb δ y h2 G0 H0 G1 H1 σ _ _ R1 fun v G2 H2 R2=>?_;have du:=R2.B8 (x,u) (.tail _ (.head _));have dv:=R2.B8 (y,v) (.head _);unfold Ce at h3;split at h3
 ·rw [Du]at du;rw [Du]at dv;obtain⟨p,xs,rfl,h4,h5⟩:=du;obtain⟨w,h6,h7⟩:=h5.E8 h3;exact .inl ⟨p,xs,_,w,rfl,dv,Al.of (R2.ins _ _ h4),h6,k _ _ _ (R2.drop.drop.put h7)⟩
 ·rw [Du]at du;rw [Du]at dv;obtain⟨p,xs,rfl,h4,h5⟩:=du;obtain⟨w,h6,h7⟩:=h5.E8 h3;exact .inr (.inl ⟨p,xs,_,w,rfl,dv,A7.of (R2.ins _ _ h4),h6,k _ _ _ (R2.drop.drop.put h7)⟩)
 ·rw [Du]at du;rw [Du]at dv;rcases du with ⟨ea,C,e1,_⟩|⟨p,ns,e1,rfl,h4⟩|z
  rotate_left 2
  ·rw [Kl]at z;cases z.1
  ·simp at e1
  ·obtain rfl:_=ns.map PyData.int:=by simpa using e1
   obtain⟨w,h6,h7⟩:=(Qc (G:=_) ns).E8 h3;exact .inl ⟨p,_,_,w,rfl,dv,.inl (h4.same R2.ins),h6,k _ _ _ (R2.drop.drop.put h7)⟩
 ·rw [Du]at du;rw [Du]at dv;split at h3
  ·rename_i hl;obtain⟨ch,h6,rfl⟩:=aG.mp h3;exact .inr (.inr ⟨_,_,ch,du,dv,Fh hl,h6,k _ _ _ (R2.drop.drop.put (by rw [Du]))⟩)
  ·cases h3
 ·cases h3
end
def BE(g:MD):Sp:=fun vs H Q _=>∃ds x G,g ds=some x∧Ao G ds vs∧AK G H∧∀v G' H',AK G G'→Nw G H G'→AK G' H'→AK H H'→Du G' x v→Q v H'
section
variable{X:Cx}{a b c e:Expr}{es:List Expr}{f g h:Dv→Option PD}{fs:Dv→Option (List PD)}{pos p:Pos}
def Aa{k:Nat}{fA:AD}{fd:FuncData}{ps:List Str}{m:MD}{x:Str}{st:Stmt}(T:Fn X.K X.mg x st ps fA fd)(F:AM X.prog X.w X.K X.mg X.base Ab k fA fd ps (BE m))(hr:Dl k X.A)(hg:Gl X x)(ha:DA X (e::es) fs)
 (hdb:(x==("__debug__" : Str))=false:=by decide)(he:starEach (e::es) X.env=(false,eval e X.env)::starEach es X.env:=by rfl)(hpl:(backTo pos (starEach es X.env)).any (·.1)=false:=by rfl) :
  DE X (.Call (.Name x p) (e::es) [] pos) (fun δ=>(fs δ).bind m):=by
 obtain⟨ta,pa,ka⟩:=ha;refine⟨_,B4 T F hr hg pa hdb he hpl,fun δ z hz G0 H0 G H σ ts Q R0 k=>?_⟩;obtain⟨xs,h1,h2⟩:=aB.mp hz;refine ka δ _ h1 G0 H0 G H σ ts _ R0 fun vs G1 H1 R1 hv=>?_;obtain⟨d,R2⟩:=R1.args hv;refine⟨xs,z,G1,h2,by rw [List.append_nil];exact d,R2.ins,fun v G' H' h3 h4 h5 h6 h7=>?_⟩;exact k _ _ _ ((R2.lift h3 h4 h5 h6).put h7)
def Kn(X:Cx)(v:VL)(o:MD):Prop:=∃r,D4 X v r∧∀xs z,o xs=some z→∀G0 H0 G H σ δ ts us (Q:VK),Rw G0 H0 G H σ δ ts→Ao G xs us→(∀w G' H',Rw G0 H0 G' H' σ δ ((z,w)::ts)→Q w H')→r us H Q
def CT{x:Str}{id:String}{o:MD}(hc:Kn X (.builtin id) o)(hg:Gl X x)(hm:X.mg x=none)(hv:bootBuiltins x=some (.builtin id))(ha:DA X (e::es) fs)(hn:x ≠ "__name__" := by decide)(hdb:(x==("__debug__" : Str))=false:=by decide)
 (he:starEach (e::es) X.env=(false,eval e X.env)::starEach es X.env:=by rfl)(hpl:(backTo pos (starEach es X.env)).any (·.1)=false:=by rfl):DE X (.Call (.Name x p) (e::es) [] pos) (fun δ=>(fs δ).bind o):=by
 obtain⟨r,hr,kr⟩:=hc;obtain⟨ta,pa,ka⟩:=ha;refine⟨_,BL hr hg hm hv pa hn hdb he hpl,fun δ z hz G0 H0 G H σ ts Q R0 k=>?_⟩;obtain⟨xs,h1,h2⟩:=aB.mp hz;refine ka δ _ h1 G0 H0 G H σ ts _ R0 fun vs G1 H1 R1 hv=>?_;obtain⟨d,R2⟩:=R1.args hv;exact kr xs z h2 G0 H0 G1 H1 σ δ ts vs Q R2 d k
def Hd{x:Str}{T:String}{o:MD}(hc:Kn X (.type T) o)(hg:Gl X x)(hm:X.mg x=none)(hv:bootBuiltins x=some (.type T))(ha:DA X (e::es) fs)(hn:x ≠ "__name__" := by decide)(hdb:(x==("__debug__" : Str))=false:=by decide)
 (he:starEach (e::es) X.env=(false,eval e X.env)::starEach es X.env:=by rfl)(hpl:(backTo pos (starEach es X.env)).any (·.1)=false:=by rfl):DE X (.Call (.Name x p) (e::es) [] pos) (fun δ=>(fs δ).bind o):=by
 obtain⟨r,hr,kr⟩:=hc;obtain⟨ta,pa,ka⟩:=ha;refine⟨_,QQ hr hg hm hv pa hn hdb he hpl,fun δ z hz G0 H0 G H σ ts Q R0 k=>?_⟩;obtain⟨xs,h1,h2⟩:=aB.mp hz;refine ka δ _ h1 G0 H0 G H σ ts _ R0 fun vs G1 H1 R1 hv=>?_;obtain⟨d,R2⟩:=R1.args hv;exact kr xs z h2 G0 H0 G1 H1 σ δ ts vs Q R2 d k
def Ao.Gs{H:Hp}{d:PD}{xs:List V}(h:Ao H [d] xs):∃x,xs=[x]∧Du H d x:=by
 obtain⟨x,r,rfl,h1,h2⟩:=h.un;rw [h2.nil_eq];exact⟨x,rfl,h1⟩
def Ao.Uo{H:Hp}{d e:PD}{xs:List V}(h:Ao H [d,e] xs):∃x y,xs=[x,y]∧Du H d x∧Du H e y:=by
 obtain⟨x,r,rfl,h1,h2⟩:=h.un;obtain⟨y,rfl,h3⟩:=h2.Gs;exact⟨x,y,rfl,h1,h3⟩
def FR:MD
 |[.list xs]=>some (.int xs.length)
 |[.tuple xs]=>some (.int xs.length)
 |[.dict [(.none,.list xs)]]=>some (.int xs.length)
 |_=>none
def F0:Kn X (.builtin "len") FR:=by
 refine⟨_,Bx,fun xs z hz G0 H0 G H σ δ ts us Q R0 d k=>?_⟩;unfold FR at hz;split at hz
 ·cases hz;obtain⟨u,rfl,du⟩:=d.Gs;rw [Du]at du;obtain⟨p,ys,rfl,h4,h5⟩:=du;refine⟨p,ys,rfl,.inl (Al.of (R0.ins _ _ h4)),?_⟩;rw [h5.len];exact k _ _ _ (R0.put (by rw [Du]))
 ·cases hz;obtain⟨u,rfl,du⟩:=d.Gs;rw [Du]at du;obtain⟨p,ys,rfl,h4,h5⟩:=du;refine⟨p,ys,rfl,.inr (A7.of (R0.ins _ _ h4)),?_⟩;rw [h5.len];exact k _ _ _ (R0.put (by rw [Du]))
 ·cases hz;obtain⟨u,rfl,du⟩:=d.Gs;rw [Du]at du;rcases du with ⟨ea,C,e1,_⟩|⟨p,ns,e1,rfl,h4⟩|z
  rotate_left 2
  ·rw [Kl]at z;cases z.1
  ·simp at e1
  ·obtain rfl:_=ns.map PyData.int:=by simpa using e1
   refine⟨p,_,rfl,.inl (.inl (h4.same R0.ins)),?_⟩;rw [List.length_map]at k ⊢;exact k _ _ _ (R0.put (by rw [Du]))
 ·cases hz
def LF:MD
 |[.list xs]=>some (.tuple xs)
 |[.tuple xs]=>some (.tuple xs)
 |_=>none
def Rq:Kn X (.type "tuple") LF:=by
 refine⟨_,Q4,fun xs z hz G0 H0 G H σ δ ts us Q R0 d k=>?_⟩;unfold LF at hz;split at hz
 ·cases hz;obtain⟨u,rfl,du⟩:=d.Gs;rw [Du]at du;obtain⟨p,ys,rfl,h4,h5⟩:=du;exact⟨p,ys,rfl,.inl ⟨Al.of (R0.ins _ _ h4),fun l hl=>k _ _ _ (R0.Yk h5 hl)⟩⟩
 ·cases hz;obtain⟨u,rfl,du⟩:=d.Gs;have du':=du;rw [Du]at du;obtain⟨p,ys,rfl,h4,h5⟩:=du;exact⟨p,ys,rfl,.inr ⟨A7.of (R0.ins _ _ h4),k _ _ _ (R0.put du')⟩⟩
 ·cases hz
def G7:MD
 |[.list xs]=>some (.list xs)
 |[.tuple xs]=>some (.list xs)
 |_=>none
def PY:Kn X (.type "list") G7:=by
 refine⟨_,SF,fun xs z hz G0 H0 G H σ δ ts us Q R0 d k=>?_⟩;unfold G7 at hz;split at hz
 ·cases hz;obtain⟨u,rfl,du⟩:=d.Gs;rw [Du]at du;obtain⟨p,ys,rfl,h4,h5⟩:=du;exact⟨p,ys,rfl,.inl (Al.of (R0.ins _ _ h4)),fun l hl=>k _ _ _ (R0.N0 h5 hl)⟩
 ·cases hz;obtain⟨u,rfl,du⟩:=d.Gs;rw [Du]at du;obtain⟨p,ys,rfl,h4,h5⟩:=du;exact⟨p,ys,rfl,.inr (A7.of (R0.ins _ _ h4)),fun l hl=>k _ _ _ (R0.N0 h5 hl)⟩
 ·cases hz
def Du.ty{K:Fg}{H:Hp}:∀ {d:PD} {v:V},(∀kv,d≠.dict kv)→Du H d v→GB K H v (.type (N7 d))∧∀kv,d≠.dict kv
 |.none,_,_,h=>by rw [Du]at h;subst h;exact⟨.Bb,by simp⟩
 |.bool _,_,_,h=>by rw [Du]at h;subst h;exact⟨.bl _,by simp⟩
 |.int _,_,_,h=>by rw [Du]at h;subst h;exact⟨.int _,by simp⟩
 |.str _,_,_,h=>by rw [Du]at h;subst h;exact⟨.str _,by simp⟩
 |.tuple _,_,_,h=>by rw [Du]at h;obtain⟨a,xs,rfl,h1,_⟩:=h;exact⟨.tup h1,by simp⟩
 |.list _,_,_,h=>by rw [Du]at h;obtain⟨a,xs,rfl,h1,_⟩:=h;exact⟨.lst h1,by simp⟩
 |.dict _,_,n,h=>absurd rfl (n _)
def WA(q:PD→Bool):PD→Option PD
 |.dict _=>none
 |x=>some (.bool (q x))
def bc{q:PD→Bool}{x z:PD}(h:WA q x=some z):(∀kv,x≠.dict kv)∧z=.bool (q x):=by
 unfold WA at h;split at h
 ·cases h
 ·rename_i n;cases h;exact⟨fun kv e=>n kv e,rfl⟩
def Th{T:String}{q:PD→Bool}{xT:Str}{p1 p2:Pos}(hk:∀d:PD,(∀kv,d≠.dict kv)→PySem.W.kitOne X.K (.type (N7 d)) (.type T)=some (q d))(hg:Gl X "isinstance")(hm:X.mg "isinstance" = none)(hgT:Gl X xT)(hmT:X.mg xT=none)(hvT:bootBuiltins xT=some (.type T))(ha:DE X a f)
 (hnT:xT ≠ "__name__" := by decide)(hdT:(xT==("__debug__" : Str))=false:=by decide)(hs1:starEach [a,.Name xT p2] X.env=(false,eval a X.env)::starEach [.Name xT p2] X.env:=by rfl)(hpl:(backTo pos (starEach [.Name xT p2] X.env)).any (·.1)=false:=by rfl) :
  DE X (.Call (.Name "isinstance" p1) [a,.Name xT p2] [] pos) (fun δ=>(f δ).bind (WA q)):=by
 obtain⟨ta,pa,ka⟩:=ha;have pT:PE X (.Name xT p2) (tC (.ty T)):=G8 hgT hmT hvT rfl hnT hdT;refine⟨_,BL F9 hg hm au (AI pa (AI pT AR) hs1) (by decide) (by decide) hs1 hpl,fun δ z hz G0 H0 G H σ ts Q R0 k=>?_⟩;obtain⟨x,h1,h2⟩:=aB.mp hz;obtain⟨n1,rfl⟩:=bc h2;refine ka δ _ h1 G0 H0 G H σ ts _ R0 fun u G1 H1 R1=>?_;have du:=R1.B8 _ (.head _);obtain⟨t1,t2⟩:=(du.same R1.ins).ty (K:=X.K) n1;exact⟨u,.ty T,_,q x,rfl,by simp [QC],t1,hk x t2,k _ _ _ (R1.drop.put (by rw [Du]))⟩
end
inductive Ou where
 |nx (δ:Dv)|rt (x:PyData)|bk (δ:Dv)|ct (δ:Dv)|rn (xs:List PyData)
def Fin(G0 H0:Hp)(D:Ends):Ou→Prop
 |.nx δ=>∀σ G H,Rw G0 H0 G H σ δ []→D.nx σ H
 |.rt x=>∀v G H,AK G0 G→Nw G0 H0 G→AK G H→AK H0 H→Du G x v→D.rt v H
 |.bk δ=>∀σ G H,Rw G0 H0 G H σ δ []→D.bk σ H
 |.ct δ=>∀σ G H,Rw G0 H0 G H σ δ []→D.ct σ H
 |.rn xs=>∀a ys G H,AK G0 G→Nw G0 H0 G→AK G H→AK H0 H→H0 a=none→G a=none→H a=some (.lst ys)→Ao G xs ys→D.rt (.ref a) H
abbrev DF:=Dv→Option Ou
def DS(X:Cx)(st:Stmt)(F:DF):Prop:=∃t,PS X st t∧∀δ r,F δ=some r→∀G0 H0 G H σ D,Rw G0 H0 G H σ δ []→Fin G0 H0 D r→t D σ H
def Qq(X:Cx)(st:List Stmt)(F:DF):Prop:=∃t,JR X st t∧∀δ r,F δ=some r→∀G0 H0 G H σ D,Rw G0 H0 G H σ δ []→Fin G0 H0 D r→t D σ H
def Aj(F1 F2:DF)(δ:Dv):Option Ou:=match F1 δ with
 |some (.nx δ')=>F2 δ'
 |o=>o
section
variable{X:Cx}{a b c e:Expr}{es:List Expr}{f g h:Dv→Option PD}{fs:Dv→Option (List PD)}{fa:Dv→Option Bool}{pos p:Pos}{st:Stmt}{sts sts':List Stmt}{F F1 F2:DF}
def CB:Qq X [] (fun δ=>some (.nx δ)):=⟨_,CI,fun δ r h G0 H0 G H σ D R k=>by cases h;exact k _ _ _ R⟩
def AN(h1:DS X st F1)(h2:Qq X sts F2):Qq X (st::sts) (Aj F1 F2):=by
 obtain⟨t1,p1,k1⟩:=h1;obtain⟨t2,p2,k2⟩:=h2;refine⟨_,AY p1 p2,fun δ r h G0 H0 G H σ D R k=>?_⟩;unfold Aj at h;split at h
 ·rename_i δ' e1;exact k1 δ _ e1 G0 H0 G H σ _ R fun σ' G' H' R'=>k2 δ' r h G0 H0 G' H' σ' D R' k
 ·rename_i hne;refine k1 δ r h G0 H0 G H σ _ R ?_;cases r with
  |nx δ'=>exact absurd h (hne δ')
  |rt x=>exact k
  |bk δ'=>exact k
  |ct δ'=>exact k
  |rn xs=>exact k
def AX(h1:DS X st F1):Qq X [st] F1:=by
 obtain⟨t1,p1,k1⟩:=h1;exact⟨_,Ah p1,k1⟩
def Nj:DS X st (fun _=>none):=⟨_,SG,fun _ _ h=>by cases h⟩
def BB(he:DE X e f):DS X (.Return (some e) pos) (fun δ=>(f δ).map .rt):=by
 obtain⟨t,p,k⟩:=he;refine⟨_,BU p,fun δ r h G0 H0 G H σ D R q=>?_⟩;obtain⟨x,h1,rfl⟩:=aG.mp h;exact k δ x h1 G0 H0 G H σ [] _ R fun v G' H' R'=>q v G' H' R'.ext R'.new R'.ins R'.keep (R'.B8 _ (.head _))
def Mb(he:DE X e f)(hs:swapsWith e none pos.line X.env=pure false:=by rfl):DS X (.Expr e pos) (fun δ=>(f δ).map fun _=>.nx δ):=by
 obtain⟨t,p,k⟩:=he;refine⟨_,FW p hs,fun δ r h G0 H0 G H σ D R q=>?_⟩;obtain⟨x,h1,rfl⟩:=aG.mp h;exact k δ x h1 G0 H0 G H σ [] _ R fun v G' H' R'=>q _ _ _ R'.drop
def Di(hc:DT X c fa)(h1:Qq X sts F1)(h2:Qq X sts' F2):DS X (.If c sts sts' pos) (fun δ=>(fa δ).bind fun c=>if c=true then F1 δ else F2 δ):=by
 obtain⟨tc,pc,kc⟩:=hc;obtain⟨t1,p1,k1⟩:=h1;obtain⟨t2,p2,k2⟩:=h2;refine⟨_,Dw pc p1 p2,fun δ r h G0 H0 G H σ D R q=>?_⟩;obtain⟨i,h3,h4⟩:=aB.mp h;refine kc δ i h3 G0 H0 G H σ [] _ R fun G' H' R'=>?_;split
 ·rename_i hc;rw [if_pos hc]at h4;exact k1 δ r h4 G0 H0 G' H' σ D R' q
 ·rename_i hc;rw [if_neg hc]at h4;exact k2 δ r h4 G0 H0 G' H' σ D R' q
end
section
variable{G0 H0 G H:Hp}{σ:St}{δ:Dv}{ts:List (PD×V)}
def Rw.Ir{i:Nat}{x:PD}{v:V}(r:Rw G0 H0 G H σ δ ((x,v)::ts)):Rw G0 H0 G H (σ.set i (some v)) (δ.set i (.d x)) ts:=by
 have hl:=r.len;refine⟨r.ext,r.new,r.ins,r.keep,by simp [hl],fun j y h=>?_,fun j ys h=>?_,fun j l ys zs hjl h1 h2=>?_,fun q hq=>r.B8 q (.tail _ hq)⟩
 ·by_cases hj:i=j
  ·subst hj;by_cases hi:i<δ.length
   ·rw [List.getElem?_set_self hi]at h;cases h;exact⟨v,by rw [List.getElem?_set_self (by omega)],r.B8 _ (.head _)⟩
   ·rw [List.getElem?_eq_none (by simp;omega)]at h;cases h
  ·rw [List.getElem?_set_ne hj]at h;obtain⟨w,k1,k2⟩:=r.dat j y h;exact⟨w,by rw [List.getElem?_set_ne hj];exact k1,k2⟩
 ·by_cases hj:i=j
  ·subst hj;by_cases hi:i<δ.length
   ·rw [List.getElem?_set_self hi]at h;cases h
   ·rw [List.getElem?_eq_none (by simp;omega)]at h;cases h
  ·rw [List.getElem?_set_ne hj]at h;obtain⟨w,k1,k2,k3⟩:=r.own j ys h;exact⟨w,k1,by rw [List.getElem?_set_ne hj];exact k2,k3⟩
 ·have nj:i≠j:=fun z=>by
   subst z;by_cases hi:i<δ.length
   ·rw [List.getElem?_set_self hi]at h1;cases h1
   ·rw [List.getElem?_eq_none (by simp;omega)]at h1;cases h1
  have nl:i≠l:=fun z=>by
   subst z;by_cases hi:i<δ.length
   ·rw [List.getElem?_set_self hi]at h2;cases h2
   ·rw [List.getElem?_eq_none (by simp;omega)]at h2;cases h2
  rw [List.getElem?_set_ne nj]at h1 ⊢;rw [List.getElem?_set_ne nl]at h2 ⊢;exact r.apart j l ys zs hjl h1 h2
end
section
variable{X:Cx}{e:Expr}{f:Dv→Option PD}{pos p:Pos}
def Ax{i:Nat}{x:Str}{pos':Pos}(hN:X.N.Nodup)(hi:X.N[i]? = some x)(hx:Loc X.env.scope x)(he:DE X e f)(hs:swapsWith e (some (.Name x pos')) pos.line X.env=pure false:=by rfl)(hf:X.fn x=true∨X.env.scope.names.lookup x=some .local:=by first|exact .inl rfl|exact .inr rfl|assumption) :
  DS X (.Assign [.Name x pos'] e pos) (fun δ=>(f δ).map fun y=>.nx (δ.set i (.d y))):=by
 obtain⟨t,p,k⟩:=he;refine⟨_,BK hN hi hx p hs hf,fun δ r h G0 H0 G H σ D R q=>?_⟩;obtain⟨y,h1,rfl⟩:=aG.mp h;exact k δ y h1 G0 H0 G H σ [] _ R fun v G' H' R'=>q _ _ _ R'.Ir
end
section
variable{G0 H0 G H:Hp}{σ:St}{δ:Dv}{ts:List (PD×V)}
def Rw.base(r:Rw G0 H0 G H σ δ ts):Rw G H0 G H σ δ ts:={ r with ext:=AK.refl G,new:=fun _ _ h=>.inl h }
def Nw.trans{G1 G2:Hp}(a:Nw G0 H0 G1)(b:Nw G1 H0 G2):Nw G0 H0 G2:=fun c o h=>by
 rcases b c o h with z|z|z
 ·exact a c o z
 ·exact .inr (.inl z)
 ·exact .inr (.inr z)
def Rw.RZ{G' H':Hp}{σ':St}{δ':Dv}{ts':List (PD×V)}(r:Rw G0 H0 G H σ δ ts)(q:Rw G H0 G' H' σ' δ' ts'):Rw G0 H0 G' H' σ' δ' ts':={ q with ext:=r.ext.trans q.ext,new:=r.new.trans q.new }
def Fu(i:Nat)(δ:Dv):Dv:=match δ[i]? with
 |some (.own (.lst xs))=>δ.set i (.d (.list xs))
 |some (.own (.X5 kvs))=>δ.set i (.d (Vb kvs))
 |_=>δ
def Rw.letGo{i:Nat}{c:Oc}{x:PD}(r:Rw G0 H0 G H σ δ ts)(hi:δ[i]? = some (.own c))(hx:∀a o,G a=none→Hm G a c o→Du (upd G a o) x (.ref a)):∃a o,σ[i]? = some (some (.ref a))∧G a=none∧H0 a=none∧H a=some o∧Hm G a c o∧Rw G0 H0 (upd G a o) H σ (δ.set i (.d x)) ts:=by
 obtain⟨a,o,k1,k2,k3,k4,k5⟩:=r.own i _ hi;have e:AK G (upd G a o):=AZ k2 _;have hlt:i<δ.length:=(aD.mp hi).1;refine⟨a,o,k1,k2,k3,k4,k5,r.ext.trans e,fun b o' h=>?_,fun b o' h=>?_,r.keep,by simp [r.len],fun j y h=>?_,fun j zs h=>?_,fun j l us ws hjl h1 h2=>?_,fun q hq=>(r.B8 q hq).same e⟩
 ·by_cases hb:b=a
  ·subst hb;exact .inr (.inl k3)
  ·rw [AJ hb]at h;exact r.new _ _ h
 ·by_cases hb:b=a
  ·subst hb;rw [AL]at h;rw [k4];exact h
  ·rw [AJ hb]at h;exact r.ins _ _ h
 ·by_cases hj:i=j
  ·subst hj;rw [List.getElem?_set_self hlt]at h;cases h;exact⟨.ref a,k1,hx a o k2 k5⟩
  ·rw [List.getElem?_set_ne hj]at h;obtain⟨w,m1,m2⟩:=r.dat j y h;exact⟨w,m1,m2.same e⟩
 ·by_cases hj:i=j
  ·subst hj;rw [List.getElem?_set_self hlt]at h;cases h
  ·rw [List.getElem?_set_ne hj]at h;obtain⟨b,us,m1,m2,m3,m4,m5⟩:=r.own j zs h;have nb:b≠a:=fun z=>by subst z;exact r.apart i j _ zs hj hi h (by rw [k1,m1])
   exact⟨b,us,m1,by rw [AJ nb];exact m2,m3,m4,m5.same e⟩
 ·have nj:i≠j:=fun z=>by subst z;rw [List.getElem?_set_self hlt]at h1;cases h1
  have nl:i≠l:=fun z=>by subst z;rw [List.getElem?_set_self hlt]at h2;cases h2
  rw [List.getElem?_set_ne nj]at h1;rw [List.getElem?_set_ne nl]at h2;exact r.apart j l us ws hjl h1 h2
def dj{a:AD}{o:HO}{xs:List PD}(hG:G a=none)(h:Hm G a (.lst xs) o):Du (upd G a o) (.list xs) (.ref a):=by
 obtain⟨ys,rfl,k5⟩:=h;rw [Du];exact⟨a,ys,rfl,AL,k5.same (AZ hG _)⟩
def gq{a:AD}{o:HO}{kvs:List (Option Tr×PD)}(hG:G a=none)(h:Hm G a (.X5 kvs) o):Du (upd G a o) (Vb kvs) (.ref a):=by
 obtain⟨r,rfl,n,k5⟩:=h;rw [Du,Kl];exact .inr (.inr ⟨rfl,rfl,a,r,rfl,AL,n,Lc.same (AZ hG _) k5⟩)
def Rw.Fu(i:Nat)(r:Rw G0 H0 G H σ δ ts):∃G',Rw G0 H0 G' H σ (L2.Fu i δ) ts:=by
 unfold L2.Fu;split
 ·rename_i xs hi;obtain⟨a,o,_,_,_,_,_,R⟩:=r.letGo (x:=.list xs) hi fun a o h=>dj h;exact⟨_,R⟩
 ·rename_i kvs hi;obtain⟨a,o,_,_,_,_,_,R⟩:=r.letGo (x:=Vb kvs) hi fun a o h=>gq h;exact⟨_,R⟩
 ·exact⟨G,r⟩
def Rw.iM{i:Nat}{xs:Oc}{ys:HO}{a:AD}(r:Rw G0 H0 G H σ δ ts)(d:Hm G a xs ys)(ha:H a=none):Rw G0 H0 G (upd H a ys) (σ.set i (some (.ref a))) (δ.set i (.own xs)) ts:=by
 have hG:G a=none:=by
  cases q:G a with
  |none=>rfl
  |some u=>rw [r.ins _ _ q]at ha;cases ha
 have h0:H0 a=none:=by
  cases q:H0 a with
  |none=>rfl
  |some u=>rw [r.keep _ _ q]at ha;cases ha
 have e:AK H (upd H a ys):=AZ ha _;have hl:=r.len;have other:∀(j:Nat) (zs:Oc),i≠j→(δ.set i (.own xs))[j]? = some (L.own zs)→δ[j]? = some (L.own zs):=fun j zs hj h=>by rw [List.getElem?_set_ne hj]at h;exact h
 have nota:∀(j:Nat) (zs:Oc),δ[j]? = some (L.own zs)→σ[j]?≠some (some (V.ref a)):=fun j zs h z=>by
  obtain⟨b,us,m1,m2,m3,m4,m5⟩:=r.own j zs h;rw [z]at m1;cases m1;rw [m4]at ha;cases ha
 refine⟨r.ext,r.new,r.ins.trans e,r.keep.trans e,by simp [hl],fun j y h=>?_,fun j zs h=>?_,fun j l us ws hjl h1 h2=>?_,r.B8⟩
 ·by_cases hj:i=j
  ·subst hj;by_cases hi:i<δ.length
   ·rw [List.getElem?_set_self hi]at h;cases h
   ·rw [List.getElem?_eq_none (by simp;omega)]at h;cases h
  ·rw [List.getElem?_set_ne hj]at h;obtain⟨w,m1,m2⟩:=r.dat j y h;exact⟨w,by rw [List.getElem?_set_ne hj];exact m1,m2⟩
 ·by_cases hj:i=j
  ·subst hj;by_cases hi:i<δ.length
   ·rw [List.getElem?_set_self hi]at h;cases h;exact⟨a,ys,by rw [List.getElem?_set_self (by omega)],hG,h0,AL,d⟩
   ·rw [List.getElem?_eq_none (by simp;omega)]at h;cases h
  ·have h:=other j zs hj h;obtain⟨b,us,m1,m2,m3,m4,m5⟩:=r.own j zs h;exact⟨b,us,by rw [List.getElem?_set_ne hj];exact m1,m2,m3,e _ _ m4,m5⟩
 ·by_cases hj:i=j
  ·subst hj;have hl2:i≠l:=hjl;have h2:=other l ws hl2 h2;by_cases hi:i<δ.length
   ·rw [List.getElem?_set_self (by omega),List.getElem?_set_ne hl2];exact fun z=>nota l ws h2 z.symm
   ·rw [List.getElem?_eq_none (by simp;omega)]at h1;cases h1
  ·have h1:=other j us hj h1;by_cases hk:i=l
   ·subst hk;by_cases hi:i<δ.length
    ·rw [List.getElem?_set_self (by omega),List.getElem?_set_ne hj];exact fun z=>nota j us h1 z
    ·rw [List.getElem?_eq_none (by simp;omega)]at h2;cases h2
   ·have h2:=other l ws hk h2;rw [List.getElem?_set_ne hj,List.getElem?_set_ne hk];exact r.apart j l us ws hjl h1 h2
def Rw.Zp{i:Nat}{xs xs':Oc}{ys:HO}{a:AD}(r:Rw G0 H0 G H σ δ ts)(hi:δ[i]? = some (.own xs))(ha:σ[i]? = some (some (.ref a)))(d:Hm G a xs' ys):Rw G0 H0 G (upd H a ys) σ (δ.set i (.own xs')) ts:=by
 obtain⟨a',ys0,k1,k2,k3,k4,k5⟩:=r.own i xs hi;rw [ha]at k1;cases k1;have hlt:i<δ.length:=(aD.mp hi).1;have hl:=r.len;refine⟨r.ext,r.new,fun b o h=>?_,fun b o h=>?_,by simp [hl],fun j y h=>?_,fun j zs h=>?_,fun j l us ws hjl h1 h2=>?_,r.B8⟩
 ·rw [AJ (fun z=>by subst z;rw [k2]at h;cases h)];exact r.ins _ _ h
 ·rw [AJ (fun z=>by subst z;rw [k3]at h;cases h)];exact r.keep _ _ h
 ·by_cases hj:i=j
  ·subst hj;rw [List.getElem?_set_self hlt]at h;cases h
  ·rw [List.getElem?_set_ne hj]at h;exact r.dat j y h
 ·by_cases hj:i=j
  ·subst hj;rw [List.getElem?_set_self hlt]at h;cases h;exact⟨a,ys,ha,k2,k3,AL,d⟩
  ·rw [List.getElem?_set_ne hj]at h;obtain⟨b,us,m1,m2,m3,m4,m5⟩:=r.own j zs h;have nb:b≠a:=fun z=>by subst z;exact r.apart i j xs zs hj hi h (by rw [ha,m1])
   exact⟨b,us,m1,m2,m3,by rw [AJ nb];exact m4,m5⟩
 ·have f:∀(j:Nat) (us:Oc),(δ.set i (.own xs'))[j]? = some (L.own us)→∃us',δ[j]? = some (L.own us'):=fun j us h=>by
   by_cases hj:i=j
   ·subst hj;exact⟨xs,hi⟩
   ·rw [List.getElem?_set_ne hj]at h;exact⟨us,h⟩
  obtain⟨us',h1⟩:=f j us h1;obtain⟨ws',h2⟩:=f l ws h2;exact r.apart j l us' ws' hjl h1 h2
end
section
variable{X:Cx}{a b c e:Expr}{es:List Expr}{f g h:Dv→Option PD}{fs:Dv→Option (List PD)}{fa:Dv→Option Bool}{pos p:Pos}{st:Stmt}{sts sts':List Stmt}{F F1 F2:DF}
def gW(i:Nat)(h1:DS X st F):DS X st (fun δ=>F (Fu i δ)):=by
 obtain⟨t,p,k⟩:=h1;refine⟨t,p,fun δ r h G0 H0 G H σ D R q=>?_⟩;obtain⟨G',R'⟩:=R.Fu i;exact k _ r h G0 H0 G' H σ D R' q
def Sf{i:Nat}{x:Str}{pos' lp:Pos}(hN:X.N.Nodup)(hi:X.N[i]? = some x)(hx:Loc X.env.scope x)(ha:DA X es fs)(hs:swapsWith (.List es lp) (some (.Name x pos')) pos.line X.env=pure false:=by rfl)(hf:X.fn x=true∨X.env.scope.names.lookup x=some .local:=by first|exact .inl rfl|exact .inr rfl|assumption) :
  DS X (.Assign [.Name x pos'] (.List es lp) pos) (fun δ=>((fs δ).bind Jp).map fun ys=>.nx (δ.set i (.own (.lst ys)))):=by
 obtain⟨t,p,k⟩:=ha;refine⟨_,BK hN hi hx (FF p) hs hf,fun δ r h G0 H0 G H σ D R q=>?_⟩;obtain⟨y,h1,rfl⟩:=aG.mp h;obtain⟨xs,h2,h3⟩:=aB.mp h1;obtain⟨rfl,hl⟩:=PJ h3;refine k δ _ h2 G0 H0 G H σ [] _ R fun vs G1 H1 R1 hv=>?_;obtain⟨d,R2⟩:=R1.args hv;exact⟨Fh (by rw [hv];exact hl),fun l hl'=>q _ _ _ (R2.iM ⟨_,rfl,d⟩ hl')⟩
def ow(i:Nat)(δ:Dv):Option (List PD):=match δ[i]? with
 |some (.own (.lst xs))=>some xs
 |_=>none
def O5{i:Nat}{δ:Dv}{xs:List PD}(h:ow i δ=some xs):δ[i]? = some (.own (.lst xs)):=by
 unfold ow at h;split at h
 ·rename_i y e;cases h;exact e
 ·cases h
def Q0{i:Nat}{x:Str}{np ap cp:Pos}(hv:PE X (.Name x np) (N6 i))(he:DE X e f)
 (hP:∀ {to:TE} {t:TA},PE X (.Name x np) to→PA X [e] t→PS X (.Expr (.Call (.Attribute (.Name x np) "append" ap) [e] [] cp) pos) (Vg (fL X.K "list" Uw to t)))(hs1:starEach [e] X.env=(false,eval e X.env)::starEach [] X.env:=by rfl) :
  DS X (.Expr (.Call (.Attribute (.Name x np) "append" ap) [e] [] cp) pos) (fun δ=>(f δ).bind fun y=>(ow i δ).bind fun xs=>if xs.length<DH then some (.nx (δ.set i (.own (.lst (xs++[y]))))) else none):=by
 obtain⟨t,p,k⟩:=he;refine⟨_,hP hv (AI p AR hs1),fun δ r h G0 H0 G H σ D R q=>?_⟩;obtain⟨y,h1,h2⟩:=aB.mp h;obtain⟨xs,h3,h4⟩:=aB.mp h2;split at h4
 ·rename_i hl;cases h4;have hi:=O5 h3;obtain⟨a,_,k1,k2,k3,k4,⟨ys,rfl,k5⟩⟩:=R.own i _ hi;refine⟨.ref a,k1,.inl ⟨rfl,ys,Al.of k4⟩,?_⟩;refine k δ y h1 G0 H0 G H σ [] _ R fun u G1 H1 R1=>?_;obtain⟨a',_,m1,m2,m3,m4,⟨zs,rfl,m5⟩⟩:=R1.own i _ hi;rw [k1]at m1;cases m1;refine⟨a,zs,u,rfl,rfl,m4,Uq (by rw [m5.len];omega),?_⟩;exact q _ _ _ (R1.drop.Zp hi k1 ⟨_,rfl,m5.app (.cons (R1.B8 _ (.head _)) .nil)⟩)
 ·cases h4
def WU{i:Nat}{x:Str}{np ap cp:Pos}(hv:PE X (.Name x np) (N6 i))(he:DE X e f)
 (hP:∀ {to:TE} {t:TA},PE X (.Name x np) to→PA X [e] t→PS X (.Expr (.Call (.Attribute (.Name x np) "extend" ap) [e] [] cp) pos) (Vg (fL X.K "list" U9 to t)))(hs1:starEach [e] X.env=(false,eval e X.env)::starEach [] X.env:=by rfl) :
  DS X (.Expr (.Call (.Attribute (.Name x np) "extend" ap) [e] [] cp) pos) (fun δ=>(f δ).bind fun y=>(ow i δ).bind fun xs=>match y with|.list zs=>(if xs.length+zs.length≤DH then some (.nx (δ.set i (.own (.lst (xs++zs))))) else none)|_=>none):=by
 obtain⟨t,p,k⟩:=he;refine⟨_,hP hv (AI p AR hs1),fun δ r h G0 H0 G H σ D R q=>?_⟩;obtain⟨y,h1,h2⟩:=aB.mp h;obtain⟨xs,h3,h4⟩:=aB.mp h2;split at h4
 ·rename_i zs;split at h4
  ·rename_i hl;cases h4;have hi:=O5 h3;obtain⟨a,_,k1,k2,k3,k4,⟨ys,rfl,k5⟩⟩:=R.own i _ hi;refine⟨.ref a,k1,.inl ⟨rfl,ys,Al.of k4⟩,?_⟩;refine k δ _ h1 G0 H0 G H σ [] _ R fun u G1 H1 R1=>?_;obtain⟨a',_,m1,m2,m3,m4,⟨us,rfl,m5⟩⟩:=R1.own i _ hi;rw [k1]at m1;cases m1;have du:=R1.B8 _ (.head _);rw [Du]at du;obtain⟨b,ws,rfl,n1,n2⟩:=du;refine⟨a,b,us,ws,rfl,rfl,m4,R1.ins _ _ n1,Fh (by rw [m5.len,n2.len];exact hl),?_⟩;exact q _ _ _ (R1.drop.Zp hi k1 ⟨_,rfl,m5.app n2⟩)
  ·cases h4
 ·cases h4
def Ni{i:Nat}{x:Str}{np:Pos}(hv:PE X (.Name x np) (N6 i))(hb:DE X b g)(hs:Px b):DE X (.Subscript (.Name x np) b pos) (fun δ=>(g δ).bind fun y=>(ow i δ).bind fun xs=>(Qh y).bind fun k=>E8 xs k):=by
 obtain⟨tb,pb,kb⟩:=hb;refine⟨_,C8 Pd hv pb hs,fun δ z hz G0 H0 G H σ ts Q R0 k=>?_⟩;obtain⟨y,h1,h2⟩:=aB.mp hz;obtain⟨xs,h3,h4⟩:=aB.mp h2;obtain⟨j,h5,h6⟩:=aB.mp h4;have:=Sj h5;subst this;obtain⟨a,_,k1,k2,k3,k4,⟨ys,rfl,k5⟩⟩:=R0.own i _ (O5 h3);refine⟨.ref a,k1,?_⟩;refine kb δ _ h1 G0 H0 G H σ ts _ R0 fun v G1 H1 R1=>?_;have dv:=R1.B8 _ (.head _);rw [Du]at dv;obtain⟨a',_,m1,m2,m3,m4,⟨us,rfl,m5⟩⟩:=R1.own i _ (O5 h3);rw [k1]at m1;cases m1;obtain⟨w,h7,h8⟩:=m5.E8 h6;exact⟨a,us,j,w,rfl,dv,Al.of m4,h7,k _ _ _ (R1.drop.put h8)⟩
end
structure Ky(J:It)(xs:List PyData)(G:Hp):Prop where
 stop:∀H,AK G H→J.stop xs.length H
 go:∀(i:Nat) (d:PyData) H,xs[i]? = some d→AK G H→J.go i H
 Eh:∀(i:Nat) (d:PyData) H x H',xs[i]? = some d→AK G H→J.Eh i H x H'→∀Gc,AK G Gc→AK Gc H→∃Gc',AK Gc Gc'∧Nw Gc H Gc'∧AK Gc' H'∧AK H H'∧Du Gc' d x
def Nw.refl{G H:Hp}:Nw G H G:=fun _ _ h=>.inl h
def cI{K:Fg}{G:Hp}{a:AD}{ys:List V}{xs:List PD}(ha:G a=some (.lst ys))(d:Ao G xs ys):Ky (U1 K a) xs G where
 stop:=fun H e=>⟨ys,Al.of (e _ _ ha),by rw [d.len];exact aF _⟩
 go:=fun i x H hx e=>by
  obtain⟨v,h1,_⟩:=d.get hx;exact⟨ys,v,Al.of (e _ _ ha),h1⟩
 Eh:=fun i x H v H' hx e y Gc e1 e2=>by
  obtain⟨rfl,y⟩:=y;have h1:=y ys (Al.of (e _ _ ha));obtain⟨x',h2,h3⟩:=d.back h1;rw [hx]at h2;cases h2;exact⟨Gc,AK.refl _,Nw.refl,e2,AK.refl _,h3.same e1⟩
def eI{K:Fg}{G:Hp}{a:AD}{ys:List V}{xs:List PD}(ha:G a=some (.tup ys))(d:Ao G xs ys):Ky (UJ K a) xs G where
 stop:=fun H e=>⟨ys,A7.of (e _ _ ha),by rw [d.len];exact aF _⟩
 go:=fun i x H hx e=>by
  obtain⟨v,h1,_⟩:=d.get hx;exact⟨ys,v,A7.of (e _ _ ha),h1⟩
 Eh:=fun i x H v H' hx e y Gc e1 e2=>by
  obtain⟨rfl,y⟩:=y;have h1:=y ys (A7.of (e _ _ ha));obtain⟨x',h2,h3⟩:=d.back h1;rw [hx]at h2;cases h2;exact⟨Gc,AK.refl _,Nw.refl,e2,AK.refl _,h3.same e1⟩
def Et(lo:Int)(n:Nat):List PD:=(List.range n).map fun k=>.int (lo+(k:Nat))
def Xh{G:Hp}{lo:Int}{n:Nat}:Ky (QY lo n) (Et lo n) G where
 stop:=fun H e=>by show n≤_;simp [Et]
 go:=fun i x H hx e=>by
  have:=(aD.mp hx).1;show i<n
  simpa [Et]using this
 Eh:=fun i x H v H' hx e y Gc e1 e2=>by
  obtain⟨rfl,rfl⟩:=y;unfold Et at hx;rw [List.getElem?_map]at hx;obtain⟨k,h1,rfl⟩:=aG.mp hx;have hk:k=i:=by
   have:=(aD.mp h1).1;rw [List.getElem?_range (by simpa using this)]at h1;cases h1;rfl
  subst hk;exact⟨Gc,AK.refl _,Nw.refl,e2,AK.refl _,by rw [Du]⟩
def SV{Gc H:Hp}{p:AD}{d1 d2:PD}{v1 v2:V}(e2:AK Gc H)(hp:H p=none)(h1:Du Gc d1 v1)(h2:Du Gc d2 v2) :
  ∃Gc',AK Gc Gc'∧Nw Gc H Gc'∧AK Gc' (upd H p (.tup [v1,v2]))∧AK H (upd H p (.tup [v1,v2]))∧Du Gc' (.tuple [d1,d2]) (.ref p):=by
 have hG:Gc p=none:=by
  cases q:Gc p with
  |none=>rfl
  |some u=>rw [e2 _ _ q]at hp;cases hp
 have e:AK Gc (upd Gc p (.tup [v1,v2])):=AZ hG _;refine⟨upd Gc p (.tup [v1,v2]),e,fun a o h=>?_,fun a o h=>?_,AZ hp _,?_⟩
 ·by_cases ha:a=p
  ·subst ha;exact .inr (.inl hp)
  ·rw [AJ ha]at h;exact .inl h
 ·by_cases ha:a=p
  ·subst ha;rw [AL]at h ⊢;exact h
  ·rw [AJ ha]at h ⊢;exact e2 _ _ h
 ·rw [Du];exact⟨p,[v1,v2],rfl,AL,.cons (h1.same e) (.cons (h2.same e) .nil)⟩
def Jj(xs:List PD):List PD:=xs.zipIdx.map fun q=>.tuple [.int (q.2:Nat),q.1]
def Jm{xs:List PD}{i:Nat}{d:PD}(h:(Jj xs)[i]? = some d):∃x,xs[i]? = some x∧d=.tuple [.int (i:Nat),x]:=by
 unfold Jj at h;rw [List.getElem?_map]at h;obtain⟨q,h1,rfl⟩:=aG.mp h;rw [List.getElem?_zipIdx]at h1;obtain⟨x,h2,rfl⟩:=aG.mp h1;exact⟨x,h2,by simp⟩
def Yw{K:Fg}{G:Hp}{a:AD}{ys:List V}{xs:List PD}(ha:G a=some (.tup ys))(d:Ao G xs ys):Ky (fg K a) (Jj xs) G where
 stop:=fun H e=>⟨ys,A7.of (e _ _ ha),by rw [d.len];simp [Jj]⟩
 go:=fun i x H hx e=>by
  obtain⟨x',h0,rfl⟩:=Jm hx;obtain⟨v,h1,_⟩:=d.get h0;exact⟨ys,v,A7.of (e _ _ ha),h1⟩
 Eh:=fun i x H v H' hx e y Gc e1 e2=>by
  obtain⟨x',h0,rfl⟩:=Jm hx;obtain⟨p,u,rfl,hp,rfl,y⟩:=y;have h1:=y ys (A7.of (e _ _ ha));obtain⟨x2,h2,h3⟩:=d.back h1;rw [h0]at h2;cases h2;exact SV e2 hp (by rw [Du]) (h3.same e1)
def ZE{K:Fg}{G:Hp}{a:AD}{ys:List V}{xs:List PD}(ha:G a=some (.lst ys))(d:Ao G xs ys):Ky (UY K a) (Jj xs) G where
 stop:=fun H e=>⟨ys,Al.of (e _ _ ha),by rw [d.len];simp [Jj]⟩
 go:=fun i x H hx e=>by
  obtain⟨x',h0,rfl⟩:=Jm hx;obtain⟨v,h1,_⟩:=d.get h0;exact⟨ys,v,Al.of (e _ _ ha),h1⟩
 Eh:=fun i x H v H' hx e y Gc e1 e2=>by
  obtain⟨x',h0,rfl⟩:=Jm hx;obtain⟨p,u,rfl,hp,rfl,y⟩:=y;have h1:=y ys (Al.of (e _ _ ha));obtain⟨x2,h2,h3⟩:=d.back h1;rw [h0]at h2;cases h2;exact SV e2 hp (by rw [Du]) (h3.same e1)
def DI(X:Cx)(tg iter:Expr)(f:Dv→Option (List PD)):Prop:=∃wi,PI X tg iter wi∧∀δ xs,f δ=some xs→∀G0 H0 G H σ ts (R:It→Hp→Prop),Rw G0 H0 G H σ δ ts→(∀J G' H',Rw G0 H0 G' H' σ δ ts→Ky J xs G'→R J H')→wi σ H R
section
variable{X:Cx}{tg a b c e:Expr}{es:List Expr}{f g h:Dv→Option PD}{fs:Dv→Option (List PD)}{fa:Dv→Option Bool}{pos p:Pos}{st:Stmt}{sts sts':List Stmt}{F F1 F2:DF}
def PI.or{wi wi':TI}(h:PI X tg e wi)(h':PI X tg e wi'):PI X tg e (fun σ H R=>wi σ H R∨wi' σ H R):=fun pins s σ H R I q=>by
 rcases q with q|q
 ·exact h pins s σ H R I q
 ·exact h' pins s σ H R I q
def GX:PD→Option (List PD)
 |.list xs=>some xs
 |.tuple xs=>some xs
 |_=>none
def Cz(he:DE X e f):DI X tg e (fun δ=>(f δ).bind GX):=by
 obtain⟨t,p,k⟩:=he;refine⟨_,(En p).or (Sg p),fun δ xs h G0 H0 G H σ ts R R0 q=>?_⟩;obtain⟨x,h1,h2⟩:=aB.mp h;unfold GX at h2;split at h2
 ·cases h2
  left
  refine k δ _ h1 G0 H0 G H σ ts _ R0 fun v G' H' R'=>?_;have du:=R'.B8 _ (.head _);rw [Du]at du;obtain⟨a,ys,rfl,n1,n2⟩:=du;exact⟨a,rfl,⟨ys,Al.of (R'.ins _ _ n1)⟩,q _ _ _ R'.drop (cI n1 n2)⟩
 ·cases h2
  right
  refine k δ _ h1 G0 H0 G H σ ts _ R0 fun v G' H' R'=>?_;have du:=R'.B8 _ (.head _);rw [Du]at du;obtain⟨a,ys,rfl,n1,n2⟩:=du;exact⟨a,rfl,⟨ys,A7.of (R'.ins _ _ n1)⟩,q _ _ _ R'.drop (eI n1 n2)⟩
 ·cases h2
def HE:List PD→Option (List PD)
 |[.int j]=>if -1000000≤j∧j≤1000000 then some (Et 0 j.toNat) else none
 |_=>none
def N1:List PD→Option (List PD)
 |[.int i,.int j]=>if -1000000≤i∧i≤1000000∧-1000000≤j∧j≤1000000 then some (Et i (j-i).toNat) else none
 |_=>none
def FQ(hg:Gl X "range")(hm:X.mg "range" = none)(ha:DA X [a] fs)(hs:starEach [a] X.env=[(false,eval a X.env)]:=by rfl):DI X tg (.Call (.Name "range" p) [a] [] pos) (fun δ=>(fs δ).bind HE):=by
 obtain⟨t,p,k⟩:=ha;refine⟨_,MO hg hm p hs,fun δ xs h G0 H0 G H σ ts R R0 q=>?_⟩;obtain⟨x,h1,h2⟩:=aB.mp h;refine k δ _ h1 G0 H0 G H σ ts _ R0 fun vs G' H' R' hv=>?_;obtain⟨d,R2⟩:=R'.args hv;unfold HE at h2;split at h2
 ·split at h2
  ·cases h2;obtain⟨u,rfl,du⟩:=d.Gs;rw [Du]at du;subst du;exact⟨_,rfl,by omega,by omega,q _ _ _ R2 Xh⟩
  ·cases h2
 ·cases h2
def Qi(hg:Gl X "range")(hm:X.mg "range" = none)(ha:DA X [a,b] fs)(hs:starEach [a,b] X.env=[(false,eval a X.env),(false,eval b X.env)]:=by rfl)(hs2:starEach [b] X.env=[(false,eval b X.env)]:=by rfl):DI X tg (.Call (.Name "range" p) [a,b] [] pos) (fun δ=>(fs δ).bind N1):=by
 obtain⟨t,p,k⟩:=ha;refine⟨_,WI hg hm p hs hs2,fun δ xs h G0 H0 G H σ ts R R0 q=>?_⟩;obtain⟨x,h1,h2⟩:=aB.mp h;refine k δ _ h1 G0 H0 G H σ ts _ R0 fun vs G' H' R' hv=>?_;obtain⟨d,R2⟩:=R'.args hv;unfold N1 at h2;split at h2
 ·split at h2
  ·cases h2;obtain⟨u,v,rfl,du,dv⟩:=d.Uo;rw [Du]at du dv;subst du dv;exact⟨_,_,rfl,⟨by omega,by omega,by omega,by omega⟩,q _ _ _ R2 Xh⟩
  ·cases h2
 ·cases h2
def Va:List PD→Option (List PD)
 |[.list xs]=>some (Jj xs)
 |[.tuple xs]=>some (Jj xs)
 |_=>none
def b7{elts:List Expr}{x1}{tpos:Pos}(hg:Gl X "enumerate")(hm:X.mg "enumerate" = none)(ha:DA X [a] fs)(hs:starEach [a] X.env=[(false,eval a X.env)]:=by rfl):DI X (.Tuple elts x1 tpos) (.Call (.Name "enumerate" p) [a] [] pos) (fun δ=>(fs δ).bind Va):=by
 obtain⟨t,p,k⟩:=ha;refine⟨_,(Sh hg hm p hs).or (dQ hg hm p hs),fun δ xs h G0 H0 G H σ ts R R0 q=>?_⟩;obtain⟨x,h1,h2⟩:=aB.mp h;unfold Va at h2;split at h2
 ·cases h2
  left
  refine k δ _ h1 G0 H0 G H σ ts _ R0 fun vs G' H' R' hv=>?_;obtain⟨d,R2⟩:=R'.args hv;obtain⟨u,rfl,du⟩:=d.Gs;rw [Du]at du;obtain⟨a,ys,rfl,n1,n2⟩:=du;exact⟨a,rfl,⟨ys,Al.of (R2.ins _ _ n1)⟩,q _ _ _ R2 (ZE n1 n2)⟩
 ·cases h2
  right
  refine k δ _ h1 G0 H0 G H σ ts _ R0 fun vs G' H' R' hv=>?_;obtain⟨d,R2⟩:=R'.args hv;obtain⟨u,rfl,du⟩:=d.Gs;rw [Du]at du;obtain⟨a,ys,rfl,n1,n2⟩:=du;exact⟨a,rfl,⟨ys,A7.of (R2.ins _ _ n1)⟩,q _ _ _ R2 (Yw n1 n2)⟩
 ·cases h2
def MA{G:Hp}{x:PD}{v:V}{xs:List PD}(h:Du G x v)(e:GX x=some xs):∃(b:Bool) (a:AD) (ys:List V),v=.ref a∧G a=some (if b then .tup ys else .lst ys)∧Ao G xs ys:=by
 unfold GX at e;split at e
 ·cases e;rw [Du]at h;obtain⟨a,ys,rfl,n1,n2⟩:=h;exact⟨false,a,ys,rfl,n1,n2⟩
 ·cases e;rw [Du]at h;obtain⟨a,ys,rfl,n1,n2⟩:=h;exact⟨true,a,ys,rfl,n1,n2⟩
 ·cases e
def DG(X:Cx)(tg:Expr)(set:PD→Dv→Option Dv):Prop:=∃g,PG X tg g∧∀δ x δ',set x δ=some δ'→∀G0 H0 G H σ v (Q:St→Hp→Prop),Rw G0 H0 G H σ δ [(x,v)]→(∀σ' G' H',Rw G0 H0 G' H' σ' δ' []→Q σ' H')→g v σ H Q
def CV{i:Nat}{x:Str}(h:PG X (.Name x pos) (EG i)):DG X (.Name x pos) (fun y δ=>some (δ.set i (.d y))) :=
 ⟨_,h,fun δ y δ' e G0 H0 G H σ v Q R k=>by cases e;exact k _ _ _ R.Ir⟩
def ZC(i j:Nat)(y:PD)(δ:Dv):Option Dv:=match y with
 |.tuple [u,v]=>some ((δ.set i (.d u)).set j (.d v))
 |_=>none
def fR{x y:Str}{i j:Nat}{px py:Pos}{k1}(h:PG X (.Tuple [.Name x px,.Name y py] k1 pos) (Vu X.K 2 (Jh (EG i) (Jh (EG j) Vt)))):DG X (.Tuple [.Name x px,.Name y py] k1 pos) (ZC i j):=by
 refine⟨_,h,fun δ z δ' e G0 H0 G H σ v Q R k=>?_⟩;unfold ZC at e;split at e
 ·cases e;have du:=R.B8 _ (.head _);rw [Du]at du;obtain⟨a,ys,rfl,n1,n2⟩:=du;obtain⟨w1,w2,rfl,m1,m2⟩:=n2.Uo;refine⟨a,[w1,w2],rfl,A7.of (R.ins _ _ n1),rfl,w1,[w2],rfl,w2,[],rfl,rfl,?_⟩;exact k _ _ _ (((R.drop.put m2).put m1).Ir.Ir)
 ·cases e
def Eu(set:PD→Dv→Option Dv)(body:DF):List PD→Dv→Option Ou
 |[],δ=>some (.nx δ)
 |x::xs,δ=>match (set x δ).bind body with
  |some (.nx δ')=>Eu set body xs δ'
  |some (.ct δ')=>Eu set body xs δ'
  |some (.bk δ')=>some (.nx δ')
  |some (.rt v)=>some (.rt v)
  |some (.rn v)=>some (.rn v)
  |none=>none
def Cd{set:PD→Dv→Option Dv}(hp:PassesOwn (model X.prog X.w) X.A X.env X.xe)(hc:X.calm=true)(hi:DI X tg e fs)(hg:DG X tg set)(hb:Qq X sts F)(hs:∀x,foldedSetIterable e X.env x=pure x:=by intro _;rfl) :
  DS X (.For tg e sts [] pos) (fun δ=>(fs δ).bind fun xs=>Eu set F xs δ):=by
 obtain⟨wi,pi,ki⟩:=hi;obtain⟨g,pg,kg⟩:=hg;obtain⟨tb,pb,kb⟩:=hb;refine⟨_,Gb hp hc pi pg pb hs,fun δ r h G0 H0 G H σ D R q=>?_⟩;obtain⟨xs,h1,h2⟩:=aB.mp h;refine ki δ xs h1 G0 H0 G H σ [] _ R fun J Ga Ha Ra it=>?_;refine⟨fun i m σ' H'=>m=xs.length-i∧i≤xs.length∧∃δ' G',Eu set F (xs.drop i) δ'=some r∧Rw G0 H0 G' H' σ' δ' []∧AK Ga G',⟨xs.length,by simp,Nat.zero_le _,δ,Ga,by simpa using h2,Ra,AK.refl _⟩,?_⟩;rintro i m σ1 H1 ⟨rfl,hi,δ1,G1,f1,R1,s1⟩;have sH:AK Ga H1:=s1.trans R1.ins;by_cases hlt:i<xs.length
 ·right
  have hx:xs[i]? = some xs[i]:=by simp [hlt]
  refine⟨it.go i _ H1 hx sH,fun σ' H'=>i+1≤xs.length∧∃δ' G',Eu set F (xs.drop (i+1)) δ'=some r∧Rw G0 H0 G' H' σ' δ' []∧AK Ga G',fun σ' H' n=>⟨xs.length-(i+1),by omega,rfl,n⟩,fun x H' y=>?_⟩;obtain⟨G2,e1,e2,e3,e4,e5⟩:=it.Eh i _ H1 x H' hx sH y G1 s1 R1.ins;have R2:=(R1.lift e1 e2 e3 e4).put e5;have s2:=s1.trans e1;rw [List.drop_eq_getElem_cons hlt]at f1;unfold Eu at f1;cases hb2:(set xs[i] δ1).bind F with
  |none=>rw [hb2]at f1;cases f1
  |some o =>
   obtain⟨δ2,k1,k2⟩:=aB.mp hb2;rw [hb2]at f1;have R2b:=R2.base;refine kg δ1 _ δ2 k1 G2 H0 G2 H' σ1 x _ R2b fun σ3 G3 H3 R3=>?_;refine kb δ2 o k2 G2 H0 G3 H3 σ3 _ R3 ?_;cases o with
   |nx δ3=>exact fun σ4 G4 H4 R4=>⟨hlt,δ3,G4,f1,R2.drop.RZ R4,s2.trans R4.ext⟩
   |ct δ3=>exact fun σ4 G4 H4 R4=>⟨hlt,δ3,G4,f1,R2.drop.RZ R4,s2.trans R4.ext⟩
   |bk δ3=>cases f1;exact fun σ4 G4 H4 R4=>q σ4 G4 H4 (R2.drop.RZ R4)
   |rt v=>cases f1;exact fun w G4 H4 h1 h2 h3 h4 h5=>q w G4 H4 (R2.ext.trans h1) (R2.new.trans h2) h3 h4 h5
   |rn v=>cases f1;exact fun w ys G4 H4 h1 h2=>q w ys G4 H4 (R2.ext.trans h1) (R2.new.trans h2)
 ·left
  have e:i=xs.length:=by omega
  subst e;refine⟨it.stop H1 sH,?_⟩;rw [List.drop_length]at f1;unfold Eu at f1;cases f1;exact q _ _ _ R1
end
def tD(f:Dv→Option PD):TE:=fun σ H Q=>∃δ x G0 H0 G ts,f δ=some x∧Rw G0 H0 G H σ δ ts∧∀v G' H',Rw G0 H0 G' H' σ δ ((x,v)::ts)→Q v H'
def fI(f:Dv→Option Bool):TT:=fun σ H Q=>∃δ x G0 H0 G ts,f δ=some x∧Rw G0 H0 G H σ δ ts∧∀G' H',Rw G0 H0 G' H' σ δ ts→Q x H'
def DE.pe{X:Cx}{e:Expr}{f:Dv→Option PD}(h:DE X e f):PE X e (tD f):=by
 obtain⟨t,p,k⟩:=h;intro pins s σ H Q I q;obtain⟨δ,x,G0,H0,G,ts,h1,h2,h3⟩:=q;exact p pins s σ H Q I (k δ x h1 G0 H0 G H σ ts Q h2 h3)
def eU(X:Cx)(ifs:List Expr)(f:Dv→Option Bool):Prop:=MB X ifs (fI f)
def Eo{X:Cx}:eU X [] (fun _=>some true):=by
 intro pins s σ H Q I q;obtain⟨δ,x,G0,H0,G,ts,h1,h2,h3⟩:=q;cases h1;exact FV pins s σ H Q I (h3 _ _ h2)
def EM(fr:List (Option Nat))(δ:Dv):Dv:=fr.map fun o=>match o with
 |some j=>(match δ[j]? with|some (.d x)=>.d x|_=>.no)
 |none=>.no
def Rw.inner{G0 H0 G H:Hp}{σ:St}{δ:Dv}{ts:List (PD×V)}(fr:List (Option Nat))(r:Rw G0 H0 G H σ δ ts):Rw G H G H (carry fr σ) (EM fr δ) ts:=by
 have key:∀(i:Nat) (l:L),(EM fr δ)[i]? = some l→∃o,fr[i]? = some o∧l=(match o with|some j=>(match δ[j]? with|some (.d x)=>.d x|_=>.no)|none=>.no):=fun i l h=>by
  unfold EM at h;rw [List.getElem?_map]at h;obtain⟨o,h1,rfl⟩:=aG.mp h;exact⟨o,h1,rfl⟩
 have noown:∀(i:Nat) (xs:Oc),(EM fr δ)[i]?≠some (L.own xs):=fun i xs h=>by
  obtain⟨o,_,h2⟩:=key i _ h;split at h2
  ·split at h2<;>cases h2
  ·cases h2
 refine⟨AK.refl _,Nw.refl,r.ins,AK.refl _,by simp [carry,EM],fun i x h=>?_,fun i xs h=>absurd h (noown i xs),fun i j xs ys _ h=>absurd h (noown i xs),r.B8⟩;obtain⟨o,h1,h2⟩:=key i _ h;split at h2
 ·rename_i j;split at h2
  ·rename_i y hy;cases h2;obtain⟨v,k1,k2⟩:=r.dat j _ hy;refine⟨v,?_,k2⟩;unfold carry;rw [List.getElem?_map,h1];simp [k1]
  ·cases h2
 ·cases h2
def Rw.other{G0 H0 G H:Hp}{σ:St}{δ:Dv}{ts:List (PD×V)}{D:AD}{o:HO}(r:Rw G0 H0 G H σ δ ts)(hG:G D=none)(h0:H0 D=none)(ho:∀(i:Nat) (xs:Oc),δ[i]? = some (L.own xs)→σ[i]?≠some (some (V.ref D))):Rw G0 H0 G (upd H D o) σ δ ts:=by
 refine⟨r.ext,r.new,fun a u h=>?_,fun a u h=>?_,r.len,r.dat,fun i xs h=>?_,r.apart,r.B8⟩
 ·rw [AJ (fun z=>by subst z;rw [hG]at h;cases h)];exact r.ins _ _ h
 ·rw [AJ (fun z=>by subst z;rw [h0]at h;cases h)];exact r.keep _ _ h
 ·obtain⟨a,ys,k1,k2,k3,k4,k5⟩:=r.own i xs h;exact⟨a,ys,k1,k2,k3,by rw [AJ (fun z=>by subst z;exact ho i xs h k1)];exact k4,k5⟩
def Rw.adopt{G0 H0 G H:Hp}{σ:St}{δ:Dv}{ts:List (PD×V)}{D:AD}{ys:List V}(r:Rw G0 H0 G H σ δ ts)(hD:H D=some (.lst ys))(hG:G D=none)(h0:H0 D=none)(ho:∀(i:Nat) (xs:Oc),δ[i]? = some (L.own xs)→σ[i]?≠some (some (V.ref D))):Rw G0 H0 (upd G D (.lst ys)) H σ δ ts:=by
 have e:AK G (upd G D (.lst ys)):=AZ hG _;refine⟨r.ext.trans e,fun a u h=>?_,fun a u h=>?_,r.keep,r.len,fun i x h=>?_,fun i xs h=>?_,r.apart,fun q hq=>(r.B8 q hq).same e⟩
 ·by_cases ha:a=D
  ·subst ha;exact .inr (.inl h0)
  ·rw [AJ ha]at h;exact r.new _ _ h
 ·by_cases ha:a=D
  ·subst ha;rw [AL]at h;rw [hD];exact h
  ·rw [AJ ha]at h;exact r.ins _ _ h
 ·obtain⟨v,k1,k2⟩:=r.dat i x h;exact⟨v,k1,k2.same e⟩
 ·obtain⟨a,zs,k1,k2,k3,k4,k5⟩:=r.own i xs h;have ha:a≠D:=fun z=>by subst z;exact ho i xs h k1
  exact⟨a,zs,k1,by rw [AJ ha];exact k2,k3,k4,k5.same e⟩
def Nt(set:PD→Dv→Option Dv)(tif:Dv→Option Bool)(f:Dv→Option PD)(δ:Dv)(x:PD):Option (Option PD) :=
 (set x δ).bind fun δ1=>(tif δ1).bind fun b=>if b=true then(f δ1).map some else some none
def collect(one:PD→Option (Option PD)):List PD→Option (List PD)
 |[]=>some []
 |x::xs=>(one x).bind fun o=>(collect one xs).map fun r=>o.toList++r
def Gk(set:PD→Dv→Option Dv)(tif:Dv→Option Bool)(f:Dv→Option PD)(fr:List (Option Nat))(fs:Dv→Option (List PD))(δ:Dv):Option (List PD) :=
 (fs δ).bind fun xs=>(collect (Nt set tif f (EM fr δ)) xs).bind Jp
def Ee(set:PD→Dv→Option Dv)(tif:Dv→Option Bool)(f:Dv→Option PD)(fr:List (Option Nat))(fs:Dv→Option (List PD))(δ:Dv):Option PD :=
 (Gk set tif f fr fs δ).map .list
structure di(G0 H0 Ga:Hp)(σ:St)(δ:Dv)(ts:List (PyData×V))(one:PyData→Option (Option PyData))(xs full:List PyData)(D:Addr)(i:Nat)(ys:List V)(H:Hp):Prop where
 ex:∃G done rest,Rw G0 H0 G H σ δ ts∧AK Ga G∧G D=none∧collect one (xs.drop i)=some rest∧done++rest=full∧Ao G done ys
 h0:H0 D=none
 ap:∀(j:Nat) (us:Oc),δ[j]? = some (L.own us)→σ[j]?≠some (some (V.ref D))
def ZM{G0 H0 G H:Hp}{D:AD}{ys:List V}(hG:G0 D=none)(hD:H0 D=some (.lst ys))(n:Nw G0 H0 G)(e:AK G H)(k:AK H0 H):G D=none:=by
 cases q:G D with
 |none=>rfl
 |some o =>
  rcases n _ _ q with z|z|⟨us,z⟩
  ·rw [hG]at z;cases z
  ·rw [hD]at z;cases z
  ·have:=e _ _ q;rw [k _ _ hD,z]at this;cases this
section
variable{X:Cx}{elt iter:Expr}{x y:Str}{px py tp pos:Pos}{tk:Nat}{ifs:List Expr}{scope:Scope}{fs:Dv→Option (List PD)}{tif:Dv→Option Bool}{f:Dv→Option PD}
def DD(i:Nat)(y:PD)(δ:Dv):Option Dv:=some (δ.set i (.d y))
def OG{wi:TI}{ix:Nat}{fr:List (Option Nat)}(ki:∀(δ:Dv) (xs:List PD),fs δ=some xs→∀(G0 H0 G H:Hp) (σ:St) (ts:List (PD×V)) (R:It→Hp→Prop),Rw G0 H0 G H σ δ ts→(∀J G' H',Rw G0 H0 G' H' σ δ ts→Ky J xs G'→R J H')→wi σ H R){δ:Dv}{zs:List PD}(hz:Gk (DD ix) tif f fr fs δ=some zs){G0 H0 G H:Hp}{σ:St}{ts:List (PD×V)}{Q:VK}(R0:Rw G0 H0 G H σ δ ts)(k:∀D ys G' H',Rw G0 H0 G' H' σ δ ts→H' D=some (.lst ys)→G' D=none→H0 D=none→(∀(j:Nat) (us:Oc),δ[j]? = some (L.own us)→σ[j]?≠some (some (V.ref D)))→Ao G' zs ys→Q (.ref D) H') :
  MX wi fr ix (fI tif) (tD f) σ H Q:=by
 unfold Gk at hz;obtain⟨xs,m2,m3⟩:=aB.mp hz;obtain⟨full,m4,m5⟩:=aB.mp m3;obtain⟨rfl,hfew⟩:=PJ m5;refine ki δ xs m2 G0 H0 G H σ ts _ R0 fun J Ga Ha Ra it D hD=>?_;have hGD:Ga D=none:=by
  cases q:Ga D with
  |none=>rfl
  |some u=>rw [Ra.ins _ _ q]at hD;cases hD
 have hHD:H0 D=none:=by
  cases q:H0 D with
  |none=>rfl
  |some u=>rw [Ra.keep _ _ q]at hD;cases hD
 have hap:∀(j:Nat) (us:Oc),δ[j]? = some (L.own us)→σ[j]?≠some (some (V.ref D)):=fun j us h z=>by
  obtain⟨a,ys,k1,k2,k3,k4,k5⟩:=Ra.own j us h;rw [z]at k1;cases k1;rw [k4]at hD;cases hD
 refine HK (n:=xs.length) (di G0 H0 Ga σ δ ts (Nt (DD ix) tif f (EM fr δ)) xs full D) ⟨⟨Ga,[],full,Ra.other hGD hHD hap,AK.refl _,hGD,by simpa using m4,rfl,.nil⟩,hHD,hap⟩ ?_ ?_
 ·rintro i ys H1 hlt ⟨⟨G1,done,rest,R1,s1,g1,c1,e1,d1⟩,_,_⟩ hD1;have hx:xs[i]? = some xs[i]:=by simp [hlt]
  have sH:=s1.trans R1.ins;have hyl:ys.length<sizeLine:=Uq (by
   rw [d1.len];have:done.length≤full.length:=by rw [←e1];simp
   omega)
  refine⟨it.go i _ H1 hx sH,hyl,fun v H' y=>?_⟩;obtain⟨G2,n1,n2,n3,n4,n5⟩:=it.Eh i _ H1 v H' hx sH y G1 s1 R1.ins;have R2:=R1.lift n1 n2 n3 n4;have hD2:=n4 _ _ hD1;have g2:G2 D=none:=ZM g1 hD1 n2 n3 n4;rw [List.drop_eq_getElem_cons hlt]at c1;unfold collect at c1;obtain⟨o,c2,c3⟩:=aB.mp c1;obtain⟨rest',c4,rfl⟩:=aG.mp c3;unfold Nt DD at c2;simp only [Option.bind_some]at c2;obtain⟨b,c5,c6⟩:=aB.mp c2;have Ri:=((R2.inner fr).put n5).Ir (i:=ix);have Ri0:Rw G2 H' G2 H' ((carry fr σ).set ix (some v)) ((EM fr δ).set ix (.d xs[i])) []:=Ri.less fun q hq=>by cases hq
  refine⟨_,b,G2,H',G2,[],c5,Ri0,fun G3 H3 R3=>?_⟩;have R3o:=R2.lift R3.ext R3.new R3.ins R3.keep;have hD3:=R3.keep _ _ hD2;have g3:G3 D=none:=ZM g2 hD2 R3.new R3.ins R3.keep;dsimp only;split
  ·rename_i hb;rw [if_pos hb]at c6;obtain⟨w,c7,rfl⟩:=aG.mp c6;refine⟨_,w,G2,H',G3,[],c7,R3,fun u G4 H4 R4=>?_⟩;have R4o:=R2.lift R4.ext R4.new R4.ins R4.keep;have hD4:=R4.keep _ _ hD2;have g4:G4 D=none:=ZM g2 hD2 R4.new R4.ins R4.keep;refine⟨hD4,Fb hlt ⟨⟨G4,done++[w],rest',R4o.other g4 hHD hap,s1.trans (n1.trans R4.ext),g4,c4,by simpa using e1,(d1.same (n1.trans R4.ext)).app (.cons (R4.B8 _ (.head _)) .nil)⟩,hHD,hap⟩⟩
  ·rename_i hb;rw [if_neg hb]at c6;cases c6;exact cJ hlt hD3 ⟨⟨G3,done,rest',R3o,s1.trans (n1.trans R3.ext),g3,c4,by simpa using e1,d1.same (n1.trans R3.ext)⟩,hHD,hap⟩
 ·rintro ys H1 ⟨⟨G1,done,rest,R1,s1,g1,c1,e1,d1⟩,_,_⟩ hD1;refine⟨it.stop H1 (s1.trans R1.ins),?_⟩;rw [List.drop_length]at c1;cases c1;rw [List.append_nil]at e1;subst e1;exact k _ _ _ _ R1 hD1 g1 hHD hap d1
def XG{wi:TI}{ix:Nat}{fr:List (Option Nat)}(ki:∀(δ:Dv) (xs:List PD),fs δ=some xs→∀(G0 H0 G H:Hp) (σ:St) (ts:List (PD×V)) (R:It→Hp→Prop),Rw G0 H0 G H σ δ ts→(∀J G' H',Rw G0 H0 G' H' σ δ ts→Ky J xs G'→R J H')→wi σ H R){δ:Dv}{z:PD}(hz:Ee (DD ix) tif f fr fs δ=some z){G0 H0 G H:Hp}{σ:St}{ts:List (PD×V)}{Q:VK}(R0:Rw G0 H0 G H σ δ ts)(k:∀v G' H',Rw G0 H0 G' H' σ δ ((z,v)::ts)→Q v H') :
  MX wi fr ix (fI tif) (tD f) σ H Q:=by
 unfold Ee at hz;obtain⟨full,m1,rfl⟩:=aG.mp hz;refine OG ki m1 R0 fun D ys G1 H1 R1 hD1 g1 hHD hap d1=>?_;have e:AK G1 (upd G1 D (.lst ys)):=AZ g1 _;have R2:=R1.adopt hD1 g1 hHD hap;refine k _ _ _ (R2.put ?_);rw [Du];exact⟨D,ys,rfl,AL,d1.same e⟩
def Fc(N:List Str)(ix:Nat)(fr:List (Option Nat))(hi:DI X (.Name x px) iter fs)(hif:∀cl C s₀ H₀ fp,eU (A8 X scope cl N C s₀ H₀ fp) ifs tif)(he:∀cl C s₀ H₀ fp,DE (A8 X scope cl N C s₀ H₀ fp) elt f)
 (h1:DX scope N x ix=true:=by decide +kernel)(h2:X.calm=true:=by rfl)(h3:Fq N X.N scope X.env.scope fr 0=true:=by rfl)(h4:fr.length=N.length:=by rfl)(h5:freeOk X.env.scope scope.names=true:=by rfl)
 (hs:∀x,foldedSetIterable iter X.env x=pure x:=by intro _;rfl):DE X (.ListComp elt [⟨.Name x px,iter,ifs,0⟩] scope pos) (Ee (DD ix) tif f fr fs):=by
 obtain⟨wi,pi,ki⟩:=hi;exact⟨_,HG N ix fr pi hif (fun cl C s₀ H₀ fp=>(he cl C s₀ H₀ fp).pe) h1 h2 h3 h4 h5 hs,fun δ z hz G0 H0 G H σ ts Q R0 k=>XG ki hz R0 k⟩
end
section
variable{X:Cx}{elt iter:Expr}{x y:Str}{px py tp pos:Pos}{tk:Nat}{ifs:List Expr}{scope:Scope}{fs:Dv→Option (List PD)}{tif:Dv→Option Bool}{f:Dv→Option PD}
def Jw(N:List Str)(ds:List PD):Dv:=ds.map .d++List.replicate (N.length-ds.length) .no
def Bt(ps N:List Str)(F:DF)(ds:List PD):Option PD:=if ds.length=ps.length then(match F (Jw N ds) with
 |some (.rt x)=>some x
 |some (.nx _)=>some .none
 |some (.rn xs)=>some (.list xs)
 |_=>none) else none
def Rw.start{N:List Str}{ds:List PD}{vs:List V}{G H:Hp}(d:Ao G ds vs)(e:AK G H):Rw G H G H (start N vs) (Jw N ds) []:=by
 have hl:=d.len;refine⟨AK.refl _,Nw.refl,e,AK.refl _,by simp [L2.start,Jw,hl],fun i x h=>?_,fun i xs h=>?_,fun i j xs ys _ h=>?_,fun q hq=>by cases hq⟩
 ·unfold Jw at h;by_cases hi:i<ds.length
  ·rw [List.getElem?_append_left (by simpa using hi),List.getElem?_map]at h;obtain⟨y,h1,h2⟩:=aG.mp h;cases h2;obtain⟨v,h3,h4⟩:=d.get h1;refine⟨v,?_,h4⟩;unfold L2.start;rw [List.getElem?_append_left (by simp;omega),List.getElem?_map,h3];rfl
  ·rw [List.getElem?_append_right (by simpa using hi),List.getElem?_replicate]at h;split at h<;>cases h
 ·unfold Jw at h;by_cases hi:i<ds.length
  ·rw [List.getElem?_append_left (by simpa using hi),List.getElem?_map]at h;obtain⟨y,h1,h2⟩:=aG.mp h;cases h2
  ·rw [List.getElem?_append_right (by simpa using hi),List.getElem?_replicate]at h;split at h<;>cases h
 ·unfold Jw at h;by_cases hi:i<ds.length
  ·rw [List.getElem?_append_left (by simpa using hi),List.getElem?_map]at h;obtain⟨y,h1,h2⟩:=aG.mp h;cases h2
  ·rw [List.getElem?_append_right (by simpa using hi),List.getElem?_replicate]at h;split at h<;>cases h
def ip{G H G' H':Hp}{a:AD}{ys:List V}{xs:List PD}(m1:AK G G')(m2:Nw G H G')(m3:AK G' H')(m5:H a=none)(m6:G' a=none)(m7:H' a=some (.lst ys))(m8:Ao G' xs ys) :
  AK G (upd G' a (.lst ys))∧Nw G H (upd G' a (.lst ys))∧AK (upd G' a (.lst ys)) H'∧Du (upd G' a (.lst ys)) (.list xs) (.ref a):=by
 refine⟨m1.trans (AZ m6 _),fun b o hb=>?_,fun b o hb=>?_,?_⟩
 ·by_cases z:b=a
  ·subst z;exact .inr (.inl m5)
  ·rw [AJ z]at hb;exact m2 _ _ hb
 ·by_cases z:b=a
  ·subst z;rw [AL]at hb;rw [m7];exact hb
  ·rw [AJ z]at hb;exact m3 _ _ hb
 ·rw [Du];exact⟨a,ys,rfl,AL,m8.same (AZ m6 _)⟩
def EF{P:Program}{w:World}{K:Fg}{mg:Str→Option VL}{base:Heap}{x:Str}{st:Stmt}{fA:AD}{fd:FuncData}{N ps:List Str}{k:Nat}{F:DF}(T:Fn K mg x st ps fA fd)(S:Ac N ps (AQ st))
 (hb:∀(cdv:VL) (A:Around) (outer:List Env) (s:SD) (H:Hp) (E:XK),Dl k (A.deeper (envOfC x (AQ st) s.heap.objs.size fA cdv))→Qq (OC Ab P w K mg base N x (AQ st) fA cdv A outer s H E).Wf (EJ st) F) :
  AM P w K mg base Ab (k+1) fA fd ps (BE (Bt ps N F)):=by
 refine T.F.ok S (fun vs H Q E h=>?_) fun cdv A outer s H vs Q E hr h=>?_
 ·obtain⟨ds,y,G,h1,h2,_⟩:=h;unfold Bt at h1;split at h1
  ·rename_i hl;rw [h2.len];exact hl
  ·cases h1
 ·obtain⟨ds,y,G,h1,h2,h3,h4⟩:=h;obtain⟨t,p,kk⟩:=hb cdv A outer s H E hr;refine⟨t,p,?_⟩;unfold Bt at h1;split at h1
  ·split at h1
   ·rename_i z e1;cases h1;exact kk _ _ e1 G H G H _ _ (Rw.start h2 h3) fun v G' H' m1 m2 m3 m4 m5=>h4 v G' H' m1 m2 m3 m4 m5
   ·rename_i δ e1;cases h1;exact kk _ _ e1 G H G H _ _ (Rw.start h2 h3) fun σ' G' H' R=>h4 .Bb G' H' R.ext R.new R.ins R.keep (by rw [Du])
   ·rename_i xs e1;cases h1;exact kk _ _ e1 G H G H _ _ (Rw.start h2 h3) fun a ys G' H' m1 m2 m3 m4 m5 m6 m7 m8=>let⟨n1,n2,n3,n4⟩:=ip m1 m2 m3 m5 m6 m7 m8;h4 _ _ H' n1 n2 n3 m4 n4
   ·cases h1
  ·cases h1
end
section
variable{X:Cx}{tg a b c e:Expr}{es:List Expr}{f g h:Dv→Option PD}{fs:Dv→Option (List PD)}{fa:Dv→Option Bool}{pos p p2:Pos}{st:Stmt}{sts sts':List Stmt}{F F1 F2:DF}
def Kt{x:Str}{i:Int}{tk:Tok}(hg:Gl X x)(hm:X.mg x=some (.int i tk))(hd:(x==("__debug__" : Str))=false:=by decide):DE X (.Name x pos) (fun _=>some (.int i)) :=
 ⟨_,Ut (v:=.int i) hg hm ⟨tk,rfl⟩ hd,fun δ x h G0 H0 G H σ ts Q r k=>by cases h;exact k _ _ _ (r.put (by rw [Du]))⟩
def DO(X:Cx)(o:Option Expr)(f:Dv→Option (Option Int)):Prop:=∃t,PO X o t∧∀δ x,f δ=some x→∀G0 H0 G H σ ts (Q:Option Int→Hp→Prop),Rw G0 H0 G H σ δ ts→(∀G' H',Rw G0 H0 G' H' σ δ ts→Q x H')→t σ H Q
variable{fo fu:Dv→Option (Option Int)}{lo hi:Option Expr}
def J4:DO X none (fun _=>some none):=⟨_,cE,fun δ x h G0 H0 G H σ ts Q r k=>by cases h;exact k _ _ r⟩
def KP(he:DE X e f):DO X (some e) (fun δ=>(f δ).bind fun x=>(Qh x).map some):=by
 obtain⟨t,p,k⟩:=he;refine⟨_,cC p,fun δ z h G0 H0 G H σ ts Q r q=>?_⟩;obtain⟨x,h1,h2⟩:=aB.mp h;obtain⟨i,h3,rfl⟩:=aG.mp h2;have:=Sj h3;subst this;refine k δ _ h1 G0 H0 G H σ ts _ r fun v G' H' R'=>?_;have hv:=R'.B8 _ (.head _);rw [Du]at hv;exact⟨i,hv,q _ _ R'.drop⟩
def cutD(xs:List PD)(lo hi:Option Int):List PD:=(xs.drop (HT.Bc xs.length 0 lo)).take (HT.Bc xs.length xs.length hi-HT.Bc xs.length 0 lo)
def Ao.cut{H:Hp}{ds:List PD}{xs:List V}(h:Ao H ds xs)(lo hi:Option Int):Ao H (cutD ds lo hi) (ME xs lo hi):=by
 unfold cutD ME;rw [h.len];exact(h.drop _).take _
def X9(x:PD)(lo hi:Option Int):Option PD:=match x with
 |.list xs=>some (.list (cutD xs lo hi))
 |.tuple xs=>if ¬(HT.Bc xs.length 0 lo=0∧HT.Bc xs.length xs.length hi=xs.length) then some (.tuple (cutD xs lo hi)) else none
 |_=>none
def Iy(he:DE X e f)(hl:DO X lo fo)(hh:DO X hi fu):DE X (.Subscript e (.Slice lo hi none p2) pos) (fun δ=>(f δ).bind fun x=>(fo δ).bind fun l=>(fu δ).bind fun u=>X9 x l u):=by
 obtain⟨te,pe,ke⟩:=he;obtain⟨tl,pl,kl⟩:=hl;obtain⟨th,ph,kh⟩:=hh;refine⟨_,Ye (dB.or fY) pe pl ph,fun δ z hz G0 H0 G H σ ts Q R0 k=>?_⟩;obtain⟨x,h1,h2⟩:=aB.mp hz;obtain⟨l,h3,h4⟩:=aB.mp h2;obtain⟨u,h5,h6⟩:=aB.mp h4;refine ke δ x h1 G0 H0 G H σ ts _ R0 fun v G1 H1 R1=>?_;refine kl δ l h3 G0 H0 G1 H1 σ _ _ R1 fun G2 H2 R2=>?_;refine kh δ u h5 G0 H0 G2 H2 σ _ _ R2 fun G3 H3 R3=>?_;have du:=R3.B8 _ (.head _);unfold X9 at h6;split at h6
 ·cases h6;rw [Du]at du;obtain⟨a,ys,rfl,n1,n2⟩:=du;exact .inl ⟨a,ys,rfl,Al.of (R3.ins _ _ n1),fun q hq=>k _ _ _ (R3.drop.N0 (n2.cut l u) hq)⟩
 ·split at h6
  ·rename_i hc;cases h6;rw [Du]at du;obtain⟨a,ys,rfl,n1,n2⟩:=du;exact .inr ⟨a,ys,rfl,A7.of (R3.ins _ _ n1),by rw [n2.len];exact hc,fun q hq=>k _ _ _ (R3.drop.Yk (n2.cut l u) hq)⟩
  ·cases h6
 ·cases h6
def RT:List PD→Option (List Int)
 |[]=>some []
 |.int i::r=>(RT r).map fun l=>i::l
 |_::_=>none
def Ao.ints{H:Hp}:∀ {ds:List PD} {xs:List V} {ns:List Int},Ao H ds xs→RT ds=some ns→xs=ns.map V.int
 |[],xs,ns,h,e=>by cases e;rw [h.nil_eq];rfl
 |.int i::r,xs,ns,h,e=>by
  unfold RT at e;obtain⟨l,h1,rfl⟩:=aG.mp e;obtain⟨x,q,rfl,k1,k2⟩:=h.un;rw [Du]at k1;subst k1;rw [List.map_cons,k2.ints h1]
 |.none::_,_,_,_,e=>by cases e
 |.bool _::_,_,_,_,e=>by cases e
 |.str _::_,_,_,_,e=>by cases e
 |.tuple _::_,_,_,_,e=>by cases e
 |.list _::_,_,_,_,e=>by cases e
 |.dict _::_,_,_,_,e=>by cases e
def Ss:MD
 |[.list xs]=>(RT xs).map fun ns=>.int ns.sum
 |[.tuple xs]=>(RT xs).map fun ns=>.int ns.sum
 |_=>none
def S8(hc:X.calm=true):Kn X (.builtin "sum") Ss:=by
 refine⟨_,(N5 hc).or (Ww hc),fun xs z hz G0 H0 G H σ δ ts us Q R0 d k=>?_⟩;unfold Ss at hz;split at hz
 ·obtain⟨ns,h1,rfl⟩:=aG.mp hz;obtain⟨u,rfl,du⟩:=d.Gs;rw [Du]at du;obtain⟨q,ys,rfl,h4,h5⟩:=du;refine .inl ⟨q,ns,rfl,by rw [←h5.ints h1];exact Al.of (R0.ins _ _ h4),k _ _ _ (R0.put (by rw [Du]))⟩
 ·obtain⟨ns,h1,rfl⟩:=aG.mp hz;obtain⟨u,rfl,du⟩:=d.Gs;rw [Du]at du;obtain⟨q,ys,rfl,h4,h5⟩:=du;refine .inr ⟨q,ns,rfl,by rw [←h5.ints h1];exact A7.of (R0.ins _ _ h4),k _ _ _ (R0.put (by rw [Du]))⟩
 ·cases hz
end
open PySem
abbrev fC(x:PD):Dv→Option PD:=fun _=>some x
abbrev Ih(f:Dv→Option PD):Dv→Option PD:=fun δ=>(f δ).bind fun x=>(Qh x).map fun i=>.int (-i)
abbrev AH:Dv→Option (List PD):=fun _=>some []
abbrev AB(f:Dv→Option PD)(fs:Dv→Option (List PD)):Dv→Option (List PD):=fun δ=>(f δ).bind fun x=>(fs δ).map fun xs=>x::xs
abbrev Ae(fs:Dv→Option (List PD)):Dv→Option PD:=fun δ=>((fs δ).bind Jp).map .tuple
abbrev Be(fs:Dv→Option (List PD)):Dv→Option PD:=fun δ=>((fs δ).bind Jp).map .list
abbrev AO(m:MD)(fs:Dv→Option (List PD)):Dv→Option PD:=fun δ=>(fs δ).bind m
abbrev ZY(q:PD→Bool)(f:Dv→Option PD):Dv→Option PD:=fun δ=>(f δ).bind (WA q)
abbrev KG(i:Nat)(g:Dv→Option PD):Dv→Option PD:=fun δ=>(g δ).bind fun y=>(ow i δ).bind fun xs=>(Qh y).bind fun k=>E8 xs k
abbrev O2:Dv→Option (Option Int):=fun _=>some none
abbrev PX(f:Dv→Option PD):Dv→Option (Option Int):=fun δ=>(f δ).bind fun x=>(Qh x).map some
abbrev Rj(f:Dv→Option PD)(fo fu:Dv→Option (Option Int)):Dv→Option PD:=fun δ=>(f δ).bind fun x=>(fo δ).bind fun l=>(fu δ).bind fun u=>X9 x l u
abbrev Sd(f:Dv→Option PD):Dv→Option Bool:=fun δ=>(f δ).bind Qe
abbrev CK(o:PD→PD→Option PD)(f g:Dv→Option PD):Dv→Option Bool:=fun δ=>(Ag o f g δ).bind Qe
abbrev VZ(f:Dv→Option Bool):Dv→Option Bool:=fun δ=>(f δ).map fun c=>!c
abbrev TV(f g:Dv→Option Bool):Dv→Option Bool:=fun δ=>(f δ).bind fun c=>if c=true then some true else g δ
abbrev EK(f:Dv→Option PD):Dv→Option (List PD):=fun δ=>(f δ).bind GX
abbrev DN(m:List PD→Option (List PD))(fs:Dv→Option (List PD)):Dv→Option (List PD):=fun δ=>(fs δ).bind m
abbrev FG:Dv→Option Bool:=fun _=>some true
abbrev Ea(i:Nat):PD→Dv→Option Dv:=fun y δ=>some (δ.set i (.d y))
abbrev CZ:DF:=fun δ=>some (.nx δ)
abbrev Bf(f:Dv→Option PD):DF:=fun δ=>(f δ).map .rt
abbrev RP(f:Dv→Option PD):DF:=fun δ=>(f δ).map fun _=>.nx δ
abbrev Ez(c:Dv→Option Bool)(F G:DF):DF:=fun δ=>(c δ).bind fun c=>if c=true then F δ else G δ
abbrev BO(i:Nat)(f:Dv→Option PD):DF:=fun δ=>(f δ).map fun y=>.nx (δ.set i (.d y))
abbrev ZF(i:Nat)(fs:Dv→Option (List PD)):DF:=fun δ=>((fs δ).bind Jp).map fun ys=>.nx (δ.set i (.own (.lst ys)))
abbrev Vl(i:Nat)(f:Dv→Option PD):DF:=fun δ=>(f δ).bind fun y=>(ow i δ).bind fun xs=>if xs.length<DH then some (.nx (δ.set i (.own (.lst (xs++[y]))))) else none
abbrev kx(i:Nat)(f:Dv→Option PD):DF:=fun δ=>(f δ).bind fun y=>(ow i δ).bind fun xs=>match y with|.list zs=>(if xs.length+zs.length≤DH then some (.nx (δ.set i (.own (.lst (xs++zs))))) else none)|_=>none
abbrev Ci(fs:Dv→Option (List PD))(set:PD→Dv→Option Dv)(F:DF):DF:=fun δ=>(fs δ).bind fun xs=>Eu set F xs δ
abbrev kB(i:Nat)(F:DF):DF:=fun δ=>F (Fu i δ)
abbrev SI:DF:=fun _=>none
def Dr{P:Program}{w:World}{K:Fg}{mg:Str→Option VL}{base:Heap}{CX:HW}{k:Nat}{f:AD}{fd:FuncData}{ps:List Str}{sp:Sp}(h:∀vs H Q E,¬sp vs H Q E):AM P w K mg base CX k f fd ps sp :=
 ⟨fun _ _ _ _ z=>(h _ _ _ _ z).elim,fun _ _ _ _ _ _ _ _ _ _ _ _ _ z=>(h _ _ _ _ z).elim⟩
def Mm{P:Program}{w:World}{K:Fg}{mg:Str→Option VL}{base:Heap}{CX:HW}{k:Nat}{f:AD}{fd:FuncData}{ps:List Str}{sp:Sp}{m:MD}(F:AM P w K mg base CX k f fd ps sp)
 (h:∀ds x,m ds=some x→∀(G H:Hp) (vs:List V) (Q:VK) (E:XK),Ao G ds vs→AK G H→(∀v G' H',AK G G'→Nw G H G'→AK G' H'→AK H H'→Du G' x v→Q v H')→sp vs H Q E):AM P w K mg base CX k f fd ps (BE m) :=
 F.imp fun vs H Q E z=>by
  obtain⟨ds,x,G,h1,h2,h3,h4⟩:=z;exact h ds x h1 G H vs Q E h2 h3 h4
def BG(G H:Hp):Hp:=fun a=>match H a with
 |some (.tup xs)=>some (.tup xs)
 |_=>G a
def Yr{G H:Hp}{a:AD}{xs:List V}(h:H a=some (.tup xs)):BG G H a=some (.tup xs):=by unfold BG;rw [h]
section
variable{G0 H0 G H:Hp}{σ:St}{δ:Dv}{ts:List (PD×V)}
def Rw.BG(r:Rw G0 H0 G H σ δ ts):Rw G0 H0 (L2.BG G H) H σ δ ts:=by
 have e:AK G (L2.BG G H):=fun a o h=>by
  unfold L2.BG;split
  ·rename_i xs hx;rw [r.ins _ _ h]at hx;exact hx.symm ▸ rfl
  ·exact h
 refine⟨r.ext.trans e,fun a o h=>?_,fun a o h=>?_,r.keep,r.len,fun i x h=>?_,fun i xs h=>?_,r.apart,fun q hq=>(r.B8 q hq).same e⟩
 ·unfold L2.BG at h;split at h
  ·cases h;exact .inr (.inr ⟨_,rfl⟩)
  ·exact r.new _ _ h
 ·unfold L2.BG at h;split at h
  ·rename_i xs hx;rw [hx];exact h
  ·exact r.ins _ _ h
 ·obtain⟨v,k1,k2⟩:=r.dat i x h;exact⟨v,k1,k2.same e⟩
 ·obtain⟨a,ys,k1,k2,k3,k4,k5⟩:=r.own i xs h;refine⟨a,ys,k1,?_,k3,k4,k5.same e⟩;unfold L2.BG;rw [k4];split
  ·rename_i q;cases q;exact k5.TQ.elim
  ·exact k2
end
def MU{G:Hp}:∀ {t:Tr} {xs:List V},Ao G (Bg t) xs→Ts G t xs
 |.nil,xs,h=>by rw [Bg]at h;rw [Ts];exact h.nil_eq
 |.cons b r,xs,h=>by
  rw [Bg]at h;obtain⟨x,q,rfl,h1,h2⟩:=h.un;rw [Du]at h1;obtain⟨a,ys,rfl,h3,h4⟩:=h1;rw [Ts];exact⟨a,ys,q,rfl,h3,MU h4,MU h2⟩
def OO{G H:Hp}:∀ {t:Tr} {xs:List V},Ts H t xs→Ao (BG G H) (Bg t) xs
 |.nil,xs,h=>by rw [Ts]at h;rw [Bg,h];exact .nil
 |.cons b r,xs,h=>by
  rw [Ts]at h;obtain⟨a,ys,zs,rfl,h1,h2,h3⟩:=h;rw [Bg];refine .cons ?_ (OO h3);rw [Du];exact⟨a,ys,rfl,Yr h1,OO h2⟩
mutual
def Oo:∀ {ds:List PD} {t:Tr},Ec ds=some t→ds=Bg t
 |[],t,h=>by rw [Ec]at h;cases h;rw [Bg]
 |d::ds,t,h=>by
  rw [Ec]at h;obtain⟨b,h1,h2⟩:=aB.mp h;obtain⟨r,h3,rfl⟩:=aG.mp h2;rw [Bg,←cm h1,←Oo h3]
def cm:∀ {d:PD} {t:Tr},HI d=some t→d=.tuple (Bg t)
 |.tuple ds,t,h=>by rw [HI]at h;rw [Oo h]
 |.none,_,h=>by simp [HI]at h
 |.bool _,_,h=>by simp [HI]at h
 |.int _,_,h=>by simp [HI]at h
 |.str _,_,h=>by simp [HI]at h
 |.list _,_,h=>by simp [HI]at h
 |.dict _,_,h=>by simp [HI]at h
end
def gI(rev:Bool)(t:Tr):Option PD:=if t.bs.length<64∧t.deep≤60 then some (.list (Bg (Tr.of (if rev then Tr.CA t.bs else(Tr.CA t.bs).reverse)))) else none
def KQ(rev:Bool):MD
 |[x]=>(GX x).bind fun ds=>(Ec ds).bind (gI rev)
 |_=>none
section
variable{X:Cx}{a b c e:Expr}{es:List Expr}{f g h:Dv→Option PD}{fs:Dv→Option (List PD)}{fa:Dv→Option Bool}{pos p:Pos}
def Uy{rev:Bool}{G0 H0 G H:Hp}{σ:St}{δ:Dv}{ts:List (PD×V)}{x z:PD}{u:V}{Q:VK}(R0:Rw G0 H0 G H σ δ ts)(du:Du G x u)(hz:KQ rev [x]=some z)(k:∀w G' H',Rw G0 H0 G' H' σ δ ((z,w)::ts)→Q w H') :
  ∃(p:AD) (ys:List V) (t:Tr),[u]=[.ref p]∧(Al X.K H p ys∨A7 X.K H p ys)∧Ts H t ys∧ys.length<64∧t.deep≤60∧∀(l:AD) (zs:List V),H l=none→Ts H (Tr.of (if rev then Tr.CA t.bs else(Tr.CA t.bs).reverse)) zs→Q (.ref l) (upd H l (.lst zs)):=by
 unfold KQ at hz;obtain⟨ds,h1,h2⟩:=aB.mp hz;obtain⟨t,h3,h4⟩:=aB.mp h2;unfold gI at h4;split at h4
 ·rename_i hc;cases h4;have hds:=Oo h3;obtain⟨bb,a,ys,rfl,n1,n2⟩:=MA du h1;rw [hds]at n2;have ht:=(MU n2).same R0.ins;have hl:ys.length=t.bs.length:=by rw [ht.len]
  refine⟨a,ys,t,rfl,?_,ht,by omega,hc.2,fun l zs hl' hz'=>?_⟩
  ·have:=R0.ins _ _ n1;cases bb
   ·exact .inl (Al.of (by simpa using this))
   ·exact .inr (A7.of (by simpa using this))
  ·have R1:=R0.BG;exact k _ _ _ (R1.N0 (OO hz') hl')
 ·cases h4
def cf(hu:X.A.units+64<cLine):Kn X (.builtin "sorted") (KQ false):=by
 refine⟨_,X6 hu,fun xs z hz G0 H0 G H σ δ ts us Q R0 d k=>?_⟩;cases xs with
 |nil=>cases hz
 |cons x r =>
  cases r with
  |cons y q=>cases hz
  |nil =>
   obtain⟨u,rfl,du⟩:=d.Gs;exact Uy R0 du hz k
def Yu{e:Expr}{p pos kp kp2:Pos}{j}(hu:X.A.units+64<cLine)(hg:Gl X "sorted")(hm:X.mg "sorted" = none)(ha:DA X [e] fs)
 (hP:∀ {t:TA},PA X [e] t→PE X (.Call (.Name "sorted" p) [e] [⟨some "reverse",.Constant (.bool true) j kp2,kp⟩] pos) (fun σ H Q=>t σ H fun vs H1=>XM X.K vs H1 Q)) :
  DE X (.Call (.Name "sorted" p) [e] [⟨some "reverse",.Constant (.bool true) j kp2,kp⟩] pos) (AO (KQ true) fs):=by
 obtain⟨t,p,k⟩:=ha;refine⟨_,hP p,fun δ z hz G0 H0 G H σ ts Q R0 q=>?_⟩;obtain⟨xs,h1,h2⟩:=aB.mp hz;refine k δ _ h1 G0 H0 G H σ ts _ R0 fun vs G1 H1 R1 hv=>?_;obtain⟨d,R2⟩:=R1.args hv;cases xs with
 |nil=>cases h2
 |cons x r =>
  cases r with
  |cons y q=>cases h2
  |nil =>
   obtain⟨u,rfl,du⟩:=d.Gs;exact Uy (rev:=true) R2 du h2 q
def eJ(x k:PD):Option PD:=match x,k with
 |.list xs,.int i=>if i=-1 then some (.list xs.reverse) else none
 |_,_=>none
abbrev gZ(f g:Dv→Option PD):Dv→Option PD:=Ag eJ f g
def fk{p2:Pos}{k:Expr}(he:DE X e f)(hk:DE X k g):DE X (.Subscript e (.Slice none none (some k) p2) pos) (gZ f g):=by
 obtain⟨te,pe,ke⟩:=he;obtain⟨tk,pk,kk⟩:=hk;refine⟨_,gg pe pk,fun δ z hz G0 H0 G H σ ts Q R0 k=>?_⟩;obtain⟨x,y,h1,h2,h3⟩:=two (x:=.none) (y:=.none) hz;refine ke δ x h1 G0 H0 G H σ ts _ R0 fun u G1 H1 R1=>?_;refine kk δ y h2 G0 H0 G1 H1 σ _ _ R1 fun v G2 H2 R2=>?_;have du:=R2.B8 (x,u) (.tail _ (.head _));have dv:=R2.B8 (y,v) (.head _);unfold eJ at h3;split at h3
 ·split at h3
  ·rename_i hi;cases h3;subst hi;rw [Du]at du;rw [Du]at dv;obtain⟨a,ys,rfl,n1,n2⟩:=du;exact⟨a,ys,rfl,dv,Al.of (R2.ins _ _ n1),fun q hq=>k _ _ _ (R2.drop.drop.N0 n2.rev hq)⟩
  ·cases h3
 ·cases h3
def YO{k:Nat}{fA:AD}{fd:FuncData}{ps:List Str}{m:MD}{x:Str}{st:Stmt}(T:Fn X.K X.mg x st ps fA fd)(F:AM X.prog X.w X.K X.mg X.base Ab k fA fd ps (BE m))(hr:Dl k X.A)(hg:Gl X x)
 (hdb:(x==("__debug__" : Str))=false:=by decide):DE X (.Call (.Name x p) [] [] pos) (AO m AH):=by
 refine⟨_,YM F hr hg T.m T.F.kp T.b .nil Zs hdb,fun δ z hz G0 H0 G H σ ts Q R0 k=>?_⟩;exact⟨[],z,G,hz,.nil,R0.ins,fun v G' H' h3 h4 h5 h6 h7=>k _ _ _ ((R0.lift h3 h4 h5 h6).put h7)⟩
end
section
variable{G0 H0 G H:Hp}{σ:St}{δ:Dv}{ts:List (PD×V)}
def Rw.on{H':Hp}(r:Rw G0 H0 G H σ δ ts)(e:AK H H'):Rw G0 H0 G H' σ δ ts:=r.lift (AK.refl _) Nw.refl (r.ins.trans e) e
end
section
variable{F F1 F2:DF}{δ δ':Dv}{r:Option Ou}{c:Dv→Option Bool}{f g:Dv→Option PD}{fs:Dv→Option (List PD)}
def Ay(h:F1 δ=some (.nx δ'))(k:F2 δ'=r):Aj F1 F2 δ=r:=by unfold Aj;rw [h];exact k
def GG{x:PD}(h:F1 δ=some (.rt x)):Aj F1 F2 δ=some (.rt x):=by unfold Aj;rw [h]
def Gp(h:c δ=some true)(k:F1 δ=r):Ez c F1 F2 δ=r:=by show(c δ).bind _=r;rw [h];exact k
def Cc(h:c δ=some false)(k:F2 δ=r):Ez c F1 F2 δ=r:=by show(c δ).bind _=r;rw [h];exact k
def B5{i:Nat}{y:PD}(h:f δ=some y):BO i f δ=some (.nx (δ.set i (.d y))):=by show(f δ).map _=_;rw [h];rfl
def GF{y:PD}(h:f δ=some y):Bf f δ=some (.rt y):=by show(f δ).map _=_;rw [h];rfl
def BJ{o:PD→PD→Option PD}{x y:PD}{z:Option PD}(h1:f δ=some x)(h2:g δ=some y)(h3:o x y=z):Ag o f g δ=z:=by unfold Ag;rw [h1,h2];exact h3
def Au{m:MD}{xs:List PD}{z:Option PD}(h1:fs δ=some xs)(h2:m xs=z):AO m fs δ=z:=by show(fs δ).bind m=z;rw [h1];exact h2
def Ar{x:PD}{xs:List PD}(h1:f δ=some x)(h2:fs δ=some xs):AB f fs δ=some (x::xs):=by show(f δ).bind _=_;rw [h1];show(fs δ).map _=_;rw [h2];rfl
def Mk{xs:List PD}(h:fs δ=some xs)(hl:xs.length≤DH):Ae fs δ=some (.tuple xs):=by show((fs δ).bind Jp).map _=_;rw [h];show(Jp xs).map _=_;unfold Jp;rw [if_pos hl];rfl
def C9{o:PD→PD→Option PD}{x y:PD}{b:Bool}(h1:f δ=some x)(h2:g δ=some y)(h3:o x y=some (.bool b)):CK o f g δ=some b:=by show(Ag o f g δ).bind Qe=_;rw [BJ h1 h2 h3];rfl
def OM{a b:Dv→Option Bool}{q:Option Bool}(h:a δ=some false)(k:b δ=q):TV a b δ=q:=by show(a δ).bind _=q;rw [h];exact k
def dF{a:Dv→Option Bool}{b:Bool}(h:a δ=some b):VZ a δ=some (!b):=by show(a δ).map _=_;rw [h];rfl
def bx{b:Bool}(h:f δ=some (.bool b)):Sd f δ=some b:=by show(f δ).bind Qe=_;rw [h];rfl
def Tg{set:PD→Dv→Option Dv}(Iv:Nat→Dv→Prop):∀(xs:List PD) (δ:Dv) (n:Nat),Iv n δ→(∀(i:Nat) (x:PD) (δ:Dv),xs[i]? = some x→Iv (n+i) δ→∃δ1 δ2,set x δ=some δ1∧F δ1=some (.nx δ2)∧Iv (n+i+1) δ2) →
  ∃δ',Eu set F xs δ=some (.nx δ')∧Iv (n+xs.length) δ'
 |[],δ,n,h,_=>⟨δ,rfl,h⟩
 |x::xs,δ,n,h,k=>by
  obtain⟨δ1,δ2,h1,h2,h3⟩:=k 0 x δ rfl h;obtain⟨δ',h4,h5⟩:=Tg Iv xs δ2 (n+1) h3 fun i y δ hy hv=>by
   have:=k (i+1) y δ (by simpa using hy) (by rw [show n+(i+1)=n+1+i by omega];exact hv);rw [show n+(i+1)+1=n+1+i+1 by omega]at this;exact this
  refine⟨δ',?_,by rw [List.length_cons,show n+(xs.length+1)=n+1+xs.length by omega];exact h5⟩;unfold Eu;rw [h1,Option.bind_some,h2];exact h4
def ZW{set:PD→Dv→Option Dv}{xs:List PD}(Iv:Nat→Dv→Prop)(hx:fs δ=some xs)(h0:Iv 0 δ)(hs:∀(i:Nat) (x:PD) (δ:Dv),xs[i]? = some x→Iv i δ→∃δ1 δ2,set x δ=some δ1∧F δ1=some (.nx δ2)∧Iv (i+1) δ2) :
  ∃δ',Ci fs set F δ=some (.nx δ')∧Iv xs.length δ':=by
 obtain⟨δ',h1,h2⟩:=Tg (F:=F) (set:=set) Iv xs δ 0 h0 fun i x δ hx hv=>by
  have:=hs i x δ hx (by simpa using hv)
  simpa using this
 refine⟨δ',?_,by simpa using h2⟩;show(fs δ).bind _=_;rw [hx];exact h1
def NK{one:PD→Option (Option PD)}{g:PD→PD}:∀ {xs:List PD},(∀x∈xs,one x=some (some (g x)))→collect one xs=some (xs.map g)
 |[],_=>rfl
 |x::xs,h=>by
  unfold collect;rw [h x (.head _),Option.bind_some,NK fun y hy=>h y (.tail _ hy)]
  rfl
def comp_map{ix:Nat}{fr:List (Option Nat)}{xs:List PD}{g:PD→PD}(hx:fs δ=some xs)(hl:xs.length≤DH)(h:∀x∈xs,f ((EM fr δ).set ix (.d x))=some (g x)):Ee (DD ix) FG f fr fs δ=some (.list (xs.map g)):=by
 unfold Ee Gk;rw [hx,Option.bind_some,NK (g:=g) fun x hx=>?_,Option.bind_some,Jp,if_pos (by rw [List.length_map];exact hl)]
 ·rfl
 ·unfold Nt DD;rw [Option.bind_some];show(some true).bind _=_;rw [Option.bind_some,if_pos rfl,h x hx]
  rfl
end
def Ck{ps N:List Str}{F:DF}{ds:List PD}{x:PD}(hl:ds.length=ps.length)(h:F (Jw N ds)=some (.rt x)):Bt ps N F ds=some x:=by unfold Bt;rw [if_pos hl,h]
def Mp{lo:Int}{n i:Nat}{x:PD}(h:(Et lo n)[i]? = some x):x=.int (lo+(i:Nat))∧i<n:=by
 unfold Et at h;rw [List.getElem?_map]at h;obtain⟨j,hj,rfl⟩:=aG.mp h;have hl:=(aD.mp hj).1;rw [List.getElem?_range (by simpa using hl)]at hj;cases hj;exact⟨rfl,by simpa using hl⟩
def Wn{δ:Dv}{f:Dv→Option PD}{j:Int}(h:f δ=some (.int j))(h0:-1000000≤j)(h1:j≤1000000):DN HE (AB f AH) δ=some (Et 0 j.toNat):=by
 show(AB f AH δ).bind HE=_;rw [Ar h (show AH δ=some [] from rfl)];exact if_pos ⟨h0,h1⟩
def PR{n:Nat}{i:Int}(h:i.natAbs<2^n):Hg n i=true:=decide_eq_true h
def Xx{i j:Int}(h:Mg i j=true):FI (.int i) (.int j)=some (.int (i*j)):=by
 show Qu Vv VE (.int i) (.int j)=_;unfold Qu;rw [show Vv (.int i) (.int j)=some (.int (i*j)) from if_pos h]
def mul_r{i j:Int}(h:j.natAbs<2^64):FI (.int i) (.int j)=some (.int (i*j)):=Xx (by unfold Mg;rw [PR h];simp)
def mod_is{i j:Int}(h:0<j):GJ (.int i) (.int j)=some (.int (i % j)):=by
 show(if j≠0 then some (PyData.int (i.fmod j)) else none)=_;rw [if_pos (by omega),Int.fmod_eq_emod_of_nonneg _ (by omega)]
def Xk{i:Int}{n:Nat}(hn:n≤1000)(hi:Hg 64 i=true):L6 (.int i) (.int (n:Int))=some (.int (i^n)):=by
 show(if 0≤(n:Int)∧(n:Int)≤1000∧Hg 64 i=true then some (PyData.int (i^(n:Int).toNat)) else none)=_;rw [if_pos ⟨by omega,by omega,hi⟩,Int.toNat_natCast]
def Cg(ns:List Int):PD:=.dict [(.none,.list (ns.map .int))]
def Wc{H:Hp}{a:AD}{ns:List Int}(h:Rd H a (.lst (ns.map V.int))):Du H (Cg ns) (.ref a):=by unfold Cg;rw [Du];exact .inr (.inl ⟨a,ns,rfl,rfl,h⟩)
def RN(K:Fg):Bool:=K.all fun p=>match p.2.cls with|.type n=>n != "list" |_=>true
def NL{a:AD}{o:Obj}:∀ {K:Fg},K.lookup a=some o→(a,o)∈K
 |[],h=>by cases h
 |(b,u)::K,h=>by
  rw [List.lookup_cons]at h;split at h
  ·rename_i e;cases h;rw [show a=b from by simpa using e];exact .head _
  ·exact .tail _ (NL h)
def eC{K:Fg}{H:Hp}{a:AD}{xs:List V}(hK:RN K=true)(h:Al K H a xs):Rd H a (.lst xs):=by
 rcases h with h|⟨o,its,n,h1,h2,_⟩
 ·exact h
 ·unfold RN at hK;rw [List.all_eq_true]at hK;have:=hK _ (NL h1);rw [h2]at this;exact absurd this (by decide)
abbrev Vd(fs:Dv→Option (List PD)):DF:=fun δ=>(fs δ).map .rn
abbrev Zj(i:Nat):DF:=fun δ=>(ow i δ).map .rn
section
variable{X:Cx}{a b c e:Expr}{es:List Expr}{f g h:Dv→Option PD}{fs:Dv→Option (List PD)}{fa:Dv→Option Bool}{pos p:Pos}
def dJ{i:Nat}{x:Str}{np:Pos}(hv:PE X (.Name x np) (N6 i)):DS X (.Return (some (.Name x np)) pos) (Zj i):=by
 refine⟨_,BU hv,fun δ r h G0 H0 G H σ D R q=>?_⟩;obtain⟨xs,h1,rfl⟩:=aG.mp h;obtain⟨a,_,k1,k2,k3,k4,⟨ys,rfl,k5⟩⟩:=R.own i _ (O5 h1);exact⟨.ref a,k1,q a ys G H R.ext R.new R.ins R.keep k3 k2 k4 k5⟩
end
section
variable{X:Cx}{elt iter:Expr}{x y:Str}{px py tp pos spos:Pos}{tk:Nat}{ifs:List Expr}{scope:Scope}{fs:Dv→Option (List PD)}{tif:Dv→Option Bool}{f:Dv→Option PD}
def cg(N:List Str)(ix:Nat)(fr:List (Option Nat))(hi:DI X (.Name x px) iter fs)(hif:∀cl C s₀ H₀ fp,eU (A8 X scope cl N C s₀ H₀ fp) ifs tif)(he:∀cl C s₀ H₀ fp,DE (A8 X scope cl N C s₀ H₀ fp) elt f)
 (h1:DX scope N x ix=true:=by decide +kernel)(h2:X.calm=true:=by rfl)(h3:Fq N X.N scope X.env.scope fr 0=true:=by rfl)(h4:fr.length=N.length:=by rfl)(h5:freeOk X.env.scope scope.names=true:=by rfl)
 (hs:∀x,foldedSetIterable iter X.env x=pure x:=by intro _;rfl):DS X (.Return (some (.ListComp elt [⟨.Name x px,iter,ifs,0⟩] scope pos)) spos) (Vd (Gk (DD ix) tif f fr fs)):=by
 obtain⟨wi,pi,ki⟩:=hi;refine⟨_,BU (HG N ix fr pi hif (fun cl C s₀ H₀ fp=>(he cl C s₀ H₀ fp).pe) h1 h2 h3 h4 h5 hs),fun δ r h G0 H0 G H σ D R q=>?_⟩;obtain⟨zs,m1,rfl⟩:=aG.mp h;exact OG ki m1 R fun D' ys G' H' R' n1 n2 n3 n4 n5=>q _ _ _ _ R'.ext R'.new R'.ins R'.keep n3 n2 n1 n5
end
section
variable{P:Program}{w:World}{K:Fg}{mg:Str→Option VL}{base:Heap}{x:Str}{st:Stmt}{fA:AD}{fd:FuncData}{N ps:List Str}{k:Nat}
def cx{F:DF}{ds xs:List PD}(hl:ds.length=ps.length)(h:F (Jw N ds)=some (.rn xs)):Bt ps N F ds=some (.list xs):=by unfold Bt;rw [if_pos hl,h]
end
section
variable{F F1 F2:DF}{δ δ':Dv}{fs:Dv→Option (List PD)}{xs:List PD}{set:PD→Dv→Option Dv}{r:Option Ou}
def IQ{Q:Dv→Prop}(h:F1 δ=some (.nx δ'))(k:∃δ2,F2 δ'=some (.nx δ2)∧Q δ2):∃δ2,Aj F1 F2 δ=some (.nx δ2)∧Q δ2:=let⟨δ2,a,b⟩:=k;⟨δ2,Ay h a,b⟩
def Xc(Iv:Nat→Dv→Prop)(hx:fs δ=some xs)(h0:Iv 0 δ)(hs:∀(i:Nat) (x:PD) (δ:Dv),xs[i]? = some x→Iv i δ→∃δ1,set x δ=some δ1∧∃δ2,F δ1=some (.nx δ2)∧Iv (i+1) δ2) :
  ∃δ',Ci fs set F δ=some (.nx δ')∧Iv xs.length δ':=ZW Iv hx h0 fun i x δ a b=>let⟨δ1,c,δ2,e,g⟩:=hs i x δ a b;⟨δ1,δ2,c,e,g⟩
def Te(Iv:Nat→Dv→Prop)(hx:fs δ=some xs)(h0:Iv 0 δ)(hs:∀(i:Nat) (x:PD) (δ:Dv),xs[i]? = some x→Iv i δ→∃δ1,set x δ=some δ1∧∃δ2,F δ1=some (.nx δ2)∧Iv (i+1) δ2)
 (k:∀δ',Iv xs.length δ'→F2 δ'=r):Aj (Ci fs set F) F2 δ=r:=by
 obtain⟨δ',h1,h2⟩:=Xc Iv hx h0 hs;exact Ay h1 (k δ' h2)
def Us{Q:Dv→Prop}(Iv:Nat→Dv→Prop)(hx:fs δ=some xs)(h0:Iv 0 δ)(hs:∀(i:Nat) (x:PD) (δ:Dv),xs[i]? = some x→Iv i δ→∃δ1,set x δ=some δ1∧∃δ2,F δ1=some (.nx δ2)∧Iv (i+1) δ2)(hq:∀δ,Iv xs.length δ→Q δ) :
  ∃δ',Ci fs set F δ=some (.nx δ')∧Q δ':=let⟨δ',a,b⟩:=Xc Iv hx h0 hs;⟨δ',a,hq _ b⟩
end
end L2
set_option maxHeartbeats 2000000
set_option maxHeartbeats 1000000
set_option maxHeartbeats 4000000
namespace L2
open PySem PySem.Spec PyProof.Rows
def GT(H:Hp)(v:VL)(x:Tr):Prop:=∃a ys,v=.ref a∧H a=some (.tup ys)∧Ts H x ys
def VO(S:AD)(ev:Array (Int×VL))(ep:Nat)(t:SetTable):HO:=.ext fun h=>∃o,h.get? S=some o∧o.ExactSet∧o.data=.set ev ep t
abbrev gM(H:Hp)(p:Int×VL)(q:Int×Tr):Prop:=p.1=q.1∧q.2.deep<8∧GT H p.2 q.2
def Y2(H:Hp)(S:AD)(st:TH.ES×SetTable):Prop:=∃ev ep,H S=some (VO S ev ep st.2)∧PySem.Paired (gM H) ev.toList st.1.toList
def GT.same{H H':Hp}{v:VL}{x:Tr}(h:GT H v x)(e:AK H H'):GT H' v x:=let⟨a,ys,e1,e2,e3⟩:=h;⟨a,ys,e1,e _ _ e2,e3.same e⟩
structure Z9(w:World)(st:TH.ES×SetTable):Prop where
 fit:st.2.fits st.1.size=true
 plain:st.2.plain=true
 led:st.2.led=!w.params.followText "set-order"
 walk:TH.MS st.2 st.1.size=true
 small:st.1.size<64
section
variable{X:Cx}{pins:List (AD×Obj)}{σ:St}{H:Hp}{s:SD}
def WV(I:Inv X pins σ H s){v:VL}{x:Tr}(g:GT H v x):∃a its,v=.ref a∧s.heap.IsTuple a its.toArray∧TH.Vs s.heap x its:=by
 obtain⟨a,ys,rfl,h1,h2⟩:=g;obtain⟨its,r,p,_⟩:=I.tuple (A7.of (K:=X.K) h1);exact⟨a,its,rfl,p,h2.vs I r⟩
def RX(I:Inv X pins σ H s):∀ {t:Tr} {ys:List V} {us:List VL},Ts H t ys→Vals ys us→t.deep≤8→TH.Ic (GT H) s.heap us t.bs
 |.nil,ys,us,h,r,_=>by
  rw [Ts]at h;subst h;cases r;exact .nil
 |.cons b q,ys,us,h,r,hd=>by
  rw [Ts]at h;obtain⟨a,zs,rest,rfl,h1,h2,h3⟩:=h;rw [Tr.deep]at hd;cases r with
  |cons r1 r2 =>
   cases r1;have g:GT H (.ref a) b:=⟨a,zs,rfl,h1,h2⟩;exact .cons ⟨by omega,g,WV I g⟩ (RX I h3 r2 (by omega))
def Za(I:Inv X pins σ H s){l:List (Int×VL)}{m:List (Int×Tr)}(h:PySem.Paired (gM H) l m):PySem.Paired (TH.OD (GT H) s.heap) l m :=
 TH.Paired.imp (fun _ _ ⟨a,b,c⟩=>⟨a,b,c,WV I c⟩) h
def eL:∀ {us:List VL} {ts:List Tr},PySem.Paired (GT H) us ts→∃zs,Vals zs us∧Ts H (Tr.of ts) zs
 |_,_,.nil=>⟨[],.nil,by rw [Tr.of,Ts]⟩
 |_,_,.cons ⟨a,ys,e,h1,h2⟩ r=>by
  obtain⟨zs,r1,r2⟩:=eL r;subst e;exact⟨.ref a::zs,.cons rfl r1,by rw [Tr.of,Ts];exact⟨a,ys,zs,rfl,h1,h2,r2⟩⟩
def ik(w:World)(K:Fg):List V→Hp→VK→Prop:=fun xs H Q=>∃p ys t st,xs=[.ref p]∧Al K H p ys∧Ts H t ys∧t.deep≤8∧TH.MR (TH.KZ (!w.params.followText "set-order")) t.bs=some st ∧
 ∀S H',AK H H'→Y2 H' S st→Q (.ref S) H'
def WW(hc:X.calm=true)(hu:X.A.units+64<cLine):D4 X (.type "set") (ik X.w X.K):=by
 intro pins s σ H xs us Q I r h;obtain⟨p,ys,t,st,rfl,hq,ht,hd,hst,q⟩:=h;obtain⟨u,rfl,r1⟩:=r.one;cases r1;obtain⟨its,rv,pl,hz⟩:=I.list hq;refine TH.Tq (G:=GT H) (I.ok.hd hc) pl.isList (RX I ht rv hd) (by omega) hst fun h2 tk S2 k2=>?_;obtain⟨o,ev,ep,g1,g2,g3,g4⟩:=S2;have hf:=I.A0.fresh (aF s.heap.objs.size);have es:=AZ hf (VO s.heap.objs.size ev ep st.2);refine⟨.ref s.heap.objs.size,upd H s.heap.objs.size (VO s.heap.objs.size ev ep st.2),I.laid (t':=tk) k2 (aF _) ?_,rfl,q _ _ es ⟨ev,ep,AL,TH.Paired.imp (fun _ _ ⟨a,b,c,_⟩=>⟨a,b,c.same es⟩) g4⟩⟩;exact⟨⟨o,g1,g2,g3⟩,⟨o,g1⟩,fun h1 h2 ⟨o,q1,q2⟩ k=>⟨o,k _ q1,q2⟩⟩
def dY(I:Inv X pins σ H s){S:AD}{st:TH.ES×SetTable}(h:Y2 H S st)(ok:Z9 X.w st):∃o ev ep,s.heap.get? S=some o∧TH.Em X.w o ev ep st.2∧TH.DK (GT H) s.heap ev st.1:=by
 obtain⟨ev,ep,h1,h2⟩:=h;obtain⟨⟨o,g1,g2,g3⟩,_,_⟩:=(show Cb X.prog X.w H s.heap S (VO S ev ep st.2) from I.A0 S _ h1);have R:=Za I h2;have hz:ev.size=st.1.size:=TH.DK.size R;exact⟨o,ev,ep,g1,⟨g2,g3,by rw [hz];exact ok.fit,ok.plain,ok.led,by rw [hz];exact ok.walk⟩,R⟩
def iR(w:World):List V→Hp→VK→Prop:=fun xs H Q=>∃S st,xs=[.ref S]∧Y2 H S st∧Z9 w st∧∀(l:AD) (zs:List V),H l=none→zs.length<64→Ts H (Tr.of (Tr.CA (TH.Oq st)).reverse) zs→Q (.ref l) (upd H l (.lst zs))
def V9(hc:X.calm=true)(hu:X.A.units+64<cLine):D4 X (.builtin "sorted") (iR X.w):=by
 intro pins s σ H xs us Q I r h;obtain⟨S,st,rfl,hS,ok,q⟩:=h;obtain⟨u,rfl,r1⟩:=r.one;cases r1;obtain⟨o,ev,ep,g1,W,R⟩:=dY I hS ok;refine TH.VN (I.ok.hd hc) W g1 R ok.small (by omega) fun h' D tk e1 us hD k1 gD hp hl=>?_;obtain⟨zs,r1,r2⟩:=eL hp;have hz:zs.length<64:=by rw [r1.length];exact hl
 refine⟨.ref D,upd H D (.lst zs),I.laid (t':=tk) k1 hD ⟨bG (aK hz (by rw [sizeLine_eq];decide)),us,e1,r1,gD⟩,rfl,q D zs (I.A0.fresh hD) hz r2⟩
end
open PySem PyProof.Rows
end L2
set_option maxHeartbeats 1000000
namespace L2
open PySem PySem.Spec PyProof.Rows
def Od(led:Bool)(l z:List Tr):Bool:=match TH.MR (TH.KZ led) l with
 |some st=>decide ((Tr.CA (TH.Oq st)).reverse=z)&&st.2.fits st.1.size&&st.2.plain&&decide (st.2.led=led)&&TH.MS st.2 st.1.size&&decide (st.1.size<64)
 |none=>false
def ZO{led:Bool}{l z:List Tr}(h:Od led l z=true):∃st,TH.MR (TH.KZ led) l=some st∧(Tr.CA (TH.Oq st)).reverse=z∧st.2.fits st.1.size=true∧st.2.plain=true∧st.2.led=led∧TH.MS st.2 st.1.size=true∧st.1.size<64:=by
 unfold Od at h;split at h
 ·rename_i st e;simp only [Bool.and_eq_true,decide_eq_true_eq]at h;obtain⟨⟨⟨⟨⟨h1,h2⟩,h3⟩,h4⟩,h5⟩,h6⟩:=h;exact⟨st,e,h1,h2,h3,h4,h5,h6⟩
 ·cases h
def Vc(l:List Tr):List Tr:=match TH.MR (TH.KZ true) l with
 |some st=>(Tr.CA (TH.Oq st)).reverse
 |none=>[]
def Ir(t:Tr):Option PD:=if t.deep≤8∧Od true t.bs (Vc t.bs)=true∧Od false t.bs (Vc t.bs)=true then some (.list (Bg (Tr.of (Vc t.bs)))) else none
def LI:PD→Option PD
 |.list ds=>(Ec ds).bind Ir
 |_=>none
section
variable{X:Cx}{e:Expr}{f:Dv→Option PD}{pos p p2 pos2:Pos}
def O9(hc:X.calm=true)(hu:X.A.units+64<cLine)(hg:Gl X "sorted")(hm:X.mg "sorted" = none)(hg2:Gl X "set")(hm2:X.mg "set" = none)(ha:DE X e f)
 (hs1:starEach [e] X.env=(false,eval e X.env)::starEach [] X.env:=by rfl)(hs2:starEach [.Call (.Name "set" p2) [e] [] pos2] X.env=(false,eval (.Call (.Name "set" p2) [e] [] pos2) X.env)::starEach [] X.env:=by rfl)
 (hq1:(backTo pos2 (starEach [] X.env)).any (·.1)=false:=by rfl)(hq2:(backTo pos (starEach [] X.env)).any (·.1)=false:=by rfl) :
  DE X (.Call (.Name "sorted" p) [.Call (.Name "set" p2) [e] [] pos2] [] pos) (fun δ=>(f δ).bind LI):=by
 obtain⟨ta,pa,ka⟩:=ha;refine⟨_,BL (V9 hc hu) hg hm PyProof.Rows.boot_sorted (AI (QQ (WW hc hu) hg2 hm2 PyProof.Rows.boot_set (AI pa AR hs1) (by decide) (by decide) hs1 hq1) AR hs2) (by decide) (by decide) hs2 hq2,fun δ z hz G0 H0 G H σ ts Q R0 k=>?_⟩;obtain⟨y,h1,h2⟩:=aB.mp hz;refine ka δ y h1 G0 H0 G H σ ts _ R0 fun u G1 H1 R1=>?_;unfold LI at h2;split at h2
 ·rename_i ds;obtain⟨t,h3,h4⟩:=aB.mp h2;unfold Ir at h4;split at h4
  ·rename_i hh;cases h4;have hds:=Oo h3;have du:=R1.B8 (_,u) (.head _);obtain⟨bb,a,ys,rfl,n1,n2⟩:=MA du (show GX (.list ds)=some ds from rfl);have n1':H1 a=some (.lst ys):=by
    have:=R1.ins _ _ n1;cases bb
    ·simpa using this
    ·exact absurd n1 (by
      have du':=du;intro n1;rw [Du]at du';obtain⟨a',ys',e1,e2,_⟩:=du';cases e1;rw [e2]at n1;cases n1)
   rw [hds]at n2;have ht:=(MU n2).same R1.ins;have both:∀led,Od led t.bs (Vc t.bs)=true:=fun led=>by cases led;exact hh.2.2;exact hh.2.1
   obtain⟨st,r1,r2,r3,r4,r5,r6,r7⟩:=ZO (both (!X.w.params.followText "set-order"));refine⟨a,ys,t,st,rfl,Al.of n1',ht,hh.1,r1,fun S H' e1 hS=>⟨S,st,rfl,hS,⟨r3,r4,r5,r6,r7⟩,fun l zs hl hz ht'=>?_⟩⟩;rw [r2]at ht';have R2:=(R1.drop.on e1).BG;exact k _ _ _ (R2.N0 (OO ht') hl)
  ·cases h4
 ·cases h2
end
end L2
set_option maxHeartbeats 4000000
namespace ZT
open PySem PyProof.Rows
abbrev D0(h:Heap)(T:AD)(a b c:VL):Prop:=h.get? T=some { cls:=.type "tuple",data:=.seq #[a,b,c] }
section
variable{prog:Program}{w:World}{A:Around}{E:VL→SD→Prop}{s:SD}{z TI TO i1 i2 i3:AD}{f1 f2 f3:List AD}{n1 n2 n3 k:Nat}{P1 P2 P3:Nat→VL→Prop}{S1 S2 S3:Nat→Heap→Prop}{a b c:VL}
def put3{T:AD}{x:VL}{k:Nat}{Q:Unit→SD→Prop}(hT:D0 s.heap T a b c)
 (h:∀h',h'.get? T=some { cls:=.type "tuple",data:=.seq ((#[a,b,c]:Array VL).setIfInBounds k x) }→Heap.SameBut T s.heap h'→Q () { s with heap:=h' }):wpAny (model prog w) A (updateSeq T (·.setIfInBounds k x)) Q E s:=by
 refine wpAny_updateSeq hT rfl (h _ ?_ (af ..));rw [Heap.get?_update_self _ hT rfl];simp [Obj.mapSeq]
structure MV(z TI TO i1 i2 i3:Addr)(f1 f2 f3:List Addr):Prop where
 a1:TO≠z∧TO≠i1∧TO≠i2∧TO≠i3
 a2:i1≠z∧i2≠z∧i3≠z
 b1:z ∉ f1∧TO ∉ f1∧i2 ∉ f1∧i3 ∉ f1
 b2:z ∉ f2∧TO ∉ f2∧i1 ∉ f2∧i3 ∉ f2
 b3:z ∉ f3∧TO ∉ f3∧i1 ∉ f3∧i2 ∉ f3
def ig{Q:VL→SD→Prop}(D1:Draws prog w A i1 f1 n1 P1 S1)(D2:Draws prog w A i2 f2 n2 P2 S2)(D3:Draws prog w A i3 f3 n3 P3 S3)(ap:MV z TI TO i1 i2 i3 f1 f2 f3)(hz:IsZip s.heap z TI TO .none)(hI:D0 s.heap TI (.ref i1) (.ref i2) (.ref i3))(hO:D0 s.heap TO a b c)
 (t1:S1 k s.heap)(t2:S2 k s.heap)(t3:S3 k s.heap)(l1:k<n1)(l2:k<n2)(l3:k<n3)
 (q:∀x y u h' tk,P1 k x→P2 k y→P3 k u→IsZip h' z TI TO (rawInt s.heap.objs.size)→D0 h' TO x y u→S1 (k+1) h'→S2 (k+1) h'→S3 (k+1) h'→D0 h' s.heap.objs.size x y u→h'.objs.size=s.heap.objs.size+1 →
   (∀c o,c≠z→c≠TO→c≠i1→c≠i2→c≠i3→s.heap.get? c=some o→h'.get? c=some o)→Q (.ref s.heap.objs.size) { s with heap:=h',toks:=tk }) :
  wpAny (model prog w) A (Builtin.«zip.__next__» ⟨[.ref z],[]⟩) (fun fin s'=>∃v,fin=.done (.ret v)∧Q v s') E s:=by
 obtain⟨⟨c5,c6,c7,c7'⟩,⟨c8,c9,c9'⟩,⟨d1,d2,d3,d3'⟩,⟨d4,d5,d6,d6'⟩,e4,e5,e6,e6'⟩:=ap;show wpAny _ _ (field (.ref z) 2>>=_) _ _ _;refine Wb (aZ hz rfl (x:=.bool false) rfl ?_);show wpAny _ _ (field (.ref z) 3>>=_) _ _ _;refine Wb (aZ hz rfl (x:=.ref TI) rfl (Wb (aX hI rfl ?_)));show wpAny _ _ (Builtin.SmallTypes.ownedTupleIsFree (.ref z)>>=_) _ _ _;unfold Builtin.SmallTypes.ownedTupleIsFree;refine Wb (Wb (aZ hz rfl (x:=.none) rfl (aA ?_)));simp only [if_true];refine Wb (bP (Wb (aZ hz rfl (x:=.ref TO) rfl (Wb (ag hz (by simp) fun g1 z1 m1=>Wb ?_)))));have m1:Heap.SameBut z s.heap g1:=m1;have z1:IsZip g1 z TI TO .ellipsis:=z1;simp only [List.zipIdx_cons,List.zipIdx_nil,List.forIn_cons,List.forIn_nil];refine Wb (Wb (bK ?_));show wpAny _ _ (Builtin.SmallTypes.nextOf (.ref i1)>>=_) _ _ _;refine Wb (D1.item k _ _ _ l1 (D1.frame _ _ _ t1 (An d1 m1)) fun x g2 tk2 p1 u1 m2=>aA ?_);have m2:Heap.SameBut i1 g1 g2:=m2;have o2:D0 g2 TO a b c:=(m2.2 _ c6).trans ((m1.2 _ c5).trans hO);refine Wb (aX o2 rfl (Wb (put3 o2 fun g3 o3 m3=>Wb (wpAny_letGo (aA ?_)))));have o3:D0 g3 TO x b c:=o3;have m3:Heap.SameBut TO g2 g3:=m3;refine Wb (Wb (bK ?_));show wpAny _ _ (Builtin.SmallTypes.nextOf (.ref i2)>>=_) _ _ _;have t2':S2 k g3:=D2.frame _ _ _ (D2.frame _ _ _ (D2.frame _ _ _ t2 (An d4 m1)) (An d6 m2)) (An d5 m3);refine Wb (D2.item k _ _ _ l2 t2' fun y g4 tk4 p2 u2 m4=>aA ?_);have m4:Heap.SameBut i2 g3 g4:=m4;have o4:D0 g4 TO x b c:=(m4.2 _ c7).trans o3;refine Wb (aX o4 rfl (Wb (put3 o4 fun g5 o5 m5=>Wb (wpAny_letGo (aA ?_)))));have m5:Heap.SameBut TO g4 g5:=m5;have o5:D0 g5 TO x y c:=o5;refine Wb (Wb (bK ?_));show wpAny _ _ (Builtin.SmallTypes.nextOf (.ref i3)>>=_) _ _ _;have t3':S3 k g5:=D3.frame _ _ _ (D3.frame _ _ _ (D3.frame _ _ _ (D3.frame _ _ _ (D3.frame _ _ _ t3 (An e4 m1)) (An e6 m2)) (An e5 m3)) (An e6' m4)) (An e5 m5);refine Wb (D3.item k _ _ _ l3 t3' fun u g6 tk6 p3 u3 m6=>aA ?_);have m6:Heap.SameBut i3 g5 g6:=m6;have o6:D0 g6 TO x y c:=(m6.2 _ c7').trans o5;refine Wb (aX o6 rfl (Wb (put3 o6 fun g7 o7 m7=>Wb (wpAny_letGo (aA (aA ?_))))));have m7:Heap.SameBut TO g6 g7:=m7;have o7:D0 g7 TO x y u:=o7;refine Wb (aX o7 rfl (Wb (wpAny_newTuple ?_)));have sz:g7.objs.size=s.heap.objs.size:=by rw [m7.1,m6.1,m5.1,m4.1,m3.1,m2.1,m1.1]
 have z7:IsZip g7 z TI TO .ellipsis:=(m7.2 _ c5.symm).trans ((m6.2 _ c9'.symm).trans ((m5.2 _ c5.symm).trans ((m4.2 _ c9.symm).trans ((m3.2 _ c5.symm).trans ((m2.2 _ c8.symm).trans z1)))));have kp:∀c o,c≠z→c≠TO→c≠i1→c≠i2→c≠i3→s.heap.get? c=some o→g7.get? c=some o:=fun c o e1 e2 e3 e4 e5 e=>(m7.2 _ e2).trans ((m6.2 _ e5).trans ((m5.2 _ e2).trans ((m4.2 _ e4).trans ((m3.2 _ e2).trans ((m2.2 _ e3).trans ((m1.2 _ e1).trans e))))));have v1:S1 (k+1) g7:=D1.frame _ _ _ (D1.frame _ _ _ (D1.frame _ _ _ (D1.frame _ _ _ (D1.frame _ _ _ u1 (An d2 m3)) (An d3 m4)) (An d2 m5)) (An d3' m6)) (An d2 m7);have v2:S2 (k+1) g7:=D2.frame _ _ _ (D2.frame _ _ _ (D2.frame _ _ _ u2 (An d5 m5)) (An d6' m6)) (An d5 m7);have v3:S3 (k+1) g7:=D3.frame _ _ _ u3 (An e5 m7);show wpAny _ _ (Builtin.SmallTypes.ownedTupleHandOut (.ref z) (.ref g7.objs.size)>>=_) _ _ _;unfold Builtin.SmallTypes.ownedTupleHandOut;have z8:IsZip (g7.push { cls:=.type "tuple",data:=.seq #[x,y,u] }) z TI TO .ellipsis:=aC _ z7;refine Wb (Wb (ag z8 (by simp) fun g8 w8 m8=>ag (show IsZip g8 z TI TO (rawInt g7.objs.size) from w8) (by simp) fun g9 w9 m9=>?_));have w9:IsZip g9 z TI TO (rawInt g7.objs.size):=w9;have up:∀c o,c≠z→(g7.push { cls:=.type "tuple",data:=.seq #[x,y,u] }).get? c=some o→g9.get? c=some o:=fun c o e1 e=>(m9.2 _ e1).trans ((m8.2 _ e1).trans e);have zl:z<g7.objs.size:=aE z7;refine aA ⟨_,rfl,?_⟩;show Q (.ref g7.objs.size) _;have fin:=q x y u g9 tk6 p1 p2 p3 (by rw [←sz];exact w9) (up _ _ c5 (aC _ o7)) (D1.frame _ _ _ v1 fun c hc o e=>up c o (fun y=>d1 (y ▸ hc)) (aC _ e)) (D2.frame _ _ _ v2 fun c hc o e=>up c o (fun y=>d4 (y ▸ hc)) (aC _ e)) (D3.frame _ _ _ v3 fun c hc o e=>up c o (fun y=>e4 (y ▸ hc)) (aC _ e))
  (by rw [←sz];exact up _ _ (bS zl) (aH _ rfl)) (by rw [←sz,m9.1,m8.1,Heap.size_push]) fun c o e1 e2 e3 e4 e5 e=>up c o e1 (aC _ (kp c o e1 e2 e3 e4 e5 e))
 rw [sz];exact fin
def eF{Q:Fin→SD→Prop}(D1:Draws prog w A i1 f1 n1 P1 S1)(D2:Draws prog w A i2 f2 n2 P2 S2)(D3:Draws prog w A i3 f3 n3 P3 S3)(ap:MV z TI TO i1 i2 i3 f1 f2 f3)(hz:IsZip s.heap z TI TO .none)(hI:D0 s.heap TI (.ref i1) (.ref i2) (.ref i3))(hO:D0 s.heap TO a b c)
 (t1:S1 k s.heap)(t2:S2 k s.heap)(t3:S3 k s.heap)(he:k=n1∨(k<n1∧k=n2)∨(k<n1∧k<n2∧k=n3))
 (q:∀h' e tk,(∀c o,c≠z→c≠TO→c≠i1→c≠i2→c≠i3→s.heap.get? c=some o→h'.get? c=some o)→(∃o,h'.get? e=some o∧o.cls=.type "StopIteration")→E (.ref e) { s with heap:=h',toks:=tk }) :
  wpAny (model prog w) A (Builtin.«zip.__next__» ⟨[.ref z],[]⟩) Q E s:=by
 obtain⟨⟨c5,c6,c7,c7'⟩,⟨c8,c9,c9'⟩,⟨d1,d2,d3,d3'⟩,⟨d4,d5,d6,d6'⟩,e4,e5,e6,e6'⟩:=ap;show wpAny _ _ (field (.ref z) 2>>=_) _ _ _;refine Wb (aZ hz rfl (x:=.bool false) rfl ?_);show wpAny _ _ (field (.ref z) 3>>=_) _ _ _;refine Wb (aZ hz rfl (x:=.ref TI) rfl (Wb (aX hI rfl ?_)));show wpAny _ _ (Builtin.SmallTypes.ownedTupleIsFree (.ref z)>>=_) _ _ _;unfold Builtin.SmallTypes.ownedTupleIsFree;refine Wb (Wb (aZ hz rfl (x:=.none) rfl (aA ?_)));simp only [if_true];refine Wb (bP (Wb (aZ hz rfl (x:=.ref TO) rfl (Wb (ag hz (by simp) fun g1 z1 m1=>Wb ?_)))));have m1:Heap.SameBut z s.heap g1:=m1;have z1:IsZip g1 z TI TO .ellipsis:=z1;simp only [List.zipIdx_cons,List.zipIdx_nil,List.forIn_cons,List.forIn_nil];refine Wb (Wb (bK ?_));show wpAny _ _ (Builtin.SmallTypes.nextOf (.ref i1)>>=_) _ _ _;have t1':=D1.frame _ _ _ t1 (An d1 m1);rcases he with he|⟨he1,he2⟩|⟨he1,he2,he3⟩
 ·rw [he]at t1';refine Wb (D1.done _ _ _ t1' fun g2 e m2 ho=>?_);obtain⟨o,ho,hc⟩:=ho;have z2:IsZip g2 z TI TO .ellipsis:=m2 _ _ c8.symm z1;have ez:e≠z:=fun y=>by subst y;rw [z2]at ho;cases ho;simp at hc
  exact ag z2 (by simp) fun g3 _ m3=>q g3 e _ (fun c o e1 e2 e3 e4 e5 y=>(m3.2 _ e1).trans (m2 _ _ e3 ((m1.2 _ e1).trans y))) ⟨o,(m3.2 _ ez).trans ho,hc⟩
 ·refine Wb (D1.item k _ _ _ he1 t1' fun x g2 tk2 p1 u1 m2=>aA ?_);have m2:Heap.SameBut i1 g1 g2:=m2;have o2:D0 g2 TO a b c:=(m2.2 _ c6).trans ((m1.2 _ c5).trans hO);refine Wb (aX o2 rfl (Wb (put3 o2 fun g3 o3 m3=>Wb (wpAny_letGo (aA ?_)))));have m3:Heap.SameBut TO g2 g3:=m3;have t2':S2 k g3:=D2.frame _ _ _ (D2.frame _ _ _ (D2.frame _ _ _ t2 (An d4 m1)) (An d6 m2)) (An d5 m3);rw [he2]at t2';refine Wb (Wb (bK ?_));show wpAny _ _ (Builtin.SmallTypes.nextOf (.ref i2)>>=_) _ _ _;refine Wb (D2.done _ _ _ t2' fun g4 e m4 ho=>?_);obtain⟨o,ho,hc⟩:=ho;have z4:IsZip g4 z TI TO .ellipsis:=m4 _ _ c9.symm ((m3.2 _ c5.symm).trans ((m2.2 _ c8.symm).trans z1));have ez:e≠z:=fun y=>by subst y;rw [z4]at ho;cases ho;simp at hc
  exact ag z4 (by simp) fun g5 _ m5=>q g5 e _ (fun c o e1 e2 e3 e4 e5 y=>(m5.2 _ e1).trans (m4 _ _ e4 ((m3.2 _ e2).trans ((m2.2 _ e3).trans ((m1.2 _ e1).trans y))))) ⟨o,(m5.2 _ ez).trans ho,hc⟩
 ·refine Wb (D1.item k _ _ _ he1 t1' fun x g2 tk2 p1 u1 m2=>aA ?_);have m2:Heap.SameBut i1 g1 g2:=m2;have o2:D0 g2 TO a b c:=(m2.2 _ c6).trans ((m1.2 _ c5).trans hO);refine Wb (aX o2 rfl (Wb (put3 o2 fun g3 o3 m3=>Wb (wpAny_letGo (aA ?_)))));have m3:Heap.SameBut TO g2 g3:=m3;have o3:D0 g3 TO x b c:=o3;have t2':S2 k g3:=D2.frame _ _ _ (D2.frame _ _ _ (D2.frame _ _ _ t2 (An d4 m1)) (An d6 m2)) (An d5 m3);refine Wb (Wb (bK ?_));show wpAny _ _ (Builtin.SmallTypes.nextOf (.ref i2)>>=_) _ _ _;refine Wb (D2.item k _ _ _ he2 t2' fun y g4 tk4 p2 u2 m4=>aA ?_);have m4:Heap.SameBut i2 g3 g4:=m4;have o4:D0 g4 TO x b c:=(m4.2 _ c7).trans o3;refine Wb (aX o4 rfl (Wb (put3 o4 fun g5 o5 m5=>Wb (wpAny_letGo (aA ?_)))));have m5:Heap.SameBut TO g4 g5:=m5;have t3':S3 k g5:=D3.frame _ _ _ (D3.frame _ _ _ (D3.frame _ _ _ (D3.frame _ _ _ (D3.frame _ _ _ t3 (An e4 m1)) (An e6 m2)) (An e5 m3)) (An e6' m4)) (An e5 m5);rw [he3]at t3';refine Wb (Wb (bK ?_));show wpAny _ _ (Builtin.SmallTypes.nextOf (.ref i3)>>=_) _ _ _;refine Wb (D3.done _ _ _ t3' fun g6 e m6 ho=>?_);obtain⟨o,ho,hc⟩:=ho;have z6:IsZip g6 z TI TO .ellipsis:=m6 _ _ c9'.symm ((m5.2 _ c5.symm).trans ((m4.2 _ c9.symm).trans ((m3.2 _ c5.symm).trans ((m2.2 _ c8.symm).trans z1))));have ez:e≠z:=fun y=>by subst y;rw [z6]at ho;cases ho;simp at hc
  exact ag z6 (by simp) fun g7 _ m7=>q g7 e _ (fun c o e1 e2 e3 e4 e5 y=>(m7.2 _ e1).trans (m6 _ _ e5 ((m5.2 _ e2).trans ((m4.2 _ e4).trans ((m3.2 _ e2).trans ((m2.2 _ e3).trans ((m1.2 _ e1).trans y))))))) ⟨o,(m7.2 _ ez).trans ho,hc⟩
def Vw{Q:Option VL→SD→Prop}(D1:Draws prog w A.in1 i1 f1 n1 P1 S1)(D2:Draws prog w A.in1 i2 f2 n2 P2 S2)(D3:Draws prog w A.in1 i3 f3 n3 P3 S3)(ap:MV z TI TO i1 i2 i3 f1 f2 f3)(hz:IsZip s.heap z TI TO .none)(hI:D0 s.heap TI (.ref i1) (.ref i2) (.ref i3))(hO:D0 s.heap TO a b c)
 (t1:S1 k s.heap)(t2:S2 k s.heap)(t3:S3 k s.heap)(l1:k<n1)(l2:k<n2)(l3:k<n3)
 (q:∀x y u h' tk,P1 k x→P2 k y→P3 k u→IsZip h' z TI TO (rawInt s.heap.objs.size)→D0 h' TO x y u→S1 (k+1) h'→S2 (k+1) h'→S3 (k+1) h'→D0 h' s.heap.objs.size x y u→h'.objs.size=s.heap.objs.size+1 →
   (∀c o,c≠z→c≠TO→c≠i1→c≠i2→c≠i3→s.heap.get? c=some o→h'.get? c=some o)→Q (some (.ref s.heap.objs.size)) { s with heap:=h',toks:=tk }) :
  wpAny (model prog w) A (pyNext (.ref z)) Q E s:=by
 have hT:s.TypeIs (.ref z) "zip" := ⟨_,hz,rfl⟩;unfold pyNext;exact Wb (wpAny_attempt (aa (name:=Str.ofString "__next__") hT bT
  (aT bT hT F.entry_zip_next (ig D1 D2 D3 ap hz hI hO t1 t2 t3 l1 l2 l3 fun x y u h' tk r1 r2 r3 r4 r5 r6 r7 r8 r9 r10 r11=>aA (q x y u h' tk r1 r2 r3 r4 r5 r6 r7 r8 r9 r10 r11)) (F.args_zip_next_1 _))))
def XW{Q:Option VL→SD→Prop}(D1:Draws prog w A.in1 i1 f1 n1 P1 S1)(D2:Draws prog w A.in1 i2 f2 n2 P2 S2)(D3:Draws prog w A.in1 i3 f3 n3 P3 S3)(ap:MV z TI TO i1 i2 i3 f1 f2 f3)(hz:IsZip s.heap z TI TO .none)(hI:D0 s.heap TI (.ref i1) (.ref i2) (.ref i3))(hO:D0 s.heap TO a b c)
 (t1:S1 k s.heap)(t2:S2 k s.heap)(t3:S3 k s.heap)(he:k=n1∨(k<n1∧k=n2)∨(k<n1∧k<n2∧k=n3))
 (q:∀h' tk,(∀c o,c≠z→c≠TO→c≠i1→c≠i2→c≠i3→s.heap.get? c=some o→h'.get? c=some o)→Q none { s with heap:=h',toks:=tk }) :
  wpAny (model prog w) A (pyNext (.ref z)) Q E s:=by
 have hT:s.TypeIs (.ref z) "zip" := ⟨_,hz,rfl⟩;unfold pyNext;refine Wb (wpAny_attempt (aa (name:=Str.ofString "__next__") hT bT
  (aT bT hT F.entry_zip_next (eF D1 D2 D3 ap hz hI hO t1 t2 t3 he fun h' e tk kp ho=>?_) (F.args_zip_next_1 _))))
 obtain⟨o,ho,hc⟩:=ho;exact Wb (wpAny_isInstance (T := "StopIteration") (b:=true) ⟨o,ho,hc⟩ isSubtype_stop (aA (q _ _ kp)))
abbrev L1(a b c:VL):Obj:={ cls:=.type "tuple",data:=.seq #[a,b,c] }
def hU(b1 b2 b3:Bool)(h:Heap)(l1 l2 l3:AD):Heap :=
 (((((h.push (BC b1 l1)).push (BC b2 l2)).push (BC b3 l3)).push (L1 (.ref h.objs.size) (.ref (h.push (BC b1 l1)).objs.size) (.ref ((h.push (BC b1 l1)).push (BC b2 l2)).objs.size))).push (L1 .none .none .none)).push
  { cls:=.type "zip",data:=.fields #[.none,.bool false,.bool false,.ref (((h.push (BC b1 l1)).push (BC b2 l2)).push (BC b3 l3)).objs.size,.ref ((((h.push (BC b1 l1)).push (BC b2 l2)).push (BC b3 l3)).push (L1 (.ref h.objs.size) (.ref (h.push (BC b1 l1)).objs.size) (.ref ((h.push (BC b1 l1)).push (BC b2 l2)).objs.size))).objs.size] }
def Yn(b1 b2 b3:Bool)(l1 l2 l3:AD)(xs ys zs:List VL) :
  Meets (Builtin.«zip.__new__» ⟨[.type "zip",.ref l1,.ref l2,.ref l3],[]⟩) (fun _ R s=>Sq b1 s.heap l1 xs∧Sq b2 s.heap l2 ys∧Sq b3 s.heap l3 zs ∧
   R (.ok (.ret (.ref (((((s.heap.push (BC b1 l1)).push (BC b2 l2)).push (BC b3 l3)).push (L1 (.ref s.heap.objs.size) (.ref (s.heap.push (BC b1 l1)).objs.size) (.ref ((s.heap.push (BC b1 l1)).push (BC b2 l2)).objs.size))).push (L1 .none .none .none)).objs.size))) { s with heap:=hU b1 b2 b3 s.heap l1 l2 l3 }) :=
 .of_wp fun prog w A R s h=>by
  obtain⟨hp,g,d,tk,os⟩:=s;obtain⟨h1,h2,h3,h⟩:=h;have hsub:=sub_zip;have i1:∀(A:Around) (E:VL→SD→Prop) (Q:VL→SD→Prop),Q (.ref hp.objs.size) ⟨hp.push (BC b1 l1),g,d,tk,os⟩→wpAny (model prog w) A (pyIter (.ref l1)) Q E ⟨hp,g,d,tk,os⟩:=fun A E Q q=>Kd (s:=⟨hp,g,d,tk,os⟩) h1 q;have i2:∀(A:Around) (E:VL→SD→Prop) (Q:VL→SD→Prop),Q (.ref (hp.push (BC b1 l1)).objs.size) ⟨(hp.push (BC b1 l1)).push (BC b2 l2),g,d,tk,os⟩→wpAny (model prog w) A (pyIter (.ref l2)) Q E ⟨hp.push (BC b1 l1),g,d,tk,os⟩:=fun A E Q q=>Kd (s:=⟨hp.push (BC b1 l1),g,d,tk,os⟩) (h2.push _) q;have i3:∀(A:Around) (E:VL→SD→Prop) (Q:VL→SD→Prop),Q (.ref ((hp.push (BC b1 l1)).push (BC b2 l2)).objs.size) ⟨((hp.push (BC b1 l1)).push (BC b2 l2)).push (BC b3 l3),g,d,tk,os⟩→wpAny (model prog w) A (pyIter (.ref l3)) Q E ⟨(hp.push (BC b1 l1)).push (BC b2 l2),g,d,tk,os⟩:=fun A E Q q=>Kd (s:=⟨(hp.push (BC b1 l1)).push (BC b2 l2),g,d,tk,os⟩) ((h3.push _).push _) q
  wp_walk using i1,i2,i3
  exact⟨_,rfl,h⟩
def dc(a b c:VL):checkTypeCall "zip" ⟨[a,b,c],[]⟩=pure ():=by kernel_rfl
def cq(a b c:VL):checkBuiltinCall "zip.__new__" ⟨[.type "zip",a,b,c],[]⟩=pure ():=by kernel_rfl
def dM(a b c d:VL):argsOk "object.__init__" ⟨[a,b,c,d],[]⟩:=by
 unfold argsOk;rw [signature?_of (n:=['_','_','t','i','n','i','_','_']) (o:=['t','c','e','j','b','o']) (by kernel_rfl) F.owner_object]
 kernel_rfl
def Xd{b1 b2 b3:Bool}{l1 l2 l3:AD}{xs ys zs:List VL}{Q:VL→SD→Prop}(h1:Sq b1 s.heap l1 xs)(h2:Sq b2 s.heap l2 ys)(h3:Sq b3 s.heap l3 zs)
 (h:∀h',IsZip h' (s.heap.objs.size+5) (s.heap.objs.size+3) (s.heap.objs.size+4) .none→D0 h' (s.heap.objs.size+3) (.ref s.heap.objs.size) (.ref (s.heap.objs.size+1)) (.ref (s.heap.objs.size+2))→D0 h' (s.heap.objs.size+4) .none .none .none →
   Ij b1 h' s.heap.objs.size l1 0→Ij b2 h' (s.heap.objs.size+1) l2 0→Ij b3 h' (s.heap.objs.size+2) l3 0→(∀c o,s.heap.get? c=some o→h'.get? c=some o)→Q (.ref (s.heap.objs.size+5)) { s with heap:=h' }) :
  wpAny (model prog w) A (call (.type "zip") [.ref l1,.ref l2,.ref l3]) Q E s:=by
 refine callType_new F.called_zip (by decide) (dc _ _ _) (cq _ _ _) (fun obj=>dM obj _ _ _) F.entry_zip_new (Yn b1 b2 b3 l1 l2 l3 xs ys zs) ⟨h1,h2,h3,?_⟩;have up:∀(g:Heap) (o:Obj) (c:AD) (u:Obj),g.get? c=some u→(g.push o).get? c=some u:=fun g o c u e=>aC _ e;have n1:(s.heap.push (BC b1 l1)).objs.size=s.heap.objs.size+1:=Heap.size_push ..;have a0:(s.heap.push (BC b1 l1)).get? s.heap.objs.size=some (BC b1 l1):=aH _ (by cases b1<;>rfl);generalize hg1:s.heap.push (BC b1 l1)=g1 at n1 a0;have k1:∀c o,s.heap.get? c=some o→g1.get? c=some o:=fun c o e=>by rw [←hg1];exact up _ _ _ _ e
 have n2:(g1.push (BC b2 l2)).objs.size=s.heap.objs.size+2:=by rw [Heap.size_push,n1]
 have a1:(g1.push (BC b2 l2)).get? (s.heap.objs.size+1)=some (BC b2 l2):=by rw [←n1];exact aH _ (by cases b2<;>rfl)
 generalize hg2:g1.push (BC b2 l2)=g2 at n2 a1;have k2:∀c o,g1.get? c=some o→g2.get? c=some o:=fun c o e=>by rw [←hg2];exact up _ _ _ _ e
 have n3:(g2.push (BC b3 l3)).objs.size=s.heap.objs.size+3:=by rw [Heap.size_push,n2]
 have a2:(g2.push (BC b3 l3)).get? (s.heap.objs.size+2)=some (BC b3 l3):=by rw [←n2];exact aH _ (by cases b3<;>rfl)
 generalize hg3:g2.push (BC b3 l3)=g3 at n3 a2;have k3:∀c o,g2.get? c=some o→g3.get? c=some o:=fun c o e=>by rw [←hg3];exact up _ _ _ _ e
 have n4:(g3.push (L1 (.ref s.heap.objs.size) (.ref (s.heap.objs.size+1)) (.ref (s.heap.objs.size+2)))).objs.size=s.heap.objs.size+4:=by rw [Heap.size_push,n3]
 have a3:D0 (g3.push (L1 (.ref s.heap.objs.size) (.ref (s.heap.objs.size+1)) (.ref (s.heap.objs.size+2)))) (s.heap.objs.size+3) (.ref s.heap.objs.size) (.ref (s.heap.objs.size+1)) (.ref (s.heap.objs.size+2)):=by rw [←n3];exact aH _ rfl
 generalize hg4:g3.push (L1 (.ref s.heap.objs.size) (.ref (s.heap.objs.size+1)) (.ref (s.heap.objs.size+2)))=g4 at n4 a3;have k4:∀c o,g3.get? c=some o→g4.get? c=some o:=fun c o e=>by rw [←hg4];exact up _ _ _ _ e
 have n5:(g4.push (L1 .none .none .none)).objs.size=s.heap.objs.size+5:=by rw [Heap.size_push,n4]
 have a4:D0 (g4.push (L1 .none .none .none)) (s.heap.objs.size+4) .none .none .none:=by rw [←n4];exact aH _ rfl
 generalize hg5:g4.push (L1 .none .none .none)=g5 at n5 a4;have k5:∀c o,g4.get? c=some o→g5.get? c=some o:=fun c o e=>by rw [←hg5];exact up _ _ _ _ e
 have ez:hU b1 b2 b3 s.heap l1 l2 l3=g5.push { cls:=.type "zip",data:=.fields #[.none,.bool false,.bool false,.ref (s.heap.objs.size+3),.ref (s.heap.objs.size+4)] }:=by
  unfold hU;rw [hg1,hg2,hg3,n1,n2,hg4,hg5,n3,n4]
 have a5:IsZip (g5.push { cls:=.type "zip",data:=.fields #[.none,.bool false,.bool false,.ref (s.heap.objs.size+3),.ref (s.heap.objs.size+4)] }) (s.heap.objs.size+5) (s.heap.objs.size+3) (s.heap.objs.size+4) .none:=by rw [←n5];exact aH _ rfl
 rw [n1,n2,hg4,hg5,n5,ez];show _∧_;have k6:∀c o,g5.get? c=some o→(g5.push { cls:=.type "zip",data:=.fields #[.none,.bool false,.bool false,.ref (s.heap.objs.size+3),.ref (s.heap.objs.size+4)] }).get? c=some o:=fun c o e=>up _ _ _ _ e;refine⟨⟨_,a5,rfl⟩,h _ a5 (k6 _ _ (k5 _ _ a3)) (k6 _ _ a4) ?_ ?_ ?_ fun c o e=>k6 _ _ (k5 _ _ (k4 _ _ (k3 _ _ (k2 _ _ (k1 _ _ e)))))⟩
 ·have:=k6 _ _ (k5 _ _ (k4 _ _ (k3 _ _ (k2 _ _ a0))));cases b1 with
  |true=>exact⟨_,this,rfl,rfl⟩
  |false=>exact⟨_,this,rfl,rfl⟩
 ·have:=k6 _ _ (k5 _ _ (k4 _ _ (k3 _ _ a1)));cases b2 with
  |true=>exact⟨_,this,rfl,rfl⟩
  |false=>exact⟨_,this,rfl,rfl⟩
 ·have:=k6 _ _ (k5 _ _ (k4 _ _ a2));cases b3 with
  |true=>exact⟨_,this,rfl,rfl⟩
  |false=>exact⟨_,this,rfl,rfl⟩
end
end ZT
namespace L2
open PySem PySem.Spec PyProof.Rows
def ZX(b1 b2 b3:Bool)(a1 a2 a3:AD):It :=
 ⟨fun i H=>∃xs x ys y zs u,CP b1 H a1 xs∧CP b2 H a2 ys∧CP b3 H a3 zs∧xs[i]? = some x∧ys[i]? = some y∧zs[i]? = some u,
  fun i H v H'=>∃p x y u,v=.ref p∧H p=none∧H'=upd H p (.tup [x,y,u])∧(∀xs,CP b1 H a1 xs→xs[i]? = some x)∧(∀ys,CP b2 H a2 ys→ys[i]? = some y)∧∀zs,CP b3 H a3 zs→zs[i]? = some u,
  fun i H=>∃xs ys zs,CP b1 H a1 xs∧CP b2 H a2 ys∧CP b3 H a3 zs∧(i=xs.length∨(i<xs.length∧i=ys.length)∨(i<xs.length∧i<ys.length∧i=zs.length))⟩
def jn(b1 b2 b3:Bool)(a1 a2 a3 z TI TO i1 i2 i3:AD):Nat→Heap→Prop:=fun i h=>IsZip h z TI TO .none∧ZT.D0 h TI (.ref i1) (.ref i2) (.ref i3)∧(∃a b c,ZT.D0 h TO a b c)∧ZT.Ij b1 h i1 a1 i∧ZT.Ij b2 h i2 a2 i∧ZT.Ij b3 h i3 a3 i
def Xf{z TI TO i1 i2 i3 a1 a2 a3:AD}(ne:[z,TI,TO,i1,i2,i3].Nodup)(e1:∀b∈[z,TI,TO,i1,i2,i3],a1≠b)(e2:∀b∈[z,TI,TO,i1,i2,i3],a2≠b)(e3:∀b∈[z,TI,TO,i1,i2,i3],a3≠b):ZT.MV z TI TO i1 i2 i3 [i1,a1] [i2,a2] [i3,a3]:=by
 simp only [List.nodup_cons,List.mem_cons,List.not_mem_nil,or_false,not_or]at ne;obtain⟨⟨n1,n2,n3,n4,n4'⟩,⟨n5,n6,n7,n7'⟩,⟨n8,n9,n9'⟩,⟨n10,n11⟩,n12,_⟩:=ne;have x:∀ {a:AD},(∀b∈[z,TI,TO,i1,i2,i3],a≠b)→z≠a∧TO≠a∧i1≠a∧i2≠a∧i3≠a:=fun h=>⟨Ne.symm (h z (by simp)),Ne.symm (h TO (by simp)),Ne.symm (h i1 (by simp)),Ne.symm (h i2 (by simp)),Ne.symm (h i3 (by simp))⟩;have m:∀ {b i a:AD},b≠i→b≠a→b ∉ [i,a]:=fun h1 h2=>by simp [h1,h2]
 obtain⟨x1,x2,x3,x4,x5⟩:=x e1;obtain⟨y1,y2,y3,y4,y5⟩:=x e2;obtain⟨w1,w2,w3,w4,w5⟩:=x e3;exact⟨⟨Ne.symm n2,n8,n9,n9'⟩,⟨Ne.symm n3,Ne.symm n4,Ne.symm n4'⟩,⟨m n3 x1,m n8 x2,m (Ne.symm n10) x4,m (Ne.symm n11) x5⟩,⟨m n4 y1,m n9 y2,m n10 y3,m (Ne.symm n12) y5⟩,⟨m n4' w1,m n9' w2,m n11 w3,m n12 w4⟩⟩
def XD{P:Program}{w:World}{K:Fg}{elts:List Expr}{x1}{pos:Pos}{b1 b2 b3:Bool}{a1 a2 a3 z TI TO i1 i2 i3:AD}(ne:[z,TI,TO,i1,i2,i3].Nodup) :
  Turn P w K (.Tuple elts x1 pos) (ZX b1 b2 b3 a1 a2 a3) [z,TI,TO,i1,i2,i3] z (jn b1 b2 b3 a1 a2 a3 z TI TO i1 i2 i3) where
 mem:=by simp
 obj:=fun i h st b hb=>by
  obtain⟨h1,h2,⟨u,v,w,h3⟩,h4,h5,h6⟩:=st;have hb:b=z∨b=TI∨b=TO∨b=i1∨b=i2∨b=i3:=by simpa using hb
  rcases hb with rfl|rfl|rfl|rfl|rfl|rfl
  ·exact⟨_,h1,fun v y=>by cases y⟩
  ·exact⟨_,h2,fun v y=>by cases y⟩
  ·exact⟨_,h3,fun v y=>by cases y⟩
  ·exact Es h4
  ·exact Es h5
  ·exact Es h6
 keep:=fun i h h' st k=>by
  obtain⟨h1,h2,⟨u,v,w,h3⟩,h4,h5,h6⟩:=st;exact⟨k z (by simp) _ h1,k TI (by simp) _ h2,⟨u,v,w,k TO (by simp) _ h3⟩,D7 h4 fun o e=>k i1 (by simp) o e,D7 h5 fun o e=>k i2 (by simp) o e,D7 h6 fun o e=>k i3 (by simp) o e⟩
 item:=by
  intro X hP hw hK hc i pins s σ H E I hf st hg;subst hP hw hK;obtain⟨xs,x,ys,y,zs,t,q1,q2,q3,hx,hy,ht⟩:=hg;obtain⟨us,rv1,p1⟩:=q1.raw I;obtain⟨vs,rv2,p2⟩:=q2.raw I;obtain⟨ws,rv3,p3⟩:=q3.raw I;obtain⟨u,hu,ru⟩:=rv1.get hx;obtain⟨v,hv,rv⟩:=rv2.get hy;obtain⟨o3,hw,rw'⟩:=rv3.get ht;obtain⟨t1,t2,⟨ta,tb,tc,t3⟩,t4,t5,t6⟩:=st;have e1:∀b∈[z,TI,TO,i1,i2,i3],a1≠b:=fun b hb=>q1.none (hf b hb).1;have e2:∀b∈[z,TI,TO,i1,i2,i3],a2≠b:=fun b hb=>q2.none (hf b hb).1;have e3:∀b∈[z,TI,TO,i1,i2,i3],a3≠b:=fun b hb=>q3.none (hf b hb).1;refine ZT.Vw (ZT.EC (prog:=X.prog) (w:=X.w) (A:=X.A.in1) (I.ok.hd hc) b1 i1 a1 us (e1 i1 (by simp))) (ZT.EC (prog:=X.prog) (w:=X.w) (A:=X.A.in1) (I.ok.hd hc) b2 i2 a2 vs (e2 i2 (by simp))) (ZT.EC (prog:=X.prog) (w:=X.w) (A:=X.A.in1) (I.ok.hd hc) b3 i3 a3 ws (e3 i3 (by simp))) (Xf ne e1 e2 e3) t1 t2 t3 ⟨t4,p1⟩ ⟨t5,p2⟩ ⟨t6,p3⟩ (aD.mp hu).1 (aD.mp hv).1 (aD.mp hw).1
   fun u' v' w' h' tk r1 r2 r2' r3 r4 r5 r6 r6' r7 r8 r9=>⟨_,rfl,wpAny_letOwnedTupleGo_zip (s:={ s with heap:=h',toks:=tk }) r3 fun h'' z'' sb=>?_⟩
  rw [hu]at r1;rw [hv]at r2;rw [hw]at r2';cases r1;cases r2;cases r2';have ne':=ne;simp only [List.nodup_cons,List.mem_cons,List.not_mem_nil,or_false,not_or]at ne';obtain⟨⟨n1,n2,n3,n4,n4'⟩,⟨n5,n6,n7,n7'⟩,⟨n8,n9,n9'⟩,⟨n10,n11⟩,n12,_⟩:=ne';have keep:∀b o,b ∉ [z,TI,TO,i1,i2,i3]→s.heap.get? b=some o→h''.get? b=some o:=fun b o hb q=>by
   simp only [List.mem_cons,List.not_mem_nil,or_false,not_or]at hb;exact(sb.2 b hb.1).trans (r9 b o hb.1 hb.2.2.1 hb.2.2.2.1 hb.2.2.2.2.1 hb.2.2.2.2.2 q)
  have lt:∀b∈[z,TI,TO,i1,i2,i3],b<s.heap.objs.size:=fun b hb=>by
   have hb:b=z∨b=TI∨b=TO∨b=i1∨b=i2∨b=i3:=by simpa using hb
   rcases hb with rfl|rfl|rfl|rfl|rfl|rfl
   ·exact aE t1
   ·exact aE t2
   ·exact aE t3
   ·obtain⟨o,e,_⟩:=Es t4;exact aE e
   ·obtain⟨o,e,_⟩:=Es t5;exact aE e
   ·obtain⟨o,e,_⟩:=Es t6;exact aE e
  have hTn:H s.heap.objs.size=none:=I.A0.fresh (aF _);have hT'':h''.get? s.heap.objs.size=some { cls:=.type "tuple",data:=.seq #[u,v,o3] }:=(sb.2 _ (bS (lt z (by simp)))).trans r7;have neT:∀b o,s.heap.get? b=some o→b≠s.heap.objs.size:=fun b o q=>aJ (aE q);have EX:∀b o,H b=some o→b ∉ [z,TI,TO,i1,i2,i3]:=fun b o q hb=>by rw [(hf b hb).1]at q;cases q
  refine⟨.ref s.heap.objs.size,upd H s.heap.objs.size (.tup [x,y,t]),?_,rfl,⟨_,x,y,t,rfl,hTn,rfl,fun zs hz=>by rw [hz.inj q1];exact hx,fun zs hz=>by rw [hz.inj q2];exact hy,fun zs hz=>by rw [hz.inj q3];exact ht⟩,⟨z'',?_,⟨u,v,o3,?_⟩,?_,?_,?_⟩,fun b hb=>?_⟩
  ·show Inv X pins σ _ { s with heap:=h'',gens:=s.gens,drawn:=s.drawn,toks:=tk };refine I.step (h':=h'') (g':=s.gens) (d':=s.drawn) (t':=tk) (ch:=[z,TI,TO,i1,i2,i3]) (fun b hb=>?_) (fun b o _ _ hc q _=>keep b o hc q) (fun b o _ _ hc q _=>⟨o.slots,keep b o hc q⟩)
    (fun b o _ q n=>by rw [AJ (neT b o q)];exact n) (fun b o hc q=>⟨o,keep b o hc q⟩) (fun b ys q=>by rw [AJ (AU q hTn)];exact q) (fun b o u q=>by rw [AJ (AU q hTn)];exact q)
    (fun b ps q=>⟨#[],by rw [AJ (AU q hTn),q];simp⟩) (fun m hm=>?_) (fun b o q=>?_) I.bare
   ·obtain⟨_,f1,_,f3,f4,f5⟩:=hf b hb;exact⟨f3,f1,f4,f5⟩
   ·obtain⟨o,es,ep,ho,r⟩:=hm;exact⟨o,es,ep,keep _ o (fun hb=>(hf _ hb).2.1 rfl) ho,r⟩
   ·by_cases hb:b=s.heap.objs.size
    ·subst hb;rw [AL]at q;cases q;exact⟨show 3≤sizeLine by decide,[u,v,o3],.cons ru (.cons rv (.cons rw' .nil)),_,hT'',rfl,_,rfl⟩
    ·rw [AJ hb]at q;refine(I.A0 b o q).Hs (fun c w hc r=>keep c w ?_ r) (fun c r=>by rw [AJ (AU r hTn)];exact r) fun c ys r=>by rw [AJ (AU r hTn)];exact r
     rcases hc with rfl|hc
     ·exact EX _ _ q
     ·exact EX _ _ hc
  ·exact(sb.2 _ (Ne.symm n1)).trans (r9 _ _ (Ne.symm n1) n5 n6 n7 n7' t2)
  ·exact(sb.2 _ (Ne.symm n2)).trans r4
  ·exact D7 r5.1 fun o e=>(sb.2 _ (Ne.symm n3)).trans e
  ·exact D7 r6.1 fun o e=>(sb.2 _ (Ne.symm n4)).trans e
  ·exact D7 r6'.1 fun o e=>(sb.2 _ (Ne.symm n4')).trans e
  ·rw [AJ (aJ (lt b hb))];exact(hf b hb).1
 done:=by
  intro X hP hw hK hc i pins s σ H E I hf st hg;subst hP hw hK;obtain⟨xs,ys,zs,q1,q2,q3,he⟩:=hg;obtain⟨us,rv1,p1⟩:=q1.raw I;obtain⟨vs,rv2,p2⟩:=q2.raw I;obtain⟨ws,rv3,p3⟩:=q3.raw I;obtain⟨t1,t2,⟨ta,tb,tc,t3⟩,t4,t5,t6⟩:=st;have e1:∀b∈[z,TI,TO,i1,i2,i3],a1≠b:=fun b hb=>q1.none (hf b hb).1;have e2:∀b∈[z,TI,TO,i1,i2,i3],a2≠b:=fun b hb=>q2.none (hf b hb).1;have e3:∀b∈[z,TI,TO,i1,i2,i3],a3≠b:=fun b hb=>q3.none (hf b hb).1;have he':i=us.length∨(i<us.length∧i=vs.length)∨(i<us.length∧i<vs.length∧i=ws.length):=by rw [←rv1.length,←rv2.length,←rv3.length];exact he
  refine ZT.XW (ZT.EC (prog:=X.prog) (w:=X.w) (A:=X.A.in1) (I.ok.hd hc) b1 i1 a1 us (e1 i1 (by simp))) (ZT.EC (prog:=X.prog) (w:=X.w) (A:=X.A.in1) (I.ok.hd hc) b2 i2 a2 vs (e2 i2 (by simp))) (ZT.EC (prog:=X.prog) (w:=X.w) (A:=X.A.in1) (I.ok.hd hc) b3 i3 a3 ws (e3 i3 (by simp))) (Xf ne e1 e2 e3) t1 t2 t3 ⟨t4,p1⟩ ⟨t5,p2⟩ ⟨t6,p3⟩ he' fun h' tk kp=>⟨rfl,?_⟩;have keep:∀b o,b ∉ [z,TI,TO,i1,i2,i3]→s.heap.get? b=some o→h'.get? b=some o:=fun b o hb q=>by
   simp only [List.mem_cons,List.not_mem_nil,or_false,not_or]at hb;exact kp b o hb.1 hb.2.2.1 hb.2.2.2.1 hb.2.2.2.2.1 hb.2.2.2.2.2 q
  have EX:∀b o,H b=some o→b ∉ [z,TI,TO,i1,i2,i3]:=fun b o q hb=>by rw [(hf b hb).1]at q;cases q
  show Inv X pins σ _ { s with heap:=h',gens:=s.gens,drawn:=s.drawn,toks:=tk };refine I.step (h':=h') (g':=s.gens) (d':=s.drawn) (t':=tk) (ch:=[z,TI,TO,i1,i2,i3]) (fun b hb=>?_) (fun b o _ _ hc q _=>keep b o hc q) (fun b o _ _ hc q _=>⟨o.slots,keep b o hc q⟩)
    (fun b o _ q n=>n) (fun b o hc q=>⟨o,keep b o hc q⟩) (fun b ys q=>q) (fun b o u q=>q)
    (fun b ps q=>⟨#[],by rw [q];simp⟩) (fun m hm=>?_) (fun b o q=>?_) I.bare
  ·obtain⟨_,f1,_,f3,f4,f5⟩:=hf b hb;exact⟨f3,f1,f4,f5⟩
  ·obtain⟨o,es,ep,ho,r⟩:=hm;exact⟨o,es,ep,keep _ o (fun hb=>(hf _ hb).2.1 rfl) ho,r⟩
  ·refine(I.A0 b o q).Hs (fun c w hc r=>keep c w ?_ r) (fun c r=>r) fun c ys r=>r;rcases hc with rfl|hc
   ·exact EX _ _ q
   ·exact EX _ _ hc
 self:=fun _ _ _ _ _ st h=>wpAny_pyIter_zip st.1 h
def ij(ta:TA):TI:=fun σ H R=>ta σ H fun vs H1=>∃(b1 b2 b3:Bool) (a1 a2 a3:AD),vs=[.ref a1,.ref a2,.ref a3]∧(∃xs,CP b1 H1 a1 xs)∧(∃ys,CP b2 H1 a2 ys)∧(∃zs,CP b3 H1 a3 zs)∧R (ZX b1 b2 b3 a1 a2 a3) H1
def cM{X:Cx}{elts:List Expr}{x1}{tpos:Pos}{a b c:Expr}{ta:TA}{p pos:Pos}(hg:Gl X "zip")(hm:X.mg "zip" = none)(ha:PA X [a,b,c] ta)(hs:starEach [a,b,c] X.env=[(false,eval a X.env),(false,eval b X.env),(false,eval c X.env)]:=by rfl)(hs2:starEach [b,c] X.env=[(false,eval b X.env),(false,eval c X.env)]:=by rfl) :
  PI X (.Tuple elts x1 tpos) (.Call (.Name "zip" p) [a,b,c] [] pos) (ij ta):=by
 intro pins s σ H R I h;refine Call_ (Fs I hg hm boot_zip (av (BN (ha pos pins s σ H _ I h) fun us s1 ⟨vs,H1,I1,r1,q1⟩=>?_) (by rw [hs,hs2]) (by rw [hs2];rfl)));obtain⟨b1,b2,b3,l1,l2,l3,e,⟨xs,h1⟩,⟨ys,h2⟩,⟨zs,h3⟩,q⟩:=q1;subst e;cases r1 with
 |cons r rr =>
  cases rr with
  |cons r' rr =>
   cases rr with
   |cons r'' rr =>
    cases rr;cases r;cases r';cases r'';obtain⟨us,_,p1⟩:=h1.raw I1;obtain⟨vs,_,p2⟩:=h2.raw I1;obtain⟨ws,_,p3⟩:=h3.raw I1;refine ZT.Xd p1 p2 p3 fun h' z1 z2 z3 z4 z5 z6 hk=>wpAny_pyIter_zip z1 ?_;have I2:Inv X pins σ H1 { s1 with heap:=h' }:=I1.kept (t':=s1.toks) hk;refine⟨_,[s1.heap.objs.size+5,s1.heap.objs.size+3,s1.heap.objs.size+4,s1.heap.objs.size,s1.heap.objs.size+1,s1.heap.objs.size+2],_,_,H1,rfl,I2,XD ?_,⟨z1,z2,⟨_,_,_,z3⟩,z4,z5,z6⟩,fun b hb=>?_,q⟩
    ·simp
    have hb':s1.heap.objs.size≤b:=by
     have hb2:b=s1.heap.objs.size+5∨b=s1.heap.objs.size+3∨b=s1.heap.objs.size+4∨b=s1.heap.objs.size∨b=s1.heap.objs.size+1∨b=s1.heap.objs.size+2:=by simpa using hb
     rcases hb2 with h|h|h|h|h|h<;>rw [h]<;>first|exact aF _|exact Nat.le_add_right _ _
    exact I1.Nr hb' (I1.A0.fresh hb')
def JW(xs ys zs:List PD):List PD:=(xs.zip (ys.zip zs)).map fun q=>.tuple [q.1,q.2.1,q.2.2]
def QK{xs ys zs:List PD}{i:Nat}{d:PD}(h:(JW xs ys zs)[i]? = some d):∃x y z,xs[i]? = some x∧ys[i]? = some y∧zs[i]? = some z∧d=.tuple [x,y,z]:=by
 unfold JW at h;rw [List.getElem?_map]at h;obtain⟨q,h1,rfl⟩:=aG.mp h;obtain⟨k1,k2⟩:=List.getElem?_zip_eq_some.mp h1;obtain⟨k3,k4⟩:=List.getElem?_zip_eq_some.mp k2;exact⟨q.1,q.2.1,q.2.2,k1,k3,k4,rfl⟩
def cP{Gc H:Hp}{p:AD}{x y z:PD}{u v w:V}(e2:AK Gc H)(hp:H p=none)(d1:Du Gc x u)(d2:Du Gc y v)(d3:Du Gc z w):∃Gc',AK Gc Gc'∧Nw Gc H Gc'∧AK Gc' (upd H p (.tup [u,v,w]))∧AK H (upd H p (.tup [u,v,w]))∧Du Gc' (.tuple [x,y,z]) (.ref p):=by
 have hG:Gc p=none:=by
  cases q:Gc p with
  |none=>rfl
  |some o=>rw [e2 _ _ q]at hp;cases hp
 have e:AK Gc (upd Gc p (.tup [u,v,w])):=AZ hG _;refine⟨upd Gc p (.tup [u,v,w]),e,fun b o h=>?_,fun b o h=>?_,AZ hp _,?_⟩
 ·by_cases hb:b=p
  ·subst hb;exact .inr (.inl hp)
  ·rw [AJ hb]at h;exact .inl h
 ·by_cases hb:b=p
  ·subst hb;rw [AL]at h ⊢;exact h
  ·rw [AJ hb]at h ⊢;exact e2 _ _ h
 ·rw [Du];exact⟨p,_,rfl,AL,.cons (d1.same e) (.cons (d2.same e) (.cons (d3.same e) .nil))⟩
def cW{G:Hp}{b1 b2 b3:Bool}{a1 a2 a3:AD}{us vs ws:List V}{xs ys zs:List PD}(h1:G a1=some (if b1 then .tup us else .lst us))(h2:G a2=some (if b2 then .tup vs else .lst vs))(h3:G a3=some (if b3 then .tup ws else .lst ws))(d1:Ao G xs us)(d2:Ao G ys vs)(d3:Ao G zs ws):Ky (ZX b1 b2 b3 a1 a2 a3) (JW xs ys zs) G where
 stop:=fun H e=>by
  have k1:=e _ _ h1;have k2:=e _ _ h2;have k3:=e _ _ h3;refine⟨us,vs,ws,?_,?_,?_,?_⟩
  ·cases b1<;>simpa [CP]using k1
  ·cases b2<;>simpa [CP]using k2
  ·cases b3<;>simpa [CP]using k3
  ·rw [d1.len,d2.len,d3.len];simp [JW];omega
 go:=fun i x H hx e=>by
  obtain⟨x1,x2,x3,k1,k2,k3,rfl⟩:=QK hx;obtain⟨v1,j1,_⟩:=d1.get k1;obtain⟨v2,j2,_⟩:=d2.get k2;obtain⟨v3,j3,_⟩:=d3.get k3;have m1:=e _ _ h1;have m2:=e _ _ h2;have m3:=e _ _ h3;refine⟨us,v1,vs,v2,ws,v3,?_,?_,?_,j1,j2,j3⟩
  ·cases b1<;>simpa [CP]using m1
  ·cases b2<;>simpa [CP]using m2
  ·cases b3<;>simpa [CP]using m3
 Eh:=fun i x H v H' hx e y Gc e1 e2=>by
  obtain⟨x1,x2,x3,k1,k2,k3,rfl⟩:=QK hx;obtain⟨p,v1,v2,v3,rfl,hp,rfl,y1,y2,y3⟩:=y;have m1:=e _ _ h1;have m2:=e _ _ h2;have m3:=e _ _ h3;have z1:=y1 us (by cases b1<;>simpa [CP]using m1);have z2:=y2 vs (by cases b2<;>simpa [CP]using m2);have z3:=y3 ws (by cases b3<;>simpa [CP]using m3);obtain⟨w1,n1,n2⟩:=d1.back z1;obtain⟨w2,n3,n4⟩:=d2.back z2;obtain⟨w3,n5,n6⟩:=d3.back z3;rw [k1]at n1;cases n1;rw [k2]at n3;cases n3;rw [k3]at n5;cases n5;exact cP e2 hp (n2.same e1) (n4.same e1) (n6.same e1)
def Pp:List PD→Option (List PD)
 |[x,y,z]=>(GX x).bind fun xs=>(GX y).bind fun ys=>(GX z).map fun zs=>JW xs ys zs
 |_=>none
section
variable{X:Cx}{a b c:Expr}{fs:Dv→Option (List PD)}{pos p:Pos}
def cc{elts:List Expr}{x1}{tpos:Pos}(hg:Gl X "zip")(hm:X.mg "zip" = none)(ha:DA X [a,b,c] fs)(hs:starEach [a,b,c] X.env=[(false,eval a X.env),(false,eval b X.env),(false,eval c X.env)]:=by rfl)(hs2:starEach [b,c] X.env=[(false,eval b X.env),(false,eval c X.env)]:=by rfl) :
  DI X (.Tuple elts x1 tpos) (.Call (.Name "zip" p) [a,b,c] [] pos) (fun δ=>(fs δ).bind Pp):=by
 obtain⟨t,p,k⟩:=ha;refine⟨_,cM hg hm p hs hs2,fun δ xs h G0 H0 G H σ ts R R0 q=>?_⟩;obtain⟨x,h1,h2⟩:=aB.mp h;refine k δ _ h1 G0 H0 G H σ ts _ R0 fun vs G' H' R' hv=>?_;obtain⟨d,R2⟩:=R'.args hv;unfold Pp at h2;split at h2
 ·obtain⟨xs1,h3,h4⟩:=aB.mp h2;obtain⟨ys1,h5,h6⟩:=aB.mp h4;obtain⟨zs1,h7,rfl⟩:=aG.mp h6;obtain⟨v1,r1,rfl,du,d⟩:=d.un;obtain⟨v2,r2,rfl,dv,d⟩:=d.un;obtain⟨w,rfl,dw⟩:=d.Gs;obtain⟨b1,a1,us,rfl,n1,n2⟩:=MA du h3;obtain⟨b2,a2,vs,rfl,m1,m2⟩:=MA dv h5;obtain⟨b3,a3,ws,rfl,o1,o2⟩:=MA dw h7;have s1:=R2.ins _ _ n1;have s2:=R2.ins _ _ m1;have s3:=R2.ins _ _ o1;exact⟨b1,b2,b3,a1,a2,a3,rfl,⟨us,by cases b1<;>simpa [CP]using s1⟩,⟨vs,by cases b2<;>simpa [CP]using s2⟩,⟨ws,by cases b3<;>simpa [CP]using s3⟩,q _ _ _ R2 (cW n1 m1 o1 n2 m2 o2)⟩
 ·cases h2
def SW(i j l:Nat)(y:PD)(δ:Dv):Option Dv:=match y with
 |.tuple [u,v,w]=>some (((δ.set i (.d u)).set j (.d v)).set l (.d w))
 |_=>none
def Yd{x y z:Str}{i j l:Nat}{px py pz:Pos}{k1}(h:PG X (.Tuple [.Name x px,.Name y py,.Name z pz] k1 pos) (Vu X.K 3 (Jh (EG i) (Jh (EG j) (Jh (EG l) Vt))))):DG X (.Tuple [.Name x px,.Name y py,.Name z pz] k1 pos) (SW i j l):=by
 refine⟨_,h,fun δ z δ' e G0 H0 G H σ v Q R k=>?_⟩;unfold SW at e;split at e
 ·cases e;have du:=R.B8 _ (.head _);rw [Du]at du;obtain⟨a,ys,rfl,n1,n2⟩:=du;obtain⟨w1,r1,rfl,m1,n2⟩:=n2.un;obtain⟨w2,r2,rfl,m2,n2⟩:=n2.un;obtain⟨w3,rfl,m3⟩:=n2.Gs;refine⟨a,[w1,w2,w3],rfl,A7.of (R.ins _ _ n1),rfl,w1,[w2,w3],rfl,w2,[w3],rfl,w3,[],rfl,rfl,?_⟩;exact k _ _ _ ((((R.drop.put m3).put m2).put m1).Ir.Ir.Ir)
 ·cases e
end
end L2
set_option maxHeartbeats 1000000
set_option maxHeartbeats 4000000
set_option maxHeartbeats 1000000
set_option maxHeartbeats 4000000
set_option maxHeartbeats 1000000
set_option maxHeartbeats 4000000
set_option maxHeartbeats 1000000
set_option maxHeartbeats 4000000
namespace Opn
open PySem PySem.W PyProof.Rows PySem.Calls
noncomputable def q0:Pos:=⟨0,0,0,0⟩
noncomputable def jf:Obj:={ cls:=.type "tuple",data:=.seq #[] }
noncomputable def je:Obj:={ cls:=.none,data:=.fields #[] }
noncomputable def jb:Obj:={ cls:=.type "code",data:=.fields #[.str (Str.ofString "<module>") 182,.str (Str.ofString "<module>") 183,.str (Str.ofString "/claim/cut.py") 184,.int 1 0,.int 0 0,.int 0 0,.int 0 0,.int 0 0,.ref 11,.bool false,.int 181 0,.ref 12,.none,.none,.none,.none,.int 185 0,.int 1 0,.str (Str.ofString "/claim/cut.py") 186] }
noncomputable def jY:Obj:={ cls:=.type "frame",slots:=#[some (.ref 13),some (.ref 3),some (.ref 3),none,some (.str (Str.ofString "__main__") 164),none,some (.ref 0)] }
noncomputable def jQ(P:Params):List Obj:=(boot_heap P).objs.toList++[jf,je,jb,jY]
noncomputable def nN(P:Params)(o:Params→Obj)(l r:BT):BT:=.node (o P) l r
noncomputable def lN(P:Params)(o:Params→Obj):BT:=.node (o P) .nil .nil
noncomputable def jI(P:Params):BT :=
 nN P boot_o_0 (nN P boot_o_1 (nN P boot_o_3 (lN P boot_o_7) (.node jf .nil .nil)) (nN P boot_o_5 (lN P boot_o_9) (.node jb .nil .nil)))
  (nN P boot_o_2 (nN P boot_o_4 (lN P boot_o_8) (.node je .nil .nil)) (nN P boot_o_6 (lN P boot_o_10) (.node jY .nil .nil)))
noncomputable def Z6:Life:=Life.mk [] [] [] 0 [] [] false #[] [] 0 false false false 0 [2000,10,10] false 0 true [] [] 0 false
noncomputable def sA(w:World)(os:OsState):SD:=⟨⟨⟨jQ w.params⟩,Z6⟩,#[],boot_drawn,187,os⟩
noncomputable def sB(w:World)(os:OsState):SharedT:=⟨jI w.params,15,Z6,#[],boot_drawn,187,os⟩
noncomputable def Nl(p:Program):Env:={ scope:=p.main.scope,locals:=mainNs,globals:=mainNs,cells:=[],code:=.ref 13,frame:=some 14 }
noncomputable def cB(p:Program):Code:=.body (behindTheImports p) (Nl p)
noncomputable abbrev Ht:Option VL:=some (.ref 6)
noncomputable abbrev bB:List Frame:=[topFrame q0]
noncomputable def VX(p:Program)(M:Nat)(w:World)(os:OsState):Option (Flow×SharedT×Code×Pos) :=
 PySem.W.Fast.tw10110043849684766642 PySem.W.Fast.tw14364793385576792824 p w 11 Ht 1 M (sB w os) (piecesOf (behindTheImports p) (Nl p) (cB p) q0 bB)
noncomputable def VH(p:Program)(M:Nat)(w:World)(os:OsState):SharedT:=match VX p M w os with|some (_,s,_)=>s|none=>sB w os
def cF{p:Program}{M:Nat}{w:World}{os:OsState}{r:Option (Flow×SharedT×Code×Pos)}(h:VX p M w os=r) :
  segRunT treeTable p w 11 Ht 1 M (sB w os) (piecesOf (behindTheImports p) (Nl p) (cB p) q0 bB)=r:=by
 have e:segRunT treeTable=PySem.W.Fast.tw10110043849684766642 PySem.W.Fast.tw14364793385576792824:=congr PySem.W.Fast.te10110043849684766642 PySem.W.Fast.te14364793385576792824;rw [e];exact h
def gc{p:Program}{M M0:Nat}{posE:Pos}{w:World}{os:OsState}
 (pre:topGo treeTable p w 11 Ht 12 ⟨boot_heap w.params,#[],boot_drawn,boot_toks,os⟩ (topStub p)=some (sA w os,⟨denote treeTable (cB p),cB p,q0,bB⟩))
 (blk:segRun treeTable p w 11 Ht 1 1 (sA w os) (blockOf (behindTheImports p) (Nl p) (cB p) q0 bB)=some (.next,(sB w os).abs,cB p,q0))
 (seg:VX p M w os=some (.next,VH p M w os,cB p,posE))
 (fin:∀s,topRun treeTable p w 11 Ht 2 s (restOf [] (Nl p) (cB p) posE bB)=some s)(hM:M0=12+(1+(M+2))) :
  topRun treeTable p w 11 Ht M0 ⟨boot_heap w.params,#[],boot_drawn,boot_toks,os⟩ (topStub p)=some (VH p M w os).abs:=by
 subst hM;refine go_top pre (piece_block blk ?_);have h:=piece_app (rest:=[]) (segRun_of (cF seg)) (fin _);rw [List.append_nil]at h;exact h
def cT{p q:Program}{loose:List Str}{Xt:SD→Bool}{α:Type}{Yf:SD→α}{Ya:World→α}{N M:Nat}{S:World→OsState→SD}
 (open_:∀w:World,(fencedOpening treeTable p w N).map (fun s=>(s.heap,s.gens,s.drawn,s.toks))=some (boot_heap w.params,#[],boot_drawn,boot_toks))
 (size:∀w:World,((boot_heap w.params).isNs mainGlobals&&(#[]:Array GenState).size==0,(boot_heap w.params).objs.size,(boot_heap w.params).nsMap mainGlobals "__annotations__")=(true,11,Ht))
 (run:∀w os,topRun treeTable p w 11 Ht M ⟨boot_heap w.params,#[],boot_drawn,boot_toks,os⟩ (topStub p)=some (S w os))(le:Nat.ble M N=true)
 (ok:∀w os,(staticsOk (importedModules p.main.body) (boot_heap w.params) (S w os).heap&&namesBound p (S w os).heap&&gensDone (S w os)&&laidKept (boot_heap w.params) (S w os).heap)=true)
 (seen:∀w os,openSeen q loose (importedModules p.main.body) Xt true (S w os)=openGood q loose)
 (hY:∀w os,Yf (S w os)=Ya w):LeftO p q loose Xt Yf Ya N:=fun w=>by
 obtain⟨⟨h,gs,d,k,os⟩,e,e'⟩:=aG.mp (open_ w);obtain⟨rfl,rfl,rfl,rfl⟩:h=boot_heap w.params∧gs=#[]∧d=boot_drawn∧k=boot_toks:=by simpa using e'
 obtain⟨z1,z2,z3⟩:_∧_∧_:=by simpa only [Prod.mk.injEq]using size w
 have l1:=ok w os;have r:=topRun_mono (N-M) _ _ _ _ (run w os);rw [show M+(N-M)=N by have:=Nat.le_of_ble_eq_true le;omega]at r;have t:topFrom treeTable p w N ⟨boot_heap w.params,#[],boot_drawn,boot_toks,os⟩=some (S w os):=by
  unfold topFrom;dsimp only;rw [z1,z2,z3,r];show(match staticsOk (importedModules p.main.body) (boot_heap w.params) (S w os).heap&&namesBound p (S w os).heap&&gensDone (S w os)&&laidKept (boot_heap w.params) (S w os).heap with|true=>_|false=>_)=_;rw [l1]
 unfold openEnds;rw [e];show(topFrom treeTable p w N _).map _=_;rw [t];exact bM some (Prod.ext (seen w os) (hY w os))
def jL(w:World):((boot_heap w.params).isNs mainGlobals&&(#[]:Array GenState).size==0,(boot_heap w.params).objs.size,(boot_heap w.params).nsMap mainGlobals "__annotations__")=(true,11,Ht):=by kernel_rfl
end Opn
namespace Q48
open PySem L2
def top(i:Nat):Stmt:=PySem.Challenge.pw_stepgrove_k48_orders_of_tables.main.body.getD i (.Pass ⟨0,0,0,0⟩)
abbrev Hw:Stmt:=top 6
abbrev Hl:Stmt:=top 7
abbrev FD:Stmt:=top 8
abbrev LB:Stmt:=top 9
abbrev C1:Stmt:=top 10
abbrev Gj:Stmt:=top 11
abbrev K1:Stmt:=top 12
abbrev Kr:Stmt:=top 15
abbrev EH:Stmt:=top 16
abbrev LC:Stmt:=top 17
abbrev Ko:Stmt:=top 20
abbrev FL:Stmt:=top 21
abbrev Dc:Stmt:=top 22
abbrev GC:Stmt:=top 23
abbrev FH:Stmt:=top 24
abbrev Jt:Stmt:=top 26
abbrev HD:Stmt:=top 27
abbrev G6:Stmt:=top 29
abbrev GV:Stmt:=top 30
abbrev K9:Stmt:=top 31
abbrev L3:Stmt:=top 32
abbrev Hx:Stmt:=top 35
abbrev G5:Stmt:=top 36
abbrev G9:Stmt:=top 38
abbrev ED:Stmt:=top 39
abbrev HP:Stmt:=top 41
abbrev Fz:Stmt:=top 42
abbrev Kp:Stmt:=top 43
abbrev K4:Stmt:=top 44
abbrev Jq:Stmt:=top 46
abbrev Hh:Stmt:=top 47
abbrev Ii:Stmt:=top 48
abbrev GR:Stmt:=top 49
abbrev Gz:Stmt:=top 50
abbrev JJ:Stmt:=top 51
abbrev Ge:Stmt:=top 52
abbrev JI:Stmt:=top 53
abbrev Hv:Stmt:=top 54
abbrev Jx:Stmt:=top 55
abbrev JO:Stmt:=top 56
abbrev Jr:Stmt:=top 57
abbrev Ho:Stmt:=top 58
abbrev LH:Stmt:=top 59
abbrev LL:Stmt:=top 60
abbrev Zv:Stmt:=top 61
def Uj{n:String}:QC (.ty n)≠.none:=fun z=>nomatch z
def V7:Sp:=fun vs H Q _=>∃a b,vs=[.int a,.int b]∧Q (.int (FM.gi a b)) H
def TN:Sp:=fun vs H Q _=>∃t b m,vs=[.int t,.int b]∧b≠0∧m≤9000∧b.natAbs<2^m∧∀l H',AK H H'→H' l=some (.tup (Lq (Rat.divInt t b)))→Q (.ref l) H'
section
variable{P:Program}{w:World}{K:Fg}{mg:Str→Option VL}{base:Heap}{f g:AD}{fd gd:FuncData}
def Lk:Ac ["one", "other", "greater", "lesser", "rest"] ["one", "other"] (AQ C1):=B3
def jV(σ:St):Nat:=match σ[3]? with|some (some (V.int l))=>l.natAbs|_=>0
def Lm(F:Fn K mg "greatest_divisor" C1 ["one", "other"] f fd)(JT:mg "abs" = none):AM P w K mg base Ab 1 f fd ["one", "other"] V7:=by
 have sc:=Lk;refine F.F.ok (k:=0) sc (fun vs H Q E h=>?_) (fun cdv A outer s H vs Q E hr h=>?_)
 ·obtain⟨a,b,rfl,_⟩:=h
  rfl
 obtain⟨a,b,rfl,q⟩:=h;refine⟨_,(AY (BK (i:=2) sc.nd rfl (Or.inl rfl) (BL Kw rfl JT PyProof.Rows.boot_abs (AI (pv 0) AR)))
 (AY (BK (i:=3) sc.nd rfl (Or.inl rfl) (BL Kw rfl JT PyProof.Rows.boot_abs (AI (pv 1) AR)))
 (AY (Nm aM (CC RI (pv 3) Ad (A6 _))
  (AY (BK (i:=4) sc.nd rfl (Or.inl rfl) (BP KA (pv 2) (pv 3)))
  (AY (BK (i:=2) sc.nd rfl (Or.inl rfl) (pv 3))
  (Ah (BK (i:=3) sc.nd rfl (Or.inl rfl) (pv 4))))))
 (Ah (BU (pv 2)))))),?_⟩
 refine⟨_,rfl,_,rfl,_,rfl,_,rfl,?_⟩;refine OA (fun σ H'=>∃g l r,σ=[some (.int a),some (.int b),some (.int g),some (.int l),r]∧H=H'∧Int.gcd g l=Int.gcd a b∧0≤g∧0≤l) (fun σ _=>jV σ) ?_ ?_ ?_
 ·exact⟨_,_,_,rfl,rfl,FM.Ud a b,FM.abs_nonneg a,FM.abs_nonneg b⟩
 ·rintro σ H' ⟨g,l,r,rfl,rfl,hg,h0,h1⟩;refine⟨_,rfl,rfl,_,rfl,DP (fun c=>?_) (fun c=>?_)⟩
  ·have hl:l≠0:=fun z=>by subst z;simp at c
   refine⟨_,rfl,_,rfl,_,_,rfl,rfl,hl,_,rfl,_,rfl,⟨_,_,_,rfl,rfl,?_,h1,FM.fmod_nonneg hl h1⟩,?_⟩
   ·rw [FM.TR];exact hg
   ·exact FM.QI g l hl
  ·have hl:l=0:=by simpa using c
   subst hl;refine⟨_,rfl,?_⟩;rw [FM.XY hg h0];exact q
 ·exact fun σ H Q Q' hq ⟨v,e,s,k,e2,q⟩=>⟨v,e,s,k,e2,hq _ _ q⟩
def P8:Ac ["top", "bottom", "shared"] ["top", "bottom"] (AQ Hw):=B3
def P4(F:Fn K mg "fraction_of" Hw ["top", "bottom"] f fd)(BQ:Fn K mg "greatest_divisor" C1 ["one", "other"] g gd)
 (Cw:AM P w K mg base Ab 1 g gd ["one", "other"] V7):AM P w K mg base Ab 2 f fd ["top", "bottom"] TN:=by
 have sc:=P8;refine F.F.ok (k:=1) sc (fun vs H Q E h=>?_) (fun cdv A outer s H vs Q E hr h=>?_)
 ·obtain⟨t,b,m,rfl,_⟩:=h
  rfl
 obtain⟨t,b,m,rfl,hb,hm,hs,q⟩:=h;refine⟨_,(AY (Dw (CC Mh (pv 1) Ad (A6 _))
  (Ah SG)
  CI)
 (AY (BK (i:=2) sc.nd rfl (Or.inl rfl) (B4 BQ Cw hr rfl (AI (pv 0) (AI (pv 1) AR))))
 (AY (Dw (CC RO (pv 1) Ad (A6 _))
  (Ah (BK (i:=2) sc.nd rfl (Or.inl rfl) (Vn SY (pv 2))))
  CI)
 (Ah (BU (Ip (AI (BP F8 (pv 0) (pv 2)) (AI (BP F8 (pv 1) (pv 2)) AR)))))))),?_⟩
 refine⟨_,rfl,rfl,_,rfl,DP (fun c=>absurd c (by simpa using hb)) (fun _=>?_)⟩;refine⟨_,rfl,_,rfl,t,b,rfl,?_⟩
 try dsimp only [EG]
 refine NY (fun σ' H'=>σ'=[some (.int t),some (.int b),some (.int (FM.gs t b))]∧H=H') (fun nx hn=>?_) ?_
 ·refine⟨_,rfl,_,_,rfl,rfl,_,rfl,DP (fun c=>?_) (fun c=>?_)⟩
  ·have c':b<0:=aj c;refine⟨_,rfl,_,rfl,hn _ _ ⟨?_,rfl⟩⟩;unfold FM.gs;rw [if_pos c']
   rfl
  ·have c':¬b<0:=bH (ar.mpr c);refine hn _ _ ⟨?_,rfl⟩;unfold FM.gs;rw [if_neg c']
   rfl
 ·rintro σ' H' ⟨rfl,rfl⟩;have h0:FM.gs t b≠0:=FM.Zh hb;have h1:(FM.gs t b).natAbs<2^m:=ae (FM.Zq hb) hs;refine⟨_,rfl,_,rfl,_,_,rfl,rfl,⟨h0,m,hm,h1⟩,_,rfl,_,rfl,_,_,rfl,rfl,⟨h0,m,hm,h1⟩,X8,fun p hp=>?_⟩;refine q p _ (AZ hp _) ?_;rw [AL];show some (HO.tup [V.int (t.fdiv (FM.gs t b)),V.int (b.fdiv (FM.gs t b))])=_;rw [FM.R9 hb,FM.RV hb]
  rfl
end
def Rm{c b:Int}(hc:1≤c)(hb:1≤b):1≤c.fdiv (FM.gi c b)*b∧c ∣ c.fdiv (FM.gi c b)*b∧b ∣ c.fdiv (FM.gi c b)*b∧(c.fdiv (FM.gi c b)).natAbs≤c.natAbs:=by
 have hg:0<FM.gi c b:=FM.MP (by omega);obtain⟨q,hq⟩:=FM.M1 c b;obtain⟨r,hr⟩:=FM.ML c b;have e:=FM.GW (Int.ne_of_gt hg) hq;refine⟨?_,?_,Int.dvd_mul_left _ _,FM.FA _ _⟩
 ·rw [e];have hq0:0<q:=by
   rcases Int.lt_or_le 0 q with h|h
   ·exact h
   ·have:=Int.mul_nonpos_of_nonneg_of_nonpos (Int.le_of_lt hg) h;omega
  exact Int.mul_pos hq0 (by omega)
 ·rw [e];refine⟨r,?_⟩;rw [hr]
  conv=>rhs;rw [hq]
  rw [←hr,Int.mul_comm (FM.gi c b) q,Int.mul_assoc,Int.mul_comm (FM.gi c b) r]
  conv=>lhs;rw [hr]
  rw [Int.mul_comm (FM.gi c b) r]
def Zi:Sp:=fun vs H Q _=>∃(b:Int) (p k:Nat),vs=[.int b,.int p]∧b.natAbs<2^k∧k*p≤4000∧Q (.int (b^p)) H
def OP{b:Int}{k e p:Nat}(hb:b.natAbs<2^k)(he:e≤p):(b^e).natAbs<2^(k*p+1):=by
 rw [Int.natAbs_pow];have h1:b.natAbs^e≤(2^k)^e:=Nat.pow_le_pow_left (bG hb) e;rw [←Nat.pow_mul]at h1;exact ae h1 (Nat.pow_lt_pow_right (by decide) (Nat.lt_succ_of_le (ay k he)))
def lJ(σ:St):Nat:=match σ[4]? with|some (some (V.int l))=>l.natAbs|_=>0
section
variable{P:Program}{w:World}{K:Fg}{mg:Str→Option VL}{base:Heap}{f g g1 g2:AD}{fd gd gd1 gd2:FuncData}
def OE:Ac ["bottoms", "common", "bottom"] ["bottoms"] (AQ Gj):=B3
def T5:Ac ["base", "power", "product", "square", "left"] ["base", "power"] (AQ K1):=B3
def UC(F:Fn K mg "power_of" K1 ["base", "power"] f fd):AM P w K mg base Ab 1 f fd ["base", "power"] Zi:=by
 have sc:=T5;refine F.F.ok (k:=0) sc (fun vs H Q E h=>?_) (fun cdv A outer s H vs Q E hr h=>?_)
 ·obtain⟨b,p,k,rfl,_⟩:=h
  rfl
 obtain⟨b,p,k,rfl,hb,hk,q⟩:=h;refine⟨_,(AY (BK (i:=2) sc.nd rfl (Or.inl rfl) Ad)
 (AY (BK (i:=3) sc.nd rfl (Or.inl rfl) (pv 0))
 (AY (BK (i:=4) sc.nd rfl (Or.inl rfl) (pv 1))
 (AY (Nm aM (CC Mr (pv 4) Ad (A6 _))
  (AY (Dw (CC Mh (BP MJ (pv 4) Ad) Ad (A6 _))
   (Ah (BK (i:=2) sc.nd rfl (Or.inl rfl) (BP HJ (pv 2) (pv 3))))
   CI)
  (AY (BK (i:=4) sc.nd rfl (Or.inl rfl) (BP FZ (pv 4) Ad))
  (Ah (Dw (CC Mr (pv 4) Ad (A6 _))
   (Ah (BK (i:=3) sc.nd rfl (Or.inl rfl) (BP HJ (pv 3) (pv 3))))
   CI)))))
 (Ah (BU (pv 2))))))),?_⟩
 refine⟨_,rfl,_,rfl,?_⟩;refine OA (fun σ H'=>∃e f l:Nat,σ=[some (.int b),some (.int p),some (.int (b^e)),some (.int (b^f)),some (.int l)]∧H=H'∧e+f*l=p) (fun σ _=>lJ σ) ?_ ?_ ?_
 ·refine⟨0,1,p,?_,rfl,by omega⟩;rw [Int.pow_zero,Int.pow_succ,Int.pow_zero,Int.one_mul]
  rfl
 ·rintro σ H' ⟨e,f,l,rfl,rfl,he⟩;refine⟨_,rfl,_,_,rfl,rfl,_,rfl,DP (fun c=>?_) (fun c=>?_)⟩
  ·have hl:0<l:=by have:=aj c;omega
   have hfp:f≤p:=by
    have:f*1≤f*l:=ay f hl;omega
   try dsimp only [EG]
   refine NY (fun σ' H'=>∃e':Nat,σ'=[some (.int b),some (.int p),some (.int (b^e')),some (.int (b^f)),some (.int l)]∧H=H'∧e'+f*(2*(l / 2))=p) (fun nx hnx=>?_) ?_
   ·refine⟨_,rfl,_,_,rfl,rfl,(by show(0:Int)<2;decide),rfl,_,rfl,DP (fun c=>?_) (fun c=>?_)⟩
    ·have hodd:l % 2=1:=by
      have:((l:Int) % 2)=1:=by simpa using c
      omega
     refine⟨_,rfl,_,rfl,_,_,rfl,rfl,Vk (OP hb (show e≤p by omega)) (OP hb hfp) (by omega),hnx _ _ ⟨e+f,?_,rfl,?_⟩⟩
     ·show [some (V.int b),some (V.int p),some (V.int (b^e*b^f)),some (V.int (b^f)),some (V.int l)]=_;rw [←Int.pow_add]
     ·have:l=2*(l / 2)+1:=by omega
      rw [←he]
      conv=>rhs;rw [this,Nat.mul_add,Nat.mul_one]
      omega
    ·have hev:l % 2=0:=by
      have:¬((l:Int) % 2)=1:=by simpa using c
      omega
     refine hnx _ _ ⟨e,rfl,rfl,?_⟩;rw [show 2*(l / 2)=l by omega];exact he
   ·rintro σ' _ ⟨e',rfl,rfl,he'⟩;refine⟨_,rfl,_,_,rfl,rfl,⟨by decide,by decide⟩,?_⟩;have el:((l:Int) / 2)=((l / 2:Nat):Int):=by omega
    refine⟨_,rfl,_,_,rfl,rfl,_,rfl,DP (fun c=>?_) (fun c=>?_)⟩
    ·refine⟨_,rfl,_,rfl,_,_,rfl,rfl,Vk (OP hb hfp) (OP hb hfp) (by omega),⟨e',f+f,l / 2,?_,rfl,?_⟩,?_⟩
     ·show [some (V.int b),some (V.int p),some (V.int (b^e')),some (V.int (b^f*b^f)),some (V.int ((l:Int) / 2))]=_;rw [el,←Int.pow_add]
     ·rw [←he',←Nat.two_mul,Nat.mul_assoc,Nat.mul_left_comm]
     ·show((l:Int) / 2).natAbs<((l:Nat):Int).natAbs;omega
    ·refine⟨⟨e',f,l / 2,?_,rfl,?_⟩,?_⟩
     ·show [some (V.int b),some (V.int p),some (V.int (b^e')),some (V.int (b^f)),some (V.int ((l:Int) / 2))]=_;rw [el]
     ·have:l / 2=0:=by have:=bH (ar.mpr c);omega
      rw [this]at he' ⊢
      simpa using he'
     ·show((l:Int) / 2).natAbs<((l:Nat):Int).natAbs;omega
  ·have hl:l=0:=by have:=bH (ar.mpr c);omega
   subst hl;rw [Nat.mul_zero,Nat.add_zero]at he;subst he;exact⟨_,rfl,q⟩
 ·exact fun σ H Q Q' hq ⟨v,e,s,k,e2,e3,e4,q1,q2⟩=>⟨v,e,s,k,e2,e3,e4,q1,hq _ _ q2⟩
end
def DU(H:Hp)(d:PD)(v:V):Prop:=∃N:Nat,∀l,N≤l→Dt l H d v
def Bi(H:Hp)(ds:List PD)(xs:List V):Prop:=∃N:Nat,∀l,N≤l→Az l H ds xs
def DU.same{H H':Hp}{d:PD}{v:V}(h:DU H d v)(e:AK H H'):DU H' d v:=let⟨N,k⟩:=h;⟨N,fun l hl=>(k l hl).same e⟩
def Bi.same{H H':Hp}{d:List PD}{v:List V}(h:Bi H d v)(e:AK H H'):Bi H' d v:=let⟨N,k⟩:=h;⟨N,fun l hl=>(k l hl).same e⟩
def DU.int{H:Hp}{i:Int}:DU H (.int i) (.int i):=⟨0,fun _ _=>.int⟩
def DU.bool{H:Hp}{i:Bool}:DU H (.bool i) (.bl i):=⟨0,fun _ _=>.bool⟩
def DU.Bb{H:Hp}:DU H .none .Bb:=⟨0,fun _ _=>.Bb⟩
def DU.str{H:Hp}{x:Str}:DU H (.str x) (.str x):=⟨0,fun _ _=>.str⟩
def Bi.nil{H:Hp}:Bi H [] []:=⟨0,fun _ _=>.nil⟩
def Bi.cons{H:Hp}{d:PD}{ds:List PD}{x:V}{xs:List V}(h:DU H d x)(k:Bi H ds xs):Bi H (d::ds) (x::xs) :=
 let⟨N,a⟩:=h;let⟨M,b⟩:=k;⟨max N M,fun l hl=>.cons (a l (by omega)) (b l (by omega))⟩
def Bi.len{H:Hp}{ds:List PD}{xs:List V}(h:Bi H ds xs):xs.length=ds.length:=let⟨N,a⟩:=h;(a N (aF _)).len
def Bi.get{H:Hp}{ds:List PD}{xs:List V}{i:Nat}{d:PD}(h:Bi H ds xs)(e:ds[i]? = some d):∃v,xs[i]? = some v∧DU H d v:=by
 have hl:=h.len;have hi:i<xs.length:=by rw [hl];exact(aD.mp e).1
 have hx:xs[i]? = some xs[i]:=by simp [hi]
 obtain⟨N,a⟩:=h;refine⟨xs[i],hx,N,fun l hl=>?_⟩;obtain⟨d',h1,h2⟩:=(a l hl).get hx;rw [e]at h1;cases h1;exact h2
def DU.lst{H:Hp}{a:AD}{ds:List PD}{xs:List V}(h:H a=some (.lst xs))(k:Bi H ds xs):DU H (.list ds) (.ref a) :=
 let⟨N,b⟩:=k;⟨max N (a+1),fun l hl=>.lst (aJ (show a<l from aK (bW a) (aO (Nat.le_max_right _ _) hl))) h (b l (by omega))⟩
def DU.tup{H:Hp}{a:AD}{ds:List PD}{xs:List V}(h:H a=some (.tup xs))(k:Bi H ds xs):DU H (.tuple ds) (.ref a) :=
 let⟨N,b⟩:=k;⟨max N (a+1),fun l hl=>.tup (aJ (show a<l from aK (bW a) (aO (Nat.le_max_right _ _) hl))) h (b l (by omega))⟩
def DU.Xl{H:Hp}{ds:List PD}{v:V}(h:DU H (.list ds) v):∃a xs,v=.ref a∧H a=some (.lst xs)∧Bi H ds xs:=by
 obtain⟨N,b⟩:=h;have h0:=b N (aF _);rw [Dt]at h0;obtain⟨a,xs,rfl,_,ha,_⟩:=h0;refine⟨a,xs,rfl,ha,N,fun l hl=>?_⟩;have h1:=b l hl;rw [Dt]at h1;obtain⟨a',xs',e,_,ha',hx'⟩:=h1;cases e;rw [ha]at ha';cases ha';exact hx'
def DU.jZ{H:Hp}{ds:List PD}{v:V}(h:DU H (.tuple ds) v):∃a xs,v=.ref a∧H a=some (.tup xs)∧Bi H ds xs:=by
 obtain⟨N,b⟩:=h;have h0:=b N (aF _);rw [Dt]at h0;obtain⟨a,xs,rfl,_,ha,_⟩:=h0;refine⟨a,xs,rfl,ha,N,fun l hl=>?_⟩;have h1:=b l hl;rw [Dt]at h1;obtain⟨a',xs',e,_,ha',hx'⟩:=h1;cases e;rw [ha]at ha';cases ha';exact hx'
def Bi.Uo{H:Hp}{d e:PD}{xs:List V}(h:Bi H [d,e] xs):∃x y,xs=[x,y]∧DU H d x∧DU H e y:=by
 obtain⟨x,h1,h2⟩:=h.get (i:=0) rfl;obtain⟨y,h3,h4⟩:=h.get (i:=1) rfl;have:=h.len
 match xs,this with
 |[a,b],_ =>
  simp at h1 h3;subst h1 h3;exact⟨a,b,rfl,h2,h4⟩
mutual
def ia{c:AD}{H:Hp}:∀ {d:PD} {v:V},Dt c H d v→DU H d v
 |.none,_,h=>by rw [Dt]at h;subst h;exact .Bb
 |.bool _,_,h=>by rw [Dt]at h;subst h;exact .bool
 |.int _,_,h=>by rw [Dt]at h;subst h;exact .int
 |.str _,_,h=>by rw [Dt]at h;subst h;exact .str
 |.tuple _,_,h=>by
  rw [Dt]at h;obtain⟨a,xs,rfl,n,h1,h2⟩:=h;exact .tup h1 (Ig h2)
 |.list _,_,h=>by
  rw [Dt]at h;obtain⟨a,xs,rfl,n,h1,h2⟩:=h;exact .lst h1 (Ig h2)
 |.dict _,_,h=>by rw [Dt]at h;exact h.elim
def Ig{c:AD}{H:Hp}:∀ {ds:List PD} {xs:List V},Az c H ds xs→Bi H ds xs
 |[],_,h=>by rw [Az]at h;subst h;exact .nil
 |_::_,_,h=>by
  rw [Az]at h;obtain⟨x,r,rfl,h1,h2⟩:=h;exact .cons (ia h1) (Ig h2)
end
def DU.ints{H:Hp}{ps:List Int}{v:V}(h:DU H (.tuple (ps.map .int)) v):∃a,v=.ref a∧H a=some (.tup (ps.map V.int)):=by
 obtain⟨a,xs,rfl,ha,hx⟩:=h.jZ;refine⟨a,rfl,?_⟩;rw [ha]
 congr 2
 obtain⟨N,b⟩:=hx;have:=b N (aF _);clear b ha h
 induction ps generalizing xs with
 |nil=>rw [List.map_nil,Az]at this;exact this
 |cons p ps ih =>
  rw [List.map_cons,Az]at this;obtain⟨x,r,rfl,h1,h2⟩:=this;rw [Dt]at h1;subst h1;rw [List.map_cons,ih r h2]
def E1:PD→Bool
 |.tuple [.int a,.int b]=>decide (1≤b)&&(FM.gi a b==1)
 |_=>false
def Ng{ds:List PD}(h:ds.length≠2∨∃d0 d1,ds=[d0,d1]∧((Hc d0 && !GI d0)=false∨(Hc d1 && !GI d1)=false)):E1 (.tuple ds)=false:=by
 rcases h with h|⟨d0,d1,rfl,h⟩
 ·match ds,h with
  |[],_=>rfl
  |[a],_=>cases a<;>rfl
  |[_,_],h=>exact absurd rfl h
  |a::b::_::_,_=>cases a<;>first|rfl|(cases b<;>rfl)
 ·cases d0<;>first|rfl|(cases d1<;>first|rfl|(exfalso;rcases h with h|h<;>exact absurd h (by simp [Hc,GI])))
def X1:Sp:=fun vs H Q _=>∃l d v,vs=[v]∧Dt l H d v∧Q (.bl (Hc d && !GI d)) H
def Xb:Sp:=fun vs H Q _=>∃l d v,vs=[v]∧Dt l H d v∧Q (.bl (E1 d)) H
def Qw{d:PD}(h:(Hc d && !GI d)=true):∃i,d=.int i:=by
 cases d<;>first|exact⟨_,rfl⟩|(exact absurd h (by simp [Hc,GI]))|(rename_i b;cases b<;>exact absurd h (by decide))
section
variable{P:Program}{w:World}{K:Fg}{mg:Str→Option VL}{base:Heap}{f g g1 g2 g3 g4 g5:AD}{fd gd gd1 gd2 gd3 gd4 gd5:FuncData}
def Tu:Ac ["thing"] ["thing"] (AQ LB):=B3
def Tt(F:Fn K mg "is_whole" LB ["thing"] f fd)(Aw:mg "isinstance" = none)(Mc:mg "int" = none)(KI:mg "bool" = none):AM P w K mg base Ab 1 f fd ["thing"] X1:=by
 have sc:=Tu;refine F.F.ok (k:=0) sc (fun vs H Q E h=>?_) (fun cdv A outer s H vs Q E hr h=>?_)
 ·obtain⟨l,d,v,rfl,_⟩:=h
  rfl
 obtain⟨l,d,v,rfl,hd,q⟩:=h;refine⟨_,(Ah (BU (OX (BL F9 rfl Aw au (AI (pv 0) (AI (G8 (v:=.ty "int") rfl Mc PyProof.Rows.boot_int rfl) AR))) (R5 (gT (BL F9 rfl Aw au (AI (pv 0) (AI (G8 (v:=.ty "bool") rfl KI PyProof.Rows.boot_bool rfl) AR)))))))),?_⟩;refine⟨_,rfl,_,_,_,_,rfl,Uj,hd.ty,Su K d hd.nodict,_,rfl,DP (fun c=>⟨_,rfl,_,_,_,_,rfl,Uj,hd.ty,Qp K d hd.nodict,_,rfl,?_⟩) (fun c=>?_)⟩
 ·rw [c,Bool.true_and]at q;exact q
 ·rw [Bool.eq_false_iff.mpr c,Bool.false_and]at q;exact q
def P9:Ac ["thing"] ["thing"] (AQ Hl):=B3
def Pl(F:Fn K mg "is_fraction" Hl ["thing"] f fd)(Gi:Fn K mg "is_whole" LB ["thing"] g1 gd1)(BQ:Fn K mg "greatest_divisor" C1 ["one", "other"] g2 gd2)
 (OZ:AM P w K mg base Ab 1 g1 gd1 ["thing"] X1)(Cw:AM P w K mg base Ab 1 g2 gd2 ["one", "other"] V7)(Aw:mg "isinstance" = none)(CU:mg "tuple" = none)(A9:mg "len" = none):AM P w K mg base Ab 2 f fd ["thing"] Xb:=by
 have sc:=P9;refine F.F.ok (k:=1) sc (fun vs H Q E h=>?_) (fun cdv A outer s H vs Q E hr h=>?_)
 ·obtain⟨l,d,v,rfl,_⟩:=h
  rfl
 obtain⟨l,d,v,rfl,hd,q⟩:=h;refine⟨_,(AY (Dw (PW.pt (Kv (Gf (GY (BL F9 rfl Aw au (AI (pv 0) (AI (G8 (v:=.ty "tuple") rfl CU bV rfl) AR))))) (KH (CC RI (BL Bx rfl A9 aY (AI (pv 0) AR)) Ad (A6 _)))))
  (Ah (BU HR))
  CI)
 (AY (Dw (PW.pt (Kv (Gf (GY (B4 Gi OZ hr rfl (AI (C8 De (pv 0) Ad (fun _ _=>rfl)) AR)))) (KH (Gf (GY (B4 Gi OZ hr rfl (AI (C8 De (pv 0) Ad (fun _ _=>rfl)) AR)))))))
  (Ah (BU HR))
  CI)
 (Ah (BU (OX (Ml Zn (C8 De (pv 0) Ad (fun _ _=>rfl)) Ad (A6 _)) (R5 (Ml Mh (B4 BQ Cw hr rfl (AI (C8 De (pv 0) Ad (fun _ _=>rfl)) (AI (C8 De (pv 0) Ad (fun _ _=>rfl)) AR))) Ad (A6 _)))))))),?_⟩
 refine⟨_,rfl,_,_,_,_,rfl,Uj,hd.ty,N8 K d hd.nodict,_,rfl,?_⟩;have no:Ef d=false→E1 d=false:=fun z=>by cases d<;>first|rfl|exact absurd z (by simp [Ef])
 by_cases ht:Ef d=true
 ·rw [ht];obtain⟨ds,rfl⟩:∃ds,d=.tuple ds:=by cases d<;>first|exact⟨_,rfl⟩|exact absurd ht (by simp [Ef])
  rw [Dt]at hd;obtain⟨a,xs,rfl,na,ha,hx⟩:=hd;have hlen:=hx.len;have s1:A7 K H a xs:=A7.of ha;refine Sl ⟨_,rfl,a,xs,rfl,.inr s1,rfl,_,rfl,DP (fun c=>?_) (fun c=>?_)⟩
  ·have:ds.length≠2:=by
    rw [←hlen];intro z;rw [z]at c;exact absurd c (by decide)
   rw [Ng (.inl this)]at q;exact q
  ·have h2:xs.length=2:=by
    by_cases z:xs.length=2
    ·exact z
    ·exfalso
     refine c ?_;have:¬(V.int (xs.length:Nat)=V.int 2):=by simp;omega
     rw [decide_eq_false this];rfl
   obtain⟨d0,d1,rfl⟩:∃d0 d1,ds=[d0,d1]:=by
    match ds,(show ds.length=2 by omega) with
    |[x,y],_=>exact⟨x,y,rfl⟩
   rw [Az]at hx;obtain⟨x0,r,rfl,hx0,hx⟩:=hx;rw [Az]at hx;obtain⟨x1,r,rfl,hx1,hx⟩:=hx;rw [Az]at hx;subst hx;refine⟨_,rfl,_,_,_,_,rfl,rfl,s1,rfl,l,d0,x0,rfl,hx0,_,rfl,DP (fun c0=>?_) (fun c0=>?_)⟩
   ·rw [Ng (.inr ⟨d0,d1,rfl,.inl (by simp at c0;rcases c0 with c|c<;>simp [c])⟩)]at q;exact q
   refine⟨_,rfl,_,_,_,_,rfl,rfl,s1,rfl,l,d1,x1,rfl,hx1,_,rfl,DP (fun c1=>?_) (fun c1=>?_)⟩
   ·rw [Ng (.inr ⟨d0,d1,rfl,.inr (by simp at c1;rcases c1 with c|c<;>simp [c])⟩)]at q;exact q
   obtain⟨i,rfl⟩:=Qw (d:=d0) (by simpa using c0);obtain⟨j,rfl⟩:=Qw (d:=d1) (by simpa using c1);rw [Dt]at hx0 hx1;subst hx0 hx1;refine⟨_,rfl,_,_,_,_,rfl,rfl,s1,rfl,_,_,rfl,rfl,_,rfl,DP (fun c=>?_) (fun c=>?_)⟩
   ·refine⟨_,rfl,_,_,_,_,rfl,rfl,s1,rfl,_,rfl,_,_,_,_,rfl,rfl,s1,rfl,i,j,rfl,rfl,?_⟩;have hj:1≤j:=by have:=aj c;omega
    have e:E1 (.tuple [.int i,.int j])=decide (V.int (FM.gi i j)=V.int 1):=by
     rw [E1,decide_eq_true hj,Bool.true_and,Bool.eq_iff_iff];simp
    rw [e]at q;exact q
   ·have hj:¬1≤j:=fun z=>c (decide_eq_true (by omega));have e:E1 (.tuple [.int i,.int j])=false:=by rw [E1,decide_eq_false hj,Bool.false_and]
    rw [e]at q;exact q
 ·rw [Bool.eq_false_iff.mpr ht];rw [no (ar.mpr ht)]at q;exact Ew (Ew q)
end
def Dd:PD→Bool
 |.list ds=>ds.all E1
 |_=>false
def HB:PD→Nat
 |.list ds=>ds.length
 |_=>0
def rowAt(ds:List PD)(i:Nat):Bool:=match ds[i]? with
 |some d=>Dd d&&decide (HB d=i)
 |none=>true
def KJ(ds:List PD):Bool:=(List.range ds.length).all (rowAt ds)
def DC:PD→Bool
 |.list ds=>decide (1≤ds.length)&&(decide (ds.length≤40)&&KJ ds)
 |_=>false
def Fy:PD→Bool
 |.tuple [r,l]=>DC r&&(Dd l&&decide (HB l=HB r))
 |_=>false
def XC{d:PD}(h:EL d=false):Dd d=false:=by cases d<;>first|rfl|exact absurd h (by simp [EL])
def T6{d:PD}(h:EL d=false):DC d=false:=by cases d<;>first|rfl|exact absurd h (by simp [EL])
def WS{d:PD}(h:Ef d=false):Fy d=false:=by cases d<;>first|rfl|exact absurd h (by simp [Ef])
def Vo{ds:List PD}(h:ds.length≠2):Fy (.tuple ds)=false:=by
 match ds,h with
 |[],_=>rfl
 |[_],_=>rfl
 |[_,_],h=>exact absurd rfl h
 |_::_::_::_,_=>rfl
def Iz{d:PD}(h:EL d=true):∃ds,d=.list ds:=by cases d<;>first|exact⟨_,rfl⟩|exact absurd h (by simp [EL])
def YA{d:PD}(h:Ef d=true):∃ds,d=.tuple ds:=by cases d<;>first|exact⟨_,rfl⟩|exact absurd h (by simp [Ef])
def OH{d:PD}(h:Dd d=true):EL d=true:=by cases d<;>first|rfl|exact absurd h (by simp [Dd])
def SX{d:PD}(h:DC d=true):EL d=true:=by cases d<;>first|rfl|exact absurd h (by simp [DC])
def QH{ds:List PD}(h:∀j,j<ds.length→rowAt ds j=true):KJ ds=true:=by
 unfold KJ;rw [List.all_eq_true];intro j hj;exact h j (bF.mp hj)
def QS{ds:List PD}{i:Nat}(hi:i<ds.length)(h:rowAt ds i=false):KJ ds=false:=by
 refine ar.mpr fun z=>?_;unfold KJ at z;rw [List.all_eq_true]at z;rw [z i (bF.mpr hi)]at h;cases h
def Ks{ds:List PD}{i:Nat}{d:PD}(h:ds[i]? = some d):rowAt ds i=(Dd d&&decide (HB d=i)):=by unfold rowAt;rw [h]
def QA:Sp:=fun vs H Q _=>∃l d v,vs=[v]∧Dt l H d v∧Q (.bl (Dd d)) H
def XF:Sp:=fun vs H Q _=>∃l d v,vs=[v]∧Dt l H d v∧∀H',AK H H'→Q (.bl (DC d)) H'
def de:Sp:=fun vs H Q _=>∃l d v,vs=[v]∧Dt l H d v∧∀H',AK H H'→Q (.bl (Fy d)) H'
section
variable{P:Program}{w:World}{K:Fg}{mg:Str→Option VL}{base:Heap}{f g g1 g2 g3 g4 g5:AD}{fd gd gd1 gd2 gd3 gd4 gd5:FuncData}
def Nu:Ac ["thing", "part"] ["thing"] (AQ FD):=B3
def Nv(F:Fn K mg "are_fractions" FD ["thing"] f fd)(F7:Fn K mg "is_fraction" Hl ["thing"] g1 gd1)
 (RA:AM P w K mg base Ab 2 g1 gd1 ["thing"] Xb)(Aw:mg "isinstance" = none)(EW:mg "list" = none):AM P w K mg base Ab 3 f fd ["thing"] QA:=by
 have sc:=Nu;refine F.F.ok (k:=2) sc (fun vs H Q E h=>?_) (fun cdv A outer s H vs Q E hr h=>?_)
 ·obtain⟨l,d,v,rfl,_⟩:=h
  rfl
 obtain⟨l,d,v,rfl,hd,q⟩:=h;refine⟨_,(AY (Dw (Gf (GY (BL F9 rfl Aw au (AI (pv 0) (AI (G8 (v:=.ty "list") rfl EW bY rfl) AR)))))
  (Ah (BU HR))
  CI)
 (AY (Gb aM rfl (En (pv 0)) (A4 (i:=1) sc.nd rfl (Or.inl rfl))
  (Ah (Dw (Gf (GY (B4 F7 RA hr rfl (AI (pv 1) AR))))
   (Ah (BU HR))
   CI)))
 (Ah (BU HR)))),?_⟩
 refine⟨_,rfl,_,_,_,_,rfl,Uj,hd.ty,TK K d hd.nodict,_,rfl,?_⟩;by_cases hL:EL d=false
 ·rw [hL];rw [XC hL]at q;exact Ew q
 have hL:EL d=true:=by simpa using hL
 rw [hL];refine Sl ?_;obtain⟨ds,rfl⟩:=Iz hL;rw [Dt]at hd;obtain⟨a,xs,rfl,na,ha,ht⟩:=hd;have hlen:=ht.len;refine⟨_,rfl,a,rfl,⟨_,Al.of ha⟩,LG (xs:=xs) (fun i σ H'=>∃r1,σ=[some (.ref a),r1]∧H=H'∧∀j c,j<i→ds[j]? = some c→E1 c=true) ?_ ?_ ?_ ?_⟩
 ·exact⟨_,rfl,rfl,fun j c h=>absurd h (ao _)⟩
 ·rintro i σ H' _ ⟨r1,rfl,rfl,_⟩;exact Al.of ha
 ·rintro i x σ H' hx ⟨r1,rfl,rfl,hf⟩;obtain⟨c,hc,tc⟩:=ht.get hx;refine⟨_,rfl,l,c,x,rfl,tc,_,rfl,DP (fun b=>?_) (fun b=>?_)⟩
  ·have hb:E1 c=false:=by simpa using b
   have e:Dd (.list ds)=false:=ar.mpr fun z=>by
    rw [Dd,List.all_eq_true]at z;rw [z c (aQ hc)]at hb;cases hb
   rw [e]at q;exact q
  ·have hb:E1 c=true:=by simpa using b
   refine⟨_,rfl,rfl,fun j e hj he=>?_⟩;by_cases z:j=i
   ·subst z;rw [hc]at he;cases he;exact hb
   ·exact hf j e (by omega) he
 ·rintro σ H' ⟨r1,rfl,rfl,hf⟩;have e:Dd (.list ds)=true:=by
   rw [Dd,List.all_eq_true];intro c hc;obtain⟨j,hj⟩:=bU hc;exact hf j c (by rw [hlen];exact(aD.mp hj).1) hj
  rw [e]at q;exact q
def T2:Ac ["thing", "k", "row"] ["thing"] (AQ LC):=B3
def Tp{tk:Tok}(F:Fn K mg "are_rows" LC ["thing"] f fd)(CN:Fn K mg "are_fractions" FD ["thing"] g1 gd1)
 (GO:AM P w K mg base Ab 3 g1 gd1 ["thing"] QA)(Ep:mg "MOST_ROWS" = some (.int 40 tk))(Aw:mg "isinstance" = none)(EW:mg "list" = none)(A9:mg "len" = none)(EB:mg "enumerate" = none):AM P w K mg base Ab 4 f fd ["thing"] XF:=by
 have sc:=T2;refine F.F.ok (k:=3) sc (fun vs H Q E h=>?_) (fun cdv A outer s H vs Q E hr h=>?_)
 ·obtain⟨l,d,v,rfl,_⟩:=h
  rfl
 obtain⟨l,d,v,rfl,hd,q⟩:=h;refine⟨_,(AY (Dw (PW.pt (Kv (Gf (GY (BL F9 rfl Aw au (AI (pv 0) (AI (G8 (v:=.ty "list") rfl EW bY rfl) AR))))) (Kv (CC RO (BL Bx rfl A9 aY (AI (pv 0) AR)) Ad (A6 _)) (KH (CC Mr (BL Bx rfl A9 aY (AI (pv 0) AR)) (Ut (v:=.int 40) rfl Ep ⟨_,rfl⟩) (A6 _))))))
  (Ah (BU HR))
  CI)
 (AY (Gb aM rfl (Sh rfl EB (AI (pv 0) AR)) (L7 rfl (Df (A4 (i:=1) sc.nd rfl (Or.inl rfl)) (Df (A4 (i:=2) sc.nd rfl (Or.inl rfl)) Ki)))
  (Ah (Dw (PW.pt (Kv (Gf (GY (B4 CN GO hr rfl (AI (pv 2) AR)))) (KH (CC RI (BL Bx rfl A9 aY (AI (pv 2) AR)) (pv 1) (A6 _)))))
   (Ah (BU HR))
   CI)))
 (Ah (BU HR)))),?_⟩
 refine⟨_,rfl,_,_,_,_,rfl,Uj,hd.ty,TK K d hd.nodict,_,rfl,?_⟩;by_cases hL:EL d=false
 ·rw [hL];have:=q H (.refl H);rw [T6 hL]at this;exact Ew (Ew this)
 have hL:EL d=true:=by simpa using hL
 rw [hL];refine Sl ?_;obtain⟨ds,rfl⟩:=Iz hL;rw [Dt]at hd;obtain⟨a,xs,rfl,na,ha,ht⟩:=hd;have hlen:=ht.len;refine⟨_,rfl,a,xs,rfl,.inl (Al.of ha),_,_,rfl,rfl,_,rfl,DP (fun c=>?_) (fun c=>?_)⟩
 ·have e:DC (.list ds)=false:=by
   have:¬1≤ds.length:=by rw [←hlen];have:=aj c;omega
   rw [DC,decide_eq_false this,Bool.false_and]
  have:=q H (.refl H);rw [e]at this;exact Ew this
 have h1:1≤ds.length:=by rw [←hlen];have:=bH (ar.mpr c);omega
 refine⟨_,rfl,a,xs,rfl,.inl (Al.of ha),_,_,rfl,rfl,_,rfl,DP (fun c=>?_) (fun c=>?_)⟩
 ·have e:DC (.list ds)=false:=by
   have:¬ds.length≤40:=by rw [←hlen];have:=aj c;omega
   rw [DC,decide_eq_false this,Bool.false_and,Bool.and_false]
  have:=q H (.refl H);rw [e]at this;exact this
 have h2:ds.length≤40:=by rw [←hlen];have:=bH (ar.mpr c);omega
 have e:DC (.list ds)=KJ ds:=by rw [DC,decide_eq_true h1,decide_eq_true h2,Bool.true_and,Bool.true_and]
 rw [e]at q;refine⟨_,rfl,a,rfl,⟨_,Al.of ha⟩,W9 (xs:=xs) (fun i σ H'=>∃r1 r2,σ=[some (.ref a),r1,r2]∧AK H H'∧∀j,j<i→rowAt ds j=true) ?_ ?_ ?_ ?_⟩
 ·exact⟨_,_,rfl,.refl _,fun j h=>absurd h (ao _)⟩
 ·rintro i σ H' _ ⟨r1,r2,rfl,e,_⟩;exact Al.of (e _ _ ha)
 ·rintro i x σ H0 hx ⟨r1,r2,rfl,e0,hf⟩ p hp;obtain⟨c,hc,tc⟩:=ht.get hx;have hi:i<ds.length:=(aD.mp hc).1;have s1:=AZ hp (.tup [.int (i:Nat),x]);have e1:=e0.trans s1;have hp':(upd H0 p (.tup [.int (i:Nat),x])) p=some (.tup [.int (i:Nat),x]):=AL;generalize upd H0 p (.tup [.int (i:Nat),x])=H1 at s1 e1 hp';have tc:=tc.same e1;refine⟨p,_,rfl,A7.of hp',rfl,_,_,rfl,_,_,rfl,rfl,?_⟩;refine⟨_,rfl,l,c,x,rfl,tc,_,rfl,DP (fun b=>?_) (fun b=>?_)⟩
  ·have hb:Dd c=false:=by simpa using b
   have:=q H1 e1;rw [QS hi (by rw [Ks hc,hb,Bool.false_and])]at this;exact Ew this
  have hb:Dd c=true:=by simpa using b
  obtain⟨cs,rfl⟩:=Iz (OH hb);rw [Dt]at tc;obtain⟨b,ys,rfl,nb,hb',hy⟩:=tc;refine⟨_,rfl,b,ys,rfl,.inl (Al.of hb'),_,rfl,rfl,_,rfl,DP (fun z=>?_) (fun z=>?_)⟩
  ·have hne:¬HB (.list cs)=i:=by
    rw [HB,←hy.len];intro zz;rw [zz]at z;simp at z
   have:=q H1 e1;rw [QS hi (by rw [Ks hc,hb,decide_eq_false hne,Bool.and_false])]at this;exact this
  ·have hne:HB (.list cs)=i:=by
    rw [HB,←hy.len];by_cases zz:ys.length=i
    ·exact zz
    ·exfalso
     refine z ?_;have:¬(V.int (ys.length:Nat)=V.int (i:Nat)):=by simp;omega
     rw [decide_eq_false this];rfl
   refine⟨_,_,rfl,e1,fun j hj=>?_⟩;by_cases zz:j=i
   ·subst zz;rw [Ks hc,hb,decide_eq_true hne,Bool.and_self]
   ·exact hf j (by omega)
 ·rintro σ H' ⟨r1,r2,rfl,e1,hf⟩;have:=q H' e1;rw [QH fun j hj=>hf j (by rw [hlen];exact hj)]at this;exact this
def UD:Ac ["thing"] ["thing"] (AQ Kr):=B3
def T1(F:Fn K mg "is_table" Kr ["thing"] f fd)(IH:Fn K mg "are_rows" LC ["thing"] g1 gd1)(CN:Fn K mg "are_fractions" FD ["thing"] g2 gd2)
 (VF:AM P w K mg base Ab 4 g1 gd1 ["thing"] XF)(GO:AM P w K mg base Ab 4 g2 gd2 ["thing"] QA)(Aw:mg "isinstance" = none)(CU:mg "tuple" = none)(A9:mg "len" = none):AM P w K mg base Ab 5 f fd ["thing"] de:=by
 have sc:=UD;refine F.F.ok (k:=4) sc (fun vs H Q E h=>?_) (fun cdv A outer s H vs Q E hr h=>?_)
 ·obtain⟨l,d,v,rfl,_⟩:=h
  rfl
 obtain⟨l,d,v,rfl,hd,q⟩:=h;refine⟨_,(AY (Dw (PW.pt (Kv (Gf (GY (BL F9 rfl Aw au (AI (pv 0) (AI (G8 (v:=.ty "tuple") rfl CU bV rfl) AR))))) (KH (CC RI (BL Bx rfl A9 aY (AI (pv 0) AR)) Ad (A6 _)))))
  (Ah (BU HR))
  CI)
 (Ah (BU (OX (B4 IH VF hr rfl (AI (C8 De (pv 0) Ad (fun _ _=>rfl)) AR)) (OX (B4 CN GO hr rfl (AI (C8 De (pv 0) Ad (fun _ _=>rfl)) AR)) (R5 (Ml Mh (BL Bx rfl A9 aY (AI (C8 De (pv 0) Ad (fun _ _=>rfl)) AR)) (BL Bx rfl A9 aY (AI (C8 De (pv 0) Ad (fun _ _=>rfl)) AR)) (A6 _)))))))),?_⟩
 refine⟨_,rfl,_,_,_,_,rfl,Uj,hd.ty,N8 K d hd.nodict,_,rfl,?_⟩;by_cases hL:Ef d=false
 ·rw [hL];have:=q H (.refl H);rw [WS hL]at this;exact Ew (Ew this)
 have hL:Ef d=true:=by simpa using hL
 rw [hL];refine Sl ?_;obtain⟨ds,rfl⟩:=YA hL;rw [Dt]at hd;obtain⟨a,xs,rfl,na,ha,hx⟩:=hd;have hlen:=hx.len;have s1:A7 K H a xs:=A7.of ha;refine⟨_,rfl,a,xs,rfl,.inr s1,rfl,_,rfl,DP (fun c=>?_) (fun c=>?_)⟩
 ·have:ds.length≠2:=by
   rw [←hlen];intro z;rw [z]at c;exact absurd c (by decide)
  have q:=q H (.refl H);rw [Vo this]at q;exact q
 have h2:xs.length=2:=by
  by_cases z:xs.length=2
  ·exact z
  ·exfalso
   refine c ?_;have:¬(V.int (xs.length:Nat)=V.int 2):=by simp;omega
   rw [decide_eq_false this];rfl
 obtain⟨d0,d1,rfl⟩:∃d0 d1,ds=[d0,d1]:=by
  match ds,(show ds.length=2 by omega) with
  |[x,y],_=>exact⟨x,y,rfl⟩
 rw [Az]at hx;obtain⟨x0,r,rfl,hx0,hx⟩:=hx;rw [Az]at hx;obtain⟨x1,r,rfl,hx1,hx⟩:=hx;rw [Az]at hx;subst hx;rw [Fy]at q;refine⟨_,rfl,_,_,_,_,rfl,rfl,s1,rfl,l,d0,x0,rfl,hx0,fun H1 e1=>⟨_,rfl,DP (fun c0=>?_) (fun c0=>?_)⟩⟩
 ·rw [c0]at q;refine⟨_,rfl,_,_,_,_,rfl,rfl,e1.tup s1,rfl,l,d1,x1,rfl,hx1.same e1,_,rfl,DP (fun c1=>?_) (fun c1=>?_)⟩
  ·rw [c1]at q;obtain⟨r0,rfl⟩:=Iz (SX c0);obtain⟨r1,rfl⟩:=Iz (OH c1);have hx0:=hx0.same e1;have hx1:=hx1.same e1;rw [Dt]at hx0 hx1;obtain⟨a0,y0,rfl,_,ha0,hy0⟩:=hx0;obtain⟨a1,y1,rfl,_,ha1,hy1⟩:=hx1;refine⟨_,rfl,_,_,_,_,rfl,rfl,e1.tup s1,rfl,a1,y1,rfl,.inl (Al.of ha1),_,rfl,_,_,_,_,rfl,rfl,e1.tup s1,rfl,a0,y0,rfl,.inl (Al.of ha0),rfl,?_⟩;have:=q H1 e1;rw [Bool.true_and,Bool.true_and,HB,HB,←hy0.len,←hy1.len]at this;have e:decide (V.int (y1.length:Nat)=V.int (y0.length:Nat))=decide (y1.length=y0.length):=by
    rw [Bool.eq_iff_iff];simp;omega
   rw [←e]at this;exact this
  ·rw [Bool.eq_false_iff.mpr c1,Bool.false_and,Bool.and_false]at q;exact q H1 e1
 ·rw [Bool.eq_false_iff.mpr c0,Bool.false_and]at q;exact q H1 e1
end
def eP(r:Rat):E1 (Af r)=true:=by
 have h:=r.den_nz;have k:=r.reduced;rw [Af,E1,decide_eq_true (show(1:Int)≤(r.den:Int) by omega),Bool.true_and];rw [beq_iff_eq];unfold FM.gi;unfold Nat.Coprime at k;rw [show r.num.gcd (r.den:Int)=1 from k]
 rfl
def Nf{i n:Nat}(h:i<n)(hn:n≤60):i<sizeLine:=aK (show i<60 by omega) (by rw [sizeLine_eq];decide)
def iY{n:Nat}(hn:n≤60):n≤sizeLine:=aO hn (by rw [sizeLine_eq];decide)
structure Tb where
 rs:List (List Rat)
 ls:List Rat
def BA(r:List Rat):List PD:=r.map Af
def Bg(r:List Rat):PD:=.list (BA r)
def Ba(rs:List (List Rat)):List PD:=rs.map Bg
def Ai(t:Tb):PD:=.tuple [.list (Ba t.rs),.list (BA t.ls)]
structure Tb.Ok(m:Nat)(t:Tb):Prop where
 one:1≤t.rs.length
 most:t.rs.length≤m
 last:t.ls.length=t.rs.length
 row:∀(i:Nat) r,t.rs[i]? = some r→r.length=i
def TX(r:List Rat):∀e∈BA r,E1 e=true:=fun e he=>by
 obtain⟨q,_,rfl⟩:=aU.mp he;exact eP q
def EY(r:List Rat):(BA r).length=r.length:=bN _
def Ed(r:List (List Rat)):(Ba r).length=r.length:=bN _
def iT(q:Rat):Sm 1 (Af q):=by
 refine .tup (Nat.le_of_ble_eq_true rfl) fun x hx=>?_;rcases aN.mp hx with rfl|hx
 ·exact leaf.sm trivial
 ·rw [List.mem_singleton.mp hx];exact leaf.sm trivial
def Xu{r:List Rat}(h:r.length≤60):Sm 2 (Bg r):=by
 refine .lst (by rw [EY];omega) fun x hx=>?_;obtain⟨q,_,rfl⟩:=aU.mp hx;exact iT q
def Tb.Ok.j0{m:Nat}{t:Tb}(h:t.Ok m):∀r∈t.rs,r.length<t.rs.length:=fun r hr=>by
 obtain⟨i,hi⟩:=bU hr;rw [h.row i r hi];exact(aD.mp hi).1
def Tb.Ok.sm{m:Nat}(hm:m≤60){t:Tb}(h:t.Ok m):Sm 4 (Ai t):=by
 have h1:=h.most;have h2:=h.last;refine .tup (Nat.le_of_ble_eq_true rfl) fun x hx=>?_;rcases aN.mp hx with rfl|hx
 ·refine .lst (by rw [Ed];omega) fun r hr=>?_;obtain⟨q,hq,rfl⟩:=aU.mp hr;exact Xu (by have:=h.j0 q hq;omega)
 ·rw [List.mem_singleton.mp hx];exact(Xu (r:=t.ls) (by omega)).up
def Tb.Ok.is{m:Nat}(hm:m≤40){t:Tb}(h:t.Ok m):Fy (Ai t)=true:=by
 have h1:=h.one;have h2:=h.most;rw [Ai,Fy,DC,HB,HB,Ed,EY,decide_eq_true h1,decide_eq_true (show t.rs.length≤40 by omega),decide_eq_true h.last,Dd,Bool.true_and,Bool.true_and,Bool.and_true,List.all_eq_true.mpr (TX _),Bool.and_true];refine QH fun j hj=>?_;rw [Ed]at hj;have hr:t.rs[j]? = some t.rs[j]:=by simp [hj]
 rw [Ks (d:=Bg t.rs[j]) (by rw [Ba,List.getElem?_map,hr];rfl),Bg,HB,EY,decide_eq_true (h.row j _ hr),Dd,Bool.and_true,List.all_eq_true.mpr (TX _)]
def Tb.behind(a b:Tb):Tb:=⟨a.rs++b.rs.map (a.ls ++ ·),a.ls++b.ls⟩
def Bi.Wq{H:Hp}{d:PD}{ds:List PD}{xs:List V}(h:Bi H (d::ds) xs):∃x r,xs=x::r∧DU H d x∧Bi H ds r:=by
 obtain⟨N,b⟩:=h;have h0:=b N (aF _);rw [Az]at h0;obtain⟨x,r,rfl,_,_⟩:=h0;refine⟨x,r,rfl,⟨N,fun l hl=>?_⟩,⟨N,fun l hl=>?_⟩⟩
 ·have:=b l hl;rw [Az]at this;obtain⟨_,_,e,h1,_⟩:=this;cases e;exact h1
 ·have:=b l hl;rw [Az]at this;obtain⟨_,_,e,_,h1⟩:=this;cases e;exact h1
def DU.rat{H:Hp}{q:Rat}{v:V}(h:DU H (Af q) v):∃p,v=.ref p∧H p=some (.tup (Lq q)):=h.ints (ps:=[q.num,(q.den:Int)])
def R8{H:Hp}{q:Rat}{p:AD}(h:H p=some (.tup (Lq q))):DU H (Af q) (.ref p):=.tup h (.cons .int (.cons .int .nil))
def Nh{c:AD}{zs:List V}{H:Hp}(hc:H c=some (.lst zs)):∀ {qs:List Rat} {xs:List V},Bi H (BA qs) xs→Az c H (BA qs) xs
 |[],xs,h=>by
  have:=h.len;rw [show BA []=[] from rfl,List.length_nil]at this;rw [List.eq_nil_of_length_eq_zero this];exact .nil
 |q::qs,xs,h=>by
  obtain⟨x,r,rfl,h1,h2⟩:=Bi.Wq h;obtain⟨p,rfl,hp⟩:=h1.rat;exact .cons (.tup (fun z=>by subst z;rw [hp]at hc;cases hc) hp (.cons .int (.cons .int .nil))) (Nh hc h2)
def Xm{c:AD}{zs:List V}{H H':Hp}(hc:H c=some (.lst zs))(e:SameBut c H H'){qs:List Rat}{xs:List V}(h:Bi H (BA qs) xs):Bi H' (BA qs) xs:=Ig (.but e (Nh hc h))
def gF{c a:AD}{zs xs:List V}{H:Hp}{qs:List Rat}(hc:H c=some (.lst zs))(n:a≠c)(ha:H a=some (.lst xs))(h:Bi H (BA qs) xs):Dt c H (Bg qs) (.ref a):=.lst n ha (Nh hc h)
def Bi.set{H:Hp}{d:PD}{v:V}(hv:DU H d v):∀ {ds:List PD} {xs:List V} {j:Nat},Bi H ds xs→Bi H (ds.set j d) (xs.set j v)
 |[],xs,j,h=>by
  have:=h.len;rw [List.length_nil]at this;rw [List.eq_nil_of_length_eq_zero this];exact .nil
 |e::es,xs,j,h=>by
  obtain⟨x,r,rfl,h1,h2⟩:=h.Wq;cases j with
  |zero=>exact .cons hv h2
  |succ j=>exact .cons h1 (Bi.set (j:=j) hv h2)
def DU.tab{H:Hp}{t:Tb}{v:V}(h:DU H (Ai t) v):∃p R L xs ys,v=.ref p∧H p=some (.tup [.ref R,.ref L])∧H R=some (.lst xs)∧Bi H (Ba t.rs) xs∧H L=some (.lst ys)∧Bi H (BA t.ls) ys:=by
 obtain⟨p,zs,rfl,hp,h1⟩:=h.jZ;obtain⟨x,y,rfl,h2,h3⟩:=h1.Uo;obtain⟨R,xs,rfl,hR,h4⟩:=h2.Xl;obtain⟨L,ys,rfl,hL,h5⟩:=h3.Xl;exact⟨p,R,L,xs,ys,rfl,hp,hR,h4,hL,h5⟩
def PF{H:Hp}{t:Tb}{p R L:AD}{xs ys:List V}(hp:H p=some (.tup [.ref R,.ref L]))(hR:H R=some (.lst xs))(h4:Bi H (Ba t.rs) xs)(hL:H L=some (.lst ys))(h5:Bi H (BA t.ls) ys):DU H (Ai t) (.ref p) :=
 .tup hp (.cons (.lst hR h4) (.cons (.lst hL h5) .nil))
def LA{H:Hp}{rs:List (List Rat)}{xs:List V}{i:Nat}{r:List Rat}(h:Bi H (Ba rs) xs)(hr:rs[i]? = some r):∃a ys,xs[i]? = some (.ref a)∧H a=some (.lst ys)∧Bi H (BA r) ys:=by
 obtain⟨v,h1,h2⟩:=h.get (i:=i) (d:=Bg r) (by rw [Ba,List.getElem?_map,hr];rfl);obtain⟨a,ys,rfl,h3,h4⟩:=h2.Xl;exact⟨a,ys,h1,h3,h4⟩
def GH(c b:Int):Int:=c.fdiv (FM.gi c b)*b
def GP(bs:List Int):Int:=bs.foldl GH 1
def SR{k:Nat}:∀(bs:List Int) (c:Int) (n:Nat),1≤c→c.natAbs<2^n→(∀b∈bs,1≤b∧b.natAbs<2^k) →
  1≤bs.foldl GH c∧(bs.foldl GH c).natAbs<2^(n+k*bs.length)∧c ∣ bs.foldl GH c∧∀b∈bs,b ∣ bs.foldl GH c
 |[],c,n,h1,h2,_=>⟨h1,by simpa using h2,Int.dvd_refl _,fun _ z=>(List.not_mem_nil z).elim⟩
 |b::bs,c,n,h1,h2,h=>by
  obtain⟨b1,b2⟩:=h b aR;obtain⟨s1,s2,s3,s4⟩:=Rm h1 b1;have n1:(GH c b).natAbs<2^(n+k):=FM.WR (ae s4 h2) b2;obtain⟨r1,r2,r3,r4⟩:=SR bs (GH c b) (n+k) s1 n1 fun y hy=>h y (aP _ hy);refine⟨r1,?_,Int.dvd_trans s2 r3,fun y hy=>?_⟩
  ·rw [List.length_cons,Nat.mul_succ,show n+(k*bs.length+k)=n+k+k*bs.length by omega];exact r2
  ·rcases aN.mp hy with rfl|hy
   ·exact Int.dvd_trans s3 r3
   ·exact r4 y hy
def UK{k:Nat}{bs:List Int}(h:∀b∈bs,1≤b∧b.natAbs<2^k):1≤GP bs∧(GP bs).natAbs<2^(1+k*bs.length)∧∀b∈bs,b ∣ GP bs:=by
 obtain⟨a,b,_,d⟩:=SR bs 1 1 (by decide) (by decide) h;exact⟨a,b,d⟩
def Xr(bs:List Int)(b:Int):GP (bs++[b])=GH (GP bs) b:=by
 unfold GP;rw [List.foldl_append]
 rfl
def XJ:Sp:=fun vs H Q _=>∃(a:AD) (bs:List Int) (k:Nat),vs=[.ref a]∧H a=some (.lst (bs.map V.int))∧(∀b∈bs,1≤b∧b.natAbs<2^k)∧k*bs.length≤4000∧Q (.int (GP bs)) H
def Ex(rs:List Rat)(B:Int):List Int:=rs.map fun r=>r.num*B.fdiv (r.den:Int)
def W2:Sp:=fun vs H Q _=>∃(a:AD) (xs:List V) (rs:List Rat) (B:Int) (n m:Nat),vs=[.ref a,.int B]∧H a=some (.lst xs)∧Bi H (BA rs) xs∧rs.length≤50∧(∀r∈rs,FM.Fits r n)∧B.natAbs<2^m∧n+m≤4000 ∧
 ∀D H',AK H H'→H D=none→H' D=some (.lst ((Ex rs B).map V.int))→Q (.ref D) H'
def IP{H:Hp}{qs:List Rat}{xs:List V}{i:Nat}{q:Rat}(h:Bi H (BA qs) xs)(hq:qs[i]? = some q):∃p,xs[i]? = some (.ref p)∧H p=some (.tup (Lq q)):=by
 obtain⟨v,h1,h2⟩:=h.get (i:=i) (d:=Af q) (by rw [BA,List.getElem?_map,hq];rfl);obtain⟨p,rfl,hp⟩:=h2.rat;exact⟨p,h1,hp⟩
def Um{rs:List Rat}{n:Nat}(h:∀r∈rs,FM.Fits r n):∀b∈rs.map (fun r=>(r.den:Int)),1≤b∧b.natAbs<2^n:=fun b hb=>by
 obtain⟨r,hr,rfl⟩:=aU.mp hb;have:=r.den_nz;exact⟨by omega,(h r hr).d⟩
section
variable{P:Program}{w:World}{K:Fg}{mg:Str→Option VL}{base:Heap}{f g g1 g2:AD}{fd gd gd1 gd2:FuncData}
def Mt(F:Fn K mg "common_bottom" Gj ["bottoms"] f fd)(BQ:Fn K mg "greatest_divisor" C1 ["one", "other"] g gd)
 (Cw:AM P w K mg base Ab 1 g gd ["one", "other"] V7):AM P w K mg base Ab 2 f fd ["bottoms"] XJ:=by
 have sc:=OE;refine F.F.ok (k:=1) sc (fun vs H Q E h=>?_) (fun cdv A outer s H vs Q E hr h=>?_)
 ·obtain⟨a,bs,k,rfl,_⟩:=h
  rfl
 obtain⟨a,bs,k,rfl,ha,hb,hk,q⟩:=h;refine⟨_,(AY (BK (i:=1) sc.nd rfl (Or.inl rfl) Ad)
 (AY (Gb aM rfl (En (pv 0)) (A4 (i:=2) sc.nd rfl (Or.inl rfl))
  (Ah (BK (i:=1) sc.nd rfl (Or.inl rfl) (BP HJ (BP F8 (pv 1) (B4 BQ Cw hr rfl (AI (pv 1) (AI (pv 2) AR)))) (pv 2)))))
 (Ah (BU (pv 1))))),?_⟩
 refine⟨_,rfl,a,rfl,⟨_,Al.of ha⟩,LG (xs:=bs.map V.int) (fun i σ H'=>∃(r:Option V),σ=[some (.ref a),some (.int (GP (bs.take i))),r]∧H=H') ?_ ?_ ?_ ?_⟩
 ·exact⟨_,rfl,rfl⟩
 ·rintro i σ H' _ ⟨r,rfl,rfl⟩;exact Al.of ha
 ·rintro i x σ H' hx ⟨r,rfl,rfl⟩;have hi:i<bs.length:=by have:=(aD.mp hx).1;simpa using this
  rw [List.getElem?_map,List.getElem?_eq_getElem hi]at hx;cases hx;obtain⟨b1,b2⟩:=hb _ (List.getElem_mem hi);obtain⟨c1,c2,_⟩:=UK (k:=k) (bs:=bs.take i) fun y hy=>hb y (List.mem_of_mem_take hy);rw [List.length_take,Nat.min_eq_left (by omega)]at c2;obtain⟨s1,s2,s3,s4⟩:=Rm c1 b1;have hg:FM.gi (GP (bs.take i)) bs[i]≠0:=Int.ne_of_gt (FM.MP (by omega));have hki:k*i+k≤4000:=by
   have:k*(i+1)≤k*bs.length:=ay k hi;rw [Nat.mul_succ]at this;omega
  have n1:((GP (bs.take i)).fdiv (FM.gi (GP (bs.take i)) bs[i])).natAbs<2^(1+k*i):=ae s4 c2;refine⟨_,rfl,_,rfl,_,rfl,GP (bs.take i),bs[i],rfl,_,_,rfl,rfl,⟨hg,k,by have:k*1≤k*bs.length:=ay k (by omega);omega,Nat.lt_of_le_of_lt (FM.Zu (by omega)) b2⟩,_,rfl,_,_,rfl,rfl,Vk n1 b2 (by omega),some (.int bs[i]),?_,rfl⟩;rw [List.take_add_one,List.getElem?_eq_getElem hi];show _=[some (V.ref a),some (V.int (GP (bs.take i++[bs[i]]))),some (V.int bs[i])];rw [Xr]
  rfl
 ·rintro σ H' ⟨r,rfl,rfl⟩;rw [List.length_map,List.take_length];exact⟨_,rfl,q⟩
def TJ:Ac ["some", "bottom"] ["some", "bottom"] (AQ Jt):=B3
def SQ(F:Fn K mg "tops_over" Jt ["some", "bottom"] f fd):AM P w K mg base Ab 1 f fd ["some", "bottom"] W2:=by
 have sc:=TJ;refine F.F.ok (k:=0) sc (fun vs H Q E h=>?_) (fun cdv A outer s H vs Q E hr h=>?_)
 ·obtain⟨a,xs,rs,B,n,m,rfl,_⟩:=h
  rfl
 obtain⟨a,xs,rs,B,n,m,rfl,ha,dx,hl,hf,hB,hnm,q⟩:=h;have hxl:xs.length=rs.length:=by rw [dx.len,EY]
 refine⟨_,(Ah (BU (HG [".0", "part", "bottom"] 1 [none,none,some 1] (En (pv 0)) (fun _ _ _ _ _=>FV) (fun _ _ _ _ _=>(BP HJ (C8 MZ (pv 1) Ad (fun _ _=>rfl)) (BP F8 (pv 2) (C8 MZ (pv 1) Ad (fun _ _=>rfl)))))))),?_⟩;refine⟨_,rfl,a,rfl,⟨_,Al.of ha⟩,fun D hD=>HK (n:=xs.length) (fun i ys H'=>AK H H'∧ys=(Ex (rs.take i) B).map V.int) ⟨AZ hD _,rfl⟩ ?_ ?_⟩
 ·rintro i ys H1 hi ⟨e1,rfl⟩ hD1;have hr:rs[i]? = some (rs[i]'(by omega)):=aI _;obtain⟨p,hp1,hp2⟩:=IP dx hr;have ft:=hf _ (aQ hr);generalize rs[i]'(by omega)=r at hr hp2 ft;have hd:=r.den_nz;refine⟨⟨xs,.ref p,Al.of (e1 _ _ ha),hp1⟩,Nf (n:=60) (by unfold Ex;simp;omega) (by decide),fun x H' y=>?_⟩;obtain⟨rfl,y⟩:=y;have hx:=y xs (Al.of (e1 _ _ ha));rw [hp1]at hx;cases hx;unfold IY;have n2:(B.fdiv (r.den:Int)).natAbs<2^m:=ae (FM.FA _ _) hB;refine Ew ⟨_,rfl,_,_,_,_,rfl,rfl,A7.of (e1 _ _ hp2),rfl,_,rfl,_,rfl,_,_,_,_,rfl,rfl,A7.of (e1 _ _ hp2),rfl,_,_,rfl,rfl,⟨by omega,n,by omega,ft.d⟩,_,_,rfl,rfl,Vk ft.1 n2 (by omega),hD1,Fb hi ⟨fun b o z=>?_,?_⟩⟩
  ·rw [AJ (AU z hD)];exact e1 _ _ z
  ·rw [List.take_add_one,hr,Ex,Ex,List.map_append,List.map_append]
   rfl
 ·rintro ys H1 ⟨e1,rfl⟩ hD1;rw [hxl,List.take_length]at hD1;exact⟨⟨xs,Al.of (e1 _ _ ha),Nat.le_refl _⟩,q D H1 e1 hD hD1⟩
end
def Cj(a b:List Int):List Int:=List.zipWith (· * ·) a b
def Tc(a b:List Int):Int:=(Cj a b).sum
def EI(n:Nat):List Int:=List.replicate n 1
def IB(rows:List (List Int)):Tr→List Int→List Int
 |.nil,acc=>acc
 |.cons b r,acc=>IB rows r (Cj acc (rows.map fun row=>Tc row (IB rows b (EI rows.length))))
def Dy(rows:List (List Int))(t:Tr):List Int:=rows.map fun row=>Tc row (IB rows t (EI rows.length))
def Oe(rows:List (List Int)):∀(t:Tr) (acc:List Int),IB rows t acc=t.bs.foldl (fun a b=>Cj a (Dy rows b)) acc
 |.nil,acc=>rfl
 |.cons b r,acc=>by
  rw [IB,Tr.bs,List.foldl_cons,Oe rows r]
  rfl
def KC(rows:List (List Int))(t:Tr):(Dy rows t).length=rows.length:=bN _
def Y7{a b:List Int}(h:a.length=b.length):(Cj a b).length=a.length:=by unfold Cj;rw [List.length_zipWith,h,Nat.min_self]
def Cp(n:Nat)(xs:List Int):Prop:=∀x∈xs,x.natAbs≤n
def Cp.mul{m n:Nat}:∀ {a b:List Int},Cp m a→Cp n b→Cp (m*n) (Cj a b)
 |[],_,_,_=>fun x h=>by cases h
 |_::_,[],_,_=>fun x h=>by cases h
 |x::a,y::b,ha,hb=>fun z h=>by
  have h:z∈x*y::Cj a b:=h;rcases aN.mp h with rfl|h
  ·rw [Int.natAbs_mul];exact bX (ha x (.head _)) (hb y (.head _))
  ·exact Cp.mul (fun x h=>ha x (.tail _ h)) (fun x h=>hb x (.tail _ h)) z h
def Wk{n:Nat}:∀ {a:List Int},Cp n a→a.sum.natAbs≤a.length*n
 |[],_=>bE _
 |x::a,h=>by
  have h1:=h x (.head _);have h2:=Wk (a:=a) fun x h'=>h x (.tail _ h');rw [List.sum_cons,List.length_cons,Nat.succ_mul];have:=Int.natAbs_add_le x a.sum;omega
def gO{m n:Nat}{a b:List Int}(ha:Cp m a)(hb:Cp n b):(Tc a b).natAbs≤a.length*m*n:=by
 have h:=Wk (ha.mul hb);have hl:(Cj a b).length≤a.length:=by unfold Cj;rw [List.length_zipWith];exact Nat.min_le_left _ _
 refine aO h ?_;rw [Nat.mul_assoc];exact Nat.mul_le_mul_right _ hl
structure Ik(rows:List (List Int))(c:Nat):Prop where
 len:rows.length≤1000
 one:∀row∈rows,row.length≤rows.length
 big:∃M,(∀row∈rows,Cp M row)∧M≤2^c∧∀row∈rows,row.length*M≤2^c
def Cp.mono{m n:Nat}{xs:List Int}(h:Cp m xs)(e:m≤n):Cp n xs:=fun x hx=>aO (h x hx) e
def QD(n k:Nat):Cp (2^k) (EI n):=fun x h=>by
 unfold EI at h;rw [List.eq_of_mem_replicate h];exact Nat.one_le_two_pow
def Zz{rows:List (List Int)}{c:Nat}(h:Ik rows c){t:Tr}{k:Nat}(hs:Cp (2^(c*k)) (IB rows t (EI rows.length))):Cp (2^(c*(k+1))) (Dy rows t):=fun x hx=>by
 unfold Dy at hx;obtain⟨row,hr,rfl⟩:=aU.mp hx;obtain⟨M,h1,_,h2⟩:=h.big;have:=gO (h1 row hr) hs;refine aO this ?_;rw [Nat.mul_add,Nat.mul_one,Nat.add_comm,Nat.pow_add];exact Nat.mul_le_mul_right _ (h2 row hr)
def Oz{rows:List (List Int)}{c:Nat}(h:Ik rows c):∀(t:Tr) (acc:List Int) (j:Nat),acc.length=rows.length→Cp (2^(c*j)) acc→(IB rows t acc).length=rows.length∧Cp (2^(c*(j+(t.AV-1)))) (IB rows t acc)
 |.nil,acc,j,hl,ha=>⟨hl,ha⟩
 |.cons b r,acc,j,hl,ha=>by
  have hb:=Oz h b (EI rows.length) 0 (List.length_replicate ..) (QD _ _);have kb:1≤b.AV:=Tr.C3 b;have kr:1≤r.AV:=Tr.C3 r;rw [Nat.zero_add]at hb;have h1:=Zz h hb.2;rw [show b.AV-1+1=b.AV by omega]at h1;have h2:=ha.mul h1;rw [←Nat.pow_add,←Nat.mul_add]at h2;have h3:=Oz h r (Cj acc (Dy rows b)) (j+b.AV) (by rw [Y7 (by rw [hl,KC])];exact hl) h2;rw [IB,Tr.AV];refine⟨h3.1,?_⟩;rw [show j+(b.AV+r.AV-1)=j+b.AV+(r.AV-1) by omega];exact h3.2
def b8{rows:List (List Int)}{c:Nat}(h:Ik rows c)(t:Tr):Cp (2^(c*t.AV)) (Dy rows t):=by
 have h1:=(Oz h t (EI rows.length) 0 (List.length_replicate ..) (QD _ _)).2;have kb:1≤t.AV:=Tr.C3 t;rw [Nat.zero_add]at h1;have h2:=Zz h h1;rw [show t.AV-1+1=t.AV by omega]at h2;exact h2
def U6{m:Nat}(hm:m+1≤1000000){x y:Int}(hx:x.natAbs≤2^m)(hy:y.natAbs≤2^m):S4 x y∨Og x y:=by
 have:2^m<2^(m+1):=Nat.pow_lt_pow_of_lt (by decide) (bW m);exact .inr ⟨m+1,hm,Nat.lt_of_le_of_lt hx this,Nat.lt_of_le_of_lt hy this⟩
def I0{n:Nat}(h:n≤1000):n<sizeLine:=ae h (by rw [sizeLine_eq];decide)
def Dk{H H':Hp}{p:AD}(e:AK H H')(h:H' p=none):H p=none:=by
 cases z:H p with
 |none=>rfl
 |some o=>rw [e _ _ z]at h;cases h
def ints_get{ps:List Int}{i:Nat}{x:Int}(h:ps[i]? = some x):(ps.map V.int)[i]? = some (.int x):=by rw [List.getElem?_map,h];rfl
def Qt{xs ys:List Int}{i:Nat}{x y:Int}(hx:xs[i]? = some x)(hy:ys[i]? = some y):(Cj xs ys).take (i+1)=(Cj xs ys).take i++[x*y]:=by
 have h:(Cj xs ys)[i]? = some (x*y):=by unfold Cj;rw [List.getElem?_zipWith,hx,hy]
 rw [List.take_add_one,h];rfl
def gx:Sp:=fun vs H Q _=>∃a b xs ys m,vs=[.ref a,.ref b]∧H a=some (.lst (xs.map V.int))∧H b=some (.lst (ys.map V.int))∧xs.length≤ys.length∧xs.length≤1000∧m+1≤1000000∧Cp (2^m) xs∧Cp (2^m) ys∧∀H',AK H H'→Q (.int (Tc xs ys)) H'
section
variable{P:Program}{w:World}{K:Fg}{mg:Str→Option VL}{base:Heap}{f g1:AD}{fd gd1:FuncData}
def V2:Ac ["row", "shares"] ["row", "shares"] (AQ L3):=B3
def Vz(F:Fn K mg "read_by" L3 ["row", "shares"] f fd)(Dj:mg "sum" = none)(HS:mg "zip" = none):AM P w K mg base Ab 1 f fd ["row", "shares"] gx:=by
 have sc:=V2;refine F.F.ok (k:=0) sc (fun vs H Q E h=>?_) (fun cdv A outer s H vs Q E hr h=>?_)
 ·obtain⟨a,b,ps,qs,m,rfl,_⟩:=h
  rfl
 obtain⟨a,b,ps,qs,m,rfl,ha,hb,hl,h60,hm,sx,sy,q⟩:=h;refine⟨_,(Ah (BU (BL (N5 rfl) rfl Dj ba (AI (Qk [".0", "part", "share"] 1 2 [none,none,none] (WN rfl HS (AI (pv 0) (AI (pv 1) AR))) (fun _ _ _ _ _=>FV) (fun _ _ _ _ _=>(BP HJ (pv 1) (pv 2)))) AR)))),?_⟩;refine⟨_,rfl,_,rfl,false,false,a,b,rfl,⟨_,ha⟩,⟨_,hb⟩,fun D hD=>Rx (n:=ps.length) (fun i us H'=>AK H H'∧us=((Cj ps qs).take i).map V.int) ?_ ?_ ?_⟩
 ·exact⟨AZ hD _,by rw [List.take_zero];rfl⟩
 ·rintro i us H1 hi ⟨e1,rfl⟩ hD1;have hx:=aI hi;have hy:=aI (l:=qs) (i:=i) (by omega);have e1a:=e1 _ _ ha;have e1b:=e1 _ _ hb;refine⟨⟨_,_,_,_,e1a,e1b,ints_get hx,ints_get hy⟩,I0 (by rw [List.length_map,List.length_take];omega),fun v H' y=>?_⟩;obtain⟨p,x,z,rfl,np,rfl,k1,k2⟩:=y;have hx':=k1 _ e1a;have hy':=k2 _ e1b;rw [ints_get hx]at hx';rw [ints_get hy]at hy';cases hx';cases hy';have sp:=AZ np (.tup [.int ps[i],.int qs[i]]);refine⟨p,_,_,rfl,A7.of AL,?_⟩;unfold IY;refine Ew ⟨_,rfl,_,rfl,_,_,rfl,rfl,U6 hm (sx _ (List.getElem_mem _)) (sy _ (List.getElem_mem _)),sp _ _ hD1,Fb hi ⟨fun c o z=>?_,?_⟩⟩
  ·rw [AJ (AU z hD)];exact sp _ _ (e1 _ _ z)
  ·rw [Qt hx hy,List.map_append]
   rfl
 ·rintro us H1 ⟨e1,rfl⟩ hD1;refine⟨⟨_,_,e1 _ _ ha,e1 _ _ hb,.inl (by rw [List.length_map])⟩,D,_,rfl,Al.of hD1,?_⟩;rw [List.take_of_length_le (by unfold Cj;rw [List.length_zipWith];omega)];exact q _ e1
end
def IC(d:AD)(H H':Hp):Prop:=∀a o,a≠d→H a=some o→H' a=some o
def IC.of{d:AD}{H H':Hp}(e:AK H H'):IC d H H':=fun a o _ h=>e a o h
def IC.trans{d:AD}{H H1 H2:Hp}(e:IC d H H1)(e':IC d H1 H2):IC d H H2:=fun a o n h=>e' a o n (e a o n h)
def gN{d:AD}{r:List KR}{xs:List V}:dN d r≠.lst xs:=by unfold dN;intro z;cases z
def eA{d:AD}{r:List KR}{xs:List V}:dN d r≠.tup xs:=by unfold dN;intro z;cases z
def IC.lst{d:AD}{H H':Hp}(e:IC d H H'){r:List KR}(hd:H d=some (dN d r)){l:AD}{xs:List V}(h:H l=some (.lst xs)):H' l=some (.lst xs):=e l _ (Vx h hd fun z=>gN z.symm) h
def IC.BG{d:AD}{H H':Hp}(e:IC d H H'){r:List KR}(hd:H d=some (dN d r)):JL H H':=fun b xs h=>e b _ (Vx h hd fun z=>eA z.symm) h
def Qm(H:Hp)(vs:List V)(rows:List (List Int)):Prop:=vs.length=rows.length∧∀(i:Nat) (row:List Int),rows[i]? = some row→∃a:AD,vs[i]? = some (.ref a)∧H a=some (.lst (row.map V.int))
def Qm.same{H H':Hp}{vs:List V}{rows:List (List Int)}(h:Qm H vs rows)(e:AK H H'):Qm H' vs rows:=⟨h.1,fun i row hi=>let⟨a,h1,h2⟩:=h.2 i row hi;⟨a,h1,e _ _ h2⟩⟩
def Qm.but{d:AD}{H H':Hp}{vs:List V}{rows:List (List Int)}(h:Qm H vs rows)(e:IC d H H'){r:List KR}(hd:H d=some (dN d r)):Qm H' vs rows:=⟨h.1,fun i row hi=>let⟨a,h1,h2⟩:=h.2 i row hi;⟨a,h1,e.lst hd h2⟩⟩
structure VG(Dm:List Tr)(c:Nat):Prop where
 len:Dm.length≤1000
 inj:∀a∈Dm,∀b∈Dm,TH.Bh (some a)=TH.Bh (some b)→a=b
 bs:∀t∈Dm,∀b∈t.bs,b∈Dm
 deep:∀t∈Dm,t.deep<8
 size:∀t∈Dm,c*t.AV+1≤1000000
structure Memo(Dm:List Tr)(rows:List (List Int))(W:Addr)(H:Hp)(d:Addr)(r:List KR):Prop where
 at_:H d=some (dN d r)
 nd:(r.map (·.1)).Nodup
 all:∀q∈r,∃(t:Tr) (l:Addr),q.1=some t∧t∈Dm∧Tv H t q.2.1∧q.2.2=.ref l∧H l=some (.lst ((Dy rows t).map V.int))∧l≠W
def Memo.same{Dm:List Tr}{rows:List (List Int)}{W:AD}{H H':Hp}{d:AD}{r:List KR}(h:Memo Dm rows W H d r)(e:AK H H'):Memo Dm rows W H' d r:=⟨e _ _ h.at_,h.nd,fun q hq=>let⟨t,l,h1,h2,h3,h4,h5,h6⟩:=h.all q hq;⟨t,l,h1,h2,h3.same e,h4,e _ _ h5,h6⟩⟩
def Memo.ok{Dm:List Tr}{c:Nat}{rows:List (List Int)}{W:AD}{H:Hp}{d:AD}{r:List KR}(h:Memo Dm rows W H d r)(D:VG Dm c){t:Tr}(ht:t∈Dm):Sr H d r (some t):=by
 refine⟨h.at_,fun q hq=>?_,h.nd,fun q hq hh=>?_⟩
 ·obtain⟨u,l,h1,h2,h3,_⟩:=h.all q hq;rw [h1];exact⟨D.deep u h2,h3⟩
 ·obtain⟨u,l,h1,h2,_⟩:=h.all q hq;rw [h1]at hh ⊢;rw [D.inj u h2 t ht hh]
def Qf{α:Type}[DecidableEq α]:∀ {a b:List α},a.Nodup→(∀x∈a,x∈b)→a.length≤b.length
 |[],_,_,_=>bE _
 |x::a,b,hn,h=>by
  have hx:=h x (.head _);obtain⟨h1,h2⟩:=List.nodup_cons.mp hn;have:=Qf (a:=a) (b:=b.erase x) h2 fun y hy=>(List.mem_erase_of_ne (show y≠x from fun e=>h1 (by rw [←e];exact hy))).mpr (h y (.tail _ hy));rw [List.length_erase_of_mem hx]at this;have:=List.length_pos_of_mem hx;rw [List.length_cons];omega
def Memo.len{Dm:List Tr}{rows:List (List Int)}{W:AD}{H:Hp}{d:AD}{r:List KR}(h:Memo Dm rows W H d r):r.length≤Dm.length:=by
 have:=Qf (b:=Dm.map some) h.nd fun x hx=>by
  obtain⟨q,hq,rfl⟩:=aU.mp hx;obtain⟨u,l,h1,h2,_⟩:=h.all q hq;rw [h1];exact List.mem_map_of_mem h2
 simpa using this
def Memo.put{Dm:List Tr}{rows:List (List Int)}{W:AD}{H H':Hp}{d:AD}{r:List KR}(h:Memo Dm rows W H d r){t:Tr}{v:V}{l:AD}(ht:t∈Dm)(tv:Tv H t v)(hl:H l=some (.lst ((Dy rows t).map V.int)))(hlW:l≠W)
 (e:H'=upd H d (dN d (FK r (some t) v (.ref l)))):IC d H H'∧Memo Dm rows W H' d (FK r (some t) v (.ref l))∧H' l=some (.lst ((Dy rows t).map V.int)):=by
 subst e;have hb:IC d H (upd H d (dN d (FK r (some t) v (.ref l)))):=fun a o n h=>by rw [AJ n];exact h
 have hl':=hb.lst h.at_ hl;have old:∀q∈r,∃(t':Tr) (l':AD),q.1=some t'∧t'∈Dm∧Tv (upd H d (dN d (FK r (some t) v (.ref l)))) t' q.2.1∧q.2.2=.ref l'∧upd H d (dN d (FK r (some t) v (.ref l))) l'=some (.lst ((Dy rows t').map V.int))∧l'≠W:=fun q hq=>by
  obtain⟨u,l',h1,h2,h3,h4,h5,h6⟩:=h.all q hq;exact⟨u,l',h1,h2,h3.BG (hb.BG h.at_),h4,hb.lst h.at_ h5,h6⟩
 refine⟨hb,⟨AL,?_,fun q hq=>?_⟩,hl'⟩
 ·unfold FK;split
  ·rw [List.map_map];rw [show((fun x:KR=>x.1) ∘ fun q:KR=>if q.1=some t then(q.1,q.2.1,V.ref l) else q)=fun x=>x.1 from funext fun q=>by
    show(if q.1=some t then(q.1,q.2.1,V.ref l) else q).1=q.1;split<;>rfl]
   exact h.nd
  ·rename_i hn;rw [List.map_append];refine List.nodup_append.mpr ⟨h.nd,by simp,fun a ha b hb'=>?_⟩;obtain⟨q,hq,rfl⟩:=aU.mp ha;have hb':b=some t:=by simpa using hb'
   subst hb';have hn:r.find? (fun q=>decide (q.1=some t))=none:=by
    cases z:r.find? (fun q=>decide (q.1=some t)) with
    |none=>rfl
    |some x=>rw [z]at hn;exact absurd rfl hn
   have:=List.find?_eq_none.mp hn q hq
   simpa using this
 ·have hq':q∈r∨(∃q'∈r,q'.1=some t∧q=(q'.1,q'.2.1,.ref l))∨q=(some t,v,.ref l):=by
   unfold FK at hq;split at hq
   ·obtain⟨q',h1,h2⟩:=aU.mp hq;split at h2
    ·rename_i z;exact .inr (.inl ⟨q',h1,z,h2.symm⟩)
    ·subst h2;exact .inl h1
   ·rcases bZ.mp hq with hq|hq
    ·exact .inl hq
    ·exact .inr (.inr (by simpa using hq))
  rcases hq' with hq'|⟨q',h1,h2,rfl⟩|rfl
  ·exact old q hq'
  ·obtain⟨u,l',k1,k2,k3,_⟩:=old q' h1;rw [h2]at k1;cases k1;exact⟨t,l,h2,k2,k3,rfl,hl',hlW⟩
  ·exact⟨t,l,rfl,ht,tv.BG (hb.BG h.at_),rfl,hl',hlW⟩
def JX:∀ {t b:Tr},b∈t.bs→b.AV≤t.AV
 |.nil,b,h=>by cases h
 |.cons c r,b,h=>by
  rw [Tr.bs]at h;rw [Tr.AV];rcases aN.mp h with rfl|h
  ·exact Nat.le_add_right _ _
  ·exact aO (JX h) (Nat.le_add_left _ _)
def Y8(r:List KR)(k:Option Tr)(kv v:V):∃q,(FK r k kv v).find? (fun q=>decide (q.1=k))=some q:=by
 have:∃q∈FK r k kv v,q.1=k:=by
  unfold FK;split
  ·rename_i h;obtain⟨q,hq⟩:=Option.isSome_iff_exists.mp h;obtain⟨h1,h2⟩:=find_key hq;exact⟨_,List.mem_map_of_mem h1,by rw [if_pos h2];exact h2⟩
  ·exact⟨_,List.mem_append_right _ (.head _),rfl⟩
 obtain⟨q,h1,h2⟩:=this;cases z:(FK r k kv v).find? (fun q=>decide (q.1=k)) with
 |some q'=>exact⟨q',rfl⟩
 |none=>exact absurd h2 (by simpa using List.find?_eq_none.mp z q h1)
def PV:∀(t:Tr) (i:Nat),(Tr.of (t.bs.take i)).AV≤t.AV
 |.nil,i=>by rw [Tr.bs,List.take_nil];exact aF _
 |.cons b r,0=>by
  have:=Tr.C3 (.cons b r);exact this
 |.cons b r,i+1=>by
  rw [Tr.bs,List.take_succ_cons,Tr.of,Tr.AV,Tr.AV];exact Nat.add_le_add_left (PV r i) _
def WT(Dm:List Tr)(c n:Nat):Sp:=fun vs H Q _=>∃R rvs rows v t d r W,vs=[.ref R,v,.ref d]∧H R=some (.lst rvs)∧Qm H rvs rows∧Ik rows c∧Tv H t v∧t∈Dm∧t.deep<n∧(∃o,H W=some o)∧Memo Dm rows W H d r∧∀H' r' l,IC d H H'→Memo Dm rows W H' d r'→H' l=some (.lst ((Dy rows t).map V.int))→Q (.ref l) H'
section
variable{P:Program}{w:World}{K:Fg}{mg:Str→Option VL}{base:Heap}{f g1:AD}{fd gd1:FuncData}
def T4:Ac ["rows", "tree", "known", "shares", "bough"] ["rows", "tree", "known"] (AQ K9):=B3
def Mw{Dm:List Tr}{c:Nat}(DO:VG Dm c)(Dz:Fn K mg "readings" K9 ["rows", "tree", "known"] f fd)(HZ:Fn K mg "read_by" L3 ["row", "shares"] g1 gd1)(OY:AM P w K mg base Ab 1 g1 gd1 ["row", "shares"] gx)(A9:mg "len" = none)(HS:mg "zip" = none) :
  ∀n,AM P w K mg base Ab (n+1) f fd ["rows", "tree", "known"] (WT Dm c n)
 |0=>Dr fun _ _ _ _ ⟨_,_,_,_,_,_,_,_,_,_,_,_,_,_,h,_⟩=>absurd h (ao _)
 |n+1=>by
  have sc:=T4;have Kq:=Mw DO Dz HZ OY A9 HS n;have Wl:=OY.mono (show 1≤n+1 by omega);refine Dz.F.ok (k:=n+1) sc (fun vs H Q E h=>?_) (fun cdv A outer s H vs Q E hr h=>?_)
  ·obtain⟨R,rvs,rows,v,t,d,r,W,rfl,_⟩:=h
   rfl
  obtain⟨R,rvs,rows,v,t,d,r,W,rfl,hR,hrw,ro,tv,ht,hdp,⟨oW,hW⟩,me,q⟩:=h;have hWs:∀ {H':Hp} {ρ:List KR},IC d H H'→Memo Dm rows W H' d ρ→∃o,H' W=some o:=fun {H' ρ} e m=>by
   by_cases z:W=d
   ·exact⟨_,by rw [z];exact m.at_⟩
   ·exact⟨_,e _ _ z hW⟩
  refine⟨_,(AY (Dw (CC (dk (by have:=hr.units;exact this) true) (pv 1) (pv 2) rfl)
  (AY (BK (i:=3) sc.nd rfl (Or.inr rfl) (BP Wm (FF (AI Ad AR)) (BL Bx rfl A9 aY (AI (pv 0) AR))))
  (AY (Gb aM rfl (Sg (pv 1)) (A4 (i:=4) sc.nd rfl (Or.inl rfl))
   (Ah (BK (i:=3) sc.nd rfl (Or.inr rfl) (Qk [".0", "share", "read"] 1 2 [none,none,none] (WN rfl HS (AI (pv 3) (AI (B4 Dz Kq hr rfl (AI (pv 0) (AI (pv 4) (AI (pv 2) AR)))) AR))) (fun _ _ _ _ _=>FV) (fun _ _ _ _ _=>(BP HJ (pv 1) (pv 2)))))))
  (Ah (Tf (HG [".0", "row", "shares"] 1 [none,none,some 3] (En (pv 0)) (fun _ _ _ _ _=>FV) (fun _ _ _ _ _=>(B4 HZ Wl hr rfl (AI (pv 1) (AI (pv 2) AR))))) (XO (pv 2) (pv 1) (fT (by have:=hr.units;exact this)))))))
  CI)
 (Ah (BU (gH (by have:=hr.units;exact this) (pv 2) (pv 1) (fun _ _=>rfl))))),?_⟩
  have key:Hi H (some t) v:=⟨DO.deep t ht,tv⟩;cases hz:r.find? (fun q=>decide (q.1=some t)) with
  |some q' =>
   refine⟨_,rfl,_,rfl,d,r,some t,rfl,key,me.ok DO ht,false,by rw [hz];rfl,Sl ?_⟩;obtain⟨hm,hk⟩:=find_key hz;obtain⟨u,l,h1,h2,h3,h4,h5,_⟩:=me.all q' hm;rw [hk]at h1;cases h1;refine⟨_,rfl,_,rfl,d,r,some t,q',rfl,key,me.ok DO ht,hz,?_⟩;rw [h4];exact q H r l (fun a o _ h=>h) me h5
  |none =>
   refine⟨_,rfl,_,rfl,d,r,some t,rfl,key,me.ok DO ht,true,by rw [hz];rfl,Ew ?_⟩;refine⟨by show 1≤sizeLine;decide,fun p hp=>⟨_,rfl,_,_,rfl,.inl (Al.of (AZ hp _ _ _ hR)),p,_,_,rfl,rfl,AL,by omega,?_,?_,fun S hS=>?_⟩⟩
   ·have:=hrw.1;have:=ro.len;omega
   ·have:=hrw.1;have:=ro.len;refine bG (I0 ?_);simp;omega
   rw [List.flatten_replicate_singleton,show((rvs.length:Nat):Int).toNat=rows.length by rw [hrw.1];rfl];have e0:AK H (upd (upd H p (.lst [V.int 1])) S (.lst (List.replicate rows.length (V.int 1)))):=(AZ hp _).trans (AZ hS _);have hS0:upd (upd H p (.lst [V.int 1])) S (.lst (List.replicate rows.length (V.int 1))) S=some (.lst (((t.bs.take 0).foldl (fun a b=>Cj a (Dy rows b)) (EI rows.length)).map V.int)):=by
    rw [AL,List.take_zero,List.foldl_nil];unfold EI;rw [List.map_replicate]
   generalize upd (upd H p (.lst [V.int 1])) S (.lst (List.replicate rows.length (V.int 1)))=H0 at e0 hS0;obtain⟨a,ys,rfl,ha,hts⟩:=tv;have hyl:=hts.len;have sizes:∀i,((t.bs.take i).foldl (fun a b=>Cj a (Dy rows b)) (EI rows.length)).length=rows.length∧Cp (2^(c*t.AV)) ((t.bs.take i).foldl (fun a b=>Cj a (Dy rows b)) (EI rows.length)):=fun i=>by
    have h:=Oz ro (Tr.of (t.bs.take i)) (EI rows.length) 0 (List.length_replicate ..) (QD _ _);rw [Oe,Tr.Mo]at h;refine⟨h.1,h.2.mono (aW (by decide) (ay _ ?_))⟩;have:=PV t i;omega
   refine⟨_,rfl,a,rfl,⟨_,A7.of (e0 _ _ ha)⟩,dI (xs:=ys) (fun i σ H'=>∃(r4:Option V) (S:AD) (ρ:List KR),σ=[some (.ref R),some (.ref a),some (.ref d),some (.ref S),r4]∧IC d H H'∧Memo Dm rows W H' d ρ∧H' S=some (.lst (((t.bs.take i).foldl (fun a b=>Cj a (Dy rows b)) (EI rows.length)).map V.int))) ?_ ?_ ?_ ?_⟩
   ·exact⟨_,S,r,rfl,.of e0,me.same e0,hS0⟩
   ·rintro i σ H' _ ⟨r4,S',ρ,rfl,e,_⟩;exact A7.of (e.BG me.at_ _ _ ha)
   ·rintro i x σ H1 hx ⟨r4,S1,ρ,rfl,e1,me1,hS1⟩;obtain⟨b,hb,tb⟩:=hts.get hx;have hbm:b∈t.bs:=aQ hb;have hbd:=Tr.Rc hbm;refine⟨_,rfl,_,rfl,_,rfl,_,rfl,R,rvs,rows,x,b,d,ρ,W,rfl,e1.lst me.at_ hR,hrw.but e1 me.at_,ro,tb.BG (e1.BG me.at_),DO.bs t ht b hbm,by omega,hWs e1 me1,me1,fun H2 r2 l e2 me2 hl2=>?_⟩;have hS2:=e2.lst me1.at_ hS1;have e02:=e1.trans e2;obtain⟨sl,sb⟩:=sizes i;generalize hsh:(t.bs.take i).foldl (fun a b=>Cj a (Dy rows b)) (EI rows.length)=sh at sl sb hS2;have hnext:(t.bs.take (i+1)).foldl (fun a b=>Cj a (Dy rows b)) (EI rows.length)=Cj sh (Dy rows b):=by
     rw [List.take_add_one,hb,List.foldl_append,hsh];rfl
    have rl:=KC rows b;have rb:=b8 ro b;have kb:b.AV≤t.AV:=JX hbm;have rb':=rb.mono (aW (by decide) (ay c kb));refine⟨false,false,S1,l,rfl,⟨_,hS2⟩,⟨_,hl2⟩,fun D hD=>Rx (n:=sh.length) (fun j us H'=>AK H2 H'∧us=((Cj sh (Dy rows b)).take j).map V.int) ?_ ?_ ?_⟩
    ·exact⟨AZ hD _,by rw [List.take_zero];rfl⟩
    ·rintro j us H3 hj ⟨e3,rfl⟩ hD3;have hx:=aI hj;have hy:=aI (l:=Dy rows b) (i:=j) (by omega);have e3a:=e3 _ _ hS2;have e3b:=e3 _ _ hl2;refine⟨⟨_,_,_,_,e3a,e3b,ints_get hx,ints_get hy⟩,I0 (by have:=ro.len;rw [List.length_map,List.length_take];omega),fun v H' y=>?_⟩;obtain⟨p,x,z,rfl,np,rfl,k1,k2⟩:=y;have hx':=k1 _ e3a;have hy':=k2 _ e3b;rw [ints_get hx]at hx';rw [ints_get hy]at hy';cases hx';cases hy';have sp:=AZ np (.tup [.int sh[j],.int (Dy rows b)[j]]);refine⟨p,_,_,rfl,A7.of AL,?_⟩;unfold IY;refine Ew ⟨_,rfl,_,rfl,_,_,rfl,rfl,U6 (DO.size t ht) (sb _ (List.getElem_mem _)) (rb' _ (List.getElem_mem _)),sp _ _ hD3,Fb hj ⟨fun c o z=>?_,?_⟩⟩
     ·rw [AJ (AU z hD)];exact sp _ _ (e3 _ _ z)
     ·rw [Qt hx hy,List.map_append]
      rfl
    ·rintro us H3 ⟨e3,rfl⟩ hD3;refine⟨⟨_,_,e3 _ _ hS2,e3 _ _ hl2,.inl (by rw [List.length_map])⟩,?_⟩;refine⟨_,D,r2,rfl,e02.trans (.of e3),me2.same e3,?_⟩;rw [hD3,hnext,List.take_of_length_le (by unfold Cj;rw [List.length_zipWith];omega)]
   ·rintro σ H1 ⟨r4,S1,ρ,rfl,e1,me1,hS1⟩;rw [hyl,List.take_length,←Oe]at hS1;obtain⟨sl,sb⟩:=sizes t.bs.length;rw [List.take_length,←Oe]at sl sb;have hR1:=e1.lst me.at_ hR;have hrw1:=hrw.but e1 me.at_;refine⟨_,rfl,R,rfl,⟨_,Al.of hR1⟩,fun D hD=>HK (n:=rvs.length) (fun j us H'=>AK H1 H'∧us=((Dy rows t).take j).map V.int) ?_ ?_ ?_⟩
    ·exact⟨AZ hD _,by rw [List.take_zero];rfl⟩
    ·rintro j us H3 hj ⟨e3,rfl⟩ hD3;have hj':j<rows.length:=by rw [←hrw.1];exact hj
     have hrow:=aI hj';generalize rows[j]=row at hrow;have hrm:=aQ hrow;obtain⟨pr,g1,g2⟩:=hrw1.2 j row hrow;have hR3:=e3 _ _ hR1;refine⟨⟨_,_,Al.of hR3,g1⟩,I0 (by have:=ro.len;rw [List.length_map,List.length_take,KC];omega),fun x H' y=>?_⟩;obtain⟨rfl,y⟩:=y;have hx:=y _ (Al.of hR3);rw [g1]at hx;cases hx;unfold IY;obtain⟨M,b1,b2,_⟩:=ro.big;refine Ew ⟨_,rfl,_,rfl,pr,S1,row,_,c*t.AV,rfl,e3 _ _ g2,e3 _ _ hS1,?_,?_,DO.size t ht,?_,sb,fun H4 e4=>?_⟩
     ·rw [sl];exact ro.one row hrm
     ·have:=ro.one row hrm;have:=ro.len;omega
     ·refine(b1 row hrm).mono (aO b2 (aW (by decide) ?_));have:=Tr.C3 t;exact Nat.le_mul_of_pos_right c this
     ·refine⟨e4 _ _ hD3,Fb hj ⟨fun c o z=>?_,?_⟩⟩
      ·rw [AJ (AU z hD)];exact e4 _ _ (e3 _ _ z)
      ·have:(Dy rows t)[j]? = some (Tc row (IB rows t (EI rows.length))):=by unfold Dy;rw [List.getElem?_map,hrow];rfl
       rw [List.take_add_one,this,List.map_append]
       rfl
    ·rintro us H3 ⟨e3,rfl⟩ hD3;rw [List.take_of_length_le (by rw [KC,hrw.1];exact aF _)]at hD3;have me3:=me1.same e3;have hDW:D≠W:=fun z=>by
      obtain⟨o,hw⟩:=hWs e1 me1;rw [←z,hD]at hw;cases hw
     have tv3:Tv H3 t (.ref a):=⟨a,ys,rfl,e3 _ _ (e1.BG me.at_ _ _ ha),(hts.BG (e1.BG me.at_)).same e3⟩;refine⟨⟨_,Al.of (e3 _ _ hR1),Nat.le_refl _⟩,_,rfl,_,rfl,d,ρ,some t,rfl,⟨DO.deep t ht,tv3⟩,me3.ok DO ht,Nat.le_trans me3.len DO.len,?_⟩;generalize h4:upd H3 d (dN d (FK ρ (some t) (.ref a) (.ref D)))=H4;obtain⟨b4,me4,l4⟩:=me3.put ht tv3 hD3 hDW h4.symm;have tv4:=tv3.BG (b4.BG me3.at_);have key4:Hi H4 (some t) (.ref a):=⟨DO.deep t ht,tv4⟩;obtain⟨q',hq',hv⟩:∃q',(FK ρ (some t) (.ref a) (.ref D)).find? (fun q=>decide (q.1=some t))=some q'∧∃l,q'.2.2=.ref l∧H4 l=some (.lst ((Dy rows t).map V.int)):=by
      obtain⟨q',hq'⟩:=Y8 ρ (some t) (.ref a) (.ref D);obtain⟨hm,hk⟩:=find_key hq';obtain⟨u,l,h1,h2,h3,h4,h5,_⟩:=me4.all q' hm;rw [hk]at h1;cases h1;exact⟨q',hq',l,h4,h5⟩
     obtain⟨l,hv,hl⟩:=hv;refine⟨_,rfl,_,rfl,d,_,some t,q',rfl,key4,me4.ok DO ht,hq',?_⟩;rw [hv];exact q H4 _ l ((e1.trans (.of e3)).trans b4) me4 hl
end
def EZ(r:List Rat):List Int:=r.map fun q=>(q.den:Int)
def Gd(t:Tb)(i:Nat):List Int:=EZ t.ls++((t.rs.take i).map EZ).flatten
def EA(t:Tb):Int:=GP (Gd t t.rs.length)
def Tb.Fits(t:Tb)(n:Nat):Prop:=(∀r∈t.rs,∀q∈r,FM.Fits q n)∧∀q∈t.ls,FM.Fits q n
def Ox{t:Tb}{i:Nat}{r:List Rat}(h:t.rs[i]? = some r):Gd t (i+1)=Gd t i++EZ r:=by
 unfold Gd;rw [List.take_add_one,h,List.map_append,List.flatten_append,List.append_assoc];simp
def Ji{t:Tb}{m:Nat}(o:t.Ok m):∀i,i≤t.rs.length→(Gd t i).length≤t.rs.length+t.rs.length*i
 |0,_=>by unfold Gd EZ;simp [o.last]
 |i+1,h=>by
  have hr:=aI (l:=t.rs) (i:=i) (by omega);have:=Ji o i (by omega);rw [Ox hr,List.length_append,show(EZ t.rs[i]).length=t.rs[i].length from bN _,o.row i _ hr,Nat.mul_succ];omega
def QO{t:Tb}{n:Nat}(h:t.Fits n)(i:Nat):∀b∈Gd t i,1≤b∧b.natAbs<2^n:=fun b hb=>by
 unfold Gd at hb;rcases bZ.mp hb with hb|hb
 ·exact Um h.2 b hb
 ·obtain⟨l,hl,hb⟩:=List.mem_flatten.mp hb;obtain⟨r,hr,rfl⟩:=aU.mp hl;exact Um (h.1 r (List.mem_of_mem_take hr)) b hb
def gK:Sp:=fun vs H Q _=>∃(v:V) (t:Tb) (m n:Nat),vs=[v]∧DU H (Ai t) v∧t.Ok m∧m≤40∧t.Fits n∧n*(m+m*m)≤4000∧∀H',AK H H'→Q (.int (EA t)) H'
section
variable{P:Program}{w:World}{K:Fg}{mg:Str→Option VL}{base:Heap}{f g g1 g2:AD}{fd gd gd1 gd2:FuncData}
def Oh:Ac ["table", "bottoms", "row"] ["table"] (AQ HD):=B3
def PN(F:Fn K mg "table_bottom" HD ["table"] f fd)(E9:Fn K mg "common_bottom" Gj ["bottoms"] g1 gd1)
 (Ot:AM P w K mg base Ab 2 g1 gd1 ["bottoms"] XJ):AM P w K mg base Ab 3 f fd ["table"] gK:=by
 have sc:=Oh;refine F.F.ok (k:=2) sc (fun vs H Q E h=>?_) (fun cdv A outer s H vs Q E hr h=>?_)
 ·obtain⟨v,t,m,n,rfl,_⟩:=h
  rfl
 obtain⟨v,t,m,n,rfl,dt,ot,hm,ft,hnm,q⟩:=h;obtain⟨p,R,L,xs,ys,rfl,hp,hR,dR,hL,dL⟩:=dt.tab;have hyl:ys.length=t.ls.length:=by rw [dL.len,EY]
 have hxl:xs.length=t.rs.length:=by rw [dR.len,Ed]
 have h1:=ot.most;have h2:=ot.last;refine⟨_,(AY (M8 (i:=1) [".0", "part"] 1 [none,none] sc.nd rfl rfl (En (C8 De (pv 0) Ad (fun _ _=>rfl))) (fun _ _ _ _ _=>FV) (fun _ _ _ _ _=>(C8 MZ (pv 1) Ad (fun _ _=>rfl))))
 (AY (Gb aM rfl (En (C8 De (pv 0) Ad (fun _ _=>rfl))) (A4 (i:=2) sc.nd rfl (Or.inl rfl))
  (Ah (FW (Jn aw PySem.F.slot_list_extend PySem.F.type_list_extend Qa (pv 1) (AI (HG [".0", "part"] 1 [none,none] (En (pv 2)) (fun _ _ _ _ _=>FV) (fun _ _ _ _ _=>(C8 MZ (pv 1) Ad (fun _ _=>rfl)))) AR)))))
 (Ah (BU (B4 E9 Ot hr rfl (AI (pv 1) AR)))))),?_⟩
 refine⟨_,rfl,_,_,_,_,rfl,rfl,A7.of hp,rfl,L,rfl,⟨_,Al.of hL⟩,fun Z hZ=>HK (n:=ys.length) (fun i us H'=>AK H H'∧us=(EZ (t.ls.take i)).map V.int) ⟨AZ hZ _,rfl⟩ ?_ ?_⟩
 ·rintro i us H1 hi ⟨e1,rfl⟩ hD1;have hr:t.ls[i]? = some (t.ls[i]'(by omega)):=aI _;obtain⟨p,hp1,hp2⟩:=IP dL hr;generalize t.ls[i]'(by omega)=r at hr hp2;refine⟨⟨ys,.ref p,Al.of (e1 _ _ hL),hp1⟩,Nf (n:=60) (by unfold EZ;simp;omega) (by decide),fun x H' y=>?_⟩;obtain⟨rfl,y⟩:=y;have hx:=y ys (Al.of (e1 _ _ hL));rw [hp1]at hx;cases hx;unfold IY;refine Ew ⟨_,rfl,_,_,_,_,rfl,rfl,A7.of (e1 _ _ hp2),rfl,hD1,Fb hi ⟨fun b o z=>?_,?_⟩⟩
  ·rw [AJ (AU z hZ)];exact e1 _ _ z
  ·rw [List.take_add_one,hr,EZ,EZ,List.map_append,List.map_append]
   rfl
 rintro us H1 ⟨e1,rfl⟩ hZ1;rw [hyl,List.take_length]at hZ1;refine⟨⟨ys,Al.of (e1 _ _ hL),Nat.le_refl _⟩,?_⟩;refine⟨_,rfl,_,_,_,_,rfl,rfl,A7.of (e1 _ _ hp),rfl,R,rfl,⟨_,Al.of (e1 _ _ hR)⟩,LG (xs:=xs) (fun i σ H'=>∃r2,σ=[some (.ref p),some (.ref Z),r2]∧AK H H'∧H' Z=some (.lst ((Gd t i).map V.int))) ?_ ?_ ?_ ?_⟩
 ·exact⟨_,rfl,e1,by rw [hZ1];unfold Gd;simp⟩
 ·rintro i σ H' _ ⟨r2,rfl,e,_⟩;exact Al.of (e _ _ hR)
 ·rintro i x σ H2 hx ⟨r2,rfl,e2,hZ2⟩;have hi:i<t.rs.length:=by rw [←hxl];exact(aD.mp hx).1
  have hr:t.rs[i]? = some t.rs[i]:=aI hi;have hrl:=ot.row _ _ hr;obtain⟨a,zs,g1,g2,dz⟩:=LA dR hr;generalize t.rs[i]=row at hr dz hrl;rw [hx]at g1;cases g1;have hzl:zs.length=row.length:=by rw [dz.len,EY]
  refine⟨_,rfl,.inl ⟨rfl,_,Al.of hZ2⟩,_,rfl,a,rfl,⟨_,Al.of (e2 _ _ g2)⟩,fun D hD=>HK (n:=zs.length) (fun j ys H'=>AK H2 H'∧ys=(EZ (row.take j)).map V.int) ⟨AZ hD _,rfl⟩ ?_ ?_⟩
  ·rintro j us H3 hj ⟨e3,rfl⟩ hD3;have E3:=e2.trans e3;have hr:row[j]? = some (row[j]'(by omega)):=aI _;obtain⟨p,hp1,hp2⟩:=IP dz hr;generalize row[j]'(by omega)=r at hr hp2;refine⟨⟨zs,.ref p,Al.of (E3 _ _ g2),hp1⟩,Nf (n:=60) (by unfold EZ;simp;omega) (by decide),fun x H' y=>?_⟩;obtain⟨rfl,y⟩:=y;have hx:=y zs (Al.of (E3 _ _ g2));rw [hp1]at hx;cases hx;unfold IY;refine Ew ⟨_,rfl,_,_,_,_,rfl,rfl,A7.of (E3 _ _ hp2),rfl,hD3,Fb hj ⟨fun b o z=>?_,?_⟩⟩
   ·rw [AJ (AU z hD)];exact e3 _ _ z
   ·rw [List.take_add_one,hr,EZ,EZ,List.map_append,List.map_append]
    rfl
  ·rintro us H3 ⟨e3,rfl⟩ hD3;have E3:=e2.trans e3;rw [hzl,List.take_length]at hD3;refine⟨⟨zs,Al.of (E3 _ _ g2),Nat.le_refl _⟩,Z,D,_,_,rfl,rfl,e3 _ _ hZ2,hD3,?_,_,rfl,fun b o z=>?_,?_⟩
   ·have:=Ji ot i (by omega);rw [List.length_map,List.length_map,show(EZ row).length=row.length from bN _];have h40:t.rs.length*i≤40*40:=bX (by omega) (by omega);exact aO (show _≤2000 by omega) (by rw [sizeLine_eq];decide)
   ·rw [AJ (AU z hZ)];exact e3 _ _ (e2 _ _ z)
   ·rw [AL,Ox hr,List.map_append]
 ·rintro σ H2 ⟨r2,rfl,e2,hZ2⟩;rw [hxl]at hZ2;refine⟨_,rfl,Z,_,n,rfl,hZ2,QO ft _,?_,q H2 e2⟩;have:=Ji ot _ (aF _);have h3:t.rs.length*t.rs.length≤m*m:=bX h1 h1;exact aO (ay n (by omega)) hnm
end
def Eb(t:Tb):List (List Int):=(t.rs++[t.ls]).map fun r=>Ex r (EA t)
def Km(t:Tb)(u:Tr):Rat:=Rat.divInt ((Dy (Eb t) u).getLast?.getD 0) (EA t^u.AV)
def d7:Sp:=fun vs H Q _=>∃v u,vs=[v]∧Tv H u v∧u.deep<8∧u.AV≤8∧∀H',AK H H'→Q (.int (u.AV:Nat)) H'
def eV(Dm:List Tr)(c:Nat):Sp:=fun vs H Q _=>∃(v:V) (t:Tb) (L:AD) (tvs:List V) (ts:List Tr) (m n k:Nat),vs=[v,.ref L]∧DU H (Ai t) v∧t.Ok m∧m≤40∧t.Fits n∧n*(m+m*m)≤4000∧Ik (Eb t) c∧(EA t).natAbs<2^k∧n+k≤4000∧1≤EA t ∧
 H L=some (.lst tvs)∧tvs.length=ts.length∧ts.length≤1000∧(∀(i:Nat) (x:V),tvs[i]? = some x→∃u,ts[i]? = some u∧Tv H u x∧u∈Dm∧u.AV≤8∧k*u.AV≤4000) ∧
 ∀D H' zs,AK H H'→H D=none→H' D=some (.lst zs)→Bi H' (BA (ts.map (Km t))) zs→Q (.ref D) H'
def Gx(H:Hp)(zs:List V)(qs:List Rat):Prop:=zs.length=qs.length∧∀(i:Nat) (q:Rat),qs[i]? = some q→∃p:AD,zs[i]? = some (.ref p)∧H p=some (.tup (Lq q))
def Gx.BG{H H':Hp}{zs:List V}{qs:List Rat}(h:Gx H zs qs)(e:JL H H'):Gx H' zs qs:=⟨h.1,fun i q hi=>let⟨p,h1,h2⟩:=h.2 i q hi;⟨p,h1,e _ _ h2⟩⟩
def Gx.snoc{H:Hp}{zs:List V}{qs:List Rat}(h:Gx H zs qs){p:AD}{q:Rat}(hp:H p=some (.tup (Lq q))):Gx H (zs++[.ref p]) (qs++[q]):=by
 refine⟨by rw [List.length_append,List.length_append,h.1];rfl,fun i r hi=>?_⟩;by_cases z:i<qs.length
 ·rw [List.getElem?_append_left z]at hi;rw [List.getElem?_append_left (by rw [h.1];exact z)];exact h.2 i r hi
 ·rw [List.getElem?_append_right (by omega)]at hi;rw [List.getElem?_append_right (by rw [h.1];omega),h.1];have:i-qs.length=0:=by
   have:=(aD.mp hi).1;simp at this;omega
  rw [this]at hi ⊢;cases hi;exact⟨p,rfl,hp⟩
def Gx.UX{H:Hp}:∀ {qs:List Rat} {zs:List V},Gx H zs qs→Bi H (BA qs) zs
 |[],[],_=>.nil
 |[],_::_,h=>by cases h.1
 |_::_,[],h=>by cases h.1
 |q::qs,z::zs,h=>by
  obtain⟨p,h1,h2⟩:=h.2 0 q rfl;cases h1;refine .cons (R8 h2) (Gx.UX ⟨by simpa using h.1,fun i r hi=>?_⟩);exact h.2 (i+1) r hi
def cz{xs:List Int}(h:1≤xs.length):E8 (xs.map V.int) (-1)=some (V.int (xs.getLast?.getD 0)):=by
 have hne:xs≠[]:=fun z=>by rw [z]at h;exact absurd h (by decide)
 have e:=List.dropLast_concat_getLast hne;rw [←e,List.map_append,List.getLast?_append];exact Yt _ _
def gr{b:Int}(h:1≤b)(k:Nat):b^k≠0:=Int.ne_of_gt (Int.pow_pos h)
def ZS{b:Int}{k p:Nat}(h:b.natAbs<2^k)(hk:k*p≤4000):∃m,m≤9000∧(b^p).natAbs<2^m:=by
 refine⟨k*p+1,by omega,?_⟩;rw [Int.natAbs_pow];refine ae (Nat.pow_le_pow_left (bG h) p) ?_;rw [←Nat.pow_mul];exact Nat.pow_lt_pow_of_lt (by decide) (by omega)
section
variable{P:Program}{w:World}{K:Fg}{mg:Str→Option VL}{base:Heap}{f g g1 g2 g3 g4 g5 g6:AD}{fd gd gd1 gd2 gd3 gd4 gd5 gd6:FuncData}
def Nx:Ac ["table", "trees", "bottom", "rows", "known", "weights", "tree"] ["table", "trees"] (AQ GV):=B3
def N9{Dm:List Tr}{c:Nat}(DO:VG Dm c)(F:Fn K mg "weights_under" GV ["table", "trees"] f fd)(Fd:Fn K mg "table_bottom" HD ["table"] g1 gd1)(HQ:Fn K mg "tops_over" Jt ["some", "bottom"] g2 gd2)
 (Dz:Fn K mg "readings" K9 ["rows", "tree", "known"] g3 gd3)(II:Fn K mg "power_of" K1 ["base", "power"] g4 gd4)(A2:Fn K mg "knots_within" Dc ["tree"] g5 gd5)(F6:Fn K mg "fraction_of" Hw ["top", "bottom"] g6 gd6)
 (QG:AM P w K mg base Ab 11 g1 gd1 ["table"] gK)(UG:AM P w K mg base Ab 11 g2 gd2 ["some", "bottom"] W2)(Kq:AM P w K mg base Ab 11 g3 gd3 ["rows", "tree", "known"] (WT Dm c 8))(Vp:AM P w K mg base Ab 11 g4 gd4 ["base", "power"] Zi)
 (BV:AM P w K mg base Ab 11 g5 gd5 ["tree"] d7)(RE:AM P w K mg base Ab 11 g6 gd6 ["top", "bottom"] TN):AM P w K mg base Ab 12 f fd ["table", "trees"] (eV Dm c):=by
 have sc:=Nx;refine F.F.ok (k:=11) sc (fun vs H Q E h=>?_) (fun cdv A outer s H vs Q E hr h=>?_)
 ·obtain⟨v,t,L,tvs,ts,m,n,k,rfl,_⟩:=h
  rfl
 obtain⟨v,t,L,tvs,ts,m,n,k,rfl,dt,ot,hm,ft,hnm,ro,hB,hnk,hB1,hL,htl,hts,hall,q⟩:=h;have o1:=ot.most;have o2:=ot.last;have o3:=ot.one;refine⟨_,(AY (BK (i:=2) sc.nd rfl (Or.inr rfl) (B4 Fd QG hr rfl (AI (pv 0) AR)))
 (AY (M8 (i:=3) [".0", "row", "bottom"] 1 [none,none,some 2] sc.nd rfl rfl (En (BP Xz (C8 De (pv 0) Ad (fun _ _=>rfl)) (FF (AI (C8 De (pv 0) Ad (fun _ _=>rfl)) AR)))) (fun _ _ _ _ _=>FV) (fun _ _ _ _ _=>(B4 HQ UG hr rfl (AI (pv 1) (AI (pv 2) AR)))))
 (AY (BK (i:=4) sc.nd rfl (Or.inl rfl) ZP)
 (AY (BK (i:=5) sc.nd rfl (Or.inl rfl) (FF AR))
 (AY (Gb aM rfl (En (pv 1)) (A4 (i:=6) sc.nd rfl (Or.inl rfl))
  (Ah (FW (Jn aw bI bJ FN (pv 5) (AI (B4 F6 RE hr rfl (AI (C8 Pd (B4 Dz Kq hr rfl (AI (pv 3) (AI (pv 6) (AI (pv 4) AR)))) (Vn SY Ad) (fun _ _=>rfl)) (AI (B4 II Vp hr rfl (AI (pv 2) (AI (B4 A2 BV hr rfl (AI (pv 6) AR)) AR))) AR))) AR)))))
 (Ah (BU (pv 5)))))))),?_⟩
 refine⟨_,rfl,v,t,m,n,rfl,dt,ot,hm,ft,hnm,fun H1 e1=>?_⟩;obtain⟨p,R,L',xs,ys,rfl,hp,hR,dR,hL',dL⟩:=(dt.same e1).tab;have hxl:xs.length=t.rs.length:=by rw [dR.len,Ed]
 refine⟨_,rfl,_,_,_,_,rfl,rfl,A7.of hp,rfl,_,rfl,_,_,_,_,rfl,rfl,A7.of hp,rfl,(by show 1≤sizeLine;decide),fun q1 hq1=>?_⟩;have e2:=AZ hq1 (.lst [V.ref L']);have h2:upd H1 q1 (.lst [V.ref L']) q1=some (.lst [V.ref L']):=AL;generalize upd H1 q1 (.lst [V.ref L'])=H2 at e2 h2;refine⟨R,q1,_,_,rfl,rfl,e2 _ _ hR,h2,iY (by simp;omega),fun C0 hC0=>?_⟩;have e3:=AZ hC0 (.lst (xs++[V.ref L']));have h3:upd H2 C0 (.lst (xs++[V.ref L'])) C0=some (.lst (xs++[V.ref L'])):=AL;generalize upd H2 C0 (.lst (xs++[V.ref L']))=H3 at e3 h3;have E3:=(e1.trans e2).trans e3;have E13:=e2.trans e3;have get:∀(i:Nat) (row:List Rat),(t.rs++[t.ls])[i]? = some row→∃(a:AD) (zs:List V),(xs++[V.ref L'])[i]? = some (.ref a)∧H3 a=some (.lst zs)∧Bi H3 (BA row) zs∧row.length≤50∧∀q∈row,FM.Fits q n:=fun i row hi=>by
  by_cases z:i<t.rs.length
  ·rw [List.getElem?_append_left z]at hi;rw [List.getElem?_append_left (by omega)];obtain⟨a,zs,g1,g2,g3⟩:=LA dR hi;exact⟨a,zs,g1,E13 _ _ g2,g3.same E13,by rw [ot.row i row hi];omega,ft.1 row (aQ hi)⟩
  ·rw [List.getElem?_append_right (by omega)]at hi;have:i-t.rs.length=0:=by
    have:=(aD.mp hi).1;simp at this;omega
   rw [this]at hi;cases hi;rw [List.getElem?_append_right (by omega),hxl,this];exact⟨L',ys,rfl,E13 _ _ hL',dL.same E13,by omega,ft.2⟩
 have hal:(t.rs++[t.ls]).length=(xs++[V.ref L']).length:=by rw [List.length_append,List.length_append,hxl];rfl
 have hal60:(xs++[V.ref L']).length<60:=by rw [List.length_append,hxl];simp;omega
 refine⟨C0,rfl,⟨_,Al.of h3⟩,fun D hD=>HK (n:=(xs++[V.ref L']).length) (fun i us H'=>AK H3 H'∧us.length=i∧∀(j:Nat) (row:List Rat),j<i→(t.rs++[t.ls])[j]? = some row→∃a:AD,us[j]? = some (.ref a)∧H' a=some (.lst ((Ex row (EA t)).map V.int))∧a≠D) ?_ ?_ ?_⟩
 ·exact⟨AZ hD _,rfl,fun j row hj=>absurd hj (ao _)⟩
 ·rintro i us H4 hi ⟨e4,hul,hus⟩ hD4;have hr:(t.rs++[t.ls])[i]? = some ((t.rs++[t.ls])[i]'(by omega)):=aI _;generalize (t.rs++[t.ls])[i]'(by omega)=row at hr;obtain⟨a,zs,g1,g2,g3,g4,g5⟩:=get i row hr;refine⟨⟨_,.ref a,Al.of (e4 _ _ h3),g1⟩,Nf (n:=60) (by omega) (by decide),fun x H' y=>?_⟩;obtain⟨rfl,y⟩:=y;have hx:=y _ (Al.of (e4 _ _ h3));rw [g1]at hx;cases hx;unfold IY;refine Ew ⟨_,rfl,_,rfl,a,zs,row,EA t,n,k,rfl,e4 _ _ g2,g3.same e4,g4,g5,hB,hnk,fun D5 H5 e5 n5 h5=>⟨e5 _ _ hD4,Fb hi ⟨fun b o z=>?_,by simp [hul],fun j row' hj hr'=>?_⟩⟩⟩
  ·rw [AJ (AU z hD)];exact e5 _ _ (e4 _ _ z)
  ·by_cases z:j<i
   ·obtain⟨b,k1,k2,k3⟩:=hus j row' z hr';exact⟨b,by rw [List.getElem?_append_left (by omega)];exact k1,by rw [AJ k3];exact e5 _ _ k2,k3⟩
   ·have:j=i:=by omega
    subst this;rw [hr]at hr';cases hr';have nD:D5≠D:=fun z=>by rw [z,hD4]at n5;cases n5
    exact⟨D5,by rw [List.getElem?_append_right (by omega),hul,Nat.sub_self];rfl,by rw [AJ nD];exact h5,nD⟩
 rintro rvs H4 ⟨e4,hul,hus⟩ hD4;refine⟨⟨_,Al.of (e4 _ _ h3),Nat.le_refl _⟩,?_⟩;have E4:=E3.trans e4;have hrw:Qm H4 rvs (Eb t):=by
  refine⟨by rw [hul,←hal];exact(bN _).symm,fun j row hj=>?_⟩;unfold Eb at hj;rw [List.getElem?_map]at hj;cases hj':(t.rs++[t.ls])[j]? with
  |none=>rw [hj']at hj;cases hj
  |some row' =>
   rw [hj']at hj;cases hj;obtain⟨a,k1,k2,_⟩:=hus j row' (by rw [←hal];exact(aD.mp hj').1) hj';exact⟨a,k1,k2⟩
 have hDn:H D=none:=Dk E3 hD;refine fun d hd=>?_;have e5:=AZ hd (dN d []);have h5:upd H4 d (dN d []) d=some (dN d []):=AL;generalize upd H4 d (dN d [])=H5 at e5 h5;refine⟨(by show 0≤sizeLine;decide),fun W hW=>?_⟩;have e6:=AZ hW (.lst []);have h6:upd H5 W (.lst []) W=some (.lst []):=AL;generalize upd H5 W (.lst [])=H6 at e6 h6;have hdn:=Dk E4 hd;have E5:=E4.trans e5;have hWn:=Dk E5 hW;have E6:=E5.trans e6;have hdW:d≠W:=fun z=>by rw [←z,h5]at hW;cases hW
 have W4:H4 W=none:=Dk e5 hW;refine⟨_,rfl,L,rfl,⟨_,Al.of (E6 _ _ hL)⟩,LG (xs:=tvs) (fun i σ H'=>∃(r6:Option V) (ρ:List KR) (zs:List V),σ=[some (.ref p),some (.ref L),some (.int (EA t)),some (.ref D),some (.ref d),some (.ref W),r6]∧AK H4 H'∧Memo Dm (Eb t) W H' d ρ∧H' W=some (.lst zs)∧Gx H' zs ((ts.take i).map (Km t))) ?_ ?_ ?_ ?_⟩
 ·refine⟨_,[],[],rfl,e5.trans e6,⟨e6 _ _ h5,.nil,fun q hq=>by cases hq⟩,h6,rfl,fun i q hi=>by cases hi⟩
 ·rintro i σ H' _ ⟨r6,ρ,zs,rfl,e,_⟩;exact Al.of (e _ _ (E4 _ _ hL))
 ·rintro i x σ H7 hx ⟨r6,ρ,zs,rfl,e7,me7,hW7,fl7⟩;obtain⟨u,hu,tu,hD,h8,hk⟩:=hall i x hx;have E7:=E4.trans e7;refine⟨_,rfl,.inl ⟨rfl,_,Al.of hW7⟩,_,rfl,_,rfl,_,rfl,D,rvs,Eb t,x,u,d,ρ,W,rfl,e7 _ _ hD4,hrw.same e7,ro,tu.same E7,hD,DO.deep u hD,⟨_,hW7⟩,me7,fun H8 ρ8 l e8 me8 hl8=>?_⟩;have tu8:=(tu.same E7).BG (e8.BG me7.at_);have hW8:=e8.lst me7.at_ hW7;have fl8:=fl7.BG (e8.BG me7.at_);have hne:(Dy (Eb t) u).length=(t.rs++[t.ls]).length:=(KC _ _).trans (bN _);have hE8:AK H4 H8:=fun b o z=>e8 _ _ (fun y=>by rw [y,hd]at z;cases z) (e7 _ _ z);refine⟨_,rfl,_,_,_,_,rfl,rfl,Al.of hl8,cz (by rw [hne,List.length_append];simp),?_⟩;refine⟨_,rfl,_,rfl,x,u,rfl,tu8,DO.deep u hD,h8,fun H9 e9=>?_⟩;refine⟨EA t,u.AV,k,rfl,hB,hk,?_⟩;obtain⟨mb,hmb,hpb⟩:=ZS hB hk;refine⟨_,_,mb,rfl,gr hB1 _,hmb,hpb,fun l' H10 e10 hl10=>?_⟩;have E10:=e9.trans e10;refine⟨W,zs,.ref l',rfl,rfl,E10 _ _ hW8,I0 ?_,?_⟩
  ·rw [fl7.1,List.length_map,List.length_take];omega
  ·refine⟨_,ρ8,_,rfl,fun b o z=>?_,⟨?_,me8.nd,fun q' hq'=>?_⟩,AL,?_⟩
   ·rw [AJ (AU z W4)];exact E10 _ _ (hE8 _ _ z)
   ·rw [AJ hdW];exact E10 _ _ me8.at_
   ·obtain⟨u',l2,k1,k2,k3,k4,k5,k6⟩:=me8.all q' hq';exact⟨u',l2,k1,k2,(k3.same E10).BG (JL.upd (E10 _ _ hW8)),k4,by rw [AJ k6];exact E10 _ _ k5,k6⟩
   ·rw [List.take_add_one,hu,List.map_append];refine((fl8.BG (.of E10)).snoc (q:=Km t u) hl10).BG (JL.upd (E10 _ _ hW8))
 ·rintro σ H7 ⟨r6,ρ,zs,rfl,e7,me7,hW7,fl7⟩;rw [htl,List.take_length]at fl7;exact⟨_,rfl,q W H7 zs (E4.trans e7) hWn hW7 fl7.UX⟩
end
section
variable{P:Program}{w:World}{K:Fg}{mg:Str→Option VL}{base:Heap}{f g:AD}{fd gd:FuncData}
def Si:Ac ["_law_top", "_law_bottom", "_law_one", "_law_other"] ["_law_top", "_law_bottom"] (AQ Fz):=B3
def Sv(F:Fn K mg "_law_frac" Fz ["_law_top", "_law_bottom"] f fd)(JT:mg "abs" = none):AM P w K mg base Ab 1 f fd ["_law_top", "_law_bottom"] TN:=by
 have sc:=Si;refine F.F.ok (k:=0) sc (fun vs H Q E h=>?_) (fun cdv A outer s H vs Q E hr h=>?_)
 ·obtain⟨t,b,m,rfl,_⟩:=h
  rfl
 obtain⟨t,b,m,rfl,hb,hm,hs,q⟩:=h;refine⟨_,(AY (BK (i:=2) sc.nd rfl (Or.inl rfl) (BL Kw rfl JT PyProof.Rows.boot_abs (AI (pv 0) AR)))
 (AY (BK (i:=3) sc.nd rfl (Or.inl rfl) (BL Kw rfl JT PyProof.Rows.boot_abs (AI (pv 1) AR)))
 (AY (Nm aM (CC Mr (pv 3) Ad (A6 _))
  (Ah (ee (i:=2) (j:=3) rfl sc.nd rfl rfl (by decide) rfl rfl (AI (pv 3) (AI (BP KA (pv 2) (pv 3)) AR)) rfl)))
 (AY (Dw (CC RO (pv 1) Ad (A6 _))
  (Ah (BK (i:=2) sc.nd rfl (Or.inl rfl) (BP S5 Ad (pv 2))))
  CI)
 (Ah (BU (Ip (AI (BP F8 (pv 0) (pv 2)) (AI (BP F8 (pv 1) (pv 2)) AR))))))))),?_⟩
 refine⟨_,rfl,_,rfl,_,rfl,_,rfl,?_⟩;refine OA (fun σ H'=>∃g l,σ=[some (.int t),some (.int b),some (.int g),some (.int l)]∧H=H'∧Int.gcd g l=Int.gcd t b∧0≤g∧0≤l) (fun σ _=>jV σ) ?_ ?_ ?_
 ·exact⟨_,_,rfl,rfl,FM.Ud t b,FM.abs_nonneg t,FM.abs_nonneg b⟩
 ·rintro σ H' ⟨g,l,rfl,rfl,hg,h0,h1⟩;refine⟨_,rfl,_,_,rfl,rfl,_,rfl,DP (fun c=>?_) (fun c=>?_)⟩
  ·have hl':0<l:=aj c;have hl:l≠0:=by omega
   refine⟨_,rfl,_,rfl,_,rfl,_,_,rfl,rfl,hl,_,_,rfl,⟨_,_,rfl,rfl,?_,h1,FM.fmod_nonneg hl h1⟩,?_⟩
   ·rw [FM.TR];exact hg
   ·exact FM.QI g l hl
  ·have hl':¬0<l:=bH (ar.mpr c);have hl:l=0:=by omega
   subst hl;rw [FM.XY hg h0]
   try dsimp only [EG]
   refine NY (fun σ' H'=>σ'=[some (.int t),some (.int b),some (.int (FM.gs t b)),some (.int 0)]∧H=H') (fun nx hn=>?_) ?_
   ·refine⟨_,rfl,_,_,rfl,rfl,_,rfl,DP (fun c=>?_) (fun c=>?_)⟩
    ·have c':b<0:=aj c;refine⟨_,rfl,_,_,rfl,rfl,hn _ _ ⟨?_,rfl⟩⟩;show [some (V.int t),some (V.int b),some (V.int (0-FM.gi t b)),some (V.int 0)]=_;unfold FM.gs;rw [if_pos c',Int.zero_sub]
    ·have c':¬b<0:=bH (ar.mpr c);refine hn _ _ ⟨?_,rfl⟩;unfold FM.gs;rw [if_neg c']
   ·rintro σ' H' ⟨rfl,rfl⟩;have h0:FM.gs t b≠0:=FM.Zh hb;have h1:(FM.gs t b).natAbs<2^m:=ae (FM.Zq hb) hs;refine⟨_,rfl,_,rfl,_,_,rfl,rfl,⟨h0,m,hm,h1⟩,_,rfl,_,rfl,_,_,rfl,rfl,⟨h0,m,hm,h1⟩,X8,fun p hp=>?_⟩;refine q p _ (AZ hp _) ?_;rw [AL];show some (HO.tup [V.int (t.fdiv (FM.gs t b)),V.int (b.fdiv (FM.gs t b))])=_;rw [FM.R9 hb,FM.RV hb]
    rfl
 ·exact fun σ H Q Q' hq ⟨v,e,i,j,e1,e2,k,e3,q⟩=>⟨v,e,i,j,e1,e2,k,e3,hq _ _ q⟩
end
section
variable{P:Program}{w:World}{K:Fg}{mg:Str→Option VL}{base:Heap}{f:AD}{fd:FuncData}
def OL:Ac ["tree"] ["tree"] (AQ Dc):=B3
def Ke(Av:MD):DF :=
 (Bf (Ag CO (fC (.int 1)) (AO Ss (AB (Ee (DD 1) FG (AO Av (AB (nm 1) AH)) [none,none] (EK (nm 0))) AH))))
def Av:Nat→MD
 |0=>fun _=>none
 |n+1=>Bt ["tree"] ["tree"] (Ke (Av n))
def Jg{k:Nat}(A2:Fn K mg "knots_within" Dc ["tree"] f fd)(Dj:mg "sum" = none):∀n,
  AM P w K mg base Ab (k+n+1) f fd ["tree"] (BE (Av n))
 |0=>Dr fun _ _ _ _ ⟨_,_,_,h,_⟩=>by cases h
 |n+1=>by
  have sc:=OL;have BV:=Jg (k:=k) A2 Dj n;refine EF (k:=k+n+1) (F:=Ke (Av n)) A2 sc fun cdv A outer s H E hr=>?_;exact(AX (BB (Aq Bj AF (CT (S8 rfl) rfl Dj ba (AA (Fc [".0", "bough"] 1 [none,none] (Cz (AG (pv 0))) (fun _ _ _ _ _=>Eo) (fun _ _ _ _ _=>(Aa A2 BV hr rfl (AA (AG (pv 1)) AE)))) AE)))))
def Mu:Ac ["tree", "density", "bough"] ["tree"] (AQ GC):=B3
def JM(Av:MD)(BD:MD):DF :=
 (Aj (BO 1 (AO Av (AB (nm 0) AH)))
 (Aj (Ci (EK (nm 0)) (Ea 2)
  (BO 1 (Ag FI (nm 1) (AO BD (AB (nm 2) AH)))))
 (Bf (nm 1))))
def BD(Av:MD):Nat→MD
 |0=>fun _=>none
 |n+1=>Bt ["tree"] ["tree", "density", "bough"] (JM Av (BD Av n))
def IA{k:Nat}{Av:MD}(B1:Fn K mg "density_within" GC ["tree"] f fd)
 {J9:AD}{Jc:FuncData}(A2:Fn K mg "knots_within" Dc ["tree"] J9 Jc)(BV:AM P w K mg base Ab k J9 Jc ["tree"] (BE Av)):∀n,
  AM P w K mg base Ab (k+n+1) f fd ["tree"] (BE (BD Av n))
 |0=>Dr fun _ _ _ _ ⟨_,_,_,h,_⟩=>by cases h
 |n+1=>by
  have sc:=Mu;have Dg:=IA (k:=k) (Av:=Av) B1 A2 BV n;have BV:=BV.mono (show k≤k+n+1 by omega);refine EF (k:=k+n+1) (F:=JM Av (BD Av n)) B1 sc fun cdv A outer s H E hr=>?_;exact(AN (Ax (i:=1) sc.nd rfl (Or.inl rfl) (Aa A2 BV hr rfl (AA (AG (pv 0)) AE)))
 (AN (Cd aM rfl (Cz (AG (pv 0))) (CV (A4 (i:=2) sc.nd rfl (Or.inl rfl)))
  (AX (Ax (i:=1) sc.nd rfl (Or.inl rfl) (Aq ER (AG (pv 1)) (Aa B1 Dg hr rfl (AA (AG (pv 2)) AE))))))
 (AX (BB (AG (pv 1))))))
def Gy:Ac ["boughs"] ["boughs"] (AQ FL):=B3
def MN:DF :=
 (Bf (AO LF (AB (AO (KQ true) (AB (nm 0) AH)) AH)))
def Ap:MD:=Bt ["boughs"] ["boughs"] (MN)
def Ll{k:Nat}(F:Fn K mg "in_falling_order" FL ["boughs"] f fd)(CS:mg "sorted" = none)(CU:mg "tuple" = none) :
  AM P w K mg base Ab (k+1) f fd ["boughs"] (BE (Ap)):=EF F Gy fun cdv A outer s H E hr=>by
 have sc:=Gy;exact(AX (BB (Hd Rq rfl CU bV (AA (Yu (by have:=hr.units;exact this) rfl CS (AA (AG (pv 0)) AE) (fun h=>YJ (by have:=hr.units;exact this) rfl CS h)) AE))))
def Ln:Ac ["tree", "larger", "k", "bough", "grown"] ["tree"] (AQ FH):=B3
def HY(Ap:MD)(A1:MD):DF :=
 (Aj (ZF 1 (AB (AO Ap (AB (Ag CO (nm 0) (Ae (AB (Ae AH) AH))) AH)) AH))
 (Aj (Ci (DN Va (AB (nm 0) AH)) (ZC 2 3)
  (Ci (EK (AO A1 (AB (nm 3) AH))) (Ea 4)
   (Vl 1 (AO Ap (AB (Ag CO (Ag CO (Rj (nm 0) O2 (PX (nm 2))) (Ae (AB (nm 4) AH))) (Rj (nm 0) (PX (Ag CO (nm 2) (fC (.int 1)))) O2)) AH)))))
 (Zj 1)))
def A1(Ap:MD):Nat→MD
 |0=>fun _=>none
 |n+1=>Bt ["tree"] ["tree", "larger", "k", "bough", "grown"] (HY Ap (A1 Ap n))
def Gr{k:Nat}{Ap:MD}(Bk:Fn K mg "trees_one_larger" FH ["tree"] f fd)
 {Hf:AD}{Gw:FuncData}(CJ:Fn K mg "in_falling_order" FL ["boughs"] Hf Gw)(Bz:AM P w K mg base Ab k Hf Gw ["boughs"] (BE Ap))(EB:mg "enumerate" = none):∀n,
  AM P w K mg base Ab (k+n+1) f fd ["tree"] (BE (A1 Ap n))
 |0=>Dr fun _ _ _ _ ⟨_,_,_,h,_⟩=>by cases h
 |n+1=>by
  have sc:=Ln;have Cv:=Gr (k:=k) (Ap:=Ap) Bk CJ Bz EB n;have Bz:=Bz.mono (show k≤k+n+1 by omega);refine EF (k:=k+n+1) (F:=HY Ap (A1 Ap n)) Bk sc fun cdv A outer s H E hr=>?_;exact(AN (Sf (i:=1) sc.nd rfl (Or.inl rfl) (AA (Aa CJ Bz hr rfl (AA (Aq Bj (AG (pv 0)) (AW (AA (AW AE) AE))) AE)) AE))
 (AN (Cd aM rfl (b7 rfl EB (AA (AG (pv 0)) AE)) (fR (L7 rfl (Df (A4 (i:=2) sc.nd rfl (Or.inl rfl)) (Df (A4 (i:=3) sc.nd rfl (Or.inl rfl)) Ki))))
  (AX (Cd aM rfl (Cz (Aa Bk Cv hr rfl (AA (AG (pv 3)) AE))) (CV (A4 (i:=4) sc.nd rfl (Or.inl rfl)))
   (AX (Q0 (pv 1) (Aa CJ Bz hr rfl (AA (Aq Bj (Aq Bj (Iy (AG (pv 0)) J4 (KP (AG (pv 2)))) (AW (AA (AG (pv 4)) AE))) (Iy (AG (pv 0)) (KP (Aq Bj (AG (pv 2)) AF)) J4)) AE)) (fun ho ha=>FW (Jn aw bI bJ FN ho ha)))))))
 (AX (dJ (pv 1)))))
def NT:Ac ["many", "trees", "knots", "larger", "tree"] ["many"] (AQ Ko):=B3
def Vj(A1:MD):DF :=
 (Aj (Ez (TV (CK (Gm fun i j=>decide (i<j)) (nm 0) (fC (.int 1))) (CK (Gm fun i j=>decide (j<i)) (nm 0) (fC (.int 7))))
  SI
  CZ)
 (Aj (BO 1 (Be (AB (Ae AH) AH)))
 (Aj (Ci (DN N1 (AB (fC (.int 1)) (AB (nm 0) AH))) (Ea 2)
  (Aj (ZF 3 AH)
  (Aj (Ci (EK (nm 1)) (Ea 4)
   (kx 3 (AO A1 (AB (nm 4) AH))))
  (kB 3 (BO 1 (fun δ=>((nm 3) δ).bind LI))))))
 (Bf (nm 1)))))
def DQ(A1:MD):MD:=Bt ["many"] ["many", "trees", "knots", "larger", "tree"] (Vj A1)
def UB{k:Nat}{A1:MD}(F:Fn K mg "trees_of" Ko ["many"] f fd)
 {Hb:AD}{Gv:FuncData}(Bk:Fn K mg "trees_one_larger" FH ["tree"] Hb Gv)(Cv:AM P w K mg base Ab k Hb Gv ["tree"] (BE A1))(BM:mg "range" = none)(Me:mg "set" = none)(CS:mg "sorted" = none){tk_MOST_KNOTS:Tok}(JA:mg "MOST_KNOTS" = some (.int 7 tk_MOST_KNOTS)) :
  AM P w K mg base Ab (k+1) f fd ["many"] (BE (DQ A1)):=EF F NT fun cdv A outer s H E hr=>by
 have sc:=NT;exact(AN (Di (DW.dt (Mn (CH WD (AG (pv 0)) AF (A6 _)) (SJ (CH V8 (AG (pv 0)) (Kt rfl JA) (A6 _)))))
  (AX Nj)
  CB)
 (AN (Ax (i:=1) sc.nd rfl (Or.inl rfl) (A3 (AA (AW AE) AE)))
 (AN (Cd aM rfl (Qi rfl BM (AA AF (AA (AG (pv 0)) AE))) (CV (A4 (i:=2) sc.nd rfl (Or.inl rfl)))
  (AN (Sf (i:=3) sc.nd rfl (Or.inl rfl) AE)
  (AN (Cd aM rfl (Cz (AG (pv 1))) (CV (A4 (i:=4) sc.nd rfl (Or.inl rfl)))
   (AX (WU (pv 3) (Aa Bk Cv hr rfl (AA (AG (pv 4)) AE)) (fun ho ha=>FW (Jn aw PySem.F.slot_list_extend PySem.F.type_list_extend Qa ho ha)))))
  (AX (gW 3 (Ax (i:=1) sc.nd rfl (Or.inl rfl) (O9 rfl (by have:=hr.units;exact this) rfl CS rfl Me (AG (pv 3)))))))))
 (AX (BB (AG (pv 1)))))))
def Jl:Ac ["trees"] ["trees"] (AQ G6):=B3
def J3(BD:MD):DF :=
 (Vd (Gk (DD 1) FG (Ae (AB (fC (.int 1)) (AB (AO BD (AB (nm 1) AH)) AH))) [none,none] (EK (nm 0))))
def B6(BD:MD):MD:=Bt ["trees"] ["trees"] (J3 BD)
def PM{k:Nat}{BD:MD}(F:Fn K mg "true_weights" G6 ["trees"] f fd)
 {JK:AD}{Hz:FuncData}(B1:Fn K mg "density_within" GC ["tree"] JK Hz)(Dg:AM P w K mg base Ab k JK Hz ["tree"] (BE BD)) :
  AM P w K mg base Ab (k+1) f fd ["trees"] (BE (B6 BD)):=EF F Jl fun cdv A outer s H E hr=>by
 have sc:=Jl;exact(AX (cg [".0", "tree"] 1 [none,none] (Cz (AG (pv 0))) (fun _ _ _ _ _=>Eo) (fun _ _ _ _ _=>(AW (AA AF (AA (Aa B1 Dg hr rfl (AA (AG (pv 1)) AE)) AE))))))
def Jf:Ac ["trees", "one", "other", "tree", "weight", "due"] ["trees", "one", "other"] (AQ G5):=B3
def KY:DF :=
 (Aj (Ci (DN Pp (AB (nm 0) (AB (nm 1) (AB (nm 2) AH)))) (SW 3 4 5)
  (Ez (CK (Ej true) (nm 4) (nm 5))
   (Bf (nm 3))
   CZ))
 (Bf (fC .none)))
def BX:MD:=Bt ["trees", "one", "other"] ["trees", "one", "other", "tree", "weight", "due"] (KY)
def PQ{k:Nat}(F:Fn K mg "first_unlike" G5 ["trees", "one", "other"] f fd)(HS:mg "zip" = none) :
  AM P w K mg base Ab (k+1) f fd ["trees", "one", "other"] (BE (BX)):=EF F Jf fun cdv A outer s H E hr=>by
 have sc:=Jf;exact(AN (Cd aM rfl (cc rfl HS (AA (AG (pv 0)) (AA (AG (pv 1)) (AA (AG (pv 2)) AE)))) (Yd (L7 rfl (Df (A4 (i:=3) sc.nd rfl (Or.inl rfl)) (Df (A4 (i:=4) sc.nd rfl (Or.inl rfl)) (Df (A4 (i:=5) sc.nd rfl (Or.inl rfl)) Ki)))))
  (AX (Di (CH (Je (by have:=hr.units;exact this)) (AG (pv 4)) (AG (pv 5)) (A6 _))
   (AX (BB (AG (pv 3))))
   CB)))
 (AX (BB MQ)))
def HV:Ac ["thing"] ["thing"] (AQ EH):=B3
def Fp(Ff:MD):DF :=
 (Ez (VZ (Sd (AO Ff (AB (nm 0) AH))))
  SI
  CZ)
def Am(Ff:MD):MD:=Bt ["thing"] ["thing"] (Fp Ff)
def Ls{k:Nat}{Ff:MD}(F:Fn K mg "refuse_no_table" EH ["thing"] f fd)
 {PB:AD}{NV:FuncData}(IM:Fn K mg "is_table" Kr ["thing"] PB NV)(K7:AM P w K mg base Ab k PB NV ["thing"] (BE Ff)) :
  AM P w K mg base Ab (k+1) f fd ["thing"] (BE (Am Ff)):=EF F HV fun cdv A outer s H E hr=>by
 have sc:=HV;exact(AX (Di (SO (OS (Aa IM K7 hr rfl (AA (AG (pv 0)) AE))))
  (AX Nj)
  CB))
def Kb:Ac ["table", "order", "trees", "tree"] ["table"] (AQ Hx):=B3
def LW(BX:MD)(Am:MD)(DQ:MD)(B6:MD)(C7:MD):DF :=
 (Aj (RP (AO Am (AB (nm 0) AH)))
 (Aj (Ci (DN HE (AB (fC (.int 6)) AH)) (Ea 1)
  (Aj (BO 2 (AO DQ (AB (Ag CO (nm 1) (fC (.int 1))) AH)))
  (Aj (BO 3 (AO BX (AB (nm 2) (AB (AO C7 (AB (nm 0) (AB (nm 2) AH))) (AB (AO B6 (AB (nm 2) AH)) AH)))))
  (Ez (CK (Ze true) (nm 3) (fC .none))
   (Bf (Ae (AB (nm 1) (AB (nm 3) AH))))
   CZ))))
 (Bf (Ae (AB (fC (.int 6)) (AB (fC .none) AH))))))
def Bd(BX:MD)(Am:MD)(DQ:MD)(B6:MD)(C7:MD):MD:=Bt ["table"] ["table", "order", "trees", "tree"] (LW BX Am DQ B6 C7)
def Pb{k:Nat}{BX:MD}{Am:MD}{DQ:MD}{B6:MD}{C7:MD}(F:Fn K mg "table_order" Hx ["table"] f fd)
 {KD:AD}{JV:FuncData}(Fe:Fn K mg "first_unlike" G5 ["trees", "one", "other"] KD JV)(HM:AM P w K mg base Ab k KD JV ["trees", "one", "other"] (BE BX))
 {DJ:AD}{C6:FuncData}(Bq:Fn K mg "refuse_no_table" EH ["thing"] DJ C6)(B9:AM P w K mg base Ab k DJ C6 ["thing"] (BE Am))
 {Ov:AD}{NC:FuncData}(Ia:Fn K mg "trees_of" Ko ["many"] Ov NC)(K0:AM P w K mg base Ab k Ov NC ["many"] (BE DQ))
 {KO:AD}{Jd:FuncData}(FY:Fn K mg "true_weights" G6 ["trees"] KO Jd)(HF:AM P w K mg base Ab k KO Jd ["trees"] (BE B6))
 {Ja:AD}{JE:FuncData}(FC:Fn K mg "weights_under" GV ["table", "trees"] Ja JE)(GZ:AM P w K mg base Ab k Ja JE ["table", "trees"] (BE C7))(BM:mg "range" = none){tk_MOST_ORDER:Tok}(GU:mg "MOST_ORDER" = some (.int 6 tk_MOST_ORDER)) :
  AM P w K mg base Ab (k+1) f fd ["table"] (BE (Bd BX Am DQ B6 C7)):=EF F Kb fun cdv A outer s H E hr=>by
 have sc:=Kb;exact(AN (Mb (Aa Bq B9 hr rfl (AA (AG (pv 0)) AE)))
 (AN (Cd aM rfl (FQ rfl BM (AA (Kt rfl GU) AE)) (CV (A4 (i:=1) sc.nd rfl (Or.inl rfl)))
  (AN (Ax (i:=2) sc.nd rfl (Or.inl rfl) (Aa Ia K0 hr rfl (AA (Aq Bj (AG (pv 1)) AF) AE)))
  (AN (Ax (i:=3) sc.nd rfl (Or.inl rfl) (Aa Fe HM hr rfl (AA (AG (pv 2)) (AA (Aa FC GZ hr rfl (AA (AG (pv 0)) (AA (AG (pv 2)) AE))) (AA (Aa FY HF hr rfl (AA (AG (pv 2)) AE)) AE)))))
  (AX (Di (CH Y5 (AG (pv 3)) MQ (A6 _))
   (AX (BB (AW (AA (AG (pv 1)) (AA (AG (pv 3)) AE)))))
   CB)))))
 (AX (BB (AW (AA (Kt rfl GU) (AA MQ AE)))))))
def Fm:Ac ["tables"] ["tables"] (AQ ED):=B3
def J2:DF :=
 (Ez (CK (Gm fun i j=>decide (j<i)) (AO Ss (AB (Ee (DD 1) FG (AO FR (AB (Ag Ce (nm 1) (fC (.int 0))) AH)) [none,none] (EK (nm 0))) AH)) (fC (.int 40)))
  SI
  CZ)
def BH:MD:=Bt ["tables"] ["tables"] (J2)
def JQ{k:Nat}(F:Fn K mg "refuse_too_many_rows" ED ["tables"] f fd)(A9:mg "len" = none)(Dj:mg "sum" = none){tk_MOST_ROWS:Tok}(Ep:mg "MOST_ROWS" = some (.int 40 tk_MOST_ROWS)) :
  AM P w K mg base Ab (k+1) f fd ["tables"] (BE (BH)):=EF F Fm fun cdv A outer s H E hr=>by
 have sc:=Fm;exact(AX (Di (CH V8 (CT (S8 rfl) rfl Dj ba (AA (Fc [".0", "table"] 1 [none,none] (Cz (AG (pv 0))) (fun _ _ _ _ _=>Eo) (fun _ _ _ _ _=>(CT F0 rfl A9 aY (AA (Bl (AG (pv 1)) AF (fun _ _=>rfl)) AE)))) AE)) (Kt rfl Ep) (A6 _))
  (AX Nj)
  CB))
def JS:Ac ["one", "other", "rows"] ["one", "other"] (AQ G9):=B3
def QF(Am:MD)(BH:MD):DF :=
 (Aj (RP (AO Am (AB (nm 0) AH)))
 (Aj (RP (AO Am (AB (nm 1) AH)))
 (Aj (RP (AO BH (AB (Be (AB (nm 0) (AB (nm 1) AH))) AH)))
 (Aj (BO 2 (Ag CO (Ee (DD 1) FG (AO G7 (AB (nm 1) AH)) [none,none] (EK (Ag Ce (nm 0) (fC (.int 0))))) (Ee (DD 1) FG (Ag CO (Ag Ce (nm 2) (fC (.int 1))) (nm 1)) [none,none,some 0] (EK (Ag Ce (nm 1) (fC (.int 0)))))))
 (Bf (Ae (AB (nm 2) (AB (Ag CO (Ag Ce (nm 0) (fC (.int 1))) (Ag Ce (nm 1) (fC (.int 1)))) AH))))))))
def B7(Am:MD)(BH:MD):MD:=Bt ["one", "other"] ["one", "other", "rows"] (QF Am BH)
def OI{k:Nat}{Am:MD}{BH:MD}(F:Fn K mg "table_behind" G9 ["one", "other"] f fd)
 {DJ:AD}{C6:FuncData}(Bq:Fn K mg "refuse_no_table" EH ["thing"] DJ C6)(B9:AM P w K mg base Ab k DJ C6 ["thing"] (BE Am))
 {Ft:AD}{Fl:FuncData}(Cu:Fn K mg "refuse_too_many_rows" ED ["tables"] Ft Fl)(D8:AM P w K mg base Ab k Ft Fl ["tables"] (BE BH))(EW:mg "list" = none) :
  AM P w K mg base Ab (k+1) f fd ["one", "other"] (BE (B7 Am BH)):=EF F JS fun cdv A outer s H E hr=>by
 have sc:=JS;exact(AN (Mb (Aa Bq B9 hr rfl (AA (AG (pv 0)) AE)))
 (AN (Mb (Aa Bq B9 hr rfl (AA (AG (pv 1)) AE)))
 (AN (Mb (Aa Cu D8 hr rfl (AA (A3 (AA (AG (pv 0)) (AA (AG (pv 1)) AE))) AE)))
 (AN (Ax (i:=2) sc.nd rfl (Or.inl rfl) (Aq Bj (Fc [".0", "row"] 1 [none,none] (Cz (Bl (AG (pv 0)) AF (fun _ _=>rfl))) (fun _ _ _ _ _=>Eo) (fun _ _ _ _ _=>(Hd PY rfl EW bY (AA (AG (pv 1)) AE)))) (Fc [".0", "row", "one"] 1 [none,none,some 0] (Cz (Bl (AG (pv 1)) AF (fun _ _=>rfl))) (fun _ _ _ _ _=>Eo) (fun _ _ _ _ _=>(Aq Bj (Bl (AG (pv 2)) AF (fun _ _=>rfl)) (AG (pv 1)))))))
 (AX (BB (AW (AA (AG (pv 2)) (AA (Aq Bj (Bl (AG (pv 0)) AF (fun _ _=>rfl)) (Bl (AG (pv 1)) AF (fun _ _=>rfl))) AE)))))))))
def Lr:Ac ["_law_script", "_law_k", "_law_cell_here", "_law_number"] ["_law_script", "_law_k"] (AQ HP):=B3
def Ju:DF :=
 (Aj (BO 2 (fC (.int 0)))
 (Aj (Ez (CK (Gm fun i j=>decide (i<j)) (nm 1) (AO FR (AB (nm 0) AH)))
  (BO 2 (Ag Ce (nm 0) (nm 1)))
  CZ)
 (Aj (Ez (CK (Gm fun i j=>decide (j≤i)) (nm 2) (Ag L6 (fC (.int 10)) (fC (.int 18))))
  (Bf (Ag GJ (Ag YE (nm 2) (Ag L6 (fC (.int 10)) (fC (.int 18)))) (Ag L6 (fC (.int 10)) (fC (.int 60)))))
  CZ)
 (Aj (BO 3 (Ag GJ (Ag CO (Ag CO (Ag FI (nm 2) (fC (.int 48271))) (Ag FI (nm 1) (fC (.int 69621)))) (fC (.int 11))) (fC (.int 2147483629))))
 (Aj (BO 3 (Ag GJ (Ag FI (nm 3) (nm 3)) (fC (.int 2147483587))))
 (Bf (Ag CO (Ag FI (nm 3) (fC (.int 2147483563))) (Ag GJ (Ag FI (nm 3) (nm 3)) (fC (.int 2147483563))))))))))
def BZ:MD:=Bt ["_law_script", "_law_k"] ["_law_script", "_law_k", "_law_cell_here", "_law_number"] (Ju)
def SN{k:Nat}(F:Fn K mg "_law_cell" HP ["_law_script", "_law_k"] f fd)(A9:mg "len" = none) :
  AM P w K mg base Ab (k+1) f fd ["_law_script", "_law_k"] (BE (BZ)):=EF F Lr fun cdv A outer s H E hr=>by
 have sc:=Lr;exact(AN (Ax (i:=2) sc.nd rfl (Or.inl rfl) AF)
 (AN (Di (CH WD (AG (pv 1)) (CT F0 rfl A9 aY (AA (AG (pv 0)) AE)) (A6 _))
  (AX (Ax (i:=2) sc.nd rfl (Or.inl rfl) (Bl (AG (pv 0)) (AG (pv 1)) (fun _ _=>rfl))))
  CB)
 (AN (Di (CH jE (AG (pv 2)) (Aq P0 AF AF) (A6 _))
  (AX (BB (Aq Er (Aq VC (AG (pv 2)) (Aq P0 AF AF)) (Aq P0 AF AF))))
  CB)
 (AN (Ax (i:=3) sc.nd rfl (Or.inl rfl) (Aq Er (Aq Bj (Aq Bj (Aq ER (AG (pv 2)) AF) (Aq ER (AG (pv 1)) AF)) AF) AF))
 (AN (Ax (i:=3) sc.nd rfl (Or.inl rfl) (Aq Er (Aq ER (AG (pv 3)) (AG (pv 3))) AF))
 (AX (BB (Aq Bj (Aq ER (AG (pv 3)) AF) (Aq Er (Aq ER (AG (pv 3)) (AG (pv 3))) AF)))))))))
def Lf:Ac ["_law_number"] ["_law_number"] (AQ Ge):=B3
def RU:DF :=
 (Aj (Ez (CK (Ej false) (Ag GJ (nm 0) (fC (.int 5))) (fC (.int 0)))
  (Bf (Ae (AB (Be (AB (Be AH) AH)) (AB (Be (AB (Ae (AB (fC (.int 1)) (AB (fC (.int 1)) AH))) AH)) AH))))
  CZ)
 (Aj (Ez (CK (Ej false) (Ag GJ (nm 0) (fC (.int 5))) (fC (.int 1)))
  (Bf (Ae (AB (Be (AB (Be AH) (AB (Be (AB (Ae (AB (fC (.int 1)) (AB (fC (.int 2)) AH))) AH)) AH))) (AB (Be (AB (Ae (AB (fC (.int 0)) (AB (fC (.int 1)) AH))) (AB (Ae (AB (fC (.int 1)) (AB (fC (.int 1)) AH))) AH))) AH))))
  CZ)
 (Aj (Ez (CK (Ej false) (Ag GJ (nm 0) (fC (.int 5))) (fC (.int 2)))
  (Bf (Ae (AB (Be (AB (Be AH) (AB (Be (AB (Ae (AB (fC (.int 1)) (AB (fC (.int 1)) AH))) AH)) AH))) (AB (Be (AB (Ae (AB (fC (.int 1)) (AB (fC (.int 2)) AH))) (AB (Ae (AB (fC (.int 1)) (AB (fC (.int 2)) AH))) AH))) AH))))
  CZ)
 (Aj (Ez (CK (Ej false) (Ag GJ (nm 0) (fC (.int 5))) (fC (.int 3)))
  (Bf (Ae (AB (Be (AB (Be AH) (AB (Be (AB (Ae (AB (fC (.int 1)) (AB (fC (.int 3)) AH))) AH)) (AB (Be (AB (Ae (AB (fC (.int 0)) (AB (fC (.int 1)) AH))) (AB (Ae (AB (fC (.int 2)) (AB (fC (.int 3)) AH))) AH))) AH)))) (AB (Be (AB (Ae (AB (fC (.int 1)) (AB (fC (.int 4)) AH))) (AB (Ae (AB (fC (.int 0)) (AB (fC (.int 1)) AH))) (AB (Ae (AB (fC (.int 3)) (AB (fC (.int 4)) AH))) AH)))) AH))))
  CZ)
 (Bf (Ae (AB (Be (AB (Be AH) (AB (Be (AB (Ae (AB (fC (.int 1)) (AB (fC (.int 2)) AH))) AH)) (AB (Be (AB (Ae (AB (fC (.int 0)) (AB (fC (.int 1)) AH))) (AB (Ae (AB (fC (.int 1)) (AB (fC (.int 2)) AH))) AH))) (AB (Be (AB (Ae (AB (fC (.int 0)) (AB (fC (.int 1)) AH))) (AB (Ae (AB (fC (.int 0)) (AB (fC (.int 1)) AH))) (AB (Ae (AB (fC (.int 1)) (AB (fC (.int 1)) AH))) AH)))) AH))))) (AB (Be (AB (Ae (AB (fC (.int 1)) (AB (fC (.int 6)) AH))) (AB (Ae (AB (fC (.int 1)) (AB (fC (.int 3)) AH))) (AB (Ae (AB (fC (.int 1)) (AB (fC (.int 3)) AH))) (AB (Ae (AB (fC (.int 1)) (AB (fC (.int 6)) AH))) AH))))) AH))))))))
def Bn:MD:=Bt ["_law_number"] ["_law_number"] (RU)
def RF{k:Nat}(F:Fn K mg "_law_named" Ge ["_law_number"] f fd) :
  AM P w K mg base Ab (k+1) f fd ["_law_number"] (BE (Bn)):=EF F Lf fun cdv A outer s H E hr=>by
 have sc:=Lf;exact(AN (Di (CH (PL (by have:=hr.units;exact this)) (Aq Er (AG (pv 0)) AF) AF (A6 _))
  (AX (BB (AW (AA (A3 (AA (A3 AE) AE)) (AA (A3 (AA (AW (AA AF (AA AF AE))) AE)) AE)))))
  CB)
 (AN (Di (CH (PL (by have:=hr.units;exact this)) (Aq Er (AG (pv 0)) AF) AF (A6 _))
  (AX (BB (AW (AA (A3 (AA (A3 AE) (AA (A3 (AA (AW (AA AF (AA AF AE))) AE)) AE))) (AA (A3 (AA (AW (AA AF (AA AF AE))) (AA (AW (AA AF (AA AF AE))) AE))) AE)))))
  CB)
 (AN (Di (CH (PL (by have:=hr.units;exact this)) (Aq Er (AG (pv 0)) AF) AF (A6 _))
  (AX (BB (AW (AA (A3 (AA (A3 AE) (AA (A3 (AA (AW (AA AF (AA AF AE))) AE)) AE))) (AA (A3 (AA (AW (AA AF (AA AF AE))) (AA (AW (AA AF (AA AF AE))) AE))) AE)))))
  CB)
 (AN (Di (CH (PL (by have:=hr.units;exact this)) (Aq Er (AG (pv 0)) AF) AF (A6 _))
  (AX (BB (AW (AA (A3 (AA (A3 AE) (AA (A3 (AA (AW (AA AF (AA AF AE))) AE)) (AA (A3 (AA (AW (AA AF (AA AF AE))) (AA (AW (AA AF (AA AF AE))) AE))) AE)))) (AA (A3 (AA (AW (AA AF (AA AF AE))) (AA (AW (AA AF (AA AF AE))) (AA (AW (AA AF (AA AF AE))) AE)))) AE)))))
  CB)
 (AX (BB (AW (AA (A3 (AA (A3 AE) (AA (A3 (AA (AW (AA AF (AA AF AE))) AE)) (AA (A3 (AA (AW (AA AF (AA AF AE))) (AA (AW (AA AF (AA AF AE))) AE))) (AA (A3 (AA (AW (AA AF (AA AF AE))) (AA (AW (AA AF (AA AF AE))) (AA (AW (AA AF (AA AF AE))) AE)))) AE))))) (AA (A3 (AA (AW (AA AF (AA AF AE))) (AA (AW (AA AF (AA AF AE))) (AA (AW (AA AF (AA AF AE))) (AA (AW (AA AF (AA AF AE))) AE))))) AE)))))))))
def Td:Ac ["_law_tree"] ["_law_tree"] (AQ Jq):=B3
def NM(BF:MD):DF :=
 (Bf (AO LF (AB (gZ (AO (KQ false) (AB (Ee (DD 1) FG (AO BF (AB (nm 1) AH)) [none,none] (EK (nm 0))) AH)) (Ih (fC (.int 1)))) AH)))
def BF:Nat→MD
 |0=>fun _=>none
 |n+1=>Bt ["_law_tree"] ["_law_tree"] (NM (BF n))
def Lv{k:Nat}(CL:Fn K mg "_law_kept" Jq ["_law_tree"] f fd)(CS:mg "sorted" = none)(CU:mg "tuple" = none):∀n,
  AM P w K mg base Ab (k+n+1) f fd ["_law_tree"] (BE (BF n))
 |0=>Dr fun _ _ _ _ ⟨_,_,_,h,_⟩=>by cases h
 |n+1=>by
  have sc:=Td;have Ct:=Lv (k:=k) CL CS CU n;refine EF (k:=k+n+1) (F:=NM (BF n)) CL sc fun cdv A outer s H E hr=>?_;exact(AX (BB (Hd Rq rfl CU bV (AA (fk (CT (cf (by have:=hr.units;exact this)) rfl CS PyProof.Rows.boot_sorted (AA (Fc [".0", "_law_bough"] 1 [none,none] (Cz (AG (pv 0))) (fun _ _ _ _ _=>Eo) (fun _ _ _ _ _=>(Aa CL Ct hr rfl (AA (AG (pv 1)) AE)))) AE)) (FJ AF)) AE))))
def PZ:Ac ["_law_tree", "_law_found", "_law_k"] ["_law_tree"] (AQ Hh):=B3
def LV(BF:MD)(BW:MD):DF :=
 (Aj (BO 1 (Be (AB (AO BF (AB (Ag CO (nm 0) (Ae (AB (Ae AH) AH))) AH)) AH)))
 (Aj (Ci (DN HE (AB (AO FR (AB (nm 0) AH)) AH)) (Ea 2)
  (BO 1 (Ag CO (nm 1) (Ee (DD 1) FG (AO BF (AB (Ag CO (Ag CO (Rj (nm 2) O2 (PX (nm 3))) (Ae (AB (nm 1) AH))) (Rj (nm 2) (PX (Ag CO (nm 3) (fC (.int 1)))) O2)) AH)) [none,none,some 0,some 2] (EK (AO BW (AB (Ag Ce (nm 0) (nm 2)) AH)))))))
 (Bf (nm 1))))
def BW(BF:MD):Nat→MD
 |0=>fun _=>none
 |n+1=>Bt ["_law_tree"] ["_law_tree", "_law_found", "_law_k"] (LV BF (BW BF n))
def KW{k:Nat}{BF:MD}(CY:Fn K mg "_law_longer" Hh ["_law_tree"] f fd)
 {M6:AD}{L9:FuncData}(CL:Fn K mg "_law_kept" Jq ["_law_tree"] M6 L9)(Ct:AM P w K mg base Ab k M6 L9 ["_law_tree"] (BE BF))(A9:mg "len" = none)(BM:mg "range" = none):∀n,
  AM P w K mg base Ab (k+n+1) f fd ["_law_tree"] (BE (BW BF n))
 |0=>Dr fun _ _ _ _ ⟨_,_,_,h,_⟩=>by cases h
 |n+1=>by
  have sc:=PZ;have Ei:=KW (k:=k) (BF:=BF) CY CL Ct A9 BM n;have Ct:=Ct.mono (show k≤k+n+1 by omega);refine EF (k:=k+n+1) (F:=LV BF (BW BF n)) CY sc fun cdv A outer s H E hr=>?_;exact(AN (Ax (i:=1) sc.nd rfl (Or.inl rfl) (A3 (AA (Aa CL Ct hr rfl (AA (Aq Bj (AG (pv 0)) (AW (AA (AW AE) AE))) AE)) AE)))
 (AN (Cd aM rfl (FQ rfl BM (AA (CT F0 rfl A9 aY (AA (AG (pv 0)) AE)) AE)) (CV (A4 (i:=2) sc.nd rfl (Or.inr rfl)))
  (AX (Ax (i:=1) sc.nd rfl (Or.inl rfl) (Aq Bj (AG (pv 1)) (Fc [".0", "_law_more", "_law_tree", "_law_k"] 1 [none,none,some 0,some 2] (Cz (Aa CY Ei hr rfl (AA (Bl (AG (pv 0)) (AG (pv 2)) (fun _ _=>rfl)) AE))) (fun _ _ _ _ _=>Eo) (fun _ _ _ _ _=>(Aa CL Ct hr rfl (AA (Aq Bj (Aq Bj (Iy (AG (pv 2)) J4 (KP (AG (pv 3)))) (AW (AA (AG (pv 1)) AE))) (Iy (AG (pv 2)) (KP (Aq Bj (AG (pv 3)) AF)) J4)) AE))))))))
 (AX (BB (AG (pv 1))))))
def LU:Ac ["_law_most", "_law_found", "_law_row", "_law_many", "_law_wider", "_law_tree"] ["_law_most"] (AQ Ii):=B3
def TY(BW:MD):DF :=
 (Aj (BO 1 (Be AH))
 (Aj (BO 2 (Be (AB (Ae AH) AH)))
 (Aj (Ci (DN HE (AB (nm 0) AH)) (Ea 3)
  (Aj (BO 1 (Ag CO (nm 1) (nm 2)))
  (Aj (BO 4 (Be AH))
  (Aj (Ci (EK (nm 2)) (Ea 5)
   (BO 4 (Ag CO (nm 4) (AO BW (AB (nm 5) AH)))))
  (BO 2 (fun δ=>((nm 4) δ).bind LI))))))
 (Bf (nm 1)))))
def CQ(BW:MD):MD:=Bt ["_law_most"] ["_law_most", "_law_found", "_law_row", "_law_many", "_law_wider", "_law_tree"] (TY BW)
def Q5{k:Nat}{BW:MD}(F:Fn K mg "_law_trees" Ii ["_law_most"] f fd)
 {LQ:AD}{KN:FuncData}(CY:Fn K mg "_law_longer" Hh ["_law_tree"] LQ KN)(Ei:AM P w K mg base Ab k LQ KN ["_law_tree"] (BE BW))(BM:mg "range" = none)(Me:mg "set" = none)(CS:mg "sorted" = none) :
  AM P w K mg base Ab (k+1) f fd ["_law_most"] (BE (CQ BW)):=EF F LU fun cdv A outer s H E hr=>by
 have sc:=LU;exact(AN (Ax (i:=1) sc.nd rfl (Or.inl rfl) (A3 AE))
 (AN (Ax (i:=2) sc.nd rfl (Or.inl rfl) (A3 (AA (AW AE) AE)))
 (AN (Cd aM rfl (FQ rfl BM (AA (AG (pv 0)) AE)) (CV (A4 (i:=3) sc.nd rfl (Or.inl rfl)))
  (AN (Ax (i:=1) sc.nd rfl (Or.inl rfl) (Aq Bj (AG (pv 1)) (AG (pv 2))))
  (AN (Ax (i:=4) sc.nd rfl (Or.inl rfl) (A3 AE))
  (AN (Cd aM rfl (Cz (AG (pv 2))) (CV (A4 (i:=5) sc.nd rfl (Or.inl rfl)))
   (AX (Ax (i:=4) sc.nd rfl (Or.inl rfl) (Aq Bj (AG (pv 4)) (Aa CY Ei hr rfl (AA (AG (pv 5)) AE))))))
  (AX (Ax (i:=2) sc.nd rfl (Or.inl rfl) (O9 rfl (by have:=hr.units;exact this) rfl CS rfl Me (AG (pv 4)))))))))
 (AX (BB (AG (pv 1)))))))
def RD:Ac ["_law_tree"] ["_law_tree"] (AQ GR):=B3
def Lp(Ak:MD):DF :=
 (Bf (Ag CO (fC (.int 1)) (AO Ss (AB (Ee (DD 1) FG (AO Ak (AB (nm 1) AH)) [none,none] (EK (nm 0))) AH))))
def Ak:Nat→MD
 |0=>fun _=>none
 |n+1=>Bt ["_law_tree"] ["_law_tree"] (Lp (Ak n))
def Le{k:Nat}(Bm:Fn K mg "_law_knots" GR ["_law_tree"] f fd)(Dj:mg "sum" = none):∀n,
  AM P w K mg base Ab (k+n+1) f fd ["_law_tree"] (BE (Ak n))
 |0=>Dr fun _ _ _ _ ⟨_,_,_,h,_⟩=>by cases h
 |n+1=>by
  have sc:=RD;have Bw:=Le (k:=k) Bm Dj n;refine EF (k:=k+n+1) (F:=Lp (Ak n)) Bm sc fun cdv A outer s H E hr=>?_;exact(AX (BB (Aq Bj AF (CT (S8 rfl) rfl Dj ba (AA (Fc [".0", "_law_bough"] 1 [none,none] (Cz (AG (pv 0))) (fun _ _ _ _ _=>Eo) (fun _ _ _ _ _=>(Aa Bm Bw hr rfl (AA (AG (pv 1)) AE)))) AE)))))
def PU:Ac ["_law_tree", "_law_found", "_law_bough"] ["_law_tree"] (AQ Gz):=B3
def J5(Ak:MD)(BR:MD):DF :=
 (Aj (BO 1 (AO Ak (AB (nm 0) AH)))
 (Aj (Ci (EK (nm 0)) (Ea 2)
  (BO 1 (Ag FI (nm 1) (AO BR (AB (nm 2) AH)))))
 (Bf (nm 1))))
def BR(Ak:MD):Nat→MD
 |0=>fun _=>none
 |n+1=>Bt ["_law_tree"] ["_law_tree", "_law_found", "_law_bough"] (J5 Ak (BR Ak n))
def Jo{k:Nat}{Ak:MD}(CG:Fn K mg "_law_density" Gz ["_law_tree"] f fd)
 {FT:AD}{El:FuncData}(Bm:Fn K mg "_law_knots" GR ["_law_tree"] FT El)(Bw:AM P w K mg base Ab k FT El ["_law_tree"] (BE Ak)):∀n,
  AM P w K mg base Ab (k+n+1) f fd ["_law_tree"] (BE (BR Ak n))
 |0=>Dr fun _ _ _ _ ⟨_,_,_,h,_⟩=>by cases h
 |n+1=>by
  have sc:=PU;have EN:=Jo (k:=k) (Ak:=Ak) CG Bm Bw n;have Bw:=Bw.mono (show k≤k+n+1 by omega);refine EF (k:=k+n+1) (F:=J5 Ak (BR Ak n)) CG sc fun cdv A outer s H E hr=>?_;exact(AN (Ax (i:=1) sc.nd rfl (Or.inl rfl) (Aa Bm Bw hr rfl (AA (AG (pv 0)) AE)))
 (AN (Cd aM rfl (Cz (AG (pv 0))) (CV (A4 (i:=2) sc.nd rfl (Or.inl rfl)))
  (AX (Ax (i:=1) sc.nd rfl (Or.inl rfl) (Aq ER (AG (pv 1)) (Aa CG EN hr rfl (AA (AG (pv 2)) AE))))))
 (AX (BB (AG (pv 1))))))
def NH:Ac ["_law_one", "_law_other"] ["_law_one", "_law_other"] (AQ Kp):=B3
def O3(Bo:MD):DF :=
 (Bf (AO Bo (AB (Ag CO (Ag FI (Ag Ce (nm 0) (fC (.int 0))) (Ag Ce (nm 1) (fC (.int 1)))) (Ag FI (Ag Ce (nm 1) (fC (.int 0))) (Ag Ce (nm 0) (fC (.int 1))))) (AB (Ag FI (Ag Ce (nm 0) (fC (.int 1))) (Ag Ce (nm 1) (fC (.int 1)))) AH))))
def DR(Bo:MD):MD:=Bt ["_law_one", "_law_other"] ["_law_one", "_law_other"] (O3 Bo)
def T8{k:Nat}{Bo:MD}(F:Fn K mg "_law_add" Kp ["_law_one", "_law_other"] f fd)
 {Fx:AD}{FO:FuncData}(CM:Fn K mg "_law_frac" Fz ["_law_top", "_law_bottom"] Fx FO)(DY:AM P w K mg base Ab k Fx FO ["_law_top", "_law_bottom"] (BE Bo)) :
  AM P w K mg base Ab (k+1) f fd ["_law_one", "_law_other"] (BE (DR Bo)):=EF F NH fun cdv A outer s H E hr=>by
 have sc:=NH;exact(AX (BB (Aa CM DY hr rfl (AA (Aq Bj (Aq ER (Bl (AG (pv 0)) AF (fun _ _=>rfl)) (Bl (AG (pv 1)) AF (fun _ _=>rfl))) (Aq ER (Bl (AG (pv 1)) AF (fun _ _=>rfl)) (Bl (AG (pv 0)) AF (fun _ _=>rfl)))) (AA (Aq ER (Bl (AG (pv 0)) AF (fun _ _=>rfl)) (Bl (AG (pv 1)) AF (fun _ _=>rfl))) AE)))))
def ND:Ac ["_law_one", "_law_other"] ["_law_one", "_law_other"] (AQ K4):=B3
def O6(Bo:MD):DF :=
 (Bf (AO Bo (AB (Ag FI (Ag Ce (nm 0) (fC (.int 0))) (Ag Ce (nm 1) (fC (.int 0)))) (AB (Ag FI (Ag Ce (nm 0) (fC (.int 1))) (Ag Ce (nm 1) (fC (.int 1)))) AH))))
def DM(Bo:MD):MD:=Bt ["_law_one", "_law_other"] ["_law_one", "_law_other"] (O6 Bo)
def Tx{k:Nat}{Bo:MD}(F:Fn K mg "_law_mul" K4 ["_law_one", "_law_other"] f fd)
 {Fx:AD}{FO:FuncData}(CM:Fn K mg "_law_frac" Fz ["_law_top", "_law_bottom"] Fx FO)(DY:AM P w K mg base Ab k Fx FO ["_law_top", "_law_bottom"] (BE Bo)) :
  AM P w K mg base Ab (k+1) f fd ["_law_one", "_law_other"] (BE (DM Bo)):=EF F ND fun cdv A outer s H E hr=>by
 have sc:=ND;exact(AX (BB (Aa CM DY hr rfl (AA (Aq ER (Bl (AG (pv 0)) AF (fun _ _=>rfl)) (Bl (AG (pv 1)) AF (fun _ _=>rfl))) (AA (Aq ER (Bl (AG (pv 0)) AF (fun _ _=>rfl)) (Bl (AG (pv 1)) AF (fun _ _=>rfl))) AE)))))
def SS:Ac ["_law_tree", "_law_above", "_law_bough", "_law_place"] ["_law_tree"] (AQ Jx):=B3
def NP(Bp:MD):DF :=
 (Aj (BO 1 (Be (AB (fC (.int 0)) AH)))
 (Aj (Ci (EK (nm 0)) (Ea 2)
  (Aj (BO 3 (AO FR (AB (nm 1) AH)))
  (BO 1 (Ag CO (Ag CO (nm 1) (Be (AB (fC (.int 0)) AH))) (Ee (DD 1) FG (Ag CO (nm 2) (nm 1)) [none,none,some 3] (EK (Rj (AO Bp (AB (nm 2) AH)) (PX (fC (.int 1))) O2)))))))
 (Bf (nm 1))))
def Bp:Nat→MD
 |0=>fun _=>none
 |n+1=>Bt ["_law_tree"] ["_law_tree", "_law_above", "_law_bough", "_law_place"] (NP (Bp n))
def MM{k:Nat}(DV:Fn K mg "_law_flat" Jx ["_law_tree"] f fd)(A9:mg "len" = none):∀n,
  AM P w K mg base Ab (k+n+1) f fd ["_law_tree"] (BE (Bp n))
 |0=>Dr fun _ _ _ _ ⟨_,_,_,h,_⟩=>by cases h
 |n+1=>by
  have sc:=SS;have Fv:=MM (k:=k) DV A9 n;refine EF (k:=k+n+1) (F:=NP (Bp n)) DV sc fun cdv A outer s H E hr=>?_;exact(AN (Ax (i:=1) sc.nd rfl (Or.inl rfl) (A3 (AA AF AE)))
 (AN (Cd aM rfl (Cz (AG (pv 0))) (CV (A4 (i:=2) sc.nd rfl (Or.inl rfl)))
  (AN (Ax (i:=3) sc.nd rfl (Or.inr rfl) (CT F0 rfl A9 aY (AA (AG (pv 1)) AE)))
  (AX (Ax (i:=1) sc.nd rfl (Or.inl rfl) (Aq Bj (Aq Bj (AG (pv 1)) (A3 (AA AF AE))) (Fc [".0", "_law_one", "_law_place"] 1 [none,none,some 3] (Cz (Iy (Aa DV Fv hr rfl (AA (AG (pv 2)) AE)) (KP AF) J4)) (fun _ _ _ _ _=>Eo) (fun _ _ _ _ _=>(Aq Bj (AG (pv 2)) (AG (pv 1))))))))))
 (AX (BB (AG (pv 1))))))
def LX:Ac ["_law_many", "_law_count", "_law_found", "_law_k"] ["_law_many", "_law_count"] (AQ JO):=B3
def Rn:DF :=
 (Aj (BO 2 (fC (.int 1)))
 (Aj (Ci (DN HE (AB (nm 1) AH)) (Ea 3)
  (BO 2 (Ag FI (nm 2) (nm 0))))
 (Bf (nm 2))))
def B0:MD:=Bt ["_law_many", "_law_count"] ["_law_many", "_law_count", "_law_found", "_law_k"] (Rn)
def RC{k:Nat}(F:Fn K mg "_law_power" JO ["_law_many", "_law_count"] f fd)(BM:mg "range" = none) :
  AM P w K mg base Ab (k+1) f fd ["_law_many", "_law_count"] (BE (B0)):=EF F LX fun cdv A outer s H E hr=>by
 have sc:=LX;exact(AN (Ax (i:=2) sc.nd rfl (Or.inl rfl) AF)
 (AN (Cd aM rfl (FQ rfl BM (AA (AG (pv 1)) AE)) (CV (A4 (i:=3) sc.nd rfl (Or.inl rfl)))
  (AX (Ax (i:=2) sc.nd rfl (Or.inl rfl) (Aq ER (AG (pv 2)) (AG (pv 0))))))
 (AX (BB (AG (pv 2))))))
def Lw:Ac ["_law_table_here", "_law_row", "_law_other"] ["_law_table_here", "_law_row", "_law_other"] (AQ Jr):=B3
def NB:DF :=
 (Aj (Ez (CK (Gm fun i j=>decide (i<j)) (nm 2) (nm 1))
  (Bf (Ag Ce (Ag Ce (Ag Ce (nm 0) (fC (.int 0))) (nm 1)) (nm 2)))
  CZ)
 (Bf (Ae (AB (fC (.int 0)) (AB (fC (.int 1)) AH)))))
def CD:MD:=Bt ["_law_table_here", "_law_row", "_law_other"] ["_law_table_here", "_law_row", "_law_other"] (NB)
def TL{k:Nat}(F:Fn K mg "_law_read" Jr ["_law_table_here", "_law_row", "_law_other"] f fd) :
  AM P w K mg base Ab (k+1) f fd ["_law_table_here", "_law_row", "_law_other"] (BE (CD)):=EF F Lw fun cdv A outer s H E hr=>by
 have sc:=Lw;exact(AN (Di (CH WD (AG (pv 2)) (AG (pv 1)) (A6 _))
  (AX (BB (Bl (Bl (Bl (AG (pv 0)) AF (fun _ _=>rfl)) (AG (pv 1)) (fun _ _=>rfl)) (AG (pv 2)) (fun _ _=>rfl))))
  CB)
 (AX (BB (AW (AA AF (AA AF AE))))))
def Ka:Ac ["_law_table_here", "_law_tree", "_law_above", "_law_many", "_law_found", "_law_start", "_law_number", "_law_rows", "_law_k", "_law_worth"] ["_law_table_here", "_law_tree"] (AQ Ho):=B3
def Lh(DR:MD)(Bp:MD)(DM:MD)(B0:MD)(CD:MD):DF :=
 (Aj (BO 2 (AO Bp (AB (nm 1) AH)))
 (Aj (BO 3 (AO FR (AB (Ag Ce (nm 0) (fC (.int 0))) AH)))
 (Aj (BO 4 (Ae (AB (fC (.int 0)) (AB (fC (.int 1)) AH))))
 (Aj (Ci (DN HE (AB (AO B0 (AB (nm 3) (AB (AO FR (AB (nm 2) AH)) AH))) AH)) (Ea 5)
  (Aj (BO 6 (nm 5))
  (Aj (ZF 7 AH)
  (Aj (Ci (DN HE (AB (AO FR (AB (nm 2) AH)) AH)) (Ea 8)
   (Aj (Vl 7 (Ag GJ (nm 6) (nm 3)))
   (BO 6 (Ag R6 (nm 6) (nm 3)))))
  (Aj (BO 9 (Ag Ce (Ag Ce (nm 0) (fC (.int 1))) (KG 7 (fC (.int 0)))))
  (Aj (Ci (DN N1 (AB (fC (.int 1)) (AB (AO FR (AB (nm 2) AH)) AH))) (Ea 8)
   (Ez (CK (Ej true) (nm 9) (Ae (AB (fC (.int 0)) (AB (fC (.int 1)) AH))))
    (BO 9 (AO DM (AB (nm 9) (AB (AO CD (AB (nm 0) (AB (KG 7 (Ag Ce (nm 2) (nm 8))) (AB (KG 7 (nm 8)) AH)))) AH))))
    CZ))
  (BO 4 (AO DR (AB (nm 4) (AB (nm 9) AH))))))))))
 (Bf (nm 4))))))
def CF(DR:MD)(Bp:MD)(DM:MD)(B0:MD)(CD:MD):MD:=Bt ["_law_table_here", "_law_tree"] ["_law_table_here", "_law_tree", "_law_above", "_law_many", "_law_found", "_law_start", "_law_number", "_law_rows", "_law_k", "_law_worth"] (Lh DR Bp DM B0 CD)
def Pk{k:Nat}{DR:MD}{Bp:MD}{DM:MD}{B0:MD}{CD:MD}(F:Fn K mg "_law_weight" Ho ["_law_table_here", "_law_tree"] f fd)
 {OW:AD}{M5:FuncData}(IK:Fn K mg "_law_add" Kp ["_law_one", "_law_other"] OW M5)(LK:AM P w K mg base Ab k OW M5 ["_law_one", "_law_other"] (BE DR))
 {M9:AD}{Lu:FuncData}(DV:Fn K mg "_law_flat" Jx ["_law_tree"] M9 Lu)(Fv:AM P w K mg base Ab k M9 Lu ["_law_tree"] (BE Bp))
 {O1:AD}{Mx:FuncData}(IU:Fn K mg "_law_mul" K4 ["_law_one", "_law_other"] O1 Mx)(LM:AM P w K mg base Ab k O1 Mx ["_law_one", "_law_other"] (BE DM))
 {MG:AD}{LP:FuncData}(GQ:Fn K mg "_law_power" JO ["_law_many", "_law_count"] MG LP)(JC:AM P w K mg base Ab k MG LP ["_law_many", "_law_count"] (BE B0))
 {Mv:AD}{MK:FuncData}(HU:Fn K mg "_law_read" Jr ["_law_table_here", "_law_row", "_law_other"] Mv MK)(Jz:AM P w K mg base Ab k Mv MK ["_law_table_here", "_law_row", "_law_other"] (BE CD))(A9:mg "len" = none)(BM:mg "range" = none) :
  AM P w K mg base Ab (k+1) f fd ["_law_table_here", "_law_tree"] (BE (CF DR Bp DM B0 CD)):=EF F Ka fun cdv A outer s H E hr=>by
 have sc:=Ka;exact(AN (Ax (i:=2) sc.nd rfl (Or.inl rfl) (Aa DV Fv hr rfl (AA (AG (pv 1)) AE)))
 (AN (Ax (i:=3) sc.nd rfl (Or.inl rfl) (CT F0 rfl A9 aY (AA (Bl (AG (pv 0)) AF (fun _ _=>rfl)) AE)))
 (AN (Ax (i:=4) sc.nd rfl (Or.inl rfl) (AW (AA AF (AA AF AE))))
 (AN (Cd aM rfl (FQ rfl BM (AA (Aa GQ JC hr rfl (AA (AG (pv 3)) (AA (CT F0 rfl A9 aY (AA (AG (pv 2)) AE)) AE))) AE)) (CV (A4 (i:=5) sc.nd rfl (Or.inl rfl)))
  (AN (Ax (i:=6) sc.nd rfl (Or.inl rfl) (AG (pv 5)))
  (AN (Sf (i:=7) sc.nd rfl (Or.inl rfl) AE)
  (AN (Cd aM rfl (FQ rfl BM (AA (CT F0 rfl A9 aY (AA (AG (pv 2)) AE)) AE)) (CV (A4 (i:=8) sc.nd rfl (Or.inl rfl)))
   (AN (Q0 (pv 7) (Aq Er (AG (pv 6)) (AG (pv 3))) (fun ho ha=>FW (Jn aw bI bJ FN ho ha)))
   (AX (Ax (i:=6) sc.nd rfl (Or.inl rfl) (Aq US (AG (pv 6)) (AG (pv 3)))))))
  (AN (Ax (i:=9) sc.nd rfl (Or.inl rfl) (Bl (Bl (AG (pv 0)) AF (fun _ _=>rfl)) (Ni (pv 7) AF (fun _ _=>rfl)) (fun _ _=>rfl)))
  (AN (Cd aM rfl (Qi rfl BM (AA AF (AA (CT F0 rfl A9 aY (AA (AG (pv 2)) AE)) AE))) (CV (A4 (i:=8) sc.nd rfl (Or.inl rfl)))
   (AX (Di (CH (Je (by have:=hr.units;exact this)) (AG (pv 9)) (AW (AA AF (AA AF AE))) (A6 _))
    (AX (Ax (i:=9) sc.nd rfl (Or.inl rfl) (Aa IU LM hr rfl (AA (AG (pv 9)) (AA (Aa HU Jz hr rfl (AA (AG (pv 0)) (AA (Ni (pv 7) (Bl (AG (pv 2)) (AG (pv 8)) (fun _ _=>rfl)) (fun _ _=>rfl)) (AA (Ni (pv 7) (AG (pv 8)) (fun _ _=>rfl)) AE)))) AE)))))
    CB)))
  (AX (Ax (i:=4) sc.nd rfl (Or.inl rfl) (Aa IK LK hr rfl (AA (AG (pv 4)) (AA (AG (pv 9)) AE)))))))))))
 (AX (BB (AG (pv 4))))))))
def M3:Ac ["_law_table_here", "_law_tree"] ["_law_table_here"] (AQ LH):=B3
def OU(BR:MD)(Ak:MD)(CQ:MD)(CF:MD):DF :=
 (Aj (Ci (EK (AO CQ (AB (fC (.int 5)) AH))) (Ea 1)
  (Ez (CK (Ej true) (AO CF (AB (nm 0) (AB (nm 1) AH))) (Ae (AB (fC (.int 1)) (AB (AO BR (AB (nm 1) AH)) AH))))
   (Bf (Ae (AB (Ag YE (AO Ak (AB (nm 1) AH)) (fC (.int 1))) (AB (nm 1) AH))))
   CZ))
 (Bf (fC .none)))
def Co(BR:MD)(Ak:MD)(CQ:MD)(CF:MD):MD:=Bt ["_law_table_here"] ["_law_table_here", "_law_tree"] (OU BR Ak CQ CF)
def T7{k:Nat}{BR:MD}{Ak:MD}{CQ:MD}{CF:MD}(F:Fn K mg "_law_due" LH ["_law_table_here"] f fd)
 {KL:AD}{Jb:FuncData}(CG:Fn K mg "_law_density" Gz ["_law_tree"] KL Jb)(EN:AM P w K mg base Ab k KL Jb ["_law_tree"] (BE BR))
 {FT:AD}{El:FuncData}(Bm:Fn K mg "_law_knots" GR ["_law_tree"] FT El)(Bw:AM P w K mg base Ab k FT El ["_law_tree"] (BE Ak))
 {MC:AD}{Lj:FuncData}(GS:Fn K mg "_law_trees" Ii ["_law_most"] MC Lj)(JH:AM P w K mg base Ab k MC Lj ["_law_most"] (BE CQ))
 {Li:AD}{J7:FuncData}(F5:Fn K mg "_law_weight" Ho ["_law_table_here", "_law_tree"] Li J7)(Hu:AM P w K mg base Ab k Li J7 ["_law_table_here", "_law_tree"] (BE CF)) :
  AM P w K mg base Ab (k+1) f fd ["_law_table_here"] (BE (Co BR Ak CQ CF)):=EF F M3 fun cdv A outer s H E hr=>by
 have sc:=M3;exact(AN (Cd aM rfl (Cz (Aa GS JH hr rfl (AA AF AE))) (CV (A4 (i:=1) sc.nd rfl (Or.inl rfl)))
  (AX (Di (CH (Je (by have:=hr.units;exact this)) (Aa F5 Hu hr rfl (AA (AG (pv 0)) (AA (AG (pv 1)) AE))) (AW (AA AF (AA (Aa CG EN hr rfl (AA (AG (pv 1)) AE)) AE))) (A6 _))
   (AX (BB (AW (AA (Aq VC (Aa Bm Bw hr rfl (AA (AG (pv 1)) AE)) AF) (AA (AG (pv 1)) AE)))))
   CB)))
 (AX (BB MQ)))
def NU:Ac ["_law_rows"] [] (AQ LL):=B3
def V1:DF :=
 (Aj (BO 0 (Be (AB (Be AH) (AB (Be (AB (Ae (AB (fC (.int 1)) (AB (fC (.int 3)) AH))) AH)) (AB (Be (AB (Ae (AB (fC (.int 0)) (AB (fC (.int 1)) AH))) (AB (Ae (AB (fC (.int 2)) (AB (fC (.int 3)) AH))) AH))) (AB (Be (AB (Ae (AB (fC (.int 1)) (AB (fC (.int 12)) AH))) (AB (Ae (AB (fC (.int 1)) (AB (fC (.int 3)) AH))) (AB (Ae (AB (Ih (fC (.int 1))) (AB (fC (.int 12)) AH))) AH)))) (AB (Be (AB (Ae (AB (Ih (fC (.int 1))) (AB (fC (.int 16)) AH))) (AB (Ae (AB (fC (.int 9)) (AB (fC (.int 8)) AH))) (AB (Ae (AB (Ih (fC (.int 3))) (AB (fC (.int 16)) AH))) (AB (Ae (AB (Ih (fC (.int 3))) (AB (fC (.int 8)) AH))) AH))))) AH)))))))
 (Aj (BO 0 (Ag CO (nm 0) (Be (AB (Be (AB (Ae (AB (fC (.int 0)) (AB (fC (.int 1)) AH))) (AB (Ae (AB (fC (.int 9)) (AB (fC (.int 8)) AH))) (AB (Ae (AB (Ih (fC (.int 3))) (AB (fC (.int 8)) AH))) (AB (Ae (AB (Ih (fC (.int 3))) (AB (fC (.int 4)) AH))) (AB (Ae (AB (fC (.int 1)) (AB (fC (.int 2)) AH))) AH)))))) AH))))
 (Aj (BO 0 (Ag CO (nm 0) (Be (AB (Be (AB (Ae (AB (fC (.int 9)) (AB (fC (.int 44)) AH))) (AB (Ae (AB (Ih (fC (.int 9))) (AB (fC (.int 11)) AH))) (AB (Ae (AB (fC (.int 63)) (AB (fC (.int 44)) AH))) (AB (Ae (AB (fC (.int 18)) (AB (fC (.int 11)) AH))) (AB (Ae (AB (fC (.int 0)) (AB (fC (.int 1)) AH))) (AB (Ae (AB (Ih (fC (.int 16))) (AB (fC (.int 11)) AH))) AH))))))) AH))))
 (Bf (Ae (AB (nm 0) (AB (Be (AB (Ae (AB (fC (.int 11)) (AB (fC (.int 120)) AH))) (AB (Ae (AB (fC (.int 0)) (AB (fC (.int 1)) AH))) (AB (Ae (AB (fC (.int 27)) (AB (fC (.int 40)) AH))) (AB (Ae (AB (fC (.int 27)) (AB (fC (.int 40)) AH))) (AB (Ae (AB (Ih (fC (.int 4))) (AB (fC (.int 15)) AH))) (AB (Ae (AB (Ih (fC (.int 4))) (AB (fC (.int 15)) AH))) (AB (Ae (AB (fC (.int 11)) (AB (fC (.int 120)) AH))) AH)))))))) AH)))))))
def Cn:MD:=Bt [] ["_law_rows"] (V1)
def T3{k:Nat}(F:Fn K mg "_law_six" LL [] f fd) :
  AM P w K mg base Ab (k+1) f fd [] (BE (Cn)):=EF F NU fun cdv A outer s H E hr=>by
 have sc:=NU;exact(AN (Ax (i:=0) sc.nd rfl (Or.inl rfl) (A3 (AA (A3 AE) (AA (A3 (AA (AW (AA AF (AA AF AE))) AE)) (AA (A3 (AA (AW (AA AF (AA AF AE))) (AA (AW (AA AF (AA AF AE))) AE))) (AA (A3 (AA (AW (AA AF (AA AF AE))) (AA (AW (AA AF (AA AF AE))) (AA (AW (AA (FJ AF) (AA AF AE))) AE)))) (AA (A3 (AA (AW (AA (FJ AF) (AA AF AE))) (AA (AW (AA AF (AA AF AE))) (AA (AW (AA (FJ AF) (AA AF AE))) (AA (AW (AA (FJ AF) (AA AF AE))) AE))))) AE)))))))
 (AN (Ax (i:=0) sc.nd rfl (Or.inl rfl) (Aq Bj (AG (pv 0)) (A3 (AA (A3 (AA (AW (AA AF (AA AF AE))) (AA (AW (AA AF (AA AF AE))) (AA (AW (AA (FJ AF) (AA AF AE))) (AA (AW (AA (FJ AF) (AA AF AE))) (AA (AW (AA AF (AA AF AE))) AE)))))) AE))))
 (AN (Ax (i:=0) sc.nd rfl (Or.inl rfl) (Aq Bj (AG (pv 0)) (A3 (AA (A3 (AA (AW (AA AF (AA AF AE))) (AA (AW (AA (FJ AF) (AA AF AE))) (AA (AW (AA AF (AA AF AE))) (AA (AW (AA AF (AA AF AE))) (AA (AW (AA AF (AA AF AE))) (AA (AW (AA (FJ AF) (AA AF AE))) AE))))))) AE))))
 (AX (BB (AW (AA (AG (pv 0)) (AA (A3 (AA (AW (AA AF (AA AF AE))) (AA (AW (AA AF (AA AF AE))) (AA (AW (AA AF (AA AF AE))) (AA (AW (AA AF (AA AF AE))) (AA (AW (AA (FJ AF) (AA AF AE))) (AA (AW (AA (FJ AF) (AA AF AE))) (AA (AW (AA AF (AA AF AE))) AE)))))))) AE))))))))
def J6:Ac ["_law_table_here"] ["_law_table_here"] (AQ Hv):=B3
def Lg:DF :=
 (Bf (Ae (AB (Ee (DD 1) FG (AO G7 (AB (nm 1) AH)) [none,none] (EK (Ag Ce (nm 0) (fC (.int 0))))) (AB (AO G7 (AB (Ag Ce (nm 0) (fC (.int 1))) AH)) AH))))
def B2:MD:=Bt ["_law_table_here"] ["_law_table_here"] (Lg)
def Pu{k:Nat}(F:Fn K mg "_law_copied" Hv ["_law_table_here"] f fd)(EW:mg "list" = none) :
  AM P w K mg base Ab (k+1) f fd ["_law_table_here"] (BE (B2)):=EF F J6 fun cdv A outer s H E hr=>by
 have sc:=J6;exact(AX (BB (AW (AA (Fc [".0", "_law_row"] 1 [none,none] (Cz (Bl (AG (pv 0)) AF (fun _ _=>rfl))) (fun _ _ _ _ _=>Eo) (fun _ _ _ _ _=>(Hd PY rfl EW bY (AA (AG (pv 1)) AE)))) (AA (Hd PY rfl EW bY (AA (Bl (AG (pv 0)) AF (fun _ _=>rfl)) AE)) AE)))))
def Xi:Ac ["_law_script", "_law_table_here", "_law_handed", "_law_due_here", "_law_k", "_law_found", "_law_one", "_law_other"] ["_law_script"] (AQ Zv):=B3
def Zw(BZ:MD)(B2:MD)(Co:MD)(Bn:MD)(Cn:MD)(C2:MD)(B7:MD)(Bd:MD):DF :=
 (Aj (Ez (CK (Ej true) (AO Bd (AB (AO Cn AH) AH)) (Ae (AB (fC (.int 6)) (AB (fC .none) AH))))
  (Bf (fC (.bool false)))
  CZ)
 (Aj (BO 1 (AO C2 (AB (nm 0) (AB (fC (.int 0)) (AB (fC (.int 4)) AH)))))
 (Aj (BO 2 (AO B2 (AB (nm 1) AH)))
 (Aj (BO 3 (AO Co (AB (nm 1) AH)))
 (Aj (Ci (DN HE (AB (fC (.int 2)) AH)) (Ea 4)
  (Aj (BO 5 (AO Bd (AB (nm 2) AH)))
  (Aj (Ez (CK (Ej true) (AO Bd (AB (AO C2 (AB (nm 0) (AB (fC (.int 4)) (AB (fC (.int 4)) AH)))) AH)) (AO Co (AB (AO C2 (AB (nm 0) (AB (fC (.int 4)) (AB (fC (.int 4)) AH)))) AH)))
   (Bf (fC (.bool false)))
   CZ)
  (Aj (Ez (TV (VZ (Sd (ZY Ef (nm 5)))) (TV (CK (Ej true) (AO FR (AB (nm 5) AH)) (fC (.int 2))) (TV (CK (Ej true) (nm 5) (nm 3)) (CK (Ej true) (nm 2) (nm 1)))))
   (Bf (fC (.bool false)))
   CZ)
  (Ez (TV (VZ (Sd (ZY Hc (Ag Ce (nm 5) (fC (.int 0)))))) (TV (Sd (ZY GI (Ag Ce (nm 5) (fC (.int 0))))) (CK (Gm fun i j=>decide (j<i)) (Ag Ce (nm 5) (fC (.int 0))) (AO FR (AB (Ag Ce (nm 1) (fC (.int 0))) AH)))))
   (Bf (fC (.bool false)))
   CZ)))))
 (Aj (BO 6 (AO Bn (AB (AO BZ (AB (nm 0) (AB (fC (.int 2)) AH))) AH)))
 (Aj (BO 7 (AO Bn (AB (Ag GJ (Ag R6 (AO BZ (AB (nm 0) (AB (fC (.int 2)) AH))) (fC (.int 5))) (fC (.int 4))) AH)))
 (Bf (Ag (Ej false) (AO Bd (AB (AO B7 (AB (nm 6) (AB (nm 7) AH))) AH)) (Ae (AB (fC (.int 0)) (AB (Ae AH) AH))))))))))))
def Zx(BZ:MD)(B2:MD)(Co:MD)(Bn:MD)(Cn:MD)(C2:MD)(B7:MD)(Bd:MD):MD:=Bt ["_law_script"] ["_law_script", "_law_table_here", "_law_handed", "_law_due_here", "_law_k", "_law_found", "_law_one", "_law_other"] (Zw BZ B2 Co Bn Cn C2 B7 Bd)
def fU{k:Nat}{BZ:MD}{B2:MD}{Co:MD}{Bn:MD}{Cn:MD}{C2:MD}{B7:MD}{Bd:MD}(F:Fn K mg "law" Zv ["_law_script"] f fd)
 {NW:AD}{L4:FuncData}(Cr:Fn K mg "_law_cell" HP ["_law_script", "_law_k"] NW L4)(DZ:AM P w K mg base Ab k NW L4 ["_law_script", "_law_k"] (BE BZ))
 {LO:AD}{Kh:FuncData}(F4:Fn K mg "_law_copied" Hv ["_law_table_here"] LO Kh)(Hj:AM P w K mg base Ab k LO Kh ["_law_table_here"] (BE B2))
 {OV:AD}{M7:FuncData}(Gg:Fn K mg "_law_due" LH ["_law_table_here"] OV M7)(IV:AM P w K mg base Ab k OV M7 ["_law_table_here"] (BE Co))
 {L5:AD}{LZ:FuncData}(C5:Fn K mg "_law_named" Ge ["_law_number"] L5 LZ)(Dh:AM P w K mg base Ab k L5 LZ ["_law_number"] (BE Bn))
 {Ow:AD}{NI:FuncData}(IW:Fn K mg "_law_six" LL [] Ow NI)(K8:AM P w K mg base Ab k Ow NI [] (BE Cn))
 {Lx:AD}{LN:FuncData}(EU:Fn K mg "_law_table" JI ["_law_script", "_law_at", "_law_most"] Lx LN)(FE:AM P w K mg base Ab k Lx LN ["_law_script", "_law_at", "_law_most"] (BE C2))
 {KU:AD}{JY:FuncData}(FX:Fn K mg "table_behind" G9 ["one", "other"] KU JY)(HA:AM P w K mg base Ab k KU JY ["one", "other"] (BE B7))
 {Lb:AD}{Kk:FuncData}(DB:Fn K mg "table_order" Hx ["table"] Lb Kk)(Dp:AM P w K mg base Ab k Lb Kk ["table"] (BE Bd))(KI:mg "bool" = none)(Mc:mg "int" = none)(Aw:mg "isinstance" = none)(A9:mg "len" = none)(BM:mg "range" = none)(CU:mg "tuple" = none) :
  AM P w K mg base Ab (k+1) f fd ["_law_script"] (BE (Zx BZ B2 Co Bn Cn C2 B7 Bd)):=EF F Xi fun cdv A outer s H E hr=>by
 have sc:=Xi;exact(AN (Di (CH (Je (by have:=hr.units;exact this)) (Aa DB Dp hr rfl (AA (YO IW K8 hr rfl) AE)) (AW (AA AF (AA MQ AE))) (A6 _))
  (AX (BB RM))
  CB)
 (AN (Ax (i:=1) sc.nd rfl (Or.inl rfl) (Aa EU FE hr rfl (AA (AG (pv 0)) (AA AF (AA AF AE)))))
 (AN (Ax (i:=2) sc.nd rfl (Or.inl rfl) (Aa F4 Hj hr rfl (AA (AG (pv 1)) AE)))
 (AN (Ax (i:=3) sc.nd rfl (Or.inl rfl) (Aa Gg IV hr rfl (AA (AG (pv 1)) AE)))
 (AN (Cd aM rfl (FQ rfl BM (AA AF AE)) (CV (A4 (i:=4) sc.nd rfl (Or.inl rfl)))
  (AN (Ax (i:=5) sc.nd rfl (Or.inl rfl) (Aa DB Dp hr rfl (AA (AG (pv 2)) AE)))
  (AN (Di (CH (Je (by have:=hr.units;exact this)) (Aa DB Dp hr rfl (AA (Aa EU FE hr rfl (AA (AG (pv 0)) (AA AF (AA AF AE)))) AE)) (Aa Gg IV hr rfl (AA (Aa EU FE hr rfl (AA (AG (pv 0)) (AA AF (AA AF AE)))) AE)) (A6 _))
   (AX (BB RM))
   CB)
  (AN (Di (DW.dt (Mn (SO (OS (Th (N8 _) rfl Aw rfl CU bV (AG (pv 5))))) (Mn (CH (Je (by have:=hr.units;exact this)) (CT F0 rfl A9 aY (AA (AG (pv 5)) AE)) AF (A6 _)) (Mn (CH (Je (by have:=hr.units;exact this)) (AG (pv 5)) (AG (pv 3)) (A6 _)) (SJ (CH (Je (by have:=hr.units;exact this)) (AG (pv 2)) (AG (pv 1)) (A6 _)))))))
   (AX (BB RM))
   CB)
  (AX (Di (DW.dt (Mn (SO (OS (Th (Su _) rfl Aw rfl Mc PyProof.Rows.boot_int (Bl (AG (pv 5)) AF (fun _ _=>rfl))))) (Mn (OS (Th (Qp _) rfl Aw rfl KI PyProof.Rows.boot_bool (Bl (AG (pv 5)) AF (fun _ _=>rfl)))) (SJ (CH V8 (Bl (AG (pv 5)) AF (fun _ _=>rfl)) (CT F0 rfl A9 aY (AA (Bl (AG (pv 1)) AF (fun _ _=>rfl)) AE)) (A6 _))))))
   (AX (BB RM))
   CB))))))
 (AN (Ax (i:=6) sc.nd rfl (Or.inl rfl) (Aa C5 Dh hr rfl (AA (Aa Cr DZ hr rfl (AA (AG (pv 0)) (AA AF AE))) AE)))
 (AN (Ax (i:=7) sc.nd rfl (Or.inl rfl) (Aa C5 Dh hr rfl (AA (Aq Er (Aq US (Aa Cr DZ hr rfl (AA (AG (pv 0)) (AA AF AE))) AF) AF) AE)))
 (AX (BB (d8 (PL (by have:=hr.units;exact this)) (Aa DB Dp hr rfl (AA (Aa FX HA hr rfl (AA (AG (pv 6)) (AA (AG (pv 7)) AE))) AE)) (AW (AA AF (AA (AW AE) AE))) (A6 _)))))))))))
end
mutual
def RG{H:Hp}:∀ {d:PD} {v:V},d.canLay0=true→Du H d v→DU H d v
 |.none,_,_,h=>by rw [Du]at h;subst h;exact .Bb
 |.bool _,_,_,h=>by rw [Du]at h;subst h;exact .bool
 |.int _,_,_,h=>by rw [Du]at h;subst h;exact .int
 |.str _,_,_,h=>by rw [Du]at h;subst h;exact .str
 |.tuple _,_,c,h=>by
  rw [Du]at h;obtain⟨a,xs,rfl,h1,h2⟩:=h;exact .tup h1 (Pq (by simpa only [PyData.canLay0]using c) h2)
 |.list _,_,c,h=>by
  rw [Du]at h;obtain⟨a,xs,rfl,h1,h2⟩:=h;exact .lst h1 (Pq (by simpa only [PyData.canLay0]using c) h2)
 |.dict _,_,c,h=>by simp [PyData.canLay0]at c
def Pq{H:Hp}:∀ {ds:List PD} {xs:List V},PyData.canLayAll0 ds=true→Ao H ds xs→Bi H ds xs
 |[],_,_,h=>by rw [h.nil_eq];exact .nil
 |_::_,_,c,h=>by
  obtain⟨x,r,rfl,h1,h2⟩:=h.un;simp only [PyData.canLayAll0,Bool.and_eq_true]at c;exact .cons (RG c.1 h1) (Pq c.2 h2)
end
def ir{G H H':Hp}{l:AD}{vs:List V}{ds:List PD}(e0:AK G H)(e:AK H H')(hl:H' l=some (.tup vs))(d:Ao G ds vs):∃G',AK G G'∧Nw G H G'∧AK G' H'∧Du G' (.tuple ds) (.ref l):=by
 have e1:AK G (upd G l (.tup vs)):=fun a o h=>by
  by_cases ha:a=l
  ·subst ha;have:=e _ _ (e0 _ _ h);rw [hl]at this;rw [AL];exact this
  ·rw [AJ ha];exact h
 refine⟨upd G l (.tup vs),e1,fun a u h=>?_,fun a u h=>?_,?_⟩
 ·by_cases ha:a=l
  ·subst ha;rw [AL]at h;cases h;exact .inr (.inr ⟨_,rfl⟩)
  ·rw [AJ ha]at h;exact .inl h
 ·by_cases ha:a=l
  ·subst ha;rw [AL]at h;rw [hl];exact h
  ·rw [AJ ha]at h;exact e _ _ (e0 _ _ h)
 ·rw [Du];exact⟨l,vs,rfl,AL,d.same e1⟩
def N4{G:Hp}:∀ps:List Int,Ao G (ps.map .int) (ps.map V.int)
 |[]=>.nil
 |p::ps=>.cons (by rw [Du]) (N4 ps)
section
variable{P:Program}{w:World}{K:Fg}{mg:Str→Option VL}{base:Heap}{CX:HW}{k:Nat}{f:AD}{fd:FuncData}{ps:List Str}
def mB(q:PD→Bool):MD
 |[d]=>if d.canLay0=true then some (.bool (q d)) else none
 |_=>none
def jO{q:PD→Bool}{d:PD}(h:d.canLay0=true):mB q [d]=some (.bool (q d)):=if_pos h
def kG{q:PD→Bool}{d:PD}{b:Bool}(h:d.canLay0=true)(e:q d=b):mB q [d]=some (.bool b):=(jO h).trans (by rw [e])
def lO{sp:Sp}{q:PD→Bool}(F:AM P w K mg base CX k f fd ps sp)(h:∀(l:AD) d v H Q E,Dt l H d v→(∀H',AK H H'→Q (.bl (q d)) H')→sp [v] H Q E):AM P w K mg base CX k f fd ps (BE (mB q)) :=
 Mm F fun ds x hm G H vs Q E d e kk=>by
  unfold mB at hm;split at hm
  ·split at hm
   ·rename_i dd hc;cases hm;obtain⟨v,rfl,d1⟩:=d.Gs;obtain⟨N,b⟩:=RG hc (d1.same e);exact h N _ v H Q E (b N (aF _)) fun H' e'=>kk _ G H' (.refl _) Nw.refl (e.trans e') e' (by rw [Du])
   ·cases hm
  ·cases hm
end
def Sb:∀ps:List Int,PyData.canLayAll0 (ps.map .int)=true
 |[]=>by simp [PyData.canLayAll0]
 |p::ps=>by rw [List.map_cons];simp only [PyData.canLayAll0,PyData.canLay0];rw [Sb ps];rfl
def VT:PD→Rat
 |.tuple [.int a,.int b]=>Rat.divInt a b
 |_=>0
def YB(r:Rat):VT (Af r)=r:=FM.D9 r
def cU(r:Rat):(Af r).canLay0=true:=by unfold Af;simp only [PyData.canLay0];exact Sb [r.num,(r.den:Int)]
section
variable{P:Program}{w:World}{K:Fg}{mg:Str→Option VL}{base:Heap}{CX:HW}{k:Nat}{f:AD}{fd:FuncData}{ps:List Str}
def WH(ds:List PD):Option PD:=match ds with
 |[.int t,.int b]=>if b≠0∧b.natAbs<2^400 then some (Af (Rat.divInt t b)) else none
 |_=>none
def jq(F:AM P w K mg base CX k f fd ps TN):AM P w K mg base CX k f fd ps (BE WH) :=
 Mm F fun ds x hm G H vs Q E d e kk=>by
  unfold WH at hm;split at hm
  ·split at hm
   ·rename_i hh;cases hm;obtain⟨v1,v2,rfl,d1,d2⟩:=d.Uo;rw [Du]at d1 d2;subst d1 d2;refine⟨_,_,400,rfl,hh.1,by decide,hh.2,fun l H' e' hl'=>?_⟩;obtain⟨G',n1,n2,n3,n4⟩:=ir e e' hl' (N4 [(Rat.divInt _ _).num,((Rat.divInt _ _).den:Int)]);exact kk _ G' H' n1 n2 n3 e' n4
   ·cases hm
  ·cases hm
end
def ZD{n:Nat}{ds:List PD}(h:∀d∈ds,Ok n d):F3 n ds:=by
 induction ds with
 |nil=>exact⟨by simp [PyData.canLayAll0],by simp [PyData.depthAll]⟩
 |cons d ds ih =>
  obtain⟨a,b⟩:=h d (.head _);obtain⟨a',b'⟩:=ih fun e he=>h e (.tail _ he);exact⟨by simp only [PyData.canLayAll0];rw [a,a'];rfl,by simp only [PyData.depthAll];omega⟩
def jx{n:Nat}{ds:List PD}(h:∀d∈ds,Ok n d):Ok (n+1) (.tuple ds):=.tup (ZD h)
def Wx(r:Rat):Ok 1 (Af r):=jx (n:=0) fun d hd=>by
 rcases aN.mp hd with rfl|hd
 ·exact .int
 ·rw [List.mem_singleton.mp hd];exact .int
def S9{i j:Int}{n:Nat}(h1:i.natAbs<2^n)(h2:j.natAbs<2^n)(hn:n≤9000):FI (.int i) (.int j)=some (.int (i*j)):=Xx (by
 unfold Mg;rw [PR (n:=9000) (aK h1 (aW (by decide) hn)),PR (n:=9000) (aK h2 (aW (by decide) hn))];simp)
def div_is{i j:Int}(h:0<j)(h2:j.natAbs<2^64):R6 (.int i) (.int j)=some (.int (i / j)):=by
 refine(if_pos ⟨by omega,PR (aK h2 (aW (by decide) (by decide)))⟩).trans ?_;rw [Int.fdiv_eq_ediv_of_nonneg _ (by omega)]
def Wz{t b:Int}(h:b≠0)(h2:b.natAbs<2^400):WH [.int t,.int b]=some (Af (Rat.divInt t b)):=if_pos ⟨h,h2⟩
def Kg:∀ts:List Tr,L2.Bg (Tr.of ts)=ts.map fun t=>.tuple (L2.Bg t)
 |[]=>rfl
 |t::ts=>by rw [List.map_cons,←Kg ts];rfl
def dG(ns:List Int)(k:Nat):∃c,BZ [Cg ns,.int (k:Nat)]=some (.int c):=by
 suffices hh:∃c,Ju [.d (Cg ns),.d (.int (k:Nat)),.no,.no]=some (.rt (.int c)) by
  obtain⟨c,h⟩:=hh;exact⟨c,Ck rfl h⟩
 unfold Ju;have e1:∃c0,(Ez (CK (Gm fun i j=>decide (i<j)) (nm 1) (AO FR (AB (nm 0) AH))) (BO 2 (Ag Ce (nm 0) (nm 1))) CZ) [.d (Cg ns),.d (.int (k:Nat)),.d (.int 0),.no]=some (.nx [.d (Cg ns),.d (.int (k:Nat)),.d (.int c0),.no]):=by
  have t:CK (Gm fun i j=>decide (i<j)) (nm 1) (AO FR (AB (nm 0) AH)) [.d (Cg ns),.d (.int (k:Nat)),.d (.int 0),.no]=some (decide ((k:Int)<((ns.map PyData.int).length:Nat))):=C9 (x:=.int (k:Nat)) (y:=.int ((ns.map PyData.int).length:Nat)) rfl rfl rfl;rw [List.length_map]at t;by_cases z:k<ns.length
  ·rw [decide_eq_true (show(k:Int)<(ns.length:Nat) by omega)]at t;exact⟨ns[k],Gp t (B5 (BJ (x:=Cg ns) (y:=.int (k:Nat)) rfl rfl (Ib (by rw [List.getElem?_map,List.getElem?_eq_getElem z];rfl))))⟩
  ·rw [decide_eq_false (show ¬(k:Int)<(ns.length:Nat) by omega)]at t;exact⟨0,Cc t rfl⟩
 obtain⟨c0,e1⟩:=e1;have p18:Ag L6 (fC (.int 10)) (fC (.int 18)) [.d (Cg ns),.d (.int (k:Nat)),.d (.int c0),.no]=some (.int ((10:Int)^18)):=BJ (x:=.int 10) (y:=.int 18) rfl rfl (Xk (n:=18) (by decide) (by decide));have p60:Ag L6 (fC (.int 10)) (fC (.int 60)) [.d (Cg ns),.d (.int (k:Nat)),.d (.int c0),.no]=some (.int ((10:Int)^60)):=BJ (x:=.int 10) (y:=.int 60) rfl rfl (Xk (n:=60) (by decide) (by decide));have t2:CK (Gm fun i j=>decide (j≤i)) (nm 2) (Ag L6 (fC (.int 10)) (fC (.int 18))) [.d (Cg ns),.d (.int (k:Nat)),.d (.int c0),.no]=some (decide ((10:Int)^18≤c0)):=C9 (x:=.int c0) (y:=.int ((10:Int)^18)) rfl p18 rfl;by_cases z:(10:Int)^18≤c0
 ·rw [decide_eq_true z]at t2;exact⟨_,Ay rfl (Ay e1 (GG (Gp t2 (GF (BJ (x:=.int (c0-(10:Int)^18)) (BJ (x:=.int c0) rfl p18 rfl) p60 (mod_is (Int.pow_pos (by decide))))))))⟩
 ·rw [decide_eq_false z]at t2;have hn:∀(a:Int) (m:Int),0<m→m<2^60→(a % m).natAbs<2^64:=fun a m h0 h1=>by
   have:=Int.emod_nonneg a (by omega:m≠0);have:=Int.emod_lt_of_pos a h0;omega
  generalize hv:(c0*48271+(k:Int)*69621+11) % 2147483629=v;have v1:v.natAbs<2^64:=by rw [←hv];exact hn _ _ (by decide) (by decide)
  generalize hu:v*v % 2147483587=u;have u1:u.natAbs<2^64:=by rw [←hu];exact hn _ _ (by decide) (by decide)
  refine⟨_,Ay rfl (Ay e1 (Ay (Cc t2 rfl) (Ay (B5 (y:=.int v) ?_) (Ay (B5 (y:=.int u) ?_) (GF (BJ (x:=.int (u*2147483563)) (y:=.int (u*u % 2147483563)) (BJ (x:=.int u) (y:=.int 2147483563) rfl rfl (mul_r (by decide))) (BJ (x:=.int (u*u)) (y:=.int 2147483563) (BJ (x:=.int u) (y:=.int u) rfl rfl (mul_r u1)) rfl (mod_is (by decide))) rfl))))))⟩
  ·refine BJ (x:=.int (c0*48271+(k:Int)*69621+11)) (y:=.int 2147483629) (BJ (x:=.int (c0*48271+(k:Int)*69621)) (y:=.int 11) (BJ (x:=.int (c0*48271)) (y:=.int ((k:Int)*69621)) (BJ (x:=.int c0) (y:=.int 48271) rfl rfl (mul_r (by decide))) (BJ (x:=.int (k:Nat)) (y:=.int 69621) rfl rfl (mul_r (by decide))) rfl) rfl rfl) rfl ((mod_is (by decide)).trans ?_);rw [hv]
  ·refine BJ (x:=.int (v*v)) (y:=.int 2147483587) (BJ (x:=.int v) (y:=.int v) rfl rfl (mul_r v1)) rfl ((mod_is (by decide)).trans ?_);rw [hu]
abbrev Yz:MD:=DM WH
def gC{p q:Rat}(hp:FM.Fits p 190)(hq:FM.Fits q 190):Yz [Af p,Af q]=some (Af (p*q)):=by
 refine Ck rfl ?_;unfold O6;refine GF (Au (xs:=[.int (p.num*q.num),.int ((p.den:Int)*q.den)]) (Ar (BJ (x:=.int p.num) (y:=.int q.num) rfl rfl (S9 hp.1 hq.1 (by decide))) (Ar (BJ (x:=.int (p.den:Int)) (y:=.int (q.den:Int)) rfl rfl (S9 hp.d hq.d (by decide))) rfl)) ?_);refine(Wz (FM.UM p q) (aK (FM.dd hp hq) (aW (by decide) (by decide)))).trans ?_;rw [FM.ZV]
abbrev ec:MD:=DR WH
def fH{p q:Rat}(hp:FM.Fits p 190)(hq:FM.Fits q 190):ec [Af p,Af q]=some (Af (p+q)):=by
 refine Ck rfl ?_;unfold O3;refine GF (Au (xs:=[.int (p.num*q.den+q.num*p.den),.int ((p.den:Int)*q.den)]) (Ar (BJ (x:=.int (p.num*q.den)) (y:=.int (q.num*p.den)) (BJ (x:=.int p.num) (y:=.int (q.den:Int)) rfl rfl (S9 hp.1 hq.d (by decide))) (BJ (x:=.int q.num) (y:=.int (p.den:Int)) rfl rfl (S9 hq.1 hp.d (by decide))) rfl) (Ar (BJ (x:=.int (p.den:Int)) (y:=.int (q.den:Int)) rfl rfl (S9 hp.d hq.d (by decide))) rfl)) ?_);refine(Wz (FM.UM p q) (aK (FM.dd hp hq) (aW (by decide) (by decide)))).trans ?_;rw [FM.d9]
abbrev tD(t:Tr):PD:=.tuple (L2.Bg t)
def Zf(n:Nat):((60:Int)^n)≠0:=Int.pow_ne_zero (by decide)
def Fo(m:Int)(c:Nat)(q:Rat):Prop:=∃a:Int,q=Rat.divInt a m∧a.natAbs≤c
def Fo.add{m:Int}{c d:Nat}{p q:Rat}(hm:m≠0)(h:Fo m c p)(k:Fo m d q):Fo m (c+d) (p+q):=by
 obtain⟨a,rfl,h1⟩:=h;obtain⟨b,rfl,h2⟩:=k;exact⟨a+b,by rw [Rat.divInt_add_divInt _ _ hm hm,←Int.add_mul,Rat.divInt_mul_right hm],by omega⟩
def Fo.mul{m n:Int}{c d:Nat}{p q:Rat}(h:Fo m c p)(k:Fo n d q):Fo (m*n) (c*d) (p*q):=by
 obtain⟨a,rfl,h1⟩:=h;obtain⟨b,rfl,h2⟩:=k;exact⟨a*b,by rw [Rat.divInt_mul_divInt],by rw [Int.natAbs_mul];exact bX h1 h2⟩
def Fo.zero{m:Int}{c:Nat}:Fo m c 0:=⟨0,by rw [Rat.zero_divInt],by simp⟩
def Fo.fits{m:Int}{c n:Nat}{q:Rat}(hm:m≠0)(h:Fo m c q)(h1:c<2^n)(h2:m.natAbs<2^n):FM.Fits q n:=by
 obtain⟨a,rfl,h3⟩:=h;exact .W0 hm (ae h3 h1) h2
def QL(r:Rat):Prop:=FM.Fits r 3∧r.den≤6
def Tb.Sm(t:Tb):Prop:=(∀r∈t.rs,∀q∈r,QL q)∧∀q∈t.ls,QL q
def NO(n:Int):Rat:=Rat.divInt (n % 13-6) (1+n / 13 % 6)
def TU(n:Int):QL (NO n):=by
 refine⟨.W0 (by omega) (by omega) (by omega),?_⟩;have:=FM.Xy (t:=n % 13-6) (b:=1+n / 13 % 6) (by omega);unfold NO;omega
def Ca(ns:List Int)(k:Nat):Int:=match BZ [Cg ns,.int (k:Nat)]with|some (.int c)=>c|_=>0
def RY(ns:List Int)(k:Nat):BZ [Cg ns,.int (k:Nat)]=some (.int (Ca ns k)):=by
 obtain⟨c,h⟩:=dG ns k;unfold Ca;rw [h]
def gA:Sp:=fun vs H Q _=>∃(a:AD) (ns:List Int) (k:Nat),vs=[.ref a,.int (k:Int)]∧Rd H a (.lst (ns.map V.int))∧∀H',AK H H'→Q (.int (Ca ns k)) H'
def eB:Sp:=fun vs H Q _=>∃n:Int,vs=[.int n]∧∀(l:AD) H',AK H H'→H' l=some (.tup (Lq (NO n)))→Q (.ref l) H'
def Ry(H H':Hp)(v:V):Prop:=∃(p R L:AD) (xs:List V),v=.ref p∧H' p=some (.tup [.ref R,.ref L])∧H' R=some (.lst xs)∧H R=none∧H L=none∧∀b,V.ref b∈xs→H b=none
def q0:Rat:=⟨0,1,by decide,by decide⟩
def q1:Rat:=⟨1,1,by decide,by decide⟩
def W5:Rat:=⟨1,2,by decide,by decide⟩
def eY:Rat:=⟨1,3,by decide,by decide⟩
def lA:Rat:=⟨2,3,by decide,by decide⟩
def lM:Rat:=⟨1,4,by decide,by decide⟩
def lG:Rat:=⟨3,4,by decide,by decide⟩
def jW:Rat:=⟨1,6,by decide,by decide⟩
def Z2:Tb:=⟨[[]],[q1]⟩
def gL:Tb:=⟨[[],[W5]],[q0,q1]⟩
def gw:Tb:=⟨[[],[q1]],[W5,W5]⟩
def fq:Tb:=⟨[[],[eY],[q0,lA]],[lM,q0,lG]⟩
def gn:Tb:=⟨[[],[W5],[q0,W5],[q0,q0,q1]],[jW,eY,eY,jW]⟩
instance (r:Rat):Decidable (QL r):=inferInstanceAs (Decidable ((r.num.natAbs<2^3∧r.den<2^3)∧r.den≤6))
def YS(t:Tb):Bool:=decide (1≤t.rs.length)&&decide (t.rs.length≤4)&&decide (t.ls.length=t.rs.length)&&(List.range 4).all (fun i=>match t.rs[i]? with|some r=>decide (r.length=i)|none=>true)&&t.rs.all (fun r=>r.all fun q=>decide (QL q))&&t.ls.all fun q=>decide (QL q)
def Py{t:Tb}(h:YS t=true):t.Ok 4∧t.Sm:=by
 unfold YS at h;simp only [Bool.and_eq_true,decide_eq_true_eq,List.all_eq_true,List.mem_range]at h;obtain⟨⟨⟨⟨⟨h1,h2⟩,h3⟩,h4⟩,h5⟩,h6⟩:=h;refine⟨⟨h1,h2,h3,fun i r hr=>?_⟩,h5,h6⟩;have:=h4 i (by have:=(aD.mp hr).1;omega);rw [hr]at this
 simpa using this
def Cf(n:Int):Tb:=if n % 5=0 then Z2 else if n % 5=1 then gL else if n % 5=2 then gw else if n % 5=3 then fq else gn
def gb:Sp:=fun vs H Q _=>∃(n:Int),vs=[.int n]∧∀v H',AK H H'→DU H' (Ai (Cf n)) v→Ry H H' v→Q v H'
def Hk(n:Int):Nat→Int
 |0=>n
 |j+1=>Hk n j / 78
def Pz(n:Int):Nat→Int
 |0=>n
 |i+1=>Hk (Pz n i) i
def WX(n:Int)(i:Nat):List Rat:=(List.range i).map fun j=>NO (Hk (Pz n i) j)
def NR(x0 x1:Int)(most:Nat):Tb :=
 if x0 % 4=0 then
  (if(Cf (x0 / 4)).rs.length > most then Z2
   else if x0 / 20 % 3=0 then⟨(Cf (x0 / 4)).rs,(Cf (x0 / 4)).ls.set ((x0 / 60).fmod ((Cf (x0 / 4)).ls.length:Nat)).toNat (NO x1)⟩ else Cf (x0 / 4))
 else⟨(List.range (1+(x0 / 4).fmod (most:Nat)).toNat).map (WX (x0 / 16)),(List.range (1+(x0 / 4).fmod (most:Nat)).toNat).map fun i=>NO (Hk x1 i)⟩
def eN:Sp:=fun vs H Q _=>∃(a:AD) (ns:List Int) (k most:Nat),vs=[.ref a,.int (k:Int),.int (most:Int)]∧Rd H a (.lst (ns.map V.int))∧1≤most∧most≤4∧∀v H',AK H H'→DU H' (Ai (NR (Ca ns k) (Ca ns (k+1)) most)) v→Ry H H' v→Q v H'
def Uv{H H':Hp}{a:AD}{u:HO}(h:Rd H a u)(e:AK H H'):Rd H' a u:=h.elim (fun z=>.inl (e _ _ z)) fun⟨o,z⟩=>.inr ⟨o,e _ _ z⟩
section
variable{P:Program}{w:World}{K:Fg}{mg:Str→Option VL}{base:Heap}{f g g1 g2 g3:AD}{fd gd gd1 gd2 gd3:FuncData}
def Q8:Ac ["_law_number"] ["_law_number"] (AQ JJ):=B3
def Q9(F:Fn K mg "_law_entry" JJ ["_law_number"] f fd)(CM:Fn K mg "_law_frac" Fz ["_law_top", "_law_bottom"] g1 gd1)(DY:AM P w K mg base Ab 1 g1 gd1 ["_law_top", "_law_bottom"] TN):AM P w K mg base Ab 2 f fd ["_law_number"] eB:=by
 have sc:=Q8;refine F.F.ok (k:=1) sc (fun vs H Q E h=>?_) (fun cdv A outer s H vs Q E hr h=>?_)
 ·obtain⟨n,rfl,_⟩:=h
  rfl
 obtain⟨n,rfl,q⟩:=h;refine⟨_,(Ah (BU (B4 CM DY hr rfl (AI (BP S5 (BP MJ (pv 0) Ad) Ad) (AI (BP MI Ad (BP MJ (BP FZ (pv 0) Ad) Ad)) AR))))),?_⟩;refine⟨_,rfl,_,_,rfl,rfl,(by show(0:Int)<13;decide),_,_,rfl,rfl,_,rfl,_,_,rfl,rfl,⟨by decide,by decide⟩,_,_,rfl,rfl,(by show(0:Int)<6;decide),_,_,rfl,rfl,?_⟩;exact⟨n % 13-6,1+n / 13 % 6,3,rfl,by omega,by decide,by omega,fun l H5 e5 hl=>q l H5 e5 hl⟩
end
def OB(n:Int):Bn [.int n]=some (Ai (Cf n)):=by
 have c:∀(k:Int) (b:Bool),decide (n % 5=k)=b→CK (Ej false) (Ag GJ (nm 0) (fC (.int 5))) (fC (.int k)) [.d (.int n)]=some b:=fun k b h=>C9 (BJ rfl rfl (mod_is (by decide))) rfl (by
  show some (PyData.bool _)=_;rw [←h]
  rfl)
 have r:=Int.emod_nonneg n (show(5:Int)≠0 by decide);by_cases h0:n % 5=0
 ·rw [show Cf n=Z2 by unfold Cf;simp [h0]];exact Ck rfl (GG (Gp (c 0 true (by simp [h0])) rfl))
 by_cases h1:n % 5=1
 ·rw [show Cf n=gL by unfold Cf;simp [h0,h1]];exact Ck rfl (Ay (Cc (c 0 false (by simp [h0])) rfl) (GG (Gp (c 1 true (by simp [h1])) rfl)))
 by_cases h2:n % 5=2
 ·rw [show Cf n=gw by unfold Cf;simp [h0,h1,h2]];exact Ck rfl (Ay (Cc (c 0 false (by simp [h0])) rfl) (Ay (Cc (c 1 false (by simp [h1])) rfl) (GG (Gp (c 2 true (by simp [h2])) rfl))))
 by_cases h3:n % 5=3
 ·rw [show Cf n=fq by unfold Cf;simp [h0,h1,h2,h3]];exact Ck rfl (Ay (Cc (c 0 false (by simp [h0])) rfl) (Ay (Cc (c 1 false (by simp [h1])) rfl) (Ay (Cc (c 2 false (by simp [h2])) rfl) (GG (Gp (c 3 true (by simp [h3])) rfl)))))
 ·rw [show Cf n=gn by unfold Cf;simp [h0,h1,h2,h3]];exact Ck rfl (Ay (Cc (c 0 false (by simp [h0])) rfl) (Ay (Cc (c 1 false (by simp [h1])) rfl) (Ay (Cc (c 2 false (by simp [h2])) rfl) (Ay (Cc (c 3 false (by simp [h3])) rfl) rfl))))
def Wh(n:Int):YS (Cf n)=true:=by
 unfold Cf;split
 ·decide +kernel
 ·split
  ·decide +kernel
  ·split
   ·decide +kernel
   ·split
    ·decide +kernel
    ·decide +kernel
def Mj(t:Tb):(Ai t).canLay0=true:=by
 have f:∀r:List Rat,PyData.canLayAll0 (BA r)=true:=fun r=>by
  induction r with
  |nil=>rfl
  |cons q r ih=>show PyData.canLayAll0 (Af q::BA r)=true;simp [PyData.canLayAll0,ih,Af,PyData.canLay0]
 have g:∀rs:List (List Rat),PyData.canLayAll0 (Ba rs)=true:=fun rs=>by
  induction rs with
  |nil=>rfl
  |cons r rs ih=>show PyData.canLayAll0 (Bg r::Ba rs)=true;simp [PyData.canLayAll0,ih,Bg,PyData.canLay0,f]
 simp [Ai,PyData.canLay0,PyData.canLayAll0,f,g]
def Rb{G H:Hp}(n:∀a xs,G a=some (.lst xs)→H a=none):∀ {rs:List (List Rat)} {xs:List V},Ao G (Ba rs) xs→∀b,V.ref b∈xs→H b=none
 |[],xs,h,b,hb=>by
  have:=h.len;have e:xs=[]:=ax (by simpa [Ba]using this);rw [e]at hb;cases hb
 |r::rs,xs,h,b,hb=>by
  obtain⟨x,t,rfl,h1,h2⟩:=Ao.un (d:=Bg r) (ds:=Ba rs) h;rw [Bg,Du]at h1;obtain⟨a,ys,rfl,h3,_⟩:=h1;rcases aN.mp hb with e|hb
  ·cases e;exact n _ _ h3
  ·exact Rb n h2 b hb
def YI{P:Program}{w:World}{K:Fg}{mg:Str→Option VL}{base:Heap}{f:AD}{fd:FuncData}{k:Nat}{ps:List Str}(F:AM P w K mg base Ab k f fd ps (BE Bn)):AM P w K mg base Ab k f fd ps gb :=
 F.imp fun vs H Q E z=>by
  obtain⟨n,rfl,q⟩:=z;refine⟨[.int n],Ai (Cf n),fun _=>none,OB n,.cons (by rw [Du]) .nil,fun a o h=>(by cases h),fun v G' H' _ nw e1 e2 dv=>?_⟩;refine q v H' e2 (RG (Mj _) (dv.same e1)) ?_;have nw':∀a xs,G' a=some (.lst xs)→H a=none:=fun a xs h=>by
   rcases nw _ _ h with h|h|⟨ys,h⟩
   ·cases h
   ·exact h
   ·cases h
  rw [Ai,Du]at dv;obtain⟨a,xs,rfl,g1,g2⟩:=dv;obtain⟨x,r,rfl,g4,g3⟩:=g2.un;obtain⟨y,r,rfl,g5,g6⟩:=g3.un;rw [g6.nil_eq]at g1;rw [Du]at g4 g5;obtain⟨R,xs,rfl,hR,dR⟩:=g4;obtain⟨L,ys,rfl,hL,_⟩:=g5;exact⟨a,R,L,xs,rfl,e1 _ _ g1,e1 _ _ hR,nw' _ _ hR,nw' _ _ hL,Rb nw' dR⟩
def cQ{P:Program}{w:World}{K:Fg}{mg:Str→Option VL}{base:Heap}{f:AD}{fd:FuncData}{k:Nat}{ps:List Str}(F:AM P w K mg base Ab k f fd ps (BE BZ)):AM P w K mg base Ab k f fd ps gA :=
 F.imp fun vs H Q E z=>by
  obtain⟨a,ns,k,rfl,ha,q⟩:=z;refine⟨[Cg ns,.int (k:Nat)],.int (Ca ns k),H,RY ns k,.cons (Wc ha) (.cons (by rw [Du]) .nil),.refl _,fun v G' H' _ _ _ e dv=>?_⟩;rw [Du]at dv;subst dv;exact q H' e
def HC(G H H':Hp):Hp:=fun b=>match H' b with
 |some (.tup xs)=>some (.tup xs)
 |some o=>if H b=none then some o else G b
 |none=>none
def Xo{G H H':Hp}{a:AD}{xs:List V}(h:H' a=some (.tup xs)):HC G H H' a=some (.tup xs):=by unfold HC;rw [h]
def Oj{G H H':Hp}{a:AD}{xs:List V}(h:H' a=some (.lst xs))(h0:H a=none):HC G H H' a=some (.lst xs):=by unfold HC;rw [h];exact if_pos h0
def Uk{G H H':Hp}(e0:AK G H)(e:AK H H'):AK G (HC G H H')∧Nw G H (HC G H H')∧AK (HC G H H') H':=by
 refine⟨fun a o h=>?_,fun a o h=>?_,fun a o h=>?_⟩
 ·have h1:=e0 _ _ h;have h2:=e _ _ h1;unfold HC;rw [h2];cases o with
  |tup xs=>rfl
  |_=>simp only [h1];exact h
 ·unfold HC at h;split at h
  ·cases h;exact .inr (.inr ⟨_,rfl⟩)
  ·split at h
   ·rename_i z;exact .inr (.inl z)
   ·exact .inl h
  ·cases h
 ·unfold HC at h;cases z:H' a with
  |none=>rw [z]at h;cases h
  |some u =>
   rw [z]at h;cases u with
   |tup xs=>exact h
   |_ =>
    simp only at h;split at h
    ·exact h
    ·rw [←z];exact e _ _ (e0 _ _ h)
def IL{G H H':Hp}:∀ {qs:List Rat} {xs:List V},Bi H' (BA qs) xs→Ao (HC G H H') (BA qs) xs
 |[],xs,h=>by
  have:=h.len;have e:xs=[]:=ax (by simpa [BA]using this);rw [e];exact .nil
 |q::qs,xs,h=>by
  obtain⟨x,r,rfl,h1,h2⟩:=Bi.Wq (d:=Af q) (ds:=BA qs) h;obtain⟨p,rfl,hp⟩:=h1.rat;refine .cons ?_ (IL h2);unfold Af;rw [Du];exact⟨p,_,rfl,Xo hp,N4 [q.num,(q.den:Int)]⟩
def Qg{G H H':Hp}:∀ {rs:List (List Rat)} {xs:List V},Bi H' (Ba rs) xs→(∀b,V.ref b∈xs→H b=none)→Ao (HC G H H') (Ba rs) xs
 |[],xs,h,_=>by
  have:=h.len;have e:xs=[]:=ax (by simpa [Ba]using this);rw [e];exact .nil
 |q::qs,xs,h,k=>by
  obtain⟨x,r,rfl,h1,h2⟩:=Bi.Wq (d:=Bg q) (ds:=Ba qs) h;obtain⟨a,zs,rfl,ha,hz⟩:=DU.Xl (ds:=BA q) h1;refine .cons ?_ (Qg h2 fun b hb=>k b (.tail _ hb));unfold Bg;rw [Du];exact⟨a,zs,rfl,Oj ha (k a (.head _)),IL hz⟩
def YH{G H H':Hp}{t:Tb}{v:V}(h:DU H' (Ai t) v)(n:Ry H H' v):Du (HC G H H') (Ai t) v:=by
 obtain⟨p,R,L,xs,rfl,h1,h2,h3,h4,h5⟩:=n;obtain⟨p',R',L',xs',ys,e,k1,k2,k3,k4,k5⟩:=h.tab;cases e;rw [h1]at k1;cases k1;rw [h2]at k2;cases k2;unfold Ai;rw [Du];refine⟨p,_,rfl,Xo h1,.cons ?_ (.cons ?_ .nil)⟩
 ·rw [Du];exact⟨R,xs,rfl,Oj h2 h3,Qg k3 h5⟩
 ·rw [Du];exact⟨L,ys,rfl,Oj k4 h4,IL k5⟩
def intsOf(xs:List PD):List Int:=xs.map fun d=>match d with|.int i=>i|_=>0
def MF(ns:List Int):intsOf (ns.map .int)=ns:=by
 unfold intsOf;rw [List.map_map];exact List.map_id'' (fun _=>rfl) ns
open Classical in
noncomputable def N3(ds:List PD):Option PD:=match ds with
 |[.dict [(.none,.list xs)],.int k,.int most]=>if xs=(intsOf xs).map .int∧0≤k∧1≤most∧most≤4 then some (Ai (NR (Ca (intsOf xs) k.toNat) (Ca (intsOf xs) (k.toNat+1)) most.toNat)) else none
 |_=>none
def U0(ns:List Int)(k most:Nat)(h1:1≤most)(h4:most≤4):N3 [Cg ns,.int (k:Nat),.int (most:Nat)]=some (Ai (NR (Ca ns k) (Ca ns (k+1)) most)):=by
 unfold N3 Cg;refine(if_pos ⟨by rw [MF],by omega,by omega,by omega⟩).trans ?_;rw [MF,Int.toNat_natCast,Int.toNat_natCast]
def YN{P:Program}{w:World}{K:Fg}{mg:Str→Option VL}{base:Heap}{f:AD}{fd:FuncData}{k:Nat}{ps:List Str}(F:AM P w K mg base Ab k f fd ps eN):AM P w K mg base Ab k f fd ps (BE N3) :=
 Mm F fun ds x hm G H vs Q E d e kk=>by
  unfold N3 at hm;split at hm
  ·rename_i xs k most;split at hm
   ·rename_i hc;obtain⟨c1,c2,c3,c4⟩:=hc;cases hm;obtain⟨v1,r1,rfl,d1,d⟩:=d.un;obtain⟨v2,r2,rfl,d2,d⟩:=d.un;obtain⟨v3,r3,rfl,d3,d⟩:=d.un;rw [d.nil_eq];rw [Du]at d2 d3;subst d2;subst d3;rw [Du]at d1;have ha:∃a:AD,v1=.ref a∧Rd G a (.lst ((intsOf xs).map V.int)):=by
     rcases d1 with h|h|h
     ·obtain⟨ea,C,e1,_⟩:=h;cases e1
     ·obtain⟨a,ns,e1,e2,h⟩:=h;cases e1;exact⟨a,e2,by rw [MF];exact h⟩
     ·exact absurd h (by simp [Kl])
    obtain⟨a,rfl,ha⟩:=ha;refine⟨a,intsOf xs,k.toNat,most.toNat,by rw [show((k.toNat:Nat):Int)=k by omega,show((most.toNat:Nat):Int)=most by omega],Uv ha e,by omega,by omega,fun v H' e' dt nt=>?_⟩;obtain⟨n1,n2,n3⟩:=Uk e e';exact kk v _ H' n1 n2 n3 e' (YH dt nt)
   ·cases hm
  ·cases hm
def Ui{c:AD}{ws:List V}{H:Hp}(hc:H c=some (.lst ws)):∀ {rs:List (List Rat)} {zs:List V},Bi H (Ba rs) zs→(∀y∈zs,y≠.ref c)→Az c H (Ba rs) zs
 |[],zs,h,_=>by
  have:=h.len;rw [show Ba []=[] from rfl,List.length_nil]at this;rw [List.eq_nil_of_length_eq_zero this];exact .nil
 |r::rs,zs,h,n=>by
  obtain⟨x,t,rfl,h1,h2⟩:=Bi.Wq h;obtain⟨a,xs,rfl,ha,dx⟩:=DU.Xl h1;exact .cons (gF hc (fun z=>n (.ref a) aR (by rw [z])) ha dx) (Ui hc h2 fun y hy=>n y (aP _ hy))
def ZN{c:AD}{ws:List V}{H H':Hp}(hc:H c=some (.lst ws))(e:SameBut c H H'){rs:List (List Rat)}{zs:List V}(h:Bi H (Ba rs) zs)(n:∀y∈zs,y≠.ref c):Bi H' (Ba rs) zs:=Ig (.but e (Ui hc h n))
def La(H0 H:Hp)(R L:AD)(xs:List V)(rs:List (List Rat)):Prop:=xs.length=rs.length∧∀(i:Nat) (r:List Rat),rs[i]? = some r→∃(a:AD) (zs:List V),xs[i]? = some (.ref a)∧H a=some (.lst zs)∧Gx H zs r∧a≠R∧a≠L∧H0 a=none
def La.same{H0 H H':Hp}{R L:AD}{xs:List V}{rs:List (List Rat)}(h:La H0 H R L xs rs)(e:AK H H'):La H0 H' R L xs rs:=⟨h.1,fun i r hi=>let⟨a,zs,h3,h4,h5,h6⟩:=h.2 i r hi;⟨a,zs,h3,e _ _ h4,h5.BG (.of e),h6⟩⟩
def La.upd{H0 H:Hp}{R L c:AD}{xs us vs:List V}{rs:List (List Rat)}(h:La H0 H R L xs rs)(hc:H c=some (.lst us))(o:c=R∨c=L):La H0 (upd H c (.lst vs)) R L xs rs:=⟨h.1,fun i r hi=>by
 obtain⟨a,zs,h3,h4,h5,h6,h7,h8⟩:=h.2 i r hi;refine⟨a,zs,h3,?_,h5.BG (.upd hc),h6,h7,h8⟩;rw [AJ (by rcases o with o|o<;>rw [o]<;>assumption)];exact h4⟩
def La.snoc{H0 H:Hp}{R L a:AD}{xs zs:List V}{rs:List (List Rat)}{r:List Rat}(h:La H0 H R L xs rs)(ha:H a=some (.lst zs))(f:Gx H zs r)(nR:a≠R)(nL:a≠L)(n0:H0 a=none):La H0 H R L (xs++[.ref a]) (rs++[r]):=by
 refine⟨by rw [List.length_append,List.length_append,h.1];rfl,fun i r' hi=>?_⟩;by_cases z:i<rs.length
 ·rw [List.getElem?_append_left z]at hi;rw [List.getElem?_append_left (by rw [h.1];exact z)];exact h.2 i r' hi
 ·have hz:i-rs.length=0:=by
   have:=(aD.mp hi).1;simp at this;omega
  rw [List.getElem?_append_right (by omega),hz]at hi;rw [List.getElem?_append_right (by rw [h.1];omega),h.1,hz];cases hi;exact⟨a,zs,rfl,ha,f,nR,nL,n0⟩
def Sn{H:Hp}:∀ {rs:List (List Rat)} {xs:List V},xs.length=rs.length→(∀(i:Nat) (r:List Rat),rs[i]? = some r→∃(a:AD) (zs:List V),xs[i]? = some (.ref a)∧H a=some (.lst zs)∧Gx H zs r)→Bi H (Ba rs) xs
 |[],[],_,_=>.nil
 |[],_::_,h,_=>by cases h
 |_::_,[],h,_=>by cases h
 |r::rs,x::xs,h,g=>by
  obtain⟨a,zs,h1,h2,h3⟩:=g 0 r rfl;cases h1;exact .cons (.lst h2 h3.UX) (Sn (by simpa using h) fun i r hi=>g (i+1) r hi)
def La.UX{H0 H:Hp}{R L:AD}{xs:List V}{rs:List (List Rat)}(h:La H0 H R L xs rs):Bi H (Ba rs) xs:=Sn h.1 fun i r hi=>let⟨a,zs,h3,h4,h5,_⟩:=h.2 i r hi;⟨a,zs,h3,h4,h5⟩
def Gx.same{H H':Hp}{zs:List V}{qs:List Rat}(h:Gx H zs qs)(e:AK H H'):Gx H' zs qs:=h.BG (.of e)
section
variable{P:Program}{w:World}{K:Fg}{mg:Str→Option VL}{base:Heap}{f g g1 g2 g3:AD}{fd gd gd1 gd2 gd3:FuncData}
def RB:Ac ["_law_script", "_law_at", "_law_most", "_law_number", "_law_other", "_law_rows", "_law_last", "_law_many", "_law_k", "_law_row", "_law_j"] ["_law_script", "_law_at", "_law_most"] (AQ JI):=B3
def Q6(F:Fn K mg "_law_table" JI ["_law_script", "_law_at", "_law_most"] f fd)(Cr:Fn K mg "_law_cell" HP ["_law_script", "_law_k"] g1 gd1)(EO:Fn K mg "_law_entry" JJ ["_law_number"] g2 gd2)(C5:Fn K mg "_law_named" Ge ["_law_number"] g3 gd3)
 (DZ:AM P w K mg base Ab 3 g1 gd1 ["_law_script", "_law_k"] gA)(JD:AM P w K mg base Ab 3 g2 gd2 ["_law_number"] eB)(Dh:AM P w K mg base Ab 3 g3 gd3 ["_law_number"] gb)(BM:mg "range" = none)(A9:mg "len" = none):AM P w K mg base Ab 4 f fd ["_law_script", "_law_at", "_law_most"] eN:=by
 have sc:=RB;refine F.F.ok (k:=3) sc (fun vs H Q E h=>?_) (fun cdv A outer s H vs Q E hr h=>?_)
 ·obtain⟨a,ns,k,most,rfl,_⟩:=h
  rfl
 obtain⟨a,ns,k,most,rfl,ha,m1,m4,q⟩:=h;refine⟨_,(AY (BK (i:=3) sc.nd rfl (Or.inl rfl) (B4 Cr DZ hr rfl (AI (pv 0) (AI (pv 1) AR))))
 (AY (BK (i:=4) sc.nd rfl (Or.inl rfl) (B4 Cr DZ hr rfl (AI (pv 0) (AI (BP MI (pv 1) Ad) AR))))
 (AY (Dw (CC Mh (BP MJ (pv 3) Ad) Ad (A6 _))
  (AY (Tf (B4 C5 Dh hr rfl (AI (BP FZ (pv 3) Ad) AR)) (L7 rfl (Df (A4 (i:=5) sc.nd rfl (Or.inl rfl)) (Df (A4 (i:=6) sc.nd rfl (Or.inl rfl)) Ki))))
  (AY (Dw (CC Mr (BL Bx rfl A9 aY (AI (pv 5) AR)) (pv 2) (A6 _))
   (Ah (BU (Ip (AI (FF (AI (FF AR) AR)) (AI (FF (AI (Ip (AI Ad (AI Ad AR))) AR)) AR)))))
   CI)
  (AY (Dw (CC Mh (BP MJ (BP FZ (pv 3) Ad) Ad) Ad (A6 _))
   (Ah (Tf (B4 EO JD hr rfl (AI (pv 4) AR)) (XO (pv 6) (BP KA (BP FZ (pv 3) Ad) (BL Bx rfl A9 aY (AI (pv 6) AR))) set_list)))
   CI)
  (Ah (BU (Ip (AI (pv 5) (AI (pv 6) AR))))))))
  CI)
 (AY (BK (i:=5) sc.nd rfl (Or.inl rfl) (FF AR))
 (AY (BK (i:=6) sc.nd rfl (Or.inl rfl) (FF AR))
 (AY (BK (i:=7) sc.nd rfl (Or.inl rfl) (BP MI Ad (BP KA (BP FZ (pv 3) Ad) (pv 2))))
 (AY (BK (i:=3) sc.nd rfl (Or.inl rfl) (BP FZ (pv 3) Ad))
 (AY (Gb aM rfl (MO rfl BM (AI (pv 7) AR)) (A4 (i:=8) sc.nd rfl (Or.inl rfl))
  (AY (BK (i:=9) sc.nd rfl (Or.inl rfl) (FF AR))
  (AY (Gb aM rfl (MO rfl BM (AI (pv 8) AR)) (A4 (i:=10) sc.nd rfl (Or.inl rfl))
   (AY (FW (Jn aw bI bJ FN (pv 9) (AI (B4 EO JD hr rfl (AI (pv 3) AR)) AR)))
   (Ah (BK (i:=3) sc.nd rfl (Or.inl rfl) (BP FZ (pv 3) Ad)))))
  (AY (FW (Jn aw bI bJ FN (pv 5) (AI (pv 9) AR)))
  (AY (FW (Jn aw bI bJ FN (pv 6) (AI (B4 EO JD hr rfl (AI (pv 4) AR)) AR)))
  (Ah (BK (i:=4) sc.nd rfl (Or.inl rfl) (BP FZ (pv 4) Ad))))))))
 (Ah (BU (Ip (AI (pv 5) (AI (pv 6) AR))))))))))))),?_⟩
 refine⟨_,rfl,_,rfl,a,ns,k,rfl,ha,fun H1 e1=>?_⟩;refine⟨_,rfl,_,rfl,_,_,rfl,rfl,a,ns,k+1,rfl,Uv ha e1,fun H2 e2=>?_⟩;generalize Ca ns k=x0 at q ⊢;generalize Ca ns (k+1)=x1 at q ⊢;have E2:=e1.trans e2;refine⟨_,rfl,_,_,rfl,rfl,(by show(0:Int)<4;decide),rfl,_,rfl,DP (fun c=>?_) (fun c=>?_)⟩
 ·have c':x0 % 4=0:=by simpa using c
  refine⟨_,rfl,_,_,rfl,rfl,⟨by decide,by decide⟩,x0 / 4,rfl,fun v H3 e3 dt nt=>?_⟩;unfold NR at q;rw [if_pos c']at q;obtain⟨ot,st⟩:=Py (Wh (x0 / 4));generalize Cf (x0 / 4)=t at dt q ot st;obtain⟨p,R,L,xs,ys,rfl,hp,hR,dR,hL,dL⟩:=dt.tab;obtain⟨p',R',L',xs',e',n1,n2,n3,n4,n5⟩:=nt;cases e';rw [hp]at n1;cases n1;rw [hR]at n2;cases n2;have hLn:H2 L=none:=n4;have hyl:ys.length=t.ls.length:=by rw [dL.len,EY]
  have hxl:xs.length=t.rs.length:=by rw [dR.len,Ed]
  have o1:=ot.one;have o2:=ot.last;have E3:=E2.trans e3;refine⟨p,_,rfl,A7.of hp,rfl,_,_,rfl,_,_,rfl,rfl,?_⟩;refine⟨_,rfl,_,_,rfl,.inl (Al.of hR),_,rfl,_,_,rfl,rfl,_,rfl,DP (fun c2=>?_) (fun c2=>?_)⟩
  ·have c2':t.rs.length > most:=by have:=aj c2;omega
   rw [if_pos c2']at q;refine⟨(by show 0≤sizeLine;decide),fun p1 hp1=>?_⟩;have f1:=AZ hp1 (.lst []);have g1:upd H3 p1 (.lst []) p1=some (.lst []):=AL;generalize upd H3 p1 (.lst [])=I1 at f1 g1;refine⟨(by show 1≤sizeLine;decide),fun p2 hp2=>?_⟩;have f2:=AZ hp2 (.lst [V.ref p1]);have g2:upd I1 p2 (.lst [V.ref p1]) p2=some (.lst [V.ref p1]):=AL;generalize upd I1 p2 (.lst [V.ref p1])=I2 at f2 g2;refine⟨(by show 2≤sizeLine;decide),fun p3 hp3=>?_⟩;have f3:=AZ hp3 (.tup [V.int 1,V.int 1]);have g3:upd I2 p3 (.tup [V.int 1,V.int 1]) p3=some (.tup (Lq q1)):=AL;generalize upd I2 p3 (.tup [V.int 1,V.int 1])=I3 at f3 g3;refine⟨(by show 1≤sizeLine;decide),fun p4 hp4=>?_⟩;have f4:=AZ hp4 (.lst [V.ref p3]);have g4:upd I3 p4 (.lst [V.ref p3]) p4=some (.lst [V.ref p3]):=AL;generalize upd I3 p4 (.lst [V.ref p3])=I4 at f4 g4;refine⟨(by show 2≤sizeLine;decide),fun p5 hp5=>?_⟩;have f5:=AZ hp5 (.tup [V.ref p2,V.ref p4]);have g5:upd I4 p5 (.tup [V.ref p2,V.ref p4]) p5=some (.tup [V.ref p2,V.ref p4]):=AL;generalize upd I4 p5 (.tup [V.ref p2,V.ref p4])=I5 at f5 g5;have F35:=(f3.trans f4).trans f5;exact q _ I5 (((E3.trans f1).trans f2).trans F35) (PF g5 (F35 _ _ g2) (.cons (.lst ((f2.trans F35) _ _ g1) .nil) .nil) (f5 _ _ g4) (.cons (R8 ((f4.trans f5) _ _ g3)) .nil)) ⟨p5,p2,p4,[V.ref p1],rfl,g5,F35 _ _ g2,Dk (E3.trans f1) hp2,Dk ((E3.trans f1).trans (f2.trans f3)) hp4,fun b hb=>by rw [List.mem_singleton]at hb;cases hb;exact Dk E3 hp1⟩
  have c2':¬t.rs.length > most:=fun z=>c2 (decide_eq_true (by omega));rw [if_neg c2']at q;refine⟨_,rfl,_,_,rfl,rfl,⟨by decide,by decide⟩,_,_,rfl,rfl,(by show(0:Int)<3;decide),rfl,_,rfl,DP (fun c3=>?_) (fun c3=>?_)⟩
  ·have c3':x0 / 20 % 3=0:=by simpa using c3
   rw [if_pos c3',←hyl]at q;refine⟨_,rfl,x1,rfl,fun l H4 e4 hl4=>?_⟩;have hL4:=e4 _ _ hL;have hyp:(0:Int)<((ys.length:Nat):Int):=by omega
   have i1:0≤(x0 / 60).fmod ((ys.length:Nat):Int):=Int.fmod_nonneg_of_pos _ hyp;have i2:(x0 / 60).fmod ((ys.length:Nat):Int)<((ys.length:Nat):Int):=Int.fmod_lt_of_pos _ hyp;refine⟨_,rfl,_,rfl,_,_,rfl,rfl,⟨by decide,by decide⟩,_,rfl,_,_,rfl,.inl (Al.of hL4),_,_,rfl,rfl,(by show((ys.length:Nat):Int)≠0;omega),L,ys,_,((x0 / 60).fmod ((ys.length:Nat):Int)).toNat,rfl,rfl,hL4,(by unfold NQ;rw [if_pos i1,if_pos i2]),?_⟩;have hj:((x0 / 60).fmod ((ys.length:Nat):Int)).toNat<t.ls.length:=by omega
   generalize ((x0 / 60).fmod ((ys.length:Nat):Int)).toNat=j at hj q ⊢;generalize NO x1=q4 at q hl4;have nR:∀y∈xs,y≠V.ref L:=fun y hy z=>by
    subst z;obtain⟨i,hi⟩:=bU hy;have hil:i<t.rs.length:=by have:=(aD.mp hi).1;omega
    obtain⟨a',zs,k1,k2,k3⟩:=LA dR (aI hil);rw [hi]at k1;cases k1;rw [hL]at k2;cases k2;have:=k3.len;rw [EY,ot.row i _ (aI hil)]at this;omega
   have nRL:R≠L:=fun z=>by
    subst z;rw [hR]at hL;cases hL;obtain⟨a',zs,k1,k2,k3⟩:=LA dR (aI (show 0<t.rs.length by omega));obtain⟨p',k4,k5⟩:=IP dL (aI (show 0<t.ls.length by omega));rw [k1]at k4;cases k4;rw [k2]at k5;cases k5
   have u:SameBut L H4 (upd H4 L (.lst (ys.set j (.ref l)))):=.upd;have dL':=Xm hL4 u (show Bi H4 (BA (t.ls.set j q4)) (ys.set j (.ref l)) by
    rw [BA,List.map_set];exact .set (R8 hl4) (dL.same e4))
   have dR':=ZN hL4 u (dR.same e4) nR;have hR':upd H4 L (.lst (ys.set j (.ref l))) R=some (.lst xs):=by rw [AJ nRL];exact e4 _ _ hR
   have hL':upd H4 L (.lst (ys.set j (.ref l))) L=some (.lst (ys.set j (.ref l))):=AL;have E5:AK H (upd H4 L (.lst (ys.set j (.ref l)))):=fun b o zz=>by
    rw [AJ (AU (E2 _ _ zz) hLn)];exact e4 _ _ (E3 _ _ zz)
   generalize upd H4 L (.lst (ys.set j (.ref l)))=H5 at dL' dR' hR' hL' E5;refine⟨_,rfl,_,rfl,(by show 2≤sizeLine;decide),fun p2 hp2=>?_⟩;have e6:=AZ hp2 (.tup [V.ref R,V.ref L]);exact q _ _ (E5.trans e6) (PF AL (e6 _ _ hR') (dR'.same e6) (e6 _ _ hL') (dL'.same e6)) ⟨p2,R,L,xs,rfl,AL,e6 _ _ hR',Dk E2 n3,Dk E2 n4,fun b hb=>Dk E2 (n5 b hb)⟩
  ·refine⟨_,rfl,_,rfl,(by show 2≤sizeLine;decide),fun p2 hp2=>?_⟩;have e4:=AZ hp2 (.tup [V.ref R,V.ref L]);have c3':¬x0 / 20 % 3=0:=by simpa using c3
   rw [if_neg c3']at q;exact q _ _ (E3.trans e4) (PF AL (e4 _ _ hR) (dR.same e4) (e4 _ _ hL) (dL.same e4)) ⟨p2,R,L,xs,rfl,AL,e4 _ _ hR,Dk E2 n3,Dk E2 n4,fun b hb=>Dk E2 (n5 b hb)⟩
 ·have c':¬x0 % 4=0:=by simpa using c
  unfold NR at q;rw [if_neg c']at q;refine⟨(by show 0≤sizeLine;decide),fun R hR=>?_⟩;have f1:=AZ hR (.lst []);have g1:upd H2 R (.lst []) R=some (.lst []):=AL;generalize upd H2 R (.lst [])=I1 at f1 g1;refine⟨(by show 0≤sizeLine;decide),fun L hL=>?_⟩;have f2:=AZ hL (.lst []);have g2:upd I1 L (.lst []) L=some (.lst []):=AL;generalize upd I1 L (.lst [])=I2 at f2 g2;have nRL:R≠L:=AU g1 hL;have hL2:H2 L=none:=Dk f1 hL;have m0:(most:Int)≠0:=by omega
  refine⟨_,rfl,_,_,rfl,rfl,⟨by decide,by decide⟩,_,rfl,_,_,rfl,rfl,m0,_,_,rfl,rfl,?_⟩;obtain⟨many,hn1,hn4,em⟩:∃many:Nat,1≤many∧many≤most∧1+(x0 / 4).fmod most=(many:Int):=by
   have e:=Int.fmod_eq_emod_of_nonneg (x0 / 4) (show(0:Int)≤(most:Int) by omega);have a:=Int.emod_nonneg (x0 / 4) m0;have b:=Int.emod_lt_of_pos (x0 / 4) (show(0:Int)<(most:Int) by omega);exact⟨(1+(x0 / 4).fmod most).toNat,by omega,by omega,by omega⟩
  rw [em,Int.toNat_natCast]at q;rw [show((fun i j:Int=>V.int (i+j)) 1 ((x0 / 4).fmod most))=V.int (many:Int) from bM V.int em];refine⟨_,rfl,_,_,rfl,rfl,⟨by decide,by decide⟩,?_⟩;refine⟨_,rfl,(many:Int),rfl,by omega,by omega,QN (n:=(many:Int).toNat) (fun i σ H'=>∃(r8 r9 r10:Option V) (xs ys:List V),σ=[some (.ref a),some (.int (k:Int)),some (.int most),some (.int (Pz (x0 / 16) i)),some (.int (Hk x1 i)),some (.ref R),some (.ref L),some (.int many),r8,r9,r10]∧AK H2 H'∧H' R=some (.lst xs)∧H' L=some (.lst ys)∧La H2 H' R L xs ((List.range i).map (WX (x0 / 16)))∧Gx H' ys ((List.range i).map fun j=>NO (Hk x1 j))) ?_ ?_ ?_⟩
  ·exact⟨_,_,_,[],[],rfl,f1.trans f2,f2 _ _ g1,g2,⟨rfl,fun i r z=>by simp at z⟩,⟨rfl,fun i r z=>by simp at z⟩⟩
  ·rintro i σ H3 hi ⟨r8,r9,r10,xs,ys,rfl,e3,hR3,hL3,rw3,fl3⟩;have hrl:((List.range i).map (WX (x0 / 16))).length=i:=by simp
   have hll:((List.range i).map fun j=>NO (Hk x1 j)).length=i:=by simp
   refine⟨(by show 0≤sizeLine;decide),fun A hA=>?_⟩;have f3:=AZ hA (.lst []);have g3:upd H3 A (.lst []) A=some (.lst []):=AL;generalize upd H3 A (.lst [])=I3 at f3 g3;have nAR:A≠R:=(AU hR3 hA).symm;have nAL:A≠L:=(AU hL3 hA).symm;refine⟨_,rfl,0+(i:Int),rfl,by omega,by omega,QN (n:=(0+(i:Int)).toNat) (fun j σ H'=>∃(r10:Option V) (zs:List V),σ=[some (.ref a),some (.int (k:Int)),some (.int most),some (.int (Hk (Pz (x0 / 16) i) j)),some (.int (Hk x1 i)),some (.ref R),some (.ref L),some (.int many),some (.int (0+(i:Int))),some (.ref A),r10]∧AK H3 H'∧H' A=some (.lst zs)∧Gx H' zs ((List.range j).map fun l=>NO (Hk (Pz (x0 / 16) i) l))) ?_ ?_ ?_⟩
   ·exact⟨_,[],rfl,f3,g3,⟨rfl,fun i r z=>by simp at z⟩⟩
   ·rintro j σ H4 hj ⟨r10,zs,rfl,e4,hA4,fz⟩;have hl:=fz.1;rw [List.length_map,List.length_range]at hl;refine⟨_,rfl,.inl ⟨rfl,_,Al.of hA4⟩,_,rfl,Hk (Pz (x0 / 16) i) j,rfl,fun l H5 e5 hl5=>?_⟩;have hA5:=e5 _ _ hA4;refine⟨A,zs,_,rfl,rfl,hA5,Nf (n:=60) (by omega) (by decide),?_⟩;refine⟨_,rfl,_,_,rfl,rfl,⟨by decide,by decide⟩,_,zs++[.ref l],rfl,fun b o zz=>?_,AL,?_⟩
    ·rw [AJ (AU zz hA)];exact e5 _ _ (e4 _ _ zz)
    ·rw [List.range_succ,List.map_append];exact((fz.same e5).snoc hl5).BG (.upd hA5)
   ·rintro σ H4 ⟨r10,zs,rfl,e4,hA4,fz⟩;rw [show(0+(i:Int)).toNat=i by omega]at fz ⊢;have hR4:=e4 _ _ hR3;have hxl:=rw3.1;have hyl:=fl3.1;refine⟨_,rfl,.inl ⟨rfl,_,Al.of hR4⟩,_,rfl,R,xs,_,rfl,rfl,hR4,Nf (n:=60) (by omega) (by decide),?_⟩;have rw4:=((rw3.same e4).snoc hA4 fz nAR nAL (Dk e3 hA)).upd (vs:=xs++[.ref A]) hR4 (.inl rfl);have fl4:=(fl3.same e4).BG (JL.upd (o:=.lst (xs++[.ref A])) hR4);have hR5:upd H4 R (.lst (xs++[.ref A])) R=some (.lst (xs++[.ref A])):=AL;have hL5:upd H4 R (.lst (xs++[.ref A])) L=some (.lst ys):=by rw [AJ nRL.symm];exact e4 _ _ hL3
    have e5:AK H2 (upd H4 R (.lst (xs++[.ref A]))):=fun b o zz=>by rw [AJ (AU zz hR)];exact e4 _ _ (e3 _ _ zz)
    generalize upd H4 R (.lst (xs++[.ref A]))=H5 at rw4 fl4 hR5 hL5 e5;refine⟨_,rfl,.inl ⟨rfl,_,Al.of hL5⟩,_,rfl,Hk x1 i,rfl,fun l H6 e6 hl6=>?_⟩;have hL6:=e6 _ _ hL5;refine⟨L,ys,_,rfl,rfl,hL6,Nf (n:=60) (by omega) (by decide),?_⟩;refine⟨_,rfl,_,_,rfl,rfl,⟨by decide,by decide⟩,_,_,_,xs++[.ref A],ys++[.ref l],rfl,fun b o zz=>?_,?_,AL,?_,?_⟩
    ·rw [AJ (AU zz hL2)];exact e6 _ _ (e5 _ _ zz)
    ·rw [AJ nRL];exact e6 _ _ hR5
    ·rw [List.range_succ,List.map_append];exact(rw4.same e6).upd hL6 (.inr rfl)
    ·rw [List.range_succ,List.map_append];exact((fl4.same e6).snoc hl6).BG (.upd hL6)
  rintro σ H3 ⟨r8,r9,r10,xs,ys,rfl,e3,hR3,hL3,rw3,fl3⟩;rw [Int.toNat_natCast]at rw3 fl3;refine⟨_,rfl,_,rfl,(by show 2≤sizeLine;decide),fun p2 hp2=>?_⟩;have e4:=AZ hp2 (.tup [V.ref R,V.ref L]);refine q _ _ ((E2.trans e3).trans e4) (PF AL (e4 _ _ hR3) (rw3.UX.same e4) (e4 _ _ hL3) (fl3.UX.same e4)) ⟨p2,R,L,xs,rfl,AL,e4 _ _ hR3,Dk E2 hR,Dk E2 hL2,fun b hb=>?_⟩;obtain⟨i,hi⟩:=bU hb;have hil:=(aD.mp hi).1;have h1:=rw3.1;obtain⟨a',zs,k1,k2,k3,_,_,k4⟩:=rw3.2 i _ (aI (by omega));rw [hi]at k1;cases k1;exact Dk E2 k4
end
def XH(x0 x1:Int){most:Nat}(h1:1≤most)(h4:most≤4):(NR x0 x1 most).Ok 4∧(NR x0 x1 most).Sm:=by
 unfold NR;split
 ·obtain⟨ot,st⟩:=Py (Wh (x0 / 4));split
  ·exact Py (by decide +kernel)
  ·split
   ·refine⟨⟨ot.one,ot.most,by show(List.set _ _ _).length=_;rw [List.length_set];exact ot.last,ot.row⟩,st.1,fun q hq=>?_⟩;rcases List.mem_or_eq_of_mem_set hq with h|h
    ·exact st.2 q h
    ·rw [h];exact TU x1
   ·exact⟨ot,st⟩
 ·have e:=Int.fmod_eq_emod_of_nonneg (x0 / 4) (show(0:Int)≤(most:Int) by omega);have a:=Int.emod_nonneg (x0 / 4) (show(most:Int)≠0 by omega);have b:=Int.emod_lt_of_pos (x0 / 4) (show(0:Int)<(most:Int) by omega);have m1:1≤(1+(x0 / 4).fmod (most:Nat)).toNat:=by omega
  have m4:(1+(x0 / 4).fmod (most:Nat)).toNat≤4:=by omega
  generalize (1+(x0 / 4).fmod (most:Nat)).toNat=many at m1 m4;refine⟨⟨by show 1≤(List.map _ _).length;simpa using m1,by show(List.map _ _).length≤4;simpa using m4,by show(List.map _ _).length=(List.map _ _).length;simp,fun i r hi=>?_⟩,fun r hr q hq=>?_,fun q hq=>?_⟩
  ·have hi:((List.range many).map (WX (x0 / 16)))[i]? = some r:=hi;rw [List.getElem?_map]at hi;obtain⟨j,hj,rfl⟩:=aG.mp hi;have hl:=(aD.mp hj).1;rw [List.getElem?_range (by simpa using hl)]at hj;cases hj;unfold WX;simp
  ·obtain⟨i,_,rfl⟩:=aU.mp hr;obtain⟨j,_,rfl⟩:=aU.mp hq;exact TU _
  ·obtain⟨j,_,rfl⟩:=aU.mp hq;exact TU _
abbrev iz:MD:=BF 9
abbrev bo:MD:=BW iz 9
abbrev R7:MD:=CQ bo
def A5:Nat→List Tr
 |0=>[]
 |n+1=>A5 n++TH.tz n
abbrev fF(n:Nat):PD:=.list (L2.Bg (Tr.of (A5 n)))
def cZ:R7 [.int 5]=some (fF 5):=by kernel_rfl
def jG:Nat→Nat
 |0=>0|1=>1|2=>2|3=>4|4=>8|5=>17|6=>37|_=>85
def X7:∀n,n≤5→(A5 n).length=jG n∧∀t∈A5 n,t.deep≤8∧t.AV≤5∧1≤t.AV:=by decide +kernel
def ey:Tr→List Nat→List Nat
 |.nil,acc=>acc
 |.cons b r,acc=>ey r (acc++[0]++((ey b [0]).tail.map (acc.length + ·)))
def Fw(u:Tr):List Nat:=ey u [0]
abbrev Bv(ns:List Nat):List PD:=ns.map fun(n:Nat)=>PyData.int (n:Int)
abbrev VR:MD:=Bp 9
def YY:(A5 5).map (fun u=>VR [tD u])=(A5 5).map fun u=>some (PyData.list (Bv (Fw u))):=by kernel_rfl
def dA{u:Tr}(hu:u∈A5 5):VR [tD u]=some (.list (Bv (Fw u))):=bC.mp YY u hu
def bz:∀u∈A5 5,(Fw u).length≤5∧(Fw u).length=u.AV∧1≤(Fw u).length∧∀a∈Fw u,a<(Fw u).length:=by decide +kernel
def X4:(List.range 5).map (fun m=>(List.range 6).map fun n=>B0 [.int (m:Nat),.int (n:Nat)])=(List.range 5).map fun m=>(List.range 6).map fun n=>some (PyData.int ((m^n:Nat):Int)):=by kernel_rfl
def Ym{m n:Nat}(hm:m≤4)(hn:n≤5):B0 [.int (m:Nat),.int (n:Nat)]=some (.int ((m^n:Nat):Int)):=bC.mp (bC.mp X4 m (bF.mpr (by omega))) n (bF.mpr (by omega))
def QW(t:Tb)(r j:Nat):Rat:=if j<r then(t.rs.getD r []).getD j 0 else 0
def iw{t:Tb}(h:t.Ok 4){r j:Nat}(hr:r<t.rs.length):CD [Ai t,.int (r:Nat),.int (j:Nat)]=some (Af (QW t r j)):=by
 refine Ck rfl ?_;unfold NB;have t1:CK (Gm fun i j=>decide (i<j)) (nm 2) (nm 1) [.d (Ai t),.d (.int (r:Nat)),.d (.int (j:Nat))]=some (decide ((j:Int)<(r:Int))):=C9 (x:=.int (j:Nat)) (y:=.int (r:Nat)) rfl rfl rfl;unfold QW;by_cases z:j<r
 ·rw [decide_eq_true (show(j:Int)<(r:Int) by omega)]at t1;rw [if_pos z];have e1:t.rs[r]? = some (t.rs[r]):=aI hr;have hl:=h.row _ _ e1;rw [List.getD_eq_getElem?_getD (l:=t.rs),e1];generalize t.rs[r]=row at e1 hl;have e2:row[j]? = some (row[j]'(by omega)):=aI _;show _=some (Ou.rt (Af (row.getD j 0)));rw [List.getD_eq_getElem?_getD,e2];refine GG (Gp t1 (GF (BJ (x:=.list (BA row)) (y:=.int (j:Nat)) (BJ (x:=.list (Ba t.rs)) (y:=.int (r:Nat)) rfl rfl (Ib ?_)) rfl (Ib ?_))))
  ·unfold Ba;rw [List.getElem?_map,e1];rfl
  ·unfold BA;rw [List.getElem?_map,e2];rfl
 ·rw [decide_eq_false (show ¬(j:Int)<(r:Int) by omega)]at t1;rw [if_neg z];exact Ay (Cc t1 rfl) rfl
def dg(m s k:Nat):Nat:=s / m^k % m
def wk(t:Tb)(ab:List Nat)(s:Nat):Nat→Rat
 |0=>t.ls.getD (dg t.rs.length s 0) 0
 |k+1=>wk t ab s k*QW t (dg t.rs.length s (ab.getD (k+1) 0)) (dg t.rs.length s (k+1))
def sm(f:Nat→Rat):Nat→Rat
 |0=>0
 |s+1=>sm f s+f s
def UR(t:Tb)(u:Tr):Rat:=sm (fun s=>wk t (Fw u) s ((Fw u).length-1)) (t.rs.length^(Fw u).length)
def Tb.S7(t:Tb):Prop:=(∀r∈t.rs,∀q∈r,Fo 60 420 q)∧∀q∈t.ls,Fo 60 420 q
def Nq{p:Rat→Prop}(h0:p 0){l:List Rat}(h:∀q∈l,p q)(i:Nat):p (l.getD i 0):=by
 rw [List.getD_eq_getElem?_getD];cases e:l[i]? with
 |none=>exact h0
 |some q=>exact h q (aQ e)
def XR{t:Tb}(h:t.S7)(r j:Nat):Fo 60 420 (QW t r j):=by
 unfold QW;split
 ·rw [List.getD_eq_getElem?_getD (l:=t.rs)];cases e:t.rs[r]? with
  |none=>exact Nq .zero (l:=[]) (fun q hq=>by cases hq) j
  |some row=>exact Nq .zero (h.1 row (aQ e)) j
 ·exact .zero
def VM{t:Tb}(h:t.S7)(ab:List Nat)(s:Nat):∀k,Fo (60^(k+1)) (420^(k+1)) (wk t ab s k)
 |0=>Nq .zero h.2 _
 |k+1=>by
  have:=(VM h ab s k).mul (XR h (dg t.rs.length s (ab.getD (k+1) 0)) (dg t.rs.length s (k+1)));rw [←Int.pow_succ,←Nat.pow_succ]at this;exact this
def Zd{f:Nat→Rat}{m:Int}{c:Nat}(hm:m≠0)(h:∀s,Fo m c (f s)):∀n,Fo m (n*c) (sm f n)
 |0=>.zero
 |n+1=>by
  have:=(Zd hm h n).add hm (h n);rw [←Nat.succ_mul]at this;exact this
def O7{k c:Nat}(hk:k≤5)(hc:c≤2^20){q:Rat}(h:Fo (60^k) (c*420^k) q):FM.Fits q 190:=by
 refine h.fits (Zf _) ?_ ?_
 ·refine ae (bX hc (aW (by decide) hk)) (by decide)
 ·rw [Int.natAbs_pow];exact ae (aW (by decide) hk) (by decide)
def bj{δ:Dv}{f g:Dv→Option PD}{i j:Int}(h:f δ=some (.int i))(k:g δ=some (.int j))(h0:-1000000≤i∧i≤1000000∧-1000000≤j∧j≤1000000):DN N1 (AB f (AB g AH)) δ=some (Et i (j-i).toNat):=by
 show(AB f (AB g AH) δ).bind N1=_;rw [Ar h (Ar k (show AH δ=some [] from rfl))];exact if_pos h0
def YZ(p q:Rat):PyData.eqv (Af p) (Af q)=decide (p=q):=by
 by_cases h:p=q
 ·subst h;rw [decide_eq_true rfl];exact Nb _ (cU p)
 ·rw [decide_eq_false h];refine ar.mpr fun z=>h ?_;unfold Af at z;simp [PyData.eqv,PyData.eqvAll]at z;exact FM.bf z.1 (by omega)
def Ma(p q:Rat):Ej true (Af p) (Af q)=some (.bool (!decide (p=q))):=by
 refine(if_pos ⟨(Wx p).shaped (by decide),(Wx q).shaped (by decide)⟩).trans ?_;rw [YZ];rfl
def eE{i:Nat}{f:Dv→Option PD}{δ:Dv}{y:PD}{xs:List PD}(h:f δ=some y)(o:ow i δ=some xs)(hl:xs.length<DH):Vl i f δ=some (.nx (δ.set i (.own (.lst (xs++[y]))))):=by
 show(f δ).bind _=_;rw [h];show(ow i δ).bind _=_;rw [o];exact if_pos hl
def NX{i p:Nat}{g:Dv→Option PD}{δ:Dv}{y:PD}{xs:List PD}(h:g δ=some (.int (p:Nat)))(o:ow i δ=some xs)(k:xs[p]? = some y):KG i g δ=some y:=by
 show(g δ).bind _=_;rw [h];show(ow i δ).bind _=_;rw [o];exact Ib k
def Pg(a:Int)(n:Nat):(Et a n).length=n:=by unfold Et;simp
abbrev Y3:MD:=CF ec VR Yz B0 CD
def gE{t:Tb}(ht:t.Ok 4)(hs:t.S7){u:Tr}(hu:u∈A5 5):Y3 [Ai t,tD u]=some (Af (UR t u)):=by
 obtain⟨n5,nk,n1,nab⟩:=bz u hu;have fl:=dA hu;unfold UR;generalize Fw u=ab at n5 nk n1 nab fl;have o1:=ht.one;have o2:=ht.most;have o3:=ht.last;refine Ck rfl ?_;unfold Lh;refine Ay (B5 (Au (xs:=[tD u]) rfl fl)) (Ay (B5 (y:=.int ((Ba t.rs).length:Nat)) rfl) (Ay rfl ?_));rw [Ed];have hp:=Ym o2 n5;have hn:(Bv ab).length=ab.length:=bN _;have hpow:t.rs.length^ab.length≤1024:=aO (Nat.pow_le_pow_left o2 _) (aO (aW (by decide) n5) (by decide));have hm0:(0:Int)<(t.rs.length:Int):=by omega
 have hm64:((t.rs.length:Nat):Int).natAbs<2^64:=by omega
 generalize hN:t.rs.length^ab.length=N at hp hpow;have kl:∀(l4 l5 l6 l7 l8 l9:L),AO FR (AB (nm 2) AH) [.d (Ai t),.d (tD u),.d (.list (Bv ab)),.d (.int (t.rs.length:Nat)),l4,l5,l6,l7,l8,l9]=some (.int (ab.length:Nat)):=fun _ _ _ _ _ _=>by rw [←hn];rfl
 refine Te (xs:=Et 0 N) (fun i δ=>∃l5 l6 l7 l8 l9:L,δ=[.d (Ai t),.d (tD u),.d (.list (Bv ab)),.d (.int (t.rs.length:Nat)),.d (Af (sm (fun s=>wk t ab s (ab.length-1)) i)),l5,l6,l7,l8,l9]) ?_ ⟨_,_,_,_,_,rfl⟩ ?_ ?_
 ·refine(Wn (j:=(N:Int)) (Au (xs:=[.int (t.rs.length:Nat),.int (ab.length:Nat)]) (Ar rfl (Ar (kl _ _ _ _ _ _) rfl)) hp) (by omega) (by omega)).trans ?_;rw [Int.toNat_natCast]
 ·rintro s x δ hx ⟨l5,l6,l7,l8,l9,rfl⟩;obtain⟨rfl,hsN⟩:=Mp hx;rw [Int.zero_add];refine⟨_,rfl,IQ rfl (IQ rfl ?_)⟩;obtain⟨δ',f1,l8',rfl⟩:∃δ',Ci (DN HE (AB (AO FR (AB (nm 2) AH)) AH)) (Ea 8) (Aj (Vl 7 (Ag GJ (nm 6) (nm 3))) (BO 6 (Ag R6 (nm 6) (nm 3)))) [.d (Ai t),.d (tD u),.d (.list (Bv ab)),.d (.int (t.rs.length:Nat)),.d (Af (sm (fun s=>wk t ab s (ab.length-1)) s)),.d (.int (s:Nat)),.d (.int (s:Nat)),.own (.lst []),l8,l9]=some (.nx δ')∧∃l8,δ'=[.d (Ai t),.d (tD u),.d (.list (Bv ab)),.d (.int (t.rs.length:Nat)),.d (Af (sm (fun s=>wk t ab s (ab.length-1)) s)),.d (.int (s:Nat)),.d (.int ((s / t.rs.length^ab.length:Nat):Int)),.own (.lst (Bv ((List.range ab.length).map (dg t.rs.length s)))),l8,l9]:=by
   refine Us (xs:=Et 0 ab.length) (fun i δ=>∃l8,δ=[.d (Ai t),.d (tD u),.d (.list (Bv ab)),.d (.int (t.rs.length:Nat)),.d (Af (sm (fun s=>wk t ab s (ab.length-1)) s)),.d (.int (s:Nat)),.d (.int ((s / t.rs.length^i:Nat):Int)),.own (.lst (Bv ((List.range i).map (dg t.rs.length s)))),l8,l9]) ?_ ⟨_,by rw [Nat.pow_zero,Nat.div_one];rfl⟩ ?_ ?_
   ·refine(Wn (j:=(ab.length:Int)) (kl _ _ _ _ _ _) (by omega) (by omega)).trans ?_;rw [Int.toNat_natCast]
   ·rintro i x δ hx ⟨l8,rfl⟩;obtain⟨rfl,hi⟩:=Mp hx;refine⟨_,rfl,IQ (eE (y:=.int ((dg t.rs.length s i:Nat):Int)) (xs:=Bv ((List.range i).map (dg t.rs.length s))) ?_ rfl ?_) ⟨_,B5 (y:=.int ((s / t.rs.length^(i+1):Nat):Int)) ?_,?_⟩⟩
    ·exact BJ (x:=.int ((s / t.rs.length^i:Nat):Int)) (y:=.int (t.rs.length:Nat)) rfl rfl ((mod_is hm0).trans rfl)
    ·unfold Bv;rw [List.length_map,List.length_map,List.length_range];show i<DH;unfold DH;omega
    ·refine BJ (x:=.int ((s / t.rs.length^i:Nat):Int)) (y:=.int (t.rs.length:Nat)) rfl rfl ((div_is hm0 hm64).trans ?_);rw [Nat.pow_succ,←Nat.div_div_eq_div_mul]
     rfl
    ·refine⟨.d (.int (0+(i:Int))),?_⟩;rw [List.range_succ,List.map_append];unfold Bv;rw [List.map_append]
     rfl
   ·rintro δ ⟨l8,rfl⟩;rw [Pg];exact⟨_,rfl⟩
  have gd:∀k,k<ab.length→(Bv ((List.range ab.length).map (dg t.rs.length s)))[k]? = some (.int ((dg t.rs.length s k:Nat):Int)):=fun k hk=>by
   unfold Bv;rw [List.getElem?_map,List.getElem?_map,List.getElem?_range hk]
   rfl
  have dlt:∀k,dg t.rs.length s k<t.rs.length:=fun k=>Nat.mod_lt _ (by omega);refine IQ f1 (IQ (B5 (y:=Af (wk t ab s 0)) ?_) ?_)
  ·refine BJ (x:=.list (BA t.ls)) (y:=.int ((dg t.rs.length s 0:Nat):Int)) rfl (NX (p:=0) rfl rfl (gd 0 (by omega))) (Ib ?_);have hl:=dlt 0;unfold BA wk;rw [List.getElem?_map,List.getD_eq_getElem?_getD,List.getElem?_eq_getElem (show dg t.rs.length s 0<t.ls.length by omega)]
   rfl
  obtain⟨δ',f2,l8',rfl⟩:∃δ',Ci (DN N1 (AB (fC (.int 1)) (AB (AO FR (AB (nm 2) AH)) AH))) (Ea 8) (Ez (CK (Ej true) (nm 9) (Ae (AB (fC (.int 0)) (AB (fC (.int 1)) AH)))) (BO 9 (AO Yz (AB (nm 9) (AB (AO CD (AB (nm 0) (AB (KG 7 (Ag Ce (nm 2) (nm 8))) (AB (KG 7 (nm 8)) AH)))) AH)))) CZ) [.d (Ai t),.d (tD u),.d (.list (Bv ab)),.d (.int (t.rs.length:Nat)),.d (Af (sm (fun s=>wk t ab s (ab.length-1)) s)),.d (.int (s:Nat)),.d (.int ((s / t.rs.length^ab.length:Nat):Int)),.own (.lst (Bv ((List.range ab.length).map (dg t.rs.length s)))),l8',.d (Af (wk t ab s 0))]=some (.nx δ')∧∃l8,δ'=[.d (Ai t),.d (tD u),.d (.list (Bv ab)),.d (.int (t.rs.length:Nat)),.d (Af (sm (fun s=>wk t ab s (ab.length-1)) s)),.d (.int (s:Nat)),.d (.int ((s / t.rs.length^ab.length:Nat):Int)),.own (.lst (Bv ((List.range ab.length).map (dg t.rs.length s)))),l8,.d (Af (wk t ab s (ab.length-1)))]:=by
   refine Us (xs:=Et 1 (ab.length-1)) (fun i δ=>∃l8,δ=[.d (Ai t),.d (tD u),.d (.list (Bv ab)),.d (.int (t.rs.length:Nat)),.d (Af (sm (fun s=>wk t ab s (ab.length-1)) s)),.d (.int (s:Nat)),.d (.int ((s / t.rs.length^ab.length:Nat):Int)),.own (.lst (Bv ((List.range ab.length).map (dg t.rs.length s)))),l8,.d (Af (wk t ab s i))]) ?_ ⟨_,rfl⟩ ?_ ?_
   ·refine(bj (i:=1) (j:=(ab.length:Int)) rfl (kl _ _ _ _ _ _) (by omega)).trans ?_;rw [show((ab.length:Int)-1).toNat=ab.length-1 by omega]
   ·rintro i x δ hx ⟨l8,rfl⟩;obtain⟨rfl,hi⟩:=Mp hx;refine⟨[.d (Ai t),.d (tD u),.d (.list (Bv ab)),.d (.int (t.rs.length:Nat)),.d (Af (sm (fun s=>wk t ab s (ab.length-1)) s)),.d (.int (s:Nat)),.d (.int ((s / t.rs.length^ab.length:Nat):Int)),.own (.lst (Bv ((List.range ab.length).map (dg t.rs.length s)))),.d (.int ((i+1:Nat):Int)),.d (Af (wk t ab s i))],by rw [show(1:Int)+(i:Int)=((i+1:Nat):Int) by omega];rfl,?_⟩;have tst:=C9 (o:=Ej true) (f:=nm 9) (g:=Ae (AB (fC (.int 0)) (AB (fC (.int 1)) AH))) (δ:=[.d (Ai t),.d (tD u),.d (.list (Bv ab)),.d (.int (t.rs.length:Nat)),.d (Af (sm (fun s=>wk t ab s (ab.length-1)) s)),.d (.int (s:Nat)),.d (.int ((s / t.rs.length^ab.length:Nat):Int)),.own (.lst (Bv ((List.range ab.length).map (dg t.rs.length s)))),.d (.int ((i+1:Nat):Int)),.d (Af (wk t ab s i))]) rfl (show _=some (Af 0) from rfl) (Ma _ _);by_cases z:wk t ab s i=0
    ·rw [decide_eq_true z]at tst;refine⟨_,Cc tst rfl,.d (.int ((i+1:Nat):Int)),?_⟩;rw [show wk t ab s (i+1)=wk t ab s i by show wk t ab s i*_=_;rw [z,Rat.zero_mul]]
    ·rw [decide_eq_false z]at tst;have hia:i+1<ab.length:=by omega
     have ea:ab[i+1]? = some (ab[i+1]'hia):=aI _;have ha:=nab _ (aQ ea);have eg:ab.getD (i+1) 0=ab[i+1]'hia:=by rw [List.getD_eq_getElem?_getD,ea];rfl
     have en:(Bv ab)[i+1]? = some (.int ((ab[i+1]'hia:Nat):Int)):=by unfold Bv;rw [List.getElem?_map,ea];rfl
     refine⟨_,Gp tst (B5 (y:=Af (wk t ab s (i+1))) ?_),_,rfl⟩;show _=some (Af (wk t ab s i*QW t (dg t.rs.length s (ab.getD (i+1) 0)) (dg t.rs.length s (i+1))));rw [eg];refine Au (Ar rfl (Ar (Au (xs:=[Ai t,.int ((dg t.rs.length s (ab[i+1]'hia):Nat):Int),.int ((dg t.rs.length s (i+1):Nat):Int)]) (Ar rfl (Ar (NX (p:=ab[i+1]'hia) (BJ (x:=.list (Bv ab)) (y:=.int ((i+1:Nat):Int)) rfl rfl (Ib en)) rfl (gd _ ha)) (Ar (NX (p:=i+1) rfl rfl (gd _ hia)) rfl))) (iw ht (dlt _))) rfl)) (gC (O7 (k:=i+1) (c:=1) (by omega) (by decide) ?_) (O7 (k:=1) (c:=1) (by decide) (by decide) ?_))
     ·rw [Nat.one_mul];exact VM hs ab s i
     ·rw [Nat.one_mul];exact XR hs _ _
   ·rintro δ ⟨l8,rfl⟩;rw [Pg];exact⟨_,rfl⟩
  refine IQ f2 ⟨_,B5 (y:=Af (sm (fun s=>wk t ab s (ab.length-1)) (s+1))) ?_,_,_,_,_,_,rfl⟩;have hw:∀s,Fo (60^ab.length) (420^ab.length) (wk t ab s (ab.length-1)):=fun s=>by
   have:=VM hs ab s (ab.length-1);rw [show ab.length-1+1=ab.length by omega]at this;exact this
  refine Au (Ar rfl (Ar rfl rfl)) (fH (O7 n5 (c:=s) (by omega) (Zd (Zf _) hw s)) (O7 n5 (c:=1) (by decide) ?_));rw [Nat.one_mul];exact hw s
 ·rintro δ ⟨l5,l6,l7,l8,l9,rfl⟩;rw [Pg]
  rfl
abbrev Mon:=List Nat
abbrev Dx:=List (Mon×Int)
def Cy(x:Nat→Rat):Mon→Rat
 |[]=>1
 |i::m=>x i*Cy x m
def Bs(x:Nat→Rat):Dx→Rat
 |[]=>0
 |t::p=>(t.2:Rat)*Cy x t.1+Bs x p
def QB(a:Nat):Mon→Mon
 |[]=>[a]
 |b::m=>if a≤b then a::b::m else b::QB a m
def UH(x:Nat→Rat)(a:Nat):∀m:Mon,Cy x (QB a m)=x a*Cy x m
 |[]=>rfl
 |b::m=>by
  unfold QB;split
  ·rfl
  ·show x b*Cy x (QB a m)=x a*(x b*Cy x m);rw [UH x a m,←Rat.mul_assoc,←Rat.mul_assoc,Rat.mul_comm (x b)]
def mulM:Mon→Mon→Mon
 |[],n=>n
 |a::m,n=>QB a (mulM m n)
def UL(x:Nat→Rat):∀m n:Mon,Cy x (mulM m n)=Cy x m*Cy x n
 |[],n=>by show Cy x n=1*Cy x n;rw [Rat.one_mul]
 |a::m,n=>by
  show Cy x (QB a (mulM m n))=x a*Cy x m*Cy x n;rw [UH,UL x m n,Rat.mul_assoc]
def K2(m:Mon)(c:Int):Dx→Dx
 |[]=>if c=0 then [] else [(m,c)]
 |(n,d)::p=>if m=n then(if c+d=0 then p else(n,c+d)::p) else(n,d)::K2 m c p
def Ro:((0:Int):Rat)=0:=rfl
def da(a b:Int):((a+b:Int):Rat)=(a:Rat)+(b:Rat):=Rat.intCast_add a b
def cS(a b:Int):((a*b:Int):Rat)=(a:Rat)*(b:Rat):=Rat.intCast_mul a b
def Nd(x:Nat→Rat)(m:Mon)(c:Int):∀p:Dx,Bs x (K2 m c p)=(c:Rat)*Cy x m+Bs x p
 |[]=>by
  unfold K2;split
  ·rename_i e;subst e;show(0:Rat)=((0:Int):Rat)*_+0;rw [Ro,Rat.zero_mul,Rat.add_zero]
  ·rfl
 |(n,d)::p=>by
  unfold K2;split
  ·rename_i e;subst e;have h:(c:Rat)*Cy x m+Bs x ((m,d)::p)=((c+d:Int):Rat)*Cy x m+Bs x p:=by
    show(c:Rat)*Cy x m+((d:Rat)*Cy x m+Bs x p)=_;rw [←Rat.add_assoc,←Rat.add_mul,da]
   rw [h];split
   ·rename_i e;rw [e,Ro,Rat.zero_mul,Rat.zero_add]
   ·rfl
  ·show(d:Rat)*Cy x n+Bs x (K2 m c p)=_;rw [Nd x m c p];show _=(c:Rat)*Cy x m+((d:Rat)*Cy x n+Bs x p);rw [←Rat.add_assoc,←Rat.add_assoc,Rat.add_comm (_*_) (_*_)]
def HL:Dx→Dx→Dx
 |[],q=>q
 |t::p,q=>K2 t.1 t.2 (HL p q)
def KS(x:Nat→Rat):∀p q:Dx,Bs x (HL p q)=Bs x p+Bs x q
 |[],q=>by show Bs x q=0+_;rw [Rat.zero_add]
 |t::p,q=>by
  show Bs x (K2 t.1 t.2 (HL p q))=(t.2:Rat)*Cy x t.1+Bs x p+Bs x q;rw [Nd,KS x p q,Rat.add_assoc]
def Pt(m:Mon)(c:Int):Dx→Dx
 |[]=>[]
 |t::p=>K2 (mulM m t.1) (c*t.2) (Pt m c p)
def Pw(x:Nat→Rat)(m:Mon)(c:Int):∀p:Dx,Bs x (Pt m c p)=(c:Rat)*Cy x m*Bs x p
 |[]=>by show(0:Rat)=_*0;rw [Rat.mul_zero]
 |t::p=>by
  show Bs x (K2 (mulM m t.1) (c*t.2) (Pt m c p))=_;rw [Nd,Pw x m c p,UL,cS];show _=(c:Rat)*Cy x m*((t.2:Rat)*Cy x t.1+Bs x p);rw [Rat.mul_add]
  congr 1
  rw [Rat.mul_assoc,Rat.mul_assoc,←Rat.mul_assoc (t.2:Rat),Rat.mul_comm (t.2:Rat) (Cy x m),Rat.mul_assoc]
def O8:Dx→Dx→Dx
 |[],_=>[]
 |t::p,q=>HL (Pt t.1 t.2 q) (O8 p q)
def Pe(x:Nat→Rat):∀p q:Dx,Bs x (O8 p q)=Bs x p*Bs x q
 |[],q=>by show(0:Rat)=0*_;rw [Rat.zero_mul]
 |t::p,q=>by
  show Bs x (HL (Pt t.1 t.2 q) (O8 p q))=((t.2:Rat)*Cy x t.1+Bs x p)*Bs x q;rw [KS,Pw,Pe x p q,Rat.add_mul]
def Vy(p:Dx):Dx:=Pt [] (-1) p
def cR(x:Nat→Rat)(p:Dx):Bs x (Vy p)=- Bs x p:=by
 unfold Vy;rw [Pw];show((-1:Int):Rat)*1*Bs x p=_;rw [Rat.mul_one,show((-1:Int):Rat)=-1 from rfl,Rat.neg_mul,Rat.one_mul]
structure Rg(α:Type) where
 add:α→α→α
 mul:α→α→α
 z:α
 o:α
def Ny{α:Type}(R:Rg α)(a b:List α):α:=(List.zipWith R.mul a b).foldr R.add R.z
def JN{α:Type}(R:Rg α)(rows:List (List α)):Tr→List α→List α
 |.nil,acc=>acc
 |.cons b r,acc=>JN R rows r (List.zipWith R.mul acc (rows.map fun row=>Ny R row (JN R rows b (List.replicate rows.length R.o))))
def Mf{α:Type}(R:Rg α)(rows:List (List α))(ls:List α)(u:Tr):α:=Ny R ls (JN R rows u (List.replicate rows.length R.o))
structure ID{α β:Type}(R:Rg α)(S:Rg β)(φ:α→β):Prop where
 add:∀a b,φ (R.add a b)=S.add (φ a) (φ b)
 mul:∀a b,φ (R.mul a b)=S.mul (φ a) (φ b)
 z:φ R.z=S.z
 o:φ R.o=S.o
section
variable{α β:Type}{R:Rg α}{S:Rg β}{φ:α→β}
def ID.zip(h:ID R S φ):∀a b:List α,(List.zipWith R.mul a b).map φ=List.zipWith S.mul (a.map φ) (b.map φ)
 |[],_=>rfl
 |_::_,[]=>rfl
 |x::a,y::b=>by
  show φ (R.mul x y)::(List.zipWith R.mul a b).map φ=S.mul (φ x) (φ y)::List.zipWith S.mul (a.map φ) (b.map φ);rw [h.mul,ID.zip h a b]
def ID.fold(h:ID R S φ):∀a:List α,φ (a.foldr R.add R.z)=(a.map φ).foldr S.add S.z
 |[]=>h.z
 |x::a=>by
  show φ (R.add x (a.foldr R.add R.z))=S.add (φ x) ((a.map φ).foldr S.add S.z);rw [h.add,ID.fold h a]
def ID.dot(h:ID R S φ)(a b:List α):φ (Ny R a b)=Ny S (a.map φ) (b.map φ):=by
 unfold Ny;rw [h.fold,h.zip]
def ID.IB(h:ID R S φ)(rows:List (List α)):∀(t:Tr) (acc:List α),(JN R rows t acc).map φ=JN S (rows.map (List.map φ)) t (acc.map φ)
 |.nil,acc=>rfl
 |.cons b r,acc=>by
  rw [JN,JN,ID.IB h rows r,h.zip,List.map_map,List.map_map]
  congr 2
  refine bO fun row _=>?_;show φ (Ny R row _)=Ny S (row.map φ) _;rw [h.dot,ID.IB h rows b,List.map_replicate,h.o,List.length_map]
def ID.last(h:ID R S φ)(rows:List (List α))(ls:List α)(u:Tr):φ (Mf R rows ls u)=Mf S (rows.map (List.map φ)) (ls.map φ) u:=by
 unfold Mf;rw [h.dot,h.IB,List.map_replicate,h.o,List.length_map]
end
def rI:Rg Int:=⟨fun a b=>a+b,fun a b=>a*b,0,1⟩
def rQ:Rg Rat:=⟨fun a b=>a+b,fun a b=>a*b,0,1⟩
def rP:Rg Dx:=⟨HL,O8,[],[([],1)]⟩
def gJ:ID rI rQ (fun n:Int=>(n:Rat)):=⟨Rat.intCast_add,Rat.intCast_mul,rfl,rfl⟩
def eu(x:Nat→Rat):ID rP rQ (Bs x):=⟨KS x,Pe x,rfl,by show((1:Int):Rat)*1+0=1;rw [Rat.mul_one,Rat.add_zero];rfl⟩
def Ve(rows:List (List Int)):∀(t:Tr) (acc:List Int),IB rows t acc=JN rI rows t acc
 |.nil,acc=>rfl
 |.cons b r,acc=>by
  rw [IB,JN,Ve rows r];show JN rI rows r (Cj acc _)=JN rI rows r (Cj acc _)
  congr 2
  refine bO fun row _=>?_;rw [Ve rows b]
  rfl
def dy(rows:List (List Int))(ls:List Int)(u:Tr):(Dy (rows++[ls]) u).getLast?.getD 0=Mf rI (rows++[ls]) ls u:=by
 unfold Dy;rw [List.map_append,List.map_singleton,List.getLast?_concat,Option.getD_some,Ve]
 rfl
def RL(m:Nat):List (List Dx):=(List.range m).map fun i=>(List.range i).map fun j=>[([5*i+j],1)]
def Gn(m:Nat)(u:Tr):Dx:=Mf rP (RL (m+1)) ((List.range m).map fun j=>[([5*m+j],1)]) u
def eo(r j:Nat):Dx:=if j<r then [([5*r+j],1)] else []
def X2(m:Nat)(ab:List Nat)(s:Nat):Nat→Dx
 |0=>[([5*m+dg m s 0],1)]
 |k+1=>O8 (X2 m ab s k) (eo (dg m s (ab.getD (k+1) 0)) (dg m s (k+1)))
def Zm(f:Nat→Dx):Nat→Dx
 |0=>[]
 |s+1=>HL (f s) (Zm f s)
def LY(m:Nat)(u:Tr):Dx:=Zm (fun s=>X2 m (Fw u) s ((Fw u).length-1)) (m^(Fw u).length)
def MY(p q:Dx)(k:Nat):Bool:=(HL (Vy q) p).isEmpty&&p.all fun t=>decide (t.1.length=k)
def Yv:((A5 5).all fun u=>MY (Gn 1 u) (LY 1 u) u.AV)=true:=by decide +kernel
def ZU:((A5 5).all fun u=>MY (Gn 2 u) (LY 2 u) u.AV)=true:=by decide +kernel
def YG:((A5 5).all fun u=>MY (Gn 3 u) (LY 3 u) u.AV)=true:=by decide +kernel
def YL:((A5 5).all fun u=>MY (Gn 4 u) (LY 4 u) u.AV)=true:=by decide +kernel
def WO{m:Nat}(h1:1≤m)(h4:m≤4){u:Tr}(hu:u∈A5 5)(x:Nat→Rat):Bs x (Gn m u)=Bs x (LY m u)∧∀t∈Gn m u,t.1.length=u.AV:=by
 have h:MY (Gn m u) (LY m u) u.AV=true:=by
  match m,h1,h4 with
  |1,_,_=>exact ai.mp Yv u hu
  |2,_,_=>exact ai.mp ZU u hu
  |3,_,_=>exact ai.mp YG u hu
  |4,_,_=>exact ai.mp YL u hu
 unfold MY at h;rw [Bool.and_eq_true]at h;refine⟨?_,fun t ht=>aj (ai.mp h.2 t ht)⟩;have e:=KS x (Vy (LY m u)) (Gn m u);rw [List.isEmpty_iff.mp h.1,cR]at e;have e:(0:Rat)=-Bs x (LY m u)+Bs x (Gn m u):=e;have:Bs x (LY m u)+0=Bs x (LY m u)+(-Bs x (LY m u)+Bs x (Gn m u)):=by rw [←e]
 rw [Rat.add_zero,←Rat.add_assoc,Rat.add_neg_cancel,Rat.zero_add]at this;exact this.symm
def UW(x:Nat→Rat)(b:Rat):∀m:Mon,Cy (fun n=>x n*b) m=Cy x m*b^m.length
 |[]=>by show(1:Rat)=1*b^0;rw [Rat.one_mul,Rat.pow_zero]
 |i::m=>by
  show x i*b*Cy (fun n=>x n*b) m=x i*Cy x m*b^(m.length+1);rw [UW x b m,Rat.pow_succ];rw [Rat.mul_assoc,Rat.mul_assoc,←Rat.mul_assoc b,Rat.mul_comm b (Cy x m),Rat.mul_assoc,Rat.mul_comm b]
def Uu(x:Nat→Rat)(b:Rat)(k:Nat):∀p:Dx,(∀t∈p,t.1.length=k)→Bs (fun n=>x n*b) p=Bs x p*b^k
 |[],_=>by show(0:Rat)=0*_;rw [Rat.zero_mul]
 |t::p,h=>by
  show(t.2:Rat)*Cy (fun n=>x n*b) t.1+Bs (fun n=>x n*b) p=((t.2:Rat)*Cy x t.1+Bs x p)*b^k;rw [UW,Uu x b k p fun u hu=>h u (.tail _ hu),h t (.head _),Rat.add_mul,Rat.mul_assoc]
def Cs(t:Tb):List (List Rat):=t.rs++[t.ls]
def xT(t:Tb)(n:Nat):Rat:=((Cs t).getD (n / 5) []).getD (n % 5) 0
def Rk(x:Nat→Rat)(n:Nat):Bs x [([n],1)]=x n:=by
 show((1:Int):Rat)*(x n*1)+0=x n;rw [Rat.add_zero,Rat.mul_one,show((1:Int):Rat)=1 from rfl,Rat.one_mul]
def V5(t:Tb){i j:Nat}(hj:j<5):xT t (5*i+j)=((Cs t).getD i []).getD j 0:=by
 unfold xT;rw [show(5*i+j) / 5=i by omega,show(5*i+j) % 5=j by omega]
def Yc{t:Tb}{i:Nat}(h:i<t.rs.length):(Cs t).getD i []=t.rs.getD i []:=by
 unfold Cs;rw [List.getD_eq_getElem?_getD,List.getD_eq_getElem?_getD,List.getElem?_append_left h]
def K3(t:Tb):(Cs t)[t.rs.length]? = some t.ls:=by
 unfold Cs;rw [List.getElem?_append_right (aF _),Nat.sub_self];rfl
def Qn{t:Tb}{m:Nat}(h:t.Ok m){i:Nat}{row:List Rat}(e:(Cs t)[i]? = some row):row.length=i∧i≤t.rs.length:=by
 by_cases z:i<t.rs.length
 ·unfold Cs at e;rw [List.getElem?_append_left z]at e;exact⟨h.row i row e,by omega⟩
 ·have hl:=(aD.mp e).1;unfold Cs at hl;rw [List.length_append,List.length_singleton]at hl;have:i=t.rs.length:=by omega
  subst this;rw [K3]at e;cases e;exact⟨h.last,Nat.le_refl _⟩
def jC{t:Tb}(h:t.Ok 4){r j:Nat}(hr:r<t.rs.length):Bs (xT t) (eo r j)=QW t r j:=by
 have:=h.most;unfold eo QW;split
 ·rw [Rk,V5 t (by omega),Yc hr]
 ·rfl
def Zo{t:Tb}(h:t.Ok 4)(ab:List Nat)(s:Nat):∀k,Bs (xT t) (X2 t.rs.length ab s k)=wk t ab s k
 |0=>by
  have h1:=h.one;have h4:=h.most;have hd:dg t.rs.length s 0<t.rs.length:=Nat.mod_lt _ (by omega);rw [X2,wk,Rk,V5 t (by omega),List.getD_eq_getElem?_getD (l:=Cs t),K3]
  rfl
 |k+1=>by
  have h1:=h.one;rw [X2,wk,Pe,Zo h ab s k,jC h (r:=dg t.rs.length s (ab.getD (k+1) 0)) (Nat.mod_lt _ (by omega))]
def Z8(x:Nat→Rat){f:Nat→Dx}{g:Nat→Rat}(h:∀s,Bs x (f s)=g s):∀n,Bs x (Zm f n)=sm g n
 |0=>rfl
 |n+1=>by rw [Zm,sm,KS,h,Z8 x h n,Rat.add_comm]
def Z4{t:Tb}(h:t.Ok 4)(u:Tr):Bs (xT t) (LY t.rs.length u)=UR t u:=Z8 _ (fun s=>Zo h _ s _) _
def WG{t:Tb}(h:t.Ok 4)(b:Rat){i:Nat}{row:List Rat}(e:(Cs t)[i]? = some row):((List.range i).map fun j=>[([5*i+j],(1:Int))]).map (Bs fun n=>xT t n*b)=row.map (· * b):=by
 obtain⟨hl,hi⟩:=Qn h e;have h4:=h.most;refine List.ext_getElem? fun j=>?_;rw [List.getElem?_map,List.getElem?_map,List.getElem?_map];by_cases z:j<i
 ·rw [List.getElem?_range z,List.getElem?_eq_getElem (show j<row.length by omega),Option.map_some,Option.map_some,Option.map_some,Rk];rw [V5 t (by omega),List.getD_eq_getElem?_getD (l:=Cs t),e,Option.getD_some,List.getD_eq_getElem?_getD,List.getElem?_eq_getElem (show j<row.length by omega)]
  rfl
 ·rw [List.getElem?_eq_none (by rw [List.length_range];omega),List.getElem?_eq_none (show row.length≤j by omega)]
  rfl
def cv{t:Tb}(h:t.Ok 4)(b:Rat):(RL (t.rs.length+1)).map (List.map (Bs fun n=>xT t n*b))=(Cs t).map (List.map (· * b)):=by
 have hl:(Cs t).length=t.rs.length+1:=by unfold Cs;rw [List.length_append];rfl
 refine List.ext_getElem? fun i=>?_;unfold RL;rw [List.getElem?_map,List.getElem?_map,List.getElem?_map];by_cases z:i<t.rs.length+1
 ·have e:=aI (l:=Cs t) (i:=i) (by omega);rw [List.getElem?_range z,e,Option.map_some,Option.map_some,Option.map_some,WG h b e]
 ·rw [List.getElem?_eq_none (by rw [List.length_range];omega),List.getElem?_eq_none (show(Cs t).length≤i by omega)]
  rfl
def b5(q:Rat):q*(((q.den:Nat):Int):Rat)=(q.num:Rat):=by
 have h:=FM.D9 q;have hd:(((q.den:Nat):Int):Rat)≠0:=fun e=>q.den_nz (by have:=Rat.intCast_eq_zero_iff.mp e;omega);rw [Rat.divInt_eq_div]at h;have e:=Rat.div_mul_cancel (a:=(q.num:Rat)) hd;rw [h]at e;exact e
def Yq{q:Rat}{B:Int}(h:(q.den:Int) ∣ B):((q.num*B.fdiv (q.den:Int):Int):Rat)=q*(B:Rat):=by
 obtain⟨c,rfl⟩:=h;have hd:(q.den:Int)≠0:=by have:=q.den_nz;omega
 rw [Int.mul_fdiv_cancel_left _ hd,Rat.intCast_mul,Rat.intCast_mul,←Rat.mul_assoc,b5]
def MH{r:List Rat}{B:Int}(h:∀q∈r,(q.den:Int) ∣ B):(Ex r B).map (fun n:Int=>(n:Rat))=r.map (· * (B:Rat)):=by
 unfold Ex;rw [List.map_map];exact bO fun q hq=>Yq (h q hq)
def UN{t:Tb}{n:Nat}(h:t.Fits n){m:Nat}(o:t.Ok m):1≤EA t∧(EA t).natAbs<2^(1+n*(m+m*m))∧∀r∈Cs t,∀q∈r,(q.den:Int) ∣ EA t:=by
 obtain⟨h1,h2,h3⟩:=UK (QO h t.rs.length);have hl:=Ji o t.rs.length (aF _);have hm:=o.most;refine⟨h1,Nat.lt_of_lt_of_le h2 (aW (by decide) ?_),fun r hr q hq=>h3 _ ?_⟩
 ·have:t.rs.length+t.rs.length*t.rs.length≤m+m*m:=Nat.add_le_add hm (bX hm hm);have:=ay n (aO hl this);omega
 ·unfold Gd;rw [List.take_length];rcases bZ.mp hr with hr|hr
  ·exact aS _ (List.mem_flatten.mpr ⟨EZ r,List.mem_map.mpr ⟨r,hr,rfl⟩,List.mem_map.mpr ⟨q,hq,rfl⟩⟩)
  ·rw [List.mem_singleton.mp hr]at hq;exact bL _ (aU.mpr ⟨q,hq,rfl⟩)
def WQ{t:Tb}(h:t.Ok 4){n:Nat}(hf:t.Fits n){u:Tr}(hu:u∈A5 5):Km t u=UR t u:=by
 obtain⟨b1,_,b3⟩:=UN hf h;obtain⟨e1,e2⟩:=WO h.one h.most hu (xT t);unfold Km Eb;generalize EA t=B at b1 b3;rw [List.map_append,List.map_singleton,dy];have z:((Mf rI (t.rs.map (fun r=>Ex r B)++[Ex t.ls B]) (Ex t.ls B) u:Int):Rat)=UR t u*(B:Rat)^u.AV:=by
  rw [←Z4 h,←e1,←Uu (xT t) (B:Rat) u.AV _ e2];refine(gJ.last _ _ u).trans ?_;refine Eq.trans ?_ ((eu (fun n=>xT t n*(B:Rat))).last (RL (t.rs.length+1)) ((List.range t.rs.length).map fun j=>[([5*t.rs.length+j],1)]) u).symm;rw [cv h,WG h (B:Rat) (K3 t),MH fun q hq=>b3 t.ls (aS _ (List.mem_singleton.mpr rfl)) q hq]
  congr 1
  unfold Cs;rw [List.map_append,List.map_append,List.map_map]
  congr 1
  ·exact bO fun r hr=>MH fun q hq=>b3 r (bL _ hr) q hq
  ·exact bM (fun x=>[x]) (MH fun q hq=>b3 t.ls (aS _ (List.mem_singleton.mpr rfl)) q hq)
 have hB:((B^u.AV:Int):Rat)≠0:=fun e=>Int.pow_ne_zero (by omega:B≠0) (Rat.intCast_eq_zero_iff.mp e);rw [Rat.divInt_eq_div,z,←Rat.intCast_pow];exact Rat.mul_div_cancel hB
def Z3:Option Tr→PD
 |none=>.none
 |some t=>tD t
def O0:List Tr→List Rat→List Rat→Option Tr
 |t::ts,w::ws,v::vs=>if w=v then O0 ts ws vs else some t
 |_,_,_=>none
abbrev Kf:DF:=Ez (CK (Ej true) (nm 4) (nm 5)) (Bf (nm 3)) CZ
abbrev Ul(ts:List Tr)(ws vs:List Rat)(δ:Dv):Option Ou:=Eu (SW 3 4 5) Kf (JW (ts.map tD) (ws.map Af) (vs.map Af)) δ
def Sz{t:Tr}{ts:List Tr}{w v:Rat}{ws vs:List Rat}(a b c d e f:L)(h:w=v):Ul (t::ts) (w::ws) (v::vs) [a,b,c,d,e,f]=Ul ts ws vs [a,b,c,.d (tD t),.d (Af w),.d (Af v)]:=by
 have e1:Kf [a,b,c,.d (tD t),.d (Af w),.d (Af v)]=some (.nx [a,b,c,.d (tD t),.d (Af w),.d (Af v)]):=Cc (C9 (x:=Af w) (y:=Af v) rfl rfl ((Ma w v).trans (by rw [decide_eq_true h];rfl))) rfl;show(match Kf [a,b,c,.d (tD t),.d (Af w),.d (Af v)]with|some (.nx δ')=>_|some (.ct δ')=>_|some (.bk δ')=>_|some (.rt x)=>_|some (.rn x)=>_|none=>_)=_;rw [e1];rfl
def XX{t:Tr}{ts:List Tr}{w v:Rat}{ws vs:List Rat}(a b c d e f:L)(h:w≠v):Ul (t::ts) (w::ws) (v::vs) [a,b,c,d,e,f]=some (.rt (tD t)):=by
 have e1:Kf [a,b,c,.d (tD t),.d (Af w),.d (Af v)]=some (.rt (tD t)):=Gp (C9 (x:=Af w) (y:=Af v) rfl rfl ((Ma w v).trans (by rw [decide_eq_false h];rfl))) rfl;show(match Kf [a,b,c,.d (tD t),.d (Af w),.d (Af v)]with|some (.nx δ')=>_|some (.ct δ')=>_|some (.bk δ')=>_|some (.rt x)=>_|some (.rn x)=>_|none=>_)=_;rw [e1]
def UQ:∀ {ts:List Tr} {ws vs:List Rat} {t:Tr} (a b c d e f:L),O0 ts ws vs=some t→Ul ts ws vs [a,b,c,d,e,f]=some (.rt (tD t))
 |[],_,_,_,_,_,_,_,_,_,h=>by cases h
 |_::_,[],[],_,_,_,_,_,_,_,h=>by cases h
 |_::_,[],_::_,_,_,_,_,_,_,_,h=>by cases h
 |_::_,_::_,[],_,_,_,_,_,_,_,h=>by cases h
 |s::ts,w::ws,v::vs,t,a,b,c,d,e,f,h=>by
  unfold O0 at h;split at h
  ·rename_i z;rw [Sz a b c d e f z];exact UQ a b c _ _ _ h
  ·rename_i z;cases h;exact XX a b c d e f z
def Ug:∀ {ts:List Tr} {ws vs:List Rat} (a b c d e f:L),O0 ts ws vs=none→∃δ',Ul ts ws vs [a,b,c,d,e,f]=some (.nx δ')
 |[],_,_,_,_,_,_,_,_,_=>⟨_,rfl⟩
 |_::_,[],[],_,_,_,_,_,_,_=>⟨_,rfl⟩
 |_::_,[],_::_,_,_,_,_,_,_,_=>⟨_,rfl⟩
 |_::_,_::_,[],_,_,_,_,_,_,_=>⟨_,rfl⟩
 |s::ts,w::ws,v::vs,a,b,c,d,e,f,h=>by
  unfold O0 at h;split at h
  ·rename_i z;rw [Sz a b c d e f z];exact Ug a b c _ _ _ h
  ·cases h
abbrev JB(ws:List Rat):PD:=.list (ws.map Af)
abbrev IG(ts:List Tr):PD:=.list (L2.Bg (Tr.of ts))
def first_is(ts:List Tr)(ws vs:List Rat):BX [IG ts,JB ws,JB vs]=some (Z3 (O0 ts ws vs)):=by
 refine Ck rfl ?_;unfold KY;have hz:DN Pp (AB (nm 0) (AB (nm 1) (AB (nm 2) AH))) [.d (IG ts),.d (JB ws),.d (JB vs),.no,.no,.no]=some (JW (ts.map tD) (ws.map Af) (vs.map Af)):=by
  show some (JW (L2.Bg (Tr.of ts)) (ws.map Af) (vs.map Af))=_;rw [Kg]
 have hf:Ci (DN Pp (AB (nm 0) (AB (nm 1) (AB (nm 2) AH)))) (SW 3 4 5) Kf [.d (IG ts),.d (JB ws),.d (JB vs),.no,.no,.no]=Ul ts ws vs [.d (IG ts),.d (JB ws),.d (JB vs),.no,.no,.no]:=by
  show(DN Pp _ _).bind _=_;rw [hz];rfl
 cases h:O0 ts ws vs with
 |some t=>exact GG (hf.trans (UQ _ _ _ _ _ _ h))
 |none =>
  obtain⟨δ',k⟩:=Ug (.d (IG ts)) (.d (JB ws)) (.d (JB vs)) .no .no .no h;exact Ay (hf.trans k) rfl
def Wo{α:Type}{i:Nat}{f:Dv→Option PD}{fs:Dv→Option (List PD)}{δ:Dv}{fr:List (Option Nat)}{zs:List α}{a g:α→PD}(hx:fs δ=some (zs.map a))(hl:zs.length≤DH)
 (h:∀z∈zs,f ((EM fr δ).set i (.d (a z)))=some (g z)):Gk (DD i) FG f fr fs δ=some (zs.map g):=by
 unfold Gk;rw [hx,Option.bind_some];have:∀zs:List α,(∀z∈zs,f ((EM fr δ).set i (.d (a z)))=some (g z))→L2.collect (Nt (DD i) FG f (EM fr δ)) (zs.map a)=some (zs.map g):=fun zs=>by
  induction zs with
  |nil=>intro _;rfl
  |cons z zs ih =>
   intro h;rw [List.map_cons,List.map_cons];unfold L2.collect;rw [ih fun y hy=>h y (.tail _ hy)];have e:Nt (DD i) FG f (EM fr δ) (a z)=some (some (g z)):=by
    unfold Nt DD;rw [Option.bind_some];show(some true).bind _=_;rw [Option.bind_some,if_pos rfl,h z (.head _)]
    rfl
   rw [e];rfl
 rw [this zs h,Option.bind_some,Jp,if_pos (by rw [List.length_map];exact hl)]
def Qv{set:PD→Dv→Option Dv}{F:DF}(Iv:Dv→Prop)(g:PD→Option PD):∀(xs:List PD) (δ:Dv),Iv δ→(∀x∈xs,∀δ,Iv δ→∃δ1,set x δ=some δ1∧((∃r,g x=some r∧F δ1=some (.rt r))∨(g x=none∧∃δ2,F δ1=some (.nx δ2)∧Iv δ2))) →
  (∃r,xs.findSome? g=some r∧Eu set F xs δ=some (.rt r))∨(xs.findSome? g=none∧∃δ',Eu set F xs δ=some (.nx δ')∧Iv δ')
 |[],δ,h,_=>.inr ⟨rfl,δ,rfl,h⟩
 |x::xs,δ,h,k=>by
  obtain⟨δ1,h1,h2⟩:=k x (.head _) δ h;rcases h2 with ⟨r,h3,h4⟩|⟨h3,δ2,h4,h5⟩
  ·refine .inl ⟨r,by rw [List.findSome?_cons,h3],?_⟩;unfold Eu;rw [h1,Option.bind_some,h4]
  ·have e:(x::xs).findSome? g=xs.findSome? g:=by rw [List.findSome?_cons,h3]
   have e2:Eu set F (x::xs) δ=Eu set F xs δ2:=by
    rw [Eu,h1,Option.bind_some,h4]
   rw [e,e2];exact Qv Iv g xs δ2 h5 fun y hy=>k y (.tail _ hy)
def QU{set:PD→Dv→Option Dv}{F F2:DF}{fs:Dv→Option (List PD)}{δ:Dv}{xs:List PD}{z:PD}(Iv:Dv→Prop)(g:PD→Option PD)(hx:fs δ=some xs)(h0:Iv δ)(hs:∀x∈xs,∀δ,Iv δ→∃δ1,set x δ=some δ1∧((∃r,g x=some r∧F δ1=some (.rt r))∨(g x=none∧∃δ2,F δ1=some (.nx δ2)∧Iv δ2)))
 (k:∀δ',Iv δ'→F2 δ'=some (.rt z)):Aj (Ci fs set F) F2 δ=some (.rt ((xs.findSome? g).getD z)):=by
 have e:Ci fs set F δ=Eu set F xs δ:=by show(fs δ).bind _=_;rw [hx];rfl
 rcases Qv (F:=F) Iv g xs δ h0 hs with ⟨r,h1,h2⟩|⟨h1,δ',h2,h3⟩
 ·rw [h1];exact GG (e.trans h2)
 ·rw [h1];exact Ay (e.trans h2) (k δ' h3)
def Mq:∀t:Tr,Ec (L2.Bg t)=some t
 |.nil=>by rw [L2.Bg,Ec]
 |.cons b r=>by rw [L2.Bg,Ec,HI,Mq b,Mq r];rfl
def HH:PD→List Rat
 |.list xs=>xs.map VT
 |_=>[]
def OJ(r:List Rat):HH (.list (BA r))=r:=by
 unfold HH BA;show List.map VT (r.map Af)=r;rw [List.map_map];exact List.map_id'' (fun q=>YB q) r
def tabOf:PD→Tb
 |.tuple [.list rs,d]=>⟨rs.map HH,HH d⟩
 |_=>⟨[],[]⟩
def Np(t:Tb):tabOf (Ai t)=t:=by
 unfold Ai tabOf;have e:(Ba t.rs).map HH=t.rs:=by
  unfold Ba;rw [List.map_map];exact List.map_id'' (fun r=>OJ r) t.rs
 show Tb.mk ((Ba t.rs).map HH) (HH (.list (BA t.ls)))=t;rw [e,OJ]
def WM:((A5 6).all fun t=>(A5 6).all fun u=>decide (TH.Bh (some u)≠TH.Bh (some t))||decide (u=t))=true:=by decide +kernel
def Zk:∀u∈A5 6,u.YC=true∧u.deep<8∧u.AV≤6∧∀b∈u.bs,b∈A5 6:=by decide +kernel
def jc:VG (A5 6) 1000:=⟨by decide +kernel,fun a ha b hb e=>by
 have:=ai.mp (ai.mp WM b hb) a ha;rw [Bool.or_eq_true]at this;rcases this with h|h
 ·exact absurd e (aj h)
 ·exact aj h,fun t ht=>(Zk t ht).2.2.2,fun t ht=>(Zk t ht).2.1,fun t ht=>by have:=(Zk t ht).2.2.1;omega⟩
def Tb.Wu(t:Tb):Prop:=∃m n k:Nat,t.Ok m∧m≤40∧t.Fits n∧n*(m+m*m)≤4000∧Ik (Eb t) 1000∧(EA t).natAbs<2^k∧n+k≤4000∧1≤EA t∧k*6≤4000
def YX{t:Tb}{m n k:Nat}(o:t.Ok m)(hm:m≤40)(h:t.Fits n)(b1:1≤EA t)(b2:(EA t).natAbs<2^k)(b3:∀r∈Cs t,∀q∈r,(q.den:Int) ∣ EA t)(hc:n+k+6≤1000):Ik (Eb t) 1000:=by
 have h4:=o.most;have hl:(Eb t).length=t.rs.length+1:=by unfold Eb;rw [List.length_map,List.length_append];rfl
 have one:∀row∈Eb t,row.length≤40∧row.length≤t.rs.length:=fun row hr=>by
  unfold Eb at hr;obtain⟨r,hr',rfl⟩:=aU.mp hr;have e:(Ex r (EA t)).length=r.length:=bN _;rw [e];obtain⟨i,hi⟩:=bU hr';have:=Qn o (show(Cs t)[i]? = some r from hi);omega
 refine⟨by omega,fun row hr=>by have:=one row hr;omega,2^(n+k),fun row hr x hx=>?_,Nat.pow_le_pow_right (by decide) (by omega),fun row hr=>aO (Nat.mul_le_mul_right _ (aO (one row hr).1 (show 40≤2^6 by decide))) ?_⟩
 ·unfold Eb at hr;obtain⟨r,hr',rfl⟩:=aU.mp hr;unfold Ex at hx;obtain⟨q,hq,rfl⟩:=aU.mp hx;have f:FM.Fits q n:=by
   rcases bZ.mp hr' with hr|hr
   ·exact h.1 r hr q hq
   ·rw [List.mem_singleton.mp hr]at hq;exact h.2 q hq
  obtain⟨c,hc⟩:=b3 r hr' q hq;have hd:(q.den:Int)≠0:=by have:=q.den_nz;omega
  have e:(EA t).fdiv (q.den:Int)=c:=by rw [hc,Int.mul_fdiv_cancel_left _ hd]
  have hcb:c.natAbs≤(EA t).natAbs:=by
   rw [hc,Int.natAbs_mul];exact Nat.le_mul_of_pos_left _ (by have:=q.den_nz;omega)
  rw [e,Int.natAbs_mul,Nat.pow_add];exact bX (bG f.1) (aO hcb (bG b2))
 ·rw [←Nat.pow_add];exact aW (by decide) (by omega)
def WC{t:Tb}{m n:Nat}(o:t.Ok m)(hm:m≤40)(h:t.Fits n)(hb:n*(m+m*m)≤600)(hn:n≤300):t.Wu:=by
 obtain⟨b1,b2,b3⟩:=UN h o;exact⟨m,n,1+n*(m+m*m),o,hm,h,by omega,YX o hm h b1 b2 b3 (by omega),b2,by omega,b1,by omega⟩
open Classical in
noncomputable def TB(ds:List PD):Option PD:=match ds with
 |[x,.list ys]=>if x=Ai (tabOf x)∧(tabOf x).Wu∧ys=L2.Bg ((Ec ys).getD .nil)∧(∀u∈((Ec ys).getD .nil).bs,u∈A5 6)∧ys.length≤1000 then some (JB (((Ec ys).getD .nil).bs.map (Km (tabOf x)))) else none
 |_=>none
def fh{t:Tb}(h:t.Wu){ts:List Tr}(hs:∀u∈ts,u∈A5 6)(hl:ts.length≤1000):TB [Ai t,IG ts]=some (JB (ts.map (Km t))):=by
 unfold TB;have e:(Ec (L2.Bg (Tr.of ts))).getD .nil=Tr.of ts:=by rw [Mq];rfl
 refine(if_pos ⟨by rw [Np],by rw [Np];exact h,by rw [e],fun u hu=>hs u (by rw [e,Tr.Mo]at hu;exact hu),by rw [Kg,List.length_map];exact hl⟩).trans ?_;rw [Np,e,Tr.Mo]
def kN{P:Program}{w:World}{K:Fg}{mg:Str→Option VL}{base:Heap}{f:AD}{fd:FuncData}{k:Nat}{ps:List Str}(F:AM P w K mg base Ab k f fd ps (eV (A5 6) 1000)):AM P w K mg base Ab k f fd ps (BE TB) :=
 Mm F fun ds x hm G H vs Q E d e kk=>by
  unfold TB at hm;split at hm
  ·rename_i tx ys;split at hm
   ·rename_i hc;obtain⟨c1,⟨m,n,kb,w1,w2,w3,w4,w5,w6,w7,w8,w9⟩,c3,c4,c5⟩:=hc;cases hm;generalize tabOf tx=t at c1 w1 w3 w5 w6 w8 kk;subst c1;generalize (Ec ys).getD .nil=T at c3 c4 kk;subst c3;obtain⟨v1,v2,rfl,d1,d2⟩:=d.Uo;rw [Du]at d2;obtain⟨L,tvs,rfl,hL,dts⟩:=d2;have ts:=(MU dts).same e;have hlen:tvs.length=T.bs.length:=ts.len;have hll:T.bs.length≤1000:=by
     rw [←hlen,dts.len];exact c5
    refine⟨v1,t,L,tvs,T.bs,m,n,kb,rfl,RG (Mj t) (d1.same e),w1,w2,w3,w4,w5,w6,w7,w8,e _ _ hL,hlen,hll,fun i x hx=>?_,fun D H' zs e' hD hD' dz=>?_⟩
    ·obtain⟨u,hu,tu⟩:=ts.get hx;have hm:=c4 u (aQ hu);have h6:=(Zk u hm).2.2.1;exact⟨u,hu,tu,hm,by omega,Nat.le_trans (ay _ h6) w9⟩
    ·obtain⟨n1,n2,n3⟩:=Uk e e';refine kk (.ref D) _ H' n1 n2 n3 e' ?_;rw [Du];exact⟨D,zs,rfl,Oj hD' hD,IL dz⟩
   ·cases hm
  ·cases hm
abbrev kj:MD:=A1 Ap 9
abbrev W7:MD:=DQ kj
def JF:(List.range 6).map (fun k=>W7 [.int ((k+1:Nat):Int)])=(List.range 6).map fun k=>some (IG (TH.tz k)):=by kernel_rfl
def of_is{k:Nat}(h:k<6):W7 [.int ((k+1:Nat):Int)]=some (IG (TH.tz k)):=bC.mp JF k (bF.mpr h)
def fM:Tr→Nat
 |.nil=>1
 |.cons b r=>b.AV*fM b*fM r
def Qy(u:Tr):Nat:=u.AV*fM u
abbrev PK:MD:=BD (Av 9) 9
def ZQ:(A5 6).map (fun u=>PK [tD u])=(A5 6).map fun u=>some (.int ((Qy u:Nat):Int)):=by kernel_rfl
def bw{u:Tr}(h:u∈A5 6):PK [tD u]=some (.int ((Qy u:Nat):Int)):=bC.mp ZQ u h
def Kc(u:Tr):Rat:=Rat.divInt 1 (Qy u:Nat)
def cu:(A5 6).map (fun u=>Af (Kc u))=(A5 6).map fun u=>PyData.tuple [.int 1,.int ((Qy u:Nat):Int)]:=by kernel_rfl
def Zy{u:Tr}(h:u∈A5 6):Af (Kc u)=.tuple [.int 1,.int ((Qy u:Nat):Int)]:=bC.mp cu u h
abbrev RJ:MD:=B6 PK
def bh{ts:List Tr}(hs:∀u∈ts,u∈A5 6)(hl:ts.length≤1000):RJ [IG ts]=some (JB (ts.map Kc)):=by
 refine cx rfl ?_;unfold J3;have e:Gk (DD 1) FG (Ae (AB (fC (.int 1)) (AB (AO PK (AB (nm 1) AH)) AH))) [none,none] (EK (nm 0)) [.d (IG ts)]=some (ts.map fun u=>Af (Kc u)):=by
  refine Wo (zs:=ts) (a:=tD) (g:=fun u=>Af (Kc u)) ?_ (aO hl (by unfold DH;omega)) fun u hu=>?_
  ·show some (L2.Bg (Tr.of ts))=_;rw [Kg]
  ·rw [Zy (hs u hu)];exact Mk (xs:=[.int 1,.int ((Qy u:Nat):Int)]) (Ar rfl (Ar (Au (xs:=[tD u]) rfl (bw (hs u hu))) rfl)) (by show(2:Nat)≤DH;decide)
 have:Vd (Gk (DD 1) FG (Ae (AB (fC (.int 1)) (AB (AO PK (AB (nm 1) AH)) AH))) [none,none] (EK (nm 0))) [.d (IG ts)]=some (.rn (ts.map fun u=>Af (Kc u))):=by
  show(Gk _ _ _ _ _ _).map _=_;rw [e];rfl
 rw [show(ts.map Kc).map Af=ts.map fun u=>Af (Kc u) by rw [List.map_map];rfl];exact this
def C4(t:Tb)(u:Tr):Bool:=!decide (Km t u=Kc u)
def SU(f g:Tr→Rat):∀ts:List Tr,O0 ts (ts.map f) (ts.map g)=ts.find? fun u=>!decide (f u=g u)
 |[]=>rfl
 |u::ts=>by
  show(if f u=g u then O0 ts (ts.map f) (ts.map g) else some u)=_;rw [List.find?_cons,SU f g ts];by_cases h:f u=g u
  ·rw [if_pos h,decide_eq_true h];rfl
  ·rw [if_neg h,decide_eq_false h];rfl
def Gq(u:Tr):PD:=.tuple [.int ((u.AV-1:Nat):Int),tD u]
def QE(t:Tb):PD:=(((A5 6).find? (C4 t)).map Gq).getD (.tuple [.int 6,.none])
abbrev Z0:MD:=Am (mB Fy)
noncomputable abbrev YT:MD:=Bd BX Z0 W7 RJ TB
def dW{ps N:List Str}{F:DF}{ds:List PD}{δ:Dv}(hl:ds.length=ps.length)(h:F (Jw N ds)=some (.nx δ)):Bt ps N F ds=some .none:=by unfold Bt;rw [if_pos hl,h]
def fS{t:Tb}{m:Nat}(o:t.Ok m)(hm:m≤40):Z0 [Ai t]=some .none:=by
 have e:mB Fy [Ai t]=some (.bool true):=kG (Mj t) (o.is hm);have f:Fp (mB Fy) (Jw ["thing"] [Ai t])=some (.nx [.d (Ai t)]):=by
  unfold Fp;exact Cc (dF (bx (Au (xs:=[Ai t]) rfl e))) rfl
 exact dW rfl f
def Hn(t:Tb)(k:Nat):Option PD:=((TH.tz k).find? (C4 t)).map fun u=>.tuple [.int (k:Nat),tD u]
def Ws:∀k,k<6→(TH.tz k).length≤100∧∀u∈TH.tz k,u∈A5 6∧u.AV=k+1:=by decide +kernel
def cY{k:Nat}(hk:k<6)(t:Tb):Hn t k=((TH.tz k).find? (C4 t)).map Gq:=by
 unfold Hn;cases h:(TH.tz k).find? (C4 t) with
 |none=>rfl
 |some u =>
  have hu:=List.mem_of_find?_eq_some h;have:=((Ws k hk).2 u hu).2;show some (PyData.tuple [.int (k:Nat),tD u])=some (Gq u);unfold Gq;rw [show u.AV-1=k by omega]
def Se(t:Tb):∀n,n≤6→(List.range n).findSome? (Hn t)=((A5 n).find? (C4 t)).map Gq
 |0,_=>rfl
 |n+1,h=>by
  rw [List.range_succ,List.findSome?_append,Se t n (by omega),A5,List.find?_append];rw [show([n]:List Nat).findSome? (Hn t)=Hn t n by rw [List.findSome?_cons];cases Hn t n<;>rfl,cY (by omega)];cases (A5 n).find? (C4 t)<;>rfl
def Na{t:Tb}(h:t.Wu):YT [Ai t]=some (QE t):=by
 obtain⟨m,n,k,o,hm,_⟩:=id h;refine Ck rfl ?_;unfold LW;refine Ay (δ':=[.d (Ai t),.no,.no,.no]) ?_ ?_
 ·show(AO Z0 (AB (nm 0) AH) _).map _=_;rw [Au (xs:=[Ai t]) rfl (fS o hm)];rfl
 have e:=QU (F2:=Bf (Ae (AB (fC (.int 6)) (AB (fC .none) AH)))) (set:=Ea 1) (F:=(Aj (BO 2 (AO W7 (AB (Ag CO (nm 1) (fC (.int 1))) AH)))
  (Aj (BO 3 (AO BX (AB (nm 2) (AB (AO TB (AB (nm 0) (AB (nm 2) AH))) (AB (AO RJ (AB (nm 2) AH)) AH)))))
  (Ez (CK (Ze true) (nm 3) (fC .none))
   (Bf (Ae (AB (nm 1) (AB (nm 3) AH))))
   CZ)))) (fs:=DN HE (AB (fC (.int 6)) AH)) (δ:=[.d (Ai t),.no,.no,.no]) (xs:=Et 0 6) (z:=.tuple [.int 6,.none]) (fun δ=>∃l1 l2 l3:L,δ=[.d (Ai t),l1,l2,l3]) (fun x=>match x with|.int i=>Hn t i.toNat|_=>none) rfl ⟨_,_,_,rfl⟩ ?_ ?_
 ·refine e.trans ?_;have e2:(Et 0 6).findSome? (fun x=>match x with|.int i=>Hn t i.toNat|_=>none)=(List.range 6).findSome? (Hn t):=rfl;rw [e2,Se t 6 (aF _)]
  rfl
 ·rintro x hx δ ⟨l1,l2,l3,rfl⟩;obtain⟨i,hi⟩:=bU hx;obtain⟨rfl,hi6⟩:=Mp hi;rw [Int.zero_add];obtain⟨tl,ts⟩:=Ws i hi6;refine⟨_,rfl,?_⟩;have b1:AO W7 (AB (Ag CO (nm 1) (fC (.int 1))) AH) [.d (Ai t),.d (.int (i:Nat)),l2,l3]=some (IG (TH.tz i)):=Au (xs:=[.int ((i+1:Nat):Int)]) rfl (of_is hi6);have b2:AO BX (AB (nm 2) (AB (AO TB (AB (nm 0) (AB (nm 2) AH))) (AB (AO RJ (AB (nm 2) AH)) AH))) [.d (Ai t),.d (.int (i:Nat)),.d (IG (TH.tz i)),l3]=some (Z3 ((TH.tz i).find? (C4 t))):=by
   refine Au (xs:=[IG (TH.tz i),JB ((TH.tz i).map (Km t)),JB ((TH.tz i).map Kc)]) (Ar rfl (Ar (Au (xs:=[Ai t,IG (TH.tz i)]) rfl (fh h (fun u hu=>(ts u hu).1) (by omega))) (Ar (Au (xs:=[IG (TH.tz i)]) rfl (bh (fun u hu=>(ts u hu).1) (by omega))) rfl))) ?_;rw [first_is,SU]
   rfl
  show(∃r,Hn t i=some r∧_)∨(Hn t i=none∧_);unfold Hn;cases hf:(TH.tz i).find? (C4 t) with
  |some u =>
   rw [hf]at b2;refine .inl ⟨_,rfl,Ay (B5 b1) (Ay (B5 b2) (Gp ?_ rfl))⟩
   rfl
  |none =>
   rw [hf]at b2;refine .inr ⟨rfl,_,Ay (B5 b1) (Ay (B5 b2) (Cc ?_ rfl)),_,_,_,rfl⟩
   rfl
 ·rintro δ ⟨l1,l2,l3,rfl⟩
  rfl
def SK(n:Nat):∀k,∃us,A5 (n+k)=A5 n++us
 |0=>⟨[],by rw [List.append_nil];rfl⟩
 |k+1=>by
  obtain⟨us,h⟩:=SK n k;exact⟨us++TH.tz (n+k),by rw [←List.append_assoc,←h];rfl⟩
abbrev ZI:MD:=Ak 9
abbrev YV:MD:=BR ZI 9
def dD:(A5 5).map (fun u=>ZI [tD u])=(A5 5).map fun u=>some (.int ((u.AV:Nat):Int)):=by kernel_rfl
def dZ:(A5 5).map (fun u=>YV [tD u])=(A5 5).map fun u=>some (.int ((Qy u:Nat):Int)):=by kernel_rfl
def kL{u:Tr}(h:u∈A5 5):u∈A5 6:=bL _ h
def Uz(u:Tr):HI (tD u)=some u:=by rw [HI,Mq]
abbrev Y6:MD:=Co YV ZI R7 Y3
def Pr(t:Tb)(x:PD):Option PD:=match HI x with
 |some u=>if C4 t u=true then some (Gq u) else none
 |none=>none
def WZ{t:Tb}{u:Tr}(h:C4 t u=true):Pr t (tD u)=some (Gq u):=by
 unfold Pr;rw [Uz];exact if_pos h
def We{t:Tb}{u:Tr}(h:C4 t u=false):Pr t (tD u)=none:=by
 unfold Pr;rw [Uz];exact if_neg (by rw [h];decide)
def Ru(t:Tb):∀ts:List Tr,(ts.map tD).findSome? (Pr t)=(ts.find? (C4 t)).map Gq
 |[]=>rfl
 |u::ts=>by
  rw [List.map_cons,List.findSome?_cons,List.find?_cons,Ru t ts];cases h:C4 t u with
  |true=>rw [WZ h];rfl
  |false=>rw [We h]
def fE{t:Tb}(o:t.Ok 4)(s:t.S7){n:Nat}(f:t.Fits n):Y6 [Ai t]=some ((((A5 5).find? (C4 t)).map Gq).getD .none):=by
 refine Ck rfl ?_;unfold OU;refine(QU (xs:=(A5 5).map tD) (z:=.none) (fun δ=>∃l1:L,δ=[.d (Ai t),l1]) (Pr t) ?_ ⟨_,rfl⟩ ?_ ?_).trans ?_
 ·show(AO R7 (AB (fC (.int 5)) AH) _).bind GX=_;rw [Au (xs:=[.int 5]) rfl cZ];show some (L2.Bg (Tr.of (A5 5)))=_;rw [Kg]
 ·rintro x hx δ ⟨l1,rfl⟩;obtain⟨u,hu,rfl⟩:=aU.mp hx;refine⟨_,rfl,?_⟩;have kn:=bC.mp dD u hu;have dn:=bC.mp dZ u hu;have k1:=((X7 5 (by decide)).2 u hu).2.2;have tst:CK (Ej true) (AO Y3 (AB (nm 0) (AB (nm 1) AH))) (Ae (AB (fC (.int 1)) (AB (AO YV (AB (nm 1) AH)) AH))) [.d (Ai t),.d (tD u)]=some (C4 t u):=by
   refine C9 (x:=Af (UR t u)) (y:=Af (Kc u)) (Au (xs:=[Ai t,tD u]) rfl (gE o s hu)) ?_ ?_
   ·rw [Zy (kL hu)];exact Mk (xs:=[.int 1,.int ((Qy u:Nat):Int)]) (Ar rfl (Ar (Au (xs:=[tD u]) rfl dn) rfl)) (by show(2:Nat)≤DH;decide)
   ·unfold C4;rw [WQ o f hu];exact Ma _ _
  cases hb:C4 t u with
  |true =>
   rw [hb]at tst;refine .inl ⟨Gq u,WZ hb,Gp tst (GF ?_)⟩;refine Mk (xs:=[.int ((u.AV-1:Nat):Int),tD u]) (Ar (BJ (x:=.int ((u.AV:Nat):Int)) (y:=.int 1) (Au (xs:=[tD u]) rfl kn) rfl ?_) (Ar rfl rfl)) (by show(2:Nat)≤DH;decide);show some (PyData.int ((u.AV:Int)-1))=_;rw [show(u.AV:Int)-1=((u.AV-1:Nat):Int) by omega]
  |false =>
   rw [hb]at tst;exact .inr ⟨We hb,_,Cc tst rfl,_,rfl⟩
 ·rintro δ ⟨l1,rfl⟩
  rfl
 ·rw [Ru]
def Rl:Nat→Tr
 |0=>.nil
 |n+1=>.cons (Rl n) .nil
def gy:∀m,m≤4→1≤m→Rl m∈A5 (m+1)∧Rl m∈A5 5∧Gn m (Rl m)=[]∧Kc (Rl m)≠0:=by decide +kernel
def fB:∀n,n≤5→∀u∈A5 n,u.AV≤n:=by decide +kernel
def Wr{t:Tb}(o:t.Ok 4){n:Nat}(f:t.Fits n):∃u,u.AV≤t.rs.length+1∧u∈A5 5∧(A5 5).find? (C4 t)=some u∧(A5 6).find? (C4 t)=some u:=by
 have h1:=o.one;have h4:=o.most;obtain⟨c1,c2,c3,c4⟩:=gy t.rs.length h4 h1;have hb:C4 t (Rl t.rs.length)=true:=by
  unfold C4;rw [WQ o f c2,←Z4 o,←(WO h1 h4 c2 (xT t)).1,c3];have:¬(Bs (xT t) []=Kc (Rl t.rs.length)):=fun z=>c4 z.symm;rw [decide_eq_false this]
  rfl
 cases hf:(A5 (t.rs.length+1)).find? (C4 t) with
 |none=>exact absurd hb (by simpa using List.find?_eq_none.mp hf _ c1)
 |some u =>
  have hu:=List.mem_of_find?_eq_some hf;obtain⟨us5,h5⟩:=SK (t.rs.length+1) (5-(t.rs.length+1));rw [show t.rs.length+1+(5-(t.rs.length+1))=5 by omega]at h5;have f5:(A5 5).find? (C4 t)=some u:=by rw [h5,List.find?_append,hf];rfl
  refine⟨u,fB _ (by omega) u hu,by rw [h5];exact bL _ hu,f5,?_⟩;rw [A5,List.find?_append,f5];rfl
def qq(a:Int)(b:Nat):Rat:=Rat.divInt a b
def six:Tb:=⟨[[],[qq 1 3],[qq 0 1,qq 2 3],[qq 1 12,qq 1 3,qq (-1) 12],[qq (-1) 16,qq 9 8,qq (-3) 16,qq (-3) 8],[qq 0 1,qq 9 8,qq (-3) 8,qq (-3) 4,qq 1 2],[qq 9 44,qq (-9) 11,qq 63 44,qq 18 11,qq 0 1,qq (-16) 11]],[qq 11 120,qq 0 1,qq 27 40,qq 27 40,qq (-4) 15,qq (-4) 15,qq 11 120]⟩
def six_is:Cn []=some (Ai six):=by kernel_rfl
def h9(m n:Nat)(t:Tb):Bool:=decide (1≤t.rs.length)&&decide (t.rs.length≤m)&&decide (t.ls.length=t.rs.length)&&(List.range m).all (fun i=>match t.rs[i]? with|some r=>decide (r.length=i)|none=>true)&&t.rs.all (fun r=>r.all fun q=>decide (q.num.natAbs<2^n∧q.den<2^n))&&t.ls.all fun q=>decide (q.num.natAbs<2^n∧q.den<2^n)
def XA{m n:Nat}{t:Tb}(h:h9 m n t=true):t.Ok m∧t.Fits n:=by
 unfold h9 at h;simp only [Bool.and_eq_true,decide_eq_true_eq,List.all_eq_true,List.mem_range]at h;obtain⟨⟨⟨⟨⟨h1,h2⟩,h3⟩,h4⟩,h5⟩,h6⟩:=h;refine⟨⟨h1,h2,h3,fun i r hr=>?_⟩,fun r hr q hq=>h5 r hr q hq,fun q hq=>h6 q hq⟩;have:=h4 i (by have:=(aD.mp hr).1;omega);rw [hr]at this
 simpa using this
def gU:six.Wu:=by
 obtain⟨o,f⟩:=XA (m:=7) (n:=7) (t:=six) (by decide +kernel);exact WC o (by decide) f (by decide) (by decide)
def ZG:(A5 6).all (fun u=>!C4 six u)=true:=by decide +kernel
def dC:QE six=.tuple [.int 6,.none]:=by
 unfold QE;rw [List.find?_eq_none.mpr fun u hu=>by simpa using ai.mp ZG u hu]
 rfl
def QT:List Tb:=[Z2,gL,gw,fq,gn]
abbrev ZR:MD:=B7 Z0 BH
def dU:QT.map (fun a=>QT.map fun b=>ZR [Ai a,Ai b])=QT.map fun a=>QT.map fun b=>some (Ai (a.behind b)):=by kernel_rfl
def dm:(QT.all fun a=>QT.all fun b=>h9 8 3 (a.behind b)&&C4 (a.behind b) .nil)=true:=by decide +kernel
def UI(n:Int):Cf n∈QT:=by
 unfold Cf QT;split
 ·simp
 ·split
  ·simp
  ·split
   ·simp
   ·split<;>simp
def iP(x y:Int):ZR [Ai (Cf x),Ai (Cf y)]=some (Ai ((Cf x).behind (Cf y)))∧((Cf x).behind (Cf y)).Wu∧QE ((Cf x).behind (Cf y))=.tuple [.int 0,.tuple []]:=by
 have hx:=UI x;have hy:=UI y;generalize Cf x=a at hx;generalize Cf y=b at hy;have h:=ai.mp (ai.mp dm a hx) b hy;rw [Bool.and_eq_true]at h;obtain⟨o,f⟩:=XA h.1;refine⟨bC.mp (bC.mp dU a hx) b hy,WC o (by decide) f (by decide) (by decide),?_⟩;unfold QE;have:(A5 6).find? (C4 (a.behind b))=some .nil:=by
  obtain⟨us,hu⟩:=SK 1 5;rw [show(6:Nat)=1+5 from rfl,hu,show A5 1=[.nil] from rfl];rw [List.cons_append,List.find?_cons,h.2]
 rw [this]
 rfl
def XI{t:Tb}(o:t.Ok 4):B2 [Ai t]=some (Ai t):=by
 refine Ck rfl ?_;unfold Lg;have hm:=o.most;have c1:Ee (DD 1) FG (AO G7 (AB (nm 1) AH)) [none,none] (EK (Ag Ce (nm 0) (fC (.int 0)))) [.d (Ai t)]=some (.list (Ba t.rs)):=by
  refine(comp_map (xs:=Ba t.rs) (g:=fun x=>x) rfl (by rw [Ed];unfold DH;omega) fun x hx=>?_).trans ?_
  ·obtain⟨r,_,rfl⟩:=aU.mp hx
   rfl
  ·rw [List.map_id']
 have c2:AO G7 (AB (Ag Ce (nm 0) (fC (.int 1))) AH) [.d (Ai t)]=some (.list (BA t.ls)):=by
  rfl
 exact GF (Mk (xs:=[.list (Ba t.rs),.list (BA t.ls)]) (Ar c1 (Ar c2 rfl)) (by show(2:Nat)≤DH;decide))
def Tb.Sm.fits{t:Tb}(h:t.Sm):t.Fits 3:=⟨fun r hr q hq=>(h.1 r hr q hq).1,fun q hq=>(h.2 q hq).1⟩
def QL.jS{q:Rat}(h:QL q):Fo 60 420 q:=by
 obtain⟨⟨h1,_⟩,h3⟩:=h;have hz:=q.den_nz;have e:=FM.D9 q;have go:∀k:Int,k≠0→(q.den:Int)*k=60→k.natAbs≤60→Fo 60 420 q:=fun k hk e2 hl=>⟨q.num*k,by rw [←e2,Rat.divInt_mul_right hk];exact e.symm,by
  rw [Int.natAbs_mul];exact aO (bX (show q.num.natAbs≤7 by omega) hl) (by decide)⟩
 have:q.den=1∨q.den=2∨q.den=3∨q.den=4∨q.den=5∨q.den=6:=by omega
 rcases this with h|h|h|h|h|h
 ·exact go 60 (by decide) (by rw [h];decide) (by decide)
 ·exact go 30 (by decide) (by rw [h];decide) (by decide)
 ·exact go 20 (by decide) (by rw [h];decide) (by decide)
 ·exact go 15 (by decide) (by rw [h];decide) (by decide)
 ·exact go 12 (by decide) (by rw [h];decide) (by decide)
 ·exact go 10 (by decide) (by rw [h];decide) (by decide)
def Tb.Sm.s7{t:Tb}(h:t.Sm):t.S7:=⟨fun r hr q hq=>(h.1 r hr q hq).jS,fun q hq=>(h.2 q hq).jS⟩
def gQ:((A5 5).all fun u=>SeqAt.shaped (Gq u)&&PyData.eqv (Gq u) (Gq u))=true:=by decide +kernel
def Zr{u:Tr}(h:u∈A5 5):Ej true (Gq u) (Gq u)=some (.bool false):=by
 have:=ai.mp gQ u h;rw [Bool.and_eq_true]at this;refine(if_pos ⟨this.1,this.1⟩).trans ?_;rw [this.2];rfl
def gX{t:Tb}(o:t.Ok 4):Ej true (Ai t) (Ai t)=some (.bool false):=by
 have smx:=o.sm (show 4≤60 by decide);have sh:=smx.ok.shaped (by decide);refine(if_pos ⟨sh,sh⟩).trans ?_;rw [Nb _ (Mj t)];rfl
noncomputable abbrev gz:MD:=Zx BZ B2 Y6 Bn Cn N3 ZR YT
def Uh{t:Tb}(o:t.Ok 4)(s:t.Sm):∃u,u.AV≤t.rs.length+1∧u∈A5 5∧YT [Ai t]=some (Gq u)∧Y6 [Ai t]=some (Gq u):=by
 obtain⟨u,h1,h2,h3,h4⟩:=Wr o s.fits;refine⟨u,h1,h2,?_,?_⟩
 ·rw [Na (WC o (by decide) s.fits (by decide) (by decide))];unfold QE;rw [h4];rfl
 ·rw [fE o s.s7 s.fits,h3];rfl
def fw(ns:List Int):gz [Cg ns]=some (.bool true):=by
 obtain⟨o0,s0⟩:=XH (Ca ns 0) (Ca ns 1) (most:=4) (by decide) (by decide);obtain⟨o4,s4⟩:=XH (Ca ns 4) (Ca ns 5) (most:=4) (by decide) (by decide);have d0:N3 [Cg ns,.int 0,.int 4]=_:=U0 ns 0 4 (by decide) (by decide);have d4:N3 [Cg ns,.int 4,.int 4]=_:=U0 ns 4 4 (by decide) (by decide);generalize NR (Ca ns 0) (Ca ns (0+1)) 4=t0 at d0 o0 s0;generalize NR (Ca ns 4) (Ca ns (4+1)) 4=t4 at d4 o4 s4;obtain⟨u0,k0,m0,r0,w0⟩:=Uh o0 s0;obtain⟨u4,k4,m4,r4,w4⟩:=Uh o4 s4;have kp:=((X7 5 (by decide)).2 u0 m0).2.2;refine Ck rfl ?_;unfold Zw;refine Ay (δ':=[.d (Cg ns),.no,.no,.no,.no,.no,.no,.no]) (Cc (C9 (x:=.tuple [.int 6,.none]) (y:=.tuple [.int 6,.none]) (Au (xs:=[Ai six]) (Ar (Au (xs:=[]) rfl six_is) rfl) ((Na gU).trans (by rw [dC]))) rfl (by kernel_rfl)) rfl) ?_;refine Ay (B5 (Au (xs:=[Cg ns,.int 0,.int 4]) rfl d0)) ?_;refine Ay (B5 (Au (xs:=[Ai t0]) rfl (XI o0))) ?_;refine Ay (B5 (Au (xs:=[Ai t0]) rfl w0)) ?_;refine Te (xs:=Et 0 2) (fun i δ=>∃l4 l5:L,δ=[.d (Cg ns),.d (Ai t0),.d (Ai t0),.d (Gq u0),l4,l5,.no,.no]) rfl ⟨_,_,rfl⟩ ?_ ?_
 ·rintro i x δ hx ⟨l4,l5,rfl⟩;refine⟨_,rfl,IQ (B5 (Au (xs:=[Ai t0]) rfl r0)) ?_⟩;refine IQ (Cc (C9 (Au (xs:=[Ai t4]) (Ar (Au (xs:=[Cg ns,.int 4,.int 4]) rfl d4) rfl) r4) (Au (xs:=[Ai t4]) (Ar (Au (xs:=[Cg ns,.int 4,.int 4]) rfl d4) rfl) w4) (Zr m4)) rfl) ?_;refine IQ (Cc (OM rfl (OM (C9 (x:=.int 2) (y:=.int 2) rfl rfl (by kernel_rfl)) (OM (C9 rfl rfl (Zr m0)) (C9 rfl rfl (gX o0))))) rfl) ?_;refine⟨_,Cc (OM rfl (OM rfl (C9 (x:=.int ((u0.AV-1:Nat):Int)) (y:=.int ((Ba t0.rs).length:Nat)) rfl rfl ?_))) rfl,_,_,rfl⟩;show some (PyData.bool (decide (((Ba t0.rs).length:Int)<((u0.AV-1:Nat):Int))))=_;rw [Ed,decide_eq_false (by omega)]
 ·rintro δ ⟨l4,l5,rfl⟩;have hc:∀(a b c d e g h:L),AO BZ (AB (nm 0) (AB (fC (.int 2)) AH)) [.d (Cg ns),a,b,c,d,e,g,h]=some (.int (Ca ns 2)):=fun _ _ _ _ _ _ _=>Au (xs:=[Cg ns,.int 2]) rfl (RY ns 2);generalize Ca ns 2=x at hc;obtain⟨b1,b2,b3⟩:=iP x (x / 5 % 4);refine Ay (B5 (Au (xs:=[.int x]) (Ar (hc _ _ _ _ _ _ _) rfl) (OB x))) ?_;refine Ay (B5 (Au (xs:=[.int (x / 5 % 4)]) (Ar (BJ (x:=.int (x / 5)) (y:=.int 4) (BJ (x:=.int x) (y:=.int 5) (hc _ _ _ _ _ _ _) rfl (div_is (by decide) (by decide))) rfl (mod_is (by decide))) rfl) (OB (x / 5 % 4)))) ?_;refine GF (BJ (x:=.tuple [.int 0,.tuple []]) (y:=.tuple [.int 0,.tuple []]) (Au (xs:=[Ai ((Cf x).behind (Cf (x / 5 % 4)))]) (Ar (Au (xs:=[Ai (Cf x),Ai (Cf (x / 5 % 4))]) rfl b1) rfl) ((Na b2).trans (by rw [b3]))) rfl (by kernel_rfl))
def WE(K:Fg):Sp:=fun vs H Q _=>∃(a:AD) (ns:List Int),vs=[.ref a]∧Al K H a (ns.map V.int)∧ns.length≤63∧∀H',Q (.bl true) H'
def eZ{P:Program}{w:World}{K:Fg}{mg:Str→Option VL}{base:Heap}{f:AD}{fd:FuncData}{k:Nat}(hK:RN K=true)(F:AM P w K mg base Ab k f fd ["_law_script"] (BE gz)):AM P w K mg base Ab k f fd ["_law_script"] (WE K) :=
 F.imp fun vs H Q E z=>by
  obtain⟨a,ns,rfl,hS,_,q⟩:=z;refine⟨[Cg ns],.bool true,H,fw ns,.cons (Wc (eC hK hS)) .nil,.refl _,fun v G' H' _ _ _ _ dv=>?_⟩;rw [Du]at dv;subst dv;exact q H'
def Wa(n:Nat)(g:Tr→Nat):Sp:=fun vs H Q _=>∃v t,vs=[v]∧Tv H t v∧t.deep<n∧n≤60∧t.AV≤8∧∀H',AK H H'→Q (.int (g t)) H'
def ZA{P:Program}{w:World}{K:Fg}{mg:Str→Option VL}{base:Heap}{CX:HW}{k:Nat}{f:AD}{fd:FuncData}{ps:List Str}{sp:Sp}(h:∀vs H Q E,¬sp vs H Q E):AM P w K mg base CX k f fd ps sp :=
 ⟨fun _ _ _ _ z=>(h _ _ _ _ z).elim,fun _ _ _ _ _ _ _ _ _ _ _ _ _ z=>(h _ _ _ _ z).elim⟩
section
variable{P:Program}{w:World}{K:Fg}{mg:Str→Option VL}{base:Heap}{f g g1 g2 g3:AD}{fd gd gd1 gd2 gd3:FuncData}
def OQ:Ac ["tree"] ["tree"] (AQ Dc):=B3
def Jk(A2:Fn K mg "knots_within" Dc ["tree"] f fd)(Dj:mg "sum" = none):∀n,AM P w K mg base Ab n f fd ["tree"] (Wa n Tr.AV)
 |0=>ZA fun _ _ _ _ ⟨_,_,_,_,h,_⟩=>absurd h (ao _)
 |n+1=>by
  have sc:=OQ;have BV:=Jk A2 Dj n;refine A2.F.ok (k:=n) sc (fun vs H Q E h=>?_) (fun cdv A outer s H vs Q E hr h=>?_)
  ·obtain⟨v,t,rfl,_⟩:=h
   rfl
  obtain⟨v,t,rfl,⟨a,xs,rfl,ha,ht⟩,hd,hn,hk,q⟩:=h;refine⟨_,(Ah (BU (BP MI Ad (BL (N5 rfl) rfl Dj ba (AI (HG [".0", "bough"] 1 [none,none] (Sg (pv 0)) (fun _ _ _ _ _=>FV) (fun _ _ _ _ _=>(B4 A2 BV hr rfl (AI (pv 1) AR)))) AR))))),?_⟩;have hlen:=ht.len;have hsz:xs.length<8:=by rw [hlen];have:=Tr.Lz t;omega
  refine⟨_,rfl,a,rfl,⟨_,A7.of ha⟩,fun D hD=>HK (n:=xs.length) (fun i ys H'=>AK H H'∧ys=(t.bs.take i).map fun c=>V.int (c.AV:Nat)) ?_ ?_ ?_⟩
  ·exact⟨AZ hD _,by simp⟩
  ·rintro i ys H0 hi ⟨e0,rfl⟩ hD0;have hi':i<t.bs.length:=by omega
   refine⟨⟨xs,xs[i],A7.of (e0 _ _ ha),by simp [hi]⟩,?_,fun x H' y=>?_⟩
   ·rw [List.length_map,List.length_take];exact ae (Nat.min_le_left _ _) (aK (Nat.lt_trans hi hsz) (by rw [sizeLine_eq];decide))
   ·obtain⟨rfl,y⟩:=y;have hx:=y xs (A7.of (e0 _ _ ha));obtain⟨c,hc,tc⟩:=ht.get hx;have hcm:c∈t.bs:=aQ hc;have hcd:=Tr.Rc hcm;have hck:=Tr.JX hcm;unfold IY;refine Ew ⟨_,rfl,x,c,rfl,tc.same e0,by omega,by omega,by omega,fun H2 e2=>⟨e2 _ _ hD0,Fb hi ⟨?_,?_⟩⟩⟩
    ·exact fun b o z=>by
      rw [AJ (AU z hD)];exact e2 _ _ (e0 _ _ z)
    ·rw [List.take_succ,hc];simp
  ·rintro ys H0 ⟨e0,rfl⟩ hD0;refine⟨⟨xs,A7.of (e0 _ _ ha),Nat.le_refl _⟩,?_⟩;refine⟨D,t.bs.map fun c=>(c.AV:Int),rfl,Al.of ?_,_,_,rfl,rfl,?_⟩
   ·rw [hD0,hlen,List.take_length,List.map_map]
    rfl
   ·show Q (.int (1+(t.bs.map fun c=>(c.AV:Int)).sum)) H0;rw [Tr.Qr];exact q H0 e0
end
def jH{P:Program}{w:World}{K:Fg}{mg:Str→Option VL}{base:Heap}{f:AD}{fd:FuncData}{k:Nat}{ps:List Str}(F:AM P w K mg base Ab k f fd ps (Wa 8 Tr.AV)):AM P w K mg base Ab k f fd ps d7 :=
 F.imp fun vs H Q E z=>by
  obtain⟨v,u,rfl,tv,hd,hk,q⟩:=z;exact⟨v,u,rfl,tv,hd,by decide,hk,q⟩
section
open PySem.W PyProof.Rows PySem.Calls
abbrev Eg:Program:=PySem.Challenge.pw_stepgrove_k48_orders_of_tables
abbrev Bu:OpenLaw:=PySem.Challenge.rw_stepgrove_k48_orders_of_tables
noncomputable abbrev dE(P:Params)(x:String)(t:Nat)(v:VL):DictEntry:=⟨PyData.keyHash P (Str.ofString x),.str (Str.ofString x) t,v⟩
noncomputable abbrev sV(x:String)(t:Nat):VL:=.str (Str.ofString x) t
noncomputable abbrev fO(n:String)(i:Nat)(m:String)(t c:Nat):Obj:=⟨.type "function",none,.func (fnOf n n (Fi (top i)) (EJ (top i)) (AQ (top i)) .none .none .none (.str (Str.ofString m) t) none (.ref c) .none),#[]⟩
noncomputable abbrev cO(n:String)(t l a k r:Nat)(b:Bool)(r2:Nat)(v1 v2 v3 v4:VL)(t2:Nat):Obj:=⟨.type "code",none,.fields #[sV n t,sV n (t+1),sV "/claim/cut.py" (t+2),.int l 0,.int a 0,.int 0 0,.int 0 0,.int k 0,.ref r,.bool b,.int 181 0,.ref r2,v1,v2,v3,v4,.int t2 0,.int l 0,sV "/claim/cut.py" (t2+1)],#[]⟩
noncomputable def kH:Params→Frag:=fun P =>
 (nat_lit 2,⟨.none,none,(.dict #[] 0),#[]⟩) ::
 (nat_lit 3,⟨(.type "dict"),none,(.dict #[dE P "__name__" 165 (sV "law_stepgrove_k48_orders_of_tables" 474),dE P "__doc__" 166 .none,dE P "__package__" 167 .none,dE P "__loader__" 168 (.builtin "__main__.__loader__#opaque"),dE P "__spec__" 169 .none,dE P "__annotations__" 170 (.ref 6),dE P "__builtins__" 171 (.ref 4),dE P "__file__" 173 (sV "/claim/cut.py" 172),dE P "__cached__" 174 .none,dE P "GroveError" 206 (.ref 24),dE P "NoBottom" 222 (.ref 37),dE P "NoTable" 238 (.ref 49),dE P "TooMany" 254 (.ref 61),dE P "fraction_of" 265 (.ref 70),dE P "is_fraction" 272 (.ref 77),dE P "are_fractions" 280 (.ref 84),dE P "is_whole" 287 (.ref 91),dE P "greatest_divisor" 298 (.ref 98),dE P "common_bottom" 307 (.ref 105),dE P "power_of" 318 (.ref 112),dE P "MOST_ROWS" 322 (.int 40 321),dE P "is_table" 329 (.ref 119),dE P "refuse_no_table" 336 (.ref 126),dE P "are_rows" 345 (.ref 133),dE P "MOST_KNOTS" 349 (.int 7 348),dE P "trees_of" 360 (.ref 140),dE P "in_falling_order" 367 (.ref 147),dE P "knots_within" 373 (.ref 152),dE P "density_within" 382 (.ref 159),dE P "trees_one_larger" 393 (.ref 166),dE P "tops_over" 401 (.ref 171),dE P "table_bottom" 407 (.ref 176),dE P "true_weights" 415 (.ref 181),dE P "weights_under" 421 (.ref 186),dE P "readings" 427 (.ref 191),dE P "read_by" 433 (.ref 196),dE P "MOST_ORDER" 437 (.int 6 436),dE P "table_order" 447 (.ref 203),dE P "first_unlike" 459 (.ref 210),dE P "table_behind" 467 (.ref 215),dE P "refuse_too_many_rows" 473 (.ref 220),dE P "_law_cell" 485 (.ref 227),dE P "_law_frac" 495 (.ref 234),dE P "_law_add" 503 (.ref 241),dE P "_law_mul" 511 (.ref 248),dE P "_law_all" 520 (.ref 255),dE P "_law_kept" 526 (.ref 260),dE P "_law_longer" 532 (.ref 265),dE P "_law_trees" 544 (.ref 272),dE P "_law_knots" 550 (.ref 277),dE P "_law_density" 559 (.ref 284),dE P "_law_entry" 566 (.ref 291),dE P "_law_named" 573 (.ref 298),dE P "_law_table" 590 (.ref 305),dE P "_law_copied" 596 (.ref 310),dE P "_law_flat" 602 (.ref 315),dE P "_law_power" 612 (.ref 322),dE P "_law_read" 621 (.ref 329),dE P "_law_weight" 637 (.ref 336),dE P "_law_due" 645 (.ref 343),dE P "_law_six" 652 (.ref 350),dE P "law" 666 (.ref 357)] 62),#[]⟩) ::
 (nat_lit 15,⟨(.type "tuple"),none,(.seq #[(.type "ValueError")] 0),#[]⟩) ::
 (nat_lit 22,⟨(.type "tuple"),none,(.seq #[] 0),#[]⟩) ::
 (nat_lit 23,⟨(.type "dict"),none,(.dict #[dE P "__module__" 196 (sV "stepgrove.errors" 187),dE P "__firstlineno__" 200 (.int 2 199),dE P "__static_attributes__" 201 (.ref 22),dE P "__weakref__" 203 (.ref 25),dE P "__doc__" 204 .none] 3),#[]⟩) ::
 (nat_lit 24,⟨(.type "type"),none,(.cls ⟨Str.ofString "GroveError",[(.type "ValueError")],[(.ref 24),(.type "ValueError"),(.type "Exception"),(.type "BaseException"),(.type "object")],23,Str.ofString "GroveError",true,[],[(.ref 37),(.ref 49),(.ref 61)],false,none,false⟩),#[some (.ref 15),none,some (sV "GroveError" 189),some (sV "GroveError" 197),some (.builtin "ValueError.__new__"),some (.bool true)]⟩) ::
 (nat_lit 25,⟨(.type "getset_descriptor"),none,(.fields #[(sV "__weakref__" 202),(.ref 24),(.builtin "ExceptionGroup.__weakref__"),.none]),#[]⟩) ::
 (nat_lit 28,⟨(.type "tuple"),none,(.seq #[(.ref 24)] 0),#[]⟩) ::
 (nat_lit 35,⟨(.type "tuple"),none,(.seq #[] 0),#[]⟩) ::
 (nat_lit 36,⟨(.type "dict"),none,(.dict #[dE P "__module__" 214 (sV "stepgrove.errors" 187),dE P "__firstlineno__" 218 (.int 4 217),dE P "__static_attributes__" 219 (.ref 35),dE P "__doc__" 220 .none] 2),#[]⟩) ::
 (nat_lit 37,⟨(.type "type"),none,(.cls ⟨Str.ofString "NoBottom",[(.ref 24)],[(.ref 37),(.ref 24),(.type "ValueError"),(.type "Exception"),(.type "BaseException"),(.type "object")],36,Str.ofString "NoBottom",true,[],[],false,none,false⟩),#[some (.ref 28),none,some (sV "NoBottom" 207),some (sV "NoBottom" 215),some (.builtin "ValueError.__new__"),some (.bool true)]⟩) ::
 (nat_lit 40,⟨(.type "tuple"),none,(.seq #[(.ref 24)] 0),#[]⟩) ::
 (nat_lit 47,⟨(.type "tuple"),none,(.seq #[] 0),#[]⟩) ::
 (nat_lit 48,⟨(.type "dict"),none,(.dict #[dE P "__module__" 230 (sV "stepgrove.errors" 187),dE P "__firstlineno__" 234 (.int 6 233),dE P "__static_attributes__" 235 (.ref 47),dE P "__doc__" 236 .none] 2),#[]⟩) ::
 (nat_lit 49,⟨(.type "type"),none,(.cls ⟨Str.ofString "NoTable",[(.ref 24)],[(.ref 49),(.ref 24),(.type "ValueError"),(.type "Exception"),(.type "BaseException"),(.type "object")],48,Str.ofString "NoTable",true,[],[],false,none,false⟩),#[some (.ref 40),none,some (sV "NoTable" 223),some (sV "NoTable" 231),some (.builtin "ValueError.__new__"),some (.bool true)]⟩) ::
 (nat_lit 52,⟨(.type "tuple"),none,(.seq #[(.ref 24)] 0),#[]⟩) ::
 (nat_lit 59,⟨(.type "tuple"),none,(.seq #[] 0),#[]⟩) ::
 (nat_lit 60,⟨(.type "dict"),none,(.dict #[dE P "__module__" 246 (sV "stepgrove.errors" 187),dE P "__firstlineno__" 250 (.int 8 249),dE P "__static_attributes__" 251 (.ref 59),dE P "__doc__" 252 .none] 2),#[]⟩) ::
 (nat_lit 61,⟨(.type "type"),none,(.cls ⟨Str.ofString "TooMany",[(.ref 24)],[(.ref 61),(.ref 24),(.type "ValueError"),(.type "Exception"),(.type "BaseException"),(.type "object")],60,Str.ofString "TooMany",true,[],[],false,none,false⟩),#[some (.ref 52),none,some (sV "TooMany" 239),some (sV "TooMany" 247),some (.builtin "ValueError.__new__"),some (.bool true)]⟩) ::
 (nat_lit 69,cO "fraction_of" 257 11 2 3 64 true 65 .none (.ref 66) (.ref 67) (.ref 68) 263) ::
 (nat_lit 70,fO "fraction_of" 6 "stepgrove.fracs" 255 69) ::
 (nat_lit 76,cO "is_fraction" 266 18 1 3 71 true 72 .none (.ref 73) (.ref 74) (.ref 75) 270) ::
 (nat_lit 77,fO "is_fraction" 7 "stepgrove.fracs" 255 76) ::
 (nat_lit 83,cO "are_fractions" 273 24 1 3 78 true 79 .none (.ref 80) (.ref 81) (.ref 82) 278) ::
 (nat_lit 84,fO "are_fractions" 8 "stepgrove.fracs" 255 83) ::
 (nat_lit 90,cO "is_whole" 281 31 1 3 85 true 86 .none (.ref 87) (.ref 88) (.ref 89) 285) ::
 (nat_lit 91,fO "is_whole" 9 "stepgrove.fracs" 255 90) ::
 (nat_lit 97,cO "greatest_divisor" 288 33 2 3 92 true 93 .none (.ref 94) (.ref 95) (.ref 96) 296) ::
 (nat_lit 98,fO "greatest_divisor" 10 "stepgrove.fracs" 255 97) ::
 (nat_lit 104,cO "common_bottom" 299 41 1 3 99 true 100 .none (.ref 101) (.ref 102) (.ref 103) 305) ::
 (nat_lit 105,fO "common_bottom" 11 "stepgrove.fracs" 255 104) ::
 (nat_lit 111,cO "power_of" 308 46 2 3 106 true 107 .none (.ref 108) (.ref 109) (.ref 110) 316) ::
 (nat_lit 112,fO "power_of" 12 "stepgrove.fracs" 255 111) ::
 (nat_lit 118,cO "is_table" 323 59 1 3 113 true 114 .none (.ref 115) (.ref 116) (.ref 117) 327) ::
 (nat_lit 119,fO "is_table" 15 "stepgrove.tables" 319 118) ::
 (nat_lit 125,cO "refuse_no_table" 330 63 1 3 120 true 121 .none (.ref 122) (.ref 123) (.ref 124) 334) ::
 (nat_lit 126,fO "refuse_no_table" 16 "stepgrove.tables" 319 125) ::
 (nat_lit 132,cO "are_rows" 337 66 1 3 127 true 128 .none (.ref 129) (.ref 130) (.ref 131) 343) ::
 (nat_lit 133,fO "are_rows" 17 "stepgrove.tables" 319 132) ::
 (nat_lit 139,cO "trees_of" 350 75 1 3 134 true 135 .none (.ref 136) (.ref 137) (.ref 138) 358) ::
 (nat_lit 140,fO "trees_of" 20 "stepgrove.trees" 346 139) ::
 (nat_lit 146,cO "in_falling_order" 361 85 1 3 141 true 142 .none (.ref 143) (.ref 144) (.ref 145) 365) ::
 (nat_lit 147,fO "in_falling_order" 21 "stepgrove.trees" 346 146) ::
 (nat_lit 151,cO "knots_within" 368 87 1 3 148 true 149 .none .none .none (.ref 150) 371) ::
 (nat_lit 152,fO "knots_within" 22 "stepgrove.trees" 346 151) ::
 (nat_lit 158,cO "density_within" 374 89 1 3 153 true 154 .none (.ref 155) (.ref 156) (.ref 157) 380) ::
 (nat_lit 159,fO "density_within" 23 "stepgrove.trees" 346 158) ::
 (nat_lit 165,cO "trees_one_larger" 383 94 1 3 160 true 161 .none (.ref 162) (.ref 163) (.ref 164) 391) ::
 (nat_lit 166,fO "trees_one_larger" 24 "stepgrove.trees" 346 165) ::
 (nat_lit 170,cO "tops_over" 396 101 2 3 167 true 168 .none .none .none (.ref 169) 399) ::
 (nat_lit 171,fO "tops_over" 26 "stepgrove.wholes" 394 170) ::
 (nat_lit 175,cO "table_bottom" 402 103 1 3 172 true 173 .none .none .none (.ref 174) 405) ::
 (nat_lit 176,fO "table_bottom" 27 "stepgrove.wholes" 394 175) ::
 (nat_lit 180,cO "true_weights" 410 109 1 3 177 true 178 .none .none .none (.ref 179) 413) ::
 (nat_lit 181,fO "true_weights" 29 "stepgrove.weights" 408 180) ::
 (nat_lit 185,cO "weights_under" 416 111 2 3 182 true 183 .none .none .none (.ref 184) 419) ::
 (nat_lit 186,fO "weights_under" 30 "stepgrove.weights" 408 185) ::
 (nat_lit 190,cO "readings" 422 119 3 3 187 true 188 .none .none .none (.ref 189) 425) ::
 (nat_lit 191,fO "readings" 31 "stepgrove.weights" 408 190) ::
 (nat_lit 195,cO "read_by" 428 126 2 3 192 true 193 .none .none .none (.ref 194) 431) ::
 (nat_lit 196,fO "read_by" 32 "stepgrove.weights" 408 195) ::
 (nat_lit 202,cO "table_order" 438 130 1 3 197 true 198 .none (.ref 199) (.ref 200) (.ref 201) 445) ::
 (nat_lit 203,fO "table_order" 35 "stepgrove.orders" 434 202) ::
 (nat_lit 209,cO "first_unlike" 448 138 3 3 204 true 205 .none (.ref 206) (.ref 207) (.ref 208) 457) ::
 (nat_lit 210,fO "first_unlike" 36 "stepgrove.orders" 434 209) ::
 (nat_lit 214,cO "table_behind" 462 144 2 3 211 true 212 .none .none .none (.ref 213) 465) ::
 (nat_lit 215,fO "table_behind" 38 "stepgrove.joins" 460 214) ::
 (nat_lit 219,cO "refuse_too_many_rows" 468 150 1 3 216 true 217 .none .none .none (.ref 218) 471) ::
 (nat_lit 220,fO "refuse_too_many_rows" 39 "stepgrove.joins" 460 219) ::
 (nat_lit 226,cO "_law_cell" 476 154 2 3 221 true 222 .none (.ref 223) (.ref 224) (.ref 225) 483) ::
 (nat_lit 227,fO "_law_cell" 41 "law_stepgrove_k48_orders_of_tables" 474 226) ::
 (nat_lit 233,cO "_law_frac" 486 163 2 3 228 true 229 .none (.ref 230) (.ref 231) (.ref 232) 493) ::
 (nat_lit 234,fO "_law_frac" 42 "law_stepgrove_k48_orders_of_tables" 474 233) ::
 (nat_lit 240,cO "_law_add" 496 171 2 3 235 true 236 .none (.ref 237) (.ref 238) (.ref 239) 501) ::
 (nat_lit 241,fO "_law_add" 43 "law_stepgrove_k48_orders_of_tables" 474 240) ::
 (nat_lit 247,cO "_law_mul" 504 173 2 3 242 true 243 .none (.ref 244) (.ref 245) (.ref 246) 509) ::
 (nat_lit 248,fO "_law_mul" 44 "law_stepgrove_k48_orders_of_tables" 474 247) ::
 (nat_lit 259,cO "_law_kept" 521 180 1 3 256 true 257 .none .none .none (.ref 258) 524) ::
 (nat_lit 260,fO "_law_kept" 46 "law_stepgrove_k48_orders_of_tables" 474 259) ::
 (nat_lit 264,cO "_law_longer" 527 182 1 3 261 true 262 .none .none .none (.ref 263) 530) ::
 (nat_lit 265,fO "_law_longer" 47 "law_stepgrove_k48_orders_of_tables" 474 264) ::
 (nat_lit 271,cO "_law_trees" 533 187 1 3 266 true 267 .none (.ref 268) (.ref 269) (.ref 270) 542) ::
 (nat_lit 272,fO "_law_trees" 48 "law_stepgrove_k48_orders_of_tables" 474 271) ::
 (nat_lit 276,cO "_law_knots" 545 197 1 3 273 true 274 .none .none .none (.ref 275) 548) ::
 (nat_lit 277,fO "_law_knots" 49 "law_stepgrove_k48_orders_of_tables" 474 276) ::
 (nat_lit 283,cO "_law_density" 551 199 1 3 278 true 279 .none (.ref 280) (.ref 281) (.ref 282) 557) ::
 (nat_lit 284,fO "_law_density" 50 "law_stepgrove_k48_orders_of_tables" 474 283) ::
 (nat_lit 290,cO "_law_entry" 560 204 1 3 285 true 286 .none (.ref 287) (.ref 288) (.ref 289) 564) ::
 (nat_lit 291,fO "_law_entry" 51 "law_stepgrove_k48_orders_of_tables" 474 290) ::
 (nat_lit 297,cO "_law_named" 567 206 1 3 292 true 293 .none (.ref 294) (.ref 295) (.ref 296) 571) ::
 (nat_lit 298,fO "_law_named" 52 "law_stepgrove_k48_orders_of_tables" 474 297) ::
 (nat_lit 304,cO "_law_table" 574 216 3 3 299 true 300 .none (.ref 301) (.ref 302) (.ref 303) 588) ::
 (nat_lit 305,fO "_law_table" 53 "law_stepgrove_k48_orders_of_tables" 474 304) ::
 (nat_lit 309,cO "_law_copied" 591 239 1 3 306 true 307 .none .none .none (.ref 308) 594) ::
 (nat_lit 310,fO "_law_copied" 54 "law_stepgrove_k48_orders_of_tables" 474 309) ::
 (nat_lit 314,cO "_law_flat" 597 241 1 3 311 true 312 .none .none .none (.ref 313) 600) ::
 (nat_lit 315,fO "_law_flat" 55 "law_stepgrove_k48_orders_of_tables" 474 314) ::
 (nat_lit 321,cO "_law_power" 603 247 2 3 316 true 317 .none (.ref 318) (.ref 319) (.ref 320) 610) ::
 (nat_lit 322,fO "_law_power" 56 "law_stepgrove_k48_orders_of_tables" 474 321) ::
 (nat_lit 328,cO "_law_read" 613 252 3 3 323 true 324 .none (.ref 325) (.ref 326) (.ref 327) 619) ::
 (nat_lit 329,fO "_law_read" 57 "law_stepgrove_k48_orders_of_tables" 474 328) ::
 (nat_lit 335,cO "_law_weight" 622 256 2 3 330 true 331 .none (.ref 332) (.ref 333) (.ref 334) 635) ::
 (nat_lit 336,fO "_law_weight" 58 "law_stepgrove_k48_orders_of_tables" 474 335) ::
 (nat_lit 342,cO "_law_due" 638 272 1 3 337 true 338 .none (.ref 339) (.ref 340) (.ref 341) 643) ::
 (nat_lit 343,fO "_law_due" 59 "law_stepgrove_k48_orders_of_tables" 474 342) ::
 (nat_lit 349,cO "_law_six" 646 277 0 3 344 true 345 .none (.ref 346) (.ref 347) (.ref 348) 650) ::
 (nat_lit 350,fO "_law_six" 60 "law_stepgrove_k48_orders_of_tables" 474 349) ::
 (nat_lit 356,cO "law" 653 282 1 3 351 true 352 .none (.ref 353) (.ref 354) (.ref 355) 664) ::
 (nat_lit 357,fO "law" 61 "law_stepgrove_k48_orders_of_tables" 474 356)::[]
abbrev qX:Program:=view Eg [1,2,3,4,6,7,8,9,10,11,12,14,15,16,17,19,20,21,22,23,24,26,27,29,30,31,32,34,35,36,38,39,41,42,43,44,45,46,47,48,49,50,51,52,53,54,55,56,57,58,59,60,61]
noncomputable abbrev hX:Hook:=kHook kH [nat_lit 2,nat_lit 3,nat_lit 15,nat_lit 22,nat_lit 23,nat_lit 24,nat_lit 25,nat_lit 28,nat_lit 35,nat_lit 36,nat_lit 37,nat_lit 40,nat_lit 47,nat_lit 48,nat_lit 49,nat_lit 52,nat_lit 59,nat_lit 60,nat_lit 61,nat_lit 69,nat_lit 70,nat_lit 76,nat_lit 77,nat_lit 83,nat_lit 84,nat_lit 90,nat_lit 91,nat_lit 97,nat_lit 98,nat_lit 104,nat_lit 105,nat_lit 111,nat_lit 112,nat_lit 118,nat_lit 119,nat_lit 125,nat_lit 126,nat_lit 132,nat_lit 133,nat_lit 139,nat_lit 140,nat_lit 146,nat_lit 147,nat_lit 151,nat_lit 152,nat_lit 158,nat_lit 159,nat_lit 165,nat_lit 166,nat_lit 170,nat_lit 171,nat_lit 175,nat_lit 176,nat_lit 180,nat_lit 181,nat_lit 185,nat_lit 186,nat_lit 190,nat_lit 191,nat_lit 195,nat_lit 196,nat_lit 202,nat_lit 203,nat_lit 209,nat_lit 210,nat_lit 214,nat_lit 215,nat_lit 219,nat_lit 220,nat_lit 226,nat_lit 227,nat_lit 233,nat_lit 234,nat_lit 240,nat_lit 241,nat_lit 247,nat_lit 248,nat_lit 259,nat_lit 260,nat_lit 264,nat_lit 265,nat_lit 271,nat_lit 272,nat_lit 276,nat_lit 277,nat_lit 283,nat_lit 284,nat_lit 290,nat_lit 291,nat_lit 297,nat_lit 298,nat_lit 304,nat_lit 305,nat_lit 309,nat_lit 310,nat_lit 314,nat_lit 315,nat_lit 321,nat_lit 322,nat_lit 328,nat_lit 329,nat_lit 335,nat_lit 336,nat_lit 342,nat_lit 343,nat_lit 349,nat_lit 350,nat_lit 356,nat_lit 357] (fun _=>by kernel_rfl)
noncomputable def dX:DefRec:=⟨Str.ofString "law",Fi (top 61),EJ (top 61),AQ (top 61),⟨282,0,298,69⟩⟩
def il:Bu.wellSaid=true:=(congrFun PySem.W.Fast.te9446332074065402090 _).trans (by kernel_rfl)
def ju(w:World)(os:OsState):topGo treeTable Eg w 11 Opn.Ht 12 ⟨boot_heap w.params,#[],boot_drawn,boot_toks,os⟩ (topStub Eg)=some (Opn.sA w os,⟨denote treeTable (Opn.cB Eg),Opn.cB Eg,Opn.q0,Opn.bB⟩):=by kernel_rfl
def jh(w:World)(os:OsState):segRun treeTable Eg w 11 Opn.Ht 1 1 (Opn.sA w os) (blockOf (behindTheImports Eg) (Opn.Nl Eg) (Opn.cB Eg) Opn.q0 Opn.bB)=some (.next,(Opn.sB w os).abs,Opn.cB Eg,Opn.q0):=by kernel_rfl
def j5(w:World)(s:SD):topRun treeTable Eg w 11 Opn.Ht 2 s (restOf [] (Opn.Nl Eg) (Opn.cB Eg) ⟨282,0,298,69⟩ Opn.bB)=some s:=by kernel_rfl
def jr(w:World)(os:OsState):Opn.VX Eg 2308 w os=some (.next,Opn.VH Eg 2308 w os,Opn.cB Eg,⟨282,0,298,69⟩):=by kernel_rfl
noncomputable abbrev sX(w:World)(os:OsState):SD:=(Opn.VH Eg 2308 w os).abs
def k8(w:World)(os:OsState):(staticsOk (importedModules Eg.main.body) (boot_heap w.params) (sX w os).heap&&namesBound Eg (sX w os).heap&&gensDone (sX w os)&&laidKept (boot_heap w.params) (sX w os).heap)=true:=by kernel_rfl
def i9(w:World)(os:OsState):hX.obs (sX w os)=hX.val w:=by kernel_rfl
noncomputable abbrev eO:SD→Bool:=fun s=>xlAt qX [] s&&recOk (RowW.records Bu.row.toRowW) s
def jF(w:World)(os:OsState):openSeen qX [] (importedModules Eg.main.body) eO true (sX w os)=openGood qX []:=by kernel_rfl
def i5(w:World):(fencedOpening treeTable Eg w 4740).map (fun s=>(s.heap,s.gens,s.drawn,s.toks))=some (boot_heap w.params,#[],boot_drawn,boot_toks):=boot_open (p:=Eg) (N:=4740) (by kernel_rfl) (by kernel_rfl) (fun _=>by kernel_rfl) w
def jK:LeftO Eg qX [] eO hX.obs hX.val 4740:=Opn.cT (M:=2323) (S:=sX) i5 Opn.jL (fun w os=>Opn.gc (ju w os) (jh w os) (jr w os) (j5 w) (by kernel_rfl)) (by kernel_rfl) k8 jF i9
def kW:defOf qX Bu.row.name=some (dX,[]):=by kernel_rfl
def kY:Eg.theDef Bu.row.name=some (dX.params,dX.body,dX.scope):=by kernel_rfl
def lE:kwWritten? dX.params.kwonlyargs dX.params.kw_defaults=some []:=by kernel_rfl
def j8:(chainsOk qX&&opensWell Bu.row.prog&&(frees Bu.row.toRowW&&Bu.row.within.isEmpty))=true:=by kernel_rfl
def iZ:Eg.bare:=⟨rfl,rfl,rfl,rfl,rfl,by decide +kernel⟩
def openX(hw:Bu.row.toRowW.promised)(hc:WalkO qX [] (XL qX []) hX.says Bu.row.toRowW dX [] (fun f vs=>PySem.call f vs)):Bu.Holds :=
 holds_law il fun said=>holds_open (r:=Bu.row) (q:=qX) (loose:=[]) (Xt:=eO) (XP:=XL qX []) (Yf:=hX.obs) (Ya:=hX.val) (YP:=hX.says) (d:=dX) (kwd:=[]) (N:=4740) jK hX.of hX.keeps (fun s e=>xl_of s (Bool.and_eq_true_iff.mp e).1) XL.keeps kW kY lE (fun s e=>recFacts_of (Bool.and_eq_true_iff.mp e).2) rfl said j8 iZ hw hc
end
section
open PySem.W
def fnX{w:World}{mg:Str→Option VL}{h:Heap}(X:(kH w.params).In h)(G:h.Ns mainGlobals mg)(n:String)(i:Nat)(m:String)(t c f:Nat)(ps:List Str)
 (ha:nsIn (kH w.params) mainGlobals (Str.ofString n)=some (some (.ref f)):=by kernel_rfl)(hl:(kH w.params).lookup f=some (fO n i m t c):=by kernel_rfl)(hc:codeIn (kH w.params) (.ref c) (Str.ofString n)=true:=by kernel_rfl)(hk:keepIn (kH w.params) (.ref f)=true:=by kernel_rfl)
 (hb:∀(kV doc pm:VL) (an:Option AD) (cdv ct:VL) (us:List VL),us.length=ps.length→bindArgs (fnOf (Str.ofString n) (Str.ofString n) (Fi (top i)) (EJ (top i)) (AQ (top i)) .none kV doc pm an cdv ct) ⟨us,[]⟩=pure (ps.zip us):=by first|(exact fun _ _ _ _ _ _ us hl=>match us,hl with|[_],_=>rfl)|(exact fun _ _ _ _ _ _ us hl=>match us,hl with|[_,_],_=>rfl)|(exact fun _ _ _ _ _ _ us hl=>match us,hl with|[_,_,_],_=>rfl)|(exact fun _ _ _ _ _ _ us hl=>match us,hl with|[_,_,_,_],_=>rfl)|(exact fun _ _ _ _ _ _ us hl=>match us,hl with|[_,_,_,_,_],_=>rfl)|(exact fun _ _ _ _ _ _ us hl=>match us,hl with|[],_=>rfl)) :
  Fn (kH w.params) mg (Str.ofString n) (top i) ps f (fnOf (Str.ofString n) (Str.ofString n) (Fi (top i)) (EJ (top i)) (AQ (top i)) .none .none .none (.str (Str.ofString m) t) none (.ref c) .none) :=
 ⟨XU hl hc hk,(XU (st:=top i) hl hc hk).binds hb,mg_of X G ha⟩
set_option maxHeartbeats 4000000 in
def kA(w:World)(mg:Str→Option VL)(fa:AD)(h:Heap)(X:(kH w.params).In h)(G:h.Ns mainGlobals mg)(hfa:mg "law" = some (.ref fa)) :
  ∃fd:FuncData,(∀(s:SD) (v:VL),BindsTo s fd ⟨[v],[]⟩ [("_law_script",v)])∧∀base:Heap,(kH w.params).In base→base.Ns mainGlobals mg→AM Bu.prog w (kH w.params) mg base Ab 23 fa fd ["_law_script"] (WE (kH w.params)):=by
 have e:=hfa.symm.trans (mg_of X G (v:=.ref 357) (by kernel_rfl));cases e;have F6:=fnX X G "fraction_of" 6 "stepgrove.fracs" 255 69 70 ["top", "bottom"];have F7:=fnX X G "is_fraction" 7 "stepgrove.fracs" 255 76 77 ["thing"];have CN:=fnX X G "are_fractions" 8 "stepgrove.fracs" 255 83 84 ["thing"];have Gi:=fnX X G "is_whole" 9 "stepgrove.fracs" 255 90 91 ["thing"];have BQ:=fnX X G "greatest_divisor" 10 "stepgrove.fracs" 255 97 98 ["one", "other"];have E9:=fnX X G "common_bottom" 11 "stepgrove.fracs" 255 104 105 ["bottoms"];have II:=fnX X G "power_of" 12 "stepgrove.fracs" 255 111 112 ["base", "power"];have IM:=fnX X G "is_table" 15 "stepgrove.tables" 319 118 119 ["thing"];have Bq:=fnX X G "refuse_no_table" 16 "stepgrove.tables" 319 125 126 ["thing"];have IH:=fnX X G "are_rows" 17 "stepgrove.tables" 319 132 133 ["thing"];have Ia:=fnX X G "trees_of" 20 "stepgrove.trees" 346 139 140 ["many"];have CJ:=fnX X G "in_falling_order" 21 "stepgrove.trees" 346 146 147 ["boughs"];have A2:=fnX X G "knots_within" 22 "stepgrove.trees" 346 151 152 ["tree"];have B1:=fnX X G "density_within" 23 "stepgrove.trees" 346 158 159 ["tree"];have Bk:=fnX X G "trees_one_larger" 24 "stepgrove.trees" 346 165 166 ["tree"];have HQ:=fnX X G "tops_over" 26 "stepgrove.wholes" 394 170 171 ["some", "bottom"];have Fd:=fnX X G "table_bottom" 27 "stepgrove.wholes" 394 175 176 ["table"];have FY:=fnX X G "true_weights" 29 "stepgrove.weights" 408 180 181 ["trees"];have FC:=fnX X G "weights_under" 30 "stepgrove.weights" 408 185 186 ["table", "trees"];have Dz:=fnX X G "readings" 31 "stepgrove.weights" 408 190 191 ["rows", "tree", "known"];have HZ:=fnX X G "read_by" 32 "stepgrove.weights" 408 195 196 ["row", "shares"];have DB:=fnX X G "table_order" 35 "stepgrove.orders" 434 202 203 ["table"];have Fe:=fnX X G "first_unlike" 36 "stepgrove.orders" 434 209 210 ["trees", "one", "other"];have FX:=fnX X G "table_behind" 38 "stepgrove.joins" 460 214 215 ["one", "other"];have Cu:=fnX X G "refuse_too_many_rows" 39 "stepgrove.joins" 460 219 220 ["tables"];have Cr:=fnX X G "_law_cell" 41 "law_stepgrove_k48_orders_of_tables" 474 226 227 ["_law_script", "_law_k"];have CM:=fnX X G "_law_frac" 42 "law_stepgrove_k48_orders_of_tables" 474 233 234 ["_law_top", "_law_bottom"];have IK:=fnX X G "_law_add" 43 "law_stepgrove_k48_orders_of_tables" 474 240 241 ["_law_one", "_law_other"];have IU:=fnX X G "_law_mul" 44 "law_stepgrove_k48_orders_of_tables" 474 247 248 ["_law_one", "_law_other"];have CL:=fnX X G "_law_kept" 46 "law_stepgrove_k48_orders_of_tables" 474 259 260 ["_law_tree"];have CY:=fnX X G "_law_longer" 47 "law_stepgrove_k48_orders_of_tables" 474 264 265 ["_law_tree"];have GS:=fnX X G "_law_trees" 48 "law_stepgrove_k48_orders_of_tables" 474 271 272 ["_law_most"];have Bm:=fnX X G "_law_knots" 49 "law_stepgrove_k48_orders_of_tables" 474 276 277 ["_law_tree"];have CG:=fnX X G "_law_density" 50 "law_stepgrove_k48_orders_of_tables" 474 283 284 ["_law_tree"];have EO:=fnX X G "_law_entry" 51 "law_stepgrove_k48_orders_of_tables" 474 290 291 ["_law_number"]
 have C5:=fnX X G "_law_named" 52 "law_stepgrove_k48_orders_of_tables" 474 297 298 ["_law_number"];have EU:=fnX X G "_law_table" 53 "law_stepgrove_k48_orders_of_tables" 474 304 305 ["_law_script", "_law_at", "_law_most"];have F4:=fnX X G "_law_copied" 54 "law_stepgrove_k48_orders_of_tables" 474 309 310 ["_law_table_here"];have DV:=fnX X G "_law_flat" 55 "law_stepgrove_k48_orders_of_tables" 474 314 315 ["_law_tree"];have GQ:=fnX X G "_law_power" 56 "law_stepgrove_k48_orders_of_tables" 474 321 322 ["_law_many", "_law_count"];have HU:=fnX X G "_law_read" 57 "law_stepgrove_k48_orders_of_tables" 474 328 329 ["_law_table_here", "_law_row", "_law_other"];have F5:=fnX X G "_law_weight" 58 "law_stepgrove_k48_orders_of_tables" 474 335 336 ["_law_table_here", "_law_tree"];have Gg:=fnX X G "_law_due" 59 "law_stepgrove_k48_orders_of_tables" 474 342 343 ["_law_table_here"];have IW:=fnX X G "_law_six" 60 "law_stepgrove_k48_orders_of_tables" 474 349 350 [];have i4:=fnX X G "law" 61 "law_stepgrove_k48_orders_of_tables" 474 356 357 ["_law_script"];have A9:mg "len" = none:=mg_none_of X G (by kernel_rfl);have BM:mg "range" = none:=mg_none_of X G (by kernel_rfl);have JT:mg "abs" = none:=mg_none_of X G (by kernel_rfl);have Aw:mg "isinstance" = none:=mg_none_of X G (by kernel_rfl);have Mc:mg "int" = none:=mg_none_of X G (by kernel_rfl);have KI:mg "bool" = none:=mg_none_of X G (by kernel_rfl);have CU:mg "tuple" = none:=mg_none_of X G (by kernel_rfl);have EW:mg "list" = none:=mg_none_of X G (by kernel_rfl);have EB:mg "enumerate" = none:=mg_none_of X G (by kernel_rfl);have Dj:mg "sum" = none:=mg_none_of X G (by kernel_rfl);have HS:mg "zip" = none:=mg_none_of X G (by kernel_rfl);have CS:mg "sorted" = none:=mg_none_of X G (by kernel_rfl);have Me:mg "set" = none:=mg_none_of X G (by kernel_rfl);have lB:mg "dict" = none:=mg_none_of X G (by kernel_rfl);have a_MR:nsIn (kH w.params) mainGlobals "MOST_ROWS" = some (some (.int 40 321)):=by kernel_rfl
 have a_MK:nsIn (kH w.params) mainGlobals "MOST_KNOTS" = some (some (.int 7 348)):=by kernel_rfl
 have a_MO:nsIn (kH w.params) mainGlobals "MOST_ORDER" = some (some (.int 6 436)):=by kernel_rfl
 have hK:RN (kH w.params)=true:=by kernel_rfl
 refine⟨fnOf (Str.ofString "law") (Str.ofString "law") (Fi (top 61)) (EJ (top 61)) (AQ (top 61)) .none .none .none (.str (Str.ofString "law_stepgrove_k48_orders_of_tables") 474) none (.ref 356) .none,fun s v=>.of_eq rfl,fun base _ _=>?_⟩;have Ep:=PySem.W.mg_of X G a_MR;have JA:=PySem.W.mg_of X G a_MK;have GU:=PySem.W.mg_of X G a_MO;have Y0:=Lm (P:=Bu.prog) (w:=w) (base:=base) BQ JT;have kf:=P4 F6 BQ Y0;have kF:=Mt E9 BQ Y0;have kd:=PN Fd E9 kF;have kX:=SQ (P:=Bu.prog) (w:=w) (base:=base) HQ;have kP:=UC (P:=Bu.prog) (w:=w) (base:=base) II;have jl:=Vz (P:=Bu.prog) (w:=w) (base:=base) HZ Dj HS;have kM:=Mw jc Dz HZ jl A9 HS 8;have jz:=jH (Jk (P:=Bu.prog) (w:=w) (base:=base) A2 Dj 8);have kZ:=N9 jc FC Fd HQ Dz II A2 F6 (kd.mono (by decide)) (kX.mono (by decide)) (kM.mono (by decide)) (kP.mono (by decide)) (jz.mono (by decide)) (kf.mono (by decide));have GZ:=kN kZ;have ji:=Tt (P:=Bu.prog) (w:=w) (base:=base) Gi Aw Mc KI;have iB:=Pl F7 Gi BQ ji Y0 Aw CU A9;have gk:=Nv CN F7 iB Aw EW;have km:=Tp IH CN gk Ep Aw EW A9 EB;have j6:=T1 IM IH CN km (gk.mono (by decide)) Aw CU A9;have K7:=lO (q:=Fy) j6 (fun l d v H Q E hd hq=>⟨l,d,v,rfl,hd,hq⟩);have B9:=Ls (P:=Bu.prog) (w:=w) (base:=base) (k:=5) Bq IM (K7.mono (by decide));have D8:=JQ (P:=Bu.prog) (w:=w) (base:=base) (k:=0) Cu A9 Dj Ep;have HA:=OI (P:=Bu.prog) (w:=w) (base:=base) (k:=6) FX Bq (B9.mono (by decide)) Cu (D8.mono (by decide)) EW;have BV:=Jg (P:=Bu.prog) (w:=w) (base:=base) (k:=0) A2 Dj 9;have Dg:=IA (P:=Bu.prog) (w:=w) (base:=base) (k:=10) B1 A2 (BV.mono (by decide)) 9;have Bz:=Ll (P:=Bu.prog) (w:=w) (base:=base) (k:=0) CJ CS CU;have Cv:=Gr (P:=Bu.prog) (w:=w) (base:=base) (k:=1) Bk CJ (Bz.mono (by decide)) EB 9;have K0:=UB (P:=Bu.prog) (w:=w) (base:=base) (k:=11) Ia Bk (Cv.mono (by decide)) BM Me CS JA;have HF:=PM (P:=Bu.prog) (w:=w) (base:=base) (k:=20) FY B1 (Dg.mono (by decide));have HM:=PQ (P:=Bu.prog) (w:=w) (base:=base) (k:=0) Fe HS;have Dp:=Pb (P:=Bu.prog) (w:=w) (base:=base) (k:=21) DB Fe (HM.mono (by decide)) Bq (B9.mono (by decide)) Ia (K0.mono (by decide)) FY (HF.mono (by decide)) FC (GZ.mono (by decide)) BM GU;have eS:=Sv (P:=Bu.prog) (w:=w) (base:=base) CM JT;have DY:=jq eS;have jo:=Q9 EO CM eS;have DZ:=SN (P:=Bu.prog) (w:=w) (base:=base) (k:=0) Cr A9;have Dh:=RF (P:=Bu.prog) (w:=w) (base:=base) (k:=0) C5;have FE:=YN (Q6 EU Cr EO C5 ((cQ DZ).mono (by decide)) (jo.mono (by decide)) ((YI Dh).mono (by decide)) BM A9);have Ct:=Lv (P:=Bu.prog) (w:=w) (base:=base) (k:=0) CL CS CU 9;have Ei:=KW (P:=Bu.prog) (w:=w) (base:=base) (k:=10) CY CL (Ct.mono (by decide)) A9 BM 9;have JH:=Q5 (P:=Bu.prog) (w:=w) (base:=base) (k:=20) GS CY (Ei.mono (by decide)) BM Me CS;have Bw:=Le (P:=Bu.prog) (w:=w) (base:=base) (k:=0) Bm Dj 9;have EN:=Jo (P:=Bu.prog) (w:=w) (base:=base) (k:=10) CG Bm (Bw.mono (by decide)) 9;have LK:=T8 (P:=Bu.prog) (w:=w) (base:=base) (k:=1) IK CM (DY.mono (by decide));have LM:=Tx (P:=Bu.prog) (w:=w) (base:=base) (k:=1) IU CM (DY.mono (by decide));have Fv:=MM (P:=Bu.prog) (w:=w) (base:=base) (k:=0) DV A9 9
 have JC:=RC (P:=Bu.prog) (w:=w) (base:=base) (k:=0) GQ BM;have Jz:=TL (P:=Bu.prog) (w:=w) (base:=base) (k:=0) HU;have Hu:=Pk (P:=Bu.prog) (w:=w) (base:=base) (k:=10) F5 IK (LK.mono (by decide)) DV (Fv.mono (by decide)) IU (LM.mono (by decide)) GQ (JC.mono (by decide)) HU (Jz.mono (by decide)) A9 BM;have IV:=T7 (P:=Bu.prog) (w:=w) (base:=base) (k:=21) Gg CG (EN.mono (by decide)) Bm (Bw.mono (by decide)) GS (JH.mono (by decide)) F5 (Hu.mono (by decide));have K8:=T3 (P:=Bu.prog) (w:=w) (base:=base) (k:=0) IW;have Hj:=Pu (P:=Bu.prog) (w:=w) (base:=base) (k:=0) F4 EW;have jJ:=fU (P:=Bu.prog) (w:=w) (base:=base) (k:=22) i4 Cr (DZ.mono (by decide)) F4 (Hj.mono (by decide)) Gg (IV.mono (by decide)) C5 (Dh.mono (by decide)) IW (K8.mono (by decide)) EU (FE.mono (by decide)) FX (HA.mono (by decide)) DB (Dp.mono (by decide)) KI Mc Aw A9 BM CU;exact eZ hK jJ
def walkX:WalkO qX [] (XL qX []) hX.says Bu.row.toRowW dX [] (fun f vs=>PySem.call f vs) :=
 L2.dP (l:=Bu) (n:=63) (k:=23) (x := "_law_script") (CX:=fun _=>Ab) (K:=kH) (sp:=fun w=>WE (kH w.params)) rfl (by decide) rfl ⟨rfl,by decide,by decide⟩ (fun w h Y=>kIn_of Y) kA (fun _ _ a ns hl _ hS=>⟨a,ns,rfl,hS,hl,fun _=>rfl⟩) fun _ _ _ _ _ z=>z
end
end Q48
open PySem PySem.W PyProof.Rows
set_option maxRecDepth 100000 in
theorem PySem.Challenge.cw_stepgrove_k48_orders_of_tables_holds : PySem.Challenge.rw_stepgrove_k48_orders_of_tables.Holds := by
  refine Q48.openX ?hw Q48.walkX
  w_witness2
#print axioms PySem.Challenge.cw_stepgrove_k48_orders_of_tables_holds
